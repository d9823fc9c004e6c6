import PyProof.Rows.All
import Wide.All
import OpenK.AllK
import Wide.FinOn
import KE.KExcInit
import KE.KExcIs
import HandS.ForMost
import HandS.Exc
import HandS.ExcInit
import HandS.Defaults
import HandS.IsInst
import HandS.Conv
import HandS.Small
import HandS.SortRule
import HandS.TupLe
import HandS.NamedTupSort
import PyProof.Rows.SortKeyStr
import PyProof.FString5
import HandS.StrMore
import HandS.Walk
import PyProof.Rows.StrLen
import PyProof.StrLawsAffix
import HandS.Set
import HandS.Strs
import HandS.SetBool
import KE.GoesMore
import HandS.TupAny
import HandS.TryMany
import HandS.ExcValue
import HandS.ExcOwn
import HandS.ExcField
import HandS.WordsExc
import KE.KeyNested
import KE.KDictKeyed
import HandS.Dict
import HandS.SetKeys
import HandS.TupLen
import HandS.ReplaceLit
import HandS.ReplaceDef
import HandS.Words
import HandS.ReplaceList
import HandS.TupMul
import HandS.Style
import HandS.DictComp
import HandS.More
import HandS.WordsDict
import HandS.ExcIs
import HandS.Lambda
import PyProof.StrOps2
import PyProof.StrLawsChain
import HandS.EndTab
import PySem.Challenge.RW_tornlines_k37_verdicts_by_hand
set_option Elab.async false
set_option linter.all false
set_option maxRecDepth 100000
set_option maxHeartbeats 4000000
/-! Own exception classes over any built-in base: made with positional or keyword arguments, kept as values, their fields read, asked by isinstance. -/
namespace EV
open PySem PySem.W PySem.Calls PyProof.Rows PySem.HandSPX
open Builtin Builtin.ObjectAttr
section
variable {prog : Program} {w : World} {A : Around} {E : Value → Shared → Prop} {R : Result → Shared → Prop}
variable {hp : Heap} {g : Array GenState} {d : Drawn} {t : Nat} {os : OsState}
/-- an exception's first field, whatever its base -/
theorem put_first {K : W.Frag} {nm : Str} {tk : Tok} {v : Value} {x C : Addr} {fv : Array Value} {cd : ClassData}
    (X : K.In hp) (hx : hp.get? x = some { cls := .ref C, data := .fields fv }) (hcd : W.clsIn K C = some cd)
    (pas : refuseLoop (.ref x) "__setattr__" cd.mro = pure ()) (hob : cd.mro.contains (.type "object") = true) (hne : cd.mro.isEmpty = false)
    (hh : cd.hasDict = true) (ha : W.findIn K (.ref C) nm = some none)
    (hq : ∀ h' tk' dx, (∀ b o, b ≠ x → hp.get? b = some o → h'.get? b = some o) → hp.objs.size ≤ dx → dx ≠ x →
      h'.get? x = some { cls := .ref C, dict := some dx, data := .fields fv } → h'.Ns1 dx (fun y => if y = nm then some v else none) →
      R (.ok (.ret .none)) ⟨h', g, d, tk', os⟩) :
    codeAny (model prog w) A (.call (.builtin "object.__setattr__") ⟨[.ref x, .str nm tk, v], []⟩) R ⟨hp, g, d, t, os⟩ := by
  have J : W.InstAt hp x { cls := .ref C, data := .fields fv } C none := ⟨hx, rfl, rfl, trivial⟩
  have hxs : x ≠ hp.objs.size := Nat.ne_of_lt (Heap.lt_size hx)
  have isO : W.Looks (model prog w) hp (isInstance (.ref x) (.type "object")) true :=
    J.type.andThen (W.looks_mroIn X (by unfold W.mroIn; rw [hcd, Option.bind_some, if_neg (by rw [hne]; decide), hob]))
  refine codeAny_call_builtin F.store_object.slot.plain F.store_object.entry
    (@W.check_slot (model prog w) _ _ ⟨hp, g, d, t, os⟩ "object.__setattr__" "object" "__setattr__" (.ref x) [.str nm tk, v] [] _
      F.store_object.kind F.store_object.split isO (F.store_object.args (.ref x) (.str nm tk) v) ?_)
  have order : W.Looks (model prog w) hp (mroOf (.ref C)) cd.mro := (W.looks_clsIn X hcd).andThen .now
  have taker : W.Looks (model prog w) hp (storeTaker? none) none := .now
  have data : W.Looks (model prog w) hp (classData C) cd := W.looks_clsIn X hcd
  rw [W.osa_eq, refuse_eq]
  refine wpAny_bind (wpAny_bind (J.type.at (wpAny_bind (order.at ?_))))
  rw [pas]
  refine wpAny_pure (wpAny_bind (J.type.at (wpAny_bind ((W.looks_findIn X ha).at (wpAny_bind (taker.at ?_))))))
  show wpAny _ _ (storeInOwnDict (.ref x) (.ref C) (.str nm tk) nm v false) _ _ _
  obtain ⟨q1, q2, q3, q4, q5, q6, q7, q8, q9, q10, q11⟩ := cd
  dsimp only at hh
  subst hh
  unfold storeInOwnDict ownDictForStores
  repeat (first
    | with_reducible refine store_in_new ?_ ?_
    | with_reducible refine wpAny_loadPart_at hx ?_
    | with_reducible refine data.at ?_
    | wp_step)
  · exact ⟨_, #[], _, (Heap.get?_update_ne _ _ _ _ hxs.symm).trans (Heap.get?_push_at rfl rfl), rfl, fun e he => absurd he (by simp), fun _ => rfl⟩
  · intro h' tk' nsd same
    have hx1 : (hp.push { cls := .type "dict", data := .dict #[] }).get? x = some { cls := .ref C, data := .fields fv } := Heap.get?_push_of_some _ hx
    refine hq h' tk' hp.objs.size (fun b o nb q => ?_) (Nat.le_refl _) hxs.symm ?_ nsd
    · exact (same.2 b (Nat.ne_of_lt (Heap.lt_size q))).trans
        ((Heap.get?_update_ne _ _ _ _ nb).trans (Heap.get?_push_of_some _ q))
    · exact (same.2 x hxs).trans (Heap.get?_update_self _ hx1 rfl)
/-- a further field -/
theorem put_more {K : W.Frag} {nm : Str} {tk : Tok} {v : Value} {x C dx : Addr} {fv : Array Value} {cd : ClassData} {m0 : Str → Option Value} {nl : List Str}
    (X : K.In hp) (hx : hp.get? x = some { cls := .ref C, dict := some dx, data := .fields fv }) (nsd : hp.Ns1 dx m0) (wi : Within m0 nl) (hz : nl.length ≤ 1000)
    (hcd : W.clsIn K C = some cd) (pas : refuseLoop (.ref x) "__setattr__" cd.mro = pure ()) (hob : cd.mro.contains (.type "object") = true)
    (hne : cd.mro.isEmpty = false) (hh : cd.hasDict = true) (ha : W.findIn K (.ref C) nm = some none)
    (hq : ∀ h' tk', (∀ b o, b ≠ dx → hp.get? b = some o → h'.get? b = some o) → h'.Ns1 dx (fun y => if y = nm then some v else m0 y) →
      R (.ok (.ret .none)) ⟨h', g, d, tk', os⟩) :
    codeAny (model prog w) A (.call (.builtin "object.__setattr__") ⟨[.ref x, .str nm tk, v], []⟩) R ⟨hp, g, d, t, os⟩ := by
  obtain ⟨oD, _, _, hoD, _, _⟩ := nsd.count wi
  have J : W.InstAt hp x { cls := .ref C, dict := some dx, data := .fields fv } C (some oD) := ⟨hx, rfl, rfl, hoD⟩
  have isO : W.Looks (model prog w) hp (isInstance (.ref x) (.type "object")) true :=
    J.type.andThen (W.looks_mroIn X (by unfold W.mroIn; rw [hcd, Option.bind_some, if_neg (by rw [hne]; decide), hob]))
  refine codeAny_call_builtin F.store_object.slot.plain F.store_object.entry
    (@W.check_slot (model prog w) _ _ ⟨hp, g, d, t, os⟩ "object.__setattr__" "object" "__setattr__" (.ref x) [.str nm tk, v] [] _
      F.store_object.kind F.store_object.split isO (F.store_object.args (.ref x) (.str nm tk) v) ?_)
  have order : W.Looks (model prog w) hp (mroOf (.ref C)) cd.mro := (W.looks_clsIn X hcd).andThen .now
  have taker : W.Looks (model prog w) hp (storeTaker? none) none := .now
  have data : W.Looks (model prog w) hp (classData C) cd := W.looks_clsIn X hcd
  rw [W.osa_eq, refuse_eq]
  refine wpAny_bind (wpAny_bind (J.type.at (wpAny_bind (order.at ?_))))
  rw [pas]
  refine wpAny_pure (wpAny_bind (J.type.at (wpAny_bind ((W.looks_findIn X ha).at (wpAny_bind (taker.at ?_))))))
  show wpAny _ _ (storeInOwnDict (.ref x) (.ref C) (.str nm tk) nm v false) _ _ _
  obtain ⟨q1, q2, q3, q4, q5, q6, q7, q8, q9, q10, q11⟩ := cd
  dsimp only at hh
  subst hh
  unfold storeInOwnDict ownDictForStores
  repeat (first
    | with_reducible refine OEX.store_in_old nsd wi hz ?_
    | with_reducible refine wpAny_loadPart_at hx ?_
    | with_reducible refine data.at ?_
    | wp_step)
  intro h' tk' ns' same
  exact hq h' tk' (fun b o nb q => (same.2 b nb).trans q) ns'
end
/-! ### an own exception class called with keywords -/
section
variable {M : Model} {A : Around} {E : Value → Shared → Prop} {h : Heap} {g : Array GenState} {d : Drawn} {t : Nat} {os : OsState}
variable {nm q : Str} {C N : Addr} {bs bm : List Value} {hd : Bool} {sn : List Str} {sub : List Value} {ab : Bool} {col : Option Bool} {dd : Option Addr}
variable {k0 k1 k2 k3 k5 : Option Value} {B newId initId : String}
theorem check_newK (F : ExcBaseFacts B newId initId bm) {rest : List Value} {kw : List (Str × Value)} {Q : Unit → Shared → Prop}
    (hC : h.get? C = some (excClassObj nm q C N bs bm hd sn sub ab col dd k0 k1 k2 k3 k5 newId)) (hq : Q () ⟨h, g, d, t, os⟩) :
    wpAny M A (checkBuiltinCall newId ⟨.ref C :: rest, kw⟩) Q E ⟨h, g, d, t, os⟩ := by
  have hasIt : (Value.ref C :: bm).contains (.type B) = true := by rw [List.contains_cons, F.hasB, Bool.or_true]
  have star := F.noStar
  simp only [checkBuiltinCall, F.newKind, F.newSplit, F.newRow]
  repeat (first
    | refine wpAny_loadPart_at hC ?_
    | (refine wpAny_isSubtype_exc hC ?_; rw [hasIt])
    | refine wpAny_staticBase_exc hC ?_
    | refine wpAny_madeBy_exc hC ?_
    | simp only [bne_self_eq_false, Bool.false_eq_true, if_false]
    | wp_step)
  exact hq
end
section
variable {prog : Program} {w : World} {A : Around} {E : Value → Shared → Prop} {R : Result → Shared → Prop}
variable {h : Heap} {g : Array GenState} {d : Drawn} {t : Nat} {os : OsState}
variable {nm q : Str} {C N : Addr} {bs bm : List Value} {hd : Bool} {sn : List Str} {sub : List Value} {ab : Bool} {col : Option Bool} {dd : Option Addr}
variable {k0 k1 k2 k3 k5 : Option Value} {B newId initId : String}
theorem newK (F : ExcBaseFacts B newId initId bm) {rest : List Value} {kw : List (Str × Value)}
    (hC : h.get? C = some (excClassObj nm q C N bs bm hd sn sub ab col dd k0 k1 k2 k3 k5 newId))
    (hq : R (.ok (.ret (.ref (h.objs.size + 1)))) ⟨(h.push (W.kdv_tup rest)).push (excO C h.objs.size), g, d, t, os⟩) (hrest : rest.length ≤ sizeLine) :
    codeAny (model prog w) A (.builtin newId ⟨.ref C :: rest, kw⟩) R ⟨h, g, d, t, os⟩ := by
  have ends := F.ends
  have b1 : (Value.ref C :: bm).contains (.type B) = true := by rw [List.contains_cons, F.hasB, Bool.or_true]
  have b2 : (Value.ref C :: bm).contains (.type "AttributeError") = false := by rw [List.contains_cons, F.noAttr]; rfl
  have b3 : (Value.ref C :: bm).contains (.type "NameError") = false := by rw [List.contains_cons, F.noName]; rfl
  refine codeAny_builtinAt F.entry ?_
  unfold Builtin.«BaseException.__new__»
  refine PySem.wpAt_bind ?_
  show PySem.wpAt _ _ _ (stack >>= _) _ _ _
  refine PySem.wpAt_bind (PySem.wpAt_stack fun p below => PySem.wpAt_of_wpAny ?_)
  wp_walk
  refine PySem.wpAt_of_wpAny ?_
  rw [F.owner]
  repeat (first
    | with_reducible refine wpAny_madeHere_exc F.canon hC ?_
    | with_reducible refine wpAny_loadPart_at hC ?_
    | (with_reducible refine wpAny_isSubtype_exc hC ?_; first | rw [b1] | rw [b2] | rw [b3])
    | wp_step)
  show R _ _
  rw [Heap.size_push]
  exact hq
theorem typeCallK (F : ExcBaseFacts B newId initId bm) {rest : List Value} {kw : List (Str × Value)} {fI : Addr} {Q : Fin → Shared → Prop}
    (hC : h.get? C = some (excClassObj nm q C N bs bm hd sn sub ab col dd k0 k1 k2 k3 k5 newId))
    (hi : W.Looks (model prog w) h (typeLookup (.ref C) "__init__") (some (.ref fI)))
    (hb : ∀ self, W.Looks (model prog w) h (bindSpecial (.ref fI) self) (.ref fI, [self])) (hrest : rest.length ≤ sizeLine)
    (hq : codeAny (model prog w) A (.call (.ref fI) ⟨.ref (h.objs.size + 1) :: rest, kw⟩)
      (fun r s' => match r with | .ok (.ret v) => v = .none ∧ Q (.done (.ret (.ref (h.objs.size + 1)))) s' | .ok _ => False | .error e => E e s')
      ⟨(h.push (W.kdv_tup rest)).push (excO C h.objs.size), g, d, t, os⟩) :
    wpAny (model prog w) A (Builtin.«type.__call__» ⟨.ref C :: rest, kw⟩) Q E ⟨h, g, d, t, os⟩ := by
  repeat (first
    | with_reducible refine wpAny_loadPart_at hC ?_
    | with_reducible refine wpAny_madeBy_exc hC ?_
    | wp_step)
  refine codeAny_call_builtin_code (Code.quiet_builtin _ F.quiet) (check_newK F hC ?_)
  refine newK F hC ?_ hrest
  show wpAny _ _ _ _ _ _
  have kp : ∀ b o, h.get? b = some o → ((h.push (W.kdv_tup rest)).push (excO C h.objs.size)).get? b = some o :=
    fun b o e => Heap.get?_push_of_some _ (Heap.get?_push_of_some _ e)
  have hC1 := kp _ _ hC
  have new : ((h.push (W.kdv_tup rest)).push (excO C h.objs.size)).get? (h.objs.size + 1) = some (excO C h.objs.size) := by heap_get
  have self : (Value.ref C :: bm).contains (.ref C) = true := by simp
  have i1 := hi.keeps kp
  have b1 := (hb (.ref (h.objs.size + 1))).keeps kp
  unfold isInstance
  repeat (first
    | with_reducible refine wpAny_loadPart_at new ?_
    | (with_reducible refine wpAny_isSubtype_exc hC1 ?_; rw [self])
    | wp_step)
  show wpAny _ _ (typeLookup (.ref C) _) _ _ _
  refine i1.at ?_
  refine wpAny_holding (wpAny_bind (b1.at ?_))
  refine wpAny_bind (wpAny_call (codeAny_mono hq fun r s' z => ?_))
  rcases r with e | (v | _ | _ | _) <;> first | exact z | exact z.elim | skip
  obtain ⟨rfl, z⟩ := z
  first
    | exact wpAny_pure (wpAny_pure z)
    | (wp_walk; exact z)
theorem callK (F : ExcBaseFacts B newId initId bm) {rest : List Value} {kw : List (Str × Value)} {fI : Addr}
    (hC : h.get? C = some (excClassObj nm q C N bs bm hd sn sub ab col dd k0 k1 k2 k3 k5 newId))
    (hi : W.Looks (model prog w) h (typeLookup (.ref C) "__init__") (some (.ref fI)))
    (hb : ∀ self, W.Looks (model prog w) h (bindSpecial (.ref fI) self) (.ref fI, [self])) (hrest : rest.length ≤ sizeLine)
    (hq : codeAny (model prog w) (A.under (.builtin "type.__call__" ⟨.ref C :: rest, kw⟩)) (.call (.ref fI) ⟨.ref (h.objs.size + 1) :: rest, kw⟩)
      (W.InitBack (h.objs.size + 1) R) ⟨(h.push (W.kdv_tup rest)).push (excO C h.objs.size), g, d, t, os⟩) :
    codeAny (model prog w) A (.call (.ref C) ⟨rest, kw⟩) R ⟨h, g, d, t, os⟩ := by
  have f1 := tc_lookup
  have f2 := tc_bind (.ref C)
  have ty : (⟨h, g, d, t, os⟩ : Shared).TypeIs (.ref C) "type" := ⟨_, hC, rfl⟩
  refine codeAny_of_tree ?_
  show wpAny _ _ (callAny (.ref C) _) _ _ _
  repeat (any_goals (first
    | assumption
    | with_reducible refine wpAny_loadPart_at hC ?_
    | wp_step))
  refine ⟨rfl, ?_⟩
  refine codeAny_call_builtin_at (Code.quiet_builtin _ (by decide +kernel)) entry_typeCall ?_
  refine wpAny_check_type_call_sub hC ?_
  refine typeCallK F hC hi hb hrest (codeAny_mono hq fun r s' z => ?_)
  rcases r with e | (v | _ | _ | _) <;> exact z
end
end EV

set_option Elab.async false
set_option linter.all false
set_option maxRecDepth 100000
set_option maxHeartbeats 4000000
namespace L2
namespace EV
open PySem PySem.Spec PyProof.Rows _root_.EV
/-- what the written part says of an own exception class at C, straight under the built-in base B -/
structure OxC (K : PySem.W.Frag) (C : Addr) (B newId initId : String) (bm : List Value) : Prop where
  F : ExcBaseFacts B newId initId bm
  cls : ∃ nm q N bs sn sub ab col dd k0 k1 k2 k3 k5, K.lookup C = some (excClassObj nm q C N bs bm true sn sub ab col dd k0 k1 k2 k3 k5 newId)
  pas : ∀ self, refuseLoop self "__setattr__" bm = pure ()
  obj : bm.contains (.type "object") = true
  sa : PySem.W.findIn K (.ref C) "__setattr__" = some (some (.builtin "object.__setattr__"))
  ga : PySem.W.findIn K (.ref C) "__getattribute__" = some (some (.builtin "BaseException.__getattribute__"))
  gg : PySem.W.findIn K (.ref C) "__getattr__" = some none
  exC : PySem.W.subIn K (.ref C) (.type "BaseException") = some true
  kC : PySem.W.keepIn K (.ref C) = true
  hd : PySem.W.hasDictIn K C = true
  ca : PySem.W.findIn K (.ref C) "__class__" = some (some (.builtin "object.__class__"))
  cn : PySem.W.specialIn K (.builtin "object.__class__") "__get__" = some (some (.builtin "getset_descriptor.__get__"))
  ct : PySem.W.takesIn K (.builtin "object.__class__") = some true
  om : PySem.W.mroIn K C (.type "object") = some true
section
variable {X : Cx} {pins : List (Addr × Obj)} {σ : St} {H : Hp} {s : Shared} {a C dx : Addr} {f : Str} {y : V} {u : Value} {fs : List (Str × V)}
variable {Q : Unit → Shared → Prop} {E : Value → Shared → Prop} {A : Around} {B newId initId : String} {bm : List Value}
theorem OxC.data {K : PySem.W.Frag} (T : OxC K C B newId initId bm) : ∃ cd, PySem.W.clsIn K C = some cd ∧ cd.mro = .ref C :: bm ∧ cd.hasDict = true := by
  obtain ⟨nm, q, N, bs, sn, sub, ab, col, dd, k0, k1, k2, k3, k5, hC⟩ := T.cls
  refine ⟨{ name := nm, bases := bs, mro := .ref C :: bm, ns := N, qualname := q, hasDict := true, slotNames := sn, subclasses := sub, abstract := ab, collection := col, hasDel := false }, ?_, rfl, rfl⟩
  unfold PySem.W.clsIn
  rw [hC] <;> rfl
theorem OxC.look {K : PySem.W.Frag} (T : OxC K C B newId initId bm) {cd : ClassData} (e : cd.mro = .ref C :: bm) (self : Value) :
    refuseLoop self "__setattr__" cd.mro = pure () ∧ cd.mro.contains (.type "object") = true ∧ cd.mro.isEmpty = false := by
  rw [e, refuseLoop_ref]
  refine ⟨T.pas self, ?_, rfl⟩
  rw [List.contains_cons, T.obj, Bool.or_true]
/-- self.f = y, the first field -/
theorem ox_first (T : OxC X.K C B newId initId bm) (I : Inv X pins σ H s) (e : H a = some (exo a C none)) (no : PySem.W.findIn X.K (.ref C) f = some none) (ry : RelV y u)
    (h : ∀ dx s', H dx = none → dx ≠ a → Inv X pins σ (upd (upd H dx (exd dx [(f, y)])) a (exo a C (some dx))) s' → Q () s') :
    wpAny (model X.prog X.w) A (setAttr (.ref a) f u) Q E s := by
  obtain ⟨cd, hcl, hmr, hdi⟩ := T.data
  obtain ⟨l1, l2, l3⟩ := T.look hmr (.ref a)
  obtain ⟨t1, ho⟩ := exo_at I.hok e
  obtain ⟨hp, g, d, t, os⟩ := s
  refine PySem.W.set_plain I.kIn (ox := { cls := .ref C, dict := none, data := .fields #[.ref t1, .none, .none, .none, .bool false, .none] })
    (od := none) ⟨ho, rfl, rfl, trivial⟩ T.sa ?_
  refine put_first I.kIn ho hcl l1 l2 l3 hdi no fun h' tk' dx k big ne hx hn => ?_
  have free : H dx = none := I.hok.fresh big
  have old : ∀ {b : Addr} {o : Obj}, hp.get? b = some o → b ≠ dx := fun {b o} q => Nat.ne_of_lt (Nat.lt_of_lt_of_le (Heap.lt_size q) big)
  have nota : ∀ {b : Addr}, H b = none → b ≠ a := fun {b} n z => by
    subst z
    rw [e] at n
    cases n
  have un : Un X.fs [] H (upd (upd H dx (exd dx [(f, y)])) a (exo a C (some dx))) hp h' := by
    refine ⟨fun b o q n _ _ => k b o (nota n) q, fun b o q n _ _ => ⟨o.slots, k b o (nota n) q⟩, fun b o q n _ => ?_, fun b o q _ => ?_, fun b xs q => ?_, fun b o v q => ?_, fun b ps q => ⟨#[], ?_⟩⟩
    · rw [upd_ne (nota n), upd_ne (old q)]
      exact n
    · by_cases hb : b = a
      · subst hb
        exact ⟨_, hx⟩
      · exact ⟨o, k b o hb q⟩
    · rw [upd_ne (at_ne e q exo_tup), upd_ne (ne_of_none q free)]
      exact q
    · rw [upd_ne (at_ne e q exo_frz), upd_ne (ne_of_none q free)]
      exact q
    · rw [upd_ne (at_ne e q exo_tbl), upd_ne (ne_of_none q free), q]
      simp
  refine h dx _ free ne (I.un (t' := tk') un fun b o q => ?_)
  by_cases hb : b = a
  · subst hb
    rw [upd_same] at q
    cases q
    exact exo_ok hx
  · rw [upd_ne hb] at q
    by_cases hd : b = dx
    · subst hd
      rw [upd_same] at q
      cases q
      exact exd_ok hn (relO_put (fs := []) ry fun g => True.intro)
    · rw [upd_ne hd] at q
      refine (I.hok b o q).stay (fun c v hc z => k c v ?_ z) (fun c hc => ?_) fun c xs hc => ?_
      · rcases hc with hc | hc
        · subst hc
          exact hb
        · exact at_ne e hc exo_own
      · rw [upd_ne (at_ne e hc exo_own), upd_ne (ne_of_none hc free)]
        exact hc
      · rw [upd_ne (at_ne e hc exo_tup), upd_ne (ne_of_none hc free)]
        exact hc
/-- self.f = y, a further field -/
theorem ox_more (T : OxC X.K C B newId initId bm) (I : Inv X pins σ H s) (e : H a = some (exo a C (some dx))) (ed : H dx = some (exd dx fs)) (hl : fs.length ≤ 900)
    (no : PySem.W.findIn X.K (.ref C) f = some none) (ry : RelV y u) (h : ∀ s', Inv X pins σ (upd H dx (exd dx ((f, y) :: fs))) s' → Q () s') :
    wpAny (model X.prog X.w) A (setAttr (.ref a) f u) Q E s := by
  obtain ⟨cd, hcl, hmr, hdi⟩ := T.data
  obtain ⟨l1, l2, l3⟩ := T.look hmr (.ref a)
  obtain ⟨t1, ho⟩ := exo_at I.hok e
  obtain ⟨mA, hns, rel⟩ := exd_at I.hok ed
  have hw := within_of rel
  obtain ⟨hp, g, d, t, os⟩ := s
  obtain ⟨oD, _, _, hoD, _, _⟩ := hns.count hw
  refine PySem.W.set_plain I.kIn (ox := { cls := .ref C, dict := some dx, data := .fields #[.ref t1, .none, .none, .none, .bool false, .none] })
    (od := some oD) ⟨ho, rfl, rfl, hoD⟩ T.sa ?_
  refine put_more I.kIn ho hns hw (by rw [List.length_map]; omega) hcl l1 l2 l3 hdi no fun h' tk' k hn => ?_
  have there : ∃ o, h'.get? dx = some o := by
    obtain ⟨o, _, _, e', _⟩ := hn
    exact ⟨o, e'⟩
  refine h _ (I.write (t' := tk') (x := dx) (e := dx) (o := exd dx ((f, y) :: fs)) ?_ (.inl rfl) k there (exd_ok hn (relO_put ry rel)))
  rw [ed]
  exact True.intro
/-- B.__init__(self, ..) of an exception without fields: nothing of it is told -/
theorem ox_init {us : List Value} {Q : Value → Shared → Prop} (T : OxC X.K C B newId initId bm) (I : Inv X pins σ H s) (e : H a = some (exo a C none)) (hl : us.length ≤ sizeLine)
    (h : ∀ s', Inv X pins σ H s' → Q .none s') : wpAny (model X.prog X.w) A (call (.builtin initId) (.ref a :: us)) Q E s := by
  obtain ⟨nm, q, N, bs, sn, sub, ab, col, dd, k0, k1, k2, k3, k5, hC⟩ := T.cls
  obtain ⟨t1, ho⟩ := exo_at I.hok e
  obtain ⟨hp, g, d, t, os⟩ := s
  refine wpAny_call (PySem.HandSPX.init_base T.F (fun _ => rfl) (I.kIn _ _ hC) ho hl fun h' t2 k hx => ?_)
  have J := I.write (t' := t) (x := a) (e := a) (o := exo a C none) (by rw [e]; exact True.intro) (.inl rfl) k ⟨_, hx⟩ (exo_ok hx)
  have eu : upd H a (exo a C none) = H := by
    funext b
    by_cases hb : b = a
    · subst hb
      rw [upd_same, e]
    · rw [upd_ne hb]
  rw [eu] at J
  exact h _ J
end
/-! ### the readings -/
def tBin (K : PySem.W.Frag) (B newId initId : String) (bm : List Value) (ta : TA) : TE := fun σ H Q => ta σ H fun vs H1 =>
  ∃ (a C : Addr) (ws : List V), vs = .ref a :: ws ∧ ws.length ≤ 1000 ∧ OxC K C B newId initId bm ∧ H1 a = some (exo a C none) ∧ Q .non H1
def tPut (K : PySem.W.Frag) (B newId initId : String) (bm : List Value) (f : Str) (to te : TE) : TS := fun D σ H => te σ H fun y H1 => to σ H1 fun x H2 =>
  ∃ a C : Addr, x = .ref a ∧ OxC K C B newId initId bm ∧ PySem.W.findIn K (.ref C) f = some none ∧
    ((H2 a = some (exo a C none) ∧ ∀ dx, H2 dx = none → dx ≠ a → D.nx σ (upd (upd H2 dx (exd dx [(f, y)])) a (exo a C (some dx)))) ∨
      ∃ (dx : Addr) (fs : List (Str × V)), H2 a = some (exo a C (some dx)) ∧ H2 dx = some (exd dx fs) ∧ fs.length ≤ 900 ∧ D.nx σ (upd H2 dx (exd dx ((f, y) :: fs))))
/-- C(..) as a value: gV puts the exception itself, the values by position and those by name in the parameters' order -/
def tNew (C : Addr) (n m : Nat) (sp : Sp) (gV : List V → List V → List V) (t tk : TA) : TE := fun σ H Q => t σ H fun vs H1 => tk σ H1 fun zs H2 =>
  vs.length = n ∧ zs.length = m ∧ vs.length ≤ 1000 ∧ ∀ a, H2 a = none → sp (gV (.ref a :: vs) zs) (upd H2 a (exo a C none)) (fun v H3 => v = .non ∧ Q (.ref a) H3) (fun _ _ _ => False)
/-- e.f, e such an exception -/
def tFld (K : PySem.W.Frag) (f : Str) (te : TE) : TE := fun σ H Q => te σ H fun x H1 =>
  ∃ (a C dx : Addr) (B newId initId : String) (bm : List Value) (fs : List (Str × V)) (v : V), x = .ref a ∧ OxC K C B newId initId bm ∧ PySem.W.findIn K (.ref C) f = some none ∧
    H1 a = some (exo a C (some dx)) ∧ H1 dx = some (exd dx fs) ∧ fs.lookup f = some v ∧ Q v H1
/-- isinstance(e, c) -/
def rIsX (K : PySem.W.Frag) : List V → Hp → VK → Prop := fun xs H Q => ∃ (a C : Addr) (od : Option Addr) (fs : List (Str × V)) (B newId initId : String) (bm : List Value) (c : V) (u : Value) (b : Bool),
  xs = [.ref a, c] ∧ ClsV c u ∧ OxC K C B newId initId bm ∧ H a = some (exo a C od) ∧ (∀ dx, od = some dx → H dx = some (exd dx fs)) ∧ PySem.W.kitOne K (.ref C) u = some b ∧ Q (.bl b) H
section
variable {X : Cx} {o e : Expr} {es : List Expr} {to te : TE} {ta : TA} {f : Str} {p p' p1 p2 pos : Pos} {B newId initId : String} {bm : List Value}
theorem pe_bin {nB : Str} {pl : Sem Bool} (hg : Gl X nB) (hm : X.mg nB = none) (hv : bootBuiltins nB = some (.type B)) (ty : typeOf (.type B) = pure (.type "type"))
    (vV : PySem.W.findCls X.K (.type B) (.type "type") "__init__" = some (.val (.builtin initId))) (q4 : Manifest.isStub B = false) (ha : PA X (e :: es) ta) (q3 : PySem.W.handedIn (.builtin initId) = true)
    (hn1 : nB ≠ "__name__" := by decide) (hn2 : (nB == ("__debug__" : Str)) = false := by decide)
    (hc : eval (.Call (.Attribute (.Name nB p1) "__init__" p2) (e :: es) [] pos) X.env = (do
      let ov ← eval (.Name nB p1) X.env
      standAt p2.atName
      let (f, first) ← holding [ov] (getMethod ov "__init__" pl)
      callWith pos f first (backTo pos (starEach (e :: es) X.env)) (backToKw pos (keywordEach [] X.env))) := by rfl)
    (he : starEach (e :: es) X.env = (false, eval e X.env) :: starEach es X.env := by rfl) (hpl : (backTo pos (starEach es X.env)).any (·.1) = false := by rfl) :
    PE X (.Call (.Attribute (.Name nB p1) "__init__" p2) (e :: es) [] pos) (tBin X.K B newId initId bm ta) := by
  refine ⟨fun pins s σ H Q I h => ?_⟩
  refine PySem.W.methodCall_KW (ld_blt I hg hm hv ?_ hn1 hn2) hc
  obtain ⟨m, fr⟩ := I.fr
  refine PySem.W.method_type fr I.ok.mod.kin ty q4 vV q3 ?_
  show wpAny _ _ (callWith pos (Value.builtin initId) [] (backTo pos (starEach (e :: es) X.env)) []) _ _ _
  refine PyProof.Rows.callWith_method1 (thn (ha.run pos pins _ σ H _ (I.tok _) h) fun us s1 ⟨vs, H1, I1, r1, a, C, ws, ev, hl, T, ea, q⟩ => ?_) he hpl
  subst ev
  cases r1 with
  | @cons _ u0 _ ur ra rr =>
    obtain rfl : u0 = Value.ref a := ra
    have len : ur.length ≤ sizeLine := by
      have e1 := Paired.length rr
      rw [← e1, sizeLine_eq]
      omega
    exact ox_init T I1 ea len fun s' J => ⟨.non, H1, J, rfl, q⟩
/-- self.f = e -/
theorem ps_put (ho : PE X o to) (he : PE X e te) (hs : swapsWith e (some (.Attribute o f p')) pos.line X.env = pure false := by rfl) :
    PS X (.Assign [.Attribute o f p'] e pos) (tPut X.K B newId initId bm f to te) := by
  refine ⟨fun pins s σ H D I h => ?_⟩
  refine plainObj_wpAny_Assign_Attribute (thn (he.run pins s σ H _ I h) fun v s1 ⟨y, H1, I1, r1, q1⟩ => ?_) hs
  refine thn (ho.run pins s1 σ H1 _ I1 q1) fun u s2 ⟨x, H2, I2, r2, a, C, ex, T, no, q⟩ => ?_
  subst ex
  obtain rfl : u = Value.ref a := r2
  rcases q with ⟨ea, q⟩ | ⟨dx, fs, ea, ed, hl, q⟩
  · exact ox_first T I2 ea no r1 fun dx s' n ne J => ⟨σ, _, J, q dx n ne⟩
  · exact ox_more T I2 ea ed hl no r1 fun s' J => ⟨σ, _, J, q⟩
/-- e.f -/
theorem pe_xfld (he : PE X e te) (hb : attributeBase e f X.env (eval e X.env) = eval e X.env := by rfl) : PE X (.Attribute e f pos) (tFld X.K f te) := by
  refine ⟨fun pins s σ H Q I h => ?_⟩
  refine attr_of hb (thn (he.run pins s σ H _ I h) fun u s1 ⟨x, H1, I1, rx, a, C, dx, B, newId, initId, bm, fs, v, ex, T, no, ea, ed, l, q⟩ => ?_)
  subst ex
  obtain rfl : u = Value.ref a := rx
  obtain ⟨t1, ho⟩ := exo_at I1.hok ea
  obtain ⟨mA, hns, hr⟩ := exd_at I1.hok ed
  obtain ⟨od, hod, hl⟩ := lookIn_ns hns
  obtain ⟨u, hu, ru⟩ := RelO.some_of (v := v) (o := mA f) (by rw [← l]; exact hr f)
  have J : PySem.W.InstAt s1.heap a { cls := .ref C, dict := some dx, data := .fields #[.ref t1, .none, .none, .none, .bool false, .none] } C (some od) := ⟨ho, rfl, rfl, hod⟩
  exact HandSPX.exc_get I1.kIn J T.ga T.gg T.exC (PySem.W.findObj_own T.hd no rfl (by rw [hl, hu])) (handed_of ru) ⟨v, H1, I1.tok _, ru, q⟩
theorem call_isX : CallR X (.builtin "isinstance") (rIsX X.K) := by
  intro pins s σ H xs us Q I r h
  obtain ⟨a, C, od, fs, B, newId, initId, bm, c, u, b, rfl, k, T, ea, ed, e, q⟩ := h
  obtain ⟨u1, u2, rfl, r1, r2⟩ := vals2 r
  have e2 := k.eq r2
  subst e2
  obtain rfl : u1 = Value.ref a := r1
  obtain ⟨t1, ho⟩ := exo_at I.hok ea
  obtain ⟨cd, hcl, _⟩ := T.data
  have some_ : (PySem.W.clsIn X.K C).isSome = true := by rw [hcl]; rfl
  have fin : ∀ tk, EP X pins σ Q (.bool b) { s with toks := tk } := fun tk => ⟨.bl b, H, I.tok tk, rfl, q⟩
  cases od with
  | none =>
    have J : PySem.W.InstAt s.heap a { cls := .ref C, dict := none, data := .fields #[.ref t1, .none, .none, .none, .bool false, .none] } C none := ⟨ho, rfl, rfl, trivial⟩
    exact PySem.W.kia_one (PySem.W.kitx_exc some_ T.ga T.gg T.exC T.ca T.cn T.ct T.om) I.kIn J e (fun z => nomatch z) fin
  | some dx =>
    obtain ⟨mA, hns, hr⟩ := exd_at I.hok (ed dx rfl)
    obtain ⟨o', hod, hl⟩ := lookIn_ns hns
    have J : PySem.W.InstAt s.heap a { cls := .ref C, dict := some dx, data := .fields #[.ref t1, .none, .none, .none, .bool false, .none] } C (some o') := ⟨ho, rfl, rfl, hod⟩
    exact PySem.W.kia_one (PySem.W.kitx_exc some_ T.ga T.gg T.exC T.ca T.cn T.ct T.om) I.kIn J e (fun z => nomatch z) fin
end
/-! ### making one, kept as a value -/
section
variable {X : Cx} {CX : CXT} {k n : Nat} {fI C : Addr} {fd : FuncData} {ps ks : List Str} {sp : Sp} {x : Str} {p pos : Pos} {e : Expr} {es : List Expr} {kws : List Keyword}
variable {t tk : TA} {g : List Value → List Value → List Value} {gV : List V → List V → List V} {B newId initId : String} {bm : List Value}
theorem run_new {pins : List (Addr × Obj)} {σ : St} {H : Hp} {s : Shared} {Q : VK} {us ws : List Value} {vs zs : List V} (T : OxC X.K C B newId initId bm)
    (iC : PySem.W.findIn X.K (.ref C) "__init__" = some (some (.ref fI))) (tI : PySem.W.typeIn X.K (.ref fI) = some (.type "function"))
    (F : FnOk X.prog X.w X.K X.mg X.base CX k fI fd ps sp) (hr : Room (k + 1) X.A) (hb : KBn X.K fd ps (n + 1) ks g gV) (hx : Passes CX X (fun _ _ _ => False))
    (I : Inv X pins σ H s) (r : Vals vs us) (rz : Vals zs ws) (l1 : vs.length = n) (l2 : zs.length = ks.length) (l3 : vs.length ≤ 1000)
    (h : ∀ a, H a = none → sp (gV (.ref a :: vs) zs) (upd H a (exo a C none)) (fun v H3 => v = .non ∧ Q (.ref a) H3) (fun _ _ _ => False)) :
    wpAny (model X.prog X.w) X.A (call (.ref C) us (ks.zip ws)) (EP X pins σ Q) X.xe s := by
  obtain ⟨nm, q, N, bs, sn, sub, ab, col, dd, k0, k1, k2, k3, k5, hC⟩ := T.cls
  obtain ⟨hp, g1, dr, tk, os⟩ := s
  have big : hp.objs.size ≤ hp.objs.size + 1 := Nat.le_succ _
  have free : H (hp.objs.size + 1) = none := I.hok.fresh big
  have hq := h (hp.objs.size + 1) free
  have kp : ∀ b o, hp.get? b = some o → ((hp.push (PySem.W.kdv_tup us)).push (PySem.HandSPX.excO C hp.objs.size)).get? b = some o := fun b o e =>
    Heap.get?_push_of_some _ (Heap.get?_push_of_some _ e)
  have new : ((hp.push (PySem.W.kdv_tup us)).push (PySem.HandSPX.excO C hp.objs.size)).get? (hp.objs.size + 1) = some (PySem.HandSPX.excO C hp.objs.size) := by heap_get
  have I2 : Inv X pins σ (upd H (hp.objs.size + 1) (exo (hp.objs.size + 1) C none))
      ⟨(hp.push (PySem.W.kdv_tup us)).push (PySem.HandSPX.excO C hp.objs.size), g1, dr, tk, os⟩ :=
    I.laid (t' := tk) (a := hp.objs.size + 1) (o := exo (hp.objs.size + 1) C none) (h' := (hp.push (PySem.W.kdv_tup us)).push (PySem.HandSPX.excO C hp.objs.size)) kp big (exo_ok new)
  have ra : Vals (V.ref (hp.objs.size + 1) :: vs) (Value.ref (hp.objs.size + 1) :: us) := .cons rfl r
  have lu : us.length ≤ sizeLine := by
    have e1 := Paired.length r
    rw [← e1, sizeLine_eq]
    omega
  have n1 : (Value.ref (hp.objs.size + 1) :: us).length = n + 1 := by
    rw [List.length_cons, ← r.length, l1]
  refine wpAny_call (EV.callK T.F (I.kIn _ _ hC) (PySem.W.looks_findIn I.kIn iC) (fun self => PySem.W.bind_fn I.kIn self tI) lu
    (codeAny_mono (F.run _ X.stack _ _ ⟨Value.ref (hp.objs.size + 1) :: us, ks.zip ws⟩ (g (Value.ref (hp.objs.size + 1) :: us) ws) _ _ (fun _ _ _ => False)
      (hr.make C us (ks.zip ws)) (I2.env0.make C us (ks.zip ws)) (hb.to _ _ ws I2.kIn n1 (rz.length.symm.trans l2)) (hb.rel ra rz) hq) fun r s' hq' => ?_))
  cases r with
  | error er => exact hx pins σ _ _ er s' I2 hq'
  | ok fl =>
    cases fl with
    | ret u =>
      obtain ⟨v, H3, I3, rv, ev, q3⟩ := I2.after hq'
      subst ev
      exact ⟨rv, ⟨V.ref (hp.objs.size + 1), H3, I3, rfl, q3⟩⟩
    | next => exact False.elim hq'
    | brk => exact False.elim hq'
    | cont => exact False.elim hq'
/-- C(e, ..) -/
theorem pe_new (T : OxC X.K C B newId initId bm) (iC : PySem.W.findIn X.K (.ref C) "__init__" = some (some (.ref fI))) (tI : PySem.W.typeIn X.K (.ref fI) = some (.type "function"))
    (F : FnOk X.prog X.w X.K X.mg X.base CX k fI fd ps sp) (hr : Room (k + 1) X.A) (hb : KBn X.K fd ps (n + 1) [] g gV) (hx : Passes CX X (fun _ _ _ => False))
    (hg : Gl X x) (hm : X.mg x = some (.ref C)) (ha : PA X (e :: es) t) (hdb : (x == ("__debug__" : Str)) = false := by decide)
    (he : starEach (e :: es) X.env = (false, eval e X.env) :: starEach es X.env := by rfl) (hpl : (backTo pos (starEach es X.env)).any (·.1) = false := by rfl) :
    PE X (.Call (.Name x p) (e :: es) [] pos) (tNew C n 0 sp gV t tNil) := by
  refine ⟨fun pins s σ H Q I h => ?_⟩
  refine wpAny_Call_Name_kw (ld_glob I hg hm ?_ hdb)
  refine PySem.W.callWith_K (h₀ := X.base) I.ok.mod.kin T.kC (thn (ha.run pos pins s σ H _ I h) fun us s1 ⟨vs, H1, I1, r1, q1⟩ => ⟨I1.kIn, ?_⟩) he hpl
  obtain ⟨l1, _, l3, q2⟩ := q1
  exact run_new (ws := []) (zs := []) T iC tI F hr hb hx I1 r1 .nil l1 rfl l3 q2
/-- C(k = v, ..) -/
theorem pe_newK (T : OxC X.K C B newId initId bm) (iC : PySem.W.findIn X.K (.ref C) "__init__" = some (some (.ref fI))) (tI : PySem.W.typeIn X.K (.ref fI) = some (.type "function"))
    (F : FnOk X.prog X.w X.K X.mg X.base CX k fI fd ps sp) (hr : Room (k + 1) X.A) (hb : KBn X.K fd ps 1 ks g gV) (hx : Passes CX X (fun _ _ _ => False))
    (hg : Gl X x) (hm : X.mg x = some (.ref C)) (hkw : PK X kws tk) (hall : (backToKw pos (keywordEach kws X.env)).all (·.1.isSome) = true := by rfl)
    (hks : (backToKw pos (keywordEach kws X.env)).filterMap (·.1) = ks := by rfl) (hdb : (x == ("__debug__" : Str)) = false := by decide)
    (hpl : ((backTo pos (starEach [] X.env)).any (·.1) || (backToKw pos (keywordEach kws X.env)).any (·.1.isNone)) = false := by rfl) :
    PE X (.Call (.Name x p) [] kws pos) (tNew C 0 ks.length sp gV tNil tk) := by
  refine ⟨fun pins s σ H Q I h => ?_⟩
  refine wpAny_Call_Name_kw (ld_glob I hg hm ?_ hdb)
  refine PySem.W.callWith_KW0 (h₀ := X.base) I.ok.mod.kin T.kC hall ?_ hpl
  refine thn (hkw.run pos pins s σ H _ I h) fun ws s2 ⟨zs, H2, I2, rz, l1, l2, l3, q2⟩ => ⟨I2.kIn, ?_⟩
  rw [hks]
  exact run_new (us := []) (vs := []) T iC tI F hr hb hx I2 .nil rz rfl l2 (by decide) q2
end
end EV
end L2

set_option Elab.async false
set_option linter.all false
set_option maxRecDepth 100000
set_option maxHeartbeats 4000000
/-! Tuples of an int, a text and an int: sorted, and <=. -/
namespace L2
open PySem PySem.Spec PyProof.Rows
abbrev T3 : Type := Int × Str × Int
abbrev sl (a : Str) : List Nat := a.cps.toList
theorem sl_inj {a b : Str} (h : sl a = sl b) : a = b := by
  cases a with
  | mk x =>
    cases b with
    | mk y =>
      have : x = y := Array.toList_inj.mp h
      rw [this]
/-- x is ahead of y -/
def lt3 (a b : T3) : Bool := if a.1 = b.1 then (if a.2.1 = b.2.1 then decide (a.2.2 < b.2.2) else decide (sl a.2.1 < sl b.2.1)) else decide (a.1 < b.1)
theorem lt3_iff {a b : T3} : lt3 a b = true ↔ a.1 < b.1 ∨ (a.1 = b.1 ∧ (sl a.2.1 < sl b.2.1 ∨ (a.2.1 = b.2.1 ∧ a.2.2 < b.2.2))) := by
  unfold lt3
  by_cases e1 : a.1 = b.1
  · rw [if_pos e1]
    by_cases e2 : a.2.1 = b.2.1
    · rw [if_pos e2, decide_eq_true_eq]
      refine ⟨fun h => .inr ⟨e1, .inr ⟨e2, h⟩⟩, ?_⟩
      rintro (h | ⟨_, h | ⟨_, h⟩⟩)
      · omega
      · rw [e2] at h
        exact absurd h (List.lt_irrefl _)
      · exact h
    · rw [if_neg e2, decide_eq_true_eq]
      refine ⟨fun h => .inr ⟨e1, .inl h⟩, ?_⟩
      rintro (h | ⟨_, h | ⟨h, _⟩⟩)
      · omega
      · exact h
      · exact absurd h e2
  · rw [if_neg e1, decide_eq_true_eq]
    refine ⟨fun h => .inl h, ?_⟩
    rintro (h | ⟨h, _⟩)
    · exact h
    · exact absurd h e1
theorem lt3_no {a b : T3} : lt3 a b = false ↔ ¬ (a.1 < b.1 ∨ (a.1 = b.1 ∧ (sl a.2.1 < sl b.2.1 ∨ (a.2.1 = b.2.1 ∧ a.2.2 < b.2.2)))) := by
  rw [← lt3_iff]
  cases lt3 a b <;> simp
theorem swo3 : SrtO.Swo lt3 := by
  refine ⟨fun x y h => ?_, fun x y z h1 h2 => ?_⟩
  · have a := lt3_iff.mp h
    refine lt3_no.mpr ?_
    rintro (h1 | ⟨h1, h2⟩)
    · rcases a with a | ⟨a, _⟩ <;> omega
    · rcases a with a | ⟨_, a⟩
      · omega
      · rcases h2 with h2 | ⟨h2, h3⟩
        · rcases a with a | ⟨a, _⟩
          · exact List.lt_asymm a h2
          · rw [a] at h2
            exact List.lt_irrefl _ h2
        · rcases a with a | ⟨_, a⟩
          · rw [h2] at a
            exact List.lt_irrefl _ a
          · omega
  · have a := lt3_no.mp h1
    have b := lt3_no.mp h2
    refine lt3_no.mpr ?_
    have a1 : ¬ y.1 < x.1 := fun q => a (.inl q)
    have b1 : ¬ z.1 < y.1 := fun q => b (.inl q)
    rintro (q | ⟨q1, q2⟩)
    · omega
    · have e1 : y.1 = x.1 := by omega
      have e2 : z.1 = y.1 := by omega
      have a2 : ¬ sl y.2.1 < sl x.2.1 := fun q => a (.inr ⟨e1, .inl q⟩)
      have b2 : ¬ sl z.2.1 < sl y.2.1 := fun q => b (.inr ⟨e2, .inl q⟩)
      have l1 : sl x.2.1 ≤ sl y.2.1 := List.not_lt.mp a2
      have l2 : sl y.2.1 ≤ sl z.2.1 := List.not_lt.mp b2
      rcases q2 with q2 | ⟨q2, q3⟩
      · exact absurd q2 (List.not_lt.mpr (List.le_trans l1 l2))
      · have e3 : sl y.2.1 = sl x.2.1 := by
          rw [q2] at l2
          exact List.le_antisymm l2 l1
        have e4 := sl_inj e3
        have a3 : ¬ y.2.2 < x.2.2 := fun q => a (.inr ⟨e1, .inr ⟨e4, q⟩⟩)
        have b3 : ¬ z.2.2 < y.2.2 := fun q => b (.inr ⟨e2, .inr ⟨q2.trans e4.symm, q⟩⟩)
        omega
theorem swo3k {α : Type} (k : α → T3) : SrtO.Swo fun v u : α => lt3 (k v) (k u) := ⟨fun x y => swo3.asym (k x) (k y), fun x y z => swo3.tr (k x) (k y) (k z)⟩
/-- v is a tuple of an int, a text and an int in the heap -/
def IsTrip (h : Heap) (v : Value) (x : T3) : Prop := ∃ a o t u r n, v = .ref a ∧ h.get? a = some o ∧ o.cls = .type "tuple" ∧ o.data = .seq #[.int x.1 t, .str x.2.1 u, .int x.2.2 r] n
theorem IsTrip.keeps {h h' : Heap} {v : Value} {x : T3} (p : IsTrip h v x) (k : ∀ b o, h.get? b = some o → o.cls = .type "tuple" → h'.get? b = some o) : IsTrip h' v x := by
  obtain ⟨a, o, t, u, r, n, e, ho, hc, hd⟩ := p
  exact ⟨a, o, t, u, r, n, e, k _ _ ho hc, hc, hd⟩
theorem firsts3 {h : Heap} : ∀ {vs : List Value}, (∀ v ∈ vs, ∃ x, IsTrip h v x) → ∃ fs : List Value, PySem.W.KatTups h vs fs ∧ fs.length = vs.length ∧ ∀ f ∈ fs, ∃ x t, f = Value.int x t
  | [], _ => ⟨[], PySem.W.KatTups.nil, rfl, fun _ hm => by simp at hm⟩
  | v :: vs, hp => by
    obtain ⟨fs, h1, h2, h3⟩ := firsts3 (vs := vs) fun v' hm => hp v' (List.mem_cons_of_mem _ hm)
    obtain ⟨x, a, o, t, u, r, n, e, ho, hc, hd⟩ := hp v (List.mem_cons_self ..)
    subst e
    refine ⟨.int x.1 t :: fs, PySem.W.KatTups.cons ho hc hd rfl h1, by rw [List.length_cons, List.length_cons, h2], fun f hm => ?_⟩
    rcases List.mem_cons.mp hm with rfl | hm
    · exact ⟨x.1, t, rfl⟩
    · exact h3 f hm
section
variable {prog : Program} {w : World} {A : Around} {E : Value → Shared → Prop} {s : Shared}
theorem trip_cmp {vs : List Value} {k : Value → T3} (hp : ∀ v ∈ vs, IsTrip s.heap v (k v)) : SrtO.Cmp prog w A s (tuples' true) (fun p => p.1 ∈ vs) (SrtO.lt2 fun v u => lt3 (k v) (k u)) := by
  intro p q hm hm'
  have h1 := hp _ hm
  have h2 := hp _ hm'
  show wpAny (model prog w) A (keyLt' (tuples' true) p.1 q.1) (fun r s' => s' = s ∧ r = lt3 (k p.1) (k q.1)) (fun _ _ => False) s
  generalize k p.1 = x at h1 ⊢
  generalize k q.1 = y at h2 ⊢
  obtain ⟨x1, x2, x3⟩ := x
  obtain ⟨y1, y2, y3⟩ := y
  obtain ⟨a, o, t, u, r, n, e, ho, hc, hd⟩ := h1
  obtain ⟨a', o', t', u', r', n', e', ho', hc', hd'⟩ := h2
  rw [e, e']
  unfold lt3
  refine PySem.W.kat_lt ho hd ho' hd' ?_
  show PySem.W.KatLex prog w A true (decide (3 < 3)) _ [(.int x1 t, .int y1 t'), (.str x2 u, .str y2 u'), (.int x3 r, .int y3 r')] 0 s
  refine PySem.W.kat_cons (SeqAt.EqAt.int_int x1 t y1 t' prog w _ _ ?_)
  refine PySem.W.kat_go (fun e1 => ?_) (fun e1 => ?_)
  · have ex : x1 = y1 := by simpa using e1
    subst ex
    refine PySem.W.kat_yes (PySem.W.kat_cons (SeqAt.EqAt.str_str x2 u y2 u' prog w _ _ ?_))
    refine PySem.W.kat_go (fun e2 => ?_) (fun e2 => ?_)
    · have ey : x2 = y2 := by simpa using e2
      subst ey
      refine PySem.W.kat_yes (PySem.W.kat_cons (SeqAt.EqAt.int_int x3 r y3 r' prog w _ _ ?_))
      refine PySem.W.kat_go (fun e3 => ?_) (fun e3 => ?_)
      · have ez : x3 = y3 := by simpa using e3
        subst ez
        refine PySem.W.kat_yes (PySem.W.kat_nil ⟨rfl, ?_⟩)
        simp
      · refine PySem.W.kat_no (PySem.W.kat_one _ _ (PyProof.Rows.lt_int ?_))
        refine (show s = s ∧ _ from ⟨rfl, ?_⟩)
        simp
    · have ey : ¬ x2 = y2 := by simpa using e2
      refine PySem.W.kat_no (PySem.W.kat_one _ _ (PyProof.Rows.lt_str ?_))
      refine (show s = s ∧ _ from ⟨rfl, ?_⟩)
      simp [ey]
  · have ex : ¬ x1 = y1 := by simpa using e1
    refine PySem.W.kat_no (oneLt_int ⟨rfl, ?_⟩)
    simp [ex]
theorem trips_sortable {a : Addr} {vs : List Value} {k : Value → T3} (h0 : 0 < vs.length) (hp : ∀ v ∈ vs, IsTrip s.heap v (k v)) (ha : ∀ o, s.heap.get? a = some o → o.cls ≠ .type "tuple") : SrtO.SortableO prog w A s a vs fun v u => lt3 (k v) (k u) := by
  intro h' keep
  have hp' : ∀ v ∈ vs, IsTrip h' v (k v) := fun v hm => (hp v hm).keeps fun b o e c => keep b o (fun z => by subst z; exact ha o e c) e
  obtain ⟨fs, h1, h2, h3⟩ := firsts3 fun v hm => ⟨_, hp' v hm⟩
  refine ⟨tuples' true, fun Q E hq => ?_, trip_cmp hp'⟩
  refine PySem.W.kat_kind (T := .type "int") h1 (by omega) (fun f hm => ?_) (by rfl) ?_
  · obtain ⟨x, t, rfl⟩ := h3 f hm
    exact PySem.W.Looks.now
  · have e : (Value.type "int" != Value.type "tuple") = true := by first | decide +kernel | rfl | decide
    rw [e]
    exact hq
theorem sorted_trips {l : Addr} {vs : List Value} {k : Value → T3} {Q : Value → Shared → Prop} (hl : s.heap.IsList l vs.toArray) (hz : vs.length ≤ sizeLine) (hp : ∀ v ∈ vs, IsTrip s.heap v (k v))
    (h : ∀ (h' : Heap) (d : Addr) (out : List Value), SrtO.Srtd (fun v u => lt3 (k v) (k u)) out → SrtO.Stb (fun v u => lt3 (k v) (k u)) out vs → (∀ b o, s.heap.get? b = some o → h'.get? b = some o) → s.heap.objs.size ≤ d → (∃ n, h'.get? d = some (seqObj "list" out.toArray n)) → Q (.ref d) { s with heap := h' }) :
    wpAny (model prog w) A (call (.builtin "sorted") [.ref l]) Q E s := by
  refine SrtO.sorted_ord (swo3k k) hl hz (fun h2 h₁ a ha kk => ?_) fun out hs hb => ?_
  · refine trips_sortable (s := { s with heap := h₁ }) (by omega) (fun v hm => (hp v hm).keeps fun b o e _ => (kk b o e).2) fun o e => ?_
    have e' : some o = some (seqObj "list" vs.toArray 0) := e.symm.trans ha
    cases e'
    intro c
    exact absurd (Value.type.inj c) (by decide)
  · exact h _ _ out hs hb (fun b o e => sortedAll_old e) (Nat.le_succ _) (sortedAll_at s.heap vs out.toArray)
end
/-- sorted(xs), xs a list of such tuples (k says which): a new list of the same ones -/
def rSorted3 (K : PySem.W.Frag) : List V → Hp → VK → Prop := fun vs H Q => ∃ (a : Addr) (xs : List V) (k : V → T3), vs = [V.ref a] ∧ SqL K H a xs ∧ (∀ x ∈ xs, ∃ t, x = V.ref t ∧ H t = some (.tup [.int (k x).1, .str (k x).2.1, .int (k x).2.2])) ∧
  ∀ ys p, SrtO.Srtd (fun x y => lt3 (k x) (k y)) ys → ys.Perm xs → H p = none → Q (.ref p) (upd H p (.lst ys))
theorem vals_3 {x y z : V} {us : List Value} (r : Vals [x, y, z] us) : ∃ u w' t', us = [u, w', t'] ∧ RelV x u ∧ RelV y w' ∧ RelV z t' := by
  cases r with
  | cons r1 r2 =>
    obtain ⟨u, w', rfl, r3, r4⟩ := vals2 r2
    exact ⟨_, u, w', rfl, r1, r3, r4⟩
section
variable {X : Cx}
theorem cr_sorted3 : CallR X (.builtin "sorted") (rSorted3 X.K) := by
  intro pins s σ H vs us Q I r h
  obtain ⟨a, xs, k, rfl, hs, hx, q⟩ := h
  obtain ⟨its, rv, hl, hz⟩ := I.list hs
  obtain ⟨u, rfl, ru⟩ := vals1 r
  obtain rfl : u = Value.ref a := ru
  obtain ⟨e1, e2⟩ := refs_back rv fun x m => by
    obtain ⟨t, e, _⟩ := hx x m
    exact ⟨t, e⟩
  refine sorted_trips (k := fun u => k (backV u)) hl.isList (by rw [← rv.length]; exact hz) (fun v hv => ?_) fun h' d out h1 h2 kp hd hn => ?_
  · obtain ⟨t, rfl⟩ := e2 v hv
    have hm : V.ref t ∈ xs := by rw [e1]; exact List.mem_map.mpr ⟨_, hv, rfl⟩
    obtain ⟨t', e, ht⟩ := hx _ hm
    cases e
    obtain ⟨_, its2, r2, o, ho, hc, n, hd⟩ := I.hok _ _ ht
    obtain ⟨u1, u2, u3, rfl, ri, rj, rk⟩ := vals_3 r2
    obtain ⟨t1, rfl⟩ := ri
    obtain ⟨t2, rfl⟩ := rj
    obtain ⟨t3, rfl⟩ := rk
    exact ⟨t, o, t1, t2, t3, n, rfl, ho, hc, hd⟩
  · have h3 : ∀ u ∈ out, ∃ a, u = Value.ref a := fun u hu => e2 u (h2.perm.mem_iff.mp hu)
    obtain ⟨n, hn⟩ := hn
    have hb : SrtO.Stb (fun x y => lt3 (k x) (k y)) (out.map backV) xs := by
      rw [e1]
      exact SrtO.Stb.map (swo3k k) backV h2
    refine ⟨.ref d, upd H d (.lst (out.map backV)), I.laid (t' := s.toks) kp hd ⟨?_, out, n, vals_back h3, hn⟩, rfl, q _ d (SrtO.srtd_map h1) hb.perm (I.hok.fresh hd)⟩
    rw [hb.len]
    exact hz
/-- x <= y of two such tuples -/
def rLe3 : R2 := fun x y H Q => ∃ (a b : Addr) (m n : T3), x = .ref a ∧ y = .ref b ∧ H a = some (.tup [.int m.1, .str m.2.1, .int m.2.2]) ∧ H b = some (.tup [.int n.1, .str n.2.1, .int n.2.2]) ∧ Q (.bl (!lt3 n m)) H
theorem le_lex (m n : T3) : Ob.lexAt (fun j => if j = 0 then m.1 == n.1 else if j = 1 then m.2.1 == n.2.1 else m.2.2 == n.2.2)
    (fun j => if j = 0 then decide (m.1 ≤ n.1) else if j = 1 then decide (sl m.2.1 ≤ sl n.2.1) else decide (m.2.2 ≤ n.2.2)) true 0 3 = !lt3 n m := by
  obtain ⟨m1, m2, m3⟩ := m
  obtain ⟨n1, n2, n3⟩ := n
  simp only [Ob.lexAt, lt3]
  by_cases e1 : m1 = n1
  · subst e1
    by_cases e2 : m2 = n2
    · subst e2
      by_cases e3 : m3 = n3
      · subst e3
        simp
      · simp only [beq_self_eq_true, if_true, Nat.zero_add, Nat.one_ne_zero, if_false, Nat.reduceAdd, Nat.reduceEqDiff, beq_iff_eq, e3]
        by_cases z : m3 ≤ n3
        · rw [decide_eq_true z, decide_eq_false (by omega)]
          rfl
        · rw [decide_eq_false z, decide_eq_true (by omega)]
          rfl
    · have e2' : ¬ n2 = m2 := fun z => e2 z.symm
      simp only [beq_self_eq_true, if_true, Nat.zero_add, Nat.one_ne_zero, if_false, beq_iff_eq, e2, e2']
      by_cases z : sl m2 ≤ sl n2
      · rw [decide_eq_true z, decide_eq_false (List.not_lt.mpr z)]
        rfl
      · rw [decide_eq_false z, decide_eq_true (List.not_le.mp z)]
        rfl
  · have e1' : ¬ n1 = m1 := fun z => e1 z.symm
    simp only [if_true, beq_iff_eq, e1, e1', if_false]
    by_cases z : m1 ≤ n1
    · rw [decide_eq_true z, decide_eq_false (by omega)]
      rfl
    · rw [decide_eq_false z, decide_eq_true (by omega)]
      rfl
theorem RcOp.le_str {A : Around} {s : Shared} (a b : Str) (t u : Tok) : Ob.RcOp .LtE A s (.str a t) (.str b u) (decide (sl a ≤ sl b)) := fun _ _ _ _ h => PySem.P.le_str (by
  have e : (!decide (b.cps.toList < a.cps.toList)) = decide (sl a ≤ sl b) := by
    by_cases z : sl a ≤ sl b
    · rw [decide_eq_true z, decide_eq_false (List.not_lt.mpr z)]
      rfl
    · rw [decide_eq_false z, decide_eq_true (List.not_le.mp z)]
      rfl
  rw [e]
  exact h)
theorem op_le3 (hu : X.A.units < cLine) : OpR X (compareOp .LtE) rLe3 := by
  intro pins s σ H x y v u Q I rx ry h
  obtain ⟨a, b, m, n, rfl, rfl, ha, hb, q⟩ := h
  cases rx
  cases ry
  obtain ⟨its, r1, p1, _⟩ := I.tuple (SqT.of ha)
  obtain ⟨its2, r2, p2, _⟩ := I.tuple (SqT.of hb)
  obtain ⟨u1, u2, u3, rfl, ⟨t1, rfl⟩, ⟨t2, rfl⟩, ⟨t3, rfl⟩⟩ := vals_3 r1
  obtain ⟨v1, v2, v3, rfl, ⟨w1, rfl⟩, ⟨w2, rfl⟩, ⟨w3, rfl⟩⟩ := vals_3 r2
  have R := Ob.RcOp.tuples_le (A := X.A) (s := s) (e := fun j => if j = 0 then m.1 == n.1 else if j = 1 then m.2.1 == n.2.1 else m.2.2 == n.2.2)
    (r := fun j => if j = 0 then decide (m.1 ≤ n.1) else if j = 1 then decide (sl m.2.1 ≤ sl n.2.1) else decide (m.2.2 ≤ n.2.2)) p1 p2 hu (fun j h1 h2 => by
    match j, h1 with
    | 0, _ => exact SeqAt.EqAt.int_int _ _ _ _
    | 1, _ => exact SeqAt.EqAt.str_str _ _ _ _
    | 2, _ => exact SeqAt.EqAt.int_int _ _ _ _) (fun j h1 h2 _ => by
    match j, h1 with
    | 0, _ => exact Ob.RcOp.le_int _ _ _ _
    | 1, _ => exact RcOp.le_str _ _ _ _
    | 2, _ => exact Ob.RcOp.le_int _ _ _ _)
  have e3 : Ob.lexAt (fun j => if j = 0 then m.1 == n.1 else if j = 1 then m.2.1 == n.2.1 else m.2.2 == n.2.2)
    (fun j => if j = 0 then decide (m.1 ≤ n.1) else if j = 1 then decide (sl m.2.1 ≤ sl n.2.1) else decide (m.2.2 ≤ n.2.2)) (decide (3 ≤ 3)) 0 (min 3 3) = !lt3 n m := le_lex m n
  have z : wpAny (model X.prog X.w) X.A (compareOp .LtE (.ref a) (.ref b)) (EP X pins σ Q) X.xe s := R X.prog X.w X.xe (EP X pins σ Q) ⟨.bl _, H, I, rfl, by
    rw [← e3] at q
    exact q⟩
  exact z
end
end L2

set_option Elab.async false
set_option linter.all false
set_option maxRecDepth 100000
set_option maxHeartbeats 4000000
/-! The law's draws. -/
namespace K37
open PySem L2 L2.EV
def top (i : Nat) : Stmt := PySem.Challenge.pw_tornlines_k37_verdicts_by_hand.main.body.getD i (.Pass ⟨0, 0, 0, 0⟩)
abbrev sBegun : Stmt := top 42
abbrev sNext : Stmt := top 43
/-! ### data of ints -/
theorem canLay_ints : ∀ ns : List Int, PyData.canLayAll0 (ns.map PyData.int) = true
  | [] => by simp [PyData.canLayAll0]
  | n :: ns => by simp [PyData.canLayAll0, PyData.canLay0, canLay_ints ns]
theorem depth_ints : ∀ ns : List Int, PyData.depthAll (ns.map PyData.int) = 0
  | [] => by simp [PyData.depthAll]
  | n :: ns => by simp [PyData.depthAll, PyData.depth, depth_ints ns]
theorem shaped_ints (ns : List Int) : SeqAt.shaped (.list (ns.map PyData.int)) = true := by
  show (PyData.canLay0 (.list (ns.map PyData.int)) && decide (PyData.depth (.list (ns.map PyData.int)) ≤ 64)) = true
  rw [Bool.and_eq_true]
  refine ⟨by simp only [PyData.canLay0]; exact canLay_ints ns, decide_eq_true ?_⟩
  simp only [PyData.depth, depth_ints]
  omega
theorem dp_ints {K : PySem.W.Frag} {H : Hp} : ∀ ns : List Int, DpAll K H (ns.map V.int) (ns.map PyData.int)
  | [] => .nil
  | n :: ns => .cons (.int n) (dp_ints ns)
theorem dp_list {K : PySem.W.Frag} {H : Hp} {a : Addr} {ns : List Int} (h : H a = some (.lst (ns.map V.int))) : Dp K H (.ref a) (.list (ns.map PyData.int)) := .lst (SqL.of h) (dp_ints ns)
theorem eqv_nil (ns : List Int) : PyData.eqv (.list (ns.map PyData.int)) (.list []) = ns.isEmpty := by
  cases ns <;> simp [PyData.eqv, PyData.eqvAll]
/-! ### the draws' dict -/
def mkv (c l : Addr) (k : Int) : List (Key × V) := [(Sum.inr "cells", .ref c), (Sum.inr "left", .ref l), (Sum.inr "at", .int k)]
theorem n1 : ¬ (("cells" : Str) = "left") := by decide +kernel
theorem n2 : ¬ (("cells" : Str) = "at") := by decide +kernel
theorem n3 : ¬ (("left" : Str) = "at") := by decide +kernel
theorem n1' : ¬ (("left" : Str) = "cells") := by decide +kernel
theorem n2' : ¬ (("at" : Str) = "cells") := by decide +kernel
theorem n3' : ¬ (("at" : Str) = "left") := by decide +kernel
theorem k1 {a b : Str} (h : ¬ a = b) : ¬ ((Sum.inr a : Key) = Sum.inr b) := fun z => h (Sum.inr.inj z)
theorem v_cells (c l : Addr) (k : Int) : valV (mkv c l k) (Sum.inr "cells" : Key) = some (.ref c) := by simp [valV, mkv, List.find?_cons]
theorem v_left (c l : Addr) (k : Int) : valV (mkv c l k) (Sum.inr "left" : Key) = some (.ref l) := by simp [valV, mkv, List.find?_cons, n1]
theorem v_at (c l : Addr) (k : Int) : valV (mkv c l k) (Sum.inr "at" : Key) = some (.int k) := by simp [valV, mkv, List.find?_cons, n2, n3]
theorem p_left (c l l' : Addr) (k : Int) : putK (mkv c l k) (Sum.inr "left" : Key) (.ref l') = mkv c l' k := by simp [putK, mkv, n1, n3']
theorem p_at (c l : Addr) (k k' : Int) : putK (mkv c l k) (Sum.inr "at" : Key) (.int k') = mkv c l k' := by simp [putK, mkv, n2, n3]
theorem mk_merge (c l : Addr) (k : Int) : mergeK [] (mkv c l k) = mkv c l k := by simp [mergeK, putK, mkv, n1, n2, n3]
structure MAt (H : Hp) (m c l : Addr) (k : Int) : Prop where
  hm : H m = some (.dK (mkv c l k))
  hc : ∃ cs : List Int, H c = some (.lst (cs.map V.int)) ∧ cs.length ≤ 1000
  hl : ∃ ls : List Int, H l = some (.lst (ls.map V.int)) ∧ ls.length ≤ 1000
  ne : c ≠ l
  k0 : 0 ≤ k
  k1 : k ≤ 1000000
/-- a drawn number from 0 to n - 1; only the dict and its list of great cells have changed -/
def spNext : Sp := fun vs H Q _ => ∃ (m c l : Addr) (k n : Int), vs = [.ref m, .int n] ∧ MAt H m c l k ∧ 0 < n ∧ n < 1073741824 ∧ k < 1000000 ∧
  ∀ (r : Int) (H' : Hp) (l' : Addr) (k' : Int), 0 ≤ r → r < n → k' ≤ k + 1 → MAt H' m c l' k' → (l' = l ∨ H l' = none) → (∀ b o, H b = some o → b ≠ m → b ≠ l → H' b = some o) → Q (.int r) H'
/-- the beginning -/
def spBegun (K : PySem.W.Frag) : Sp := fun vs H Q _ => ∃ (a : Addr) (ns : List Int), vs = [.ref a] ∧ SqL K H a (ns.map V.int) ∧ ns.length ≤ 1000 ∧
  ∀ (m c l : Addr) (H' : Hp), MAt H' m c l 0 → H m = none → H c = none → H l = none → Same H H' → Q (.ref m) H'
structure TxtD (mg : Str → Option Value) : Prop where
  list : mg "list" = none
  int : mg "int" = none
  len : mg "len" = none
theorem same_upd {H : Hp} {p : Addr} {o : HO} (h : H p = none) : Same H (upd H p o) := fun b u e => by
  rw [upd_ne (ne_of_none e h)]
  exact e
theorem MAt.same {H H' : Hp} {m c l : Addr} {k : Int} (M : MAt H m c l k) (s : Same H H') : MAt H' m c l k := by
  obtain ⟨h1, ⟨cs, h2, h3⟩, ⟨ls, h4, h5⟩, h6, h7, h8⟩ := M
  exact ⟨s _ _ h1, ⟨cs, s _ _ h2, h3⟩, ⟨ls, s _ _ h4, h5⟩, h6, h7, h8⟩
theorem MAt.set {H : Hp} {m c l : Addr} {k : Int} {ls : List Int} (M : MAt H m c l k) (hz : ls.length ≤ 1000) : MAt (upd H l (.lst (ls.map V.int))) m c l k := by
  obtain ⟨h1, ⟨cs, h2, h3⟩, ⟨ls0, h4, h5⟩, h6, h7, h8⟩ := M
  have ml : m ≠ l := ne_of h1 h4 (fun z => by cases z)
  exact ⟨by rw [upd_ne ml]; exact h1, ⟨cs, by rw [upd_ne h6]; exact h2, h3⟩, ⟨ls, upd_same, hz⟩, h6, h7, h8⟩
/-- another list of great cells -/
theorem MAt.turn {H : Hp} {m c l p : Addr} {k : Int} {ls : List Int} (M : MAt H m c l k) (hp : H p = none) (hz : ls.length ≤ 1000) : MAt (upd (upd H p (.lst (ls.map V.int))) m (.dK (mkv c p k))) m c p k := by
  obtain ⟨h1, ⟨cs, h2, h3⟩, ⟨ls0, h4, h5⟩, h6, h7, h8⟩ := M
  have mp : p ≠ m := (ne_of_none h1 hp).symm
  have cp : c ≠ p := ne_of_none h2 hp
  have cm : c ≠ m := ne_of h2 h1 (fun z => by cases z)
  exact ⟨upd_same, ⟨cs, by rw [upd_ne cm, upd_ne cp]; exact h2, h3⟩, ⟨ls, by rw [upd_ne mp]; exact upd_same, hz⟩, cp, h7, h8⟩
/-- another counter -/
theorem MAt.count {H : Hp} {m c l : Addr} {k k' : Int} (M : MAt H m c l k) (h0 : 0 ≤ k') (h1' : k' ≤ 1000000) : MAt (upd H m (.dK (mkv c l k'))) m c l k' := by
  obtain ⟨h1, ⟨cs, h2, h3⟩, ⟨ls0, h4, h5⟩, h6, h7, h8⟩ := M
  have lm : l ≠ m := ne_of h4 h1 (fun z => by cases z)
  have cm : c ≠ m := ne_of h2 h1 (fun z => by cases z)
  exact ⟨upd_same, ⟨cs, by rw [upd_ne cm]; exact h2, h3⟩, ⟨ls0, by rw [upd_ne lm]; exact h4, h5⟩, h6, h0, h1'⟩
section
variable {K : PySem.W.Frag} {σ : St} {H : Hp} {m c l : Addr} {k : Int}
theorem rd_left {Q : VK} (h0 : σ[0]? = some (some (.ref m))) (M : MAt H m c l k) (q : Q (.ref l) H) : tDGet (tVar 0) (tC (.str "left")) σ H Q := by
  have z : DGet H m (.str "left") (valV (mkv c l k) (Sum.inr "left" : Key)) := DGet.k (k := Sum.inr "left") M.hm
  rw [v_left] at z
  exact ⟨_, h0, m, _, rfl, z, q⟩
theorem rd_cells {Q : VK} (h0 : σ[0]? = some (some (.ref m))) (M : MAt H m c l k) (q : Q (.ref c) H) : tDGet (tVar 0) (tC (.str "cells")) σ H Q := by
  have z : DGet H m (.str "cells") (valV (mkv c l k) (Sum.inr "cells" : Key)) := DGet.k (k := Sum.inr "cells") M.hm
  rw [v_cells] at z
  exact ⟨_, h0, m, _, rfl, z, q⟩
theorem rd_at {Q : VK} (h0 : σ[0]? = some (some (.ref m))) (M : MAt H m c l k) (q : Q (.int k) H) : tDGet (tVar 0) (tC (.str "at")) σ H Q := by
  have z : DGet H m (.str "at") (valV (mkv c l k) (Sum.inr "at" : Key)) := DGet.k (k := Sum.inr "at") M.hm
  rw [v_at] at z
  exact ⟨_, h0, m, _, rfl, z, q⟩
/-- a list of ints against the empty one -/
theorem ne_empty {Q : Bool → Hp → Prop} {a : Addr} {ls : List Int} (hl : H a = some (.lst (ls.map V.int))) (q : ∀ p, H p = none → Q (!ls.isEmpty) (upd H p (.lst []))) :
    tLst tNil σ H fun y H2 => rNeD K (.ref a) y H2 fun x H' => ∃ k, x = .bl k ∧ Q k H' := by
  refine ⟨by decide, fun p hp => ⟨.list (ls.map PyData.int), .list [], dp_list (same_upd hp _ _ hl), .lst (SqL.of upd_same) .nil, shaped_ints ls, shaped_ints [], _, rfl, ?_⟩⟩
  rw [eqv_nil]
  exact q p hp
theorem cut_one (ls : List Int) : cutV (ls.map V.int) (some 1) none = (ls.drop 1).map V.int := by
  unfold cutV
  have e1 : HT.sIx (ls.map V.int).length 0 (some 1) = min 1 (ls.map V.int).length := HT.sIx_nat _ _ 1
  rw [e1, HT.sIx_none]
  cases ls with
  | nil => rfl
  | cons x r =>
    have e2 : min 1 ((x :: r).map V.int).length = 1 := by simp
    rw [e2]
    show List.take ((x :: r).map V.int).length.pred (r.map V.int) = r.map V.int
    exact List.take_of_length_le (by simp)
end
theorem byAll {P : Int → Prop} {G : Prop} (a : (∀ x, P x) → G) (b : ∀ x, P x) : G := a b
theorem iteF' {b : Bool} {A B : Prop} (h : b = false) (q : B) : if b = true then A else B := by
  rw [h]
  exact iteF q
theorem iteT' {b : Bool} {A B : Prop} (h : b = true) (q : A) : if b = true then A else B := by
  rw [h]
  exact iteT q
theorem seq_while {tc : TT} {tb u : TS} {D : Ends} {σ : St} {H : Hp} (W : Nat → Hp → Prop) (R : Hp → Prop) {j0 : Nat} (h0 : W j0 H) (hr : ∀ H2, R H2 → u D σ H2)
    (turn : (∀ H2, R H2 → u D σ H2) → ∀ j H1, W j H1 → tc σ H1 fun b H2 => if b = true then
      ∃ N : St → Hp → Prop, (∀ σ' H', N σ' H' → ∃ j', j' < j ∧ (σ' = σ ∧ W j' H')) ∧ tb { nx := N, rt := D.rt, bk := u D, ct := N } σ H2 else u D σ H2) :
    tSeq (tWhile tc tb) u D σ H := by
  refine ⟨fun j σ' H' => σ' = σ ∧ W j H', ⟨j0, rfl, h0⟩, ?_⟩
  rintro j σ' H1 ⟨rfl, w⟩
  exact turn hr j H1 w
section
variable {P : Program} {w : World} {K : PySem.W.Frag} {mg : Str → Option Value} {base : Heap}
theorem scN : FnScope ["m", "total", "rest", "k", "cell", "mixed"] ["m", "total"] (defScope sNext) := ⟨rfl, rfl, rfl, by decide +kernel, rfl, by decide +kernel, by decide +kernel⟩
theorem ok_next {f : Addr} {fd : FuncData} (F : Fun K "_law_next" "_law_next" sNext f fd) (T : TxtD mg) : FnOk P w K mg base CX0 1 f fd ["m", "total"] spNext := by
  refine F.ok scN (fun vs H Q E h => ?_) (fun cdv A outer s H vs Q E hr h => ?_)
  · obtain ⟨m, c, l, k, n, rfl, _⟩ := h
    rfl
  · obtain ⟨m, c, l, k, n, rfl, M, n0, n1, kk, q⟩ := h
    have hu := hu_of hr
    have hu2 := hr.units
    refine ⟨_, pss_cons (ps_while PassesOwn.never
        (pw_and (pt_cmpR (op_neD hu2) (pe_dget hu (pv 0) pe_str (fun _ _ => rfl)) (pe_lst pa_nil) (nomark _))
          (pw_and1 (pt_cmpR op_eq (pe_ix ix_list (pe_dget hu (pv 0) pe_str (fun _ _ => rfl)) pe_int (fun _ _ => rfl)) pe_int (nomark _)))).pt
        (pss_one (ps_dput hu (pv 0) pe_str (pe_slice sl_list (pe_dget hu (pv 0) pe_str (fun _ _ => rfl)) (po_some pe_int) po_none) rfl)))
      (pss_cons (ps_if (pt_cmpR (op_neD hu2) (pe_dget hu (pv 0) pe_str (fun _ _ => rfl)) (pe_lst pa_nil) (nomark _))
        (pss_cons (ps_set (i := 2) scN.nd rfl (Or.inl rfl) (pe_callTy call_int1 (by rfl) T.int (by decide +kernel) (pa_cons (pe_ix ix_list (pe_dget hu (pv 0) pe_str (fun _ _ => rfl)) pe_int (fun _ _ => rfl)) pa_nil)))
        (pss_cons (ps_asg (pe_op op_fdiv (pv 2) (pv 1)) (pg_sub (pe_dget hu (pv 0) pe_str (fun _ _ => rfl)) pe_int set_list))
        (pss_one (ps_ret (pe_op op_mod (pv 2) (pv 1)))))) pss_nil)
      (pss_cons (ps_set (i := 3) scN.nd rfl (Or.inl rfl) (pe_op op_add (pe_dget hu (pv 0) pe_str (fun _ _ => rfl)) pe_int))
      (pss_cons (ps_dput hu (pv 0) pe_str (pv 3) rfl)
      (pss_cons (ps_set (i := 4) scN.nd rfl (Or.inl rfl) (pe_ifExp (pt_cmpR (op_neD hu2) (pe_dget hu (pv 0) pe_str (fun _ _ => rfl)) (pe_lst pa_nil) (nomark _))
        (pe_ix ix_list (pe_dget hu (pv 0) pe_str (fun _ _ => rfl))
          (pe_op op_mod (pe_callTy call_int1 (by rfl) T.int (by decide +kernel) (pa_cons (pv 3) pa_nil)) (pe_callB call_len_seq (by rfl) T.len PySem.boot_len (pa_cons (pe_dget hu (pv 0) pe_str (fun _ _ => rfl)) pa_nil))) (fun _ _ => rfl))
        pe_int))
      (pss_cons (ps_set (i := 5) scN.nd rfl (Or.inl rfl) (pe_op op_mul (pe_callTy call_int1 (by rfl) T.int (by decide +kernel) (pa_cons
        (pe_op op_add (pe_op op_add (pe_op op_mod (pe_callTy call_int1 (by rfl) T.int (by decide +kernel) (pa_cons (pv 4) pa_nil)) pe_int) (pe_op op_mul pe_int (pv 3))) (pe_op op_mul (pe_op op_mul pe_int (pv 3)) (pv 3))) pa_nil)) pe_int))
      (pss_cons (ps_set (i := 5) scN.nd rfl (Or.inl rfl) (pe_op op_mul (pe_callTy call_int1 (by rfl) T.int (by decide +kernel) (pa_cons
        (pe_op op_add (pe_op op_mod (pe_callTy call_int1 (by rfl) T.int (by decide +kernel) (pa_cons (pv 5) pa_nil)) pe_int) (pe_op op_mul pe_int (pv 3))) pa_nil)) pe_int))
      (pss_one (ps_ret (pe_op op_mod (pe_callTy call_int1 (by rfl) T.int (by decide +kernel) (pa_cons
        (pe_op op_fdiv (pe_op op_mod (pe_callTy call_int1 (by rfl) T.int (by decide +kernel) (pa_cons (pv 5) pa_nil)) pe_int) pe_int) pa_nil)) (pv 1)))))))))), ?_⟩
    obtain ⟨ls0, hl0, ll0⟩ := id M.hl
    refine seq_while (fun j H1 => ∃ (l1 : Addr) (ls : List Int), MAt H1 m c l1 k ∧ H1 l1 = some (.lst (ls.map V.int)) ∧ ls.length = j ∧ (l1 = l ∨ H l1 = none) ∧ (∀ b o, H b = some o → b ≠ m → b ≠ l → H1 b = some o) ∧ ∃ o, H1 l = some o)
      (fun H1 => ∃ (l1 : Addr) (ls : List Int), MAt H1 m c l1 k ∧ H1 l1 = some (.lst (ls.map V.int)) ∧ (l1 = l ∨ H l1 = none) ∧ (∀ b o, H b = some o → b ≠ m → b ≠ l → H1 b = some o))
      ⟨l, ls0, M, hl0, rfl, .inl rfl, fun b o e _ _ => e, _, hl0⟩ ?_ ?_
    · rintro H1 ⟨l1, ls, M1, hl, fl, kp⟩
      refine rd_left rfl M1 (ne_empty hl fun p hp => ?_)
      have M2 := MAt.same M1 (same_upd (o := .lst []) hp)
      have hl2 : upd H1 p (.lst []) l1 = some (.lst (ls.map V.int)) := same_upd hp _ _ hl
      cases ls with
      | cons x r =>
        refine iteT' rfl ?_
        refine rd_left rfl M2 ?_
        refine ⟨l1, _, 0, .int x, rfl, rfl, SqL.of hl2, atI_nat (j := 0) rfl, .inl ⟨x, rfl, ?_⟩⟩
        refine ⟨_, rfl, _, rfl, x, n, rfl, rfl, ⟨n0, by omega⟩, ?_⟩
        refine rd_left rfl M2 ?_
        refine ⟨l1, _, 0, 0, rfl, rfl, hl2, by simp [ixN], ?_⟩
        refine ⟨_, rfl, _, rfl, x, n, rfl, rfl, n0, ?_⟩
        show Q (.int (x % n)) _
        have hz : ((x / n) :: r).length ≤ 1000 := by
          obtain ⟨ls', e1, e2⟩ := M2.hl
          rw [hl2] at e1
          have e3 := congrArg List.length (HO.lst.inj (Option.some.inj e1))
          simp only [List.length_map] at e3
          rw [List.length_cons] at e3 ⊢
          omega
        refine q (x % n) _ l1 k (Int.emod_nonneg _ (by omega)) (Int.emod_lt_of_pos _ n0) (by omega) (M2.set hz) fl fun b o e h1 h2 => ?_
        have h3 : b ≠ l1 := by
          rcases fl with z | z
          · rw [z]
            exact h2
          · exact ne_of_none e z
        rw [upd_ne h3]
        exact same_upd hp _ _ (kp b o e h1 h2)
      | nil =>
        refine iteF' rfl ?_
        refine rd_at rfl M2 ⟨k, 1, rfl, rfl, ?_⟩
        refine ⟨_, rfl, _, rfl, m, _, rfl, DPut.k (k := Sum.inr "at") M2.hm (small1000 (by show 3 ≤ 1000; decide)), ?_⟩
        rw [p_at]
        have M3 := M2.count (k' := k + 1) (by have := M2.k0; omega) (by omega)
        obtain ⟨cs, hc, lc⟩ := id M3.hc
        have k0 := M.k0
        have kp3 : ∀ b o, H b = some o → b ≠ m → b ≠ l → upd (upd H1 p (.lst [])) m (.dK (mkv c l1 (k + 1))) b = some o := fun b o e h1 h2 => by
          rw [upd_ne h1]
          exact same_upd hp _ _ (kp b o e h1 h2)
        refine rd_cells rfl M3 (ne_empty hc fun p3 hp3 => ?_)
        have M4 := MAt.same M3 (same_upd (o := .lst []) hp3)
        have hc4 := same_upd (o := .lst []) hp3 _ _ hc
        have kp4 : ∀ b o, H b = some o → b ≠ m → b ≠ l → upd (upd (upd H1 p (.lst [])) m (.dK (mkv c l1 (k + 1)))) p3 (.lst []) b = some o := fun b o e h1 h2 => same_upd hp3 _ _ (kp3 b o e h1 h2)
        apply byAll
        case a =>
          intro fin
          by_cases he : cs.isEmpty = true
          · refine iteF' (by rw [he]; rfl) ?_
            generalize (3 : Int) = x
            exact fin x
          · refine iteT' (by simpa using he) ?_
            refine rd_cells rfl M4 ?_
            have ne0 : 0 < cs.length := List.length_pos_iff.mpr (fun z => he (by rw [z]; rfl))
            have pos : (0 : Int) < ((cs.map V.int).length : Nat) := by
              simp only [List.length_map]
              omega
            refine ⟨_, rfl, .inl ⟨k + 1, rfl, ?_⟩⟩
            refine rd_cells rfl M4 ?_
            refine ⟨c, _, rfl, .inl (SqL.of hc4), k + 1, _, rfl, rfl, pos, ?_⟩
            have i0 := Int.emod_nonneg (k + 1) (Int.ne_of_gt pos)
            have i1 := Int.emod_lt_of_pos (k + 1) pos
            obtain ⟨j, hj⟩ := Int.eq_ofNat_of_zero_le i0
            have jl : j < cs.length := by
              simp only [List.length_map] at i1 hj
              omega
            obtain ⟨x, hx⟩ : ∃ x : Int, cs[j]? = some x := ⟨cs[j], List.getElem?_eq_getElem jl⟩
            refine ⟨c, _, _, V.int x, rfl, rfl, SqL.of hc4, ?_, ?_⟩
            · rw [hj]
              refine atI_nat ?_
              rw [List.getElem?_map, hx]
              rfl
            · exact fin x
        case b =>
          intro x
          have k2 : -(2 ^ 64) < k + 1 ∧ k + 1 < 2 ^ 64 := ⟨by omega, by omega⟩
          refine ⟨_, rfl, .inl ⟨x, rfl, _, _, rfl, rfl, (by show (0 : Int) < 2147483629; decide), _, rfl, _, _, rfl, rfl, .inl ⟨by decide, by decide⟩, _, _, rfl, rfl, _, rfl, _, _, rfl, rfl, .inl ⟨by decide, by decide⟩,
            _, rfl, _, _, rfl, rfl, .inr k2, _, _, rfl, rfl, .inl ⟨_, rfl, _, _, rfl, rfl, .inr ⟨by decide, by decide⟩, ?_⟩⟩⟩
          refine ⟨_, rfl, .inl ⟨_, rfl, _, _, rfl, rfl, (by show (0 : Int) < 2147483647; decide), _, rfl, _, _, rfl, rfl, .inl ⟨by decide, by decide⟩, _, _, rfl, rfl, .inl ⟨_, rfl, _, _, rfl, rfl, .inr ⟨by decide, by decide⟩, ?_⟩⟩⟩
          refine ⟨_, rfl, .inl ⟨_, rfl, _, _, rfl, rfl, (by show (0 : Int) < 2147483587; decide), _, _, rfl, rfl, ⟨by decide, by decide⟩, .inl ⟨_, rfl, _, rfl, _, _, rfl, rfl, n0, ?_⟩⟩⟩
          exact q _ _ l1 (k + 1) (Int.emod_nonneg _ (by omega)) (Int.emod_lt_of_pos _ n0) (by omega) M4 fl kp4
    · rintro out j H1 ⟨l1, ls, M1, hl, lj, fl, kp, lo⟩
      refine rd_left rfl M1 (ne_empty hl fun p hp => ?_)
      have M2 := MAt.same M1 (same_upd (o := .lst []) hp)
      have hl2 : upd H1 p (.lst []) l1 = some (.lst (ls.map V.int)) := same_upd hp _ _ hl
      have kp2 : ∀ b o, H b = some o → b ≠ m → b ≠ l → upd H1 p (.lst []) b = some o := fun b o e h1 h2 => same_upd hp _ _ (kp b o e h1 h2)
      have lo2 : ∃ o, upd H1 p (.lst []) l = some o := lo.elim fun o e => ⟨o, same_upd hp _ _ e⟩
      cases ls with
      | nil =>
        refine iteF' rfl (iteF' rfl ?_)
        exact out _ ⟨l1, [], M2, hl2, fl, kp2⟩
      | cons x r =>
        refine iteT' rfl (rd_left rfl M2 ⟨l1, _, 0, .int x, rfl, rfl, SqL.of hl2, atI_nat (j := 0) rfl, rfl, _, rfl, ?_⟩)
        refine ite2 (fun z => ?_) (fun z => ?_)
        · refine ⟨_, fun _ _ z => z, ?_⟩
          refine rd_left rfl M2 ⟨1, rfl, l1, _, rfl, SqL.of hl2, fun p2 hp2 => ?_⟩
          have M3 : MAt (upd (upd H1 p (.lst [])) p2 (.lst (cutV ((x :: r).map V.int) (some 1) none))) m c l1 k := MAt.same M2 (same_upd hp2)
          refine ⟨_, rfl, m, _, rfl, DPut.k (k := Sum.inr "left") M3.hm (small1000 (by show 3 ≤ 1000; decide)), ?_⟩
          rw [p_left, cut_one]
          have hz : ((x :: r).drop 1).length ≤ 1000 := by
            obtain ⟨ls', e1, e2⟩ := M2.hl
            rw [hl2] at e1
            have e3 := congrArg List.length (HO.lst.inj (Option.some.inj e1))
            simp only [List.length_map] at e3
            rw [List.length_cons] at e3
            simp only [List.drop_succ_cons, List.drop_zero]
            omega
          have mp : p2 ≠ m := (ne_of_none M2.hm hp2).symm
          refine ⟨r.length, by rw [← lj]; simp, rfl, p2, r, M2.turn hp2 hz, by rw [upd_ne mp]; exact upd_same, rfl, .inr ?_, fun b o e h1 h2 => ?_, ?_⟩
          · cases q0 : H p2 with
            | none => rfl
            | some o =>
              have a2 : p2 ≠ l := by
                obtain ⟨o, e⟩ := lo2
                exact (ne_of_none e hp2).symm
              rw [kp2 p2 o q0 mp a2] at hp2
              cases hp2
          · rw [upd_ne h1]
            exact same_upd hp2 _ _ (kp2 b o e h1 h2)
          · obtain ⟨o, e⟩ := lo2
            refine ⟨o, ?_⟩
            by_cases lm : l = m
            · subst lm
              rw [M.hm] at hl0
              cases hl0
            · rw [upd_ne lm]
              exact same_upd hp2 _ _ e
        · exact out _ ⟨l1, x :: r, M2, hl2, fl, kp2⟩
theorem scB : FnScope ["script", "cell"] ["script"] (defScope sBegun) := ⟨rfl, rfl, rfl, by decide +kernel, rfl, by decide +kernel, by decide +kernel⟩
theorem ok_begun {f : Addr} {fd : FuncData} (F : Fun K "_law_begun" "_law_begun" sBegun f fd) (T : TxtD mg) : FnOk P w K mg base CX0 1 f fd ["script"] (spBegun K) := by
  refine F.ok scB (fun vs H Q E h => ?_) (fun cdv A outer s H vs Q E hr h => ?_)
  · obtain ⟨a, ns, rfl, _⟩ := h
    rfl
  · obtain ⟨a, ns, rfl, hS, hl, q⟩ := h
    refine ⟨_, pss_one (ps_ret (pe_disp (pps_cons pe_str (pe_callTy call_list_of (by rfl) T.list (by decide +kernel) (pa_cons (pv 0) pa_nil))
      (pps_cons pe_str (pe_lc (own := [("cell", 1)]) (g := gName 1) rfl scB.nd (pi_list (pv 0)) (blkOk_by (N := ["script", "cell"]) (sc := defScope sBegun) (by decide +kernel))
        (fun _ _ _ _ _ => pg_name (i := 1) scB.nd rfl (Or.inl rfl)) (fun _ _ _ _ _ => pts_one (pt_cmpR op_ge (pv 1) (pe_op op_pow pe_int pe_int) (nomark _))) (fun _ _ _ _ _ => pv 1))
      (pps_cons pe_str pe_int pps_nil))) rfl rfl (by simp) (by decide))), ?_⟩
    intro m hm
    have s1 : Same H (upd H m (.dK [])) := same_upd hm
    refine ⟨_, rfl, a, ns.map V.int, rfl, .inl (s1.seq hS), fun c hc => ?_⟩
    have s2 := s1.trans (same_upd (o := .lst (ns.map V.int)) hc)
    refine ⟨_, rfl, a, rfl, ⟨_, s2.seq hS⟩, fun l hl0 => ?_⟩
    have mc : m ≠ c := ne_of_none upd_same hc
    have hm2 : upd (upd H m (.dK [])) c (.lst (ns.map V.int)) m = some (.dK []) := by
      rw [upd_ne mc]
      exact upd_same
    have ml : m ≠ l := ne_of_none hm2 hl0
    have cl : c ≠ l := ne_of_none (upd_same) hl0
    refine lc_list (K := K) (a := a) (xs := ns.map V.int) (fun i H' => ∃ acc : List Int, H' l = some (.lst (acc.map V.int)) ∧ acc.length ≤ i ∧ ∀ b o, upd (upd H m (.dK [])) c (.lst (ns.map V.int)) b = some o → H' b = some o)
      ⟨[], upd_same, Nat.le_refl _, fun b o e => same_upd hl0 _ _ e⟩ (fun i H' _ ⟨acc, _, _, k⟩ => Same.seq (s2.trans k) hS) ?_ ?_
    · rintro i x H' hi ⟨acc, ha, la, kp⟩
      obtain ⟨z, rfl⟩ : ∃ z, x = V.int z := by
        rw [List.getElem?_map] at hi
        cases e : ns[i]? with
        | none =>
          rw [e] at hi
          cases hi
        | some z =>
          rw [e] at hi
          exact ⟨z, (Option.some.inj hi).symm⟩
      have il : i < ns.length := by
        have := (List.getElem?_eq_some_iff.mp hi).1
        simpa using this
      refine ⟨rfl, _, rfl, 10, 18, rfl, rfl, ⟨by decide, by decide, by decide⟩, _, _, rfl, rfl, _, rfl, ?_⟩
      refine ite2 (fun _ => ⟨_, rfl, acc.map V.int, ha, ?_, acc ++ [z], ?_, ?_, fun b o e => ?_⟩) (fun _ => ⟨acc, ha, Nat.le_succ_of_le la, kp⟩)
      · rw [List.length_map]
        exact small1000 (by omega)
      · rw [List.map_append]
        exact upd_same
      · simp only [List.length_append, List.length_cons, List.length_nil]
        omega
      · rw [upd_ne (ne_of_none e hl0)]
        exact kp b o e
    · rintro H' ⟨acc, ha, la, kp⟩
      rw [List.length_map] at la
      refine ⟨kp _ _ hm2, mkv c l 0, rfl, (by show 3 ≤ 15; decide), ?_⟩
      rw [mk_merge]
      have lm : l ≠ m := ml.symm
      have cm : c ≠ m := mc.symm
      refine q m c l _ ⟨upd_same, ⟨ns, by rw [upd_ne cm]; exact kp _ _ upd_same, hl⟩, ⟨acc, by rw [upd_ne lm]; exact ha, by omega⟩, cl, by decide, by decide⟩ hm (s1.free hc) (s2.free hl0) fun b o e => ?_
      rw [upd_ne (ne_of_none e hm)]
      exact kp _ _ (s2 _ _ e)
end
end K37

set_option Elab.async false
set_option linter.all false
set_option maxRecDepth 100000
set_option maxHeartbeats 4000000
/-! is_number, is_piece, is_step: of what a framing holds. -/
namespace K37
open PySem L2 L2.EV
abbrev sNum : Stmt := top 15
abbrev sPc : Stmt := top 16
abbrev sStep : Stmt := top 17
def sgs : List Nat := sl ("abcdefghijklmnopqrstuvwxyz0123456789@" : Str)
theorem no59 : ¬ (59 ∈ sgs) := by decide +kernel
theorem semi : sl (";" : Str) = [59] := by decide +kernel
theorem semi1 : (";" : Str).length = 1 := by decide +kernel
/-- a piece; it ends a line if last -/
def Pc (p : Str) (last : Bool) : Prop := ∃ b : List Nat, sl p = b ++ (if last = true then [59] else []) ∧ b.length ≤ 7 ∧ (∀ c ∈ b, c ∈ sgs) ∧ (last = false → b ≠ [])
theorem len_sl (p : Str) : p.length = (sl p).length := by
  show p.cps.size = p.cps.toList.length
  simp
theorem pc_len {p : Str} {l : Bool} (h : Pc p l) : 1 ≤ p.length ∧ p.length ≤ 8 := by
  obtain ⟨b, e, h1, _, h2⟩ := h
  rw [len_sl, e, List.length_append]
  cases l with
  | true =>
    rw [if_pos rfl]
    simp only [List.length_cons, List.length_nil]
    omega
  | false =>
    have := List.length_pos_iff.mpr (h2 rfl)
    rw [if_neg (by simp)]
    simp only [List.length_nil]
    omega
theorem at_end {p : Str} : Builtin.Str.subAt p ";" (p.length - (";" : Str).length) = (((sl p).drop ((sl p).length - 1)).take 1 == [59]) := by
  rw [StrLaws.subAt_eq, semi1, len_sl]
  show (((sl p).drop _).take 1 == sl (";" : Str)) = _
  rw [semi]
theorem pc_last {p : Str} {l : Bool} (h : Pc p l) : (decide (0 + (";" : Str).length ≤ p.length) && Builtin.Str.subAt p ";" (p.length - (";" : Str).length)) = l := by
  have z := pc_len h
  rw [at_end]
  have d : decide (0 + (";" : Str).length ≤ p.length) = true := decide_eq_true (by rw [semi1]; omega)
  rw [d, Bool.true_and]
  obtain ⟨b, e, h1, hb, h2⟩ := h
  rw [e]
  cases l with
  | true =>
    rw [if_pos rfl]
    simp
  | false =>
    rw [if_neg (by simp), List.append_nil]
    obtain ⟨M, y, rfl⟩ := SrtO.snoc_of (l := b) (List.length_pos_iff.mpr (h2 rfl))
    have hy : y ∈ sgs := hb y (by simp)
    have ne : ¬ y = 59 := fun q => no59 (q ▸ hy)
    simp [ne]
theorem pc_ends {p : Str} {l : Bool} (h : Pc p l) : Txt.endswith p ";" = l := pc_last h
theorem pc_cut {p : Str} {l : Bool} (h : Pc p l) : ∀ c ∈ sl (Txt.removesuffix p ";"), c ∈ sgs := by
  have z := pc_last h
  rw [StrLaws.removesuffix_eq]
  rw [show (decide (0 + (";" : Str).length ≤ p.length) && Builtin.Str.subAt p ";" (p.length - (";" : Str).length)) = l from z]
  obtain ⟨b, e, h1, hb, h2⟩ := h
  intro c hc
  cases l with
  | true =>
    rw [if_pos rfl] at hc e
    rw [semi1, len_sl] at hc
    have e' : p.cps.toList = b ++ [59] := e
    simp only [e, e', List.drop_zero, List.length_append, List.length_cons, List.length_nil] at hc
    have : (b ++ [59]).take (b.length + (0 + 1) - 1 - 0) = b := by simp
    rw [this] at hc
    exact hb c (by simpa using hc)
  | false =>
    rw [if_neg (by simp)] at hc
    rw [e, if_neg (by simp), List.append_nil] at hc
    exact hb c hc
/-- is_number(n, many) -/
def spNum : Sp := fun vs H Q _ => ∃ n m : Int, vs = [.int n, .int m] ∧ Q (.bl (decide (0 ≤ n) && decide (n < m))) H
/-- is_piece(p), p a piece -/
def spPc : Sp := fun vs H Q _ => ∃ (p : Str) (l : Bool), vs = [.str p] ∧ Pc p l ∧ ∀ H', Same H H' → Q (.bl true) H'
/-- what a step is -/
def Stp (x : T3) : Prop := 0 ≤ x.1 ∧ x.1 < 6 ∧ Pc x.2.1 (decide (x.2.2 = 0)) ∧ 0 ≤ x.2.2 ∧ x.2.2 < 6
/-- a step at t -/
abbrev S3 (H : Hp) (t : Addr) (x : T3) : Prop := H t = some (.tup [.int x.1, .str x.2.1, .int x.2.2])
def spStep : Sp := fun vs H Q _ => ∃ (t : Addr) (x : T3), vs = [.ref t] ∧ S3 H t x ∧ Stp x ∧ ∀ H', Same H H' → Q (.bl true) H'
structure TxtF (mg : Str → Option Value) : Prop where
  isi : mg "isinstance" = none
  int : mg "int" = none
  bool : mg "bool" = none
  str : mg "str" = none
  tuple : mg "tuple" = none
  len : mg "len" = none
  all : mg "all" = none
  signs : ∃ t, mg "SIGNS" = some (.str "abcdefghijklmnopqrstuvwxyz0123456789@" t)
  mSigns : ∃ t, mg "MOST_SIGNS" = some (.int 8 t)
  many : ∃ t, mg "MANY_STANDINGS" = some (.int 6 t)
section
variable {P : Program} {w : World} {K : PySem.W.Frag} {mg : Str → Option Value} {base : Heap}
theorem scNum : FnScope ["thing", "many"] ["thing", "many"] (defScope sNum) := ⟨rfl, rfl, rfl, by decide +kernel, rfl, by decide +kernel, by decide +kernel⟩
theorem ok_num {f : Addr} {fd : FuncData} (F : Fun K "is_number" "is_number" sNum f fd) (T : TxtF mg) : FnOk P w K mg base CX0 1 f fd ["thing", "many"] spNum := by
  refine F.ok scNum (fun vs H Q E h => ?_) (fun cdv A outer s H vs Q E hr h => ?_)
  · obtain ⟨n, m, rfl, _⟩ := h
    rfl
  · obtain ⟨n, m, rfl, q⟩ := h
    refine ⟨_, pss_one (ps_ret (pe_and (pe_callB call_isi (by rfl) T.isi PyProof.Rows.boot_isinstance (pa_cons (pv 0) (pa_cons (pe_bltn (v := .ty "int") (by rfl) T.int (by decide +kernel) rfl) pa_nil)))
      (pe_and (pe_not (pe_callB call_isi (by rfl) T.isi PyProof.Rows.boot_isinstance (pa_cons (pv 0) (pa_cons (pe_bltn (v := .ty "bool") (by rfl) T.bool (by decide +kernel) rfl) pa_nil))))
        (pe_one (pe_chain op_le op_lt pe_int (pv 0) (pv 1)))))), ?_⟩
    refine ⟨_, rfl, .int n, .ty "int", .type "int", .type "int", true, rfl, .ty "int", .base (.int n), kit_ty (by decide +kernel), true, rfl, iteT ?_⟩
    refine ⟨_, rfl, .int n, .ty "bool", .type "int", .type "bool", false, rfl, .ty "bool", .base (.int n), kit_ty (by decide +kernel), false, rfl, true, rfl, iteT ?_⟩
    refine ⟨_, rfl, 0, n, rfl, rfl, _, rfl, ?_⟩
    refine ite2 (fun z => ?_) (fun z => ?_)
    · refine ⟨_, rfl, n, m, rfl, rfl, ?_⟩
      rw [z, Bool.true_and] at q
      exact q
    · rw [eq_false_of_ne_true z, Bool.false_and] at q
      exact q
theorem scPc : FnScope ["thing", "sign"] ["thing"] (defScope sPc) := ⟨rfl, rfl, rfl, by decide +kernel, rfl, by decide +kernel, by decide +kernel⟩
theorem ok_pc {f : Addr} {fd : FuncData} (F : Fun K "is_piece" "is_piece" sPc f fd) (T : TxtF mg) : FnOk P w K mg base CX0 1 f fd ["thing"] spPc := by
  refine F.ok scPc (fun vs H Q E h => ?_) (fun cdv A outer s H vs Q E hr h => ?_)
  · obtain ⟨p, l, rfl, _⟩ := h
    rfl
  · obtain ⟨p, l, rfl, hp, q⟩ := h
    obtain ⟨ts, eS⟩ := T.signs
    obtain ⟨tm, eM⟩ := T.mSigns
    refine ⟨_, pss_cons (ps_if (pw_or (pt_not (pt_val (pe_callB call_isi (by rfl) T.isi PyProof.Rows.boot_isinstance (pa_cons (pv 0) (pa_cons (pe_bltn (v := .ty "str") (by rfl) T.str (by decide +kernel) rfl) pa_nil)))))
        (pw_or1 (pt_not (pt_chain op_le op_le pe_int (pe_callB call_len_str (by rfl) T.len PySem.boot_len (pa_cons (pv 0) pa_nil)) (pe_glob (v := .int 8) (by rfl) eM ⟨_, rfl⟩))))).pt
        (pss_one (ps_ret pe_bl)) pss_nil)
      (pss_one (ps_ret (pe_callB (cr_all rfl) (by rfl) T.all (by decide +kernel) (pa_cons (pe_lc (own := [("sign", 1)]) (g := gName 1) rfl scPc.nd
        (pi_str (pe_m1 PySem.F.slot_str_removesuffix PySem.F.type_str_removesuffix mt_removesuffix (pv 0) pe_str)) (blkOk_by (N := ["thing", "sign"]) (sc := defScope sPc) (by decide +kernel))
        (fun _ _ _ _ _ => pg_name (i := 1) scPc.nd rfl (Or.inl rfl)) (fun _ _ _ _ _ => pts_nil) (fun _ _ _ _ _ => pe_cmpR op_in_sign (pv 1) (pe_glob (v := .str "abcdefghijklmnopqrstuvwxyz0123456789@") (by rfl) eS ⟨_, rfl⟩) (by rfl))) pa_nil)))), ?_⟩
    have z := pc_len hp
    refine ⟨_, rfl, .str p, .ty "str", .type "str", .type "str", true, rfl, .ty "str", .base (.str p), kit_ty (by decide +kernel), true, rfl, iteF ?_⟩
    refine ⟨.str p, rfl, p, rfl, by rw [sizeLine_eq]; omega, 1, p.length, rfl, rfl, _, rfl, iteT' (decide_eq_true (by omega)) ⟨p.length, 8, rfl, rfl, _, rfl, ?_⟩⟩
    refine iteF' (by rw [decide_eq_true (by omega)]; rfl) ?_
    refine ⟨_, rfl, ⟨p, rfl⟩, p, ";", rfl, rfl, by rw [sizeLine_eq]; omega, _, rfl, fun D hD => ?_⟩
    refine lc_it walk_str (fun i H' => H' D = some (.lst ((List.replicate i true).map V.bl)) ∧ ∀ b o, H b = some o → H' b = some o) ⟨upd_same, fun b o z => same_upd hD b o z⟩ (fun _ _ _ _ => trivial) ?_ ?_
    · rintro i x H1 H2 hi ⟨hl, kp⟩ ⟨rfl, c, hc, rfl⟩
      refine ⟨rfl, ⟨_, rfl, c, _, rfl, rfl, ?_⟩⟩
      have hm : c ∈ sgs := pc_cut hp c (List.mem_of_getElem? (by simpa using hc))
      refine ⟨_, hl, ?_, ?_, fun b o z => ?_⟩
      · rw [List.length_map, List.length_replicate, sizeLine_eq]
        have l1 := PyProof.Rows.len_removesuffix p ";"
        have l2 : (Txt.removesuffix p ";").cps.size = (Txt.removesuffix p ";").length := rfl
        omega
      · have e : decide (c ∈ ("abcdefghijklmnopqrstuvwxyz0123456789@" : Str).cps.toList) = true := decide_eq_true hm
        rw [e, List.replicate_succ', List.map_append]
        exact upd_same
      · rw [upd_ne (ne_of_none z hD)]
        exact kp b o z
    · rintro H1 ⟨hl, kp⟩
      refine ⟨D, _, rfl, SqL.of hl, ?_⟩
      rw [show (List.replicate (Txt.removesuffix p ";").cps.size true).all id = true by simp]
      exact q H1 kp
theorem scStep : FnScope ["thing", "start", "piece", "goal"] ["thing"] (defScope sStep) := ⟨rfl, rfl, rfl, by decide +kernel, rfl, by decide +kernel, by decide +kernel⟩
theorem ok_step {f fN fP : Addr} {fd fdN fdP : FuncData} (F : Fun K "is_step" "is_step" sStep f fd) (T : TxtF mg) (FN : Fun K "is_number" "is_number" sNum fN fdN) (bN : Binds K fdN ["thing", "many"] []) (mN : mg "is_number" = some (.ref fN))
    (FP : Fun K "is_piece" "is_piece" sPc fP fdP) (bP : Binds K fdP ["thing"] []) (mP : mg "is_piece" = some (.ref fP)) : FnOk P w K mg base CX0 2 f fd ["thing"] spStep := by
  have GN : FnOk P w K mg base CX0 1 fN fdN ["thing", "many"] spNum := ok_num FN T
  have GP : FnOk P w K mg base CX0 1 fP fdP ["thing"] spPc := ok_pc FP T
  refine F.ok scStep (fun vs H Q E h => ?_) (fun cdv A outer s H vs Q E hr h => ?_)
  · obtain ⟨t, x, rfl, _⟩ := h
    rfl
  · obtain ⟨t, x, rfl, e, hx, q⟩ := h
    obtain ⟨tm, eM⟩ := T.many
    refine ⟨_, pss_cons (ps_if (pw_or (pt_not (pt_val (pe_callB call_isi (by rfl) T.isi PyProof.Rows.boot_isinstance (pa_cons (pv 0) (pa_cons (pe_bltn (v := .ty "tuple") (by rfl) T.tuple (by decide +kernel) rfl) pa_nil)))))
        (pw_or1 (pt_cmpR op_ne (pe_callB call_len_seq (by rfl) T.len PySem.boot_len (pa_cons (pv 0) pa_nil)) pe_int (nomark _)))).pt
        (pss_one (ps_ret pe_bl)) pss_nil)
      (pss_cons (ps_asg (pv 0) (pg_tup rfl (pgs_cons (pg_name (i := 1) scStep.nd rfl (Or.inl rfl)) (pgs_cons (pg_name (i := 2) scStep.nd rfl (Or.inl rfl)) (pgs_cons (pg_name (i := 3) scStep.nd rfl (Or.inl rfl)) pgs_nil)))))
      (pss_cons (ps_if (pw_or (pt_not (pt_val (pe_call GN hr (by rfl) mN FN.kp bN .nil pass0 (pa_cons (pv 1) (pa_cons (pe_glob (v := .int 6) (by rfl) eM ⟨_, rfl⟩) pa_nil)))))
        (pw_or (pt_not (pt_val (pe_call GP hr (by rfl) mP FP.kp bP .nil pass0 (pa_cons (pv 2) pa_nil))))
          (pw_or1 (pt_not (pt_val (pe_call GN hr (by rfl) mN FN.kp bN .nil pass0 (pa_cons (pv 3) (pa_cons (pe_glob (v := .int 6) (by rfl) eM ⟨_, rfl⟩) pa_nil)))))))).pt
        (pss_one (ps_ret pe_bl)) pss_nil)
      (pss_one (ps_ret (pe_cmpR op_eq (pe_m1 PySem.F.slot_str_endswith PySem.F.type_str_endswith mt_endswith (pv 2) pe_str) (pe_cmpR op_eq (pv 3) pe_int (nomark _)) (nomark _)))))), ?_⟩
    obtain ⟨h0, h6, hp, g0, g6⟩ := hx
    refine ⟨_, rfl, .ref t, .ty "tuple", .type "tuple", .type "tuple", true, rfl, .ty "tuple", .base (.tup e), kit_ty (by decide +kernel), true, rfl, iteF ?_⟩
    refine ⟨_, rfl, t, _, rfl, .inr (SqT.of e), rfl, _, rfl, iteF ?_⟩
    refine ⟨_, rfl, t, _, rfl, SqT.of e, rfl, _, _, rfl, _, _, rfl, _, _, rfl, rfl, ?_⟩
    refine ⟨_, rfl, x.1, 6, rfl, _, rfl, ?_⟩
    refine iteF' (by rw [decide_eq_true h0, decide_eq_true h6]; rfl) ?_
    refine ⟨_, rfl, x.2.1, _, rfl, hp, fun H1 s1 => ⟨_, rfl, iteF ?_⟩⟩
    refine ⟨_, rfl, x.2.2, 6, rfl, _, rfl, ?_⟩
    refine iteF' (by rw [decide_eq_true g0, decide_eq_true g6]; rfl) ?_
    refine ⟨_, rfl, ⟨_, rfl⟩, x.2.1, _, rfl, rfl, ⟨_, rfl, rfl, rfl, ?_⟩⟩
    rw [pc_ends hp]
    have e1 : decide (V.int x.2.2 = V.int 0) = decide (x.2.2 = 0) := by
      rw [dec_int]
      by_cases z : x.2.2 = 0
      · rw [z]
        rfl
      · rw [decide_eq_false z]
        exact beq_eq_false_iff_ne.mpr z
    rw [e1, decide_eq_true rfl]
    exact q H1 s1
end
end K37

set_option Elab.async false
set_option linter.all false
set_option maxRecDepth 100000
set_option maxHeartbeats 4000000
/-! {elt for tg in iter if .. for tg1 in iter1 if ..}: a set of ints by a comprehension of two clauses. -/
namespace L2
namespace EV
open PySem PySem.Spec PyProof.Rows
/-- the comprehension itself -/
abbrev sc2 (elt t0 i0 t1 i1 : Expr) (f0 f1 : List Expr) (sc : Scope) (pos : Pos) : Expr := .SetComp elt [⟨t0, i0, f0, 0⟩, ⟨t1, i1, f1, 0⟩] sc pos
section
variable (elt t0 i0 t1 i1 : Expr) (f0 f1 : List Expr) (sc : Scope) (pos : Pos) (it acc : Value) (env : Env)
theorem turn_outer : compTurn (sc2 elt t0 i0 t1 i1 f0 f1 sc pos) 0 it acc env = (do
    standAt i0.pos
    match ← pyNext it with
    | none => pure (.done .next)
    | some u =>
      letOwnedTupleGo t0 it u
      assign t0 env u
      let mut go := true
      for c in f0 do
        if go then go ← isTrue c env (eval c env)
      if go then
        let xs ← eval i1 env
        standAt i1.pos
        let xs ← foldedSetIterable i1 env xs
        let _ ← runOwn (.compStart (sc2 elt t0 i0 t1 i1 f0 f1 sc pos) 1 (← holding [xs] (pyIter xs)) acc env) env
      again (.compLoop (sc2 elt t0 i0 t1 i1 f0 f1 sc pos) 0 it acc env)) := by rfl
theorem turn_inner : compTurn (sc2 elt t0 i0 t1 i1 f0 f1 sc pos) 1 it acc env = (do
    standAt i1.pos
    match ← pyNext it with
    | none => pure (.done .next)
    | some u =>
      letOwnedTupleGo t1 it u
      assign t1 env u
      let mut go := true
      for c in f1 do
        if go then go ← isTrue c env (eval c env)
      if go then
        (do let y ← eval elt env; standAt elt.pos; let _ ← call (.builtin "set.add") [acc, y])
      again (.compLoop (sc2 elt t0 i0 t1 i1 f0 f1 sc pos) 1 it acc env)) := by rfl
end
section
variable {prog : Program} {w : World} {A : Around} {R : Result → Shared → Prop} {s : Shared} {elt t0 i0 t1 i1 : Expr} {f0 f1 : List Expr} {sc : Scope} {pos : Pos} {it acc : Value} {env : Env}
/-- what is wanted of an error in the block -/
abbrev Erx (prog : Program) (w : World) (A : Around) (env : Env) (R : Result → Shared → Prop) : Value → Shared → Prop := notedBy (model prog w) A env fun e s' => R (.error e) s'
/-- the tests of a clause -/
abbrev tests (fs : List Expr) (env : Env) : Sem Bool := forIn fs true fun c r => if r = true then do let ok ← isTrue c env (eval c env); pure (ForInStep.yield ok) else pure (ForInStep.yield r)
theorem loop_outer (fold : ∀ x, foldedSetIterable i1 env x = pure x) (J : Nat → Shared → Prop)
    (turn : ∀ n s, J n s → wpAny (model prog w) A (pyNext it) (fun r s1 => match r with
      | none => R (.ok .next) s1
      | some u => wpAny (model prog w) A (letOwnedTupleGo t0 it u) (fun _ s2 => wpAny (model prog w) A (assign t0 env u) (fun _ s3 => wpAny (model prog w) A (tests f0 env) (fun ok s4 =>
          if ok = true then wpAny (model prog w) A (eval i1 env) (fun xs s5 => wpAny (model prog w) A (pyIter xs) (fun itv s6 =>
            codeAny (model prog w) A (.compStart (sc2 elt t0 i0 t1 i1 f0 f1 sc pos) 1 itv acc env) (fun r s' => (∃ fl, r = .ok fl) ∧ ∃ m, m < n ∧ J m s') s6) (Erx prog w A env R) s5) (Erx prog w A env R) s4
          else ∃ m, m < n ∧ J m s4) (Erx prog w A env R) s3) (Erx prog w A env R) s2) (Erx prog w A env R) s1) (Erx prog w A env R) s) (n : Nat) (h : J n s) :
    codeAny (model prog w) A (.compLoop (sc2 elt t0 i0 t1 i1 f0 f1 sc pos) 0 it acc env) R s := by
  refine codeAny_loop rfl J (fun n s hJ => ?_) n h
  show wpAny _ A ((compTurn (sc2 elt t0 i0 t1 i1 f0 f1 sc pos) 0 it acc env).onRaise (fun x => do noteFrame x env; theTreesLotGoes x)) _ _ s
  refine wpAny_noted ?_
  rw [turn_outer]
  refine wpAny_bind (wpAny_standAt (wpAny_bind (wpAny_mono (turn n s hJ) (fun r s1 q1 => ?_) fun _ _ z => z)))
  cases r with
  | none => exact wpAny_pure q1
  | some u =>
    refine wpAny_bind (wpAny_mono q1 (fun _ s2 q2 => ?_) fun _ _ z => z)
    refine wpAny_bind (wpAny_mono q2 (fun _ s3 q3 => ?_) fun _ _ z => z)
    refine wpAny_bind (wpAny_mono q3 (fun ok s4 q4 => ?_) fun _ _ z => z)
    cases ok with
    | false => exact wpAny_pure ⟨rfl, q4⟩
    | true =>
      refine wpAny_bind (wpAny_mono q4 (fun xs s5 q5 => ?_) fun _ _ z => z)
      refine wpAny_bind (wpAny_standAt (wpAny_bind (wpAny_of_eq (fold xs) ?_)))
      refine wpAny_bind (wpAny_holding (wpAny_mono q5 (fun itv s6 q6 => ?_) fun _ _ z => z))
      refine wpAny_bind (wpAny_runOwn ?_)
      rw [Around.mark_none]
      refine codeAny_mono q6 fun r s' hr => ?_
      obtain ⟨⟨fl, rfl⟩, hm⟩ := hr
      first
        | exact wpAny_pure ⟨rfl, hm⟩
        | exact wpAny_bind (wpAny_pure (wpAny_pure ⟨rfl, hm⟩))
theorem loop_inner (J : Nat → Shared → Prop)
    (turn : ∀ n s, J n s → wpAny (model prog w) A (pyNext it) (fun r s1 => match r with
      | none => R (.ok .next) s1
      | some u => wpAny (model prog w) A (letOwnedTupleGo t1 it u) (fun _ s2 => wpAny (model prog w) A (assign t1 env u) (fun _ s3 => wpAny (model prog w) A (tests f1 env) (fun ok s4 =>
          if ok = true then wpAny (model prog w) A (eval elt env) (fun y s5 => wpAny (model prog w) A (call (.builtin "set.add") [acc, y]) (fun _ s6 => ∃ m, m < n ∧ J m s6) (Erx prog w A env R) s5) (Erx prog w A env R) s4
          else ∃ m, m < n ∧ J m s4) (Erx prog w A env R) s3) (Erx prog w A env R) s2) (Erx prog w A env R) s1) (Erx prog w A env R) s) (n : Nat) (h : J n s) :
    codeAny (model prog w) A (.compLoop (sc2 elt t0 i0 t1 i1 f0 f1 sc pos) 1 it acc env) R s := by
  refine codeAny_loop rfl J (fun n s hJ => ?_) n h
  show wpAny _ A ((compTurn (sc2 elt t0 i0 t1 i1 f0 f1 sc pos) 1 it acc env).onRaise (fun x => do noteFrame x env; theTreesLotGoes x)) _ _ s
  refine wpAny_noted ?_
  rw [turn_inner]
  refine wpAny_bind (wpAny_standAt (wpAny_bind (wpAny_mono (turn n s hJ) (fun r s1 q1 => ?_) fun _ _ z => z)))
  cases r with
  | none => exact wpAny_pure q1
  | some u =>
    refine wpAny_bind (wpAny_mono q1 (fun _ s2 q2 => ?_) fun _ _ z => z)
    refine wpAny_bind (wpAny_mono q2 (fun _ s3 q3 => ?_) fun _ _ z => z)
    refine wpAny_bind (wpAny_mono q3 (fun ok s4 q4 => ?_) fun _ _ z => z)
    cases ok with
    | false => exact wpAny_pure ⟨rfl, q4⟩
    | true =>
      refine wpAny_bind (wpAny_bind (wpAny_mono q4 (fun y s5 q5 => ?_) fun _ _ z => z))
      refine wpAny_bind (wpAny_standAt (wpAny_bind (wpAny_mono q5 (fun _ s6 q6 => ?_) fun _ _ z => z)))
      exact wpAny_pure (wpAny_pure ⟨rfl, q6⟩)
/-- a clause's start: its walk is begun already, or begins here -/
theorem start_inner (h0 : codeAny (model prog w) A (.compLoop (sc2 elt t0 i0 t1 i1 f0 f1 sc pos) 1 it acc env) R s)
    (h : wpAny (model prog w) A (pyIter it) (fun itv s' => codeAny (model prog w) A (.compLoop (sc2 elt t0 i0 t1 i1 f0 f1 sc pos) 1 itv acc env) R s') (Erx prog w A env R) s) :
    codeAny (model prog w) A (.compStart (sc2 elt t0 i0 t1 i1 f0 f1 sc pos) 1 it acc env) R s := by
  refine codeAny_of_tree ?_
  show wpAny _ _ ((compStart (sc2 elt t0 i0 t1 i1 f0 f1 sc pos) 1 it acc env).onRaise (fun x => do noteFrame x env; standAt theWindowsPlace)) _ _ s
  refine wpAny_notedAt ?_
  unfold compStart
  show wpAny _ _ (ask >>= _) _ _ s
  refine wpAny_bind (wpAny_askSetting (wpAny_ite ?_))
  split
  · first
      | exact wpAny_bind (wpAny_pure (wpAny_pure (And.intro rfl h0)))
      | exact wpAny_pure (And.intro rfl h0)
  · refine wpAny_bind (wpAny_rule ?_)
    show wpAny _ _ (standAt i1.pos >>= _) _ _ s
    exact wpAny_bind (wpAny_standAt (wpAny_bind (wpAny_mono h (fun itv s' q => wpAny_pure (And.intro rfl q)) fun _ _ z => z)))
end
/-- the set at D has got y -/
def addedS (w : World) (D : Addr) (y : V) (H : Hp) (N : Hp → Prop) : Prop := ∃ (k : Int) (S : Int → Bool) (n : Nat), y = .int k ∧ H D = some (SetO w D S n) ∧ n + 1 < scanBound ∧
  N (upd H D (SetO w D (fun j => S j || decide (j = k)) (if S k = true then n else n + 1)))
/-- the reading: D the new set; behind the first clause's store and tests the second walk, from which Nx is reached -/
def tSc2 (w : World) (wi : TI) (g : TG) (tt : TT) (wi1 : TI) (g1 : TG) (tt1 : TT) (te : TE) (vs vs1 : List Nat) : TE := fun σ H Q => wi σ H fun J H1 => ∀ D, H1 D = none →
  ∃ W : Nat → Nat → Hp → Prop, (∃ m, W 0 m (upd H1 D (SetO w D (fun _ => false) 0))) ∧ ∀ i m H, W i m H →
    (J.stop i H ∧ Q (.ref D) H) ∨ (J.go i H ∧ ∃ Nx : Hp → Prop, (∀ H', Nx H' → ∃ m', m' < m ∧ W (i + 1) m' H') ∧ ∀ x H', J.yld i H x H' → g x (wipe σ vs) H' fun σ2 H2 => wipe σ2 vs = wipe σ vs ∧ tt σ2 H2 fun b H3 =>
      if b = true then wi1 σ2 H3 fun J1 H4 => ∃ W1 : Nat → Nat → Hp → Prop, (∃ m, W1 0 m H4) ∧ ∀ j k H, W1 j k H →
        (J1.stop j H ∧ Nx H) ∨ (J1.go j H ∧ ∃ Nx1 : Hp → Prop, (∀ H', Nx1 H' → ∃ k', k' < k ∧ W1 (j + 1) k' H') ∧ ∀ x H', J1.yld j H x H' → g1 x (wipe σ2 vs1) H' fun σ3 H5 => wipe σ3 vs1 = wipe σ2 vs1 ∧ tt1 σ3 H5 fun b H6 =>
          if b = true then te σ3 H6 fun y H7 => addedS w D y H7 Nx1 else Nx1 H6)
      else Nx H3)
section
variable {X : Cx}
theorem add_in {pins : List (Addr × Obj)} {σ : L2.St} {H : Hp} {s : Shared} {D : Addr} {y : V} {u : Value} {N : Hp → Prop} {Q : Value → Shared → Prop} (I : Inv X pins σ H s) (r : RelV y u) (a : addedS X.w D y H N)
    (h : ∀ H' s', Inv X pins σ H' s' → N H' → Q .none s') : wpAny (model X.prog X.w) X.A (call (.builtin "set.add") [.ref D, u]) Q X.xe s := by
  obtain ⟨k, S, n, rfl, hD, room, nx⟩ := a
  refine thn (mt_sadd pins s σ H (.ref D) [.int k] (.ref D) [u] (fun v H' => v = .non ∧ N H') I rfl (.cons r .nil) ⟨D, k, S, n, rfl, rfl, hD, room, rfl, nx⟩) fun v s' q => ?_
  obtain ⟨v', H', I', rv, rfl, nx'⟩ := q
  obtain rfl : v = Value.none := rv
  exact h H' s' I' nx'
variable {elt tg iter tg1 iter1 : Expr} {ifs ifs1 : List Expr} {scope : Scope} {own : List (Str × Nat)} {vs1 : List Nat} {pos : Pos} {wi wi1 : TI} {g g1 : TG} {tt tt1 : TT} {te : TE}
theorem pe_sc2 (hc : X.calm = true) (hN : X.N.Nodup) (hi : PI X tg iter wi) (ok : BlkOk X.N X.env.scope scope own) (hv : ∀ i ∈ vs1, i ∈ own.map (·.2))
    (blk : ∀ (s : Shared) (H : Hp) (C : Addr) (cl : List (Str × Addr)) (fp : List Addr), PG (X.blk s H scope (compEnvC scope cl C X.env) fp) tg g ∧ PTs (X.blk s H scope (compEnvC scope cl C X.env) fp) ifs tt ∧
      PI (X.blk s H scope (compEnvC scope cl C X.env) fp) tg1 iter1 wi1 ∧ PG (X.blk s H scope (compEnvC scope cl C X.env) fp) tg1 g1 ∧ PTs (X.blk s H scope (compEnvC scope cl C X.env) fp) ifs1 tt1 ∧
      PE (X.blk s H scope (compEnvC scope cl C X.env) fp) elt te)
    (fold : ∀ x, foldedSetIterable iter X.env x = pure x := by intro _; rfl) (fold1 : ∀ env x, foldedSetIterable iter1 env x = pure x := by intro _ _; rfl) :
    PE X (sc2 elt tg iter tg1 iter1 ifs ifs1 scope pos) (tSc2 X.w wi g tt wi1 g1 tt1 te (own.map (·.2)) vs1) := by
  refine ⟨fun pins s σ H Q I h => ?_⟩
  rw [PpSet.eval_SetComp]
  have cellOf : ∀ y ∈ scope.names, y.2 = .free → ∃ c, X.env.cells.lookup y.1 = some c := fun y hy e => (ok.free y hy e).elim (fun k => I.ok.has _ (.inl k)) fun k => I.ok.has _ (.inr k)
  refine wpAny_comprehension_free (use := none) rfl fold (closure_ok cellOf) ok.kind (fun y hy e => by rw [ok.uniq y hy, e]) (thn (hi.run pins s σ H _ I h) fun xv s1 hx => thn hx fun itv s2 h2 => ?_)
  obtain ⟨it, fp, tn, J, H2, e, I2, T, st2, f2, q⟩ := h2
  subst e
  refine PpSet.newSet_ok (newEnv_comp ?_)
  generalize hD : s2.heap.objs.size = D
  have freeD : H2 D = none := I2.hok.fresh (Nat.le_of_eq hD)
  obtain ⟨W, ⟨m0, w0⟩, turn⟩ := q D freeD
  generalize hso : ({ cls := .type "set", dict := none, data := .set #[] 0 (.fresh 0 0 (!X.w.params.followText "set-order")) } : Obj) = so
  have keepSo : ∀ b o, s2.heap.get? b = some o → (s2.heap.push so).get? b = some o := fun b o e => Heap.get?_push_of_some _ e
  have I3 : Inv X pins σ (upd H2 D (SetO X.w D (fun _ => false) 0)) { s2 with heap := s2.heap.push so } := by
    refine I2.laid (t' := s2.toks) keepSo (Nat.le_of_eq hD) ?_
    rw [← hD, ← hso]
    exact setO_new (setR_fresh X.w)
  generalize hs3 : ({ s2 with heap := s2.heap.push so } : Shared) = s3 at I3 ⊢
  have h3 : s3.heap = s2.heap.push so := by rw [← hs3]
  have below : ∀ b ∈ fp, b < s2.heap.objs.size := fun b hb => (T.obj _ _ st2 b hb).elim fun o e => Heap.lt_size e.1
  generalize hH3 : upd H2 D (SetO X.w D (fun _ => false) 0) = H3 at I3 w0 ⊢
  have f3 : ∀ b ∈ fp, FpOk X pins H3 b ∧ b < s3.heap.objs.size := fun b hb => by
    have lt := below b hb
    refine ⟨⟨?_, (f2 b hb).2⟩, by rw [h3, Heap.size_push]; exact Nat.lt_succ_of_lt lt⟩
    rw [← hH3, upd_ne (by rw [← hD]; exact Nat.ne_of_lt lt)]
    exact (f2 b hb).1
  have st3 : tn 0 s3.heap := T.keep _ _ _ st2 fun b _ o e => by rw [h3]; exact keepSo b o e
  have I4 := block_start I3 ok hN f3
  obtain ⟨pg, pt, pi1, pg1, pt1, pe⟩ := blk s3 H3 s3.heap.objs.size (cellsFrom (s3.heap.objs.size + 1) scope.names (cloFrom X.env.cells scope.names [])) fp
  show codeAny _ _ (.compStart (sc2 elt tg iter tg1 iter1 ifs ifs1 scope pos) 0 (.ref it) (.ref D) (compEnvC scope (cellsFrom (s3.heap.objs.size + 1) scope.names (cloFrom X.env.cells scope.names [])) s3.heap.objs.size X.env))
    (compPost (model X.prog X.w) X.A X.xe none (EP X pins σ Q) (.ref D) s3.heap.objs.size) { s3 with heap := pushCells (s3.heap.push { cls := .type "dict", data := .dict #[] }) scope.names }
  generalize hce : compEnvC scope (cellsFrom (s3.heap.objs.size + 1) scope.names (cloFrom X.env.cells scope.names [])) s3.heap.objs.size X.env = ce at I4 pg pt pi1 pg1 pt1 pe ⊢
  have locals : ce.locals = s3.heap.objs.size := by
    subst hce
    rfl
  generalize hs4 : ({ s3 with heap := pushCells (s3.heap.push { cls := .type "dict", data := .dict #[] }) scope.names } : Shared) = s4 at I4 ⊢
  have st4 : tn 0 s4.heap := T.keep _ _ _ st3 fun b _ o e => by
    rw [← hs4]
    exact pushCells_keeps _ _ _ _ (Heap.get?_push_of_some _ e)
  have clearOf : ∀ {H' : Hp}, H3 = H' → ∀ b ∈ fp, H' b = none := fun e b hb => by
    rw [← e]
    exact (f3 b hb).1.1
  -- a record of the outer walk, within the block
  have outer : ∀ {σ' : L2.St} {H' : Hp} {s' : Shared}, Inv (X.blk s3 H3 scope ce fp) [] σ' H' s' → (∀ b ∈ fp, H' b = none) → ∀ b ∈ fp, FpOk (X.blk s3 H3 scope ce fp) [] H' b := fun I' clear b hb =>
    ⟨clear b hb, (I'.ok.exf b hb).1, I'.ok.exfs b hb, .inl hb, fun x c e => (I'.ok.exf b hb).2 x c e, fun p hp => by simp at hp⟩
  -- what the outer loop keeps
  let Keep : Nat → Shared → Prop := fun n s' => ∃ i H', Inv (X.blk s3 H3 scope ce fp) [] (wipe σ (own.map (·.2))) H' s' ∧ tn i s'.heap ∧ (∀ b ∈ fp, H' b = none) ∧ W i n H'
  have loop : codeAny (model X.prog X.w) X.A (.compLoop (sc2 elt tg iter tg1 iter1 ifs ifs1 scope pos) 0 (.ref it) (.ref D) ce) (compPost (model X.prog X.w) X.A X.xe none (EP X pins σ Q) (.ref D) s3.heap.objs.size) s4 := by
    refine loop_outer (fold1 ce) Keep ?_ m0 ⟨0, H3, I4, st4, clearOf rfl, w0⟩
    rintro n s5 ⟨i, H5, I5, st5, n5, w5⟩
    rcases turn i n H5 w5 with ⟨stop, done⟩ | ⟨go, Nx, hNx, one⟩
    · refine thnF (T.done (X.blk s3 H3 scope ce fp) rfl rfl rfl hc i [] s5 _ H5 (fun _ _ => False) I5 (outer I5 n5) st5 stop) fun r s6 ⟨hr, I6⟩ => ?_
      subst hr
      have I7 : Inv X pins σ H5 s6 := I3.call' (ch := fp) I6.os I6.base I6.hok I6.bare fun b hb => by
        obtain ⟨⟨z1, z2, z3, z4, z5, z6⟩, _⟩ := f3 b hb
        exact ⟨z4, z2, z5, z6⟩
      have free5 : H5 s3.heap.objs.size = none := by
        have z : H5 ce.locals = none := I6.free
        rw [locals] at z
        exact z
      obtain ⟨m, hn, _⟩ := I6.loc
      have hn : s6.heap.Ns ce.locals m := hn
      rw [locals] at hn
      obtain ⟨y0, y1, y2, y3, y4, y5⟩ := I3.fpOk (Nat.le_refl _) free5
      refine ⟨m, hn, fun h'' sb => ?_⟩
      exact ⟨.ref D, H5, I7.turned (t' := s6.toks) (fun b o nb e => (sb.2 b nb).trans e) y0 y1 y3 y4 y5, rfl, done⟩
    · refine thnF (T.item (X.blk s3 H3 scope ce fp) rfl rfl rfl hc i [] s5 _ H5 (fun _ _ => False) I5 (outer I5 n5) st5 go) fun r s6 ⟨u, hr, h6⟩ => ?_
      subst hr
      refine thnF h6 fun _ s7 ⟨x, H7, I7, r7, y7, st7, n7⟩ => ?_
      refine thnF (pg.run _ s7 _ H7 x u _ (I7.pinned (outer I7 n7) (T.obj _ _ st7)) r7 (one x H7 y7)) fun _ s8 ⟨σ8, H8, I8, hw8, q8⟩ => ?_
      refine thnF (pt.run _ s8 σ8 H8 _ I8 q8) fun b s9 ⟨H9, I9, q9⟩ => ?_
      have len8 : (wipe σ (own.map (·.2))).length = σ8.length := by rw [← hw8, wipe_length]
      have know8 : ∀ (j : Nat) v, (wipe σ (own.map (·.2)))[j]? = some (some v) → σ8[j]? = some (some v) ∧ j ∉ own.map (·.2) := fun j v e => by
        rw [← hw8] at e
        exact wipe_some e
      -- the turn's end, from any slots that know what the block knew
      have fin : ∀ {σ9 : L2.St} {s' : Shared} {H' : Hp}, Inv (X.blk s3 H3 scope ce fp) ([] ++ pinsAt fp s7.heap) σ9 H' s' → (wipe σ (own.map (·.2))).length = σ9.length →
          (∀ (j : Nat) v, (wipe σ (own.map (·.2)))[j]? = some (some v) → σ9[j]? = some (some v)) → Nx H' → ∃ m, m < n ∧ Keep m s' := fun {σ9 s' H'} I' hl hk nx => by
        obtain ⟨m', lt, w'⟩ := hNx H' nx
        have pinned : ∀ b ∈ fp, ∀ o, s7.heap.get? b = some o → s'.heap.get? b = some o ∧ H' b = none := fun b hb o e => by
          have z := I'.pin (b, o) (List.mem_append_right _ (List.mem_append_right _ (mem_pinsAt hb e)))
          exact ⟨z.1, z.2.1⟩
        refine ⟨m', lt, i + 1, H', (I'.unpinned (pins := [])).weak hl hk, T.keep _ _ _ st7 fun b hb o e => (pinned b hb o e).1, fun b hb => ?_, w'⟩
        obtain ⟨o, e, _⟩ := T.obj _ _ st7 b hb
        exact (pinned b hb o e).2
      cases b with
      | false =>
        simp only [Bool.false_eq_true, if_false] at q9 ⊢
        exact fin I9 len8 (fun j v e => (know8 j v e).1) q9
      | true =>
        simp only [if_true] at q9 ⊢
        refine thnF (pi1.run _ s9 σ8 H9 _ I9 q9) fun xv s10 hx => thnF hx fun itv s11 h11 => ?_
        obtain ⟨it1, fp1, tn1, J1, H11, e1, I11, T1, st11, f11, W1, ⟨m1, w1⟩, turn1⟩ := h11
        subst e1
        have inner : ∀ {H' : Hp}, (∀ b ∈ fp1, H' b = none) → ∀ b ∈ fp1, FpOk (X.blk s3 H3 scope ce fp) ([] ++ pinsAt fp s7.heap) H' b := fun clear b hb => ⟨clear b hb, (f11 b hb).2⟩
        let Keep1 : Nat → Shared → Prop := fun k s' => ∃ j H', Inv (X.blk s3 H3 scope ce fp) ([] ++ pinsAt fp s7.heap) (wipe σ8 vs1) H' s' ∧ tn1 j s'.heap ∧ (∀ b ∈ fp1, H' b = none) ∧ W1 j k H'
        have loop1 : codeAny (model X.prog X.w) X.A (.compLoop (sc2 elt tg iter tg1 iter1 ifs ifs1 scope pos) 1 (.ref it1) (.ref D) ce) (fun r s' => (∃ fl, r = .ok fl) ∧ ∃ m, m < n ∧ Keep m s') s11 := by
          refine loop_inner Keep1 ?_ m1 ⟨0, H11, I11.weak (wipe_length _ _) (fun j v e => (wipe_some e).1), st11, fun b hb => (f11 b hb).1, w1⟩
          rintro k s12 ⟨j, H12, I12, st12, n12, w12⟩
          rcases turn1 j k H12 w12 with ⟨stop1, nx1⟩ | ⟨go1, Nx1, hNx1, one1⟩
          · refine thnF (T1.done (X.blk s3 H3 scope ce fp) rfl rfl rfl hc j _ s12 (wipe σ8 vs1) H12 (fun _ _ => False) I12 (inner n12) st12 stop1) fun r s13 ⟨hr, I13⟩ => ?_
            subst hr
            refine ⟨⟨_, rfl⟩, fin I13 (len8.trans (wipe_length σ8 vs1).symm) (fun j v e => ?_) nx1⟩
            obtain ⟨z1, z2⟩ := know8 j v e
            rw [wipe_out fun z => z2 (hv j z)]
            exact z1
          · refine thnF (T1.item (X.blk s3 H3 scope ce fp) rfl rfl rfl hc j _ s12 (wipe σ8 vs1) H12 (fun _ _ => False) I12 (inner n12) st12 go1) fun r s13 ⟨u1, hr, h13⟩ => ?_
            subst hr
            refine thnF h13 fun _ s14 ⟨x1, H14, I14, r14, y14, st14, n14⟩ => ?_
            refine thnF (pg1.run _ s14 (wipe σ8 vs1) H14 x1 u1 _ (I14.pinned (inner n14) (T1.obj _ _ st14)) r14 (one1 x1 H14 y14)) fun _ s15 ⟨σ15, H15, I15, hw15, q15⟩ => ?_
            refine thnF (pt1.run _ s15 σ15 H15 _ I15 q15) fun b1 s16 ⟨H16, I16, q16⟩ => ?_
            have fin1 : ∀ {s' : Shared} {H' : Hp}, Inv (X.blk s3 H3 scope ce fp) (([] ++ pinsAt fp s7.heap) ++ pinsAt fp1 s14.heap) σ15 H' s' → Nx1 H' → ∃ m, m < k ∧ Keep1 m s' := fun {s' H'} I' nx => by
              obtain ⟨m', lt, w'⟩ := hNx1 H' nx
              have pinned : ∀ b ∈ fp1, ∀ o, s14.heap.get? b = some o → s'.heap.get? b = some o ∧ H' b = none := fun b hb o e => by
                have z := I'.pin (b, o) (List.mem_append_right _ (List.mem_append_right _ (mem_pinsAt hb e)))
                exact ⟨z.1, z.2.1⟩
              refine ⟨m', lt, j + 1, H', I'.unpinned.weak (by rw [← hw15, wipe_length]) (fun j v e => by rw [← hw15] at e; exact (wipe_some e).1), T1.keep _ _ _ st14 fun b hb o e => (pinned b hb o e).1, fun b hb => ?_, w'⟩
              obtain ⟨o, e, _⟩ := T1.obj _ _ st14 b hb
              exact (pinned b hb o e).2
            cases b1 with
            | false =>
              simp only [Bool.false_eq_true, if_false] at q16 ⊢
              exact fin1 I16 q16
            | true =>
              simp only [if_true] at q16 ⊢
              refine thnF (pe.run _ s16 σ15 H16 _ I16 q16) fun z s17 ⟨yv, H17, I17, r17, ad⟩ => ?_
              exact thnF (add_in (X := X.blk s3 H3 scope ce fp) (Q := fun _ s' => ∃ m, m < k ∧ Keep1 m s') I17 r17 ad fun H' s18 I18 nx => fin1 I18 nx) fun _ _ z => z
        exact start_inner loop1 (T1.self X.A 0 _ _ _ st11 loop1)
  exact PpSet.codeAny_compStart_set loop (T.self X.A 0 _ _ _ st4 loop)
end
end EV
end L2

set_option Elab.async false
set_option linter.all false
set_option maxRecDepth 100000
set_option maxHeartbeats 4000000
/-! enumerate over a tuple. -/
namespace PySem
open Sem (wp)
open AutoSeq1 (wpAny_loadPart')
theorem meets_enumerate_newT (l : Addr) (items : Array Value) (n : Nat) (dct : Option Addr) (sl : Array (Option Value)) :
    Meets (Builtin.«enumerate.__new__» ⟨[.type "enumerate", .ref l], []⟩) (fun _ R s => s.heap.get? l = some { cls := .type "tuple", dict := dct, data := .seq items n, slots := sl } ∧
      R (.ok (.ret (.ref (s.heap.push { cls := .type "tuple_iterator", data := .fields #[.ref l, .int 0 0] }).objs.size)))
        { s with heap := (s.heap.push { cls := .type "tuple_iterator", data := .fields #[.ref l, .int 0 0] }).push { cls := .type "enumerate", data := .fields #[.none, .bool false, .ref s.heap.objs.size, rawInt 0, .none, .none] } }) :=
  .of_wp fun prog w A R s h => by
    obtain ⟨hp, g, d, tk, os⟩ := s; obtain ⟨hl, h⟩ := h
    have hsub := sub_enumerate
    have hL : Heap.IsTuple (Shared.heap ⟨hp, g, d, tk, os⟩) l items := ⟨_, hl, rfl, n, rfl⟩
    wp_walk using wpAny_loadPart' hl
    refine wpAny_stack_any fun st => wpAny_pure ?_
    split
    · rename_i c _ _ _ _ _
      cases (c == Value.type "enumerate")
      · wp_walk using wpAny_loadPart' hl, wpAny_pyIter_tuple hL
        exact ⟨_, rfl, h⟩
      · wp_walk using wpAny_loadPart' hl, wpAny_pyIter_tuple hL
        exact ⟨_, rfl, h⟩
    · wp_walk using wpAny_loadPart' hl, wpAny_pyIter_tuple hL
      exact ⟨_, rfl, h⟩
section
variable {prog : Program} {w : World} {A : Around} {E : Value → Shared → Prop} {s : Shared}
theorem call_enumerate_tuple {l : Addr} {items : Array Value} {Q : Value → Shared → Prop} (hL : s.heap.IsTuple l items)
    (h : ∀ h', IsEnum h' (s.heap.objs.size + 1) s.heap.objs.size 0 .none → h'.IsTupleIter s.heap.objs.size l 0 → h'.objs.size = s.heap.objs.size + 2 →
      (∀ b o, s.heap.get? b = some o → h'.get? b = some o) → Q (.ref (s.heap.objs.size + 1)) { s with heap := h' }) :
    wpAny (model prog w) A (call (.type "enumerate") [.ref l]) Q E s := by
  obtain ⟨⟨c, dct, dt, sl⟩, hl, hc, n, hd⟩ := hL
  replace hc : c = .type "tuple" := hc
  replace hd : dt = .seq items n := hd
  subst hc hd
  refine callType_new F.called_enumerate (by decide) (F.typeCall_enumerate_1 _) (F.newCall_enumerate_1 _) (fun obj => F.args_object_init_2 obj _) F.entry_enumerate_new
    (meets_enumerate_newT l items n dct sl) ⟨hl, ?_⟩
  have hz : (s.heap.push { cls := .type "tuple_iterator", data := .fields #[.ref l, .int 0 0] }).objs.size = s.heap.objs.size + 1 := Heap.size_push ..
  show _ ∧ _
  rw [hz]
  have he : IsEnum ((s.heap.push { cls := .type "tuple_iterator", data := .fields #[.ref l, .int 0 0] }).push
      { cls := .type "enumerate", data := .fields #[.none, .bool false, .ref s.heap.objs.size, rawInt 0, .none, .none] }) (s.heap.objs.size + 1) s.heap.objs.size 0 .none := by
    have := Heap.get?_push_size (s.heap.push { cls := .type "tuple_iterator", data := .fields #[.ref l, .int 0 0] })
      (o := { cls := .type "enumerate", data := .fields #[.none, .bool false, .ref s.heap.objs.size, rawInt 0, .none, .none] }) rfl
    rw [hz] at this; exact this
  refine ⟨⟨_, he, rfl⟩, h _ he ⟨_, Heap.get?_push_of_some _ (Heap.get?_push_size _ rfl), rfl, rfl⟩ (by rw [Heap.size_push, hz]) fun b o x => Heap.get?_push_of_some _ (Heap.get?_push_of_some _ x)⟩
end
end PySem
namespace L2
open PySem PySem.Spec PyProof.Rows
def IteT (K : PySem.W.Frag) (a : Addr) : It :=
  ⟨fun i H => ∃ (xs : List V) (x : V), SqT K H a xs ∧ xs[i]? = some x, fun i H v H' => ∃ T x, v = .ref T ∧ H T = none ∧ H' = upd H T (.tup [.int (i : Nat), x]) ∧ ∀ xs, SqT K H a xs → xs[i]? = some x, fun i H => ∃ xs : List V, SqT K H a xs ∧ xs.length = i⟩
theorem turn_enumT {P : Program} {w : World} {K : PySem.W.Frag} {elts : List Expr} {kk : Nat} {tpos : Pos} (a e it : Addr) (hai : a ≠ it) (hae : a ≠ e) :
    Turn P w K (.Tuple elts kk tpos) (IteT K a) [e, it] e (fun i h => (∃ old, IsEnum h e it ((i : Nat) : Int) old) ∧ h.IsTupleIter it a i ∧ e ≠ it) where
  mem := by simp
  obj := fun i h st b hb => by
    obtain ⟨⟨old, he⟩, ⟨o, ho, hc, hd⟩, _⟩ := st
    have e' : b = e ∨ b = it := by simpa using hb
    rcases e' with z | z
    · rw [z]; exact ⟨_, he, fun v q => nomatch q⟩
    · rw [z]; exact ⟨o, ho, fun v q => by rw [hd] at q; cases q⟩
  keep := fun i h h' st k => let ⟨⟨old, he⟩, hi, hne⟩ := st; ⟨⟨old, k e (by simp) _ he⟩, hi.at fun o q => k it (by simp) o q, hne⟩
  item := by
    intro X hP hw hK hc i pins s σ H E I hf st hg
    subst hP hw hK
    obtain ⟨⟨old, he⟩, hit, hne⟩ := st
    obtain ⟨xs, x, hq, hx⟩ := hg
    obtain ⟨its, rv, p, hz⟩ := I.tuple hq
    obtain ⟨u, hu, ru⟩ := rv.get hx
    have hel : e < s.heap.objs.size := Heap.lt_size he
    have hil : it < s.heap.objs.size := by obtain ⟨_, q, _⟩ := hit; exact Heap.lt_size q
    have hlt : i < its.toArray.size := by
      have := (List.getElem?_eq_some_iff.mp hu).1
      simpa using this
    refine wpAny_pyNext_enum_itemD (Draws.tuple (A := X.A.in1) (show X.A.in1.handled = none from I.ok.hd hc) it a hai its.toArray) he ⟨hit, show s.heap.IsTuple a its.toArray from p⟩ hlt hne (by simp [hne, Ne.symm hae]) fun u' h' tk hu' ho st' hT hsz hk => ?_
    have e0 : u' = u := by
      have q1 : its[i]? = some u' := by simpa using hu'
      rw [hu] at q1
      exact (Option.some.inj q1).symm
    subst e0
    obtain ⟨hit', _⟩ := st'
    refine ⟨_, rfl, wpAny_letOwnedTupleGo_enum (s := { s with heap := h', toks := tk + 1 }) ho fun h'' he' sb => ?_⟩
    have hT2 : h''.get? s.heap.objs.size = some { cls := .type "tuple", data := .seq #[.int i tk, u'] } := (sb.2 _ (Nat.ne_of_gt hel)).trans hT
    have new : ObjOk X.prog X.w (upd H s.heap.objs.size (.tup [.int (i : Nat), x])) h'' s.heap.objs.size (.tup [.int (i : Nat), x]) :=
      ⟨by show 2 ≤ sizeLine; decide, [.int i tk, u'], .cons ⟨_, rfl⟩ (.cons ru .nil), ⟨_, hT2, rfl, _, rfl⟩⟩
    have I1 : Inv X pins σ (upd H s.heap.objs.size (.tup [.int (i : Nat), x])) { s with heap := h'', toks := tk + 1 } :=
      I.turnedNew (ch := [e, it]) (fun b ob hb q => (sb.2 b (fun z => hb (by simp [z]))).trans (hk b ob (fun z => hb (by simp [z])) (fun z => hb (by simp [z])) q)) hf (Nat.le_refl _) new
    refine ⟨.ref s.heap.objs.size, _, I1, rfl, ⟨_, x, rfl, I.hok.fresh (Nat.le_refl _), rfl, fun ys hy => by rw [I.tuple_inj hy hq]; exact hx⟩, ⟨⟨u', ?_⟩, hit'.at fun o q => (sb.2 it (Ne.symm hne)).trans q, hne⟩, fun b hb => ?_⟩
    · have e1 : ((i + 1 : Nat) : Int) = (i : Int) + 1 := by omega
      rw [e1]; exact he'
    · have hb' : b < s.heap.objs.size := by
        have e' : b = e ∨ b = it := by simpa using hb
        rcases e' with z | z
        · rw [z]; exact hel
        · rw [z]; exact hil
      rw [upd_ne (Nat.ne_of_lt hb')]
      exact (hf b hb).1
  done := by
    intro X hP hw hK hc i pins s σ H E I hf st hg
    subst hP hw hK
    obtain ⟨⟨old, he⟩, hit, hne⟩ := st
    obtain ⟨xs, hq, hx⟩ := hg
    obtain ⟨its, rv, p, hz⟩ := I.tuple hq
    obtain ⟨f0, f1, f2, f3, f4, f5⟩ := hf it (by simp)
    have hl := rv.length
    have hn : its.toArray.size = i := by simp; omega
    exact wpAny_pyNext_enum_endD (Draws.tuple (A := X.A.in1) (show X.A.in1.handled = none from I.ok.hd hc) it a hai its.toArray) he ⟨hn.symm ▸ hit, show s.heap.IsTuple a its.toArray from p⟩ fun h' eb => ⟨rfl, I.turned (t' := s.toks) (fun b o hb q => eb b o hb q) f0 f1 f3 f4 f5⟩
  self := fun A i s Q E st h => let ⟨⟨_, he⟩, _⟩ := st; wpAny_pyIter_enum he h
def iEnumT (K : PySem.W.Frag) (ta : TA) : TI := fun σ H R => ta σ H fun vs H1 => ∃ a xs, vs = [.ref a] ∧ SqT K H1 a xs ∧ R (IteT K a) H1
theorem pi_enumT {X : Cx} {e : Expr} {ta : TA} {p pos tpos : Pos} {elts : List Expr} {kk : Nat} (hg : Gl X "enumerate") (hm : X.mg "enumerate" = none) (ha : PA X [e] ta) (hs : starEach [e] X.env = [(false, eval e X.env)] := by rfl) :
    PI X (.Tuple elts kk tpos) (.Call (.Name "enumerate" p) [e] [] pos) (iEnumT X.K ta) := by
  refine ⟨fun pins s σ H R I h => ?_⟩
  refine Call_ (ld_blt I hg hm boot_enumerate (PyProof.Rows.callWith_type1 (thn (ha.run pos pins s σ H _ I h) fun us s1 ⟨vs, H1, I1, r1, q1⟩ => ?_) hs rfl))
  obtain ⟨a, xs, ex, hq, q⟩ := q1
  subst ex
  cases r1 with
  | cons r rr =>
    cases rr
    cases r
    obtain ⟨its, rv, p', hz⟩ := I1.tuple hq
    have hal : a < s1.heap.objs.size := by
      obtain ⟨o, q, _⟩ := id p'
      exact Heap.lt_size q
    refine call_enumerate_tuple (show s1.heap.IsTuple a its.toArray from p') fun h' he hit hsz hk => wpAny_pyIter_enum he ?_
    have I2 : Inv X pins σ H1 { s1 with heap := h' } := I1.kept (t' := s1.toks) hk
    refine ⟨s1.heap.objs.size + 1, [s1.heap.objs.size + 1, s1.heap.objs.size], _, _, H1, rfl, I2, turn_enumT a (s1.heap.objs.size + 1) s1.heap.objs.size (Nat.ne_of_lt hal) (Nat.ne_of_lt (Nat.lt_succ_of_lt hal)), ⟨⟨.none, he⟩, hit, Nat.succ_ne_self _⟩, fun b hb => ?_, q⟩
    have e' : b = s1.heap.objs.size + 1 ∨ b = s1.heap.objs.size := by simpa using hb
    have hle : s1.heap.objs.size ≤ b := by
      rcases e' with z | z
      · rw [z]; exact Nat.le_add_right _ _
      · rw [z]; exact Nat.le_refl _
    exact I1.fpOk hle (I1.hok.fresh hle)
theorem walk_enumT {K : PySem.W.Frag} {a : Addr} {xs : List V} : Walk (IteT K a) xs.length (fun H => SqT K H a xs) (YPair (fun i => some (.int (i : Nat))) (fun i => xs[i]?)) := by
  refine ⟨fun i _ hi q => ⟨xs, xs[i], q, by simp [hi]⟩, fun _ q => ⟨xs, q, rfl⟩, fun i H v H' _ q y => ?_⟩
  obtain ⟨T, x, h1, h2, h3, h4⟩ := y
  exact ⟨T, .int (i : Nat), x, h1, h2, h3, rfl, h4 xs q⟩
end L2

set_option Elab.async false
set_option linter.all false
set_option maxRecDepth 100000
set_option maxHeartbeats 4000000
/-! Framings; listed_standings. -/
namespace K37
open PySem L2 L2.EV
abbrev sListed : Stmt := top 18
/-- a framing at f -/
def FrA (H : Hp) (f : Addr) (fr : List T3) : Prop := ∃ ts : List Addr, H f = some (.tup (ts.map V.ref)) ∧ ts.length = fr.length ∧ ∀ (i : Nat) t x, ts[i]? = some t → fr[i]? = some x → S3 H t x
theorem FrA.same {H H' : Hp} {f : Addr} {fr : List T3} (h : FrA H f fr) (s : Same H H') : FrA H' f fr := by
  obtain ⟨ts, e, l, c⟩ := h
  exact ⟨ts, s _ _ e, l, fun i t x h1 h2 => s _ _ (c i t x h1 h2)⟩
structure Frm (fr : List T3) (last : Nat) : Prop where
  l0 : 1 ≤ fr.length
  l1 : fr.length ≤ 16
  stp : ∀ x ∈ fr, Stp x
  srt : fr.Pairwise (fun x y => lt3 x y = true)
  ring : ∀ k : Nat, k ≤ last → ∃ x ∈ fr, x.1 = (k : Int) ∧ x.2.2 = (if k < last then (k : Int) + 1 else 0)
  lo : ∀ x ∈ fr, x.1 ≤ last ∧ x.2.2 ≤ last
  l5 : last ≤ 5
/-- what is closed under the steps, from b on, holds all standings -/
theorem Frm.all {fr : List T3} {last : Nat} (F : Frm fr last) {S : Int → Prop} {b : Nat} (hb : b ≤ last) (c0 : ∀ x ∈ fr, x.1 = (b : Int) → S x.2.2) (c : ∀ x ∈ fr, S x.1 → S x.2.2) : ∀ k : Nat, k ≤ last → S k := by
  have up : ∀ j : Nat, b + j ≤ last → j = 0 ∨ S ((b + j : Nat) : Int) := by
    intro j
    induction j with
    | zero => exact fun _ => .inl rfl
    | succ j ih =>
      intro h
      obtain ⟨x, hx, e1, e2⟩ := F.ring (b + j) (by omega)
      rw [if_pos (by omega)] at e2
      have e3 : (((b + (j + 1) : Nat)) : Int) = ((b + j : Nat) : Int) + 1 := by omega
      rw [e3, ← e2]
      refine .inr ?_
      rcases ih (by omega) with z | z
      · subst z
        exact c0 x hx (by simpa using e1)
      · exact c x hx (by rw [e1]; exact z)
  have s0 : S 0 := by
    obtain ⟨x, hx, e1, e2⟩ := F.ring last (Nat.le_refl _)
    rw [if_neg (by omega)] at e2
    rw [← e2]
    obtain ⟨j, rfl⟩ := Nat.le.dest hb
    rcases up j (Nat.le_refl _) with z | z
    · subst z
      exact c0 x hx (by simpa using e1)
    · exact c x hx (by rw [e1]; exact z)
  intro k
  induction k with
  | zero => exact fun _ => s0
  | succ k ih =>
    intro h
    obtain ⟨x, hx, e1, e2⟩ := F.ring k (by omega)
    rw [if_pos (by omega)] at e2
    have e3 : ((k + 1 : Nat) : Int) = (k : Int) + 1 := by omega
    rw [e3, ← e2]
    exact c x hx (by rw [e1]; exact ih (by omega))
theorem sc_it {J : It} {n : Nat} {G : Hp → Prop} {Y : Nat → Hp → V → Hp → Prop} (w : Walk J n G Y) {H0 : Hp} {Qd : Hp → Prop} {body : V → Hp → (Hp → Prop) → Prop} (Pv : Nat → Hp → Prop) (h0 : Pv 0 H0) (hG : ∀ i H, i ≤ n → Pv i H → G H)
    (hs : ∀ i x H H', i < n → Pv i H → Y i H x H' → body x H' (Pv (i + 1))) (hd : ∀ H, Pv n H → Qd H) :
    ∃ W : Nat → Nat → Hp → Prop, (∃ m, W 0 m H0) ∧ ∀ i m H, W i m H → (J.stop i H ∧ Qd H) ∨ (J.go i H ∧ ∃ Nx : Hp → Prop, (∀ H', Nx H' → ∃ m', m' < m ∧ W (i + 1) m' H') ∧ ∀ x H', J.yld i H x H' → body x H' Nx) := by
  refine ⟨fun i m H => m = n - i ∧ i ≤ n ∧ Pv i H, ⟨n, by simp, Nat.zero_le _, h0⟩, ?_⟩
  rintro i m H ⟨rfl, hi, p⟩
  have q := hG i H hi p
  by_cases hlt : i < n
  · exact .inr ⟨w.goes i H hlt q, Pv (i + 1), fun H' p' => ⟨n - (i + 1), by omega, rfl, hlt, p'⟩, fun x H' y => hs i x H H' hlt p (w.yields i H x H' hlt q y)⟩
  · have e : i = n := by omega
    subst e
    exact .inl ⟨w.stops H q, hd H p⟩
theorem at_step {H : Hp} {ts : List Addr} {fr : List T3} {i : Nat} {x : V} (hl : ts.length = fr.length) (ht : ∀ (i : Nat) t x, ts[i]? = some t → fr[i]? = some x → S3 H t x) (hx : (ts.map V.ref)[i]? = some x) :
    ∃ t y, fr[i]? = some y ∧ x = .ref t ∧ S3 H t y := by
  rw [List.getElem?_map] at hx
  cases e : ts[i]? with
  | none =>
    rw [e] at hx
    cases hx
  | some t =>
    rw [e] at hx
    have il : i < fr.length := by
      have := (List.getElem?_eq_some_iff.mp e).1
      omega
    exact ⟨t, fr[i], List.getElem?_eq_getElem il, (Option.some.inj hx).symm, ht i t _ e (List.getElem?_eq_getElem il)⟩
/-- listed_standings(framing): a new list of numbers up to last -/
def spListed : Sp := fun vs H Q _ => ∃ (f : Addr) (fr : List T3) (last : Nat), vs = [.ref f] ∧ FrA H f fr ∧ Frm fr last ∧
  ∀ (H' : Hp) (p : Addr) (ns : List Int), Same H H' → H p = none → H' p = some (.lst (ns.map V.int)) → ns.length ≤ 32 → (∀ k ∈ ns, 0 ≤ k ∧ k ≤ last) → Q (.ref p) H'
theorem pe_sc2s {X : Cx} {elt tg iter tg1 iter1 : Expr} {ifs ifs1 : List Expr} {scope : Scope} {own : List (Str × Nat)} {vs1 : List Nat} {pos : Pos} {wi wi1 : TI} {g g1 : TG} {tt tt1 : TT} {te : TE} (hc : X.calm = true) (hN : X.N.Nodup) (hi : PI X tg iter wi) (ok : BlkOk X.N X.env.scope scope own) (hv : ∀ i ∈ vs1, i ∈ own.map (·.2))
    (b1 : ∀ (s : Shared) (H : Hp) (C : Addr) (cl : List (Str × Addr)) (fp : List Addr), PG (X.blk s H scope (compEnvC scope cl C X.env) fp) tg g)
    (b2 : ∀ (s : Shared) (H : Hp) (C : Addr) (cl : List (Str × Addr)) (fp : List Addr), PTs (X.blk s H scope (compEnvC scope cl C X.env) fp) ifs tt)
    (b3 : ∀ (s : Shared) (H : Hp) (C : Addr) (cl : List (Str × Addr)) (fp : List Addr), PI (X.blk s H scope (compEnvC scope cl C X.env) fp) tg1 iter1 wi1)
    (b4 : ∀ (s : Shared) (H : Hp) (C : Addr) (cl : List (Str × Addr)) (fp : List Addr), PG (X.blk s H scope (compEnvC scope cl C X.env) fp) tg1 g1)
    (b5 : ∀ (s : Shared) (H : Hp) (C : Addr) (cl : List (Str × Addr)) (fp : List Addr), PTs (X.blk s H scope (compEnvC scope cl C X.env) fp) ifs1 tt1)
    (b6 : ∀ (s : Shared) (H : Hp) (C : Addr) (cl : List (Str × Addr)) (fp : List Addr), PE (X.blk s H scope (compEnvC scope cl C X.env) fp) elt te)
    (fold : ∀ x, foldedSetIterable iter X.env x = pure x := by intro _; rfl) (fold1 : ∀ env x, foldedSetIterable iter1 env x = pure x := by intro _ _; rfl) :
    PE X (.SetComp elt [⟨tg, iter, ifs, 0⟩, ⟨tg1, iter1, ifs1, 0⟩] scope pos) (tSc2 X.w wi g tt wi1 g1 tt1 te (own.map (·.2)) vs1) :=
  pe_sc2 hc hN hi ok hv (fun s H C cl fp => ⟨b1 s H C cl fp, b2 s H C cl fp, b3 s H C cl fp, b4 s H C cl fp, b5 s H C cl fp, b6 s H C cl fp⟩) fold fold1
theorem same_set {D : Addr} {H H' : Hp} {o : HO} (hD : H D = none) (k : Same H H') : Same H (upd H' D o) := fun b u e => by
  rw [upd_ne (ne_of_none e hD)]
  exact k _ _ e
theorem scan64 : 64 < scanBound := by decide +kernel
section
variable {P : Program} {w : World} {K : PySem.W.Frag} {mg : Str → Option Value} {base : Heap}
theorem scListed : FnScope ["framing", "start", "piece", "goal", "standing"] ["framing"] (defScope sListed) := ⟨rfl, rfl, rfl, by decide +kernel, rfl, by decide +kernel, by decide +kernel⟩
theorem ok_listed {f : Addr} {fd : FuncData} (F : Fun K "listed_standings" "listed_standings" sListed f fd) (hs : mg "sorted" = none) : FnOk P w K mg base CX0 1 f fd ["framing"] spListed := by
  refine F.ok scListed (fun vs H Q E h => ?_) (fun cdv A outer s H vs Q E hr h => ?_)
  · obtain ⟨f, fr, last, rfl, _⟩ := h
    rfl
  · obtain ⟨f, fr, last, rfl, fa, fm, q⟩ := h
    refine ⟨_, pss_one (ps_ret (pe_callB (cr_sortedSet rfl) (by rfl) hs (by decide +kernel) (pa_cons (pe_sc2s (g := gTup K 3 (gCons (gName 1) (gCons (gName 2) (gCons (gName 3) gNil)))) (tt := tYes) (wi1 := iTup K (tTup (tCons (tVar 1) (tCons (tVar 3) tNil)))) (g1 := gName 4) (tt1 := tYes) (te := tVar 4) (own := [("start", 1), ("piece", 2), ("goal", 3), ("standing", 4)]) (vs1 := [4]) rfl scListed.nd (pi_tup (pv 0))
      (blkOk_by (N := ["framing", "start", "piece", "goal", "standing"]) (sc := defScope sListed) (by decide +kernel)) (by decide)
      (fun _ _ _ _ _ => pg_tup rfl (pgs_cons (pg_name (i := 1) scListed.nd rfl (Or.inl rfl)) (pgs_cons (pg_name (i := 2) scListed.nd rfl (Or.inl rfl)) (pgs_cons (pg_name (i := 3) scListed.nd rfl (Or.inl rfl)) pgs_nil)))) (fun _ _ _ _ _ => pts_nil)
      (fun _ _ _ _ _ => pi_tup (pe_tup (pa_cons (pv 1) (pa_cons (pv 3) pa_nil)))) (fun _ _ _ _ _ => pg_name (i := 4) scListed.nd rfl (Or.inl rfl)) (fun _ _ _ _ _ => pts_nil) (fun _ _ _ _ _ => pv 4)) pa_nil))), ?_⟩
    obtain ⟨ts, hf, hl, ht⟩ := id fa
    refine ⟨_, rfl, f, rfl, ⟨_, SqT.of hf⟩, fun D hD => ?_⟩
    refine sc_it (walk_tup (xs := ts.map V.ref)) (fun i H' => Same H H' ∧ ∃ (S : Int → Bool) (n : Nat), H' D = some (SetO w D S n) ∧ n ≤ 2 * i ∧ ∀ k, S k = true → 0 ≤ k ∧ k ≤ last)
      ⟨same_upd hD, _, _, upd_same, Nat.le_refl _, fun k z => by cases z⟩ (fun i H' _ z => SqT.of (z.1 _ _ hf)) ?_ ?_
    · rintro i x H1 H2 hi ⟨sm, S, n, hS, hn, hk⟩ ⟨rfl, hx⟩
      obtain ⟨t, y, hy, rfl, e3⟩ := at_step (i := i) hl ht hx
      have e4 : H2 t = _ := sm _ _ e3
      obtain ⟨b1, b2, _, b3, b4⟩ := fm.stp y (List.mem_of_getElem? hy)
      obtain ⟨b5, b6⟩ := fm.lo y (List.mem_of_getElem? hy)
      refine ⟨t, _, rfl, SqT.of e4, rfl, _, _, rfl, _, _, rfl, _, _, rfl, rfl, rfl, ?_⟩
      refine ⟨_, rfl, _, rfl, (by show 2 ≤ sizeLine; decide), fun p hp => ⟨p, rfl, ⟨_, SqT.of upd_same⟩, ?_⟩⟩
      refine sc_it (walk_tup (xs := [V.int y.1, V.int y.2.2])) (fun j H' => Same H H' ∧ H' p = some (.tup [V.int y.1, V.int y.2.2]) ∧ ∃ (S : Int → Bool) (n : Nat), H' D = some (SetO w D S n) ∧ n ≤ 2 * i + j ∧ ∀ k, S k = true → 0 ≤ k ∧ k ≤ last)
        ⟨fun b u e => same_upd hp _ _ (sm _ _ e), upd_same, S, n, by rw [upd_ne (ne_of_none hS hp)]; exact hS, hn, hk⟩ (fun j H' _ z => SqT.of z.2.1) ?_ ?_
      · rintro j x H2 H3 hj ⟨sm2, hp2, S2, n2, hS2, hn2, hk2⟩ ⟨rfl, hx2⟩
        have hj2 : j < 2 := hj
        obtain ⟨k, rfl, k0, k1⟩ : ∃ k : Int, x = .int k ∧ 0 ≤ k ∧ k ≤ last := by
          match j, hj2 with
          | 0, _ => exact ⟨y.1, (Option.some.inj hx2).symm, b1, b5⟩
          | 1, _ => exact ⟨y.2.2, (Option.some.inj hx2).symm, b3, b6⟩
        have sc := scan64
        have l1 := fm.l1
        have hi2 : i < fr.length := (List.getElem?_eq_some_iff.mp hy).1
        refine ⟨rfl, _, rfl, k, S2, n2, rfl, hS2, by omega, same_set hD sm2, ?_, _, _, upd_same, ?_, fun k2 z => ?_⟩
        · rw [upd_ne (ne_of hp2 hS2 (fun z => by cases z))]
          exact hp2
        · split <;> omega
        · rw [Bool.or_eq_true] at z
          rcases z with z | z
          · exact hk2 k2 z
          · have e5 : k2 = k := of_decide_eq_true z
            rw [e5]
            exact ⟨k0, k1⟩
      · rintro H2 ⟨sm2, hp2, S2, n2, hS2, hn2, hk2⟩
        refine ⟨sm2, S2, n2, hS2, ?_, hk2⟩
        have hn3 : n2 ≤ 2 * i + 2 := hn2
        omega
    · rintro H1 ⟨sm, S, n, hS, hn, hk⟩
      refine ⟨D, S, n, rfl, hS, ?_, fun ns p _ h2 h3 h4 => ?_⟩
      · have := fm.l1
        simp only [List.length_map] at hn
        omega
      · refine q _ p ns ?_ ?_ upd_same ?_ ?_
        · exact fun b u e => by
            rw [upd_ne (ne_of_none (sm _ _ e) h4)]
            exact sm _ _ e
        · exact sm.free h4
        · have := fm.l1
          simp only [List.length_map] at hn
          omega
        · exact fun k z => hk k ((h2 k).mp z)
end
end K37

set_option Elab.async false
set_option linter.all false
set_option maxRecDepth 100000
set_option maxHeartbeats 4000000
/-! ways_from: all standings are found. -/
namespace K37
open PySem L2 L2.EV
abbrev sWays : Stmt := top 19
abbrev has (kvs : List (Key × V)) (g : Int) : Bool := (valV kvs (Sum.inl g : Key)).isSome
/-- ways_from(framing, b): a new dict that has all standings -/
def spWays : Sp := fun vs H Q _ => ∃ (f : Addr) (fr : List T3) (last b : Nat), vs = [.ref f, .int b] ∧ FrA H f fr ∧ Frm fr last ∧ b ≤ last ∧
  ∀ (H' : Hp) (d : Addr) (kvs : List (Key × V)), Same H H' → H d = none → H' d = some (.dK kvs) → (∀ k : Nat, k ≤ last → has kvs k = true) → Q (.ref d) H'
/-- the standings up to last that are not found -/
def miss (last : Nat) (kvs : List (Key × V)) : Nat := ((List.range (last + 1)).filter fun k : Nat => !has kvs k).length
theorem miss_le {last : Nat} {kvs : List (Key × V)} : miss last kvs ≤ last + 1 := by
  have := List.length_filter_le (fun k : Nat => !has kvs k) (List.range (last + 1))
  rw [List.length_range] at this
  exact this
theorem filt_lt {α : Type} {p q : α → Bool} : ∀ {l : List α} {a : α}, a ∈ l → p a = true → q a = false → (∀ x, q x = true → p x = true) → (l.filter q).length < (l.filter p).length
  | x :: l, a, hm, hp, hq, h => by
    have le : ∀ m : List α, (m.filter q).length ≤ (m.filter p).length := fun m => by
      induction m with
      | nil => exact Nat.le_refl _
      | cons y m ih =>
        rw [List.filter_cons, List.filter_cons]
        by_cases z : q y = true
        · rw [if_pos z, if_pos (h y z), List.length_cons, List.length_cons]
          omega
        · rw [if_neg z]
          split
          · rw [List.length_cons]
            omega
          · exact ih
    rw [List.filter_cons, List.filter_cons]
    rcases List.mem_cons.mp hm with z | z
    · subst z
      rw [if_pos hp, if_neg (by rw [hq]; simp), List.length_cons]
      have := le l
      omega
    · have ih := filt_lt z hp hq h
      by_cases y : q x = true
      · rw [if_pos y, if_pos (h x y), List.length_cons, List.length_cons]
        omega
      · rw [if_neg y]
        split
        · rw [List.length_cons]
          omega
        · exact ih
theorem has_put {kvs : List (Key × V)} {g k : Int} {v : V} : has (putK kvs (Sum.inl g) v) k = (decide (k = g) || has kvs k) := by
  unfold has
  rw [valV_put]
  by_cases e : k = g
  · subst e
    rw [if_pos rfl, decide_eq_true rfl]
    rfl
  · rw [if_neg (fun z => e (Sum.inl.inj z)), decide_eq_false e, Bool.false_or]
theorem miss_put {last : Nat} {kvs : List (Key × V)} {g : Int} {v : V} (h0 : 0 ≤ g) (h1 : g ≤ last) (n : has kvs g = false) : miss last (putK kvs (Sum.inl g) v) < miss last kvs := by
  obtain ⟨a, rfl⟩ := Int.eq_ofNat_of_zero_le h0
  refine filt_lt (a := a) (List.mem_range.mpr (by omega)) (by simp only [n, Bool.not_false]) ?_ ?_
  · rw [has_put, decide_eq_true rfl]
    rfl
  · intro x hx
    rw [has_put] at hx
    cases z : has kvs x with
    | false => rfl
    | true =>
      rw [z] at hx
      simp at hx
/-- the rows: tuples of a way and a standing -/
def Rows (H : Hp) (last n : Nat) (ps : List (Addr × Int)) : Prop := ∀ q ∈ ps, 0 ≤ q.2 ∧ q.2 ≤ last ∧ ∃ (wy : Addr) (xs : List V), H q.1 = some (.tup [.ref wy, .int q.2]) ∧ H wy = some (.tup xs) ∧ xs.length ≤ n
def KeepT (H H' : Hp) : Prop := ∀ a xs, H a = some (.tup xs) → H' a = some (.tup xs)
theorem Rows.keep {H H' : Hp} {last n m : Nat} {ps : List (Addr × Int)} (h : Rows H last n ps) (k : KeepT H H') (l : n ≤ m) : Rows H' last m ps := fun q hq => by
  obtain ⟨h0, h1, wy, xs, e1, e2, e3⟩ := h q hq
  exact ⟨h0, h1, wy, xs, k _ _ e1, k _ _ e2, Nat.le_trans e3 l⟩
theorem Same.keepT {H H' : Hp} (s : Same H H') : KeepT H H' := fun a xs e => s _ _ e
theorem KeepT.trans {H H' H2 : Hp} (a : KeepT H H') (b : KeepT H' H2) : KeepT H H2 := fun x xs e => b _ _ (a _ _ e)
theorem keepT_upd {H : Hp} {d : Addr} {o : HO} {o' : HO} (e : H d = some o') (n : ∀ xs, o' ≠ .tup xs) : KeepT H (upd H d o) := fun a xs h => by
  by_cases z : a = d
  · subst z
    rw [e] at h
    exact absurd (Option.some.inj h) (n xs)
  · rw [upd_ne z]
    exact h
/-- t + u, u not empty: the result is somewhere, all else stays -/
def rCatS (K : PySem.W.Frag) : R2 := fun x y H Q => ∃ a b xs ys, x = .ref a ∧ y = .ref b ∧ SqT K H a xs ∧ H b = some (.tup ys) ∧ ys ≠ [] ∧ xs.length + ys.length ≤ sizeLine ∧ ∀ p H', Same H H' → H' p = some (.tup (xs ++ ys)) → Q (.ref p) H'
theorem op_catS {X : Cx} : OpR X (binaryOp .Add) (rCatS X.K) := by
  intro pins s σ H x y v u Q I rx ry h
  obtain ⟨a, b, xs, ys, rfl, rfl, ha, hb, hn, hz, q⟩ := h
  refine op_catA pins s σ H _ _ v u Q I rx ry ⟨a, b, xs, ys, rfl, rfl, ha, SqT.of hb, hz, fun z => ?_, fun _ z => absurd z hn, fun _ _ p hp => q p _ (same_upd hp) upd_same⟩
  subst z
  exact q b H (fun _ _ e => e) (by rw [hb]; rfl)
structure Co (H0 H : Hp) (d r u : Addr) (last m0 : Nat) (ps qs : List (Addr × Int)) (kvs : List (Key × V)) : Prop where
  sm : Same H0 H
  hd : H d = some (.dK kvs)
  hr : H r = some (.lst (ps.map fun q => V.ref q.1))
  hu : H u = some (.lst (qs.map fun q => V.ref q.1))
  rp : Rows H last kvs.length ps
  rq : Rows H last kvs.length qs
  cnt : kvs.length + miss last kvs ≤ last + 1
  me : (qs = [] ∧ miss last kvs ≤ m0) ∨ miss last kvs < m0
  ql : qs.length ≤ kvs.length
theorem Co.same {H0 H H' : Hp} {d r u : Addr} {last m0 : Nat} {ps qs : List (Addr × Int)} {kvs : List (Key × V)} (C : Co H0 H d r u last m0 ps qs kvs) (s : Same H H') : Co H0 H' d r u last m0 ps qs kvs :=
  ⟨C.sm.trans s, s _ _ C.hd, s _ _ C.hr, s _ _ C.hu, C.rp.keep (Same.keepT s) (Nat.le_refl _), C.rq.keep (Same.keepT s) (Nat.le_refl _), C.cnt, C.me, C.ql⟩
/-- what is reached from a standing that stands in the rows, or is found -/
def Clo (fr : List T3) (b : Nat) (kvs : List (Key × V)) (open_ : Int → T3 → Prop) : Prop := ∀ x ∈ fr, (x.1 = (b : Int) ∨ has kvs x.1 = true) → open_ x.1 x ∨ has kvs x.2.2 = true
section
variable {P : Program} {w : World} {K : PySem.W.Frag} {mg : Str → Option Value} {base : Heap}
theorem scWays : FnScope ["framing", "begin", "found", "rows", "further", "way", "standing", "number", "start", "piece", "goal"] ["framing", "begin"] (defScope sWays) := ⟨rfl, rfl, rfl, by decide +kernel, rfl, by decide +kernel, by decide +kernel⟩
theorem ok_ways {f : Addr} {fd : FuncData} (F : Fun K "ways_from" "ways_from" sWays f fd) (he : mg "enumerate" = none) : FnOk P w K mg base CX0 1 f fd ["framing", "begin"] spWays := by
  refine F.ok scWays (fun vs H Q E h => ?_) (fun cdv A outer s H vs Q E hr h => ?_)
  · obtain ⟨f, fr, last, b, rfl, _⟩ := h
    rfl
  · obtain ⟨f, fr, last, b, rfl, fa, fm, hb, q⟩ := h
    have hu := hu_of hr
    refine ⟨_, pss_cons (ps_set (i := 2) scWays.nd rfl (Or.inl rfl) pe_dnewK)
      (pss_cons (ps_set (i := 3) scWays.nd rfl (Or.inl rfl) (pe_lst (pa_cons (pe_tup (pa_cons (pe_tup pa_nil) (pa_cons (pv 1) pa_nil))) pa_nil)))
      (pss_cons (ps_while PassesOwn.never (pt_truth (pv 3) (fun _ => rfl))
        (pss_cons (ps_set (i := 4) scWays.nd rfl (Or.inl rfl) (pe_lst pa_nil))
        (pss_cons (ps_for PassesOwn.never rfl (pi_list (pv 3)) (pg_tup rfl (pgs_cons (pg_name (i := 5) scWays.nd rfl (Or.inl rfl)) (pgs_cons (pg_name (i := 6) scWays.nd rfl (Or.inl rfl)) pgs_nil)))
          (pss_one (ps_for PassesOwn.never rfl (pi_enumT (by rfl) he (pa_cons (pv 0) pa_nil)) (pg_tup rfl (pgs_cons (pg_name (i := 7) scWays.nd rfl (Or.inl rfl)) (pgs_cons (pg_tup rfl (pgs_cons (pg_name (i := 8) scWays.nd rfl (Or.inl rfl)) (pgs_cons (pg_name (i := 9) scWays.nd rfl (Or.inl rfl)) (pgs_cons (pg_name (i := 10) scWays.nd rfl (Or.inl rfl)) pgs_nil)))) pgs_nil)))
            (pss_one (ps_if (pw_and (pt_cmpR op_eq (pv 8) (pv 6) (nomark _)) (pw_and1 (pt_cmp (pc_dnotin hu (pv 10) (pv 2)) (by rfl)))).pt
              (pss_cons (ps_dput hu (pv 2) (pv 10) (pe_op op_catS (pv 5) (pe_tup (pa_cons (pv 7) pa_nil))) rfl)
                (pss_one (ps_expr (pe_bm PySem.F.plainAttrs_list PySem.F.slot_list_append PySem.F.type_list_append mt_append (pv 4) (pa_cons (pe_tup (pa_cons (pe_dget hu (pv 2) (pv 10) (fun _ _ => rfl)) (pa_cons (pv 10) pa_nil))) pa_nil)))))
              pss_nil)))))
        (pss_one (ps_set (i := 3) scWays.nd rfl (Or.inl rfl) (pv 4))))))
      (pss_one (ps_ret (pv 2))))), ?_⟩
    intro d hd0
    have sd := same_upd (o := HO.dK []) hd0
    refine ⟨by decide, fun e0 he0 => ⟨_, rfl, (by show 2 ≤ sizeLine; decide), fun p0 hp0 => ⟨(by show 1 ≤ sizeLine; decide), fun r hr0 => ?_⟩⟩⟩
    have s1 := same_upd (o := HO.tup []) he0
    have s2 := same_upd (o := HO.tup [V.ref e0, V.int (b : Int)]) hp0
    have s3 := same_upd (o := HO.lst [V.ref p0]) hr0
    refine ⟨fun j σ H' => ∃ (r : Addr) (kvs : List (Key × V)) (ps : List (Addr × Int)) (v4 v5 v6 v7 v8 v9 v10 : Option V), σ = [some (.ref f), some (.int b), some (.ref d), some (.ref r), v4, v5, v6, v7, v8, v9, v10] ∧
      Same H H' ∧ H' d = some (.dK kvs) ∧ H' r = some (.lst (ps.map fun q => V.ref q.1)) ∧ Rows H' last kvs.length ps ∧ kvs.length + miss last kvs ≤ last + 1 ∧ Clo fr b kvs (fun g _ => ∃ q ∈ ps, q.2 = g) ∧ j = 2 * miss last kvs + (if ps = [] then 0 else 1), ⟨_, r, [], [(p0, (b : Int))], none, none, none, none, none, none, none, rfl, ?_, ?_, ?_, ?_, ?_, ?_, rfl⟩, ?_⟩
    · exact sd.trans (s1.trans (s2.trans s3))
    · exact s3 _ _ (s2 _ _ (s1 _ _ upd_same))
    · exact upd_same
    · intro q hq
      have e : q = (p0, (b : Int)) := by simpa using hq
      subst e
      refine ⟨by show (0 : Int) ≤ (b : Int); omega, by show (b : Int) ≤ last; omega, e0, [], s3 _ _ upd_same, s3 _ _ (s2 _ _ upd_same), Nat.le_refl _⟩
    · have := miss_le (last := last) (kvs := [])
      simp only [List.length_nil]
      omega
    · intro x hx h
      rcases h with h | h
      · exact .inl ⟨_, List.mem_singleton.mpr rfl, h.symm⟩
      · cases h
    · rintro j σ H1 ⟨r, kvs, ps, v4, v5, v6, v7, v8, v9, v10, rfl, sm, hd, hr, rp, cnt, clo, rfl⟩
      refine ⟨_, rfl, _, .inl ⟨_, SqL.of hr, rfl⟩, ?_⟩
      by_cases hps : ps = []
      · subst hps
        refine iteF' rfl ?_
        refine ⟨_, rfl, q H1 d kvs sm hd0 hd fun k hk => ?_⟩
        have c2 : ∀ x ∈ fr, (x.1 = (b : Int) ∨ has kvs x.1 = true) → has kvs x.2.2 = true := fun x hx h => by
          rcases clo x hx h with ⟨_, z, _⟩ | z
          · cases z
          · exact z
        exact fm.all (S := fun g => has kvs g = true) hb (fun x hx e => c2 x hx (.inl e)) (fun x hx e => c2 x hx (.inr e)) k hk
      · refine iteT' (by cases ps; exact absurd rfl hps; rfl) ?_
        refine ⟨_, fun _ _ z => z, ?_⟩
        refine ⟨by decide, fun u hu0 => ?_⟩
        have su := same_upd (o := HO.lst []) hu0
        have hur : u ≠ r := (ne_of_none hr hu0).symm
        have hu00 : H u = none := sm.free hu0
        refine ⟨_, rfl, r, rfl, ⟨_, SqL.of (su _ _ hr)⟩, for_it (walk_list (xs := ps.map fun q => V.ref q.1)) (fun i σ H' => ∃ (kvs2 : List (Key × V)) (qs : List (Addr × Int)) (v5 v6 v7 v8 v9 v10 : Option V), σ = [some (.ref f), some (.int b), some (.ref d), some (.ref r), some (.ref u), v5, v6, v7, v8, v9, v10] ∧
          Co H H' d r u last (miss last kvs) ps qs kvs2 ∧ Clo fr b kvs2 (fun g _ => (∃ q ∈ ps.drop i, q.2 = g) ∨ ∃ q ∈ qs, q.2 = g))
          ⟨kvs, [], v5, v6, v7, v8, v9, v10, rfl, ⟨sm.trans su, su _ _ hd, su _ _ hr, upd_same, rp.keep (Same.keepT su) (Nat.le_refl _), (fun q hq => by cases hq), cnt, .inl ⟨rfl, Nat.le_refl _⟩, Nat.zero_le _⟩, fun x hx h => (clo x hx h).imp (fun z => .inl z) id⟩
          (fun i σ H' _ ⟨_, _, _, _, _, _, _, _, _, C, _⟩ => SqL.of C.hr) ?_ ?_⟩
        · rintro i v σ H2 H3 hi ⟨kvs2, qs, v5, v6, v7, v8, v9, v10, rfl, C, cl⟩ ⟨rfl, hv⟩
          obtain ⟨q1, hq1, rfl⟩ : ∃ q1, ps[i]? = some q1 ∧ v = V.ref q1.1 := by
            rw [List.getElem?_map] at hv
            cases e : ps[i]? with
            | none =>
              rw [e] at hv
              cases hv
            | some q1 =>
              rw [e] at hv
              exact ⟨q1, rfl, (Option.some.inj hv).symm⟩
          obtain ⟨g0, g1, wy, xs, e1, e2, e3⟩ := C.rp q1 (List.mem_of_getElem? hq1)
          have dq : ps.drop i = q1 :: ps.drop (i + 1) := by
            have il := (List.getElem?_eq_some_iff.mp hq1).1
            rw [List.drop_eq_getElem_cons il]
            have := (List.getElem?_eq_some_iff.mp hq1).2
            rw [this]
          obtain ⟨ts, hf, hl, ht⟩ := id fa
          refine ⟨_, _, rfl, SqT.of e1, rfl, _, _, rfl, _, _, rfl, rfl, ?_⟩
          refine ⟨_, rfl, f, _, rfl, SqT.of (C.sm _ _ hf), for_it (walk_enumT (xs := ts.map V.ref)) (fun k σ H' => ∃ (kvs3 : List (Key × V)) (qs3 : List (Addr × Int)) (v7 v8 v9 v10 : Option V), σ = [some (.ref f), some (.int b), some (.ref d), some (.ref r), some (.ref u), some (.ref wy), some (.int q1.2), v7, v8, v9, v10] ∧
            Co H H' d r u last (miss last kvs) ps qs3 kvs3 ∧ H' wy = some (.tup xs) ∧ xs.length ≤ kvs3.length ∧ Clo fr b kvs3 (fun g x => ((∃ q ∈ ps.drop (i + 1), q.2 = g) ∨ ∃ q ∈ qs3, q.2 = g) ∨ (g = q1.2 ∧ x ∈ fr.drop k)))
            ⟨kvs2, qs, v7, v8, v9, v10, rfl, C, e2, e3, fun x hx h => ?_⟩
            (fun k σ H' _ ⟨_, _, _, _, _, _, _, C', _⟩ => SqT.of (C'.sm _ _ hf)) ?_ ?_⟩
          · rcases cl x hx h with (⟨q, z, e⟩ | z) | z
            · rw [dq] at z
              rcases List.mem_cons.mp z with z | z
              · subst z
                exact .inl (.inr ⟨e.symm, by simpa using hx⟩)
              · exact .inl (.inl (.inl ⟨q, z, e⟩))
            · exact .inl (.inl (.inr z))
            · exact .inr z
          · rintro k x σ H3 H4 hk ⟨kvs3, qs3, v7, v8, v9, v10, rfl, C3, w3, wl, cl3⟩ ⟨T, xi, xo, rfl, nT, rfl, h1, h2⟩
            cases h1
            obtain ⟨t, y, hy, rfl, e4⟩ := at_step (i := k) hl ht h2
            have uT := same_upd (o := HO.tup [V.int (k : Nat), V.ref t]) nT
            have C4 := C3.same uT
            have t4 := uT _ _ (C3.sm _ _ e4)
            have w4 := uT _ _ w3
            have hym : y ∈ fr := List.mem_of_getElem? hy
            obtain ⟨b1, b2, _, b3, b4⟩ := fm.stp y hym
            obtain ⟨b5, b6⟩ := fm.lo y hym
            have dk : fr.drop k = y :: fr.drop (k + 1) := by
              have il := (List.getElem?_eq_some_iff.mp hy).1
              rw [List.drop_eq_getElem_cons il]
              have := (List.getElem?_eq_some_iff.mp hy).2
              rw [this]
            -- the step is done with
            have go : ∀ (kvs4 : List (Key × V)) (qs4 : List (Addr × Int)), (∀ g : Int, has kvs4 g = true → has kvs3 g = true ∨ ∃ q ∈ qs4, q.2 = g) → (∀ g : Int, has kvs3 g = true → has kvs4 g = true) → (∀ q ∈ qs3, q ∈ qs4) → (y.1 = q1.2 → has kvs4 y.2.2 = true) →
                Clo fr b kvs4 (fun g x => ((∃ q ∈ ps.drop (i + 1), q.2 = g) ∨ ∃ q ∈ qs4, q.2 = g) ∨ (g = q1.2 ∧ x ∈ fr.drop (k + 1))) := fun kvs4 qs4 n1 n2 n3 n4 x hx h => by
              have old : x.1 = (b : Int) ∨ has kvs3 x.1 = true → ((((∃ q ∈ ps.drop (i + 1), q.2 = x.1) ∨ ∃ q ∈ qs4, q.2 = x.1) ∨ (x.1 = q1.2 ∧ x ∈ fr.drop (k + 1))) ∨ has kvs4 x.2.2 = true) := fun h => by
                rcases cl3 x hx h with ((z | ⟨q, z, e⟩) | ⟨z1, z2⟩) | z
                · exact .inl (.inl (.inl z))
                · exact .inl (.inl (.inr ⟨q, n3 q z, e⟩))
                · rw [dk] at z2
                  rcases List.mem_cons.mp z2 with z2 | z2
                  · subst z2
                    exact .inr (n4 z1)
                  · exact .inl (.inr ⟨z1, z2⟩)
                · exact .inr (n2 _ z)
              rcases h with h | h
              · exact old (.inl h)
              · rcases n1 _ h with z | z
                · exact old (.inr z)
                · exact .inl (.inl (.inr z))
            refine ⟨T, _, rfl, SqT.of upd_same, rfl, _, _, rfl, _, _, rfl, ⟨t, _, rfl, SqT.of t4, rfl, _, _, rfl, _, _, rfl, _, _, rfl, rfl, rfl, ?_⟩⟩
            refine ⟨_, rfl, _, rfl, rfl, _, rfl, ?_⟩
            refine ite2 (fun z => ?_) (fun z => ?_)
            · have z1 : y.1 = q1.2 := V.int.inj (of_decide_eq_true z)
              refine ⟨_, rfl, _, rfl, d, _, rfl, DGet.k (k := Sum.inl y.2.2) C4.hd, _, rfl, ?_⟩
              refine ite2 (fun y1 => ?_) (fun y1 => ?_)
              · have no : has kvs3 y.2.2 = false := by
                  cases e : has kvs3 y.2.2 with
                  | false => rfl
                  | true =>
                    have e' : (valV kvs3 (Sum.inl y.2.2 : Key)).isSome = true := e
                    rw [e'] at y1
                    cases y1
                have mp := miss_put (v := V.non) b3 b6 no
                have l5 := fm.l5
                have c3 := C3.cnt
                refine ⟨_, rfl, ⟨_, rfl, (by show 1 ≤ sizeLine; decide), fun p hp => ⟨wy, p, xs, [V.int (k : Nat)], rfl, rfl, SqT.of (same_upd hp _ _ w4), upd_same, (fun z => by cases z), ?_, fun nw H5 s5 n5 => ?_⟩⟩⟩
                · rw [sizeLine_eq]
                  simp only [List.length_cons, List.length_nil]
                  omega
                have C5 := (C4.same (same_upd (o := HO.tup [V.int (k : Nat)]) hp)).same s5
                have hdu : d ≠ u := ne_of C5.hd C5.hu (fun z => by cases z)
                have hdr : d ≠ r := ne_of C5.hd C5.hr (fun z => by cases z)
                refine ⟨_, rfl, _, rfl, d, _, rfl, DPut.k (k := Sum.inl y.2.2) C5.hd (by rw [sizeLine_eq]; omega), ?_⟩
                have hn : valV kvs3 (Sum.inl y.2.2 : Key) = none := by
                  cases e : valV kvs3 (Sum.inl y.2.2 : Key) with
                  | none => rfl
                  | some v =>
                    have e' : has kvs3 y.2.2 = true := by
                      show (valV kvs3 (Sum.inl y.2.2 : Key)).isSome = true
                      rw [e]
                      rfl
                    rw [e'] at no
                    cases no
                generalize hH6 : upd H5 d (.dK (putK kvs3 (Sum.inl y.2.2) (.ref nw))) = H6
                have k6 : KeepT H5 H6 := by
                  rw [← hH6]
                  exact keepT_upd C5.hd (fun xs z => by cases z)
                have d6 : H6 d = some (.dK (putK kvs3 (Sum.inl y.2.2) (.ref nw))) := by
                  rw [← hH6]
                  exact upd_same
                have u6 : H6 u = some (.lst (qs3.map fun q => V.ref q.1)) := by
                  rw [← hH6, upd_ne hdu.symm]
                  exact C5.hu
                have r6 : H6 r = some (.lst (ps.map fun q => V.ref q.1)) := by
                  rw [← hH6, upd_ne hdr.symm]
                  exact C5.hr
                have m6 : Same H H6 := by
                  rw [← hH6]
                  exact same_set hd0 C5.sm
                have g6 : valV (putK kvs3 (Sum.inl y.2.2) (V.ref nw)) (Sum.inl y.2.2 : Key) = some (.ref nw) := by
                  rw [valV_put, if_pos rfl]
                have n6 := k6 _ _ n5
                have ml := miss_le (last := last) (kvs := kvs3)
                have mp2 := miss_put (v := V.ref nw) b3 b6 no
                have pe : (putK kvs3 (Sum.inl y.2.2 : Key) (V.ref nw)).length = kvs3.length + 1 := by
                  rw [putK_new _ hn, List.length_append]
                  rfl
                have ql := C3.ql
                refine ⟨_, rfl, ?_, _, rfl, _, rfl, ⟨d, _, rfl, by rw [← g6]; exact DGet.k (k := Sum.inl y.2.2) d6, _, rfl, (by show 2 ≤ sizeLine; decide), fun p7 hp7 => ⟨u, qs3.map (fun q => V.ref q.1), _, rfl, rfl, same_upd hp7 _ _ u6, by rw [sizeLine_eq, List.length_map]; omega, ?_⟩⟩⟩
                · exact .inl ⟨rfl, _, SqL.of u6⟩
                have k7 := Same.keepT (same_upd (o := HO.tup [V.ref nw, V.int y.2.2]) hp7)
                have hd7 := same_upd (o := HO.tup [V.ref nw, V.int y.2.2]) hp7 _ _ d6
                have hu7 := same_upd (o := HO.tup [V.ref nw, V.int y.2.2]) hp7 _ _ u6
                have hr7 := same_upd (o := HO.tup [V.ref nw, V.int y.2.2]) hp7 _ _ r6
                have k8 := keepT_upd (o := .lst (qs3.map (fun q => V.ref q.1) ++ [V.ref p7])) hu7 (fun xs z => by cases z)
                have kk : KeepT H5 _ := (k6.trans k7).trans k8
                refine ⟨putK kvs3 (Sum.inl y.2.2) (.ref nw), qs3 ++ [(p7, y.2.2)], _, _, _, _, rfl, ⟨same_set hu00 (m6.trans (same_upd hp7)), ?_, ?_, ?_, ?_, ?_, by rw [pe]; omega, .inr ?_, by rw [pe, List.length_append]; simp only [List.length_cons, List.length_nil]; omega⟩, ?_, by rw [pe]; omega, ?_⟩
                · rw [upd_ne hdu]
                  exact hd7
                · rw [upd_ne hur.symm]
                  exact hr7
                · rw [List.map_append]
                  exact upd_same
                · exact C5.rp.keep kk (by rw [pe]; omega)
                · intro q hq
                  rcases List.mem_append.mp hq with hq | hq
                  · exact C5.rq.keep kk (by rw [pe]; omega) q hq
                  · have e : q = (p7, y.2.2) := by simpa using hq
                    subst e
                    refine ⟨b3, b6, nw, xs ++ [V.int (k : Nat)], k8 _ _ upd_same, k8 _ _ (k7 _ _ n6), ?_⟩
                    rw [pe, List.length_append]
                    simp only [List.length_cons, List.length_nil]
                    omega
                · rcases C3.me with ⟨_, z⟩ | z <;> omega
                · exact kk _ _ ((same_upd (o := HO.tup [V.int (k : Nat)]) hp |>.trans s5) _ _ w4)
                · refine go _ _ (fun g h => ?_) (fun g h => ?_) (fun q h => List.mem_append_left _ h) (fun _ => ?_)
                  · rw [has_put] at h
                    rcases (Bool.or_eq_true _ _).mp h with h | h
                    · exact .inr ⟨_, List.mem_append_right _ (List.mem_singleton.mpr rfl), (of_decide_eq_true h).symm⟩
                    · exact .inl h
                  · rw [has_put, h, Bool.or_true]
                  · rw [has_put, decide_eq_true rfl]
                    rfl
              · have yes : has kvs3 y.2.2 = true := by
                  cases e : has kvs3 y.2.2 with
                  | true => rfl
                  | false =>
                    have e' : (valV kvs3 (Sum.inl y.2.2 : Key)).isSome = false := e
                    rw [e'] at y1
                    exact absurd rfl y1
                exact ⟨kvs3, qs3, _, _, _, _, rfl, C4, w4, wl, go kvs3 qs3 (fun g h => .inl h) (fun g h => h) (fun q h => h) (fun _ => yes)⟩
            · have z1 : ¬ y.1 = q1.2 := fun e => z (decide_eq_true (congrArg V.int e))
              refine iteF ?_
              exact ⟨kvs3, qs3, _, _, _, _, rfl, C4, w4, wl, go kvs3 qs3 (fun g h => .inl h) (fun g h => h) (fun q h => h) (fun e => absurd e z1)⟩
          · rintro σ H3 ⟨kvs3, qs3, v7, v8, v9, v10, rfl, C3, w3, wl, cl3⟩
            refine ⟨kvs3, qs3, _, _, v7, v8, v9, v10, rfl, C3, fun x hx h => ?_⟩
            rcases cl3 x hx h with (z | ⟨_, z⟩) | z
            · exact .inl z
            · rw [show (ts.map V.ref).length = fr.length by simp [hl], List.drop_length] at z
              cases z
            · exact .inr z
        · rintro σ H2 ⟨kvs2, qs, v5, v6, v7, v8, v9, v10, rfl, C, cl⟩
          refine ⟨_, rfl, _, ?_, u, kvs2, qs, some (.ref u), v5, v6, v7, v8, v9, v10, rfl, C.sm, C.hd, C.hu, C.rq, C.cnt, fun x hx h => ?_, rfl⟩
          · rw [if_neg hps]
            rcases C.me with ⟨z, y⟩ | z
            · rw [if_pos z]
              omega
            · split <;> omega
          · rcases cl x hx h with (z | z) | z
            · rw [List.length_map, List.drop_length] at z
              obtain ⟨_, z, _⟩ := z
              cases z
            · exact .inl z
            · exact .inr z
end
end K37

set_option Elab.async false
set_option linter.all false
set_option maxRecDepth 100000
set_option maxHeartbeats 4000000
/-! is_joined, need_framing. -/
namespace K37
open PySem L2 L2.EV
abbrev sJoined : Stmt := top 20
abbrev sNeedF : Stmt := top 21
def spJoined : Sp := fun vs H Q _ => ∃ (f : Addr) (fr : List T3) (last : Nat), vs = [.ref f] ∧ FrA H f fr ∧ Frm fr last ∧ ∀ H', Same H H' → Q (.bl true) H'
def spNeedF : Sp := fun vs H Q _ => ∃ (f : Addr) (fr : List T3) (last : Nat), vs = [.ref f] ∧ FrA H f fr ∧ Frm fr last ∧ ∀ H', Same H H' → Q (.ref f) H'
/-- the defs that need_framing calls -/
structure Fs (K : PySem.W.Frag) (mg : Str → Option Value) where
  fN : Addr
  fP : Addr
  fS : Addr
  fL : Addr
  fW : Addr
  fJ : Addr
  fF : Addr
  dN : FuncData
  dP : FuncData
  dS : FuncData
  dL : FuncData
  dW : FuncData
  dJ : FuncData
  dF : FuncData
  N : Fun K "is_number" "is_number" sNum fN dN
  P : Fun K "is_piece" "is_piece" sPc fP dP
  S : Fun K "is_step" "is_step" sStep fS dS
  L : Fun K "listed_standings" "listed_standings" sListed fL dL
  W : Fun K "ways_from" "ways_from" sWays fW dW
  J : Fun K "is_joined" "is_joined" sJoined fJ dJ
  F : Fun K "need_framing" "need_framing" sNeedF fF dF
  bN : Binds K dN ["thing", "many"] []
  bP : Binds K dP ["thing"] []
  bS : Binds K dS ["thing"] []
  bL : Binds K dL ["framing"] []
  bW : Binds K dW ["framing", "begin"] []
  bJ : Binds K dJ ["framing"] []
  bF : Binds K dF ["thing"] []
  mN : mg "is_number" = some (.ref fN)
  mP : mg "is_piece" = some (.ref fP)
  mS : mg "is_step" = some (.ref fS)
  mL : mg "listed_standings" = some (.ref fL)
  mW : mg "ways_from" = some (.ref fW)
  mJ : mg "is_joined" = some (.ref fJ)
  mF : mg "need_framing" = some (.ref fF)
  T : TxtF mg
  so : mg "sorted" = none
  en : mg "enumerate" = none
  ms : ∃ t, mg "MOST_STEPS" = some (.int 16 t)
section
variable {P : Program} {w : World} {K : PySem.W.Frag} {mg : Str → Option Value} {base : Heap}
theorem scJoined : FnScope ["framing", "reached", "standing"] ["framing"] (defScope sJoined) := ⟨rfl, rfl, rfl, by decide +kernel, rfl, by decide +kernel, by decide +kernel⟩
theorem ok_joined (Z : Fs K mg) : FnOk P w K mg base CX0 2 Z.fJ Z.dJ ["framing"] spJoined := by
  have GL : FnOk P w K mg base CX0 1 Z.fL Z.dL ["framing"] spListed := ok_listed Z.L Z.so
  have GW : FnOk P w K mg base CX0 1 Z.fW Z.dW ["framing", "begin"] spWays := ok_ways Z.W Z.en
  refine Z.J.ok scJoined (fun vs H Q E h => ?_) (fun cdv A outer s H vs Q E hr h => ?_)
  · obtain ⟨f, fr, last, rfl, _⟩ := h
    rfl
  · obtain ⟨f, fr, last, rfl, fa, fm, q⟩ := h
    have hu := hu_of hr
    refine ⟨_, pss_cons (ps_set (i := 1) scJoined.nd rfl (Or.inl rfl) (pe_call GW hr (by rfl) Z.mW Z.W.kp Z.bW .nil pass0 (pa_cons (pv 0) (pa_cons pe_int pa_nil))))
      (pss_cons (ps_for PassesOwn.never rfl (pi_list (pe_call GL hr (by rfl) Z.mL Z.L.kp Z.bL .nil pass0 (pa_cons (pv 0) pa_nil))) (pg_name (i := 2) scJoined.nd rfl (Or.inl rfl))
        (pss_one (ps_if (pw_or (pt_cmp (pc_dnotin hu (pv 2) (pv 1)) (by rfl)) (pw_or1 (pt_cmp (pc_dnotin hu pe_int (pe_call GW hr (by rfl) Z.mW Z.W.kp Z.bW .nil pass0 (pa_cons (pv 0) (pa_cons (pv 2) pa_nil)))) (by rfl)))).pt
          (pss_one (ps_ret pe_bl)) pss_nil)))
      (pss_one (ps_ret pe_bl))), ?_⟩
    refine ⟨_, rfl, f, fr, last, 0, rfl, fa, fm, Nat.zero_le _, fun H1 d kvs s1 n1 e1 h1 => ?_⟩
    refine ⟨_, rfl, f, fr, last, rfl, fa.same s1, fm, fun H2 p ns s2 n2 e2 l2 k2 => ⟨p, rfl, ⟨_, SqL.of e2⟩, for_it (walk_list (xs := ns.map V.int)) (fun i σ H' => ∃ v2 : Option V, σ = [some (.ref f), some (.ref d), v2] ∧ Same H2 H')
      ⟨none, rfl, fun _ _ e => e⟩ (fun i σ H' _ ⟨_, _, z⟩ => SqL.of (z _ _ e2)) ?_ ?_⟩⟩
    · rintro i x σ H3 H4 hi ⟨v2, rfl, s3⟩ ⟨rfl, hx⟩
      obtain ⟨k, hk, rfl⟩ : ∃ k : Int, k ∈ ns ∧ x = .int k := by
        rw [List.getElem?_map] at hx
        cases e : ns[i]? with
        | none =>
          rw [e] at hx
          cases hx
        | some k =>
          rw [e] at hx
          exact ⟨k, List.mem_of_getElem? e, (Option.some.inj hx).symm⟩
      obtain ⟨k0, k1⟩ := k2 k hk
      obtain ⟨b, rfl⟩ := Int.eq_ofNat_of_zero_le k0
      have hb : b ≤ last := by omega
      have hb' : (valV kvs (Sum.inl (b : Int) : Key)).isSome = true := h1 b hb
      refine ⟨_, rfl, _, rfl, d, _, rfl, DGet.k (k := Sum.inl (b : Int)) (s3 _ _ (s2 _ _ e1)), _, rfl, iteF' (by rw [hb']; rfl) ?_⟩
      refine ⟨_, rfl, _, rfl, f, fr, last, b, rfl, (fa.same s1).same (s2.trans s3), fm, hb, fun H5 d5 kvs5 s5 n5 e5 h5 => ?_⟩
      have h0' : (valV kvs5 (Sum.inl (0 : Int) : Key)).isSome = true := h5 0 (Nat.zero_le _)
      refine ⟨d5, _, rfl, DGet.k (k := Sum.inl (0 : Int)) e5, _, rfl, iteF' (by rw [h0']; rfl) ?_⟩
      exact ⟨_, rfl, s3.trans s5⟩
    · rintro σ H3 ⟨v2, rfl, s3⟩
      exact q H3 (s1.trans (s2.trans s3))
theorem scNeedF : FnScope ["thing", "number", "step"] ["thing"] (defScope sNeedF) := ⟨rfl, rfl, rfl, by decide +kernel, rfl, by decide +kernel, by decide +kernel⟩
theorem ok_needF (Z : Fs K mg) : FnOk P w K mg base CX0 3 Z.fF Z.dF ["thing"] spNeedF := by
  have GS : FnOk P w K mg base CX0 2 Z.fS Z.dS ["thing"] spStep := ok_step Z.S Z.T Z.N Z.bN Z.mN Z.P Z.bP Z.mP
  have GJ : FnOk P w K mg base CX0 2 Z.fJ Z.dJ ["framing"] spJoined := ok_joined Z
  refine Z.F.ok scNeedF (fun vs H Q E h => ?_) (fun cdv A outer s H vs Q E hr h => ?_)
  · obtain ⟨f, fr, last, rfl, _⟩ := h
    rfl
  · obtain ⟨f, fr, last, rfl, fa, fm, q⟩ := h
    have hu := hu_of hr
    have hu0 : (A.deeper (PyProof.Rows.envOfC "need_framing" (defScope sNeedF) s.heap.objs.size Z.fF cdv)).units < cLine := by omega
    obtain ⟨tm, eM⟩ := Z.ms
    refine ⟨_, pss_cons (ps_if (pw_or (pt_not (pt_val (pe_callB call_isi (by rfl) Z.T.isi PyProof.Rows.boot_isinstance (pa_cons (pv 0) (pa_cons (pe_bltn (v := .ty "tuple") (by rfl) Z.T.tuple (by decide +kernel) rfl) pa_nil)))))
        (pw_or1 (pt_not (pt_chain op_le op_le pe_int (pe_callB call_len_seq (by rfl) Z.T.len PySem.boot_len (pa_cons (pv 0) pa_nil)) (pe_glob (v := .int 16) (by rfl) eM ⟨_, rfl⟩))))).pt
        (pss_one ps_never) pss_nil)
      (pss_cons (ps_for PassesOwn.never rfl (pi_enumT (by rfl) Z.en (pa_cons (pv 0) pa_nil)) (pg_tup rfl (pgs_cons (pg_name (i := 1) scNeedF.nd rfl (Or.inl rfl)) (pgs_cons (pg_name (i := 2) scNeedF.nd rfl (Or.inl rfl)) pgs_nil)))
        (pss_one (ps_if (pw_or (pt_not (pt_val (pe_call GS hr (by rfl) Z.mS Z.S.kp Z.bS .nil pass0 (pa_cons (pv 2) pa_nil))))
          (pw_or1 (pw_and (pt_cmpR op_gt (pv 1) pe_int (nomark _)) (pw_and1 (pt_cmpR (op_le3 hu0) (pv 2) (pe_ix ix_tup (pv 0) (pe_op op_sub (pv 1) pe_int) (fun _ _ => rfl)) (nomark _)))).pt)).pt
          (pss_one ps_never) pss_nil)))
      (pss_cons (ps_if (pt_not (pt_val (pe_call GJ hr (by rfl) Z.mJ Z.J.kp Z.bJ .nil pass0 (pa_cons (pv 0) pa_nil)))) (pss_one ps_never) pss_nil)
      (pss_one (ps_ret (pv 0))))), ?_⟩
    obtain ⟨ts, hf, hl, ht⟩ := id fa
    have l0 := fm.l0
    have l1 := fm.l1
    refine ⟨_, rfl, .ref f, .ty "tuple", .type "tuple", .type "tuple", true, rfl, .ty "tuple", .base (.tup hf), kit_ty (by decide +kernel), true, rfl, iteF ?_⟩
    refine ⟨_, rfl, f, _, rfl, .inr (SqT.of hf), 1, _, rfl, rfl, _, rfl, iteT' (decide_eq_true (by simp; omega)) ⟨_, 16, rfl, rfl, _, rfl, ?_⟩⟩
    refine iteF' (by rw [decide_eq_true (by simp; omega)]; rfl) ?_
    refine ⟨_, rfl, f, _, rfl, SqT.of hf, for_it (walk_enumT (xs := ts.map V.ref)) (fun i σ H' => ∃ v1 v2 : Option V, σ = [some (.ref f), v1, v2] ∧ Same H H')
      ⟨none, none, rfl, fun _ _ e => e⟩ (fun i σ H' _ ⟨_, _, _, z⟩ => SqT.of (z _ _ hf)) ?_ ?_⟩
    · rintro i x σ H1 H2 hi ⟨v1, v2, rfl, s1⟩ ⟨T, xi, xo, rfl, nT, rfl, h1, h2⟩
      cases h1
      obtain ⟨t, y, hy, rfl, e4⟩ := at_step (i := i) hl ht h2
      have s2 := s1.trans (same_upd (o := HO.tup [V.int (i : Nat), V.ref t]) nT)
      refine ⟨T, _, rfl, SqT.of upd_same, rfl, _, _, rfl, _, _, rfl, rfl, ?_⟩
      refine ⟨_, rfl, t, y, rfl, s2 _ _ e4, fm.stp y (List.mem_of_getElem? hy), fun H3 s3 => ⟨_, rfl, iteF ?_⟩⟩
      refine ⟨_, rfl, (i : Int), 0, rfl, rfl, _, rfl, ?_⟩
      refine ite2 (fun z => ?_) (fun z => ?_)
      · have z1 : (0 : Int) < i := of_decide_eq_true z
        obtain ⟨j, rfl⟩ : ∃ j, i = j + 1 := ⟨i - 1, by omega⟩
        have jl : j < fr.length := by
          have := (List.getElem?_eq_some_iff.mp hy).1
          omega
        have jt : j < ts.length := by omega
        have e5 := ht j ts[j] fr[j] (List.getElem?_eq_getElem jt) (List.getElem?_eq_getElem jl)
        have lt : lt3 fr[j] y = true := by
          have h3 := List.pairwise_iff_getElem.mp fm.srt j (j + 1) jl (List.getElem?_eq_some_iff.mp hy).1 (by omega)
          rw [(List.getElem?_eq_some_iff.mp hy).2] at h3
          exact h3
        refine ⟨_, rfl, _, rfl, _, rfl, _, _, rfl, rfl, f, _, (j : Int), V.ref ts[j], rfl, ?_, SqT.of (s3 _ _ (s2 _ _ hf)), atI_nat ?_, t, ts[j], y, fr[j], rfl, rfl, s3 _ _ (s2 _ _ e4), s3 _ _ (s2 _ _ e5), _, rfl, ?_⟩
        · show V.int (((j + 1 : Nat) : Int) - 1) = V.int (j : Int)
          congr 1
          omega
        · rw [List.getElem?_map, List.getElem?_eq_getElem jt]
          rfl
        · refine iteF' (by rw [lt]; rfl) ?_
          exact ⟨_, _, rfl, s2.trans s3⟩
      · refine iteF ?_
        exact ⟨_, _, rfl, s2.trans s3⟩
    · rintro σ H1 ⟨v1, v2, rfl, s1⟩
      refine ⟨_, rfl, f, fr, last, rfl, fa.same s1, fm, fun H2 s2 => ⟨_, rfl, iteF ⟨_, rfl, q H2 (s1.trans s2)⟩⟩⟩
end
end K37

set_option Elab.async false
set_option linter.all false
set_option maxRecDepth 100000
set_option maxHeartbeats 4000000
/-! try: .. except (A, B, ..) as e: the caught error is kept as a value behind the suite. Raising an own exception that was made by its own __init__. -/
namespace L2
namespace EV
open PySem PySem.Spec PyProof.Rows _root_.EV
/-- an exception that was caught, at a -/
def exh (cls : Value) (d : Option Addr) (a : Addr) : HO := .ext fun h => ∃ (oe : Obj) (vs : Array Value), h.get? a = some oe ∧ Zc cls d oe ∧ oe.data = .fields vs
theorem exh_ok {P : Program} {w : World} {H : Hp} {h : Heap} {a : Addr} {cls : Value} {d : Option Addr} {oe : Obj} {vs : Array Value} (e : h.get? a = some oe) (z : Zc cls d oe) (hd : oe.data = .fields vs) : ObjOk P w H h a (exh cls d a) :=
  ⟨⟨oe, vs, e, z, hd⟩, ⟨oe, e⟩, fun _ _ ⟨o, v, q, r⟩ k => ⟨o, v, k o q, r⟩⟩
theorem exh_at {P : Program} {w : World} {H : Hp} {h : Heap} {a : Addr} {cls : Value} {d : Option Addr} (hok : HOk P w H h) (e : H a = some (exh cls d a)) : ∃ (oe : Obj) (vs : Array Value), h.get? a = some oe ∧ Zc cls d oe ∧ oe.data = .fields vs := by
  have q : ObjOk P w H h a (.ext fun h => ∃ (oe : Obj) (vs : Array Value), h.get? a = some oe ∧ Zc cls d oe ∧ oe.data = .fields vs) := hok a _ e
  exact q.1
theorem flies_keeps {B : Heap} {l : List Env} {a : Addr} {Z : Obj → Prop} {h h' : Heap} (f : HandSPX.FlyingZ B l a Z h) (k : ∀ b o, h.get? b = some o → h'.get? b = some o) : HandSPX.FlyingZ B l a Z h' := by
  obtain ⟨f1, f2, f3, oe, vs, T, oT, ts, e1, e2, e3, e4, e5, e6, e7, e8, e9⟩ := f
  exact ⟨fun b o q => k b o (f1 b o q), f2, f3.of_keeps fun b o q _ => ⟨o, k b o q, rfl⟩, oe, vs, T, oT, ts, k _ _ e1, e2, e3, e4, e5, e6, k _ _ e7, e8, e9⟩
/-! ### does one of several classes match -/
section
variable {M : Model} {K : PySem.W.Frag} {h : Heap} {cls : Value}
theorem all_cls : ∀ {cs : List Value} {b : Bool}, PySem.W.exmAny K cls cs = some b → ∀ c ∈ cs, ∃ v, PySem.W.exmOne K cls c = some v
  | c :: r, b, e, x, hx => by
    obtain ⟨b1, d1, h1, h2, _⟩ := PySem.W.exmAny_cons e
    rcases List.mem_cons.mp hx with rfl | hx
    · exact ⟨_, h1⟩
    · exact all_cls h2 x hx
section
variable {A : Around} {E : Value → Shared → Prop} {s : Shared}
theorem loop_exc (X : K.In h) (k0 : ∀ b o, h.get? b = some o → s.heap.get? b = some o) {R : PUnit → Shared → Prop} (r : R ⟨⟩ s) : ∀ l : List Value, (∀ c ∈ l, ∃ v, PySem.W.exmOne K cls c = some v) →
    wpAny M A (forIn l PUnit.unit fun c _ => do
        if (!(← isExcClass c)) = true then do
          rule "try.except-non-exception-class"
          raiseErrorWords "TypeError" "catching classes that do not inherit from BaseException is not allowed"
          pure (ForInStep.yield PUnit.unit)
        else pure (ForInStep.yield PUnit.unit)) R E s := by
  intro l
  induction l with
  | nil => exact fun _ => wpAny_pure r
  | cons c l ih =>
    intro hl
    obtain ⟨v, hv⟩ := hl c (List.mem_cons_self ..)
    obtain ⟨i1, _⟩ := PySem.W.exm_cls (M := M) X hv
    rw [List.forIn_cons]
    refine wpAny_bind (wpAny_bind ((i1.keeps k0).here ?_))
    simp only [Bool.not_true, Bool.false_eq_true, if_false]
    exact wpAny_pure (ih fun x hx => hl x (List.mem_cons_of_mem _ hx))
theorem loop_sub (X : K.In h) (k0 : ∀ b o, h.get? b = some o → s.heap.get? b = some o) {R : Option Bool × Unit → Shared → Prop} : ∀ (l : List Value) (b : Bool), PySem.W.exmAny K cls l = some b → R (if b = true then (some true, ()) else (none, ())) s →
    wpAny M A (forIn l ((none, ()) : Option Bool × Unit) fun c _ => do
        if (← isSubtype cls c) = true then pure (ForInStep.done (some true, ())) else pure (ForInStep.yield (none, ()))) R E s := by
  intro l
  induction l with
  | nil =>
    intro b e r
    have : some false = some b := e
    cases this
    exact wpAny_pure r
  | cons c l ih =>
    intro b e r
    obtain ⟨b1, d1, h1, h2, rfl⟩ := PySem.W.exmAny_cons e
    obtain ⟨_, S1⟩ := PySem.W.exm_cls (M := M) X h1
    rw [List.forIn_cons]
    refine wpAny_bind (wpAny_bind ((S1.keeps k0).here ?_))
    cases b1 with
    | true =>
      rw [Bool.true_or] at r
      simp only [if_true]
      exact wpAny_pure (wpAny_pure r)
    | false =>
      rw [Bool.false_or] at r
      simp only [Bool.false_eq_true, if_false]
      exact wpAny_pure (ih _ h2 r)
end
theorem match_list {cs : List Value} {b : Bool} {tp e : Addr} (X : K.In h) (LT : PySem.W.Looks M h (typeOf (.ref e)) cls) (hp : h.get? tp = some { cls := .type "tuple", data := .seq cs.toArray }) (hx : PySem.W.exmAny K cls cs = some b) :
    PySem.W.Looks M h (excMatches (.ref e) (.ref tp)) b := by
  intro A Q E s k0 q
  have L0 : PySem.W.Looks M h (isInstance (.ref tp) (.type "tuple")) true := ((PySem.W.Looks.ld hp).andThen .now).andThen (PySem.W.Looks.of_pure isSubtype_tuple_tuple)
  have hp' := k0 _ _ hp
  unfold excMatches
  refine wpAny_bind ((L0.keeps k0).here ?_)
  rw [if_pos rfl]
  have ec : ((some cs.toArray).getD #[]).toList = cs := by simp
  refine wpAny_bind ?_
  refine wpAny_seqItems hp' rfl ?_
  refine wpAny_bind (wpAny_pure ?_)
  show wpAny _ _ (do
      forIn ((some cs.toArray).getD #[]).toList PUnit.unit _
      _) _ _ _
  rw [ec]
  refine wpAny_bind (loop_exc X k0 ?_ cs (all_cls hx))
  refine wpAny_bind ((LT.keeps k0).here ?_)
  refine wpAny_bind (loop_sub X k0 cs b hx ?_)
  cases b with
  | true => exact wpAny_pure q
  | false => exact wpAny_pure q
end
/-! ### the rule -/
/-- classes by their names -/
inductive ClsL (X : Cx) : List Expr → List Value → Prop
  | nil : ClsL X [] []
  | cons {x : Str} {c : Value} {p : Pos} {es : List Expr} {cs : List Value} : Names X x c → ClsL X es cs → ClsL X (.Name x p :: es) (c :: cs)
theorem ClsL.suite {X : Cx} {a : Addr} {pn : List (Addr × Obj)} : ∀ {es : List Expr} {cs : List Value}, ClsL X es cs → ClsL (X.suite a pn) es cs
  | _, _, .nil => .nil
  | _, _, .cons hc r => .cons (X := X.suite a pn) hc r.suite
theorem cls_read {Y : Cx} {pins : List (Addr × Obj)} {σ : St} {H : Hp} {s : Shared} (I : Inv Y pins σ H s) {pos : Pos} {E : Value → Shared → Prop} : ∀ {es : List Expr} {cs : List Value} {Q : List Value → Shared → Prop}, ClsL Y es cs → Q cs s →
    wpAny (model Y.prog Y.w) Y.A (spliced (backTo pos (starEach es Y.env))) Q E s
  | _, _, _, .nil, q => wpAny_items_nil q
  | _, _, Q, .cons (c := c) (es := es) (cs := cs) hc r, q => wpAny_items_cons (by
      have rest : wpAny (model Y.prog Y.w) Y.A (spliced (backTo pos (starEach es Y.env))) (fun vs s2 => Q (c :: vs) s2) E s := cls_read I r q
      obtain ⟨hg, hd, hm | ⟨hm, hv, hn⟩⟩ := hc
      · exact ld_glob I hg hm rest hd
      · exact ld_blt I hg hm hv rest hn hd)
theorem ClsL.len {X : Cx} : ∀ {es : List Expr} {cs : List Value}, ClsL X es cs → cs.length = es.length
  | _, _, .nil => rfl
  | _, _, .cons _ r => by rw [List.length_cons, List.length_cons, r.len]
/-- what is pinned is tracked from now on -/
theorem inv_hold {X : Cx} {pins : List (Addr × Obj)} {σ : St} {H : Hp} {s : Shared} {a : Addr} {oe : Obj} {vs : Array Value} {cls : Value} {d : Option Addr} (I : Inv X ((a, oe) :: pins) σ H s) (hm : ∀ p, p ∈ (a, oe) :: (X.pn ++ pins) → p ∈ X.pn ++ ((a, oe) :: pins)) (z : Zc cls d oe) (hd : oe.data = .fields vs)
    (n0 : X.s_0.heap.get? a = none) (np : ∀ p ∈ X.pn ++ pins, p.1 ≠ a) : Inv X pins σ (upd H a (exh cls d a)) s := by
  obtain ⟨e, n, ne, nf, dc⟩ := I.pin (a, oe) (hm _ (List.mem_cons_self ..))
  have ne : a ≠ X.env.locals := ne
  have n : H a = none := n
  have old : ∀ b o, X.s_0.heap.get? b = some o → b ≠ a := fun b o q z => by
    rw [z, n0] at q
    cases q
  refine ⟨I.ok, I.os, I.bare, ⟨I.base.keep, I.base.slot, fun b o q m hx => ?_, I.base.there, fun b xs q => ?_, fun b o u q => ?_, fun b ps q => ?_⟩, I.loc, I.cell, ?_, fun x c q => ?_, fun p hp => ?_, ?_, I.len⟩
  · rw [upd_ne (old b o q)]
    exact I.base.free b o q m hx
  · have z := I.base.tups b xs q
    rw [upd_ne (ne_of_none z n)]
    exact z
  · have z := I.base.frzs b o u q
    rw [upd_ne (ne_of_none z n)]
    exact z
  · obtain ⟨m, z⟩ := I.base.tbls b ps q
    exact ⟨m, by rw [upd_ne (ne_of_none z n)]; exact z⟩
  · rw [upd_ne ne.symm]
    exact I.free
  · have nc : c ≠ a := fun z => by
      obtain ⟨v, o, q1, q2⟩ := I.cell x c q
      rw [z] at q1
      have e' : s.heap.get? a = some oe := e
      rw [e'] at q1
      cases q1
      rw [hd] at q2
      cases q2
    rw [upd_ne nc]
    exact I.freeC x c q
  · obtain ⟨e1, e2, e3, e4, e5⟩ := I.pin p (hm p (List.mem_cons_of_mem _ hp))
    exact ⟨e1, by rw [upd_ne (np p hp)]; exact e2, e3, e4, e5⟩
  · exact I.hok.laidN (fun _ _ q => q) n (exh_ok e z hd)
/-- what the clause wishes of an exception of the body: it is of one of the classes; behind the suite it stands at a -/
def wKeep (K : PySem.W.Frag) (n : Nat) (cs : List Value) (i : Nat) (ts : Addr → Value → Option Addr → TS) (D : Ends) : WX := fun cls d σ H => σ.length = n → PySem.W.exmAny K cls cs = some true ∧
  ∀ a, H a = none → ts a cls d { nx := fun σ' H' => D.nx (σ'.set i none) (upd H' a (exh cls d a)), rt := fun _ _ => False } (σ.set i (some (.ref a))) H
section
variable {X : Cx} {n : Str} {cs : List Value} {es : List Expr} {kx i : Nat} {body suite : List Stmt} {b0 : Stmt} {tpos pos hpos : Pos} {tb : WX → TS} {ts : Addr → Value → Option Addr → TS}
theorem ps_try_keep (hs : X.stack = X.env :: X.outer) (hf : X.env.frame = some X.env.locals) (hex : X.ex = []) (hN : X.N.Nodup) (hi : X.N[i]? = some n) (hln : X.env.kindOf n = some .local) (hc : ClsL X es cs) (hl : es.length ≤ 1000)
    (hb : ∀ (W : WX) (pn : List (Addr × Obj)) (xe : Value → Shared → Prop), Takes (X.tr pn xe) W → PassesOwn (model X.prog X.w) X.A X.env xe → PSs (X.tr pn xe) body (tb W))
    (hsu : ∀ (a : Addr) (oe : Obj) (cls : Value) (d : Option Addr) (pn : List (Addr × Obj)), Zc cls d oe → (∃ vs, oe.data = .fields vs) → PSs (X.suite a ((a, oe) :: pn)) (b0 :: suite) (ts a cls d)) :
    PS X (.Try body [.ExceptHandler (some (.Tuple es kx tpos)) (some n) (b0 :: suite) hpos] [] [] pos) (fun D σ H => tb (wKeep X.K X.N.length cs i ts D) D σ H) := by
  refine ⟨fun pins s σ H D I h => ?_⟩
  have ok := I.ok
  have hfr : X.A.frames = some (X.env :: X.outer) := by rw [ok.frames, hs]
  have loc : Loc X.env.scope n := .inl hln
  have B0 := hb (wKeep X.K X.N.length cs i ts D) (X.pn ++ pins) (fun e s1 => wpAny (model X.prog X.w) X.A (noteFrame e X.env) (fun _ s2 => wpAny (model X.prog X.w) X.A (setFlight e none) (fun _ s3 =>
    wpAny (model X.prog X.w) X.A (handleBy e X.env [.ExceptHandler (some (.Tuple es kx tpos)) (some n) (b0 :: suite) hpos]) (SP X pins D) X.xe s3) X.xe s2) X.xe s1)
  refine wpAny_Try_except (wpAny_mono ((B0 (fun u s' caught => ?_) PassesOwn.looking).run [] s σ H D (I.toTry _) h) (fun f s1 went => ?_) fun _ _ z => z)
  · obtain ⟨a, B, sI, pins', σ', H', cls, d, rfl, J', nb, up, sky, na, os, ag, hW⟩ := caught
    obtain ⟨hit, hyes⟩ := hW J'.len
    have J : Inv X pins σ' H' sI := J'.ofTry ok
    show wpAny (model X.prog X.w) X.A (noteFrame (.ref a) X.env) _ _ _
    refine Sky.land Zc.steady hfr hf (by rw [← hs]; exact sky) fun h3 fl3 up3 => ?_
    have J3 : Inv X pins σ' H' { s' with heap := h3 } := J.landed nb fl3.1 (up.trans up3) os ag
    obtain ⟨oe3, vs3, he3, hz3, hd3⟩ := fl3.there
    have nfr : a ∉ frs (X.env :: X.outer) := fun hm => by
      obtain ⟨_, o, q, nd⟩ := fl3.2.2.1.mem hm
      rw [he3] at q
      cases q
      exact nd _ hd3
    have nL : a ≠ X.env.locals := fun z => nfr (List.mem_filterMap.mpr ⟨X.env, List.mem_cons_self, by rw [hf, z]⟩)
    have nF : a ∉ X.fs := fun hm => by
      obtain ⟨e, he, q⟩ := List.mem_filterMap.mp hm
      exact nfr (List.mem_filterMap.mpr ⟨e, List.mem_cons_of_mem _ he, q⟩)
    have nI : sI.heap.get? a = none := by
      cases q : sI.heap.get? a with
      | none => rfl
      | some o =>
        have z := nb a o q (by rw [hs]; exact nfr)
        rw [fl3.2.1] at z
        cases z
    have n0 : X.s_0.heap.get? a = none := by
      cases q : X.s_0.heap.get? a with
      | none => rfl
      | some o =>
        obtain ⟨o', z⟩ := J.base.there a o q (by rw [hex]; exact fun z => nomatch z)
        rw [nI] at z
        cases z
    have np : ∀ p ∈ X.pn ++ pins, p.1 ≠ a := fun p hp z => by
      have q := (J.pin p hp).1
      rw [z, nI] at q
      cases q
    have S3 := J3.suite he3 hd3 na nL nF
    refine wpAny_handleBy_cons (codeAny_handlers_test ?_) (by intro q; cases q)
    refine wpAny_Tuple (cls_read S3 hc.suite ⟨by rw [hc.len, sizeLine_eq]; omega, ?_⟩)
    have k5 : ∀ b o, h3.get? b = some o → (h3.push { cls := .type "tuple", data := .seq cs.toArray }).get? b = some o := fun _ _ z => Heap.get?_push_of_some _ z
    have LT : PySem.W.Looks (model X.prog X.w) (h3.push { cls := .type "tuple", data := .seq cs.toArray }) (typeOf (.ref a)) cls := fun A Q E s k q => wpAny_typeOf_ref (k _ _ (k5 _ _ he3)) (by rw [hz3.1]; exact q)
    refine (match_list (M := model X.prog X.w) (J3.kIn.keeps k5) LT (Heap.get?_push_size h3 rfl) hit).here ?_
    refine codeAny_handlers_suite_as ?_
    refine HandSPX.lands_againZ (flies_keeps fl3 k5) fun h4 fl4 up4 => ?_
    have J4 : Inv X pins σ' H' { s' with heap := h4 } := J.landed nb fl4.1 (((up.trans up3).trans (Heap.UpToSlots.of_keeps k5)).trans up4) os ag
    obtain ⟨oe4, vs4, he4, hz4, hd4⟩ := fl4.there
    have S4 := J4.suite he4 hd4 na nL nF
    refine store_ok (X := X.suite a ((a, oe4) :: (X.pn ++ pins))) (v := .ref a) S4 hN hi loc rfl (fun s5 S5 => ?_) (.inr hln)
    refine wpAny_mono ((hsu a oe4 cls d (X.pn ++ pins) hz4 ⟨_, hd4⟩).run [] s5 _ H' _ S5 (hyes a na)) (fun f s6 hsp => ?_) (fun _ _ z => False.elim z)
    cases f with
    | next =>
      obtain ⟨σ6, H6, S6, q6⟩ := hsp
      have K6 : Inv X ((a, oe4) :: pins) σ6 H6 s6 := ⟨ok, S6.os, S6.bare, S6.base, S6.loc, S6.cell, S6.free, S6.freeC, fun p hp => S6.pin p (by
        show p ∈ ((a, oe4) :: (X.pn ++ pins)) ++ []
        rw [List.append_nil]
        rcases List.mem_append.mp hp with z | z
        · exact List.mem_cons_of_mem _ (List.mem_append_left _ z)
        · rcases List.mem_cons.mp z with z | z
          · rw [z]
            exact List.mem_cons_self ..
          · exact List.mem_cons_of_mem _ (List.mem_append_right _ z)), S6.hok, S6.len⟩
      refine gone_ok K6 hN hi hln fun s7 J7 => ⟨_, _, inv_hold J7 (fun p hp => ?_) hz4 hd4 n0 np, q6⟩
      rcases List.mem_cons.mp hp with z | z
      · rw [z]
        exact List.mem_append_right _ (List.mem_cons_self ..)
      · rcases List.mem_append.mp z with z | z
        · exact List.mem_append_left _ z
        · exact List.mem_append_right _ (List.mem_cons_of_mem _ z)
    | brk =>
      obtain ⟨_, _, _, z⟩ := hsp
      exact False.elim z
    | cont =>
      obtain ⟨_, _, _, z⟩ := hsp
      exact False.elim z
    | ret u =>
      obtain ⟨_, _, _, _, _, z⟩ := hsp
      exact False.elim z
  · cases f with
    | next =>
      obtain ⟨σ', H', J', q⟩ := went
      exact wpAny_execs_nil ⟨σ', H', J'.ofTry ok, q⟩
    | brk =>
      obtain ⟨σ', H', J', q⟩ := went
      exact ⟨σ', H', J'.ofTry ok, q⟩
    | cont =>
      obtain ⟨σ', H', J', q⟩ := went
      exact ⟨σ', H', J'.ofTry ok, q⟩
    | ret u =>
      obtain ⟨v, σ', H', J', r, q⟩ := went
      exact ⟨v, σ', H', J'.ofTry ok, r, q⟩
end
/-! ### raise C(..), C with its own __init__ -/
theorem pmk_own2 {X : Cx} {e : Expr} {te : TE} (hx : X.ex = []) (he : PE X e te) :
    PMk X e (fun σ H Q => te σ H fun x H1 => ∃ (a C : Addr) (od : Option Addr), x = .ref a ∧ H1 a = some (exo a C od) ∧ Fr0 X.H_0 a ∧ Raises X (.ref C) ∧ Q (.ref C) od (delH H1 a)) := by
  intro pins s σ H Q I h
  refine wpAny_mono (he.run pins s σ H _ I h) (fun u s1 hu => ?_) fun _ _ x => x
  obtain ⟨v, H1, I1, r1, a, C, od, rfl, ha, h0, hr, q⟩ := hu
  cases r1
  obtain ⟨t1, ho⟩ := exo_at I1.hok ha
  obtain ⟨G, gs, ga, J⟩ := I1.untrack ha h0 hx
  exact ⟨a, _, _, { s1 with heap := G }, delH H1 a, .ref C, od, rfl, J, gs, ga, ho, ⟨rfl, rfl⟩, rfl, rfl, delH_same, rfl, I1.bare, hr, q⟩
/-! ### isinstance of a caught one -/
def rIsC (K : PySem.W.Frag) : List V → Hp → VK → Prop := fun xs H Q => ∃ (a C : Addr) (B newId initId : String) (bm : List Value) (c : V) (u : Value) (b : Bool),
  xs = [.ref a, c] ∧ ClsV c u ∧ OxC K C B newId initId bm ∧ H a = some (exh (.ref C) none a) ∧ PySem.W.kitOne K (.ref C) u = some b ∧ Q (.bl b) H
theorem call_isC {X : Cx} : CallR X (.builtin "isinstance") (rIsC X.K) := by
  intro pins s σ H xs us Q I r h
  obtain ⟨a, C, B, newId, initId, bm, c, u, b, rfl, k, T, ea, e, q⟩ := h
  obtain ⟨u1, u2, rfl, r1, r2⟩ := vals2 r
  have e2 := k.eq r2
  subst e2
  obtain rfl : u1 = Value.ref a := r1
  obtain ⟨oe, vs, ho, hz, hd⟩ := exh_at I.hok ea
  obtain ⟨cd, hcl, _⟩ := T.data
  have some_ : (PySem.W.clsIn X.K C).isSome = true := by rw [hcl]; rfl
  have J : PySem.W.InstAt s.heap a oe C none := ⟨ho, hz.1, by unfold PySem.W.notCls; rw [hd], by rw [hz.2]; exact trivial⟩
  exact PySem.W.kia_one (PySem.W.kitx_exc some_ T.ga T.gg T.exC T.ca T.cn T.ct T.om) I.kIn J e (fun z => nomatch z) fun tk => ⟨.bl b, H, I.tok tk, rfl, q⟩
end EV
end L2

set_option Elab.async false
set_option linter.all false
set_option maxRecDepth 100000
set_option maxHeartbeats 4000000
/-! Data of any form; is_number of it. -/
namespace K37
open PySem L2 L2.EV
mutual
/-- v stands for d, all of its lists and tuples tracked -/
inductive Da (H : Hp) : V → PyData → Prop
  | non : Da H .non .none
  | bl (b : Bool) : Da H (.bl b) (.bool b)
  | int (i : Int) : Da H (.int i) (.int i)
  | str (x : Str) : Da H (.str x) (.str x)
  | lst {a : Addr} {xs : List V} {ds : List PyData} : H a = some (.lst xs) → DaAll H xs ds → Da H (.ref a) (.list ds)
  | tup {a : Addr} {xs : List V} {ds : List PyData} : H a = some (.tup xs) → DaAll H xs ds → Da H (.ref a) (.tuple ds)
inductive DaAll (H : Hp) : List V → List PyData → Prop
  | nil : DaAll H [] []
  | cons {v : V} {vs : List V} {d : PyData} {ds : List PyData} : Da H v d → DaAll H vs ds → DaAll H (v :: vs) (d :: ds)
end
mutual
theorem Da.same {H H' : Hp} (s : Same H H') : ∀ (d : PyData) (v : V), Da H v d → Da H' v d
  | .none, _, h => by cases h; exact .non
  | .bool b, _, h => by cases h; exact .bl b
  | .int i, _, h => by cases h; exact .int i
  | .str x, _, h => by cases h; exact .str x
  | .list ds, _, h => by
    cases h with
    | lst e ha => exact .lst (s _ _ e) (DaAll.same s ds _ ha)
  | .tuple ds, _, h => by
    cases h with
    | tup e ha => exact .tup (s _ _ e) (DaAll.same s ds _ ha)
  | .dict _, _, h => by cases h
theorem DaAll.same {H H' : Hp} (s : Same H H') : ∀ (ds : List PyData) (vs : List V), DaAll H vs ds → DaAll H' vs ds
  | [], _, h => by cases h; exact .nil
  | d :: ds, _, h => by
    cases h with
    | cons h1 h2 => exact .cons (Da.same s d _ h1) (DaAll.same s ds _ h2)
end
mutual
theorem Da.dp {K : PySem.W.Frag} {H : Hp} : ∀ (d : PyData) (v : V), Da H v d → Dp K H v d
  | .none, _, h => by cases h; exact .non
  | .bool b, _, h => by cases h; exact .bl b
  | .int i, _, h => by cases h; exact .int i
  | .str x, _, h => by cases h; exact .str x
  | .list ds, _, h => by
    cases h with
    | lst e ha => exact .lst (SqL.of e) (DaAll.dp ds _ ha)
  | .tuple ds, _, h => by
    cases h with
    | tup e ha => exact .tup (SqT.of e) (DaAll.dp ds _ ha)
  | .dict _, _, h => by cases h
theorem DaAll.dp {K : PySem.W.Frag} {H : Hp} : ∀ (ds : List PyData) (vs : List V), DaAll H vs ds → DpAll K H vs ds
  | [], _, h => by cases h; exact .nil
  | d :: ds, _, h => by
    cases h with
    | cons h1 h2 => exact .cons (Da.dp d _ h1) (DaAll.dp ds _ h2)
end
theorem DaAll.len {H : Hp} : ∀ {vs : List V} {ds : List PyData}, DaAll H vs ds → vs.length = ds.length
  | _, _, .nil => rfl
  | _, _, .cons _ t => by rw [List.length_cons, List.length_cons, t.len]
theorem DaAll.at_ {H : Hp} : ∀ {vs : List V} {ds : List PyData} {i : Nat} {v : V}, DaAll H vs ds → vs[i]? = some v → ∃ d, ds[i]? = some d ∧ Da H v d
  | _, _, 0, _, .cons h _, e => by
    cases e
    exact ⟨_, rfl, h⟩
  | _, _, i + 1, _, .cons _ t, e => t.at_ (i := i) (by simpa using e)
  | _, _, _, _, .nil, e => by simp at e
theorem DaAll.at' {H : Hp} : ∀ {vs : List V} {ds : List PyData} {i : Nat} {d : PyData}, DaAll H vs ds → ds[i]? = some d → ∃ v, vs[i]? = some v ∧ Da H v d
  | _, _, 0, _, .cons h _, e => by
    cases e
    exact ⟨_, rfl, h⟩
  | _, _, i + 1, _, .cons _ t, e => t.at' (i := i) (by simpa using e)
  | _, _, _, _, .nil, e => by simp at e
theorem DaAll.app {H : Hp} : ∀ {vs ws : List V} {ds es : List PyData}, DaAll H vs ds → DaAll H ws es → DaAll H (vs ++ ws) (ds ++ es)
  | _, _, _, _, .nil, q => q
  | _, _, _, _, .cons h t, q => .cons h (t.app q)
theorem DaAll.drop {H : Hp} : ∀ {vs : List V} {ds : List PyData} (n : Nat), DaAll H vs ds → DaAll H (vs.drop n) (ds.drop n)
  | _, _, 0, h => h
  | _, _, n + 1, .nil => .nil
  | _, _, n + 1, .cons _ t => t.drop n
theorem DaAll.take {H : Hp} : ∀ {vs : List V} {ds : List PyData} (n : Nat), DaAll H vs ds → DaAll H (vs.take n) (ds.take n)
  | _, _, 0, h => .nil
  | _, _, n + 1, .nil => .nil
  | _, _, n + 1, .cons h t => .cons h (t.take n)
theorem DaAll.rev {H : Hp} : ∀ {vs : List V} {ds : List PyData}, DaAll H vs ds → DaAll H vs.reverse ds.reverse
  | _, _, .nil => .nil
  | _, _, .cons h t => by
    rw [List.reverse_cons, List.reverse_cons]
    exact t.rev.app (.cons h .nil)
/-! ### of which type -/
def isTup : PyData → Bool
  | .tuple _ => true
  | _ => false
def isInt : PyData → Bool
  | .int _ => true
  | .bool _ => true
  | _ => false
def isBl : PyData → Bool
  | .bool _ => true
  | _ => false
theorem Da.ty {K : PySem.W.Frag} {H : Hp} {v : V} {d : PyData} (h : Da H v d) : ∃ t : Value, TyX K H v t ∧ PySem.W.kitOne K t (.type "tuple") = some (isTup d) ∧ PySem.W.kitOne K t (.type "int") = some (isInt d) ∧ PySem.W.kitOne K t (.type "bool") = some (isBl d) := by
  cases h with
  | non => exact ⟨_, .base .non, kit_ty (r := false) (by decide +kernel), kit_ty (r := false) (by decide +kernel), kit_ty (r := false) (by decide +kernel)⟩
  | bl b => exact ⟨_, .base (.bl b), kit_ty (r := false) (by decide +kernel), kit_ty (r := true) (by decide +kernel), kit_ty (r := true) (by decide +kernel)⟩
  | int i => exact ⟨_, .base (.int i), kit_ty (r := false) (by decide +kernel), kit_ty (r := true) (by decide +kernel), kit_ty (r := false) (by decide +kernel)⟩
  | str x => exact ⟨_, .base (.str x), kit_ty (r := false) (by decide +kernel), kit_ty (r := false) (by decide +kernel), kit_ty (r := false) (by decide +kernel)⟩
  | lst e _ => exact ⟨_, .base (.lst e), kit_ty (r := false) (by decide +kernel), kit_ty (r := false) (by decide +kernel), kit_ty (r := false) (by decide +kernel)⟩
  | tup e _ => exact ⟨_, .base (.tup e), kit_ty (r := true) (by decide +kernel), kit_ty (r := false) (by decide +kernel), kit_ty (r := false) (by decide +kernel)⟩
def isSt : PyData → Bool
  | .str _ => true
  | _ => false
theorem Da.tyS {K : PySem.W.Frag} {H : Hp} {v : V} {d : PyData} (h : Da H v d) : ∃ t : Value, TyX K H v t ∧ PySem.W.kitOne K t (.type "str") = some (isSt d) := by
  cases h with
  | non => exact ⟨_, .base .non, kit_ty (r := false) (by decide +kernel)⟩
  | bl b => exact ⟨_, .base (.bl b), kit_ty (r := false) (by decide +kernel)⟩
  | int i => exact ⟨_, .base (.int i), kit_ty (r := false) (by decide +kernel)⟩
  | str x => exact ⟨_, .base (.str x), kit_ty (r := true) (by decide +kernel)⟩
  | lst e _ => exact ⟨_, .base (.lst e), kit_ty (r := false) (by decide +kernel)⟩
  | tup e _ => exact ⟨_, .base (.tup e), kit_ty (r := false) (by decide +kernel)⟩
/-! ### numbers -/
def numD (m : Int) : PyData → Option Int
  | .int i => if 0 ≤ i ∧ i < m then some i else none
  | _ => none
theorem numD_some {m i : Int} {d : PyData} (h : numD m d = some i) : d = .int i ∧ 0 ≤ i ∧ i < m := by
  cases d with
  | int j =>
    have h : (if 0 ≤ j ∧ j < m then some j else none) = some i := h
    by_cases c : 0 ≤ j ∧ j < m
    · rw [if_pos c] at h
      cases h
      exact ⟨rfl, c⟩
    · rw [if_neg c] at h
      cases h
  | _ => cases h
def spNumD : Sp := fun vs H Q _ => ∃ (v : V) (d : PyData) (m : Int), vs = [v, .int m] ∧ Da H v d ∧ Q (.bl (numD m d).isSome) H
section
variable {P : Program} {w : World} {K : PySem.W.Frag} {mg : Str → Option Value} {base : Heap}
theorem ok_numD {f : Addr} {fd : FuncData} (F : Fun K "is_number" "is_number" sNum f fd) (T : TxtF mg) : FnOk P w K mg base CX0 1 f fd ["thing", "many"] spNumD := by
  refine F.ok scNum (fun vs H Q E h => ?_) (fun cdv A outer s H vs Q E hr h => ?_)
  · obtain ⟨v, d, m, rfl, _⟩ := h
    rfl
  · obtain ⟨v, d, m, rfl, da, q⟩ := h
    refine ⟨_, pss_one (ps_ret (pe_and (pe_callB call_isi (by rfl) T.isi PyProof.Rows.boot_isinstance (pa_cons (pv 0) (pa_cons (pe_bltn (v := .ty "int") (by rfl) T.int (by decide +kernel) rfl) pa_nil)))
      (pe_and (pe_not (pe_callB call_isi (by rfl) T.isi PyProof.Rows.boot_isinstance (pa_cons (pv 0) (pa_cons (pe_bltn (v := .ty "bool") (by rfl) T.bool (by decide +kernel) rfl) pa_nil))))
        (pe_one (pe_chain op_le op_lt pe_int (pv 0) (pv 1)))))), ?_⟩
    obtain ⟨t, ty, _, ki, kb⟩ := da.ty (K := K)
    refine ⟨_, rfl, v, .ty "int", t, .type "int", isInt d, rfl, .ty "int", ty, ki, isInt d, rfl, ?_⟩
    cases da with
    | int n =>
      refine iteT ?_
      refine ⟨_, rfl, .int n, .ty "bool", t, .type "bool", false, rfl, .ty "bool", ty, kb, false, rfl, true, rfl, iteT ?_⟩
      refine ⟨_, rfl, 0, n, rfl, rfl, _, rfl, ?_⟩
      have q : Q (.bl (if 0 ≤ n ∧ n < m then some n else none).isSome) H := q
      refine ite2 (fun z => ?_) (fun z => ?_)
      · have z1 : 0 ≤ n := of_decide_eq_true z
        refine ⟨_, rfl, n, m, rfl, rfl, ?_⟩
        by_cases c : n < m
        · rw [if_pos ⟨z1, c⟩] at q
          show Q (.bl (decide (n < m))) H
          rw [decide_eq_true c]
          exact q
        · rw [if_neg (fun k => c k.2)] at q
          show Q (.bl (decide (n < m))) H
          rw [decide_eq_false c]
          exact q
      · have z1 : ¬ 0 ≤ n := fun k => z (decide_eq_true k)
        rw [if_neg (fun k => z1 k.1)] at q
        exact q
    | bl b =>
      refine iteT ?_
      exact ⟨_, rfl, .bl b, .ty "bool", t, .type "bool", true, rfl, .ty "bool", ty, kb, true, rfl, false, rfl, iteF q⟩
    | non => exact iteF q
    | str x => exact iteF q
    | lst e h => exact iteF q
    | tup e h => exact iteF q
end
end K37

set_option Elab.async false
set_option linter.all false
set_option maxRecDepth 100000
set_option maxHeartbeats 4000000
/-! A caught error that has fields: isinstance, its fields. -/
namespace L2
namespace EV
open PySem PySem.Spec PyProof.Rows _root_.EV
/-- isinstance of a caught one with fields -/
def rIsF (K : PySem.W.Frag) : List V → Hp → VK → Prop := fun xs H Q => ∃ (a C d : Addr) (fs : List (Str × V)) (B newId initId : String) (bm : List Value) (c : V) (u : Value) (b : Bool),
  xs = [.ref a, c] ∧ ClsV c u ∧ OxC K C B newId initId bm ∧ H a = some (exh (.ref C) (some d) a) ∧ H d = some (.xd fs) ∧ PySem.W.kitOne K (.ref C) u = some b ∧ Q (.bl b) H
theorem call_isF {X : Cx} : CallR X (.builtin "isinstance") (rIsF X.K) := by
  intro pins s σ H xs us Q I r h
  obtain ⟨a, C, d, fs, B, newId, initId, bm, c, u, b, rfl, k, T, ea, ed, e, q⟩ := h
  obtain ⟨u1, u2, rfl, r1, r2⟩ := vals2 r
  have e2 := k.eq r2
  subst e2
  obtain rfl : u1 = Value.ref a := r1
  obtain ⟨oe, vs, ho, hz, hd⟩ := exh_at I.hok ea
  have hx : ObjOk X.prog X.w H s.heap d (.xd fs) := I.hok d _ ed
  obtain ⟨mA, hns, hr⟩ := hx
  obtain ⟨od, hod, hl⟩ := lookIn_ns hns
  obtain ⟨cd, hcl, _⟩ := T.data
  have some_ : (PySem.W.clsIn X.K C).isSome = true := by rw [hcl]; rfl
  have J : PySem.W.InstAt s.heap a oe C (some od) := ⟨ho, hz.1, by unfold PySem.W.notCls; rw [hd], by rw [hz.2]; exact hod⟩
  exact PySem.W.kia_one (PySem.W.kitx_exc some_ T.ga T.gg T.exC T.ca T.cn T.ct T.om) I.kIn J e (fun z => nomatch z) fun tk => ⟨.bl b, H, I.tok tk, rfl, q⟩
/-- a caught one's field -/
def tXg (K : PySem.W.Frag) (f : Str) (te : TE) : TE := fun σ H Q => te σ H fun x H1 => ∃ (a C d : Addr) (fs : List (Str × V)) (v : V), x = .ref a ∧ XfC K C ∧ PySem.W.findIn K (.ref C) f = some none ∧ H1 a = some (exh (.ref C) (some d) a) ∧ H1 d = some (.xd fs) ∧ fs.lookup f = some v ∧ Q v H1
theorem pe_xg {X : Cx} {e : Expr} {te : TE} {pos : Pos} {n : Str} (he : PE X e te) (hb : attributeBase e n X.env (eval e X.env) = eval e X.env := by rfl) : PE X (.Attribute e n pos) (tXg X.K n te) := by
  refine ⟨fun pins s σ H Q I h => ?_⟩
  refine attr_of hb (thn (he.run pins s σ H _ I h) fun u s1 hh => ?_)
  obtain ⟨x, H1, I1, rx, a, C, d, fs, v, ex, T, hno, ea, ed, l, q⟩ := hh
  subst ex
  obtain rfl : u = Value.ref a := rx
  obtain ⟨oe, vs, ho, hz, hd⟩ := exh_at I1.hok ea
  have hx : ObjOk X.prog X.w H1 s1.heap d (.xd fs) := I1.hok d _ ed
  obtain ⟨mA, hns, hr⟩ := hx
  obtain ⟨od, hod, hl⟩ := lookIn_ns hns
  obtain ⟨u, hu, ru⟩ := RelO.some_of (v := v) (o := mA n) (by rw [← l]; exact hr n)
  have J : PySem.W.InstAt s1.heap a oe C (some od) := ⟨ho, hz.1, by unfold PySem.W.notCls; rw [hd], by rw [hz.2]; exact hod⟩
  exact HandSPX.exc_get I1.kIn J T.ga T.gg T.exC (PySem.W.findObj_own T.hdC hno rfl (by rw [hl, hu])) (handed_of ru) ⟨v, H1, I1.tok _, ru, q⟩
end EV
end L2

set_option Elab.async false
set_option linter.all false
set_option maxRecDepth 100000
set_option maxHeartbeats 4000000
/-! t[::-1] of a tuple. -/
namespace L2
namespace EV
open PySem PySem.Spec PyProof.Rows _root_.EV PySem.Builtin
theorem rev_adjust (n : Nat) : Slice.sliceAdjust none none (-1) (n : Int) = ((n : Int) - 1, -1) := by
  unfold Slice.sliceAdjust
  simp
theorem rev_places (n : Nat) : Slice.slicePlaces ((n : Int) - 1) (-1) (-1) = n := by
  unfold Slice.slicePlaces
  rw [if_neg (by decide)]
  by_cases h : 0 < n
  · rw [if_pos (by omega)]
    simp only [Int.neg_neg, Int.ediv_one]
    omega
  · rw [if_neg (by omega)]
    omega
theorem fm_congr {α β : Type} {f g : α → Option β} : ∀ {l : List α}, (∀ x ∈ l, f x = g x) → l.filterMap f = l.filterMap g
  | [], _ => rfl
  | x :: l, h => by
    rw [List.filterMap_cons, List.filterMap_cons, h x (List.mem_cons_self ..), fm_congr fun y hy => h y (List.mem_cons_of_mem _ hy)]
theorem rev_pick (xs : Array Value) : ((List.range xs.size).filterMap fun (k : Nat) => xs[((xs.size : Int) - 1 + (k : Int) * -1).toNat]?) = xs.toList.reverse := by
  have e : ∀ k ∈ List.range xs.size, xs[((xs.size : Int) - 1 + (k : Int) * -1).toNat]? = xs.toList.reverse[k]? := fun k hk => by
    have hk := List.mem_range.mp hk
    have z : ((xs.size : Int) - 1 + (k : Int) * -1).toNat = xs.size - 1 - k := by omega
    rw [z, List.getElem?_reverse (by simpa using hk)]
    simp
  rw [fm_congr e]
  have g : ∀ l : List Value, (List.range l.length).filterMap (fun k => l[k]?) = l := fun l => by
    have z := PySem.W.krv_all l.toArray
    simpa using z
  have z := g xs.toList.reverse
  simpa using z
section
variable {prog : Program} {w : World} {A : Around} {E : Value → Shared → Prop} {s : Shared}
theorem rev_applied {sl : Addr} {vk : Value} {n : Nat} {Q : Int × Int × Nat → Shared → Prop} (hs : s.heap.IsSliceOf sl .none .none vk) (pk : IsPart vk (some (-1))) (h : Q ((n : Int) - 1, -1, n) s) :
    wpAny (model prog w) A (Slice.sliceApplied (.ref sl) (pure (n : Int))) Q E s := by
  obtain ⟨os, hos, _, hds⟩ := id hs
  unfold Slice.sliceApplied Slice.sliceFields
  refine wpAny_bind (wpAny_bind (wpAny_field hos hds (x := .none) rfl (wpAny_bind (wpAny_field hos hds (x := .none) rfl (wpAny_bind (wpAny_field hos hds (x := vk) rfl (wpAny_pure ?_)))))))
  refine wpAny_bind (HT.slicePart_ pk ?_)
  show wpAny _ _ (if ((-1 : Int) == 0) = true then _ else _) _ _ s
  rw [if_neg (by decide)]
  refine wpAny_bind (slicePart_none (wpAny_bind (slicePart_none (wpAny_bind (wpAny_pure ?_)))))
  show wpAny _ _ (match Slice.sliceAdjust none none (-1) (n : Int) with | (lo, hi) => pure (lo, (-1 : Int), Slice.slicePlaces lo hi (-1))) _ _ s
  rw [rev_adjust]
  show wpAny _ _ (pure ((n : Int) - 1, (-1 : Int), Slice.slicePlaces ((n : Int) - 1) (-1) (-1))) _ _ s
  rw [rev_places]
  exact wpAny_pure h
theorem rev_item {t sl : Addr} {items : Array Value} {vk : Value} {Q : Value → Shared → Prop} (ht : IsTup s.heap t items) (hs : s.heap.IsSliceOf sl .none .none vk) (pk : IsPart vk (some (-1))) (hz : items.size ≤ sizeLine)
    (h : Q (.ref s.heap.objs.size) { s with heap := s.heap.push { cls := .type "tuple", data := .seq items.toList.reverse.toArray } }) : wpAny (model prog w) A (getItem (.ref t) (.ref sl)) Q E s := by
  have ok : sizeOk (.seq items.toList.reverse.toArray) := by
    show items.toList.reverse.toArray.size ≤ sizeLine
    rw [List.size_toArray, List.length_reverse, Array.length_toList]
    exact hz
  obtain ⟨os, hos, hcs, _⟩ := id hs
  have hTs : s.TypeIs (.ref sl) "slice" := ⟨os, hos, hcs⟩
  unfold getItem
  try with_reducible refine wpAny_holding ?_
  first | refine wpAny_bind (wpAny_pure ?_) | skip
  refine wpAny_bind (wpAny_sequenceKey ht.typeIs (by decide) ?_)
  refine wpAny_bind (wpAny_callSpecial?_slot (name := Str.ofString "__getitem__") ht.typeIs PyProof.Rows.slot_tuple_getitem (wpAny_call_entry PyProof.Rows.slot_tuple_getitem ht.typeIs entry_tuple_getitem ?_ (args_tuple_getitem _ _)))
  show wpAny _ _ (Tuple.tupleItemsOf (.ref t) >>= _) _ _ s
  refine wpAny_bind (tupleItemsOf_ ht (wpAny_bind (wpAny_typeOf hTs ?_)))
  rw [if_pos (by decide)]
  refine wpAny_bind (rev_applied hs pk ?_)
  show wpAny _ _ (if ((((items.size : Nat) : Int) - 1) == 0 && (-1 : Int) == 1 && items.size == items.size) = true then _ else _) _ _ s
  rw [if_neg (by simp), rev_pick]
  first
    | exact wpAny_bind (m := Tuple.tupleExact _) (wpAny_newObj_type (wpAny_pure ⟨_, rfl, wpAny_pure h⟩) ok)
    | exact wpAny_bind (m := Tuple.tupleExact _) (wpAny_newObj_type (wpAny_bind (wpAny_pure (wpAny_pure ⟨_, rfl, wpAny_pure h⟩))) ok)
    | exact wpAny_bind (wpAny_bind (m := Tuple.tupleExact _) (wpAny_newObj_type (wpAny_pure (wpAny_pure ⟨_, rfl, wpAny_pure h⟩)) ok))
    | exact wpAny_bind (wpAny_bind (m := Tuple.tupleExact _) (wpAny_newObj_type (wpAny_pure ⟨_, rfl, wpAny_pure h⟩) ok))
end
def tRevT (K : PySem.W.Frag) (te tk : TE) : TE := fun σ H Q => te σ H fun x H1 => tPart tk σ H1 fun o H2 => o = some (-1) ∧ ∃ a xs, x = .ref a ∧ H2 a = some (.tup xs) ∧ ∀ p, H2 p = none → Q (.ref p) (upd H2 p (.tup xs.reverse))
theorem vals_revs : ∀ {zs : List V} {ws : List Value}, Vals zs ws → Vals zs.reverse ws.reverse
  | _, _, .nil => .nil
  | _, _, .cons r t => by
    rw [List.reverse_cons, List.reverse_cons]
    exact (vals_revs t).append (.cons r .nil)
section
variable {X : Cx} {e k : Expr} {te tk : TE} {pos p2 : Pos}
theorem pe_revT {ops : Value → Value → List Value} (he : PE X e te) (hk : PE X k tk) (hs : ∀ o i : Value, subscripted (.Slice none none (some k) p2) false o i = operate (ops o i) (getItem o i)) : PE X (.Subscript e (.Slice none none (some k) p2) pos) (tRevT X.K te tk) := by
  refine ⟨fun pins s σ H Q I h => ?_⟩
  refine Subscript_ (thn (he.run pins s σ H _ I h) fun v s1 ⟨x, H1, I1, r1, q1⟩ => ?_)
  refine wpAny_Slice (thn (po_none.run pins s1 σ H1 (fun o H' => o = none ∧ H' = H1) I1 ⟨rfl, rfl⟩) fun vl s2 ⟨l, H2, I2, pl, q2⟩ => thn (po_none.run pins s2 σ H2 (fun o H' => o = none ∧ H' = H2) I2 ⟨rfl, rfl⟩) fun vu s3 ⟨u, H3, I3, pu, q3⟩ => ?_)
  obtain ⟨rfl, rfl⟩ := q2
  obtain ⟨rfl, rfl⟩ := q3
  cases pl
  cases pu
  refine thn ((po_some hk).run pins s3 σ _ _ I3 q1) fun vk s4 ⟨o, H4, I4, pk, ho, a, xs, ex, ea, q4⟩ => ?_
  subst ex ho
  obtain rfl : v = Value.ref a := r1
  have I5 : Inv X pins σ H4 { s4 with heap := s4.heap.push { cls := .type "slice", data := .fields #[.none, .none, vk] } } := I4.kept (t' := s4.toks) fun b ob q => Heap.get?_push_of_some _ q
  obtain ⟨its, r, ht, hz⟩ := I5.tuple (SqT.of ea)
  have hg := rev_item (prog := X.prog) (w := X.w) (A := X.A) (E := X.xe) (Q := EP X pins σ Q) (s := { s4 with heap := s4.heap.push { cls := .type "slice", data := .fields #[.none, .none, vk] } }) ht (Heap.IsSliceOf.new ..) pk (by rw [List.size_toArray, ← r.length]; exact hz) ?_
  · exact tail_any ht.typeIs PyProof.Rows.slot_tuple_getitem.lookup hg (hs _ _)
  · rw [List.toList_toArray]
    have fr : H4 (s4.heap.push { cls := .type "slice", data := .fields #[.none, .none, vk] }).objs.size = none := I5.hok.fresh (Nat.le_refl _)
    refine ⟨.ref (s4.heap.push { cls := .type "slice", data := .fields #[.none, .none, vk] }).objs.size, _, I5.laid (t' := s4.toks) (a := (s4.heap.push { cls := .type "slice", data := .fields #[.none, .none, vk] }).objs.size) (o := .tup xs.reverse)
      (h' := (s4.heap.push { cls := .type "slice", data := .fields #[.none, .none, vk] }).push { cls := .type "tuple", data := .seq its.reverse.toArray }) (fun b o q => Heap.get?_push_of_some _ q) (Nat.le_refl _) ?_, rfl, q4 _ fr⟩
    exact ⟨by rw [List.length_reverse]; exact hz, its.reverse, vals_revs r, ⟨_, Heap.get?_push_size _ rfl, rfl, 0, rfl⟩⟩
end
end EV
end L2

set_option Elab.async false
set_option linter.all false
set_option maxRecDepth 100000
set_option maxHeartbeats 4000000
/-! Pairs of an int and a text: <, <=. Raising an own exception whose __init__ has put fields. -/
namespace L2
open PySem PySem.Spec PyProof.Rows
abbrev IS : Type := Int × Str
def ltIS (a b : IS) : Bool := if a.1 = b.1 then decide (sl a.2 < sl b.2) else decide (a.1 < b.1)
def tIS (a : IS) : HO := .tup [.int a.1, .str a.2]
def rLtIS : R2 := fun x y H Q => ∃ (a b : Addr) (m n : IS), x = .ref a ∧ y = .ref b ∧ H a = some (tIS m) ∧ H b = some (tIS n) ∧ Q (.bl (ltIS m n)) H
def rLeIS : R2 := fun x y H Q => ∃ (a b : Addr) (m n : IS), x = .ref a ∧ y = .ref b ∧ H a = some (tIS m) ∧ H b = some (tIS n) ∧ Q (.bl (!ltIS n m)) H
theorem lexP_lt (m n : IS) : Ob.lexAt (fun j => if j = 0 then m.1 == n.1 else m.2 == n.2) (fun j => if j = 0 then decide (m.1 < n.1) else decide (sl m.2 < sl n.2)) false 0 2 = ltIS m n := by
  obtain ⟨m1, m2⟩ := m
  obtain ⟨n1, n2⟩ := n
  simp only [Ob.lexAt, ltIS]
  by_cases e1 : m1 = n1
  · subst e1
    by_cases e2 : m2 = n2
    · subst e2
      have z : ¬ sl m2 < sl m2 := List.lt_irrefl _
      simp
    · simp [e2]
  · simp [e1]
theorem lexP_le (m n : IS) : Ob.lexAt (fun j => if j = 0 then m.1 == n.1 else m.2 == n.2) (fun j => if j = 0 then decide (m.1 ≤ n.1) else decide (sl m.2 ≤ sl n.2)) true 0 2 = !ltIS n m := by
  obtain ⟨m1, m2⟩ := m
  obtain ⟨n1, n2⟩ := n
  simp only [Ob.lexAt, ltIS]
  by_cases e1 : m1 = n1
  · subst e1
    by_cases e2 : m2 = n2
    · subst e2
      have z : ¬ sl m2 < sl m2 := List.lt_irrefl _
      simp
    · have e2' : ¬ n2 = m2 := fun z => e2 z.symm
      simp only [beq_self_eq_true, if_true, Nat.zero_add, Nat.one_ne_zero, if_false, beq_iff_eq, e2]
      by_cases z : sl m2 ≤ sl n2
      · rw [decide_eq_true z, decide_eq_false (List.not_lt.mpr z)]
        rfl
      · rw [decide_eq_false z, decide_eq_true (List.not_le.mp z)]
        rfl
  · have e1' : ¬ n1 = m1 := fun z => e1 z.symm
    simp only [if_true, beq_iff_eq, e1, e1', if_false]
    by_cases z : m1 ≤ n1
    · rw [decide_eq_true z, decide_eq_false (by omega)]
      rfl
    · rw [decide_eq_false z, decide_eq_true (by omega)]
      rfl
theorem lt_strR {A : Around} {s : Shared} (a b : Str) (t u : Tok) : Ob.RcOp .Lt A s (.str a t) (.str b u) (decide (sl a < sl b)) := fun _ _ _ _ h => PyProof.Rows.lt_str h
section
variable {X : Cx}
theorem vals_2 {x y : V} {us : List Value} (r : Vals [x, y] us) : ∃ u w', us = [u, w'] ∧ RelV x u ∧ RelV y w' := by
  cases r with
  | cons r1 r =>
    cases r with
    | cons r2 r =>
      cases r
      exact ⟨_, _, rfl, r1, r2⟩
theorem op_ltIS (hu : X.A.units < cLine) : OpR X (compareOp .Lt) rLtIS := by
  intro pins s σ H x y v u Q I rx ry h
  obtain ⟨a, b, m, n, rfl, rfl, ha, hb, q⟩ := h
  cases rx
  cases ry
  obtain ⟨its, r1, p1, _⟩ := I.tuple (SqT.of ha)
  obtain ⟨its2, r2, p2, _⟩ := I.tuple (SqT.of hb)
  obtain ⟨u1, u2, rfl, ⟨t1, rfl⟩, ⟨t2, rfl⟩⟩ := vals_2 r1
  obtain ⟨v1, v2, rfl, ⟨w1, rfl⟩, ⟨w2, rfl⟩⟩ := vals_2 r2
  have R := Ob.RcOp.tuples_lt (A := X.A) (s := s) (e := fun j => if j = 0 then m.1 == n.1 else m.2 == n.2) (r := fun j => if j = 0 then decide (m.1 < n.1) else decide (sl m.2 < sl n.2)) p1 p2 hu
    (fun j h1 h2 => by
      match j, h1 with
      | 0, _ => exact SeqAt.EqAt.int_int _ _ _ _
      | 1, _ => exact SeqAt.EqAt.str_str _ _ _ _)
    (fun j h1 h2 _ => by
      match j, h1 with
      | 0, _ => exact Ob.RcOp.lt_int _ _ _ _
      | 1, _ => exact lt_strR _ _ _ _)
  have e3 : Ob.lexAt (fun j => if j = 0 then m.1 == n.1 else m.2 == n.2) (fun j => if j = 0 then decide (m.1 < n.1) else decide (sl m.2 < sl n.2)) (decide (2 < 2)) 0 (min 2 2) = ltIS m n := lexP_lt m n
  have z : wpAny (model X.prog X.w) X.A (compareOp .Lt (.ref a) (.ref b)) (EP X pins σ Q) X.xe s := R X.prog X.w X.xe (EP X pins σ Q) ⟨.bl _, H, I, rfl, by
    rw [← e3] at q
    exact q⟩
  exact z
theorem op_leIS (hu : X.A.units < cLine) : OpR X (compareOp .LtE) rLeIS := by
  intro pins s σ H x y v u Q I rx ry h
  obtain ⟨a, b, m, n, rfl, rfl, ha, hb, q⟩ := h
  cases rx
  cases ry
  obtain ⟨its, r1, p1, _⟩ := I.tuple (SqT.of ha)
  obtain ⟨its2, r2, p2, _⟩ := I.tuple (SqT.of hb)
  obtain ⟨u1, u2, rfl, ⟨t1, rfl⟩, ⟨t2, rfl⟩⟩ := vals_2 r1
  obtain ⟨v1, v2, rfl, ⟨w1, rfl⟩, ⟨w2, rfl⟩⟩ := vals_2 r2
  have R := Ob.RcOp.tuples_le (A := X.A) (s := s) (e := fun j => if j = 0 then m.1 == n.1 else m.2 == n.2) (r := fun j => if j = 0 then decide (m.1 ≤ n.1) else decide (sl m.2 ≤ sl n.2)) p1 p2 hu
    (fun j h1 h2 => by
      match j, h1 with
      | 0, _ => exact SeqAt.EqAt.int_int _ _ _ _
      | 1, _ => exact SeqAt.EqAt.str_str _ _ _ _)
    (fun j h1 h2 _ => by
      match j, h1 with
      | 0, _ => exact Ob.RcOp.le_int _ _ _ _
      | 1, _ => exact RcOp.le_str _ _ _ _)
  have e3 : Ob.lexAt (fun j => if j = 0 then m.1 == n.1 else m.2 == n.2) (fun j => if j = 0 then decide (m.1 ≤ n.1) else decide (sl m.2 ≤ sl n.2)) (decide (2 ≤ 2)) 0 (min 2 2) = !ltIS n m := lexP_le m n
  have z : wpAny (model X.prog X.w) X.A (compareOp .LtE (.ref a) (.ref b)) (EP X pins σ Q) X.xe s := R X.prog X.w X.xe (EP X pins σ Q) ⟨.bl _, H, I, rfl, by
    rw [← e3] at q
    exact q⟩
  exact z
end
namespace EV
/-- an exception's fields, told as those of one that flies -/
theorem exd_told {X : Cx} {pins : List (Addr × Obj)} {σ : L2.St} {H : Hp} {s : Shared} {d : Addr} {fs : List (Str × V)} (I : Inv X pins σ H s) (e : H d = some (exd d fs)) : Inv X pins σ (upd H d (.xd fs)) s := by
  obtain ⟨mA, hns, rel⟩ := exd_at I.hok e
  obtain ⟨od, ho, _⟩ := lookIn_ns hns
  exact I.write (h' := s.heap) (t' := s.toks) (x := d) (e := d) (o := .xd fs) (by rw [e]; exact True.intro) (.inl rfl) (fun b u _ q => q) (by
    obtain ⟨o, es, ep, e1, _⟩ := hns
    exact ⟨_, e1⟩) ⟨mA, hns, rel⟩
theorem pmk_own3 {X : Cx} {e : Expr} {te : TE} (hx : X.ex = []) (he : PE X e te) :
    PMk X e (fun σ H Q => te σ H fun x H1 => ∃ (a C d : Addr) (fs : List (Str × V)), x = .ref a ∧ H1 a = some (exo a C (some d)) ∧ d ≠ a ∧ H1 d = some (exd d fs) ∧ Fr0 X.H_0 a ∧ Raises X (.ref C) ∧ Q (.ref C) (some d) (upd (delH H1 a) d (.xd fs))) := by
  intro pins s σ H Q I h
  refine wpAny_mono (he.run pins s σ H _ I h) (fun u s1 hu => ?_) fun _ _ x => x
  obtain ⟨v, H1, I1, r1, a, C, d, fs, rfl, ha, nda, hd, h0, hr, q⟩ := hu
  cases r1
  obtain ⟨t1, ho⟩ := exo_at I1.hok ha
  obtain ⟨G, gs, ga, J⟩ := I1.untrack ha h0 hx
  have hd' : delH H1 a d = some (exd d fs) := by
    rw [delH_ne nda]
    exact hd
  have J2 := exd_told J hd'
  have na : upd (delH H1 a) d (.xd fs) a = none := by
    rw [upd_ne nda.symm]
    exact delH_same
  exact ⟨a, _, _, { s1 with heap := G }, _, .ref C, some d, rfl, J2, gs, ga, ho, ⟨rfl, rfl⟩, rfl, rfl, na, rfl, I1.bare, hr, q⟩
end EV
end L2

set_option Elab.async false
set_option linter.all false
set_option maxRecDepth 100000
set_option maxHeartbeats 4000000
/-! The nine classes: their __init__, message. -/
namespace K37
open PySem L2 L2.EV
/-! ### the arguments -/
mutual
theorem dp_same {K : PySem.W.Frag} {H H' : Hp} (s : Same H H') : ∀ (d : PyData) (v : V), Dp K H v d → Dp K H' v d
  | .none, _, h => by cases h; exact .non
  | .bool b, _, h => by cases h; exact .bl b
  | .int i, _, h => by cases h; exact .int i
  | .str x, _, h => by cases h; exact .str x
  | .list ds, _, h => by
    cases h with
    | lst hs ha => exact .lst (s.seq hs) (dpall_same s ds _ ha)
  | .tuple ds, _, h => by
    cases h with
    | tup hs ha =>
      refine .tup ?_ (dpall_same s ds _ ha)
      rcases hs with (q | ⟨o, q⟩) | q
      · exact .inl (.inl (s _ _ q))
      · exact .inl (.inr ⟨o, s _ _ q⟩)
      · exact .inr q
  | .dict _, _, h => by cases h
theorem dpall_same {K : PySem.W.Frag} {H H' : Hp} (s : Same H H') : ∀ (ds : List PyData) (vs : List V), DpAll K H vs ds → DpAll K H' vs ds
  | [], _, h => by cases h; exact .nil
  | d :: ds, _, h => by
    cases h with
    | cons h1 h2 => exact .cons (dp_same s d _ h1) (dpall_same s ds _ h2)
end
/-- what may be handed to an error, and the data that it is -/
inductive Arg (K : PySem.W.Frag) (H : Hp) : V → PyData → Prop
  | non : Arg K H .non .none
  | bl (b : Bool) : Arg K H (.bl b) (.bool b)
  | int (i : Int) : Arg K H (.int i) (.int i)
  | str (x : Str) : Arg K H (.str x) (.str x)
  | lst {a : Addr} {xs : List V} {ds : List PyData} : H a = some (.lst xs) → DpAll K H xs ds → PyData.hasDict (.list ds) = false → Arg K H (.ref a) (.list ds)
  | tup {a : Addr} {xs : List V} {ds : List PyData} : H a = some (.tup xs) → DpAll K H xs ds → PyData.hasDict (.tuple ds) = false → Arg K H (.ref a) (.tuple ds)
  | dct {a : Addr} : H a = some (.dK [(Sum.inr "a", V.int 1)]) → Arg K H (.ref a) (.dict [(.str "a", .int 1)])
theorem Arg.same {K : PySem.W.Frag} {H H' : Hp} {v : V} {d : PyData} (h : Arg K H v d) (s : Same H H') : Arg K H' v d := by
  cases h with
  | non => exact .non
  | bl b => exact .bl b
  | int i => exact .int i
  | str x => exact .str x
  | lst e ha no => exact .lst (s _ _ e) (dpall_same s _ _ ha) no
  | tup e ha no => exact .tup (s _ _ e) (dpall_same s _ _ ha) no
  | dct e => exact .dct (s _ _ e)
theorem Arg.ty {K : PySem.W.Frag} {H : Hp} {v : V} {d : PyData} (h : Arg K H v d) : ∃ (t : Value) (b : Bool), TyX K H v t ∧ PySem.W.kitOne K t (.type "str") = some b := by
  cases h with
  | non => exact ⟨_, _, .base .non, kit_ty (r := false) (by decide +kernel)⟩
  | bl b => exact ⟨_, _, .base (.bl b), kit_ty (r := false) (by decide +kernel)⟩
  | int i => exact ⟨_, _, .base (.int i), kit_ty (r := false) (by decide +kernel)⟩
  | str x => exact ⟨_, _, .base (.str x), kit_ty (r := true) (by decide +kernel)⟩
  | lst e _ _ => exact ⟨_, _, .base (.lst e), kit_ty (r := false) (by decide +kernel)⟩
  | tup e _ _ => exact ⟨_, _, .base (.tup e), kit_ty (r := false) (by decide +kernel)⟩
  | dct e => exact ⟨_, _, .base (.dK e), kit_ty (r := false) (by decide +kernel)⟩
/-! ### promises -/
def spNo (K : PySem.W.Frag) (C : Addr) : Sp := fun vs H Q _ => ∃ (a : Addr) (x : V) (d : PyData), vs = [.ref a, x] ∧ H a = some (exo a C none) ∧ Arg K H x d ∧ Q .non H
def spMsg (K : PySem.W.Frag) : Sp := fun vs H Q _ => ∃ (x : V) (d : PyData), vs = [x] ∧ Arg K H x d ∧ ∀ v, Q v H
/-- what is asked of a built-in base, for B.__init__(self, ..) -/
structure BI (K : PySem.W.Frag) (mg : Str → Option Value) (nB : Str) (B initId : String) : Prop where
  mg : mg nB = none
  bt : bootBuiltins nB = some (.type B)
  ty : typeOf (.type B) = pure (.type "type")
  vV : PySem.W.findCls K (.type B) (.type "type") "__init__" = some (.val (.builtin initId))
  st : Manifest.isStub B = false
def gP : List Value → List Value → List Value := fun us _ => us
def vP : List V → List V → List V := fun vs _ => vs
theorem kb_pos {K : PySem.W.Frag} {fd : FuncData} {ps : List Str} {n : Nat} (b : Binds K fd ps []) (hn : ps.length = n) : KBn K fd ps n [] gP vP := by
  refine ⟨fun s us ws X l1 l2 => ?_, fun r _ => r⟩
  have z := b s us X (by rw [List.append_nil, l1, hn])
  rw [List.append_nil] at z
  exact z
abbrev bmVE : List Value := [.type "ValueError", .type "Exception", .type "BaseException", .type "object"]
theorem same_none {H H' : Hp} {a : Addr} (s : Same H H') (n : H' a = none) : H a = none := by
  cases e : H a with
  | none => rfl
  | some o =>
    rw [s _ _ e] at n
    cases n
abbrev sMsg : Stmt := top 1
structure TxtM (mg : Str → Option Value) : Prop where
  isi : mg "isinstance" = none
  str : mg "str" = none
section
variable {P : Program} {w : World} {K : PySem.W.Frag} {mg : Str → Option Value} {base : Heap}
theorem scM : FnScope ["text"] ["text"] (defScope sMsg) := ⟨rfl, rfl, rfl, by decide +kernel, rfl, by decide +kernel, by decide +kernel⟩
theorem ok_msg {f : Addr} {fd : FuncData} (F : Fun K "message" "message" sMsg f fd) (T : TxtM mg) : FnOk P w K mg base CX0 1 f fd ["text"] (spMsg K) := by
  refine F.ok scM (fun vs H Q E h => ?_) (fun cdv A outer s H vs Q E hr h => ?_)
  · obtain ⟨x, d, rfl, _⟩ := h
    rfl
  · obtain ⟨x, d, rfl, ar, q⟩ := h
    refine ⟨_, pss_cons (ps_if (pt_val (pe_callB call_isi (by rfl) T.isi PyProof.Rows.boot_isinstance (pa_cons (pv 0) (pa_cons (pe_bltn (v := .ty "str") (by rfl) T.str (by decide +kernel) rfl) pa_nil)))) (pss_one (ps_ret (pv 0))) pss_nil) (pss_one (ps_ret pe_str)), ?_⟩
    obtain ⟨t, b, ty, kt⟩ := ar.ty
    refine ⟨_, rfl, x, .ty "str", t, .type "str", b, rfl, .ty "str", ty, kt, b, rfl, ?_⟩
    cases b with
    | true => exact iteT ⟨_, rfl, q _⟩
    | false => exact iteF (q _)
abbrev sOutOfPlace : Stmt := inClass (top 6) 0
theorem scOutOfPlace : FnScope ["self", "text"] ["self", "text"] (defScope sOutOfPlace) := ⟨rfl, rfl, rfl, by decide +kernel, rfl, by decide +kernel, by decide +kernel⟩
theorem ok_OutOfPlace {f C fM : Addr} {fd fdM : FuncData} (F : Fun K "__init__" "OutOfPlace.__init__" sOutOfPlace f fd) (T : OxC K C "ValueError" "ValueError.__new__" "ValueError.__init__" [.type "ValueError", .type "Exception", .type "BaseException", .type "object"]) (I : BI K mg "ValueError" "ValueError" "ValueError.__init__")
    (FM : Fun K "message" "message" sMsg fM fdM) (bM : Binds K fdM ["text"] []) (mM : mg "message" = some (.ref fM)) (TM : TxtM mg) : FnOk P w K mg base CX0 2 f fd ["self", "text"] (spNo K C) := by
  have GM : FnOk P w K mg base CX0 1 fM fdM ["text"] (spMsg K) := ok_msg FM TM
  refine F.ok scOutOfPlace (fun vs H Q E h => ?_) (fun cdv A outer s H vs Q E hr h => ?_)
  · obtain ⟨a, x, d, rfl, _⟩ := h
    rfl
  · obtain ⟨a, x, d, rfl, e, ar, q⟩ := h
    refine ⟨_, pss_one (ps_expr (pe_bin (newId := "ValueError.__new__") (bm := [.type "ValueError", .type "Exception", .type "BaseException", .type "object"]) (by rfl) I.mg I.bt I.ty I.vV I.st (pa_cons (pv 0) (pa_cons (pe_call GM hr rfl mM FM.kp bM .nil pass0 (pa_cons (pv 1) pa_nil)) pa_nil)) rfl)), ?_⟩
    exact ⟨_, rfl, _, rfl, x, d, rfl, ar, fun v => ⟨a, C, _, rfl, by show 1 ≤ 1000; decide, T, e, q⟩⟩
end
/-- what is known of OutOfPlace -/
structure Oop (K : PySem.W.Frag) (mg : Str → Option Value) where
  C : Addr
  f : Addr
  d : FuncData
  fM : Addr
  dM : FuncData
  T : OxC K C "ValueError" "ValueError.__new__" "ValueError.__init__" bmVE
  I : BI K mg "ValueError" "ValueError" "ValueError.__init__"
  F : Fun K "__init__" "OutOfPlace.__init__" sOutOfPlace f d
  b : Binds K d ["self", "text"] []
  FM : Fun K "message" "message" sMsg fM dM
  bM : Binds K dM ["text"] []
  mM : mg "message" = some (.ref fM)
  TM : TxtM mg
  m : mg "OutOfPlace" = some (.ref C)
  iC : PySem.W.findIn K (.ref C) "__init__" = some (some (.ref f))
  tI : PySem.W.typeIn K (.ref f) = some (.type "function")
  su : PySem.W.subIn K (.ref C) (.type "BaseException") = some true
  ty : PySem.W.typeIn K (.ref C) = some (.type "type")
  own : PySem.W.subIn K (.ref C) (.ref C) = some true
end K37

set_option Elab.async false
set_option linter.all false
set_option maxRecDepth 100000
set_option maxHeartbeats 4000000
/-! need_file_text, need_few_writers of any data. -/
namespace K37
open PySem L2 L2.EV
abbrev sNFT : Stmt := top 30
abbrev sNFW : Stmt := top 31
/-- the error is told -/
def Eo (C : Addr) (E : XK) (H : Hp) : Prop := ∀ H', Same H H' → E (.ref C) none H'
theorem Eo.same {C : Addr} {E : XK} {H H' : Hp} (h : Eo C E H) (s : Same H H') : Eo C E H' := fun H2 s2 => h H2 (s.trans s2)
def fsg : List Nat := sl ("abcdefghijklmnopqrstuvwxyz0123456789;ABCDEFGH" : Str)
def fileT : PyData → Option Str
  | .str x => if (decide (x.length ≤ 60) && (sl x).all fun c => decide (c ∈ fsg)) = true then some x else none
  | _ => none
def fewD (d : PyData) : Option Int := match numD 4 d with
  | some n => if n = 0 then none else some n
  | none => none
theorem fewD_some {d : PyData} {n : Int} (h : fewD d = some n) : d = .int n ∧ 1 ≤ n ∧ n ≤ 3 := by
  unfold fewD at h
  cases e : numD 4 d with
  | none => rw [e] at h; cases h
  | some k =>
    rw [e] at h
    obtain ⟨a, b, c⟩ := numD_some e
    by_cases z : k = 0
    · have h' : (if k = 0 then none else some k) = some n := h
      rw [if_pos z] at h'
      cases h'
    · have h' : (if k = 0 then none else some k) = some n := h
      rw [if_neg z] at h'
      cases h'
      exact ⟨a, by omega, by omega⟩
theorem fileT_some {d : PyData} {x : Str} (h : fileT d = some x) : d = .str x ∧ x.length ≤ 60 ∧ ∀ c ∈ sl x, c ∈ fsg := by
  unfold fileT at h
  cases d with
  | str y =>
    by_cases z : (decide (y.length ≤ 60) && (sl y).all fun c => decide (c ∈ fsg)) = true
    · have h' : (if (decide (y.length ≤ 60) && (sl y).all fun c => decide (c ∈ fsg)) = true then some y else none) = some x := h
      rw [if_pos z] at h'
      cases h'
      rw [Bool.and_eq_true] at z
      exact ⟨rfl, of_decide_eq_true z.1, fun c hc => of_decide_eq_true (List.all_eq_true.mp z.2 c hc)⟩
    · have h' : (if (decide (y.length ≤ 60) && (sl y).all fun c => decide (c ∈ fsg)) = true then some y else none) = some x := h
      rw [if_neg z] at h'
      cases h'
  | _ => cases h
/-- no text, or one that isn't too long for Python -/
def Shrt (d : PyData) : Prop := ∀ x, d = .str x → x.length ≤ 1000
def spNFT (C : Addr) : Sp := fun vs H Q E => ∃ (v : V) (d : PyData), vs = [v] ∧ Da H v d ∧ Shrt d ∧ match fileT d with
  | some x => ∀ H', Same H H' → Q (.str x) H'
  | none => Eo C E H
def spNFW (C : Addr) : Sp := fun vs H Q E => ∃ (v : V) (d : PyData), vs = [v] ∧ Da H v d ∧ match fewD d with
  | some n => ∀ H', Same H H' → Q (.int n) H'
  | none => Eo C E H
structure Wf (K : PySem.W.Frag) (mg : Str → Option Value) where
  Z : Fs K mg
  O : Oop K mg
  fT : Addr
  fW : Addr
  dT : FuncData
  dW : FuncData
  T : Fun K "need_file_text" "need_file_text" sNFT fT dT
  W : Fun K "need_few_writers" "need_few_writers" sNFW fW dW
  bT : Binds K dT ["thing"] []
  bW : Binds K dW ["thing"] []
  mT : mg "need_file_text" = some (.ref fT)
  mW : mg "need_few_writers" = some (.ref fW)
  c1 : ∃ t, mg "FILE_SIGNS" = some (.str "abcdefghijklmnopqrstuvwxyz0123456789;ABCDEFGH" t)
  c2 : ∃ t, mg "MOST_FILE_SIGNS" = some (.int 60 t)
  c3 : ∃ t, mg "MOST_WRITERS" = some (.int 3 t)
section
variable {P : Program} {w : World} {K : PySem.W.Frag} {mg : Str → Option Value} {base : Heap}
theorem scNFT : FnScope ["thing", "sign"] ["thing"] (defScope sNFT) := ⟨rfl, rfl, rfl, by decide +kernel, rfl, by decide +kernel, by decide +kernel⟩
theorem scNFW : FnScope ["thing"] ["thing"] (defScope sNFW) := ⟨rfl, rfl, rfl, by decide +kernel, rfl, by decide +kernel, by decide +kernel⟩
theorem all_snoc {l : List Nat} {i c : Nat} (h : l[i]? = some c) (f : Nat → Bool) : ((l.take (i + 1)).map f) = (l.take i).map f ++ [f c] := by
  rw [List.take_succ, h]
  simp
theorem ok_NFT (W : Wf K mg) : FnOk P w K mg base (L2.CX P w) 4 W.fT W.dT ["thing"] (spNFT W.O.C) := by
  have GO : FnOk P w K mg base CX0 2 W.O.f W.O.d ["self", "text"] (spNo K W.O.C) := ok_OutOfPlace W.O.F W.O.T W.O.I W.O.FM W.O.bM W.O.mM W.O.TM
  refine W.T.okX scNFT (fun vs H Q E h => ?_) (fun cdv A outer s H vs Q E hr h => ?_)
  · obtain ⟨v, d, rfl, _⟩ := h
    rfl
  · obtain ⟨v, d, rfl, da, sh, q⟩ := h
    obtain ⟨t1, e1⟩ := W.c1
    obtain ⟨t2, e2⟩ := W.c2
    refine ⟨_, pss_cons (ps_if (pw_or (pt_not (pt_val (pe_callB call_isi (by rfl) W.Z.T.isi PyProof.Rows.boot_isinstance (pa_cons (pv 0) (pa_cons (pe_bltn (v := .ty "str") (by rfl) W.Z.T.str (by decide +kernel) rfl) pa_nil)))))
        (pw_or1 (pt_cmpR op_gt (pe_callB call_len_str (by rfl) W.Z.T.len PySem.boot_len (pa_cons (pv 0) pa_nil)) (pe_glob (v := .int 60) (by rfl) e2 ⟨_, rfl⟩) (nomark _)))).pt
        (pss_one (ps_raise rfl (takes_of rfl rfl rfl rfl) (pmk_own2 rfl (pe_new W.O.T W.O.iC W.O.tI GO hr (kb_pos W.O.b rfl) pass0 (by rfl) W.O.m (pa_cons pe_str pa_nil))))) pss_nil)
      (pss_cons (ps_if (pt_not (pt_val (pe_callB (cr_all rfl) (by rfl) W.Z.T.all (by decide +kernel) (pa_cons (pe_lc (own := [("sign", 1)]) (g := gName 1) rfl scNFT.nd
        (pi_str (pv 0)) (blkOk_by (N := ["thing", "sign"]) (sc := defScope sNFT) (by decide +kernel))
        (fun _ _ _ _ _ => pg_name (i := 1) scNFT.nd rfl (Or.inl rfl)) (fun _ _ _ _ _ => pts_nil) (fun _ _ _ _ _ => pe_cmpR op_in_sign (pv 1) (pe_glob (v := .str "abcdefghijklmnopqrstuvwxyz0123456789;ABCDEFGH") (by rfl) e1 ⟨_, rfl⟩) (by rfl))) pa_nil))))
        (pss_one (ps_raise rfl (takes_of rfl rfl rfl rfl) (pmk_own2 rfl (pe_new W.O.T W.O.iC W.O.tI GO hr (kb_pos W.O.b rfl) pass0 (by rfl) W.O.m (pa_cons pe_str pa_nil))))) pss_nil)
      (pss_one (ps_ret (pv 0)))), ?_⟩
    obtain ⟨t, ty, kt⟩ := da.tyS (K := K)
    refine ⟨_, rfl, v, .ty "str", t, .type "str", isSt d, rfl, .ty "str", ty, kt, isSt d, rfl, ?_⟩
    cases hs : isSt d with
    | false =>
      have n0 : fileT d = none := by cases d <;> first | rfl | cases hs
      rw [n0] at q
      refine iteT ?_
      refine ⟨rfl, rfl, (by decide), fun a na => ⟨a, .str _, .str _, rfl, upd_same, .str _, rfl, a, W.O.C, none, rfl, upd_same, fr0_none (same_none (Same.refl H) na), raises_own W.O.su W.O.ty, ?_⟩⟩
      rw [delH_new na]
      exact q H (Same.refl H)
    | true =>
      obtain ⟨x, rfl⟩ : ∃ x, d = .str x := by cases d <;> first | exact ⟨_, rfl⟩ | cases hs
      obtain rfl : v = .str x := by cases da; rfl
      have hx := sh x rfl
      refine iteF ?_
      refine ⟨.str x, rfl, x, rfl, by rw [sizeLine_eq]; omega, x.length, 60, rfl, rfl, _, rfl, ?_⟩
      by_cases c1 : x.length ≤ 60
      · refine iteF' (decide_eq_false (by omega)) ?_
        refine ⟨_, rfl, x, rfl, fun D hD => ?_⟩
        refine lc_it walk_str (fun i H' => H' D = some (.lst ((((sl x).take i).map fun c => decide (c ∈ fsg)).map V.bl)) ∧ ∀ b o, H b = some o → H' b = some o) ⟨upd_same, fun b o z => same_upd hD b o z⟩ (fun _ _ _ _ => trivial) ?_ ?_
        · rintro i y H1 H2 hi ⟨hl, kp⟩ ⟨rfl, c, hc, rfl⟩
          refine ⟨rfl, ⟨_, rfl, c, _, rfl, rfl, ?_⟩⟩
          have hc2 : (sl x)[i]? = some c := by simpa using hc
          refine ⟨_, hl, ?_, ?_, fun b o z => ?_⟩
          · rw [List.length_map, List.length_map, sizeLine_eq]
            have l1 := List.length_take_le' i (sl x)
            have l2 := len_sl x
            omega
          · have e : decide (c ∈ ("abcdefghijklmnopqrstuvwxyz0123456789;ABCDEFGH" : Str).cps.toList) = decide (c ∈ fsg) := rfl
            rw [e, all_snoc hc2, List.map_append]
            exact upd_same
          · rw [upd_ne (ne_of_none z hD)]
            exact kp b o z
        · rintro H1 ⟨hl, kp⟩
          have e0 : (sl x).take x.cps.size = sl x := List.take_of_length_le (by rw [← len_sl]; exact Nat.le_refl _)
          rw [e0] at hl
          have ea : ((sl x).map fun c => decide (c ∈ fsg)).all id = (sl x).all fun c => decide (c ∈ fsg) := by rw [List.all_map]; rfl
          refine ⟨D, _, rfl, SqL.of hl, ?_⟩
          rw [ea]
          have sH : Same H H1 := kp
          by_cases c2 : ((sl x).all fun c => decide (c ∈ fsg)) = true
          · have n0 : fileT (.str x) = some x := by
              show (if (decide (x.length ≤ 60) && _) = true then some x else none) = some x
              rw [decide_eq_true c1, c2]
              rfl
            rw [n0] at q
            rw [c2]
            exact ⟨_, rfl, iteF ⟨_, rfl, q H1 sH⟩⟩
          · have n0 : fileT (.str x) = none := by
              show (if (decide (x.length ≤ 60) && _) = true then some x else none) = none
              rw [eq_false_of_ne_true c2, Bool.and_false]
              rfl
            rw [n0] at q
            rw [eq_false_of_ne_true c2]
            refine ⟨_, rfl, iteT ?_⟩
            refine ⟨rfl, rfl, (by decide), fun a na => ⟨a, .str _, .str _, rfl, upd_same, .str _, rfl, a, W.O.C, none, rfl, upd_same, fr0_none (same_none sH na), raises_own W.O.su W.O.ty, ?_⟩⟩
            rw [delH_new na]
            exact q H1 sH
      · refine iteT' (decide_eq_true (by omega)) ?_
        have n0 : fileT (.str x) = none := by
          show (if (decide (x.length ≤ 60) && _) = true then some x else none) = none
          rw [decide_eq_false c1]
          rfl
        rw [n0] at q
        refine ⟨rfl, rfl, (by decide), fun a na => ⟨a, .str _, .str _, rfl, upd_same, .str _, rfl, a, W.O.C, none, rfl, upd_same, fr0_none (same_none (Same.refl H) na), raises_own W.O.su W.O.ty, ?_⟩⟩
        rw [delH_new na]
        exact q H (Same.refl H)
theorem ok_NFW (W : Wf K mg) : FnOk P w K mg base (L2.CX P w) 4 W.fW W.dW ["thing"] (spNFW W.O.C) := by
  have GO : FnOk P w K mg base CX0 2 W.O.f W.O.d ["self", "text"] (spNo K W.O.C) := ok_OutOfPlace W.O.F W.O.T W.O.I W.O.FM W.O.bM W.O.mM W.O.TM
  have GN : FnOk P w K mg base CX0 1 W.Z.fN W.Z.dN ["thing", "many"] spNumD := ok_numD W.Z.N W.Z.T
  refine W.W.okX scNFW (fun vs H Q E h => ?_) (fun cdv A outer s H vs Q E hr h => ?_)
  · obtain ⟨v, d, rfl, _⟩ := h
    rfl
  · obtain ⟨v, d, rfl, da, q⟩ := h
    obtain ⟨t3, e3⟩ := W.c3
    refine ⟨_, pss_cons (ps_if (pw_or (pt_not (pt_val (pe_call GN (hr.mono (by omega)) (by rfl) W.Z.mN W.Z.N.kp W.Z.bN .nil pass0 (pa_cons (pv 0) (pa_cons (pe_op op_add (pe_glob (v := .int 3) (by rfl) e3 ⟨_, rfl⟩) pe_int) pa_nil)))))
        (pw_or1 (pt_cmpR op_eq (pv 0) pe_int (nomark _)))).pt
        (pss_one (ps_raise rfl (takes_of rfl rfl rfl rfl) (pmk_own2 rfl (pe_new W.O.T W.O.iC W.O.tI GO hr (kb_pos W.O.b rfl) pass0 (by rfl) W.O.m (pa_cons pe_str pa_nil))))) pss_nil)
      (pss_one (ps_ret (pv 0))), ?_⟩
    refine ⟨_, rfl, 3, 1, rfl, rfl, v, d, 4, rfl, da, ?_⟩
    cases hn : numD 4 d with
    | none =>
      have n0 : fewD d = none := by unfold fewD; rw [hn]
      rw [n0] at q
      refine ⟨_, rfl, iteT ?_⟩
      refine ⟨rfl, rfl, (by decide), fun a na => ⟨a, .str _, .str _, rfl, upd_same, .str _, rfl, a, W.O.C, none, rfl, upd_same, fr0_none (same_none (Same.refl H) na), raises_own W.O.su W.O.ty, ?_⟩⟩
      rw [delH_new na]
      exact q H (Same.refl H)
    | some n =>
      obtain ⟨rfl, n1, n2⟩ := numD_some hn
      obtain rfl : v = .int n := by cases da; rfl
      refine ⟨_, rfl, iteF ?_⟩
      refine ⟨_, rfl, rfl, _, rfl, ?_⟩
      by_cases c : n = 0
      · have n0 : fewD (.int n) = none := by unfold fewD; rw [hn]; exact if_pos c
        rw [n0] at q
        refine iteT' (by simp [c]) ?_
        refine ⟨rfl, rfl, (by decide), fun a na => ⟨a, .str _, .str _, rfl, upd_same, .str _, rfl, a, W.O.C, none, rfl, upd_same, fr0_none (same_none (Same.refl H) na), raises_own W.O.su W.O.ty, ?_⟩⟩
        rw [delH_new na]
        exact q H (Same.refl H)
      · have n0 : fewD (.int n) = some n := by unfold fewD; rw [hn]; exact if_neg c
        rw [n0] at q
        refine iteF' (by simp [c]) ?_
        exact ⟨_, rfl, q H (Same.refl H)⟩
end
end K37

set_option Elab.async false
set_option linter.all false
set_option maxRecDepth 100000
set_option maxHeartbeats 4000000
/-! Dicts whose keys are nested tuples (of ints, bools, texts, None and such tuples). -/
namespace L2
open PySem PySem.Spec PyProof.Rows
mutual
/-- the value is that key -/
inductive NK (B : Bool) (H : Hp) : NestedKey → V → Prop
  | none : NK B H .none .non
  | bl {b i} : B = true → i = (if b = true then 1 else 0) → NK B H (.num i) (.bl b)
  | int (i) : NK B H (.num i) (.int i)
  | str (x) : NK B H (.text x) (.str x)
  | tup {q xs ks} : H q = some (.tup xs) → NKs B H ks xs → NK B H (.tup ks) (.ref q)
inductive NKs (B : Bool) (H : Hp) : List NestedKey → List V → Prop
  | nil : NKs B H [] []
  | cons {k x ks xs} : NK B H k x → NKs B H ks xs → NKs B H (k :: ks) (x :: xs)
end
mutual
theorem NK.nis {P : Program} {w : World} {B : Bool} {H : Hp} {h : Heap} (ok : HOk P w H h) : ∀ (k : NestedKey) (x : V) (u : Value), NK B H k x → RelV x u → NestedIs h k u
  | .none, _, _, v, r => by cases v; cases r; exact .none
  | .num i, _, _, v, r => by
    cases v with
    | bl _ e => cases r; exact .bool e
    | int _ => obtain ⟨t, rfl⟩ := r; exact .int _ _
  | .text x, _, _, v, r => by cases v; obtain ⟨t, rfl⟩ := r; exact .text _ _
  | .tup ks, _, _, v, r => by
    cases v with
    | @tup q xs _ hq hk =>
      cases r
      obtain ⟨_, its, rv, o, h1, h2, n, h3⟩ := (show ObjOk P w H h q (.tup xs) from ok q _ hq)
      exact .tup h1 h2 h3 (by simpa using NKs.nis ok ks _ _ hk rv)
theorem NKs.nis {P : Program} {w : World} {B : Bool} {H : Hp} {h : Heap} (ok : HOk P w H h) : ∀ (ks : List NestedKey) (xs : List V) (us : List Value), NKs B H ks xs → Vals xs us → NestedAll h ks us
  | [], _, _, v, r => by cases v; cases r; exact .nil
  | k :: ks, _, _, v, r => by
    cases v with
    | cons v1 v2 =>
      cases r with
      | cons r1 r2 => exact .cons (NK.nis ok k _ _ v1 r1) (NKs.nis ok ks _ _ v2 r2)
end
mutual
theorem NK.keep {B : Bool} {H H' : Hp} (ht : ∀ b ys, H b = some (.tup ys) → H' b = some (.tup ys)) : ∀ (k : NestedKey) (x : V), NK B H k x → NK B H' k x
  | .none, _, v => by cases v; exact .none
  | .num i, _, v => by
    cases v with
    | bl h e => exact .bl h e
    | int _ => exact .int _
  | .text x, _, v => by cases v; exact .str _
  | .tup ks, _, v => by
    cases v with
    | tup hq hk => exact .tup (ht _ _ hq) (NKs.keep ht ks _ hk)
theorem NKs.keep {B : Bool} {H H' : Hp} (ht : ∀ b ys, H b = some (.tup ys) → H' b = some (.tup ys)) : ∀ (ks : List NestedKey) (xs : List V), NKs B H ks xs → NKs B H' ks xs
  | [], _, v => by cases v; exact .nil
  | k :: ks, _, v => by
    cases v with
    | cons v1 v2 => exact .cons (NK.keep ht k _ v1) (NKs.keep ht ks _ v2)
end
/-- at b stands that key -/
def KeyB (B : Bool) (H : Hp) (k : NestedKey) (b : Addr) : Prop := NK B H k (.ref b) ∧ k.depth ≤ 8
theorem KeyB.is {P : Program} {w : World} {B : Bool} {H : Hp} {h : Heap} {k : NestedKey} {b : Addr} (ok : HOk P w H h) (z : KeyB B H k b) : (nestedKind P w).is h k b := ⟨NK.nis ok k _ _ z.1 rfl, z.2⟩
theorem KeyB.keep {B : Bool} {H H' : Hp} {k : NestedKey} {b : Addr} (z : KeyB B H k b) (ht : ∀ b ys, H b = some (.tup ys) → H' b = some (.tup ys)) : KeyB B H' k b := ⟨NK.keep ht k _ z.1, z.2⟩

abbrev NEnt := NestedKey × Addr × V
abbrev NPair : List NEnt → List (NestedKey × Addr × Value) → Prop := Paired fun p q => p.1 = q.1 ∧ p.2.1 = q.2.1 ∧ RelV p.2.2 q.2.2
def rows1 (xs : List NEnt) : List (NestedKey × V) := xs.map fun x => (x.1, x.2.2)
def putX (xs : List NEnt) (k : NestedKey) (b : Addr) (y : V) : List NEnt :=
  if (xs.any fun x => decide (x.1 = k)) = true then xs.map (fun x => if x.1 = k then (x.1, x.2.1, y) else x) else xs ++ [(k, b, y)]
theorem rows1_any (k : NestedKey) : ∀ xs : List NEnt, ((rows1 xs).any fun x => decide (x.1 = k)) = xs.any fun x => decide (x.1 = k)
  | [] => rfl
  | x :: xs => by
    show ((x.1, x.2.2) :: rows1 xs).any _ = _
    rw [List.any_cons, List.any_cons, rows1_any k xs]
theorem rows1_put (xs : List NEnt) (k : NestedKey) (b : Addr) (y : V) : rows1 (putX xs k b y) = putK (rows1 xs) k y := by
  unfold putX putK
  rw [rows1_any]
  by_cases q : (xs.any fun x => decide (x.1 = k)) = true
  · rw [if_pos q, if_pos q]
    unfold rows1
    rw [List.map_map, List.map_map]
    refine List.map_congr_left fun x _ => ?_
    show ((if x.1 = k then (x.1, x.2.1, y) else x).1, (if x.1 = k then (x.1, x.2.1, y) else x).2.2) = if x.1 = k then (x.1, y) else (x.1, x.2.2)
    by_cases e : x.1 = k
    · rw [if_pos e, if_pos e]
    · rw [if_neg e, if_neg e]
  · rw [if_neg q, if_neg q]
    unfold rows1
    rw [List.map_append]
    rfl
theorem NPair.val {xs : List NEnt} {ys : List (NestedKey × Addr × Value)} (r : NPair xs ys) (k : NestedKey) : RelO (valV (rows1 xs) k) ((atKey ys k).map (·.2)) := by
  induction r with
  | nil => exact True.intro
  | @cons p q ps qs h t ih =>
    obtain ⟨h1, _, h2⟩ := h
    show RelO (valV ((p.1, p.2.2) :: rows1 ps) k) _
    by_cases e : p.1 = k
    · have e' : q.1 = k := h1.symm.trans e
      have b : atKey (q :: qs) k = some q.2 := by simp [atKey, List.find?_cons, e']
      rw [valV_pos (p := (p.1, p.2.2)) e, b]; exact h2
    · have e' : ¬ q.1 = k := fun z => e (h1.trans z)
      have b : atKey (q :: qs) k = atKey qs k := by simp [atKey, List.find?_cons, e']
      rw [valV_neg (p := (p.1, p.2.2)) e, b]; exact ih
theorem NPair.repl {xs : List NEnt} {ys : List (NestedKey × Addr × Value)} (r : NPair xs ys) (k : NestedKey) {y : V} {u : Value} (ry : RelV y u) :
    NPair (xs.map fun x => if x.1 = k then (x.1, x.2.1, y) else x) (ys.map (putAt k u)) := by
  induction r with
  | nil => exact .nil
  | @cons p q ps qs h t ih =>
    rw [List.map_cons, List.map_cons]
    refine .cons ?_ ih
    obtain ⟨h1, h2, h3⟩ := h
    unfold putAt
    by_cases e : p.1 = k
    · rw [if_pos e, if_pos (h1.symm.trans e)]; exact ⟨h1, h2, ry⟩
    · rw [if_neg e, if_neg (fun z => e (h1.trans z))]; exact ⟨h1, h2, h3⟩
theorem NPair.put {xs : List NEnt} {ys : List (NestedKey × Addr × Value)} (r : NPair xs ys) (k : NestedKey) (b : Addr) {y : V} {u : Value} (ry : RelV y u) : NPair (putX xs k b y) (storedH ys k b u) := by
  have e : (xs.any fun x => decide (x.1 = k)) = (atKey ys k).isSome := by
    rw [← rows1_any, valV_any, (r.val k).isSome_eq, Option.isSome_map]
  unfold putX storedH
  rw [e]
  by_cases q : (atKey ys k).isSome = true
  · rw [if_pos q, if_pos q]; exact r.repl k ry
  · rw [if_neg q, if_neg q]; exact Paired.snoc r ⟨rfl, rfl, ry⟩
def KeysX (B : Bool) (H : Hp) (xs : List NEnt) : Prop := ∀ x ∈ xs, KeyB B H x.1 x.2.1
theorem KeysX.keep {B : Bool} {H H' : Hp} {xs : List NEnt} (z : KeysX B H xs) (ht : ∀ b ys, H b = some (.tup ys) → H' b = some (.tup ys)) : KeysX B H' xs := fun x hx => (z x hx).keep ht
theorem KeysX.put {B : Bool} {H : Hp} {xs : List NEnt} {k : NestedKey} {b : Addr} {y : V} (z : KeysX B H xs) (kb : KeyB B H k b) : KeysX B H (putX xs k b y) := by
  unfold putX
  split
  · intro x hx
    obtain ⟨x0, h0, rfl⟩ := List.mem_map.mp hx
    have := z x0 h0
    split <;> exact this
  · intro x hx
    rcases List.mem_append.mp hx with h | h
    · exact z x h
    · rw [List.mem_singleton.mp h]; exact kb
theorem NPair.all {P : Program} {w : World} {B : Bool} {H : Hp} {h : Heap} (ok : HOk P w H h) {xs : List NEnt} {ys : List (NestedKey × Addr × Value)} (r : NPair xs ys) (z : KeysX B H xs) : ∀ y ∈ ys, (nestedKind P w).is h y.1 y.2.1 := by
  induction r with
  | nil => intro y hy; exact nomatch hy
  | @cons p q ps qs hh t ih =>
    intro y hy
    rcases List.mem_cons.mp hy with e | hy
    · subst e
      rw [← hh.1, ← hh.2.1]
      exact (z p (List.mem_cons_self ..)).is ok
    · exact ih (fun x hx => z x (List.mem_cons_of_mem _ hx)) y hy

def DNf (P : Program) (w : World) (d : Addr) (xs : List NEnt) (h : Heap) : Prop := xs.length ≤ sizeLine ∧ (d == sysModules) = false ∧ ∃ ys : List (NestedKey × Addr × Value), NPair xs ys ∧
  ∃ o es ep, h.get? d = some o ∧ o.ExactDict ∧ o.data = .dict es ep ∧ es.toList = ys.map (entryOfKey (nestedKind P w)) ∧ (ys.map (·.1)).Nodup
def DNo (P : Program) (w : World) (d : Addr) (xs : List NEnt) : HO := .ext (DNf P w d xs)
theorem DNf.stay {P : Program} {w : World} {d : Addr} {xs : List NEnt} {h1 h2 : Heap} (z : DNf P w d xs h1) (k : ∀ o, h1.get? d = some o → h2.get? d = some o) : DNf P w d xs h2 := by
  obtain ⟨a, b, ys, r, o, es, ep, ho, q⟩ := z
  exact ⟨a, b, ys, r, o, es, ep, k o ho, q⟩
theorem DNf.ok {P : Program} {w : World} {H : Hp} {h : Heap} {d : Addr} {xs : List NEnt} (z : DNf P w d xs h) : ObjOk P w H h d (DNo P w d xs) := by
  refine ⟨z, ?_, fun h1 h2 x k => x.stay k⟩
  obtain ⟨_, _, _, _, o, _, _, ho, _⟩ := z
  exact ⟨o, ho⟩
/-- at d stands a dict with these keys and values -/
def DNr (P : Program) (w : World) (B : Bool) (H : Hp) (d : Addr) (kvs : List (NestedKey × V)) : Prop := ∃ xs, rows1 xs = kvs ∧ Rd H d (DNo P w d xs) ∧ KeysX B H xs
/-- .. that may be written -/
def DN (P : Program) (w : World) (B : Bool) (H : Hp) (d : Addr) (kvs : List (NestedKey × V)) : Prop := ∃ xs, rows1 xs = kvs ∧ H d = some (DNo P w d xs) ∧ KeysX B H xs
theorem DN.rd {P : Program} {w : World} {B : Bool} {H : Hp} {d : Addr} {kvs : List (NestedKey × V)} (z : DN P w B H d kvs) : DNr P w B H d kvs := let ⟨xs, a, b, c⟩ := z; ⟨xs, a, .inl b, c⟩
theorem DN.keep {P : Program} {w : World} {B : Bool} {H H' : Hp} {d : Addr} {kvs : List (NestedKey × V)} (z : DN P w B H d kvs) (e : H' d = H d) (ht : ∀ b ys, H b = some (.tup ys) → H' b = some (.tup ys)) : DN P w B H' d kvs :=
  let ⟨xs, a, b, c⟩ := z; ⟨xs, a, e.trans b, c.keep ht⟩
theorem DN.new {P : Program} {w : World} {B : Bool} {H : Hp} {d : Addr} : DN P w B (upd H d (DNo P w d [])) d [] := ⟨[], rfl, upd_same, fun x hx => nomatch hx⟩
section
variable {P : Program} {w : World} {B : Bool} {H : Hp} {h : Heap} {a : Addr} {kvs : List (NestedKey × V)}
theorem rows1_len (xs : List NEnt) : (rows1 xs).length = xs.length := by simp [rows1]
theorem dn_rd (ok : HOk P w H h) (e : DNr P w B H a kvs) : kvs.length ≤ sizeLine ∧ (a == sysModules) = false ∧ ∃ xs ys, rows1 xs = kvs ∧ KeysX B H xs ∧ NPair xs ys ∧ h.DictOfH (nestedKind P w) a ys := by
  obtain ⟨xs, rfl, rd, kx⟩ := e
  obtain ⟨⟨z, hd, ys, r, o, es, ep, h1, h2, h3, h4, h5⟩, _, _⟩ := (show ObjOk P w H h a (DNo P w a xs) from rd_of ok rd)
  exact ⟨by rw [rows1_len]; exact z, hd, xs, ys, rfl, kx, r, o, es, ep, h1, h2, h3, h4, NPair.all ok r kx, h5⟩
end
section
variable {B : Bool} {X : Cx} {pins : List (Addr × Obj)} {σ : St} {H : Hp} {s : Shared} {a b : Addr} {v : V} {u r : Value} {A : Around} {E : Value → Shared → Prop} {kvs : List (NestedKey × V)} {k : NestedKey}
theorem n_room (hu : A.units + 9 < cLine) : (nestedKind X.prog X.w).room A.in1 := by show A.units + 1 + 8 < cLine; omega
theorem n_getItem {Q : Value → Shared → Prop} (hu : A.units + 9 < cLine) (I : Inv X pins σ H s) (e : DNr X.prog X.w B H a kvs) (kb : KeyB B H k b) (hv : valV kvs k = some v) (h : ∀ w' s', Inv X pins σ H s' → RelV v w' → Q w' s') :
    wpAny (model X.prog X.w) A (getItem (.ref a) (.ref b)) Q E s := by
  obtain ⟨z, hd, xs, ys, rfl, kx, rel, dd⟩ := dn_rd I.hok e
  obtain ⟨w', hw, rw'⟩ := RelO.some_of (v := v) (o := (atKey ys k).map (·.2)) (by rw [← hv]; exact rel.val k)
  obtain ⟨p, hp, hp2⟩ := Option.map_eq_some_iff.mp hw
  refine wpAny_getItem_heap (n_room (X := X) hu) (kb.is I.hok) dd hp ?_
  rw [hp2]
  exact h w' _ (I.tok _) rw'
theorem n_in {Q : Value → Shared → Prop} (hu : A.units + 9 < cLine) (I : Inv X pins σ H s) (e : DNr X.prog X.w B H a kvs) (kb : KeyB B H k b) (h : ∀ s', Inv X pins σ H s' → Q (.bool (valV kvs k).isSome) s') :
    wpAny (model X.prog X.w) A (compareOp .In (.ref b) (.ref a)) Q E s := by
  obtain ⟨z, hd, xs, ys, rfl, kx, rel, dd⟩ := dn_rd I.hok e
  refine wpAny_in_heap (n_room (X := X) hu) (kb.is I.hok) hd dd ?_
  have q := (rel.val k).isSome_eq
  rw [Option.isSome_map] at q
  rw [← q]
  exact h _ (I.tok _)
theorem n_notIn {Q : Value → Shared → Prop} (hu : A.units + 9 < cLine) (I : Inv X pins σ H s) (e : DNr X.prog X.w B H a kvs) (kb : KeyB B H k b) (h : ∀ s', Inv X pins σ H s' → Q (.bool (!(valV kvs k).isSome)) s') :
    wpAny (model X.prog X.w) A (compareOp .NotIn (.ref b) (.ref a)) Q E s := by
  obtain ⟨z, hd, xs, ys, rfl, kx, rel, dd⟩ := dn_rd I.hok e
  refine wpAny_notIn_heap (n_room (X := X) hu) (kb.is I.hok) hd dd ?_
  have q := (rel.val k).isSome_eq
  rw [Option.isSome_map] at q
  rw [← q]
  exact h _ (I.tok _)
/-- what may have been made of H by writing the dict at a -/
def OnlyAt (H H' : Hp) (a : Addr) : Prop := ∀ c, c ≠ a → H' c = H c
theorem n_put {h' : Heap} {t' : Nat} {xs : List NEnt} (I : Inv X pins σ H s) (e : H a = some (DNo X.prog X.w a xs)) (kx : KeysX B H xs) (hs : Heap.SameBut a s.heap h') (z : DNf X.prog X.w a xs s.heap) (kb : KeyB B H k b) (rv : RelV v u) (hl : xs.length < sizeLine)
    {ys : List (NestedKey × Addr × Value)} (rel : NPair xs ys) (dd : h'.DictOfH (nestedKind X.prog X.w) a (storedH ys k b u)) :
    ∃ H', Inv X pins σ H' { s with heap := h', toks := t' } ∧ OnlyAt H H' a ∧ DN X.prog X.w B H' a (putK (rows1 xs) k v) := by
  obtain ⟨o, es, ep, h1, h2, h3, h4, _, h5⟩ := dd
  have hn : ∀ c ys, H c = some (.tup ys) → c ≠ a := fun c ys ec q => by rw [q, e] at ec; exact nomatch (show some (DNo X.prog X.w a xs) = some (HO.tup ys) from ec)
  have ln : (putX xs k b v).length ≤ sizeLine := by
    have h6 := length_putK (rows1 xs) k v
    rw [← rows1_put xs k b v, rows1_len, rows1_len] at h6
    omega
  have nw : DNf X.prog X.w a (putX xs k b v) h' := ⟨ln, z.2.1, _, rel.put k b rv, o, es, ep, h1, h2, h3, h4, h5⟩
  refine ⟨upd H a (DNo X.prog X.w a (putX xs k b v)), ?_, fun c hc => upd_ne hc, putX xs k b v, rows1_put xs k b v, upd_same, ?_⟩
  · exact d_write (ob := DNo X.prog X.w a (putX xs k b v)) I (by rw [e]; exact True.intro) hs ⟨o, h1⟩ nw.ok
  · exact (kx.put kb).keep fun c ys ec => by rw [upd_ne (hn c ys ec)]; exact ec
theorem n_setItem {Q : Unit → Shared → Prop} (hu : A.units + 9 < cLine) (I : Inv X pins σ H s) (e : DN X.prog X.w B H a kvs) (kb : KeyB B H k b) (hl : kvs.length < sizeLine) (rv : RelV v r)
    (h : ∀ H' s', Inv X pins σ H' s' → OnlyAt H H' a → DN X.prog X.w B H' a (putK kvs k v) → Q () s') :
    wpAny (model X.prog X.w) A (setItem (.ref a) (.ref b) r) Q E s := by
  obtain ⟨xs, rfl, ex, kx⟩ := e
  obtain ⟨zf, _, _⟩ := (show ObjOk X.prog X.w H s.heap a (DNo X.prog X.w a xs) from I.hok a _ ex)
  obtain ⟨z, hd, ys, rel, o, es, ep, h1, h2, h3, h4, h5⟩ := id zf
  have dd : s.heap.DictOfH (nestedKind X.prog X.w) a ys := ⟨o, es, ep, h1, h2, h3, h4, NPair.all I.hok rel kx, h5⟩
  rw [rows1_len] at hl
  refine wpAny_setItem_heap (hsz := by rw [← Paired.length rel]; exact z) (n_room (X := X) hu) (kb.is I.hok) dd fun h' dd' hs => ?_
  obtain ⟨H', I', q1, q2⟩ := n_put (t' := s.toks + (nestedKind X.prog X.w).draws k) I ex kx hs zf kb rv hl rel dd'
  exact h H' _ I' q1 q2
theorem n_setd {d : V} {Q : Value → Shared → Prop} (hu : A.units + 9 < cLine) (I : Inv X pins σ H s) (e : DN X.prog X.w B H a kvs) (kb : KeyB B H k b) (hl : kvs.length < sizeLine) (rd : RelV d r)
    (h1 : ∀ v, valV kvs k = some v → ∀ (w' : Value) (s' : Shared), Inv X pins σ H s' → RelV v w' → Q w' s')
    (h2 : valV kvs k = none → ∀ H' (w' : Value) (s' : Shared), Inv X pins σ H' s' → OnlyAt H H' a → DN X.prog X.w B H' a (putK kvs k d) → RelV d w' → Q w' s') :
    wpAny (model X.prog X.w) A (call (.builtin "dict.setdefault") [.ref a, .ref b, r]) Q E s := by
  obtain ⟨xs, rfl, ex, kx⟩ := e
  obtain ⟨zf, _, _⟩ := (show ObjOk X.prog X.w H s.heap a (DNo X.prog X.w a xs) from I.hok a _ ex)
  obtain ⟨z, hd, ys, rel, o, es, ep, g1, g2, g3, g4, g5⟩ := id zf
  have dd : s.heap.DictOfH (nestedKind X.prog X.w) a ys := ⟨o, es, ep, g1, g2, g3, g4, NPair.all I.hok rel kx, g5⟩
  rw [rows1_len] at hl
  refine call_setdefault_heap (hsz := by rw [← Paired.length rel]; exact z) (n_room (X := X) hu) (kb.is I.hok) hd dd (fun p hp => ?_) fun hn h' dd' hs => ?_
  · have q := rel.val k
    rw [hp] at q
    cases q0 : valV (rows1 xs) k with
    | none => rw [q0] at q; exact (show False from q).elim
    | some v0 => rw [q0] at q; exact h1 v0 q0 _ _ (I.tok _) q
  · have q := rel.val k
    rw [hn] at q
    cases q0 : valV (rows1 xs) k with
    | some v0 => rw [q0] at q; exact (show False from q).elim
    | none =>
      obtain ⟨H', I', q1, q2⟩ := n_put (t' := s.toks + (nestedKind X.prog X.w).draws k) I ex kx hs zf kb rd hl rel dd'
      exact h2 q0 H' _ _ I' q1 q2 rd
theorem n_typeIs (I : Inv X pins σ H s) (e : DNr X.prog X.w B H a kvs) : s.TypeIs (.ref a) "dict" := by
  obtain ⟨_, _, _, _, _, _, _, dd⟩ := dn_rd I.hok e
  exact dd.typeIs
theorem n_noDict (I : Inv X pins σ H s) (e : DNr X.prog X.w B H a kvs) : ∀ b, Value.ref a = .ref b → ∃ ob, s.heap.get? b = some ob ∧ ob.dict = none := fun b q => by
  cases q
  obtain ⟨_, _, _, _, _, _, _, ob, _, _, h1, h2, _⟩ := dn_rd I.hok e
  exact ⟨ob, h1, h2.2.1⟩
theorem n_new {P : Program} {w : World} {H : Hp} (h : Heap) (hb : sysModules < h.objs.size) : ObjOk P w H (h.push { cls := .type "dict", data := .dict #[] }) h.objs.size (DNo P w h.objs.size []) :=
  DNf.ok ⟨Nat.zero_le _, beq_eq_false_iff_ne.mpr (Ne.symm (Nat.ne_of_lt hb)), [], .nil, _, #[], 0, Heap.get?_push_size _ rfl, ⟨rfl, rfl, rfl⟩, rfl, rfl, List.nodup_nil⟩
end
end L2

set_option Elab.async false
set_option linter.all false
set_option maxRecDepth 100000
set_option maxHeartbeats 4000000
/-! Rules over dicts whose keys are nested tuples. -/
namespace L2
open PySem PySem.Spec PyProof.Rows
def tNNew (P : Program) (w : World) : TE := fun _ H Q => ∀ p, H p = none → Q (.ref p) (upd H p (DNo P w p []))
section
variable (P : Program) (w : World) (B : Bool)
def tNGet (td ty : TE) : TE := fun σ H Q => td σ H fun x H1 => ty σ H1 fun y H2 => ∃ a b kvs k v, x = .ref a ∧ y = .ref b ∧ DNr P w B H2 a kvs ∧ KeyB B H2 k b ∧ valV kvs k = some v ∧ Q v H2
def tNIn (ty td : TE) : TE := fun σ H Q => ty σ H fun y H1 => td σ H1 fun x H2 => ∃ a b kvs k, x = .ref a ∧ y = .ref b ∧ DNr P w B H2 a kvs ∧ KeyB B H2 k b ∧ Q (.bl (valV kvs k).isSome) H2
def tNNotIn (ty td : TE) : TE := fun σ H Q => ty σ H fun y H1 => td σ H1 fun x H2 => ∃ a b kvs k, x = .ref a ∧ y = .ref b ∧ DNr P w B H2 a kvs ∧ KeyB B H2 k b ∧ Q (.bl (!(valV kvs k).isSome)) H2
def sNPut (td ty tv : TE) : TS := fun D σ H => tv σ H fun v H1 => td σ H1 fun x H2 => ty σ H2 fun y H3 => ∃ a b kvs k, x = .ref a ∧ y = .ref b ∧ DN P w B H3 a kvs ∧ KeyB B H3 k b ∧ kvs.length < sizeLine ∧
  ∀ H4, OnlyAt H3 H4 a → DN P w B H4 a (putK kvs k v) → D.nx σ H4
def tNSetd (td ty tx : TE) : TE := fun σ H Q => td σ H fun x H1 => ∃ a kvs0, x = .ref a ∧ DNr P w B H1 a kvs0 ∧ ty σ H1 fun y H2 => tx σ H2 fun z H3 => ∃ b kvs k, y = .ref b ∧ DN P w B H3 a kvs ∧ KeyB B H3 k b ∧ kvs.length < sizeLine ∧
  (∀ v, valV kvs k = some v → Q v H3) ∧ (valV kvs k = none → ∀ H4, OnlyAt H3 H4 a → DN P w B H4 a (putK kvs k z) → Q z H4)
def rLenN : List V → Hp → VK → Prop := fun xs H Q => ∃ (p : Addr) (kvs : List (NestedKey × V)), xs = [.ref p] ∧ DNr P w B H p kvs ∧ Q (.int ((kvs.length : Nat) : Int)) H
def IsKeysN (B : Bool) (H : Hp) (kvs : List (NestedKey × V)) (bs : List Addr) : Prop := Paired (fun p b => KeyB B H p.1 b) kvs bs
end
section
variable {B : Bool} {X : Cx} {o i e f value : Expr} {pos pos' tpos apos cpos : Pos} {td ty tv tx : TE}
theorem pe_nnew : PE X (.Dict [] [] pos) (tNNew X.prog X.w) := ⟨fun pins s σ H Q I h =>
  wpAny_Dict_empty ⟨.ref s.heap.objs.size, _, I.laid (a := s.heap.objs.size) (o := DNo X.prog X.w s.heap.objs.size []) (t' := s.toks) (fun _ _ q => Heap.get?_push_of_some _ q) (Nat.le_refl _) (n_new s.heap I.big), rfl, h _ (I.hok.fresh (Nat.le_refl _))⟩⟩
theorem pe_nget (hu : X.A.units + 9 < cLine) (ho : PE X o td) (hi : PE X i ty) (hs : NoSl i) : PE X (.Subscript o i pos) (tNGet X.prog X.w B td ty) := by
  refine ⟨fun pins s σ H Q I h => ?_⟩
  refine subD_of PySem.F.slot_dict_getitem.lookup hs (thn (ho.run pins s σ H _ I h) fun u s1 ⟨x, H1, I1, rx, q1⟩ => thn (hi.run pins s1 σ H1 _ I1 q1) fun iv s2 ⟨y, H2, I2, ry, a, b, kvs, k, v, ex, ey, g, kb, hv, q2⟩ => ?_)
  subst ex ey
  obtain rfl : u = Value.ref a := rx
  obtain rfl : iv = Value.ref b := ry
  exact ⟨n_typeIs I2 g, n_getItem hu I2 g kb hv fun w' s3 I3 rw' => ⟨v, H2, I3, rw', q2⟩⟩
theorem pc_nin (hu : X.A.units + 9 < cLine) (hi : PE X i ty) (ho : PE X o td) : PC X .In i o (tNIn X.prog X.w B ty td) := by
  refine ⟨fun pins s σ H Q I h => ?_⟩
  refine thn (hi.run pins s σ H _ I h) fun iv s1 ⟨y, H1, I1, ry, q1⟩ => thn (ho.run pins s1 σ H1 _ I1 q1) fun u s2 ⟨x, H2, I2, rx, a, b, kvs, k, ex, ey, g, kb, q2⟩ => ?_
  subst ex ey
  obtain rfl : u = Value.ref a := rx
  obtain rfl : iv = Value.ref b := ry
  exact n_in hu I2 g kb fun s3 I3 => ⟨.bl (valV kvs k).isSome, H2, I3, rfl, q2⟩
theorem pc_nnotin (hu : X.A.units + 9 < cLine) (hi : PE X i ty) (ho : PE X o td) : PC X .NotIn i o (tNNotIn X.prog X.w B ty td) := by
  refine ⟨fun pins s σ H Q I h => ?_⟩
  refine thn (hi.run pins s σ H _ I h) fun iv s1 ⟨y, H1, I1, ry, q1⟩ => thn (ho.run pins s1 σ H1 _ I1 q1) fun u s2 ⟨x, H2, I2, rx, a, b, kvs, k, ex, ey, g, kb, q2⟩ => ?_
  subst ex ey
  obtain rfl : u = Value.ref a := rx
  obtain rfl : iv = Value.ref b := ry
  exact n_notIn hu I2 g kb fun s3 I3 => ⟨.bl (!(valV kvs k).isSome), H2, I3, rfl, q2⟩
theorem ps_nput (hu : X.A.units + 9 < cLine) (ho : PE X o td) (hi : PE X i ty) (hv : PE X value tv) (hs : swapsWith value (some (.Subscript o i pos')) pos.line X.env = pure false) :
    PS X (.Assign [.Subscript o i pos'] value pos) (sNPut X.prog X.w B td ty tv) := by
  refine ⟨fun pins s σ H D I h => ?_⟩
  refine wpAny_Assign_Subscript (thn (hv.run pins s σ H _ I h) fun r s1 ⟨v, H1, I1, rv, q1⟩ => thn (ho.run pins s1 σ H1 _ I1 q1) fun u s2 ⟨x, H2, I2, rx, q2⟩ => thn (hi.run pins s2 σ H2 _ I2 q2) fun iv s3 ⟨y, H3, I3, ry, a, b, kvs, k, ex, ey, g, kb, hl, q3⟩ => ?_) hs
  subst ex ey
  obtain rfl : u = Value.ref a := rx
  obtain rfl : iv = Value.ref b := ry
  exact n_setItem hu I3 g kb hl rv fun H4 s4 I4 c1 c2 => ⟨σ, H4, I4, q3 H4 c1 c2⟩
theorem pe_nsetd (hu : X.A.units + 9 < cLine) (ho : PE X o td) (he : PE X e ty) (hf : PE X f tx) (m : M2 X o "setdefault" apos e f cpos) : PE X (.Call (.Attribute o "setdefault" apos) [e, f] [] cpos) (tNSetd X.prog X.w B td ty tx) := by
  refine ⟨fun pins s σ H Q I h => ?_⟩
  refine wpAny_Call_method m.base m.few m.line PySem.F.plainAttrs_dict PySem.F.slot_dict_setdefault PySem.F.type_dict_setdefault (thn (ho.run pins s σ H _ I h) fun u s1 ⟨x, H1, I1, rx, a, kvs0, ex, d, q1⟩ => ?_)
  subst ex
  obtain rfl : u = Value.ref a := rx
  refine ⟨n_typeIs I1 d, n_noDict I1 d, ?_⟩
  rw [m.trees]
  refine Calls.callWith_builtin rfl (Calls.evalArgs_plain (Calls.spliced_cons (thn (he.run pins s1 σ H1 _ I1 q1) fun iv s2 ⟨y, H2, I2, ry, q2⟩ =>
    Calls.spliced_cons (thn (hf.run pins s2 σ H2 _ I2 q2) fun fv s3 ⟨z, H3, I3, rz, b, kvs, k, ey, g, kb, hl, q3, q4⟩ => Calls.spliced_nil ?_))))
  subst ey
  obtain rfl : iv = Value.ref b := ry
  exact n_setd hu I3 g kb hl rz (fun v hv w' s4 I4 rw' => ⟨v, _, I4, rw', q3 v hv⟩) fun hn H4 w' s4 I4 c1 c2 rw' => ⟨z, _, I4, rw', q4 hn H4 c1 c2⟩
theorem call_len_dN : CallR X (.builtin "len") (rLenN X.prog X.w B) := by
  intro pins s σ H xs us Q I r h
  obtain ⟨p, kvs, rfl, hp, q⟩ := h
  obtain ⟨u, rfl, rx⟩ := vals1 r
  obtain rfl : u = .ref p := rx
  obtain ⟨z, hd, xs, ys, rfl, kx, rel, dd⟩ := dn_rd I.hok hp
  have hl : (rows1 xs).length = ys.length := by rw [rows1_len]; exact Paired.length rel
  refine call_len_dictH hd dd (by rw [← hl]; rw [sizeLine_eq] at z; omega) ?_
  rw [← hl]
  exact ⟨.int (((rows1 xs).length : Nat) : Int), H, I.tok _, ⟨_, rfl⟩, q⟩
theorem isKeysN_of {H : Hp} {xs : List NEnt} {ys : List (NestedKey × Addr × Value)} (r : NPair xs ys) (kx : KeysX B H xs) : IsKeysN B H (rows1 xs) (ys.map fun x => x.2.1) := by
  unfold IsKeysN
  induction r with
  | nil => exact Paired.nil
  | @cons p q ps qs h t ih =>
    refine Paired.cons ?_ (ih fun x hx => kx x (List.mem_cons_of_mem _ hx))
    show KeyB B H p.1 q.2.1
    rw [← h.2.1]
    exact kx p (List.mem_cons_self ..)
/-- what was read of a dict's entries, one by one, is its keys' addresses -/
theorem read_keys {P : Program} {w : World} {ys : List (NestedKey × Addr × Value)} {es : Array DictEntry} {acc : Array Value} (he : es.toList = ys.map (entryOfKey (nestedKind P w))) (hn : acc.size = es.size)
    (hv : ∀ (j : Nat) (v : Value), acc[j]? = some v → ∃ en : DictEntry, es[j]? = some en ∧ v = en.key) : acc.toList = (ys.map (·.2.1)).map Value.ref := by
  have ly : ys.length = es.size := by
    have z := congrArg List.length he
    simpa using z.symm
  refine List.ext_getElem (by simp [hn, ly]) fun j h1 h2 => ?_
  have j1 : j < acc.size := by simpa using h1
  have j2 : j < ys.length := by omega
  obtain ⟨en, e1, e2⟩ := hv j acc[j] (Array.getElem?_eq_getElem j1)
  have e3 : es.toList[j]? = some (entryOfKey (nestedKind P w) ys[j]) := by rw [he, List.getElem?_map, List.getElem?_eq_getElem j2]; rfl
  rw [Array.getElem?_toList, e1] at e3
  have e4 : en.key = Value.ref (ys[j]).2.1 := by rw [Option.some.inj e3]; rfl
  simp only [Array.getElem_toList, List.getElem_map]
  rw [e2, e4]
theorem refs_are : ∀ l : List Addr, Vals (l.map V.ref) (l.map Value.ref)
  | [] => .nil
  | _ :: l => .cons rfl (refs_are l)
theorem call_list_dN (hc : X.calm = true) : CallR X (.type "list") (fun xs H Q => ∃ d kvs, xs = [V.ref d] ∧ DNr X.prog X.w B H d kvs ∧ ∀ p bs, H p = none → IsKeysN B H kvs bs → Q (.ref p) (upd H p (.lst (bs.map V.ref)))) := by
  rintro pins s σ H _ us Q I r ⟨d, kvs, rfl, hd, q⟩
  obtain rfl := Vals.ref1 r
  obtain ⟨z, low, xs, ys, rfl, kx, pr, o, es, ep, ho, hx, hdt, he, _, _⟩ := dn_rd I.hok hd
  have ly : ys.length = es.size := by
    have z := congrArg List.length he
    simpa using z.symm
  have lx : (rows1 xs).length = ys.length := by rw [rows1_len]; exact Paired.length pr
  have small : es.size ≤ sizeLine := by omega
  refine PySem.W.kdl_call (kdl_raw low hx hdt) (I.ok.hd hc) ho small fun h2 tk acc c kp e it => ?_
  have ea := read_keys he it.1 it.2
  have new : ObjOk X.prog X.w (upd H s.heap.objs.size (.lst ((ys.map (·.2.1)).map V.ref))) h2 s.heap.objs.size (.lst ((ys.map (·.2.1)).map V.ref)) := by
    refine ⟨by simp only [List.length_map]; omega, acc.toList, c, by rw [ea]; exact refs_are _, ?_⟩
    simpa using e
  exact ⟨.ref s.heap.objs.size, _, I.laid (t' := tk) kp (Nat.le_refl _) new, rfl, q _ _ (I.hok.fresh (Nat.le_refl _)) (isKeysN_of pr kx)⟩
end
end L2

set_option Elab.async false
set_option linter.all false
set_option maxRecDepth 100000
set_option maxHeartbeats 4000000
/-! One token is out: a for and an assignment in a def; name.replace(y, m[i]). -/
namespace L2
open PySem PySem.Spec PyProof.Rows
theorem thnT {α : Type} {t : Sem α} {Q Q' : α → Shared → Prop} {M : Model} {A : Around} {E : Value → Shared → Prop} {s : Shared} (h : wpAny M A t Q E s) (hQ : ∀ a s', s.toks ≤ s'.toks → Q a s' → Q' a s') : wpAny M A t Q' E s :=
  wpAny_mono (PySem.wpAny_toks h) (fun a s' z => hQ a s' z.1 z.2) fun _ _ z => z.2
section
variable {X : Cx} {st : Stmt} {rest : List Stmt} {t u : TS}
theorem PSsT.nox {b : List Stmt} (h : PSsT X.nox b t) : PSsT X b t := fun pins s σ H D h0 I hw =>
  wpAny_mono (h pins s σ H D h0 (I.wish _) hw) (fun _ _ q => q.unwish) fun _ _ z => False.elim z
theorem PIT.of {tg iter : Expr} {wi : TI} (h : PI X tg iter wi) : PIT X tg iter wi := fun pins s σ H R _ I q => h.run pins s σ H R I q
theorem pst_set {i : Nat} {x : Str} {e : Expr} {te : TE} {pos pos' : Pos} (hN : X.N.Nodup) (hi : X.N[i]? = some x) (hx : Loc X.env.scope x) (he : PET X e te) (hs : swapsWith e (some (.Name x pos')) pos.line X.env = pure false := by rfl) (hf : X.fn x = true ∨ X.env.scope.names.lookup x = some .local := by first | exact .inl rfl | exact .inr rfl | assumption) :
    PST X (.Assign [.Name x pos'] e pos) (tAsg te (gName i)) := by
  intro pins s σ H D h0 I h
  refine wpAny_Assign_Name (thn (he pins s σ H _ h0 I h) fun v s1 ⟨y, H1, I1, r1, q1⟩ => ?_) hs
  exact store_ok I1 hN hi hx r1 (fun s2 I2 => ⟨_, H1, I2, q1⟩) hf
/-- a loop between two turns, a token out -/
def Btw (X : Cx) (pins : List (Addr × Obj)) (fp : List Addr) (tn : Nat → Heap → Prop) (W : Nat → Nat → St → Hp → Prop) (n : Nat) (s : Shared) : Prop :=
  1 ≤ s.toks ∧ ∃ (i : Nat) (σ : St) (H : Hp), W i n σ H ∧ tn i s.heap ∧ (∀ b ∈ fp, H b = none) ∧ Inv X pins σ H s
theorem Btw.mk {tg : Expr} {pins : List (Addr × Obj)} {fp : List Addr} {it : Addr} {tn : Nat → Heap → Prop} {J : It} {W : Nat → Nat → St → Hp → Prop} {N : St → Hp → Prop} {n i : Nat} {s0 s1 : Shared} {σ : St} {H : Hp}
    (T : Turn X.prog X.w X.K tg J fp it tn) (st : tn (i + 1) s0.heap) (out : 1 ≤ s1.toks) (I : Inv X (pins ++ pinsAt fp s0.heap) σ H s1) (less : ∀ σ' H', N σ' H' → ∃ m, m < n ∧ W (i + 1) m σ' H') (hN : N σ H) : ∃ m, m < n ∧ Btw X pins fp tn W m s1 := by
  obtain ⟨m, lt, w⟩ := less σ H hN
  have held : ∀ b ∈ fp, ∀ o, s0.heap.get? b = some o → s1.heap.get? b = some o ∧ H b = none := fun b hb o e => by
    obtain ⟨p1, p2, _⟩ := I.pin (b, o) (by simp [mem_pinsAt hb e])
    exact ⟨p1, p2⟩
  refine ⟨m, lt, out, i + 1, σ, H, w, T.keep _ _ _ st fun b hb o e => (held b hb o e).1, fun b hb => ?_, I.unpinned⟩
  obtain ⟨o, e, _⟩ := T.obj _ _ st b hb
  exact (held b hb o e).2
theorem pst_forT {tg iter : Expr} {body : List Stmt} {wi : TI} {g : TG} {tb : TS} {pos : Pos} (pass : PassesOwn (model X.prog X.w) X.A X.env X.xe) (calm : X.calm = true) (hi : PI X tg iter wi) (hg : PG X tg g) (hb : PSsT X body tb)
    (plain : ∀ x, foldedSetIterable iter X.env x = pure x := by intro _; rfl) : PST X (.For tg iter body [] pos) (tFor wi g tb) := fun pins s σ H D out I wish => by
  have start := hi.run pins s σ H _ I wish
  refine wpAny_For (thnT start fun _ sA kA hA => thnT hA fun _ sB kB hB => ?_) plain
  obtain ⟨it, fp, tn, J, HB, rfl, IB, T, stB, okB, W, ⟨m, wm⟩, each⟩ := hB
  have foot : ∀ {Hx : Hp}, (∀ b ∈ fp, Hx b = none) → ∀ b ∈ fp, FpOk X pins Hx b := fun no b hb => ⟨no b hb, (okB b hb).2⟩
  refine codeAny_forLoop_any (Btw X pins fp tn W) (fun n sC hC => ?_) m ⟨by omega, 0, σ, HB, wm, stB, fun b hb => (okB b hb).1, IB⟩
  obtain ⟨outC, i, σC, HC, wC, stC, noC, IC⟩ := hC
  have turn := each i n σC HC wC
  refine wpAny_passesOwn pass ?_
  rcases turn with ⟨hstop, hnext⟩ | ⟨hgo, N, less, step⟩
  · refine thn (T.done X rfl rfl rfl calm i pins sC σC HC X.xe IC (foot noC) stC hstop) ?_
    rintro _ sD ⟨rfl, ID⟩
    exact wpAny_execs_nil ⟨σC, HC, ID, hnext⟩
  · refine thnT (T.item X rfl rfl rfl calm i pins sC σC HC X.xe IC (foot noC) stC hgo) ?_
    rintro _ sD kD ⟨u, rfl, hD⟩
    refine wpAny_passesOwn pass (thnT hD ?_)
    rintro _ sE kE ⟨x, HE, IE, rE, yE, stE, noE⟩
    have stored := hg.run _ sE σC HE x u _ (IE.pinned (foot noE) (T.obj _ _ stE)) rE (step x HE yE)
    refine wpAny_passesOwn pass (thnT stored ?_)
    rintro _ sF kF ⟨σF, HF, IF, qF⟩
    have outF : 1 ≤ sF.toks := by omega
    refine wpAny_passesOwn pass (thnT (hb _ sF σF HF _ outF IF qF) ?_)
    intro flow sG kG hG
    have outG : 1 ≤ sG.toks := by omega
    match flow, hG with
    | .next, ⟨_, _, IG, nG⟩ => exact Btw.mk T stE outG IG less nG
    | .cont, ⟨_, _, IG, nG⟩ => exact Btw.mk T stE outG IG less nG
    | .brk, ⟨σG, HG, IG, qG⟩ => exact ⟨σG, HG, IG.unpinned, qG⟩
    | .ret _, ⟨x2, σG, HG, IG, rG, qG⟩ => exact ⟨x2, σG, HG, IG.unpinned, rG, qG⟩
end
/-- e.replace(y, m[i]) -/
def tReplN (ta : TE) (y : Str) (tM ti : TE) : TE := fun σ H Q => ta σ H fun v H1 => ∃ x, v = .str x ∧ tM σ H1 fun m H2 => ti σ H2 fun iv H3 =>
  ∃ (z : Str) (c : Nat) (i : Int), m = .str z ∧ iv = .int i ∧ z.length ≤ sizeLine ∧ atI z.cps.toList i = some c ∧ (y == ⟨#[c]⟩) = false ∧ x.length + (x.length + 1) * 1 ≤ 16777216 ∧ Q (.str (Txt.replace x y ⟨#[c]⟩)) H3
section
variable {X : Cx} {a m i : Expr} {ta tM ti : TE} {y : Str} {k : Nat} {c0 p2 p3 apos pos : Pos}
theorem pet_replN (ha : PE X a ta) (hM : PE X m tM) (hi : PE X i ti) (hs3 : PlainIx i)
    (hst : starEach [.Constant (.str y) k c0, .Subscript m i p3] X.env = [(false, eval (.Constant (.str y) k c0) X.env), (false, eval (.Subscript m i p3) X.env)] := by rfl)
    (hbase : attributeBase a "replace" X.env (eval a X.env) = eval a X.env := by rfl)
    (hline : (apos.endLine == pos.line) = true := by rfl) :
    PET X (.Call (.Attribute a "replace" apos) [.Constant (.str y) k c0, .Subscript m i p3] [] pos) (tReplN ta y tM ti) := by
  intro pins s σ H Q h0 I h
  refine PySem.Call_method2 hbase hst hline (thnT (ha.run pins s σ H _ I h) fun v2 s2 hk q => ?_)
  obtain ⟨x2, H2, I2, r2, xs, rfl, q⟩ := q
  obtain ⟨tx, rfl⟩ := r2
  have hk2 : 1 ≤ s2.toks := by omega
  refine ⟨"str", _, PySem.F.plainAttrs_str, PySem.F.slot_str_replace, PySem.F.type_str_replace, typeIs_str _ _ _, (fun _ e => nomatch e), Calls.callWith_builtin rfl (Calls.evalArgs_plain (Calls.spliced_cons ?_))⟩
  refine Calls.Constant_str (Calls.spliced_cons (Subscript_ ?_))
  refine wpAny_mono (PySem.wpAny_toks (hM.run pins _ σ H2 _ (I2.tok (s2.toks + 1)) q)) (fun v3 s3 q => ?_) fun _ _ z => z.2
  obtain ⟨hk3, x3, H3, I3, r3, q⟩ := q
  have hk3' : s2.toks + 1 ≤ s3.toks := hk3
  refine wpAny_mono (PySem.wpAny_toks (hi.run pins _ σ H3 _ I3 q)) (fun v4 s4 q => ?_) fun _ _ z => z.2
  obtain ⟨hk4, x4, H4, I4, r4, z, c, ix, rfl, rfl, hz, he, hyz, hb, q⟩ := q
  obtain ⟨t, rfl⟩ := r3
  obtain ⟨t', rfl⟩ := r4
  obtain ⟨j, h1, h2, h3, h4, h5⟩ := atI_get he
  have hl : z.cps.toList.length = z.length := by simp [Str.length]
  rw [hl] at h1 h4 h5
  have hn := line63
  refine tail_any (typeIs_str s4 z t) slot_str_getitem.lookup (getItem_str (c := c) (by
    have e1 : decide (ix < -(2 ^ 63 : Int)) = false := decide_eq_false (by omega)
    have e2 : decide (ix ≥ 2 ^ 63) = false := decide_eq_false (by omega)
    rw [e1, e2, Bool.or_false]) (by rw [h1]; simpa using h2) ?_) (hs3 _ _)
  refine Calls.spliced_nil ?_
  exact PySem.SC.replace (by show s2.toks ≠ 0; omega) (by show s4.toks ≠ 0; omega) (by show s2.toks ≠ s4.toks; omega) hyz hb fun t' k => ⟨.str (Txt.replace xs y ⟨#[c]⟩), H4, I4.tok k, ⟨t', rfl⟩, q⟩
end
section
variable {P : Program} {w : World} {K : PySem.W.Frag} {mg : Str → Option Value} {base : Heap}
/-- a def by its body, a token out from the start -/
theorem Fun.okT {x qual : Str} {st : Stmt} {f : Addr} {fd : FuncData} {N ps : List Str} {k : Nat} {sp : Sp} (F : Fun K x qual st f fd) (S : FnScope N ps (defScope st)) (hnc : ((defScope st).names.all fun y => !decide (y.2 = .cell)) = true) (hps : 1 ≤ ps.length) (len : ∀ vs H Q E, sp vs H Q E → vs.length = ps.length)
    (hbody : ∀ (cdv : Value) (A : Around) (outer : List Env) (s : Shared) (H : Hp) (vs : List V) (Q : VK) (E : XK), Room k (A.deeper (PyProof.Rows.envOfC qual (defScope st) s.heap.objs.size f cdv)) → sp vs H Q E →
      ∃ t, PSsT (cxOf CX0 P w K mg base N qual (defScope st) f cdv A outer s H E).nox (defBody st) t ∧ t { nx := fun _ H' => Q .non H', rt := Q } (start N vs) H) : FnOk P w K mg base CX0 (k + 1) f fd ps sp := by
  obtain ⟨oc, od, kV, doc, pm, an, cdv, ct, osl, rfl, lk, hcd⟩ := F.ex
  refine fn_ofT lk hcd S (fun y hy z => ?_) hps len fun A outer s H vs Q E hr hsp => ?_
  · have := List.all_eq_true.mp hnc y hy
    rw [decide_eq_true z] at this
    cases this
  · obtain ⟨t, h, q⟩ := hbody cdv A outer s H vs Q E hr hsp
    exact ⟨t, h.nox, q⟩
end
end L2

set_option Elab.async false
set_option linter.all false
set_option maxRecDepth 100000
set_option maxHeartbeats 4000000
/-! States; maker_behind, state_behind. -/
namespace L2
open PySem PySem.Spec PyProof.Rows
/-- t[lo:hi]: somewhere, all else stays -/
def rSlW (K : PySem.W.Frag) : V → Option Int → Option Int → Hp → VK → Prop := fun x lo hi H Q => ∃ a xs, x = .ref a ∧ H a = some (.tup xs) ∧ ∀ p H', Same H H' → H' p = some (.tup (cutV xs lo hi)) → Q (.ref p) H'
theorem sl_tupS {X : Cx} : SlR X (rSlW X.K) := by
  intro pins s σ H x v vl vu lo hi sl Q I rx hs pl pu h
  obtain ⟨a, xs, rfl, ha, q⟩ := h
  refine sl_tupA pins s σ H _ v vl vu lo hi sl Q I rx hs pl pu ⟨a, xs, rfl, SqT.of ha, fun z => ?_, fun _ p hp => q p _ (K37.same_upd hp) upd_same⟩
  refine q a H (fun _ _ e => e) ?_
  rw [ha]
  unfold cutV
  rw [z.1, z.2]
  simp
/-- t + u: somewhere, all else stays -/
def rCatZ (K : PySem.W.Frag) : R2 := fun x y H Q => ∃ a b xs ys, x = .ref a ∧ y = .ref b ∧ H a = some (.tup xs) ∧ H b = some (.tup ys) ∧ xs.length + ys.length ≤ sizeLine ∧ ∀ p H', Same H H' → H' p = some (.tup (xs ++ ys)) → Q (.ref p) H'
theorem op_catZ {X : Cx} : OpR X (binaryOp .Add) (rCatZ X.K) := by
  intro pins s σ H x y v u Q I rx ry h
  obtain ⟨a, b, xs, ys, rfl, rfl, ha, hb, hz, q⟩ := h
  refine op_catA pins s σ H _ _ v u Q I rx ry ⟨a, b, xs, ys, rfl, rfl, SqT.of ha, SqT.of hb, hz, fun z => ?_, fun _ z => ?_, fun _ _ p hp => q p _ (K37.same_upd hp) upd_same⟩
  · subst z
    exact q b H (fun _ _ e => e) hb
  · subst z
    exact q a H (fun _ _ e => e) (by rw [ha, List.append_nil])
theorem set_cut {xs : List V} {w : Nat} {g : V} (h : w < xs.length) (h2 : xs.length < 2 ^ 60) : cutV xs none (some (w : Int)) ++ [g] ++ cutV xs (some ((w : Int) + 1)) none = xs.set w g := by
  have e1 : ((w : Int) + 1) = ((w + 1 : Nat) : Int) := by omega
  unfold cutV
  rw [e1, HT.sIx_nat, HT.sIx_nat, HT.sIx_none, HT.sIx_none, List.set_eq_take_append_cons_drop, if_pos h]
  have e2 : min w xs.length = w := by omega
  have e3 : min (w + 1) xs.length = w + 1 := by omega
  rw [e2, e3, Nat.sub_zero, List.drop_zero, List.append_assoc]
  congr 1
  show g :: (xs.drop (w + 1)).take (xs.length - (w + 1)) = _
  rw [List.take_of_length_le (by rw [List.length_drop]; exact Nat.le_refl _)]
end L2
namespace K37
open PySem L2 L2.EV
abbrev sMaker : Stmt := top 33
abbrev sState : Stmt := top 34
inductive Mk where
  | no | one (w : Int) | mix
  deriving DecidableEq
/-- the standings of the writers, the maker of what the present line has so far -/
abbrev Sx := List Int × Mk
def mkV : Mk → V
  | .no => .non
  | .one w => .int w
  | .mix => .str "mixed"
def keyM : Mk → NestedKey
  | .no => .none
  | .one w => .num w
  | .mix => .text "mixed"
def keyS (s : Sx) : NestedKey := .tup [.tup (s.1.map .num), keyM s.2]
def StA (H : Hp) (a : Addr) (s : Sx) : Prop := ∃ p, H a = some (.tup [.ref p, mkV s.2]) ∧ H p = some (.tup (s.1.map V.int))
theorem StA.keep {H H' : Hp} {a : Addr} {s : Sx} (h : StA H a s) (k : KeepT H H') : StA H' a s := let ⟨p, e1, e2⟩ := h; ⟨p, k _ _ e1, k _ _ e2⟩
theorem nks_ints {B : Bool} {H : Hp} : ∀ ns : List Int, NKs B H (ns.map NestedKey.num) (ns.map V.int)
  | [] => .nil
  | n :: ns => .cons (.int n) (nks_ints ns)
theorem nk_mk {B : Bool} {H : Hp} (m : Mk) : NK B H (keyM m) (mkV m) := by
  cases m with
  | no => exact .none
  | one w => exact .int w
  | mix => exact .str _
theorem depth_nums : ∀ ns : List Int, NestedKey.depthAll (ns.map NestedKey.num) = 0
  | [] => rfl
  | n :: ns => by
    show max (NestedKey.depth (.num n)) (NestedKey.depthAll (ns.map NestedKey.num)) = 0
    rw [depth_nums ns]
    rfl
theorem StA.key {B : Bool} {H : Hp} {a : Addr} {s : Sx} (h : StA H a s) : KeyB B H (keyS s) a := by
  obtain ⟨p, e1, e2⟩ := h
  refine ⟨.tup e1 (.cons (.tup e2 (nks_ints _)) (.cons (nk_mk _) .nil)), ?_⟩
  show NestedKey.depth (.tup [.tup (s.1.map .num), keyM s.2]) ≤ 8
  simp only [NestedKey.depth, NestedKey.depthAll, depth_nums]
  cases s.2 <;> simp only [keyM, NestedKey.depth] <;> decide
theorem ints_nks {H : Hp} : ∀ (ns : List Int) (xs : List V), NKs false H (ns.map NestedKey.num) xs → xs = ns.map V.int
  | [], _, h => by cases h; rfl
  | n :: ns, _, h => by
    cases h with
    | cons h1 h2 =>
      rw [ints_nks ns _ h2]
      cases h1 with
      | bl h _ => cases h
      | int _ => rfl
theorem mk_nk {H : Hp} {m : Mk} {x : V} (h : NK false H (keyM m) x) : x = mkV m := by
  cases m with
  | no => cases h; rfl
  | one w =>
    cases h with
    | bl h _ => cases h
    | int _ => rfl
  | mix => cases h; rfl
/-- a key of a state is that state -/
theorem sta_key {H : Hp} {a : Addr} {s : Sx} (h : KeyB false H (keyS s) a) : StA H a s := by
  obtain ⟨h, _⟩ := h
  cases h with
  | tup e1 h1 =>
    cases h1 with
    | cons ha h2 =>
      cases h2 with
      | cons hb h3 =>
        cases h3
        cases ha with
        | @tup p ys _ e2 h4 =>
          rw [ints_nks _ _ h4] at e2
          rw [mk_nk hb] at e1
          exact ⟨p, e1, e2⟩
theorem keyS_inj {s t : Sx} (h : keyS s = keyS t) : s = t := by
  obtain ⟨a, m⟩ := s
  obtain ⟨b, n⟩ := t
  have h1 : [NestedKey.tup (a.map .num), keyM m] = [NestedKey.tup (b.map .num), keyM n] := NestedKey.tup.inj h
  injection h1 with h2 h3
  injection h3 with h4 _
  have e1 : a.map NestedKey.num = b.map .num := NestedKey.tup.inj h2
  have e2 : a = b := by
    have inj : ∀ x y : List Int, x.map NestedKey.num = y.map .num → x = y := by
      intro x
      induction x with
      | nil => intro y e; cases y with
        | nil => rfl
        | cons _ _ => cases e
      | cons i x ih => intro y e; cases y with
        | nil => cases e
        | cons j y =>
          rw [List.map_cons, List.map_cons] at e
          injection e with e1 e2
          rw [ih y e2, NestedKey.num.inj e1]
    exact inj a b e1
  have e3 : m = n := by
    cases m <;> cases n <;> first | rfl | (cases h4; rfl) | cases h4
  rw [e2, e3]
/-- who has put a line behind a step -/
def behM (m : Mk) (w st : Int) : Mk := if m = .no ∧ st = 0 then .one w else if m = .one w then m else .mix
def behS (s : Sx) (w : Int) (x : T3) : Sx := (s.1.set w.toNat x.2.2, if x.2.2 = 0 then .no else behM s.2 w x.1)
def spMaker : Sp := fun vs H Q _ => ∃ (m : Mk) (w st : Int), vs = [mkV m, .int w, .int st] ∧ Q (mkV (behM m w st)) H
def spState : Sp := fun vs H Q _ => ∃ (a t : Addr) (s : Sx) (w : Int) (x : T3), vs = [.ref a, .int w, .ref t] ∧ StA H a s ∧ S3 H t x ∧ 0 ≤ w ∧ w < s.1.length ∧ s.1.length ≤ 3 ∧ ∀ H' p, Same H H' → StA H' p (behS s w x) → Q (.ref p) H'
structure Sf (K : PySem.W.Frag) (mg : Str → Option Value) where
  Y : Wf K mg
  fM : Addr
  fS : Addr
  dM : FuncData
  dS : FuncData
  M : Fun K "maker_behind" "maker_behind" sMaker fM dM
  S : Fun K "state_behind" "state_behind" sState fS dS
  bM : Binds K dM ["maker", "writer", "start"] []
  bS : Binds K dS ["state", "writer", "step"] []
  mM : mg "maker_behind" = some (.ref fM)
  mS : mg "state_behind" = some (.ref fS)
  cM : ∃ t, mg "MIXED" = some (.str "mixed" t)
section
variable {P : Program} {w : World} {K : PySem.W.Frag} {mg : Str → Option Value} {base : Heap}
theorem scMaker : FnScope ["maker", "writer", "start"] ["maker", "writer", "start"] (defScope sMaker) := ⟨rfl, rfl, rfl, by decide +kernel, rfl, by decide +kernel, by decide +kernel⟩
theorem scState : FnScope ["state", "writer", "step", "places", "maker", "start", "piece", "goal", "further"] ["state", "writer", "step"] (defScope sState) := ⟨rfl, rfl, rfl, by decide +kernel, rfl, by decide +kernel, by decide +kernel⟩
theorem scal_mk (m : Mk) (w : Int) : scal (mkV m) (.int w) = true := by cases m <;> rfl
theorem ok_maker (S : Sf K mg) : FnOk P w K mg base CX0 1 S.fM S.dM ["maker", "writer", "start"] spMaker := by
  refine S.M.ok scMaker (fun vs H Q E h => ?_) (fun cdv A outer s H vs Q E hr h => ?_)
  · obtain ⟨m, w, st, rfl, _⟩ := h
    rfl
  · obtain ⟨m, wr, st, rfl, q⟩ := h
    obtain ⟨tm, eM⟩ := S.cM
    refine ⟨_, pss_cons (ps_if (pw_and (pt_cmpR op_isN (pv 0) pe_non (nomark _)) (pw_and1 (pt_cmpR op_eq (pv 2) pe_int (nomark _)))).pt (pss_one (ps_ret (pv 1))) pss_nil)
      (pss_one (ps_ret (pe_ifExp (pt_cmpR op_eq (pv 0) (pv 1) (nomark _)) (pv 0) (pe_glob (v := .str "mixed") (by rfl) eM ⟨_, rfl⟩)))), ?_⟩
    have fin : ∀ (z : mkV (behM m wr st) = if (decide (mkV m = V.int wr)) = true then mkV m else V.str "mixed"), (tRet (tIf (tTest (tOp rEq (tVar 0) (tVar 1))) (tVar 0) (tC (V.str "mixed")))) { nx := fun x H' => Q V.non H', rt := Q } (start ["maker", "writer", "start"] [mkV m, V.int wr, V.int st]) H := fun z => by
      refine ⟨_, rfl, _, rfl, scal_mk m wr, _, rfl, ?_⟩
      rw [z] at q
      by_cases c : (decide (mkV m = V.int wr)) = true
      · rw [if_pos c] at q
        rw [c]
        exact iteT ⟨_, rfl, q⟩
      · rw [if_neg c] at q
        rw [eq_false_of_ne_true c]
        exact iteF q
    refine ⟨_, rfl, rfl, _, rfl, ?_⟩
    by_cases c1 : m = .no
    · subst c1
      refine iteT' (by simp [mkV]) ?_
      refine ⟨_, rfl, rfl, _, rfl, ?_⟩
      by_cases c2 : st = 0
      · refine iteT' (by simp [c2]) ?_
        have e : mkV (behM .no wr st) = .int wr := by unfold behM; rw [if_pos ⟨rfl, c2⟩]; rfl
        rw [e] at q
        exact ⟨_, rfl, q⟩
      · refine iteF' (by simp [c2]) (fin ?_)
        unfold behM
        rw [if_neg (fun z => c2 z.2), if_neg (fun z => by cases z)]
        rfl
    · refine iteF' (by cases m <;> first | (exact absurd rfl c1) | simp [mkV]) (fin ?_)
      unfold behM
      rw [if_neg (fun z => c1 z.1)]
      cases m with
      | no => exact absurd rfl c1
      | one k =>
        by_cases c : k = wr
        · subst c
          rw [if_pos rfl]
          show V.int k = if (decide (V.int k = V.int k)) = true then V.int k else _
          rw [decide_eq_true rfl, if_pos rfl]
        · rw [if_neg (fun z => c (by injection z))]
          show V.str "mixed" = if (decide (V.int k = V.int wr)) = true then V.int k else _
          rw [decide_eq_false (fun z => c (by injection z)), if_neg (by simp)]
      | mix =>
        rw [if_neg (fun z => by cases z)]
        rfl
theorem ok_state (S : Sf K mg) : FnOk P w K mg base CX0 2 S.fS S.dS ["state", "writer", "step"] spState := by
  have GM : FnOk P w K mg base CX0 1 S.fM S.dM ["maker", "writer", "start"] spMaker := ok_maker S
  refine S.S.ok scState (fun vs H Q E h => ?_) (fun cdv A outer s H vs Q E hr h => ?_)
  · obtain ⟨a, t, s, w, x, rfl, _⟩ := h
    rfl
  · obtain ⟨a, t, st, wr, x, rfl, ea, et, w0, w1, w3, q⟩ := h
    refine ⟨_, pss_cons (ps_asg (pv 0) (pg_tup rfl (pgs_cons (pg_name (i := 3) scState.nd rfl (Or.inl rfl)) (pgs_cons (pg_name (i := 4) scState.nd rfl (Or.inl rfl)) pgs_nil))))
      (pss_cons (ps_asg (pv 2) (pg_tup rfl (pgs_cons (pg_name (i := 5) scState.nd rfl (Or.inl rfl)) (pgs_cons (pg_name (i := 6) scState.nd rfl (Or.inl rfl)) (pgs_cons (pg_name (i := 7) scState.nd rfl (Or.inl rfl)) pgs_nil)))))
      (pss_cons (ps_set (i := 8) scState.nd rfl (Or.inl rfl) (pe_op op_catZ (pe_op op_catZ (pe_slice sl_tupS (pv 3) po_none (po_some (pv 1))) (pe_tup (pa_cons (pv 7) pa_nil))) (pe_slice sl_tupS (pv 3) (po_some (pe_op op_add (pv 1) pe_int)) po_none)))
      (pss_one (ps_ret (pe_tup (pa_cons (pv 8) (pa_cons (pe_ifExp (pt_cmpR op_eq (pv 7) pe_int (nomark _)) pe_non (pe_call GM hr (by rfl) S.mM S.M.kp S.bM .nil pass0 (pa_cons (pv 4) (pa_cons (pv 1) (pa_cons (pv 5) pa_nil))))) pa_nil))))))), ?_⟩
    obtain ⟨p, e1, e2⟩ := ea
    obtain ⟨n, rfl⟩ := Int.eq_ofNat_of_zero_le w0
    have hn : n < (st.1.map V.int).length := by rw [List.length_map]; omega
    refine ⟨_, rfl, a, _, rfl, SqT.of e1, rfl, _, _, rfl, _, _, rfl, rfl, ?_⟩
    refine ⟨_, rfl, t, _, rfl, SqT.of et, rfl, _, _, rfl, _, _, rfl, _, _, rfl, rfl, ?_⟩
    refine ⟨_, rfl, _, rfl, _, rfl, p, _, rfl, e2, fun p1 H1 s1 h1 => ?_⟩
    refine ⟨_, rfl, (by show 1 ≤ sizeLine; decide), fun p2 hp2 => ?_⟩
    have s2 := same_upd (o := HO.tup [V.int x.2.2]) hp2
    have l1 := cutV_length (st.1.map V.int) none (some (n : Int))
    have l2 := cutV_length (st.1.map V.int) (some ((n : Int) + 1)) none
    rw [List.length_map] at l1 l2
    refine ⟨p1, p2, _, _, rfl, rfl, s2 _ _ h1, upd_same, by rw [sizeLine_eq]; show _ + 1 ≤ 16777216; omega, fun p3 H3 s3 h3 => ?_⟩
    have s13 := s1.trans (s2.trans s3)
    refine ⟨_, rfl, _, rfl, n, 1, rfl, rfl, _, rfl, p, _, rfl, s13 _ _ e2, fun p4 H4 s4 h4 => ?_⟩
    refine ⟨p3, p4, _, _, rfl, rfl, s4 _ _ h3, h4, by rw [sizeLine_eq, List.length_append]; show _ + 1 + _ ≤ 16777216; omega, fun p5 H5 s5 h5 => ?_⟩
    rw [set_cut hn (by rw [List.length_map]; omega)] at h5
    have s15 := s13.trans (s4.trans s5)
    have fin : ∀ m, (behS st (n : Int) x).2 = m → ∀ p, H5 p = none → Q (.ref p) (upd H5 p (.tup [.ref p5, mkV m])) := fun m em p6 hp6 => by
      have s6 := same_upd (o := HO.tup [V.ref p5, mkV m]) hp6
      refine q _ p6 (s15.trans s6) ⟨p5, by rw [em]; exact upd_same, ?_⟩
      rw [s6 _ _ h5]
      show some (HO.tup ((st.1.map V.int).set n (V.int x.2.2))) = some (.tup ((st.1.set (n : Int).toNat x.2.2).map V.int))
      rw [Int.toNat_natCast, List.map_set]
    have es : (behS st (n : Int) x).2 = if x.2.2 = 0 then .no else behM st.2 (n : Int) x.1 := rfl
    refine ⟨_, rfl, _, rfl, rfl, _, rfl, ?_⟩
    by_cases c : x.2.2 = 0
    · rw [if_pos c] at es
      refine iteT' (by simp [c]) ?_
      exact ⟨(by show 2 ≤ sizeLine; decide), fin _ es⟩
    · rw [if_neg c] at es
      refine iteF' (by simp [c]) ?_
      exact ⟨_, rfl, _, rfl, _, rfl, st.2, n, x.1, rfl, (by show 2 ≤ sizeLine; decide), fin _ es⟩
end
end K37

set_option Elab.async false
set_option linter.all false
set_option maxRecDepth 100000
set_option maxHeartbeats 8000000
/-! fits_at. -/
namespace K37
open PySem L2 L2.EV
abbrev sFits : Stmt := top 32
abbrev E2 := Int × Int
def stn (fr : List T3) (k : Nat) : T3 := fr.getD k (0, "", 0)
theorem stn_at {fr : List T3} {k : Nat} {x : T3} (h : fr[k]? = some x) : stn fr k = x := by
  unfold stn
  rw [List.getD_eq_getElem?_getD, h]
  rfl
def stt (fr : List T3) (n : Int) : T3 := stn fr n.toNat
theorem stt_at {H : Hp} {f : Addr} {fr : List T3} {n : Int} (fa : FrA H f fr) (n0 : 0 ≤ n) (n1 : n < fr.length) : ∃ (ts : List Addr) (t : Addr), H f = some (.tup (ts.map V.ref)) ∧ atI (ts.map V.ref) n = some (.ref t) ∧ S3 H t (stt fr n) ∧ stt fr n ∈ fr := by
  obtain ⟨ts, hf, hl, ht⟩ := fa
  obtain ⟨k, rfl⟩ := Int.eq_ofNat_of_zero_le n0
  have k1 : k < fr.length := by omega
  have k2 : k < ts.length := by omega
  have e : stt fr (k : Int) = fr[k] := stn_at (List.getElem?_eq_getElem k1)
  refine ⟨ts, ts[k], hf, atI_nat (by rw [List.getElem?_map, List.getElem?_eq_getElem k2]; rfl), ?_, ?_⟩
  · have z := ht k _ _ (List.getElem?_eq_getElem k2) (List.getElem?_eq_getElem k1)
    rw [e]
    exact z
  · rw [e]
    exact List.getElem_mem k1
theorem take_one {α : Type} {es : List α} {i : Nat} {e : α} (h : es[i]? = some e) : es.take (i + 1) = es.take i ++ [e] := by
  rw [List.take_succ, h]
  rfl
def mrk (n : Int) : Nat := (sl ("ABCDEFGH" : Str)).getD n.toNat 0
theorem mrk_at {n : Int} (h0 : 0 ≤ n) (h1 : n < 8) : atI ("ABCDEFGH" : Str).cps.toList n = some (mrk n) ∧ (("@" : Str) == ⟨#[mrk n]⟩) = false := by
  obtain ⟨k, rfl⟩ := Int.eq_ofNat_of_zero_le h0
  have hk : k < 8 := by omega
  have e : ∀ k : Nat, k < 8 → atI ("ABCDEFGH" : Str).cps.toList (k : Int) = some (mrk (k : Int)) ∧ (("@" : Str) == ⟨#[mrk (k : Int)]⟩) = false := by
    intro k hk
    match k, hk with
    | 0, _ => exact ⟨by decide +kernel, by decide +kernel⟩
    | 1, _ => exact ⟨by decide +kernel, by decide +kernel⟩
    | 2, _ => exact ⟨by decide +kernel, by decide +kernel⟩
    | 3, _ => exact ⟨by decide +kernel, by decide +kernel⟩
    | 4, _ => exact ⟨by decide +kernel, by decide +kernel⟩
    | 5, _ => exact ⟨by decide +kernel, by decide +kernel⟩
    | 6, _ => exact ⟨by decide +kernel, by decide +kernel⟩
    | 7, _ => exact ⟨by decide +kernel, by decide +kernel⟩
  exact e k hk
/-- what a writer puts for a piece -/
def putP (p : Str) (n : Int) : Str := Txt.replace p "@" ⟨#[mrk n]⟩
theorem putP_len {p : Str} {n : Int} (h : p.length ≤ 8) : (putP p n).length ≤ 17 := by
  have z := TK.replace_len p "@" ⟨#[mrk n]⟩
  have z1 : (⟨#[mrk n]⟩ : Str).length = 1 := rfl
  unfold putP
  rw [z1] at z
  omega
/-- whether the text has this here -/
def fitB (x : Str) (i : Nat) (p : Str) (n : Int) : Bool := decide (V.str (cutS x (some (i : Int)) (some ((i : Int) + ((putP p n).length : Nat)))) = V.str (putP p n))
def fitsW (fr : List T3) (x : Str) (i : Nat) (n : Int) (k : Nat) : List E2 := ((List.range k).filter fun j => fitB x i (stn fr j).2.1 n).map fun j : Nat => (n, (j : Int))
def fitsF (fr : List T3) (x : Str) (i : Nat) : Nat → List E2
  | 0 => []
  | n + 1 => fitsF fr x i n ++ fitsW fr x i (n : Int) fr.length
theorem fitsW_succ {fr : List T3} {x : Str} {i : Nat} {n : Int} {k : Nat} {y : T3} (h : fr[k]? = some y) : fitsW fr x i n (k + 1) = fitsW fr x i n k ++ (if fitB x i y.2.1 n = true then [(n, (k : Int))] else []) := by
  unfold fitsW
  rw [List.range_succ, List.filter_append, List.map_append, List.filter_cons, stn_at h]
  split <;> rfl
theorem fitsW_len (fr : List T3) (x : Str) (i : Nat) (n : Int) (k : Nat) : (fitsW fr x i n k).length ≤ k := by
  unfold fitsW
  rw [List.length_map]
  have := List.length_filter_le (fun j => fitB x i (stn fr j).2.1 n) (List.range k)
  rw [List.length_range] at this
  exact this
theorem fitsF_len (fr : List T3) (x : Str) (i : Nat) : ∀ n, (fitsF fr x i n).length ≤ n * fr.length
  | 0 => Nat.zero_le _
  | n + 1 => by
    have a := fitsF_len fr x i n
    have b := fitsW_len fr x i (n : Int) fr.length
    show (fitsF fr x i n ++ fitsW fr x i (n : Int) fr.length).length ≤ _
    rw [List.length_append, Nat.succ_mul]
    omega
abbrev A2 (H : Hp) (t : Addr) (e : E2) : Prop := H t = some (.tup [.int e.1, .int e.2])
def At2 (H : Hp) (ts : List Addr) (es : List E2) : Prop := ts.length = es.length ∧ ∀ (i : Nat) t e, ts[i]? = some t → es[i]? = some e → A2 H t e
/-- a list of entries -/
def EsA (H : Hp) (l : Addr) (es : List E2) : Prop := ∃ ts : List Addr, H l = some (.lst (ts.map V.ref)) ∧ At2 H ts es
theorem At2.keep {H H' : Hp} {ts : List Addr} {es : List E2} (h : At2 H ts es) (k : KeepT H H') : At2 H' ts es := ⟨h.1, fun i t e h1 h2 => k _ _ (h.2 i t e h1 h2)⟩
theorem At2.snoc {H : Hp} {ts : List Addr} {es : List E2} {t : Addr} {e : E2} (h : At2 H ts es) (ht : A2 H t e) : At2 H (ts ++ [t]) (es ++ [e]) := by
  refine ⟨by rw [List.length_append, List.length_append, h.1]; rfl, fun i u v h1 h2 => ?_⟩
  by_cases c : i < ts.length
  · rw [List.getElem?_append_left c] at h1
    rw [List.getElem?_append_left (by rw [← h.1]; exact c)] at h2
    exact h.2 i u v h1 h2
  · rw [List.getElem?_append_right (by omega)] at h1
    rw [List.getElem?_append_right (by rw [← h.1]; omega)] at h2
    have i0 : i - ts.length = 0 := by
      cases z : i - ts.length with
      | zero => rfl
      | succ n => rw [z] at h1; simp at h1
    rw [i0] at h1
    rw [← h.1, i0] at h2
    cases h1
    cases h2
    exact ht
/-- the list at l, new since H0 -/
structure Fl (H0 H : Hp) (l : Addr) (es : List E2) : Prop where
  s : Same H0 H
  n : H0 l = none
  e : EsA H l es
theorem Fl.same {H0 H H' : Hp} {l : Addr} {es : List E2} (h : Fl H0 H l es) (s : Same H H') : Fl H0 H' l es := by
  obtain ⟨ts, e, a⟩ := h.e
  exact ⟨h.s.trans s, h.n, ts, s _ _ e, a.keep (Same.keepT s)⟩
theorem Fl.push {H0 H : Hp} {l t : Addr} {es : List E2} {ts : List Addr} {a b : Int} (h : Fl H0 H l es) (e : H l = some (.lst (ts.map V.ref))) (at_ : At2 H ts es) (ht : H t = none) :
    Fl H0 (upd (upd H t (.tup [.int a, .int b])) l (.lst (ts.map V.ref ++ [.ref t]))) l (es ++ [(a, b)]) := by
  have tl : t ≠ l := fun z => by rw [z, e] at ht; cases ht
  refine ⟨fun c o z => ?_, h.n, ts ++ [t], by rw [List.map_append]; exact upd_same, ?_⟩
  · rw [upd_ne (ne_of_none z h.n), upd_ne (ne_of_none (h.s _ _ z) ht)]
    exact h.s _ _ z
  · refine At2.snoc (at_.keep fun c xs z => ?_) ?_
    · rw [upd_ne (ne_of z e (fun q => by cases q)), upd_ne (ne_of_none z ht)]
      exact z
    · show upd _ l _ t = _
      rw [upd_ne tl, upd_same]
def spFits : Sp := fun vs H Q _ => ∃ (f : Addr) (fr : List T3) (last : Nat) (x : Str) (i nw : Nat), vs = [.ref f, .str x, .int (i : Int), .int (nw : Int)] ∧ FrA H f fr ∧ Frm fr last ∧ x.length ≤ 60 ∧ i ≤ 60 ∧ nw ≤ 3 ∧ ∀ H' p, Fl H H' p (fitsF fr x i nw) → Q (.ref p) H'
structure Ff (K : PySem.W.Frag) (mg : Str → Option Value) where
  S : Sf K mg
  f : Addr
  d : FuncData
  F : Fun K "fits_at" "fits_at" sFits f d
  b : Binds K d ["framing", "text", "at", "writers"] []
  m : mg "fits_at" = some (.ref f)
  ra : mg "range" = none
  cK : ∃ t, mg "MARKS" = some (.str "ABCDEFGH" t)
section
variable {P : Program} {w : World} {K : PySem.W.Frag} {mg : Str → Option Value} {base : Heap}
abbrev NF : List Str := ["framing", "text", "at", "writers", "fits", "writer", "number", "start", "piece", "goal", "put"]
theorem scFits : FnScope NF ["framing", "text", "at", "writers"] (defScope sFits) := ⟨rfl, rfl, rfl, by decide +kernel, rfl, by decide +kernel, by decide +kernel⟩
theorem ok_fits (G : Ff K mg) : FnOk P w K mg base CX0 1 G.f G.d ["framing", "text", "at", "writers"] spFits := by
  refine G.F.okT scFits (by decide +kernel) (by decide) (fun vs H Q E h => ?_) (fun cdv A outer s H vs Q E hr h => ?_)
  · obtain ⟨f, fr, last, x, i, nw, rfl, _⟩ := h
    rfl
  · obtain ⟨f, fr, last, x, at0, nw, rfl, fa, fm, x60, i60, n3, q⟩ := h
    obtain ⟨tk, eK⟩ := G.cK
    refine ⟨_, psst_cons (PST.of (ps_set (i := 4) scFits.nd rfl (Or.inl rfl) (pe_lst pa_nil)))
      (psst_cons (pst_forT PassesOwn.never rfl (pi_range1 (by rfl) G.ra (pa_cons (pv 3) pa_nil)) (pg_name (i := 5) scFits.nd rfl (Or.inl rfl))
        (CwR.psst_one (pst_forT PassesOwn.never rfl (pi_enumT (by rfl) G.S.Y.Z.en (pa_cons (pv 0) pa_nil)) (pg_tup rfl (pgs_cons (pg_name (i := 6) scFits.nd rfl (Or.inl rfl)) (pgs_cons (pg_tup rfl (pgs_cons (pg_name (i := 7) scFits.nd rfl (Or.inl rfl)) (pgs_cons (pg_name (i := 8) scFits.nd rfl (Or.inl rfl)) (pgs_cons (pg_name (i := 9) scFits.nd rfl (Or.inl rfl)) pgs_nil)))) pgs_nil)))
          (psst_cons (pst_set (i := 10) scFits.nd rfl (Or.inl rfl) (pet_replN (pv 8) (pe_glob (v := .str "ABCDEFGH") (by rfl) eK ⟨_, rfl⟩) (pv 5) (fun _ _ => rfl)))
            (PSsT.of (pss_one (ps_if (pt_cmpR op_eq (pe_slice sl_str (pv 1) (po_some (pv 2)) (po_some (pe_op op_add (pv 2) (pe_callB call_len_str (by rfl) G.S.Y.Z.T.len PySem.boot_len (pa_cons (pv 10) pa_nil))))) (pv 10) (nomark _))
              (pss_one (ps_expr (pe_bm PySem.F.plainAttrs_list PySem.F.slot_list_append PySem.F.type_list_append mt_append (pv 4) (pa_cons (pe_tup (pa_cons (pv 5) (pa_cons (pv 6) pa_nil))) pa_nil)))) pss_nil)))))))
      (PSsT.of (pss_one (ps_ret (pv 4))))), ?_⟩
    refine ⟨by decide, fun L hL => ?_⟩
    obtain ⟨ts, hf, tl, tt⟩ := id fa
    have F0 : Fl H (upd H L (.lst [])) L [] := ⟨same_upd hL, hL, [], upd_same, rfl, fun i t e z => by cases z⟩
    have p8 : ∀ (k : Nat) (y : T3), fr[k]? = some y → y.2.1.length ≤ 8 := fun k y hy => (pc_len (fm.stp _ (List.mem_of_getElem? hy)).2.2.1).2
    refine ⟨_, rfl, nw, rfl, by omega, by omega, for_it walk_range (fun i σ H' => ∃ (v5 v6 v7 v8 v9 v10 : Option V), σ = [some (.ref f), some (.str x), some (.int (at0 : Int)), some (.int (nw : Int)), some (.ref L), v5, v6, v7, v8, v9, v10] ∧ Fl H H' L (fitsF fr x at0 i))
      ⟨none, none, none, none, none, none, rfl, F0⟩ (fun _ _ _ _ _ => trivial) ?_ ?_⟩
    · rintro i y σ H2 H3 hi ⟨v5, v6, v7, v8, v9, v10, rfl, F2⟩ ⟨rfl, rfl⟩
      have hi3 : i < 3 := by omega
      have ev : (fun i : Nat => V.int (0 + (i : Int))) i = V.int (i : Int) := by
        show V.int (0 + (i : Int)) = _
        rw [Int.zero_add]
      rw [ev]
      obtain ⟨m1, m2⟩ := mrk_at (n := (i : Int)) (by omega) (by omega)
      refine ⟨_, rfl, f, _, rfl, SqT.of (F2.s _ _ hf), for_it (walk_enumT (xs := ts.map V.ref)) (fun k σ H' => ∃ (v6 v7 v8 v9 v10 : Option V), σ = [some (.ref f), some (.str x), some (.int (at0 : Int)), some (.int (nw : Int)), some (.ref L), some (.int (i : Int)), v6, v7, v8, v9, v10] ∧ Fl H H' L (fitsF fr x at0 i ++ fitsW fr x at0 (i : Int) k))
        ⟨v6, v7, v8, v9, v10, rfl, by show Fl H _ L (fitsF fr x at0 i ++ []); rw [List.append_nil]; exact F2⟩ (fun k σ H' _ ⟨_, _, _, _, _, _, z⟩ => SqT.of (z.s _ _ hf)) ?_ ?_⟩
      · rintro k y σ H4 H5 hk ⟨v6, v7, v8, v9, v10, rfl, F4⟩ ⟨T, xi, xo, rfl, nT, rfl, h1, h2⟩
        cases h1
        have h2 : (ts.map V.ref)[k]? = some xo := h2
        obtain ⟨tp, ht, rfl⟩ : ∃ tp, ts[k]? = some tp ∧ xo = .ref tp := by
          rw [List.getElem?_map] at h2
          cases e : ts[k]? with
          | none => rw [e] at h2; cases h2
          | some tp => rw [e] at h2; exact ⟨tp, rfl, (Option.some.inj h2).symm⟩
        have kl : k < fr.length := by rw [← tl]; exact (List.getElem?_eq_some_iff.mp ht).1
        obtain ⟨st, hst⟩ : ∃ st, fr[k]? = some st := ⟨fr[k], List.getElem?_eq_getElem kl⟩
        have h3 := tt k tp st ht hst
        have uT := same_upd (o := HO.tup [V.int (k : Int), V.ref tp]) nT
        have F5 := F4.same uT
        have h3' := F5.s _ _ h3
        have pl := p8 k st hst
        have pl2 := putP_len (n := (i : Int)) pl
        refine ⟨T, _, rfl, SqT.of upd_same, rfl, _, _, rfl, _, _, rfl, tp, _, rfl, SqT.of h3', rfl, _, _, rfl, _, _, rfl, _, _, rfl, rfl, rfl, ?_⟩
        refine ⟨_, rfl, st.2.1, rfl, _, rfl, _, mrk (i : Int), (i : Int), rfl, rfl, (by decide +kernel), m1, m2, by omega, ?_⟩
        refine ⟨_, rfl, _, rfl, _, rfl, _, rfl, _, rfl, putP st.2.1 (i : Int), rfl, by rw [sizeLine_eq]; omega, _, _, rfl, rfl, _, rfl, x, rfl, by rw [sizeLine_eq]; omega, _, rfl, rfl, _, rfl, ?_⟩
        rw [fitsW_succ hst]
        obtain ⟨t5, e5, a5⟩ := F5.e
        have b5 : t5.length ≤ 100 := by
          rw [a5.1, List.length_append]
          have z1 := fitsF_len fr x at0 i
          have z2 := fitsW_len fr x at0 (i : Int) k
          have l1 := fm.l1
          have z3 : i * fr.length ≤ 2 * 16 := Nat.mul_le_mul (by omega) l1
          omega
        have eb : decide (V.str (cutS x (some (at0 : Int)) (some ((at0 : Int) + ((putP st.2.1 (i : Int)).length : Nat)))) = V.str (putP st.2.1 (i : Int))) = fitB x at0 st.2.1 (i : Int) := rfl
        by_cases c : fitB x at0 st.2.1 (i : Int) = true
        · rw [if_pos c]
          refine iteT' (eb.trans c) ?_
          refine ⟨_, rfl, .inl ⟨rfl, _, SqL.of e5⟩, _, rfl, _, rfl, (by show 2 ≤ sizeLine; decide), fun tp2 htp2 => ⟨L, t5.map V.ref, _, rfl, rfl, same_upd htp2 _ _ e5, by rw [List.length_map, sizeLine_eq]; omega, ?_⟩⟩
          have z := F5.push (a := (i : Int)) (b := (k : Int)) e5 a5 htp2
          rw [List.append_assoc] at z
          exact ⟨_, _, _, _, _, rfl, z⟩
        · rw [if_neg c, List.append_nil]
          refine iteF' (eb.trans (eq_false_of_ne_true c)) ?_
          exact ⟨_, _, _, _, _, rfl, F5⟩
      · rintro σ H4 ⟨v6, v7, v8, v9, v10, rfl, F4⟩
        rw [List.length_map, tl] at F4
        exact ⟨_, _, _, _, _, _, rfl, F4⟩
    · rintro σ H2 ⟨v5, v6, v7, v8, v9, v10, rfl, F2⟩
      rw [Int.toNat_natCast] at F2
      exact ⟨_, rfl, q H2 L F2⟩
end
end K37

set_option Elab.async false
set_option linter.all false
set_option maxRecDepth 100000
set_option maxHeartbeats 8000000
/-! The traces of a text, as lists. -/
namespace K37
open PySem L2 L2.EV
theorem replL_one {a m : Nat} : ∀ l : List Nat, StrLaws.replL [a] [m] l = l.map fun c => if c = a then m else c
  | [] => StrLaws.replL_nil
  | c :: r => by
    by_cases h : c = a
    · subst h
      rw [StrLaws.replL_hit (by simp) (by simp)]
      show [m] ++ StrLaws.replL [c] [m] ((c :: r).drop 1) = _
      rw [List.drop_succ_cons, List.drop_zero, replL_one r, List.map_cons, if_pos rfl]
      rfl
    · rw [StrLaws.replL_miss (by simpa using h), replL_one r, List.map_cons, if_neg h]
theorem putP_sl (p : Str) (n : Int) : sl (putP p n) = (sl p).map fun c => if c = 64 then mrk n else c := by
  have e : sl (putP p n) = StrLaws.replL [64] [mrk n] (sl p) := StrLaws.replace_list (by decide)
  rw [e, replL_one]
theorem putP_length (p : Str) (n : Int) : (putP p n).length = p.length := by
  rw [len_sl, putP_sl, List.length_map, ← len_sl]
theorem cutS_len {x : Str} {i k : Nat} : (cutS x (some (i : Int)) (some ((i : Int) + (k : Nat)))).length = min (i + k) x.length - min i x.length := by
  have e : ((i : Int) + (k : Nat)) = ((i + k : Nat) : Int) := by omega
  show ((((x.cps.toList.drop _).take _).toArray).size) = _
  rw [List.size_toArray, List.length_take, List.length_drop, e, HT.sIx_nat, HT.sIx_nat]
  have l : x.cps.toList.length = x.length := by simp [Str.length]
  rw [l]
  omega
/-- what fits ends within the text -/
theorem fit_end {x : Str} {i : Nat} {p : Str} {n : Int} (h : fitB x i p n = true) (h1 : 1 ≤ p.length) : i + p.length ≤ x.length := by
  have e : V.str (cutS x (some (i : Int)) (some ((i : Int) + ((putP p n).length : Nat)))) = V.str (putP p n) := of_decide_eq_true h
  have e2 : cutS x (some (i : Int)) (some ((i : Int) + ((putP p n).length : Nat))) = putP p n := by injection e
  have e3 := congrArg Str.length e2
  rw [cutS_len, putP_length] at e3
  omega
abbrev Trip := Nat × Sx × E2
abbrev Layer := List (Sx × List Trip)
def putL : Layer → Sx → Trip → Layer
  | [], k, t => [(k, [t])]
  | e :: L, k, t => if e.1 = k then (e.1, e.2 ++ [t]) :: L else e :: putL L k t
theorem putL_cases (k : Sx) (t : Trip) : ∀ L : Layer, (∃ (i : Nat) (e : Sx × List Trip), L[i]? = some e ∧ e.1 = k ∧ putL L k t = L.set i (k, e.2 ++ [t])) ∨ (¬ k ∈ L.map (·.1) ∧ putL L k t = L ++ [(k, [t])])
  | [] => .inr ⟨by simp, rfl⟩
  | e :: L => by
    by_cases h : e.1 = k
    · refine .inl ⟨0, e, rfl, h, ?_⟩
      show (if e.1 = k then (e.1, e.2 ++ [t]) :: L else e :: putL L k t) = (k, e.2 ++ [t]) :: L
      rw [if_pos h, h]
    · have hp : putL (e :: L) k t = e :: putL L k t := if_neg h
      rcases putL_cases k t L with ⟨i, e2, h1, h2, h3⟩ | ⟨h1, h2⟩
      · refine .inl ⟨i + 1, e2, by simpa using h1, h2, ?_⟩
        rw [hp, h3]
        rfl
      · refine .inr ⟨fun z => ?_, by rw [hp, h2]; rfl⟩
        rcases List.mem_cons.mp (show k ∈ e.1 :: L.map (·.1) from z) with z | z
        · exact h z.symm
        · exact h1 z
def addT (Ls : List Layer) (j : Nat) (k : Sx) (t : Trip) : List Layer := Ls.set j (putL (Ls.getD j []) k t)
/-- where a writer stands -/
def stdS (s : Sx) (n : Int) : Int := s.1.getD n.toNat 0
def perE (fr : List T3) (i : Nat) (s : Sx) (Ls : List Layer) (e : E2) : List Layer :=
  if (stt fr e.2).1 = stdS s e.1 then addT Ls (i + (stt fr e.2).2.1.length) (behS s e.1 (stt fr e.2)) (i, s, e) else Ls
def perS (fr : List T3) (x : Str) (nw i : Nat) (Ls : List Layer) (s : Sx) : List Layer := (fitsF fr x i nw).foldl (perE fr i s) Ls
def perI (fr : List T3) (x : Str) (nw : Nat) (Ls : List Layer) (i : Nat) : List Layer := ((Ls.getD i []).map (·.1)).foldl (perS fr x nw i) Ls
def init0 (n nw : Nat) : List Layer := (List.replicate (n + 1) []).set 0 [((List.replicate nw 0, .no), [])]
def trF (fr : List T3) (x : Str) (nw : Nat) (i : Nat) : List Layer := (List.range i).foldl (perI fr x nw) (init0 x.length nw)
/-- a state of so many writers -/
structure StOk (nw last : Nat) (s : Sx) : Prop where
  l : s.1.length = nw
  b : ∀ q ∈ s.1, 0 ≤ q ∧ q ≤ last
  m : s.2 = .no ∨ s.2 = .mix ∨ ∃ w : Nat, w < nw ∧ s.2 = .one (w : Int)
structure EOk (fr : List T3) (x : Str) (nw i : Nat) (e : E2) : Prop where
  a0 : 0 ≤ e.1
  a1 : e.1 < nw
  b0 : 0 ≤ e.2
  b1 : e.2 < fr.length
  f : fitB x i (stt fr e.2).2.1 e.1 = true
theorem fitsW_ok {fr : List T3} {x : Str} {i nw : Nat} {n : Nat} (hn : n < nw) {e : E2} (h : e ∈ fitsW fr x i (n : Int) fr.length) : EOk fr x nw i e := by
  unfold fitsW at h
  obtain ⟨j, hj, rfl⟩ := List.mem_map.mp h
  obtain ⟨h1, h2⟩ := List.mem_filter.mp hj
  have h3 := List.mem_range.mp h1
  exact ⟨Int.natCast_nonneg _, Int.ofNat_lt.mpr hn, Int.natCast_nonneg _, Int.ofNat_lt.mpr h3, h2⟩
theorem fitsF_ok {fr : List T3} {x : Str} {i nw : Nat} : ∀ {k : Nat}, k ≤ nw → ∀ e ∈ fitsF fr x i k, EOk fr x nw i e
  | 0, _, e, h => by cases h
  | k + 1, hk, e, h => by
    rcases List.mem_append.mp (show e ∈ fitsF fr x i k ++ fitsW fr x i (k : Int) fr.length from h) with h | h
    · exact fitsF_ok (by omega) e h
    · exact fitsW_ok (by omega) h
/-- what a triple in a layer is -/
structure TOk (fr : List T3) (x : Str) (nw last : Nat) (Ls : List Layer) (j : Nat) (k : Sx) (t : Trip) : Prop where
  e : EOk fr x nw t.1 t.2.2
  s : ∃ L, Ls[t.1]? = some L ∧ t.2.1 ∈ L.map (·.1)
  st : (stt fr t.2.2.2).1 = stdS t.2.1 t.2.2.1
  b : k = behS t.2.1 t.2.2.1 (stt fr t.2.2.2)
  j : j = t.1 + (stt fr t.2.2.2).2.1.length
structure Wl (fr : List T3) (x : Str) (nw last : Nat) (Ls : List Layer) : Prop where
  len : Ls.length = x.length + 1
  so : ∀ (j : Nat) L, Ls[j]? = some L → ∀ e ∈ L, StOk nw last e.1
  to : ∀ (j : Nat) L, Ls[j]? = some L → ∀ e ∈ L, ∀ t ∈ e.2, TOk fr x nw last Ls j e.1 t
  nd : ∀ (j : Nat) L, Ls[j]? = some L → (L.map (·.1)).Nodup
  ne : ∀ (j : Nat) L, Ls[j]? = some L → 1 ≤ j → ∀ e ∈ L, e.2 ≠ []
/-- how many triples there are -/
def totL (L : Layer) : Nat := (L.map fun e => e.2.length).sum
def tot (Ls : List Layer) : Nat := (Ls.map totL).sum
theorem totL_put (k : Sx) (t : Trip) : ∀ L : Layer, totL (putL L k t) = totL L + 1
  | [] => rfl
  | e :: L => by
    by_cases h : e.1 = k
    · have hp : putL (e :: L) k t = (e.1, e.2 ++ [t]) :: L := if_pos h
      rw [hp]
      simp only [totL, List.map_cons, List.sum_cons, List.length_append, List.length_cons, List.length_nil]
      omega
    · have hp : putL (e :: L) k t = e :: putL L k t := if_neg h
      have ih := totL_put k t L
      rw [hp]
      unfold totL at ih ⊢
      rw [List.map_cons, List.sum_cons, ih, List.map_cons, List.sum_cons]
      omega
theorem tot_set : ∀ {Ls : List Layer} {j : Nat} {L L2 : Layer}, Ls[j]? = some L → totL L2 = totL L + 1 → tot (Ls.set j L2) = tot Ls + 1
  | [], _, _, _, h, _ => by simp at h
  | L0 :: Ls, 0, L, L2, h, e => by
    have h : L0 = L := by simpa using h
    subst h
    show ((L2 :: Ls).map totL).sum = ((L0 :: Ls).map totL).sum + 1
    rw [List.map_cons, List.map_cons, List.sum_cons, List.sum_cons, e]
    omega
  | L0 :: Ls, j + 1, L, L2, h, e => by
    have ih := tot_set (Ls := Ls) (j := j) (by simpa using h) e
    show ((L0 :: Ls.set j L2).map totL).sum = ((L0 :: Ls).map totL).sum + 1
    unfold tot at ih
    rw [List.map_cons, List.map_cons, List.sum_cons, List.sum_cons, ih]
    omega
theorem len_totL : ∀ {L : Layer} {e : Sx × List Trip}, e ∈ L → e.2.length ≤ totL L
  | [], _, h => by cases h
  | a :: L, e, h => by
    unfold totL
    rw [List.map_cons, List.sum_cons]
    rcases List.mem_cons.mp h with rfl | h
    · omega
    · have := len_totL h
      unfold totL at this
      omega
theorem totL_tot : ∀ {Ls : List Layer} {L : Layer}, L ∈ Ls → totL L ≤ tot Ls
  | [], _, h => by cases h
  | a :: Ls, L, h => by
    unfold tot
    rw [List.map_cons, List.sum_cons]
    rcases List.mem_cons.mp h with rfl | h
    · omega
    · have := totL_tot h
      unfold tot at this
      omega
theorem getD_at {Ls : List Layer} {j : Nat} {L : Layer} (h : Ls[j]? = some L) : Ls.getD j [] = L := by
  rw [List.getD_eq_getElem?_getD, h]
  rfl
theorem addT_at {Ls : List Layer} {j : Nat} {L : Layer} (h : Ls[j]? = some L) (k : Sx) (t : Trip) : addT Ls j k t = Ls.set j (putL L k t) := by
  unfold addT
  rw [getD_at h]
theorem set_at {α : Type} {l : List α} {j i : Nat} {a b : α} (h : (l.set j a)[i]? = some b) : (i = j ∧ b = a) ∨ (i ≠ j ∧ l[i]? = some b) := by
  by_cases e : j = i
  · subst e
    have hl : j < l.length := by
      have := (List.getElem?_eq_some_iff.mp h).1
      simpa using this
    rw [List.getElem?_set_self hl] at h
    exact .inl ⟨rfl, (Option.some.inj h).symm⟩
  · rw [List.getElem?_set_ne e] at h
    exact .inr ⟨fun z => e z.symm, h⟩
theorem keys_put {L : Layer} {k : Sx} {t : Trip} {s : Sx} (h : s ∈ L.map (·.1)) : s ∈ (putL L k t).map (·.1) := by
  rcases putL_cases k t L with ⟨i, e, h1, h2, h3⟩ | ⟨_, h3⟩
  · rw [h3, List.map_set]
    have hi : (L.map (·.1))[i]? = some k := by rw [List.getElem?_map, h1, ← h2]; rfl
    have : (L.map (·.1)).set i k = L.map (·.1) := by
      apply List.ext_getElem?
      intro m
      by_cases c : i = m
      · subst c
        rw [List.getElem?_set_self (List.getElem?_eq_some_iff.mp hi).1, hi]
      · rw [List.getElem?_set_ne c]
    show s ∈ (L.map (·.1)).set i k
    rw [this]
    exact h
  · rw [h3, List.map_append]
    exact List.mem_append_left _ h
theorem Wl.keyed {fr : List T3} {x : Str} {nw last : Nat} {Ls : List Layer} {j : Nat} {L2 : Layer} {k : Sx} {t : Trip} (hL : Ls[j]? = some L2) {i : Nat} {s : Sx} (h : ∃ L, Ls[i]? = some L ∧ s ∈ L.map (·.1)) : ∃ L, (Ls.set j (putL L2 k t))[i]? = some L ∧ s ∈ L.map (·.1) := by
  obtain ⟨L, e, m⟩ := h
  by_cases c : j = i
  · subst c
    rw [hL] at e
    cases e
    exact ⟨_, by rw [List.getElem?_set_self (List.getElem?_eq_some_iff.mp hL).1], keys_put m⟩
  · exact ⟨L, by rw [List.getElem?_set_ne c]; exact e, m⟩
theorem TOk.set {fr : List T3} {x : Str} {nw last : Nat} {Ls : List Layer} {j i : Nat} {L2 : Layer} {k s : Sx} {t u : Trip} (hL : Ls[j]? = some L2) (h : TOk fr x nw last Ls i s u) : TOk fr x nw last (Ls.set j (putL L2 k t)) i s u :=
  ⟨h.e, Wl.keyed (fr := fr) (x := x) (nw := nw) (last := last) hL h.s, h.st, h.b, h.j⟩
/-- one triple more -/
theorem Wl.add {fr : List T3} {x : Str} {nw last : Nat} {Ls : List Layer} {j : Nat} {L : Layer} {k : Sx} {t : Trip} (W : Wl fr x nw last Ls) (hL : Ls[j]? = some L) (sk : StOk nw last k) (ht : TOk fr x nw last Ls j k t) : Wl fr x nw last (Ls.set j (putL L k t)) := by
  have mem : ∀ e ∈ putL L k t, (e ∈ L) ∨ (e.1 = k ∧ (e.2 = [t] ∨ ∃ e0 ∈ L, e0.1 = k ∧ e.2 = e0.2 ++ [t])) := by
    intro e he
    rcases putL_cases k t L with ⟨i, e0, h1, h2, h3⟩ | ⟨_, h3⟩
    · rw [h3] at he
      rcases List.mem_or_eq_of_mem_set he with h | h
      · exact .inl h
      · rw [h]
        exact .inr ⟨rfl, .inr ⟨e0, List.mem_of_getElem? h1, h2, rfl⟩⟩
    · rw [h3] at he
      rcases List.mem_append.mp he with h | h
      · exact .inl h
      · rw [List.mem_singleton.mp h]
        exact .inr ⟨rfl, .inl rfl⟩
  refine ⟨by rw [List.length_set]; exact W.len, fun i L2 h e he => ?_, fun i L2 h e he u hu => ?_, fun i L2 h => ?_, fun i L2 h h1 e he => ?_⟩
  · rcases set_at h with ⟨rfl, rfl⟩ | ⟨_, h⟩
    · rcases mem e he with z | ⟨z, _⟩
      · exact W.so _ _ hL e z
      · rw [z]; exact sk
    · exact W.so _ _ h e he
  · rcases set_at h with ⟨rfl, rfl⟩ | ⟨_, h⟩
    · rcases mem e he with z | ⟨z, z2⟩
      · exact (W.to _ _ hL e z u hu).set hL
      · rw [z]
        rcases z2 with z2 | ⟨e0, m0, z0, z2⟩
        · rw [z2] at hu
          rw [List.mem_singleton.mp hu]
          exact ht.set hL
        · rw [z2] at hu
          rcases List.mem_append.mp hu with hu | hu
          · rw [← z0]
            exact (W.to _ _ hL e0 m0 u hu).set hL
          · rw [List.mem_singleton.mp hu]
            exact ht.set hL
    · exact (W.to _ _ h e he u hu).set hL
  · rcases set_at h with ⟨rfl, rfl⟩ | ⟨_, h⟩
    · rcases putL_cases k t L with ⟨m, e0, h1, h2, h3⟩ | ⟨h1, h3⟩
      · have e : (putL L k t).map (·.1) = L.map (·.1) := by
          rw [h3, List.map_set]
          apply List.ext_getElem?
          intro n
          by_cases c : m = n
          · subst c
            have hi : (L.map (·.1))[m]? = some k := by rw [List.getElem?_map, h1, ← h2]; rfl
            rw [List.getElem?_set_self (List.getElem?_eq_some_iff.mp hi).1, hi]
          · rw [List.getElem?_set_ne c]
        rw [e]
        exact W.nd _ _ hL
      · rw [h3, List.map_append]
        refine List.nodup_append.mpr ⟨W.nd _ _ hL, by simp, fun a ha b hb => ?_⟩
        rw [List.mem_singleton.mp (show b ∈ [k] from hb)]
        exact fun z => h1 (z ▸ ha)
    · exact W.nd _ _ h
  · rcases set_at h with ⟨rfl, rfl⟩ | ⟨_, h⟩
    · rcases mem e he with z | ⟨_, z | ⟨e0, _, _, z⟩⟩
      · exact W.ne _ _ hL h1 e z
      · rw [z]; simp
      · rw [z]; simp
    · exact W.ne _ _ h h1 e he
/-! how many states there are -/
def allP (last : Nat) : Nat → List (List Int)
  | 0 => [[]]
  | n + 1 => (List.range (last + 1)).flatMap fun q : Nat => (allP last n).map fun r => (q : Int) :: r
theorem allP_mem {last : Nat} : ∀ (n : Nat) (l : List Int), l.length = n → (∀ q ∈ l, 0 ≤ q ∧ q ≤ last) → l ∈ allP last n
  | 0, [], _, _ => List.mem_singleton.mpr rfl
  | n + 1, q :: r, h, hq => by
    obtain ⟨a, b⟩ := hq q (List.mem_cons_self ..)
    obtain ⟨k, rfl⟩ := Int.eq_ofNat_of_zero_le a
    exact List.mem_flatMap.mpr ⟨k, List.mem_range.mpr (by omega), List.mem_map.mpr ⟨r, allP_mem n r (by simpa using h) fun p hp => hq p (List.mem_cons_of_mem _ hp), rfl⟩⟩
theorem allP_len {last : Nat} : ∀ n : Nat, (allP last n).length = (last + 1) ^ n
  | 0 => rfl
  | n + 1 => by
    show ((List.range (last + 1)).flatMap fun q : Nat => (allP last n).map fun r => (q : Int) :: r).length = _
    have e : ∀ l : List Nat, (l.flatMap fun q : Nat => (allP last n).map fun r => (q : Int) :: r).length = l.length * (last + 1) ^ n := by
      intro l
      induction l with
      | nil => rw [List.flatMap_nil]; simp
      | cons a l ih =>
        rw [List.flatMap_cons, List.length_append, ih, List.length_map, allP_len n, List.length_cons, Nat.succ_mul]
        omega
    rw [e, List.length_range, Nat.pow_succ, Nat.mul_comm]
def allM (nw : Nat) : List Mk := .no :: .mix :: (List.range nw).map fun w : Nat => .one (w : Int)
theorem layer_few {nw last : Nat} {L : Layer} (h3 : nw ≤ 3) (h5 : last ≤ 5) (nd : (L.map (·.1)).Nodup) (ok : ∀ e ∈ L, StOk nw last e.1) : L.length ≤ 1080 := by
  have sub : ∀ s ∈ L.map (·.1), s ∈ (allP last nw).flatMap fun p => (allM nw).map fun m => (p, m) := by
    intro s hs
    obtain ⟨e, he, rfl⟩ := List.mem_map.mp hs
    have o := ok e he
    refine List.mem_flatMap.mpr ⟨e.1.1, allP_mem nw _ o.l o.b, List.mem_map.mpr ⟨e.1.2, ?_, rfl⟩⟩
    unfold allM
    rcases o.m with z | z | ⟨w, hw, z⟩
    · rw [z]; exact List.mem_cons_self ..
    · rw [z]; exact List.mem_cons_of_mem _ (List.mem_cons_self ..)
    · rw [z]; exact List.mem_cons_of_mem _ (List.mem_cons_of_mem _ (List.mem_map.mpr ⟨w, List.mem_range.mpr hw, rfl⟩))
  have a := List.Nodup.length_le_of_subset nd sub
  have e : ∀ l : List (List Int), (l.flatMap fun p => (allM nw).map fun m => (p, m)).length = l.length * (nw + 2) := by
    intro l
    induction l with
    | nil => rw [List.flatMap_nil]; simp
    | cons p l ih =>
      rw [List.flatMap_cons, List.length_append, ih, List.length_map, List.length_cons, Nat.succ_mul]
      have : (allM nw).length = nw + 2 := by simp [allM]
      omega
  rw [e, allP_len, List.length_map] at a
  have p1 : (last + 1) ^ nw ≤ 6 ^ nw := Nat.pow_le_pow_left (by omega) nw
  have p2 : 6 ^ nw ≤ 6 ^ 3 := Nat.pow_le_pow_right (by decide) h3
  have p3 : (6 : Nat) ^ 3 = 216 := by decide
  have p4 : (last + 1) ^ nw * (nw + 2) ≤ 216 * 5 := Nat.mul_le_mul (by omega) (by omega)
  omega
end K37

set_option Elab.async false
set_option linter.all false
set_option maxRecDepth 100000
set_option maxHeartbeats 8000000
/-! The layers of traces in the heap. -/
namespace K37
open PySem L2 L2.EV
def kvF (ks : List Sx) (a : List Addr) : List (NestedKey × V) := (ks.zip a).map fun z => (keyS z.1, V.ref z.2)
theorem kvF_len {ks : List Sx} {a : List Addr} (h : a.length = ks.length) : (kvF ks a).length = ks.length := by
  unfold kvF
  rw [List.length_map, List.length_zip, h, Nat.min_self]
theorem kvF_snoc {k : Sx} {b : Addr} : ∀ {ks : List Sx} {a : List Addr}, a.length = ks.length → kvF (ks ++ [k]) (a ++ [b]) = kvF ks a ++ [(keyS k, .ref b)]
  | [], [], _ => rfl
  | [], _ :: _, h => by cases h
  | _ :: _, [], h => by cases h
  | s :: ks, c :: a, h => by
    show (keyS s, V.ref c) :: kvF (ks ++ [k]) (a ++ [b]) = (keyS s, V.ref c) :: (kvF ks a ++ [(keyS k, .ref b)])
    rw [kvF_snoc (by simpa using h)]
theorem kvF_none {k : Sx} : ∀ {ks : List Sx} {a : List Addr}, ¬ k ∈ ks → valV (kvF ks a) (keyS k) = none
  | [], _, _ => rfl
  | _ :: _, [], _ => rfl
  | s :: ks, c :: a, h => by
    show valV ((keyS s, V.ref c) :: kvF ks a) (keyS k) = none
    rw [valV_neg (fun z => h (by rw [keyS_inj z]; exact List.mem_cons_self ..))]
    exact kvF_none fun z => h (List.mem_cons_of_mem _ z)
theorem kvF_at {k : Sx} {b : Addr} : ∀ {ks : List Sx} {a : List Addr} {i : Nat}, ks.Nodup → ks[i]? = some k → a[i]? = some b → valV (kvF ks a) (keyS k) = some (.ref b)
  | [], _, _, _, h, _ => by simp at h
  | _ :: _, [], _, _, _, h => by simp at h
  | s :: ks, c :: a, 0, _, h1, h2 => by
    have h1 : s = k := by simpa using h1
    have h2 : c = b := by simpa using h2
    show valV ((keyS s, V.ref c) :: kvF ks a) (keyS k) = _
    rw [valV_pos (by show keyS s = keyS k; rw [h1]), h2]
  | s :: ks, c :: a, i + 1, nd, h1, h2 => by
    have h1 : ks[i]? = some k := by simpa using h1
    obtain ⟨n1, n2⟩ := List.nodup_cons.mp nd
    show valV ((keyS s, V.ref c) :: kvF ks a) (keyS k) = _
    rw [valV_neg (fun z => n1 (by rw [keyS_inj z]; exact List.mem_of_getElem? h1))]
    exact kvF_at n2 h1 (by simpa using h2)
/-- a triple at t -/
def TrA (H : Hp) (t : Addr) (u : Trip) : Prop := ∃ sa ea, H t = some (.tup [.int (u.1 : Int), .ref sa, .ref ea]) ∧ StA H sa u.2.1 ∧ A2 H ea u.2.2
theorem TrA.keep {H H' : Hp} {t : Addr} {u : Trip} (h : TrA H t u) (k : KeepT H H') : TrA H' t u := let ⟨sa, ea, a, b, c⟩ := h; ⟨sa, ea, k _ _ a, b.keep k, k _ _ c⟩
def AtT (H : Hp) (ts : List Addr) (us : List Trip) : Prop := ts.length = us.length ∧ ∀ (i : Nat) t u, ts[i]? = some t → us[i]? = some u → TrA H t u
theorem AtT.keep {H H' : Hp} {ts : List Addr} {us : List Trip} (h : AtT H ts us) (k : KeepT H H') : AtT H' ts us := ⟨h.1, fun i t u h1 h2 => (h.2 i t u h1 h2).keep k⟩
theorem AtT.snoc {H : Hp} {ts : List Addr} {us : List Trip} {t : Addr} {u : Trip} (h : AtT H ts us) (ht : TrA H t u) : AtT H (ts ++ [t]) (us ++ [u]) := by
  refine ⟨by rw [List.length_append, List.length_append, h.1]; rfl, fun i v e h1 h2 => ?_⟩
  by_cases c : i < ts.length
  · rw [List.getElem?_append_left c] at h1
    rw [List.getElem?_append_left (by rw [← h.1]; exact c)] at h2
    exact h.2 i v e h1 h2
  · rw [List.getElem?_append_right (by omega)] at h1
    rw [List.getElem?_append_right (by rw [← h.1]; omega)] at h2
    have i0 : i - ts.length = 0 := by
      cases z : i - ts.length with
      | zero => rfl
      | succ n => rw [z] at h1; simp at h1
    rw [i0] at h1
    rw [← h.1, i0] at h2
    cases h1
    cases h2
    exact ht
def TrsA (H : Hp) (b : Addr) (us : List Trip) : Prop := ∃ ts : List Addr, H b = some (.lst (ts.map V.ref)) ∧ AtT H ts us
theorem TrsA.keep {H H' : Hp} {b : Addr} {us : List Trip} (h : TrsA H b us) (e : H' b = H b) (k : KeepT H H') : TrsA H' b us := let ⟨ts, a, c⟩ := h; ⟨ts, e.trans a, c.keep k⟩
theorem trs_one {H : Hp} {b p2 : Addr} {u : Trip} (e : H b = some (.lst [V.ref p2])) (t : TrA H p2 u) : TrsA H b [u] := by
  refine ⟨[p2], e, rfl, fun i v z h1 h2 => ?_⟩
  cases i with
  | zero =>
    have h1 : p2 = v := by simpa using h1
    have h2 : u = z := by simpa using h2
    subst h1 h2
    exact t
  | succ i => simp at h1
structure Ly (P : Program) (w : World) (H0 H : Hp) (p : Addr) (Ls : List Layer) (ds : List Addr) (as : List (List Addr)) : Prop where
  s : Same H0 H
  hp : H p = some (.lst (ds.map V.ref))
  np : H0 p = none
  dl : ds.length = Ls.length
  al : as.length = Ls.length
  nd : ds.Nodup
  n0 : ∀ d ∈ ds, H0 d = none
  dd : ∀ (j : Nat) d L a, ds[j]? = some d → Ls[j]? = some L → as[j]? = some a → a.length = L.length ∧ DN P w false H d (kvF (L.map (·.1)) a)
  ll : ∀ (j : Nat) L a (i : Nat) b e, Ls[j]? = some L → as[j]? = some a → a[i]? = some b → L[i]? = some e → TrsA H b e.2 ∧ H0 b = none
  inj : ∀ (j i j' i' : Nat) a a' b, as[j]? = some a → a[i]? = some b → as[j']? = some a' → a'[i']? = some b → j = j' ∧ i = i'
  pl : ∀ (j i : Nat) a b, as[j]? = some a → a[i]? = some b → b ≠ p
section
variable {P : Program} {w : World} {H0 H H' : Hp} {p : Addr} {Ls : List Layer} {ds : List Addr} {as : List (List Addr)}
theorem dn_tup {B : Bool} {d : Addr} {kvs : List (NestedKey × V)} (z : DN P w B H d kvs) : ∀ xs, H d ≠ some (.tup xs) := fun xs q => by
  obtain ⟨_, _, e, _⟩ := z
  rw [e] at q
  cases q
theorem dn_lst {B : Bool} {d : Addr} {kvs : List (NestedKey × V)} (z : DN P w B H d kvs) : ∀ xs, H d ≠ some (.lst xs) := fun xs q => by
  obtain ⟨_, _, e, _⟩ := z
  rw [e] at q
  cases q
theorem dn_some {B : Bool} {d : Addr} {kvs : List (NestedKey × V)} (z : DN P w B H d kvs) : ∃ o, H d = some o := let ⟨_, _, e, _⟩ := z; ⟨_, e⟩
/-- where the lists stand there are entries -/
theorem Ly.ent (y : Ly P w H0 H p Ls ds as) {j i : Nat} {a : List Addr} {b : Addr} (ha : as[j]? = some a) (hb : a[i]? = some b) : ∃ (d : Addr) (L : Layer) (e : Sx × List Trip), ds[j]? = some d ∧ Ls[j]? = some L ∧ L[i]? = some e := by
  have hj := (List.getElem?_eq_some_iff.mp ha).1
  have j1 : j < Ls.length := by rw [← y.al]; exact hj
  have j2 : j < ds.length := by rw [y.dl]; exact j1
  have h1 := (y.dd j _ _ _ (List.getElem?_eq_getElem j2) (List.getElem?_eq_getElem j1) ha).1
  have hi := (List.getElem?_eq_some_iff.mp hb).1
  exact ⟨_, _, _, List.getElem?_eq_getElem j2, List.getElem?_eq_getElem j1, List.getElem?_eq_getElem (by omega)⟩
theorem Ly.keep (y : Ly P w H0 H p Ls ds as) (s : Same H0 H') (k : KeepT H H') (hp : H' p = H p) (hd : ∀ d ∈ ds, H' d = H d) (hl : ∀ (j i : Nat) a b, as[j]? = some a → a[i]? = some b → H' b = H b) : Ly P w H0 H' p Ls ds as :=
  ⟨s, hp.trans y.hp, y.np, y.dl, y.al, y.nd, y.n0, fun j d L a h1 h2 h3 => let ⟨z1, z2⟩ := y.dd j d L a h1 h2 h3; ⟨z1, z2.keep (hd d (List.mem_of_getElem? h1)) k⟩,
    fun j L a i b e h1 h2 h3 h4 => let ⟨z1, z2⟩ := y.ll j L a i b e h1 h2 h3 h4; ⟨z1.keep (hl j i a b h2 h3) k, z2⟩, y.inj, y.pl⟩
theorem Ly.dsome (y : Ly P w H0 H p Ls ds as) {d : Addr} (hd : d ∈ ds) : ∃ (j : Nat) (L : Layer) (a : List Addr), ds[j]? = some d ∧ Ls[j]? = some L ∧ as[j]? = some a ∧ a.length = L.length ∧ DN P w false H d (kvF (L.map (·.1)) a) := by
  obtain ⟨j, hj⟩ := List.mem_iff_getElem?.mp hd
  have j2 := (List.getElem?_eq_some_iff.mp hj).1
  have j1 : j < Ls.length := by rw [← y.dl]; exact j2
  have j3 : j < as.length := by rw [y.al]; exact j1
  obtain ⟨z1, z2⟩ := y.dd j d _ _ hj (List.getElem?_eq_getElem j1) (List.getElem?_eq_getElem j3)
  exact ⟨j, _, _, hj, List.getElem?_eq_getElem j1, List.getElem?_eq_getElem j3, z1, z2⟩
theorem Ly.lsome (y : Ly P w H0 H p Ls ds as) {j i : Nat} {a : List Addr} {b : Addr} (ha : as[j]? = some a) (hb : a[i]? = some b) : ∃ ts : List Addr, H b = some (.lst (ts.map V.ref)) := by
  obtain ⟨d, L, e, h1, h2, h3⟩ := y.ent ha hb
  obtain ⟨⟨ts, z, _⟩, _⟩ := y.ll j L a i b e h2 ha hb h3
  exact ⟨ts, z⟩
theorem Ly.same (y : Ly P w H0 H p Ls ds as) (s : Same H H') : Ly P w H0 H' p Ls ds as := by
  refine y.keep (y.s.trans s) (Same.keepT s) (by rw [s _ _ y.hp, y.hp]) (fun d hd => ?_) fun j i a b h1 h2 => ?_
  · obtain ⟨_, _, _, _, _, _, _, z⟩ := y.dsome hd
    obtain ⟨o, e⟩ := dn_some z
    rw [s _ _ e, e]
  · obtain ⟨ts, e⟩ := y.lsome h1 h2
    rw [s _ _ e, e]
/-- one triple more in a list that is there -/
theorem Ly.old {j i : Nat} {L : Layer} {a : List Addr} {b : Addr} {e : Sx × List Trip} {ts : List Addr} {t : Addr} {u : Trip} (y : Ly P w H0 H p Ls ds as) (hL : Ls[j]? = some L) (ha : as[j]? = some a) (hb : a[i]? = some b) (he : L[i]? = some e)
    (hl : H b = some (.lst (ts.map V.ref))) (hat : AtT H ts e.2) (ht : TrA H t u) : Ly P w H0 (upd H b (.lst (ts.map V.ref ++ [V.ref t]))) p (Ls.set j (L.set i (e.1, e.2 ++ [u]))) ds as := by
  have b0 := (y.ll j L a i b e hL ha hb he).2
  have k : KeepT H (upd H b (.lst (ts.map V.ref ++ [V.ref t]))) := keepT_upd hl (fun xs z => by cases z)
  have jl := (List.getElem?_eq_some_iff.mp hL).1
  have keys : (L.set i (e.1, e.2 ++ [u])).map (·.1) = L.map (·.1) := by
    rw [List.map_set]
    apply List.ext_getElem?
    intro m
    by_cases c : i = m
    · subst c
      have hi : (L.map (·.1))[i]? = some e.1 := by rw [List.getElem?_map, he]; rfl
      rw [List.getElem?_set_self (List.getElem?_eq_some_iff.mp hi).1, hi]
    · rw [List.getElem?_set_ne c]
  refine ⟨fun c o z => by rw [upd_ne (ne_of_none z b0)]; exact y.s _ _ z, by rw [upd_ne (y.pl j i a b ha hb).symm]; exact y.hp, y.np, by rw [List.length_set]; exact y.dl, by rw [List.length_set]; exact y.al, y.nd, y.n0, fun j' d L' a' h1 h2 h3 => ?_, fun j' L' a' i' b' e' h1 h2 h3 h4 => ?_, y.inj, y.pl⟩
  · have fin : ∀ L2, Ls[j']? = some L2 → L2.map (·.1) = L'.map (·.1) → a'.length = L'.length ∧ DN P w false (upd H b (.lst (ts.map V.ref ++ [V.ref t]))) d (kvF (L'.map (·.1)) a') := fun L2 hL2 ek => by
      obtain ⟨z1, z2⟩ := y.dd j' d L2 a' h1 hL2 h3
      have l := congrArg List.length ek
      rw [List.length_map, List.length_map] at l
      rw [ek] at z2
      exact ⟨by omega, z2.keep (upd_ne fun z => dn_lst z2 _ (by rw [z]; exact hl)) k⟩
    rcases set_at h2 with ⟨rfl, rfl⟩ | ⟨_, h2⟩
    · exact fin L hL keys.symm
    · exact fin L' h2 rfl
  · by_cases c : b' = b
    · subst c
      obtain ⟨rfl, rfl⟩ := y.inj _ _ _ _ _ _ _ h2 h3 ha hb
      refine ⟨?_, b0⟩
      rw [List.getElem?_set_self jl] at h1
      cases h1
      rw [List.getElem?_set_self (List.getElem?_eq_some_iff.mp he).1] at h4
      cases h4
      exact ⟨ts ++ [t], by rw [List.map_append]; exact upd_same, (hat.keep k).snoc (ht.keep k)⟩
    · have fin : ∀ L2 e2, Ls[j']? = some L2 → L2[i']? = some e2 → e2.2 = e'.2 → TrsA (upd H b (.lst (ts.map V.ref ++ [V.ref t]))) b' e'.2 ∧ H0 b' = none := fun L2 e2 q1 q2 q3 => by
        obtain ⟨z1, z2⟩ := y.ll j' L2 a' i' b' e2 q1 h2 h3 q2
        rw [q3] at z1
        exact ⟨z1.keep (upd_ne c) k, z2⟩
      rcases set_at h1 with ⟨rfl, rfl⟩ | ⟨_, h1⟩
      · rcases set_at h4 with ⟨rfl, _⟩ | ⟨_, h4⟩
        · rw [ha] at h2
          cases h2
          rw [hb] at h3
          cases h3
          exact absurd rfl c
        · exact fin L e' hL h4 rfl
      · exact fin L' e' h1 h4 rfl
/-- a state that is new in its layer -/
theorem Ly.new {j : Nat} {L : Layer} {a : List Addr} {d b : Addr} {k : Sx} {u : Trip} (y : Ly P w H0 H p Ls ds as) (hd : ds[j]? = some d) (hL : Ls[j]? = some L) (ha : as[j]? = some a) (b0 : H b = none)
    (s : Same H0 H') (kt : KeepT H H') (hp : H' p = H p) (ho : ∀ c ∈ ds, c ≠ d → H' c = H c) (hl : ∀ (j i : Nat) a c, as[j]? = some a → a[i]? = some c → H' c = H c) (dn : DN P w false H' d (kvF (L.map (·.1) ++ [k]) (a ++ [b]))) (tr : TrsA H' b [u]) :
    Ly P w H0 H' p (Ls.set j (L ++ [(k, [u])])) ds (as.set j (a ++ [b])) := by
  have jl := (List.getElem?_eq_some_iff.mp hL).1
  have ja := (List.getElem?_eq_some_iff.mp ha).1
  have l0 := (y.dd j d L a hd hL ha).1
  have bn : ∀ (j i : Nat) a c, as[j]? = some a → a[i]? = some c → c ≠ b := fun j i a c h1 h2 z => by
    obtain ⟨ts, e⟩ := y.lsome h1 h2
    rw [z, b0] at e
    cases e
  have h0b : H0 b = none := by
    cases z : H0 b with
    | none => rfl
    | some o =>
      rw [y.s _ _ z] at b0
      cases b0
  have snoc : ∀ {i : Nat} {c : Addr}, (a ++ [b])[i]? = some c → (a[i]? = some c) ∨ (i = a.length ∧ c = b) := fun {i c} h => by
    by_cases q : i < a.length
    · rw [List.getElem?_append_left q] at h
      exact .inl h
    · rw [List.getElem?_append_right (by omega)] at h
      cases z : i - a.length with
      | zero => rw [z] at h; exact .inr ⟨by omega, (Option.some.inj h).symm⟩
      | succ n => rw [z] at h; simp at h
  refine ⟨s, hp.trans y.hp, y.np, by rw [List.length_set]; exact y.dl, by rw [List.length_set, List.length_set]; exact y.al, y.nd, y.n0, fun j' d' L' a' h1 h2 h3 => ?_, fun j' L' a' i' b' e' h1 h2 h3 h4 => ?_, fun j1 i1 j2 i2 a1 a2 c h1 h2 h3 h4 => ?_, fun j1 i1 a1 c h1 h2 => ?_⟩
  · rcases set_at h2 with ⟨rfl, rfl⟩ | ⟨n, h2⟩
    · rw [List.getElem?_set_self ja] at h3
      cases h3
      rw [hd] at h1
      cases h1
      exact ⟨by rw [List.length_append, List.length_append, l0]; rfl, by rw [List.map_append]; exact dn⟩
    · rw [List.getElem?_set_ne (fun z => n z.symm)] at h3
      obtain ⟨z1, z2⟩ := y.dd j' d' L' a' h1 h2 h3
      refine ⟨z1, z2.keep (ho d' (List.mem_of_getElem? h1) fun z => n ?_) kt⟩
      rw [z] at h1
      exact (List.getElem?_inj (List.getElem?_eq_some_iff.mp h1).1 y.nd).mp (h1.trans hd.symm)
  · rcases set_at h2 with ⟨rfl, rfl⟩ | ⟨n, h2⟩
    · rw [List.getElem?_set_self jl] at h1
      cases h1
      rcases snoc h3 with h3 | ⟨rfl, rfl⟩
      · have il := (List.getElem?_eq_some_iff.mp h3).1
        rw [List.getElem?_append_left (by omega)] at h4
        obtain ⟨z1, z2⟩ := y.ll _ L a i' b' e' hL ha h3 h4
        exact ⟨z1.keep (hl _ _ _ _ ha h3) kt, z2⟩
      · rw [List.getElem?_append_right (by omega), l0, Nat.sub_self] at h4
        cases h4
        exact ⟨tr, h0b⟩
    · rw [List.getElem?_set_ne (fun z => n z.symm)] at h1
      obtain ⟨z1, z2⟩ := y.ll j' L' a' i' b' e' h1 h2 h3 h4
      exact ⟨z1.keep (hl _ _ _ _ h2 h3) kt, z2⟩
  · have cs : ∀ {j1 i1 : Nat} {a1 : List Addr}, (as.set j (a ++ [b]))[j1]? = some a1 → a1[i1]? = some c → (∃ a0, as[j1]? = some a0 ∧ a0[i1]? = some c) ∨ (c = b ∧ j1 = j ∧ i1 = a.length) := fun {j1 i1 a1} h1 h2 => by
      rcases set_at h1 with ⟨rfl, rfl⟩ | ⟨n, h1⟩
      · rcases snoc h2 with h2 | ⟨e1, e2⟩
        · exact .inl ⟨a, ha, h2⟩
        · exact .inr ⟨e2, rfl, e1⟩
      · exact .inl ⟨a1, h1, h2⟩
    rcases cs h1 h2 with ⟨x1, p1, p2⟩ | ⟨q1, q2, q3⟩
    · rcases cs h3 h4 with ⟨x2, p3, p4⟩ | ⟨r1, r2, r3⟩
      · exact y.inj _ _ _ _ _ _ _ p1 p2 p3 p4
      · exact absurd r1 (bn _ _ _ _ p1 p2)
    · rcases cs h3 h4 with ⟨x2, p3, p4⟩ | ⟨r1, r2, r3⟩
      · exact absurd q1 (bn _ _ _ _ p3 p4)
      · exact ⟨by omega, by omega⟩
  · rcases set_at h1 with ⟨rfl, rfl⟩ | ⟨n, h1⟩
    · rcases snoc h2 with h2 | ⟨_, rfl⟩
      · exact y.pl _ _ _ _ ha h2
      · intro z
        rw [z, y.hp] at b0
        cases b0
    · exact y.pl _ _ _ _ h1 h2
/-- a smaller base -/
theorem Ly.weak {H1 : Hp} (y : Ly P w H1 H p Ls ds as) (s : Same H0 H1) : Ly P w H0 H p Ls ds as := by
  have nn : ∀ {c : Addr}, H1 c = none → H0 c = none := fun {c} h => by
    cases z : H0 c with
    | none => rfl
    | some o =>
      rw [s _ _ z] at h
      cases h
  exact ⟨s.trans y.s, y.hp, nn y.np, y.dl, y.al, y.nd, fun d hd => nn (y.n0 d hd), y.dd, fun j L a i b e h1 h2 h3 h4 => let ⟨z1, z2⟩ := y.ll j L a i b e h1 h2 h3 h4; ⟨z1, nn z2⟩, y.inj, y.pl⟩
/-- the base may hold all else -/
theorem Ly.rebase (y : Ly P w H0 H p Ls ds as) : ∃ H1, Ly P w H1 H p Ls ds as ∧ Same H0 H1 ∧ KeepT H H1 ∧ ∀ c o, H c = some o → c ≠ p → (∀ d ∈ ds, c ≠ d) → (∀ (j i : Nat) a b, as[j]? = some a → a[i]? = some b → c ≠ b) → H1 c = some o := by
  classical
  let bad : Addr → Prop := fun c => c = p ∨ c ∈ ds ∨ ∃ (j i : Nat) (a : List Addr), as[j]? = some a ∧ a[i]? = some c
  have e1 : ∀ c, bad c → (if bad c then none else H c) = none := fun c h => if_pos h
  have e2 : ∀ c, ¬ bad c → (if bad c then none else H c) = H c := fun c h => if_neg h
  have nb : ∀ c o, H0 c = some o → ¬ bad c := fun c o e z => by
    rcases z with rfl | z | ⟨j, i, a, h1, h2⟩
    · rw [y.np] at e; cases e
    · rw [y.n0 c z] at e; cases e
    · obtain ⟨d, L, en, q1, q2, q3⟩ := y.ent h1 h2
      rw [(y.ll j L a i c en q2 h1 h2 q3).2] at e
      cases e
  refine ⟨fun c => if bad c then none else H c, ⟨fun c o e => ?_, y.hp, e1 _ (.inl rfl), y.dl, y.al, y.nd, fun d hd => e1 _ (.inr (.inl hd)), y.dd, fun j L a i b e h1 h2 h3 h4 => ⟨(y.ll j L a i b e h1 h2 h3 h4).1, e1 _ (.inr (.inr ⟨j, i, a, h2, h3⟩))⟩, y.inj, y.pl⟩, fun c o e => ?_, fun c xs e => ?_, fun c o e h1 h2 h3 => ?_⟩
  · have e : (if bad c then none else H c) = some o := e
    by_cases b : bad c
    · rw [e1 c b] at e; cases e
    · rw [e2 c b] at e; exact e
  · exact (e2 c (nb c o e)).trans (y.s _ _ e)
  · refine (e2 c ?_).trans e
    rintro (rfl | z | ⟨j, i, a, h1, h2⟩)
    · rw [y.hp] at e; cases e
    · obtain ⟨_, _, _, _, _, _, _, z⟩ := y.dsome z
      exact dn_tup z _ e
    · obtain ⟨ts, z⟩ := y.lsome h1 h2
      rw [z] at e; cases e
  · refine (e2 c ?_).trans e
    rintro (z | z | ⟨j, i, a, q1, q2⟩)
    · exact h1 z
    · exact h2 c z rfl
    · exact h3 j i a c q1 q2 rfl
theorem init0_eq (n nw : Nat) : init0 n nw = [((List.replicate nw 0, .no), [])] :: List.replicate n [] := rfl
theorem rep_at {α : Type} {n j : Nat} {v w : α} (h : (List.replicate n v)[j]? = some w) : w = v := by
  rw [List.getElem?_replicate] at h
  split at h
  · exact (Option.some.inj h).symm
  · cases h
theorem ly_init {d0 l0 D : Addr} {dr : List Addr} {n nw : Nat} (hp : H' D = some (.lst ((d0 :: dr).map V.ref))) (np : H D = none) (s : Same H H') (len : dr.length = n) (nd : (d0 :: dr).Nodup) (n0 : ∀ d ∈ d0 :: dr, H d = none)
    (dn0 : DN P w false H' d0 [(keyS (List.replicate nw 0, .no), .ref l0)]) (dn : ∀ d ∈ dr, DN P w false H' d []) (hl : H' l0 = some (.lst [])) (nl : H l0 = none) (lD : l0 ≠ D) : Ly P w H H' D (init0 n nw) (d0 :: dr) ([l0] :: List.replicate n []) := by
  have only : ∀ {j i : Nat} {a : List Addr} {b : Addr}, ([l0] :: List.replicate n [])[j]? = some a → a[i]? = some b → j = 0 ∧ i = 0 ∧ b = l0 := fun {j i a b} h1 h2 => by
    cases j with
    | zero =>
      have h1 : [l0] = a := by simpa using h1
      subst h1
      cases i with
      | zero => exact ⟨rfl, rfl, by simpa using h2.symm⟩
      | succ i => simp at h2
    | succ j =>
      have h1 : (List.replicate n ([] : List Addr))[j]? = some a := by simpa using h1
      rw [rep_at h1] at h2
      simp at h2
  refine ⟨s, hp, np, by rw [init0_eq]; simp [len], by rw [init0_eq]; simp, nd, n0, fun j d L a h1 h2 h3 => ?_, fun j L a i b e h1 h2 h3 h4 => ?_, fun j i j' i' a a' b h1 h2 h3 h4 => ?_, fun j i a b h1 h2 => ?_⟩
  · rw [init0_eq] at h2
    cases j with
    | zero =>
      have h1 : d0 = d := by simpa using h1
      have h2 : [((List.replicate nw (0 : Int), Mk.no), ([] : List Trip))] = L := by simpa using h2
      have h3 : [l0] = a := by simpa using h3
      subst h1 h2 h3
      exact ⟨rfl, dn0⟩
    | succ j =>
      have h2 : (List.replicate n ([] : Layer))[j]? = some L := by simpa using h2
      have h3 : (List.replicate n ([] : List Addr))[j]? = some a := by simpa using h3
      have h1 : dr[j]? = some d := by simpa using h1
      rw [rep_at h2, rep_at h3]
      exact ⟨rfl, dn d (List.mem_of_getElem? h1)⟩
  · obtain ⟨rfl, rfl, rfl⟩ := only h2 h3
    rw [init0_eq] at h1
    have h1 : [((List.replicate nw (0 : Int), Mk.no), ([] : List Trip))] = L := by simpa using h1
    subst h1
    have h4 : ((List.replicate nw (0 : Int), Mk.no), ([] : List Trip)) = e := by simpa using h4
    subst h4
    exact ⟨⟨[], hl, rfl, fun i t u z => by simp at z⟩, nl⟩
  · obtain ⟨a1, a2, _⟩ := only h1 h2
    obtain ⟨b1, b2, _⟩ := only h3 h4
    exact ⟨by omega, by omega⟩
  · obtain ⟨_, _, rfl⟩ := only h1 h2
    exact lD
theorem wl_init (fr : List T3) (x : Str) (nw last : Nat) : Wl fr x nw last (init0 x.length nw) := by
  have h0 : ∀ {j : Nat} {L : Layer}, (init0 x.length nw)[j]? = some L → (j = 0 ∧ L = [((List.replicate nw 0, .no), [])]) ∨ L = [] := fun {j L} h => by
    rw [init0_eq] at h
    cases j with
    | zero => exact .inl ⟨rfl, by simpa using h.symm⟩
    | succ j => exact .inr (rep_at (by simpa using h))
  refine ⟨by rw [init0_eq]; simp, fun j L h e he => ?_, fun j L h e he t ht => ?_, fun j L h => ?_, fun j L h h1 e he => ?_⟩
  · rcases h0 h with ⟨_, rfl⟩ | rfl
    · rw [List.mem_singleton.mp he]
      exact ⟨List.length_replicate, fun q hq => by rw [(List.mem_replicate.mp hq).2]; omega, .inl rfl⟩
    · cases he
  · rcases h0 h with ⟨_, rfl⟩ | rfl
    · rw [List.mem_singleton.mp he] at ht
      cases ht
    · cases he
  · rcases h0 h with ⟨_, rfl⟩ | rfl
    · simp
    · simp
  · rcases h0 h with ⟨rfl, _⟩ | rfl
    · omega
    · cases he
theorem tot_init (n nw : Nat) : tot (init0 n nw) = 0 := by
  rw [init0_eq]
  unfold tot
  rw [List.map_cons, List.sum_cons]
  have e : ∀ n : Nat, ((List.replicate n ([] : Layer)).map totL).sum = 0 := by
    intro n
    induction n with
    | zero => rfl
    | succ n ih =>
      rw [List.replicate_succ, List.map_cons, List.sum_cons, ih]
      rfl
  rw [e]
  rfl
end
end K37

set_option Elab.async false
set_option linter.all false
set_option maxRecDepth 100000
set_option maxHeartbeats 4000000
/-! tuple * int from 0 on. -/
namespace L2
open PySem PySem.Spec PyProof.Rows
theorem tuple_mul1 (l : Addr) (items : Array Value) (n : Nat) (dd : Option Addr) (sl : Array (Option Value)) (u : Tok) :
    Meets (Builtin.«tuple.__mul__» ⟨[.ref l, .int 1 u], []⟩) (fun _ R s => s.heap.get? l = some { cls := .type "tuple", dict := dd, data := .seq items n, slots := sl } ∧ R (.ok (.ret (.ref l))) s) :=
  .of_wp fun prog w A R s h => by
    obtain ⟨hp, g, d, tk, os⟩ := s
    obtain ⟨hl, h⟩ := h
    have f1 := AutoSeq1.idx_int
    wp_walk using wpAny_loadPart' hl
    exact ⟨_, rfl, h⟩
theorem tuple_mul0 (l : Addr) (items : Array Value) (n : Nat) (dd : Option Addr) (sl : Array (Option Value)) (u : Tok) (c1 : (items.isEmpty || (0 : Int) == 1) = false) :
    Meets (Builtin.«tuple.__mul__» ⟨[.ref l, .int 0 u], []⟩) (fun _ R s => s.heap.get? l = some { cls := .type "tuple", dict := dd, data := .seq items n, slots := sl } ∧
      R (.ok (.ret (Value.ref s.heap.objs.size))) { s with heap := s.heap.push { cls := Value.type "tuple", data := Data.seq #[] }, toks := s.toks }) :=
  .of_wp fun prog w A R s h => by
    obtain ⟨hp, g, d, tk, os⟩ := s
    obtain ⟨hl, h⟩ := h
    have f1 := AutoSeq1.idx_int
    wp_walk using wpAny_loadPart' hl
    repeat (first
      | (refine wpAny_ite_false (decide_eq_false (by rw [c1]; exact Bool.false_ne_true)) ?_; wp_walk using wpAny_loadPart' hl)
      | (refine wpAny_ite_true (decide_eq_true (by decide)) ?_; wp_walk using wpAny_loadPart' hl))
    exact ⟨_, rfl, h⟩
def rRepA : R2 := fun x y H Q => ∃ l k xs, x = .ref l ∧ y = .int k ∧ H l = some (.tup xs) ∧ xs ≠ [] ∧ 0 ≤ k ∧ k ≤ 1000 ∧ xs.length ≤ 1000 ∧
  ∀ H' p, (∀ b o, H b = some o → H' b = some o) → H' p = some (.tup (List.replicate k.toNat xs).flatten) → Q (.ref p) H'
section
variable {X : Cx}
theorem op_repA : OpR X (binaryOp .Mult) rRepA := by
  intro pins s σ H x y v u Q I rx ry h
  obtain ⟨l, k, xs, rfl, rfl, hT, hne, h1, h2, hz, q⟩ := h
  by_cases k2 : 2 ≤ k
  · refine op_repT pins s σ H _ _ v u Q I rx ry ⟨l, k, xs, rfl, rfl, SqT.of hT, hne, k2, h2, hz, fun p hp => q _ p (fun b o e => ?_) upd_same⟩
    rw [upd_ne (ne_of_none e hp)]
    exact e
  · cases rx
    obtain ⟨t, rfl⟩ := ry
    obtain ⟨its, r, ⟨⟨cls, dd, data, sl⟩, ho, hc, n, hd⟩, hs⟩ := I.tuple (SqT.of hT)
    simp only at hc hd
    subst hc hd
    have hle : its.length = xs.length := r.length.symm
    have hn : its ≠ [] := fun e => hne (by
      rw [e] at hle
      exact List.eq_nil_of_length_eq_zero hle.symm)
    have hi : its.toArray.isEmpty = false := by
      cases its with
      | nil => exact absurd rfl hn
      | cons a b => rfl
    rcases (show k = 1 ∨ k = 0 by omega) with rfl | rfl
    · refine wpAny_binaryOp_repeat_ref (T := "tuple") (U := "int") (by decide) ⟨_, ho, rfl⟩ (fun s' => typeIs_int s' 1 t) noFill_tuple_mul F.fills_int_mul F.slot_int_rmul repeat_tuple F.slot_int_index.lookup
        (call_meets F.slot_int_rmul (typeIs_int s 1 t) F.entry_int_rmul (F.args_int_rmul_2 _ _) (int_rmul_tuple 1 t l its.toArray n dd sl)
          ⟨ho, rfl, ⟨_, ho, rfl⟩, call_meets F.slot_tuple_mul ⟨_, ho, rfl⟩ F.entry_tuple_mul (F.args_tuple_mul_2 _ _) (tuple_mul1 l its.toArray n dd sl t) ⟨ho, ?_⟩⟩)
      refine ⟨.ref l, H, I, rfl, q H l (fun _ _ e => e) ?_⟩
      rw [hT]
      simp
    · refine wpAny_binaryOp_repeat_ref (T := "tuple") (U := "int") (by decide) ⟨_, ho, rfl⟩ (fun s' => typeIs_int s' 0 t) noFill_tuple_mul F.fills_int_mul F.slot_int_rmul repeat_tuple F.slot_int_index.lookup
        (call_meets F.slot_int_rmul (typeIs_int s 0 t) F.entry_int_rmul (F.args_int_rmul_2 _ _) (int_rmul_tuple 0 t l its.toArray n dd sl)
          ⟨ho, rfl, ⟨_, ho, rfl⟩, call_meets F.slot_tuple_mul ⟨_, ho, rfl⟩ F.entry_tuple_mul (F.args_tuple_mul_2 _ _) (tuple_mul0 l its.toArray n dd sl t (by rw [hi]; rfl)) ⟨ho, ?_⟩⟩)
      have hf := I.hok.fresh (Nat.le_refl s.heap.objs.size)
      refine ⟨.ref s.heap.objs.size, _, I.laid (t' := s.toks) (o := .tup []) (fun b ob q => Heap.get?_push_of_some _ q) (Nat.le_refl _) ?_, rfl, q _ _ (fun b o e => ?_) upd_same⟩
      · exact ⟨Nat.zero_le _, _, .nil, IsTup.new _ _⟩
      · rw [upd_ne (ne_of_none e hf)]
        exact e
end
end L2

set_option Elab.async false
set_option linter.all false
set_option maxRecDepth 100000
set_option maxHeartbeats 8000000
/-! traces. -/
namespace K37
open PySem L2 L2.EV
abbrev sTraces : Stmt := top 35
def spTraces (P : Program) (w : World) : Sp := fun vs H Q _ => ∃ (f : Addr) (fr : List T3) (last : Nat) (x : Str) (nw : Nat), vs = [.ref f, .str x, .int (nw : Int)] ∧ FrA H f fr ∧ Frm fr last ∧ x.length ≤ 60 ∧ 1 ≤ nw ∧ nw ≤ 3 ∧
  ∀ H' p ds as, Ly P w H H' p (trF fr x nw x.length) ds as → Wl fr x nw last (trF fr x nw x.length) → Q (.ref p) H'
structure Tf (K : PySem.W.Frag) (mg : Str → Option Value) where
  G : Ff K mg
  f : Addr
  d : FuncData
  F : Fun K "traces" "traces" sTraces f d
  b : Binds K d ["framing", "text", "writers"] []
  m : mg "traces" = some (.ref f)
  li : mg "list" = none
abbrev NTr : List Str := ["framing", "text", "writers", "at", "layers", "fits", "state", "writer", "number", "layer", "behind"]
theorem stdS_at {s : Sx} {n : Int} (h0 : 0 ≤ n) (h1 : n < s.1.length) : atI (s.1.map V.int) n = some (.int (stdS s n)) := by
  obtain ⟨k, rfl⟩ := Int.eq_ofNat_of_zero_le h0
  have hk : k < s.1.length := by omega
  refine atI_nat ?_
  unfold stdS
  rw [List.getElem?_map, Int.toNat_natCast, List.getD_eq_getElem?_getD, List.getElem?_eq_getElem hk]
  rfl
theorem keysN_at {H : Hp} : ∀ {ks : List Sx} {a bs : List Addr} {k : Nat} {b : Addr} {s : Sx}, a.length = ks.length → IsKeysN false H (kvF ks a) bs → bs[k]? = some b → ks[k]? = some s → StA H b s
  | [], _, _, _, _, _, _, _, _, h => by simp at h
  | _ :: _, [], _, _, _, _, h, _, _, _ => by cases h
  | s0 :: ks, c :: a, bs, k, b, s, hl, h, hb, hs => by
    have h : Paired (fun p b => KeyB false H p.1 b) ((keyS s0, V.ref c) :: kvF ks a) bs := h
    cases h with
    | @cons p b0 ps bs' h1 h2 =>
      cases k with
      | zero =>
        have e1 : b0 = b := by simpa using hb
        have e2 : s0 = s := by simpa using hs
        subst e1 e2
        exact sta_key h1
      | succ k => exact keysN_at (k := k) (by simpa using hl) h2 (by simpa using hb) (by simpa using hs)
theorem keysN_len {H : Hp} {ks : List Sx} {a bs : List Addr} (hl : a.length = ks.length) (h : IsKeysN false H (kvF ks a) bs) : bs.length = ks.length := by
  have := Paired.length h
  rw [kvF_len hl] at this
  exact this.symm
theorem trF_succ {fr : List T3} {x : Str} {nw i : Nat} : trF fr x nw (i + 1) = perI fr x nw (trF fr x nw i) i := by
  unfold trF
  rw [List.range_succ, List.foldl_append]
  rfl
theorem fold_one {α β : Type} {f : β → α → β} {l : List α} {z : β} {i : Nat} {a : α} (h : l[i]? = some a) : (l.take (i + 1)).foldl f z = f ((l.take i).foldl f z) a := by
  rw [take_one h, List.foldl_append]
  rfl
theorem behS_ok {nw last : Nat} {s : Sx} {n : Int} {x : T3} (h : StOk nw last s) (h0 : 0 ≤ n) (h1 : n < nw) (hx : 0 ≤ x.2.2 ∧ x.2.2 ≤ last) : StOk nw last (behS s n x) := by
  obtain ⟨k, rfl⟩ := Int.eq_ofNat_of_zero_le h0
  have hk : k < nw := by omega
  refine ⟨by show (s.1.set _ _).length = nw; rw [List.length_set]; exact h.l, fun q hq => ?_, ?_⟩
  · rcases List.mem_or_eq_of_mem_set hq with z | z
    · exact h.b q z
    · rw [z]; exact hx
  · have e : (behS s (k : Int) x).2 = if x.2.2 = 0 then Mk.no else behM s.2 (k : Int) x.1 := rfl
    rw [e]
    unfold behM
    by_cases c1 : x.2.2 = 0
    · rw [if_pos c1]
      exact .inl rfl
    · rw [if_neg c1]
      by_cases c2 : s.2 = Mk.no ∧ x.1 = 0
      · rw [if_pos c2]
        exact .inr (.inr ⟨k, hk, rfl⟩)
      · rw [if_neg c2]
        by_cases c3 : s.2 = Mk.one (k : Int)
        · rw [if_pos c3, c3]
          exact .inr (.inr ⟨k, hk, rfl⟩)
        · rw [if_neg c3]
          exact .inr (.inl rfl)
section
variable {P : Program} {w : World} {K : PySem.W.Frag} {mg : Str → Option Value} {base : Heap}
theorem scTraces : FnScope NTr ["framing", "text", "writers"] (defScope sTraces) := ⟨rfl, rfl, rfl, by decide +kernel, rfl, by decide +kernel, by decide +kernel⟩
theorem ok_traces (T : Tf K mg) : FnOk P w K mg base CX0 3 T.f T.d ["framing", "text", "writers"] (spTraces P w) := by
  have GF : FnOk P w K mg base CX0 1 T.G.f T.G.d ["framing", "text", "at", "writers"] spFits := ok_fits T.G
  have GS : FnOk P w K mg base CX0 2 T.G.S.fS T.G.S.dS ["state", "writer", "step"] spState := ok_state T.G.S
  refine T.F.ok scTraces (fun vs H Q E h => ?_) (fun cdv A outer s H vs Q E hr h => ?_)
  · obtain ⟨f, fr, last, x, nw, rfl, _⟩ := h
    rfl
  · obtain ⟨f, fr, last, x, nw, rfl, fa, fm, x60, n1, n3, q⟩ := h
    have hr1 := hr.mono (j := 1) (by omega)
    have hu : (A.deeper (PyProof.Rows.envOfC "traces" (defScope sTraces) s.heap.objs.size T.f cdv)).units + 9 < cLine := by have := hr.un; omega
    refine ⟨_, pss_cons (ps_setLc (i := 4) (own := [("at", 3)]) (g := gName 3) (te := tNNew P w) rfl scTraces.nd rfl rfl rfl (pi_range1 (by rfl) T.G.ra (pa_cons (pe_op op_add (pe_callB call_len_str (by rfl) T.G.S.Y.Z.T.len PySem.boot_len (pa_cons (pv 1) pa_nil)) pe_int) pa_nil))
        (blkOk_by (N := NTr) (sc := defScope sTraces) (by decide +kernel)) (fun _ _ _ _ _ => pg_name (i := 3) scTraces.nd rfl (Or.inl rfl)) (fun _ _ _ _ _ => pts_nil) (fun _ _ _ _ _ => pe_nnew))
      (pss_cons (ps_nput (B := false) hu (pe_ix ix_list (pv 4) pe_int (fun _ _ => rfl)) (pe_tup (pa_cons (pe_op op_repA (pe_tup (pa_cons pe_int pa_nil)) (pv 2)) (pa_cons pe_non pa_nil))) (pe_lst pa_nil) rfl)
      (pss_cons (ps_for PassesOwn.never rfl (pi_range1 (by rfl) T.G.ra (pa_cons (pe_callB call_len_str (by rfl) T.G.S.Y.Z.T.len PySem.boot_len (pa_cons (pv 1) pa_nil)) pa_nil)) (pg_name (i := 3) scTraces.nd rfl (Or.inl rfl))
        (pss_cons (ps_set (i := 5) scTraces.nd rfl (Or.inl rfl) (pe_call GF hr1 (by rfl) T.G.m T.G.F.kp T.G.b .nil pass0 (pa_cons (pv 0) (pa_cons (pv 1) (pa_cons (pv 3) (pa_cons (pv 2) pa_nil))))))
        (pss_one (ps_for PassesOwn.never rfl (pi_list (pe_callTy (call_list_dN (B := false) rfl) (by rfl) T.li (by decide +kernel) (pa_cons (pe_ix ix_list (pv 4) (pv 3) (fun _ _ => rfl)) pa_nil))) (pg_name (i := 6) scTraces.nd rfl (Or.inl rfl))
          (pss_one (ps_for PassesOwn.never rfl (pi_list (pv 5)) (pg_tup rfl (pgs_cons (pg_name (i := 7) scTraces.nd rfl (Or.inl rfl)) (pgs_cons (pg_name (i := 8) scTraces.nd rfl (Or.inl rfl)) pgs_nil)))
            (pss_one (ps_if (pt_cmpR op_eq (pe_ix ix_tup (pe_ix ix_tup (pv 0) (pv 8) (fun _ _ => rfl)) pe_int (fun _ _ => rfl)) (pe_ix ix_tup (pe_ix ix_tup (pv 6) pe_int (fun _ _ => rfl)) (pv 7) (fun _ _ => rfl)) (nomark _))
              (pss_cons (ps_set (i := 9) scTraces.nd rfl (Or.inl rfl) (pe_ix ix_list (pv 4) (pe_op op_add (pv 3) (pe_callB call_len_str (by rfl) T.G.S.Y.Z.T.len PySem.boot_len (pa_cons (pe_ix ix_tup (pe_ix ix_tup (pv 0) (pv 8) (fun _ _ => rfl)) pe_int (fun _ _ => rfl)) pa_nil))) (fun _ _ => rfl)))
              (pss_cons (ps_set (i := 10) scTraces.nd rfl (Or.inl rfl) (pe_call GS hr (by rfl) T.G.S.mS T.G.S.S.kp T.G.S.bS .nil pass0 (pa_cons (pv 6) (pa_cons (pv 7) (pa_cons (pe_ix ix_tup (pv 0) (pv 8) (fun _ _ => rfl)) pa_nil)))))
              (pss_one (ps_expr (pe_bm PySem.F.plainAttrs_list PySem.F.slot_list_append PySem.F.type_list_append mt_append (pe_nsetd (B := false) hu (pv 9) (pv 10) (pe_lst pa_nil) ⟨rfl, rfl, rfl, rfl⟩)
                (pa_cons (pe_tup (pa_cons (pv 3) (pa_cons (pv 6) (pa_cons (pe_tup (pa_cons (pv 7) (pa_cons (pv 8) pa_nil))) pa_nil)))) pa_nil))))))
              pss_nil))))))))
      (pss_one (ps_ret (pv 4))))), ?_⟩
    have hl : x.length ≤ sizeLine := by rw [sizeLine_eq]; omega
    refine ⟨_, rfl, x, rfl, hl, (x.length : Int), 1, rfl, rfl, _, rfl, by omega, by omega, fun D hD => ?_⟩
    have uD := same_upd (o := HO.lst []) hD
    refine lc_it walk_range (fun i H' => ∃ ds : List Addr, H' D = some (.lst (ds.map V.ref)) ∧ ds.length = i ∧ ds.Nodup ∧ (∀ d ∈ ds, H d = none ∧ d ≠ D ∧ DN P w false H' d []) ∧ Same H H')
      ⟨[], upd_same, rfl, List.nodup_nil, (fun d hd => nomatch hd), uD⟩ (fun _ _ _ _ => trivial) ?_ ?_
    · rintro i y H1 H2 hi ⟨ds, h1, h2, h3, h4, h5⟩ ⟨rfl, rfl⟩
      refine ⟨rfl, fun pn hpn => ?_⟩
      have un := same_upd (o := DNo P w pn []) hpn
      have h1' := un _ _ h1
      refine ⟨_, h1', by rw [List.length_map, h2, sizeLine_eq]; omega, ds ++ [pn], ?_, by rw [List.length_append, h2]; rfl, ?_, ?_, fun b o z => ?_⟩
      · rw [List.map_append]
        exact upd_same
      · refine List.nodup_append.mpr ⟨h3, by simp, fun a ha b hb => ?_⟩
        rw [List.mem_singleton.mp hb]
        intro z
        obtain ⟨_, _, z2⟩ := h4 a ha
        obtain ⟨o, z3⟩ := dn_some z2
        rw [z, hpn] at z3
        cases z3
      · have nD : pn ≠ D := fun z => by rw [z, h1] at hpn; cases hpn
        have kt : KeepT H2 (upd (upd H2 pn (DNo P w pn [])) D (.lst (ds.map V.ref ++ [V.ref pn]))) := (Same.keepT un).trans (keepT_upd h1' (fun xs z => by cases z))
        intro d hd
        rcases List.mem_append.mp hd with hd | hd
        · obtain ⟨a1, a2, a3⟩ := h4 d hd
          obtain ⟨o, z3⟩ := dn_some a3
          exact ⟨a1, a2, a3.keep (by rw [upd_ne a2, un _ _ z3, z3]) kt⟩
        · rw [List.mem_singleton.mp hd]
          refine ⟨?_, nD, [], rfl, by rw [upd_ne nD]; exact upd_same, fun x hx => nomatch hx⟩
          exact same_none h5 hpn
      · rw [upd_ne (ne_of_none z hD)]
        exact un _ _ (h5 _ _ z)
    · rintro H1 ⟨ds, h1, h2, h3, h4, hS⟩
      have h2 : ds.length = x.length + 1 := by rw [h2]; omega
      obtain ⟨d0, dr, rfl⟩ : ∃ d0 dr, ds = d0 :: dr := by
        cases ds with
        | nil => cases h2
        | cons a b => exact ⟨a, b, rfl⟩
      refine ⟨by decide, fun l0 hl0 => ?_⟩
      have u0 := same_upd (o := HO.lst []) hl0
      refine ⟨_, rfl, D, _, 0, .ref d0, rfl, rfl, SqL.of (u0 _ _ h1), atI_nat (j := 0) rfl, ?_⟩
      refine ⟨by decide, fun q0 hq0 => ⟨_, rfl, q0, (nw : Int), _, rfl, rfl, upd_same, by simp, by omega, by omega, by decide, fun H5 p5 s5 h5 => ⟨(by show 2 ≤ sizeLine; decide), fun pk hpk => ?_⟩⟩⟩
      have uq := same_upd (o := HO.tup [V.int 0]) hq0
      have uk := same_upd (o := HO.tup [V.ref p5, V.non]) hpk
      have s1k := u0.trans (uq.trans (Same.trans s5 uk))
      have kt1 := Same.keepT s1k
      have dnk : ∀ d ∈ d0 :: dr, DN P w false (upd H5 pk (.tup [V.ref p5, V.non])) d [] := fun d hd => by
        obtain ⟨_, _, z⟩ := h4 d hd
        obtain ⟨o, e⟩ := dn_some z
        exact z.keep (by rw [s1k _ _ e, e]) kt1
      have sta : StA (upd H5 pk (.tup [V.ref p5, V.non])) pk (List.replicate nw 0, .no) := by
        refine ⟨p5, upd_same, ?_⟩
        rw [uk _ _ h5, Int.toNat_natCast]
        have e : ∀ n : Nat, (List.replicate n [V.int 0]).flatten = (List.replicate n (0 : Int)).map V.int := by
          intro n
          induction n with
          | zero => rfl
          | succ n ih =>
            rw [List.replicate_succ, List.flatten_cons, ih]
            rfl
        rw [e]
      refine ⟨d0, pk, [], keyS (List.replicate nw 0, .no), rfl, rfl, dnk d0 (List.mem_cons_self ..), sta.key, by decide, fun H6 oa dn => ?_⟩
      have nd0 : H d0 = none := (h4 d0 (List.mem_cons_self ..)).1
      have d0D : D ≠ d0 := (h4 d0 (List.mem_cons_self ..)).2.1.symm
      have l00 : H1 l0 = none := hl0
      have hl6 : H6 l0 = some (.lst []) := by
        have e := (uq.trans (Same.trans s5 uk)) _ _ (upd_same (H := H1) (a := l0) (o := HO.lst []))
        rw [oa l0 (fun z => by rw [z] at e; exact dn_lst (dnk d0 (List.mem_cons_self ..)) _ e)]
        exact e
      have Y0 : Ly P w H H6 D (init0 x.length nw) (d0 :: dr) ([l0] :: List.replicate x.length []) := by
        refine ly_init (by rw [oa D d0D]; exact s1k _ _ h1) hD (fun b o z => ?_) (by simpa using h2) h3 (fun d hd => (h4 d hd).1) dn (fun d hd => ?_) hl6 (same_none hS hl0) (fun z => by rw [z, h1] at hl0; cases hl0)
        · rw [oa b (ne_of_none z nd0)]
          exact s1k _ _ (hS _ _ z)
        · have nd := dnk d (List.mem_cons_of_mem _ hd)
          refine nd.keep (oa d fun z => (List.nodup_cons.mp h3).1 (z ▸ hd)) fun b ys e => ?_
          rw [oa b fun z => dn_tup (dnk d0 (List.mem_cons_self ..)) _ (by rw [← z]; exact e)]
          exact e
      clear dn hl6 dnk sta kt1
      generalize hds : d0 :: dr = ds at Y0
      clear hds
      generalize [l0] :: List.replicate x.length [] = as at Y0
      refine ⟨_, rfl, x, rfl, hl, _, rfl, by omega, by omega, for_it walk_range (fun i σ H' => ∃ (v3 v5 v6 v7 v8 v9 v10 : Option V) (as : List (List Addr)), σ = [some (.ref f), some (.str x), some (.int (nw : Int)), v3, some (.ref D), v5, v6, v7, v8, v9, v10] ∧
        Ly P w H H' D (trF fr x nw i) ds as ∧ Wl fr x nw last (trF fr x nw i) ∧ tot (trF fr x nw i) ≤ i * 51840) ⟨none, none, none, none, none, none, none, as, rfl, Y0, wl_init fr x nw last, by rw [show trF fr x nw 0 = init0 x.length nw from rfl, tot_init]; omega⟩ (fun _ _ _ _ _ => trivial) ?_ ?_⟩
      · clear Y0 as
        rintro i y σ Hz H3 hi ⟨v3, v5, v6, v7, v8, v9, v10, as, rfl, Y, W, tt⟩ ⟨rfl, rfl⟩
        have ev : (fun i : Nat => V.int (0 + (i : Int))) i = V.int (i : Int) := by
          show V.int (0 + (i : Int)) = _
          rw [Int.zero_add]
        rw [ev]
        have hi : i < x.length := by simpa using hi
        refine ⟨_, rfl, _, rfl, _, rfl, _, rfl, f, fr, last, x, i, nw, rfl, fa.same Y.s, fm, x60, by omega, n3, fun H4 pF F4 => ?_⟩
        have Y4 := Y.same F4.s
        obtain ⟨tf, ef, af⟩ := F4.e
        rw [trF_succ]
        have hLs : (trF fr x nw i)[i]? = some ((trF fr x nw i)[i]'(by rw [W.len]; omega)) := List.getElem?_eq_getElem _
        generalize (trF fr x nw i)[i]'(by rw [W.len]; omega) = L at hLs
        generalize hTr : trF fr x nw i = Ls at Y Y4 W tt hLs
        have jd : i < ds.length := by rw [Y.dl, W.len]; omega
        have ja : i < as.length := by rw [Y.al, W.len]; omega
        have hd := List.getElem?_eq_getElem jd
        have ha := List.getElem?_eq_getElem ja
        generalize ds[i] = d at hd
        generalize as[i] = a at ha
        obtain ⟨la, dn⟩ := Y4.dd i d L a hd hLs ha
        have kl : a.length = (L.map (·.1)).length := by rw [List.length_map]; exact la
        refine ⟨_, rfl, _, rfl, D, _, (i : Int), .ref d, rfl, rfl, SqL.of Y4.hp, atI_nat (by rw [List.getElem?_map, hd]; rfl), d, _, rfl, dn.rd, fun pS bs hS keys => ⟨pS, rfl, ⟨_, SqL.of upd_same⟩, ?_⟩⟩
        have uS := same_upd (o := HO.lst (bs.map V.ref)) hS
        have Y5 := Y4.same uS
        obtain ⟨HB, YB, sB, kB, eB⟩ := Y5.rebase
        have nwn : ∀ {c : Addr} {Hx : Hp} {asx : List (List Addr)} {Lx : List Layer}, Ly P w H Hx D Lx ds asx → Hx c = none → c ≠ D ∧ (∀ d ∈ ds, c ≠ d) ∧ ∀ (j i : Nat) a b, asx[j]? = some a → a[i]? = some b → c ≠ b := fun {c Hx asx Lx} y h => by
          refine ⟨fun z => ?_, fun d hd z => ?_, fun j i a b h1 h2 z => ?_⟩
          · rw [z, y.hp] at h; cases h
          · obtain ⟨_, _, _, _, _, _, _, dn⟩ := y.dsome hd
            obtain ⟨o, e⟩ := dn_some dn
            rw [z, e] at h; cases h
          · obtain ⟨ts, e⟩ := y.lsome h1 h2
            rw [z, e] at h; cases h
        have bF : HB pF = some (.lst (tf.map V.ref)) := by
          obtain ⟨c1, c2, c3⟩ := nwn Y F4.n
          exact eB pF _ (uS _ _ ef) c1 c2 c3
        have bS : HB pS = some (.lst (bs.map V.ref)) := by
          obtain ⟨c1, c2, c3⟩ := nwn Y4 hS
          exact eB pS _ upd_same c1 c2 c3
        have kF : KeepT H4 HB := fun c xs e => kB _ _ (uS _ _ e)
        have aF : At2 HB tf (fitsF fr x i nw) := af.keep kF
        have eOk : ∀ e ∈ fitsF fr x i nw, EOk fr x nw i e := fitsF_ok (Nat.le_refl _)
        have lF : (fitsF fr x i nw).length ≤ 48 := by
          have a := fitsF_len fr x i nw
          have l1 := fm.l1
          have b : nw * fr.length ≤ 3 * 16 := Nat.mul_le_mul n3 l1
          omega
        have lK : (L.map (·.1)).length ≤ 1080 := by rw [List.length_map]; exact layer_few n3 fm.l5 (W.nd i L hLs) (W.so i L hLs)
        have lB := keysN_len kl keys
        have eP : perI fr x nw Ls i = (L.map (·.1)).foldl (perS fr x nw i) Ls := by unfold perI; rw [getD_at hLs]
        rw [eP]
        refine for_it (walk_list (xs := bs.map V.ref)) (fun k σ H' => ∃ (v6 v7 v8 v9 v10 : Option V) (as : List (List Addr)), σ = [some (.ref f), some (.str x), some (.int (nw : Int)), some (.int (i : Int)), some (.ref D), some (.ref pF), v6, v7, v8, v9, v10] ∧
          Ly P w HB H' D (((L.map (·.1)).take k).foldl (perS fr x nw i) Ls) ds as ∧ Wl fr x nw last (((L.map (·.1)).take k).foldl (perS fr x nw i) Ls) ∧ tot (((L.map (·.1)).take k).foldl (perS fr x nw i) Ls) ≤ i * 51840 + k * 48 ∧
          ∀ s ∈ L.map (·.1), ∃ L', (((L.map (·.1)).take k).foldl (perS fr x nw i) Ls)[i]? = some L' ∧ s ∈ L'.map (·.1))
          ⟨v6, v7, v8, v9, v10, as, rfl, YB, W, Nat.le_trans tt (Nat.le_add_right _ _), fun s hs => ⟨L, hLs, hs⟩⟩ (fun k σ H' _ ⟨_, _, _, _, _, _, _, y, _⟩ => SqL.of (y.s _ _ bS)) ?_ ?_
        · clear YB Y5 Y4
          rintro k y σ Hz H6 hk ⟨v6, v7, v8, v9, v10, as, rfl, Y, W, tt, ky⟩ ⟨rfl, hy⟩
          have hk2 : k < bs.length := by simpa using hk
          obtain ⟨b, hb, rfl⟩ : ∃ b, bs[k]? = some b ∧ y = .ref b := by
            have hy : (bs.map V.ref)[k]? = some y := hy
            rw [List.getElem?_map, List.getElem?_eq_getElem hk2] at hy
            exact ⟨_, List.getElem?_eq_getElem hk2, (Option.some.inj hy).symm⟩
          have hks : (L.map (·.1))[k]? = some ((L.map (·.1))[k]'(by omega)) := List.getElem?_eq_getElem _
          generalize (L.map (·.1))[k]'(by omega) = s0 at hks
          have stB : StA HB b s0 := (keysN_at kl keys hb hks).keep kF
          have s0ok : StOk nw last s0 := by
            obtain ⟨L', h1, h2⟩ := ky s0 (List.mem_of_getElem? hks)
            obtain ⟨e, he, rfl⟩ := List.mem_map.mp h2
            exact W.so i L' h1 e he
          rw [fold_one hks]
          have ms := List.mem_of_getElem? hks
          generalize ((L.map (·.1)).take k).foldl (perS fr x nw i) Ls = Lk at Y W tt ky
          refine ⟨_, rfl, pF, rfl, ⟨_, SqL.of (Y.s _ _ bF)⟩, for_it (walk_list (xs := tf.map V.ref)) (fun j σ H' => ∃ (v7 v8 v9 v10 : Option V) (as : List (List Addr)), σ = [some (.ref f), some (.str x), some (.int (nw : Int)), some (.int (i : Int)), some (.ref D), some (.ref pF), some (.ref b), v7, v8, v9, v10] ∧
            Ly P w HB H' D (((fitsF fr x i nw).take j).foldl (perE fr i s0) Lk) ds as ∧ Wl fr x nw last (((fitsF fr x i nw).take j).foldl (perE fr i s0) Lk) ∧ tot (((fitsF fr x i nw).take j).foldl (perE fr i s0) Lk) ≤ i * 51840 + k * 48 + j ∧
            ∀ s ∈ L.map (·.1), ∃ L', (((fitsF fr x i nw).take j).foldl (perE fr i s0) Lk)[i]? = some L' ∧ s ∈ L'.map (·.1))
            ⟨v7, v8, v9, v10, as, rfl, Y, W, Nat.le_trans tt (Nat.le_add_right _ _), ky⟩ (fun k σ H' _ ⟨_, _, _, _, _, _, y, _⟩ => SqL.of (y.s _ _ bF)) ?_ ?_⟩
          · clear Y W tt ky
            rintro j y σ Hz H7 hj ⟨v7, v8, v9, v10, as, rfl, Y, W, tt, ky⟩ ⟨rfl, hy⟩
            have hj2 : j < tf.length := by simpa using hj
            obtain ⟨te, hte, rfl⟩ : ∃ te, tf[j]? = some te ∧ y = .ref te := by
              have hy : (tf.map V.ref)[j]? = some y := hy
              rw [List.getElem?_map, List.getElem?_eq_getElem hj2] at hy
              exact ⟨_, List.getElem?_eq_getElem hj2, (Option.some.inj hy).symm⟩
            have hej : (fitsF fr x i nw)[j]? = some ((fitsF fr x i nw)[j]'(by rw [← aF.1]; exact hj2)) := List.getElem?_eq_getElem _
            generalize (fitsF fr x i nw)[j]'(by rw [← aF.1]; exact hj2) = e at hej
            have e2 := aF.2 j te e hte hej
            have eo := eOk e (List.mem_of_getElem? hej)
            rw [fold_one hej]
            generalize ((fitsF fr x i nw).take j).foldl (perE fr i s0) Lk = Lj at Y W tt ky
            obtain ⟨ts, tp, hf, hta, h3, hm⟩ := stt_at (fa.same (sB.trans Y.s)) eo.b0 eo.b1
            have stp := fm.stp _ hm
            have lo := fm.lo _ hm
            have pl := pc_len stp.2.2.1
            obtain ⟨sp, es1, es2⟩ := stB
            have sl3 : s0.1.length = nw := s0ok.l
            refine ⟨te, _, rfl, SqT.of (Y.s _ _ e2), rfl, _, _, rfl, _, _, rfl, rfl, ?_⟩
            refine ⟨_, rfl, _, rfl, f, _, e.2, .ref tp, rfl, rfl, SqT.of hf, hta, tp, _, 0, _, rfl, rfl, SqT.of h3, atI_nat (j := 0) rfl, _, rfl, b, _, 0, .ref sp, rfl, rfl, SqT.of (Y.s _ _ es1), atI_nat (j := 0) rfl, _, rfl, sp, _, e.1, .int (stdS s0 e.1), rfl, rfl, SqT.of (Y.s _ _ es2), stdS_at eo.a0 (by rw [sl3]; exact eo.a1), rfl, _, rfl, ?_⟩
            by_cases c : (stt fr e.2).1 = stdS s0 e.1
            · refine iteT' (by rw [c]; exact decide_eq_true rfl) ?_
              have fe := fit_end eo.f pl.1
              have hj3 : i + (stt fr e.2).2.1.length < Lj.length := by rw [W.len]; omega
              have hL3 : Lj[i + (stt fr e.2).2.1.length]? = some (Lj[i + (stt fr e.2).2.1.length]) := List.getElem?_eq_getElem hj3
              generalize Lj[i + (stt fr e.2).2.1.length] = L3 at hL3
              have hd3 : ds[i + (stt fr e.2).2.1.length]? = some (ds[i + (stt fr e.2).2.1.length]'(by rw [Y.dl]; exact hj3)) := List.getElem?_eq_getElem _
              generalize ds[i + (stt fr e.2).2.1.length]'(by rw [Y.dl]; exact hj3) = d3 at hd3
              have ha3 : as[i + (stt fr e.2).2.1.length]? = some (as[i + (stt fr e.2).2.1.length]'(by rw [Y.al]; exact hj3)) := List.getElem?_eq_getElem _
              generalize as[i + (stt fr e.2).2.1.length]'(by rw [Y.al]; exact hj3) = a3 at ha3
              refine ⟨_, rfl, _, rfl, _, rfl, _, rfl, f, _, e.2, .ref tp, rfl, rfl, SqT.of hf, hta, tp, _, 1, _, rfl, rfl, SqT.of h3, atI_nat (j := 1) rfl, (stt fr e.2).2.1, rfl, by rw [sizeLine_eq]; omega, _, _, rfl, rfl, D, _, _, .ref d3, rfl, rfl, SqL.of Y.hp, atI_nat (j := i + (stt fr e.2).2.1.length) (by rw [List.getElem?_map, hd3]; rfl), ?_⟩
              refine ⟨_, rfl, _, rfl, _, rfl, _, rfl, f, _, e.2, .ref tp, rfl, rfl, SqT.of hf, hta, b, tp, s0, e.1, stt fr e.2, rfl, ⟨sp, Y.s _ _ es1, Y.s _ _ es2⟩, h3, eo.a0, by rw [sl3]; exact eo.a1, by rw [sl3]; exact n3, fun H8 pb s8 st8 => ?_⟩
              have Y8 := Y.same s8
              have hea : perE fr i s0 Lj e = Lj.set (i + (stt fr e.2).2.1.length) (putL L3 (behS s0 e.1 (stt fr e.2)) (i, s0, e)) := by
                have z : perE fr i s0 Lj e = addT Lj (i + (stt fr e.2).2.1.length) (behS s0 e.1 (stt fr e.2)) (i, s0, e) := if_pos c
                rw [z, addT_at hL3]
              have kOk : StOk nw last (behS s0 e.1 (stt fr e.2)) := behS_ok s0ok eo.a0 eo.a1 ⟨stp.2.2.2.1, lo.2⟩
              have W8 := W.add (t := (i, s0, e)) hL3 kOk ⟨eo, ky s0 ms, c, rfl, rfl⟩
              have T8 : tot (Lj.set (i + (stt fr e.2).2.1.length) (putL L3 (behS s0 e.1 (stt fr e.2)) (i, s0, e))) = tot Lj + 1 := tot_set hL3 (totL_put _ _ _)
              have ky8 : ∀ s ∈ L.map (·.1), ∃ L', (Lj.set (i + (stt fr e.2).2.1.length) (putL L3 (behS s0 e.1 (stt fr e.2)) (i, s0, e)))[i]? = some L' ∧ s ∈ L'.map (·.1) := fun s hs => Wl.keyed (fr := fr) (x := x) (nw := nw) (last := last) hL3 (ky s hs)
              rw [hea]
              have pc := putL_cases (behS s0 e.1 (stt fr e.2)) (i, s0, e) L3
              generalize putL L3 (behS s0 e.1 (stt fr e.2)) (i, s0, e) = L4 at W8 T8 ky8 pc ⊢
              generalize hj4 : i + (stt fr e.2).2.1.length = j4 at hL3 hd3 ha3 W8 T8 ky8
              obtain ⟨la3, dn8⟩ := Y8.dd j4 d3 L3 a3 hd3 hL3 ha3
              have l3 : L3.length ≤ 1080 := layer_few n3 fm.l5 (W.nd j4 L3 hL3) (W.so j4 L3 hL3)
              have kl3 : a3.length = (L3.map (·.1)).length := by rw [List.length_map]; exact la3
              generalize behS s0 e.1 (stt fr e.2) = kk at st8 pc
              refine ⟨_, rfl, d3, _, rfl, dn8.rd, _, rfl, by decide, fun l0 hl0 => ?_⟩
              have u9 := same_upd (o := HO.lst []) hl0
              have Y9 := Y8.same u9
              have dn9 := (Y9.dd j4 d3 L3 a3 hd3 hL3 ha3).2
              refine ⟨pb, _, keyS kk, rfl, dn9, (st8.keep (Same.keepT u9)).key, by rw [kvF_len kl3, List.length_map, sizeLine_eq]; omega, fun v hv => ?_, fun hn H10 oa dn10 => ?_⟩
              · rcases pc with ⟨i3, e3, q1, q2, q3⟩ | ⟨q1, _⟩
                · have ib : i3 < a3.length := by rw [la3]; exact (List.getElem?_eq_some_iff.mp q1).1
                  have hb3 := List.getElem?_eq_getElem ib
                  generalize a3[i3] = b3 at hb3
                  have hk3 : (L3.map (·.1))[i3]? = some kk := by rw [List.getElem?_map, q1, ← q2]; rfl
                  rw [kvF_at (W.nd j4 L3 hL3) hk3 hb3] at hv
                  cases hv
                  obtain ⟨⟨t3, eb, at3⟩, _⟩ := Y9.ll j4 L3 a3 i3 b3 e3 hL3 ha3 hb3 q1
                  refine ⟨.inl ⟨rfl, _, SqL.of eb⟩, _, rfl, _, rfl, _, rfl, _, rfl, (by show 2 ≤ sizeLine; decide), fun p1 hp1 => ⟨(by show 3 ≤ sizeLine; decide), fun p2 hp2 => ?_⟩⟩
                  have v1 := same_upd (o := HO.tup [V.int e.1, V.int e.2]) hp1
                  have v2 := same_upd (o := HO.tup [V.int (i : Int), V.ref b, V.ref p1]) hp2
                  have Y11 := (Y9.same v1).same v2
                  have eb2 := v2 _ _ (v1 _ _ eb)
                  have lt3 : t3.length ≤ 16000000 := by
                    rw [at3.1]
                    have a1 := len_totL (List.mem_of_getElem? q1)
                    have a2 := totL_tot (List.mem_of_getElem? hL3)
                    have a4 : i * 51840 ≤ 60 * 51840 := Nat.mul_le_mul (by omega) (Nat.le_refl _)
                    have a5 : k * 48 ≤ 1080 * 48 := Nat.mul_le_mul (by omega) (Nat.le_refl _)
                    have a6 : j ≤ 48 := by
                      have := (List.getElem?_eq_some_iff.mp hej).1
                      omega
                    omega
                  refine ⟨b3, t3.map V.ref, _, rfl, rfl, eb2, by rw [List.length_map, sizeLine_eq]; omega, ?_⟩
                  have tr : TrA (upd (upd (upd H8 l0 (.lst [])) p1 (.tup [V.int e.1, V.int e.2])) p2 (.tup [V.int (i : Int), V.ref b, V.ref p1])) p2 (i, s0, e) := by
                    refine ⟨b, p1, upd_same, StA.keep (H := HB) ⟨sp, es1, es2⟩ fun c xs z => ?_, v2 _ _ upd_same⟩
                    exact v2 _ _ (v1 _ _ (u9 _ _ (s8 _ _ (Y.s _ _ z))))
                  have Y12 := Y11.old hL3 ha3 hb3 q1 eb2 (at3.keep ((Same.keepT v1).trans (Same.keepT v2))) tr
                  rw [q2, ← q3] at Y12
                  exact ⟨_, _, _, _, as, rfl, Y12, W8, by rw [T8]; omega, ky8⟩
                · rw [kvF_none q1] at hv
                  cases hv
              · rcases pc with ⟨i3, e3, q1, q2, q3⟩ | ⟨q1, q3⟩
                · have ib : i3 < a3.length := by rw [la3]; exact (List.getElem?_eq_some_iff.mp q1).1
                  have hk3 : (L3.map (·.1))[i3]? = some kk := by rw [List.getElem?_map, q1, ← q2]; rfl
                  rw [kvF_at (W.nd j4 L3 hL3) hk3 (List.getElem?_eq_getElem ib)] at hn
                  cases hn
                · obtain ⟨o3, eo3⟩ := dn_some dn8
                  have nl0 : l0 ≠ d3 := fun z => by rw [z, eo3] at hl0; cases hl0
                  have hl10 : H10 l0 = some (.lst []) := by
                    rw [oa l0 nl0]
                    exact upd_same
                  refine ⟨.inl ⟨rfl, _, SqL.of hl10⟩, _, rfl, _, rfl, _, rfl, _, rfl, (by show 2 ≤ sizeLine; decide), fun p1 hp1 => ⟨(by show 3 ≤ sizeLine; decide), fun p2 hp2 => ?_⟩⟩
                  have v1 := same_upd (o := HO.tup [V.int e.1, V.int e.2]) hp1
                  have v2 := same_upd (o := HO.tup [V.int (i : Int), V.ref b, V.ref p1]) hp2
                  have el := v2 _ _ (v1 _ _ hl10)
                  refine ⟨l0, [], _, rfl, rfl, el, by decide, ?_⟩
                  have keepC : ∀ c o, H8 c = some o → c ≠ d3 → upd (upd (upd H10 p1 (.tup [V.int e.1, V.int e.2])) p2 (.tup [V.int (i : Int), V.ref b, V.ref p1])) l0 (.lst ([] ++ [V.ref p2])) c = some o := fun c o z nz => by
                    rw [upd_ne (ne_of_none z hl0)]
                    have z9 : H10 c = some o := by rw [oa c nz]; exact u9 _ _ z
                    exact v2 _ _ (v1 _ _ z9)
                  have k10 : KeepT H10 (upd (upd (upd H10 p1 (.tup [V.int e.1, V.int e.2])) p2 (.tup [V.int (i : Int), V.ref b, V.ref p1])) l0 (.lst ([] ++ [V.ref p2]))) := ((Same.keepT v1).trans (Same.keepT v2)).trans (keepT_upd el (fun xs z => by cases z))
                  have k8 : KeepT H8 (upd (upd (upd H10 p1 (.tup [V.int e.1, V.int e.2])) p2 (.tup [V.int (i : Int), V.ref b, V.ref p1])) l0 (.lst ([] ++ [V.ref p2]))) := fun c xs z => keepC c _ z fun y => dn_tup dn8 xs (by rw [← y]; exact z)
                  have dB : HB d3 = none := Y8.n0 d3 (List.mem_of_getElem? hd3)
                  have DD : D ≠ d3 := fun z => by
                    have := Y8.hp
                    rw [z] at this
                    exact dn_lst dn8 _ this
                  have tr : TrA (upd (upd (upd H10 p1 (.tup [V.int e.1, V.int e.2])) p2 (.tup [V.int (i : Int), V.ref b, V.ref p1])) l0 (.lst ([] ++ [V.ref p2]))) p2 (i, s0, e) := by
                    have p2l : p2 ≠ l0 := fun z => by
                      have := v1 _ _ hl10
                      rw [← z, hp2] at this
                      cases this
                    have p1l : p1 ≠ l0 := fun z => by rw [z, hl10] at hp1; cases hp1
                    refine ⟨b, p1, by rw [upd_ne p2l]; exact upd_same, StA.keep (H := HB) ⟨sp, es1, es2⟩ fun c xs z => k8 _ _ (s8 _ _ (Y.s _ _ z)), ?_⟩
                    show upd _ l0 _ p1 = _
                    rw [upd_ne p1l]
                    exact v2 _ _ upd_same
                  have Y13 := Y8.new (k := kk) (u := (i, s0, e)) hd3 hL3 ha3 hl0 (fun c o z => keepC c o (Y8.s _ _ z) (ne_of_none z dB)) k8 (by rw [Y8.hp]; exact keepC _ _ Y8.hp DD)
                    (fun c hc nc => by
                      obtain ⟨_, _, _, _, _, _, _, dz⟩ := Y8.dsome hc
                      obtain ⟨o, ez⟩ := dn_some dz
                      rw [ez]
                      exact keepC c o ez nc)
                    (fun j5 i5 a5 c h1 h2 => by
                      obtain ⟨t5, ez⟩ := Y8.lsome h1 h2
                      rw [ez]
                      exact keepC c _ ez fun z => dn_lst dn8 _ (by rw [← z]; exact ez))
                    (by
                      rw [kvF_snoc kl3, ← putK_new (V.ref l0) hn]
                      exact dn10.keep (by
                        obtain ⟨o, ez⟩ := dn_some dn10
                        rw [upd_ne (fun z => nl0 z.symm), ez]
                        exact v2 _ _ (v1 _ _ ez)) k10)
                    (trs_one upd_same tr)
                  rw [← q3] at Y13
                  exact ⟨_, _, _, _, _, rfl, Y13, W8, by rw [T8]; omega, ky8⟩
            · refine iteF' (decide_eq_false fun z => c (by injection z)) ?_
              have ep : perE fr i s0 Lj e = Lj := if_neg c
              rw [ep]
              exact ⟨_, _, _, _, as, rfl, Y, W, Nat.le_trans tt (Nat.le_succ _), ky⟩
          · rintro σ H7 ⟨v7, v8, v9, v10, as, rfl, Y, W, tt, ky⟩
            rw [List.length_map, aF.1, List.take_length] at Y W tt ky
            exact ⟨_, _, _, _, _, as, rfl, Y, W, by rw [show (k + 1) * 48 = k * 48 + 48 by omega]; exact Nat.le_trans tt (by omega), ky⟩
        · rintro σ H6 ⟨v6, v7, v8, v9, v10, as, rfl, Y, W, tt, ky⟩
          rw [List.length_map, lB, List.take_length] at Y W tt
          refine ⟨_, _, _, _, _, _, _, as, rfl, Y.weak sB, W, Nat.le_trans tt ?_⟩
          have : (L.map (·.1)).length * 48 ≤ 1080 * 48 := Nat.mul_le_mul lK (Nat.le_refl _)
          omega
      · rintro σ H2 ⟨v3, v5, v6, v7, v8, v9, v10, as, rfl, Y, W, tt⟩
        rw [Int.toNat_natCast] at Y W
        exact ⟨_, rfl, q H2 D ds as Y W⟩
end
end K37

set_option Elab.async false
set_option linter.all false
set_option maxRecDepth 100000
set_option maxHeartbeats 8000000
/-! checked_traces, possible. -/
namespace K37
open PySem L2 L2.EV
abbrev sChecked : Stmt := top 36
abbrev sPossible : Stmt := top 37
/-- what is asked of the arguments -/
structure Ags (H : Hp) (vs : List V) (fr : List T3) (o : Option (Str × Nat)) : Prop where
  ex : ∃ (f : Addr) (last : Nat) (v u : V) (d1 d2 : PyData), vs = [.ref f, v, u] ∧ FrA H f fr ∧ Frm fr last ∧ Da H v d1 ∧ Shrt d1 ∧ Da H u d2 ∧
    o = match fileT d1, fewD d2 with
      | some x, some n => some (x, n.toNat)
      | _, _ => none
def spChecked (P : Program) (w : World) (C : Addr) : Sp := fun vs H Q E => ∃ (fr : List T3) (o : Option (Str × Nat)), Ags H vs fr o ∧ match o with
  | some (x, nw) => ∀ last H' p ds as, Frm fr last → x.length ≤ 60 → 1 ≤ nw → nw ≤ 3 → Ly P w H H' p (trF fr x nw x.length) ds as → Wl fr x nw last (trF fr x nw x.length) → Q (.ref p) H'
  | none => Eo C E H
theorem at_end2 {ds : List Addr} {n : Nat} {d : Addr} (hl : ds.length = n + 1) (hd : ds[n]? = some d) : atI (ds.map V.ref) (-1) = some (.ref d) := by
  have e : ds = ds.take n ++ [d] := by
    have := take_one hd
    rw [List.take_of_length_le (by omega)] at this
    exact this
  rw [e, List.map_append]
  exact atI_last _ _
def endF (fr : List T3) (x : Str) (nw : Nat) : Layer := (trF fr x nw x.length).getD x.length []
def possF (fr : List T3) (x : Str) (nw : Nat) : Bool := decide (0 < (endF fr x nw).length)
def spPossible (C : Addr) : Sp := fun vs H Q E => ∃ (fr : List T3) (o : Option (Str × Nat)), Ags H vs fr o ∧ match o with
  | some (x, nw) => ∀ H', Same H H' → Q (.bl (possF fr x nw)) H'
  | none => Eo C E H
structure Cf (K : PySem.W.Frag) (mg : Str → Option Value) where
  T : Tf K mg
  f : Addr
  d : FuncData
  F : Fun K "checked_traces" "checked_traces" sChecked f d
  b : Binds K d ["framing", "text", "writers"] []
  m : mg "checked_traces" = some (.ref f)
section
variable {P : Program} {w : World} {K : PySem.W.Frag} {mg : Str → Option Value} {base : Heap}
theorem scChecked : FnScope ["framing", "text", "writers"] ["framing", "text", "writers"] (defScope sChecked) := ⟨rfl, rfl, rfl, by decide +kernel, rfl, by decide +kernel, by decide +kernel⟩
theorem scPossible : FnScope ["framing", "text", "writers"] ["framing", "text", "writers"] (defScope sPossible) := ⟨rfl, rfl, rfl, by decide +kernel, rfl, by decide +kernel, by decide +kernel⟩
theorem ok_checked (T : Cf K mg) : FnOk P w K mg base (L2.CX P w) 5 T.f T.d ["framing", "text", "writers"] (spChecked P w T.T.G.S.Y.O.C) := by
  have GN : FnOk P w K mg base CX0 3 T.T.G.S.Y.Z.fF T.T.G.S.Y.Z.dF ["thing"] spNeedF := ok_needF T.T.G.S.Y.Z
  have GT : FnOk P w K mg base (L2.CX P w) 4 T.T.G.S.Y.fT T.T.G.S.Y.dT ["thing"] (spNFT T.T.G.S.Y.O.C) := ok_NFT T.T.G.S.Y
  have GW : FnOk P w K mg base (L2.CX P w) 4 T.T.G.S.Y.fW T.T.G.S.Y.dW ["thing"] (spNFW T.T.G.S.Y.O.C) := ok_NFW T.T.G.S.Y
  have GR : FnOk P w K mg base CX0 3 T.T.f T.T.d ["framing", "text", "writers"] (spTraces P w) := ok_traces T.T
  refine T.F.okX scChecked (fun vs H Q E h => ?_) (fun cdv A outer s H vs Q E hr h => ?_)
  · obtain ⟨fr, o, ⟨f, last, v, u, d1, d2, rfl, _⟩, _⟩ := h
    rfl
  · obtain ⟨fr, o, ⟨f, last, v, u, d1, d2, rfl, fa, fm, da, sh, db, eo⟩, q⟩ := h
    refine ⟨_, pss_cons (ps_expr (pe_call GN (hr.mono (by omega)) (by rfl) T.T.G.S.Y.Z.mF T.T.G.S.Y.Z.F.kp T.T.G.S.Y.Z.bF .nil pass0 (pa_cons (pv 0) pa_nil)))
      (pss_cons (ps_expr (pe_call GT hr (by rfl) T.T.G.S.Y.mT T.T.G.S.Y.T.kp T.T.G.S.Y.bT .nil (passes_call (E := E) (takes_of rfl rfl rfl rfl) fun _ _ _ _ h => h) (pa_cons (pv 1) pa_nil)))
      (pss_cons (ps_expr (pe_call GW hr (by rfl) T.T.G.S.Y.mW T.T.G.S.Y.W.kp T.T.G.S.Y.bW .nil (passes_call (E := E) (takes_of rfl rfl rfl rfl) fun _ _ _ _ h => h) (pa_cons (pv 2) pa_nil)))
      (pss_one (ps_ret (pe_call GR (hr.mono (by omega)) (by rfl) T.T.m T.T.F.kp T.T.b .nil pass0 (pa_cons (pv 0) (pa_cons (pv 1) (pa_cons (pv 2) pa_nil)))))))), ?_⟩
    refine ⟨_, rfl, f, fr, last, rfl, fa, fm, fun H1 s1 => ?_⟩
    refine ⟨_, rfl, v, d1, rfl, Da.same s1 _ _ da, sh, ?_⟩
    cases e1 : fileT d1 with
    | none =>
      rw [e1] at eo
      have eo : o = none := by rw [eo]
      rw [eo] at q
      exact Eo.same q s1
    | some x =>
      intro H2 s2
      have s12 := Same.trans s1 s2
      refine ⟨_, rfl, u, d2, rfl, Da.same s12 _ _ db, ?_⟩
      cases e2 : fewD d2 with
      | none =>
        rw [e1, e2] at eo
        have eo : o = none := eo
        rw [eo] at q
        exact Eo.same q s12
      | some n =>
        intro H3 s3
        have s13 := Same.trans s12 s3
        rw [e1, e2] at eo
        have eo : o = some (x, n.toNat) := eo
        rw [eo] at q
        obtain ⟨rfl, x60, _⟩ := fileT_some e1
        obtain ⟨rfl, n1, n3⟩ := fewD_some e2
        obtain rfl : v = .str x := by cases da; rfl
        obtain rfl : u = .int n := by cases db; rfl
        obtain ⟨k, rfl⟩ := Int.eq_ofNat_of_zero_le (show 0 ≤ n by omega)
        refine ⟨_, rfl, _, rfl, _, rfl, f, fr, last, x, k, rfl, fa.same s13, fm, x60, by omega, by omega, fun H' p ds as Y W => ?_⟩
        exact q last H' p ds as fm x60 (by omega) (by omega) (Y.weak s13) W
theorem ok_possible (T : Cf K mg) {f : Addr} {d : FuncData} (F : Fun K "possible" "possible" sPossible f d) : FnOk P w K mg base (L2.CX P w) 6 f d ["framing", "text", "writers"] (spPossible T.T.G.S.Y.O.C) := by
  have GC : FnOk P w K mg base (L2.CX P w) 5 T.f T.d ["framing", "text", "writers"] (spChecked P w T.T.G.S.Y.O.C) := ok_checked T
  refine F.okX scPossible (fun vs H Q E h => ?_) (fun cdv A outer s H vs Q E hr h => ?_)
  · obtain ⟨fr, o, ⟨f, last, v, u, d1, d2, rfl, _⟩, _⟩ := h
    rfl
  · obtain ⟨fr, o, ag, q⟩ := h
    obtain ⟨f, last, v, u, d1, d2, rfl, _⟩ := id ag.ex
    refine ⟨_, pss_one (ps_ret (pe_cmpR op_gt (pe_callB (call_len_dN (B := false)) (by rfl) T.T.G.S.Y.Z.T.len PySem.boot_len (pa_cons (pe_ix ix_list (pe_call GC hr (by rfl) T.m T.F.kp T.b .nil (passes_call (E := E) (takes_of rfl rfl rfl rfl) fun _ _ _ _ h => h) (pa_cons (pv 0) (pa_cons (pv 1) (pa_cons (pv 2) pa_nil)))) (pe_un un_neg pe_int) (fun _ _ => rfl)) pa_nil)) pe_int (nomark _))), ?_⟩
    refine ⟨_, rfl, _, rfl, _, rfl, fr, o, ag, ?_⟩
    cases o with
    | none => exact q
    | some o =>
      obtain ⟨x, nw⟩ := o
      intro last H' p ds as fm x60 n1 n3 Y W
      have jL : x.length < (trF fr x nw x.length).length := by rw [W.len]; omega
      have hL := List.getElem?_eq_getElem jL
      generalize (trF fr x nw x.length)[x.length] = L at hL
      have hd : ds[x.length]? = some (ds[x.length]'(by rw [Y.dl]; exact jL)) := List.getElem?_eq_getElem _
      generalize ds[x.length]'(by rw [Y.dl]; exact jL) = dl at hd
      have ha : as[x.length]? = some (as[x.length]'(by rw [Y.al]; exact jL)) := List.getElem?_eq_getElem _
      generalize as[x.length]'(by rw [Y.al]; exact jL) = al at ha
      obtain ⟨la, dn⟩ := Y.dd _ _ _ _ hd hL ha
      refine ⟨_, rfl, p, _, -1, .ref dl, rfl, rfl, SqL.of Y.hp, at_end2 (by rw [Y.dl, W.len]) hd, dl, _, rfl, dn.rd, _, _, rfl, rfl, ?_⟩
      have z := q H' Y.s
      have e : possF fr x nw = decide ((0 : Int) < (((kvF (L.map (·.1)) al).length : Nat) : Int)) := by
        unfold possF endF
        rw [kvF_len (by rw [List.length_map]; exact la), List.length_map, getD_at hL]
        by_cases c : 0 < L.length
        · rw [decide_eq_true c, decide_eq_true (by omega)]
        · rw [decide_eq_false c, decide_eq_false (by omega)]
      rw [e] at z
      exact z
end
end K37

set_option Elab.async false
set_option linter.all false
set_option maxRecDepth 100000
set_option maxHeartbeats 8000000
/-! explained. -/
namespace K37
open PySem L2 L2.EV
abbrev sExplained : Stmt := top 38
def seek : Layer → Sx → List Trip
  | [], _ => []
  | e :: L, s => if e.1 = s then e.2 else seek L s
theorem seek_at : ∀ {L : Layer} {i : Nat} {e : Sx × List Trip}, (L.map (·.1)).Nodup → L[i]? = some e → seek L e.1 = e.2
  | [], _, _, _, h => by simp at h
  | a :: L, 0, e, _, h => by
    have h : a = e := by simpa using h
    subst h
    exact if_pos rfl
  | a :: L, i + 1, e, nd, h => by
    have h : L[i]? = some e := by simpa using h
    obtain ⟨n1, n2⟩ := List.nodup_cons.mp (show (a.1 :: L.map (·.1)).Nodup from nd)
    have ne : ¬ a.1 = e.1 := fun z => n1 (by rw [z]; exact List.mem_map.mpr ⟨e, List.mem_of_getElem? h, rfl⟩)
    have : seek (a :: L) e.1 = seek L e.1 := if_neg ne
    rw [this]
    exact seek_at n2 h
/-- the entries that lead to a state, from the last one back -/
def backF (Ls : List Layer) : Nat → Nat → Sx → List E2
  | 0, _, _ => []
  | n + 1, i, s => if i = 0 then [] else match seek (Ls.getD i []) s with
    | [] => []
    | t :: _ => t.2.2 :: backF Ls n t.1 t.2.1
def exF (fr : List T3) (x : Str) (nw : Nat) : Option (List E2) := match endF fr x nw with
  | [] => none
  | e :: _ => some (backF (trF fr x nw x.length) x.length x.length e.1).reverse
/-- a tuple of entries -/
def WvA (H : Hp) (p : Addr) (es : List E2) : Prop := ∃ ts : List Addr, H p = some (.tup (ts.map V.ref)) ∧ At2 H ts es
def spExplained (C : Addr) : Sp := fun vs H Q E => ∃ (fr : List T3) (o : Option (Str × Nat)), Ags H vs fr o ∧ match o with
  | some (x, nw) => match exF fr x nw with
    | none => ∀ H', Same H H' → Q .non H'
    | some es => ∀ H' p, Same H H' → WvA H' p es → Q (.ref p) H'
  | none => Eo C E H
theorem Fl.add {H0 H : Hp} {l t : Addr} {es : List E2} {ts : List Addr} {e : E2} (h : Fl H0 H l es) (el : H l = some (.lst (ts.map V.ref))) (at_ : At2 H ts es) (ht : A2 H t e) : Fl H0 (upd H l (.lst (ts.map V.ref ++ [.ref t]))) l (es ++ [e]) := by
  have k : KeepT H (upd H l (.lst (ts.map V.ref ++ [.ref t]))) := keepT_upd el (fun xs z => by cases z)
  refine ⟨fun c o z => ?_, h.n, ts ++ [t], by rw [List.map_append]; exact upd_same, At2.snoc (at_.keep k) (k _ _ ht)⟩
  rw [upd_ne (ne_of_none z h.n)]
  exact h.s _ _ z
theorem rev_at {α : Type} {l : List α} {i : Nat} {a : α} (h : l.reverse[i]? = some a) : l[l.length - 1 - i]? = some a := by
  have hi : i < l.length := by
    have := (List.getElem?_eq_some_iff.mp h).1
    simpa using this
  rw [List.getElem?_reverse hi] at h
  exact h
theorem At2.rev {H : Hp} {ts : List Addr} {es : List E2} (h : At2 H ts es) : At2 H ts.reverse es.reverse := by
  refine ⟨by rw [List.length_reverse, List.length_reverse, h.1], fun i t e h1 h2 => ?_⟩
  have h1 := rev_at h1
  have h2 := rev_at h2
  rw [← h.1] at h2
  exact h.2 _ t e h1 h2
theorem stt_mem {fr : List T3} {n : Int} (n0 : 0 ≤ n) (n1 : n < fr.length) : stt fr n ∈ fr := by
  obtain ⟨k, rfl⟩ := Int.eq_ofNat_of_zero_le n0
  have k1 : k < fr.length := by omega
  rw [show stt fr (k : Int) = fr[k] from stn_at (List.getElem?_eq_getElem k1)]
  exact List.getElem_mem k1
section
variable {P : Program} {w : World} {K : PySem.W.Frag} {mg : Str → Option Value} {base : Heap}
abbrev NEx : List Str := ["framing", "text", "writers", "layers", "entries", "at", "state", "entry"]
theorem scExplained : FnScope NEx ["framing", "text", "writers"] (defScope sExplained) := ⟨rfl, rfl, rfl, by decide +kernel, rfl, by decide +kernel, by decide +kernel⟩
theorem ok_explained (T : Cf K mg) (tu : mg "tuple" = none) {f : Addr} {d : FuncData} (F : Fun K "explained" "explained" sExplained f d) : FnOk P w K mg base (L2.CX P w) 6 f d ["framing", "text", "writers"] (spExplained T.T.G.S.Y.O.C) := by
  have GC : FnOk P w K mg base (L2.CX P w) 5 T.f T.d ["framing", "text", "writers"] (spChecked P w T.T.G.S.Y.O.C) := ok_checked T
  refine F.okX scExplained (fun vs H Q E h => ?_) (fun cdv A outer s H vs Q E hr h => ?_)
  · obtain ⟨fr, o, ⟨f, last, v, u, d1, d2, rfl, _⟩, _⟩ := h
    rfl
  · obtain ⟨fr, o, ag, q⟩ := h
    obtain ⟨g, last0, v, u, d1, d2, rfl, fa0, fm0, da0, sh0, db0, eo⟩ := id ag.ex
    have hu : (A.deeper (PyProof.Rows.envOfC "explained" (defScope sExplained) s.heap.objs.size f cdv)).units + 9 < cLine := by have := hr.un; omega
    refine ⟨_, pss_cons (ps_set (i := 3) scExplained.nd rfl (Or.inl rfl) (pe_call GC hr (by rfl) T.m T.F.kp T.b .nil (passes_call (E := E) (takes_of rfl rfl rfl rfl) fun _ _ _ _ h => h) (pa_cons (pv 0) (pa_cons (pv 1) (pa_cons (pv 2) pa_nil)))))
      (pss_cons (ps_if (pt_cmpR op_eq (pe_callB (call_len_dN (B := false)) (by rfl) T.T.G.S.Y.Z.T.len PySem.boot_len (pa_cons (pe_ix ix_list (pv 3) (pe_un un_neg pe_int) (fun _ _ => rfl)) pa_nil)) pe_int (nomark _)) (pss_one (ps_ret pe_non)) pss_nil)
      (pss_cons (ps_set (i := 4) scExplained.nd rfl (Or.inl rfl) (pe_lst pa_nil))
      (pss_cons (ps_set (i := 5) scExplained.nd rfl (Or.inl rfl) (pe_callB call_len_str (by rfl) T.T.G.S.Y.Z.T.len PySem.boot_len (pa_cons (pv 1) pa_nil)))
      (pss_cons (ps_set (i := 6) scExplained.nd rfl (Or.inl rfl) (pe_ix ix_list (pe_callTy (call_list_dN (B := false) rfl) (by rfl) T.T.li (by decide +kernel) (pa_cons (pe_ix ix_list (pv 3) (pv 5) (fun _ _ => rfl)) pa_nil)) pe_int (fun _ _ => rfl)))
      (pss_cons (ps_while (passes_of rfl) (pt_cmpR op_gt (pv 5) pe_int (nomark _))
        (pss_cons (ps_asg (pe_ix ix_list (pe_nget (B := false) hu (pe_ix ix_list (pv 3) (pv 5) (fun _ _ => rfl)) (pv 6) (fun _ _ => rfl)) pe_int (fun _ _ => rfl)) (pg_tup rfl (pgs_cons (pg_name (i := 5) scExplained.nd rfl (Or.inl rfl)) (pgs_cons (pg_name (i := 6) scExplained.nd rfl (Or.inl rfl)) (pgs_cons (pg_name (i := 7) scExplained.nd rfl (Or.inl rfl)) pgs_nil)))))
        (pss_one (ps_expr (pe_bm PySem.F.plainAttrs_list PySem.F.slot_list_append PySem.F.type_list_append mt_append (pv 4) (pa_cons (pv 7) pa_nil))))))
      (pss_one (ps_ret (pe_callTy call_tuple_of (by rfl) tu (by decide +kernel) (pa_cons (pe_revL (pv 4)) pa_nil))))))))), ?_⟩
    refine ⟨_, rfl, _, rfl, _, rfl, fr, o, ag, ?_⟩
    cases o with
    | none => exact q
    | some o =>
      obtain ⟨x, nw⟩ := o
      obtain ⟨d1x, rfl⟩ : d1 = .str x ∧ v = .str x := by
        cases e1 : fileT d1 with
        | none => rw [e1] at eo; cases eo
        | some y =>
          cases e2 : fewD d2 with
          | none => rw [e1, e2] at eo; cases eo
          | some n =>
            rw [e1, e2] at eo
            have eo : some (x, nw) = some (y, n.toNat) := eo
            obtain ⟨rfl, _, _⟩ := fileT_some e1
            cases da0
            injection eo with eo
            injection eo with eo _
            rw [eo]
            exact ⟨rfl, rfl⟩
      intro last H1 p ds as fm x60 n1 n3 Y W
      have jL : x.length < (trF fr x nw x.length).length := by rw [W.len]; omega
      have hL := List.getElem?_eq_getElem jL
      have hE : endF fr x nw = (trF fr x nw x.length)[x.length] := getD_at hL
      generalize (trF fr x nw x.length)[x.length] = L at hL hE
      have hd : ds[x.length]? = some (ds[x.length]'(by rw [Y.dl]; exact jL)) := List.getElem?_eq_getElem _
      generalize ds[x.length]'(by rw [Y.dl]; exact jL) = dl at hd
      have ha : as[x.length]? = some (as[x.length]'(by rw [Y.al]; exact jL)) := List.getElem?_eq_getElem _
      generalize as[x.length]'(by rw [Y.al]; exact jL) = al at ha
      obtain ⟨la, dn⟩ := Y.dd _ _ _ _ hd hL ha
      have kl : al.length = (L.map (·.1)).length := by rw [List.length_map]; exact la
      refine ⟨_, rfl, _, rfl, p, _, -1, .ref dl, rfl, rfl, SqL.of Y.hp, at_end2 (by rw [Y.dl, W.len]) hd, dl, _, rfl, dn.rd, rfl, _, rfl, ?_⟩
      have lk : (kvF (L.map (·.1)) al).length = L.length := by rw [kvF_len kl, List.length_map]
      cases L with
      | nil =>
        refine iteT' (by rw [lk]; exact decide_eq_true rfl) ?_
        have e : exF fr x nw = none := by unfold exF; rw [hE]
        simp only [e] at q
        exact q H1 Y.s
      | cons e0 Lr =>
        refine iteF' (by rw [lk]; exact decide_eq_false fun z => by injection z with z; rw [List.length_cons] at z; omega) ?_
        have e : exF fr x nw = some (backF (trF fr x nw x.length) x.length x.length e0.1).reverse := by unfold exF; rw [hE]
        simp only [e] at q
        refine ⟨by decide, fun l hl => ?_⟩
        have ul := same_upd (o := HO.lst []) hl
        have Y2 := Y.same ul
        have dn2 := (Y2.dd _ _ _ _ hd hL ha).2
        refine ⟨_, rfl, x, rfl, by rw [sizeLine_eq]; omega, ?_⟩
        refine ⟨_, rfl, _, rfl, p, _, (x.length : Int), .ref dl, rfl, rfl, SqL.of Y2.hp, atI_nat (by rw [List.getElem?_map, hd]; rfl), dl, _, rfl, dn2.rd, fun pS bs hS keys => ?_⟩
        have lB := keysN_len kl keys
        obtain ⟨b0, br, rfl⟩ : ∃ b0 br, bs = b0 :: br := by
          cases bs with
          | nil => cases lB
          | cons a b => exact ⟨a, b, rfl⟩
        have st0 := keysN_at (k := 0) kl keys rfl rfl
        have uS := same_upd (o := HO.lst ((b0 :: br).map V.ref)) hS
        refine ⟨pS, _, 0, .ref b0, rfl, rfl, SqL.of upd_same, atI_nat (j := 0) rfl, ?_⟩
        refine ⟨fun j σ H' => ∃ (i n : Nat) (st : Sx) (b : Addr) (acc : List E2) (v7 : Option V), j = i ∧ σ = [some (.ref g), some (.str x), some u, some (.ref p), some (.ref l), some (.int (i : Int)), some (.ref b), v7] ∧ i ≤ x.length ∧ i ≤ n ∧ StA H' b st ∧
          (∃ Li, (trF fr x nw x.length)[i]? = some Li ∧ st ∈ Li.map (·.1)) ∧ Fl H1 H' l acc ∧ acc.length + i ≤ x.length ∧ acc ++ backF (trF fr x nw x.length) n i st = backF (trF fr x nw x.length) x.length x.length e0.1,
          ⟨x.length, x.length, x.length, e0.1, b0, [], none, rfl, rfl, Nat.le_refl _, Nat.le_refl _, st0.keep (Same.keepT uS), ⟨_, hL, List.mem_cons_self ..⟩, ⟨ul.trans uS, hl, [], uS _ _ upd_same, rfl, fun i t e z => by simp at z⟩, by simp, rfl⟩, ?_⟩
        rintro i σ H2 ⟨_, n, st, b, acc, v7, rfl, rfl, ix, inn, sb, ⟨Li, hLi, mst⟩, F2, la2, R⟩
        refine ⟨_, rfl, _, _, rfl, rfl, _, rfl, ?_⟩
        have Y3 := Y.same F2.s
        by_cases c : 0 < i
        · refine iteT' (decide_eq_true (by omega)) ?_
          refine ⟨_, fun _ _ z => z, ?_⟩
          obtain ⟨e, he, rfl⟩ := List.mem_map.mp mst
          obtain ⟨mi, hmi⟩ := List.mem_iff_getElem?.mp he
          have jd : i < ds.length := by rw [Y.dl, W.len]; omega
          have ja : i < as.length := by rw [Y.al, W.len]; omega
          have hdi := List.getElem?_eq_getElem jd
          have hai := List.getElem?_eq_getElem ja
          generalize ds[i] = di at hdi
          generalize as[i] = ai at hai
          obtain ⟨lai, dni⟩ := Y3.dd i di Li ai hdi hLi hai
          have ib : mi < ai.length := by rw [lai]; exact (List.getElem?_eq_some_iff.mp hmi).1
          have hbi := List.getElem?_eq_getElem ib
          generalize ai[mi] = bi at hbi
          obtain ⟨⟨tl, ebl, atl⟩, _⟩ := Y3.ll i Li ai mi bi e hLi hai hbi hmi
          obtain ⟨t, rest, et⟩ : ∃ t rest, e.2 = t :: rest := by
            cases z : e.2 with
            | nil => exact absurd z (W.ne i Li hLi c e he)
            | cons a b => exact ⟨a, b, rfl⟩
          have tok := W.to i Li hLi e he t (by rw [et]; exact List.mem_cons_self ..)
          have pl := pc_len (fm.stp _ (stt_mem tok.e.b0 tok.e.b1)).2.2.1
          have tj := tok.j
          obtain ⟨t0, tr, etl⟩ : ∃ t0 tr, tl = t0 :: tr := by
            have := atl.1
            rw [et] at this
            cases tl with
            | nil => cases this
            | cons a b => exact ⟨a, b, rfl⟩
          obtain ⟨sa, ea, z1, z2, z3⟩ := atl.2 0 t0 t (by rw [etl]; rfl) (by rw [et]; rfl)
          have hkm : (Li.map (·.1))[mi]? = some e.1 := by rw [List.getElem?_map, hmi]; rfl
          refine ⟨_, rfl, _, rfl, p, _, (i : Int), .ref di, rfl, rfl, SqL.of Y3.hp, atI_nat (by rw [List.getElem?_map, hdi]; rfl), _, rfl, di, b, _, keyS e.1, .ref bi, rfl, rfl, dni.rd, sb.key, kvF_at (W.nd i Li hLi) hkm hbi, bi, _, 0, .ref t0, rfl, rfl, SqL.of ebl, atI_nat (j := 0) (by rw [etl]; rfl), ?_⟩
          refine ⟨t0, _, rfl, SqT.of z1, rfl, _, _, rfl, _, _, rfl, _, _, rfl, rfl, ?_⟩
          obtain ⟨tsl, el, atE⟩ := F2.e
          refine ⟨_, rfl, .inl ⟨rfl, _, SqL.of el⟩, _, rfl, l, tsl.map V.ref, _, rfl, rfl, el, by rw [List.length_map, sizeLine_eq, atE.1]; omega, ?_⟩
          have F3 := F2.add el atE z3
          obtain ⟨m, rfl⟩ : ∃ m, n = m + 1 := ⟨n - 1, by omega⟩
          have eb : backF (trF fr x nw x.length) (m + 1) i e.1 = t.2.2 :: backF (trF fr x nw x.length) m t.1 t.2.1 := by
            show (if i = 0 then [] else match seek ((trF fr x nw x.length).getD i []) e.1 with
              | [] => []
              | t :: _ => t.2.2 :: backF (trF fr x nw x.length) m t.1 t.2.1) = _
            rw [if_neg (by omega), getD_at hLi, seek_at (W.nd i Li hLi) hmi, et]
          rw [eb] at R
          refine ⟨t.1, by omega, t.1, m, t.2.1, sa, acc ++ [t.2.2], _, rfl, rfl, by omega, by omega, z2.keep (keepT_upd el (fun xs z => by cases z)), tok.s, F3, by rw [List.length_append]; show acc.length + 1 + t.1 ≤ x.length; omega, ?_⟩
          rw [List.append_assoc]
          exact R
        · refine iteF' (decide_eq_false (by omega)) ?_
          obtain ⟨tsl, el, atE⟩ := F2.e
          have e0 : backF (trF fr x nw x.length) n i st = [] := by
            cases n with
            | zero => rfl
            | succ n => exact if_pos (by omega)
          rw [e0, List.append_nil] at R
          refine ⟨_, rfl, l, _, rfl, SqL.of el, fun p2 hp2 => ⟨p2, _, rfl, .inl ⟨SqL.of upd_same, fun p3 hp3 => ?_⟩⟩⟩
          have v2 := same_upd (o := HO.lst (tsl.map V.ref).reverse) hp2
          have v3 := same_upd (o := HO.tup (tsl.map V.ref).reverse) hp3
          refine q _ p3 ((Y.s.trans F2.s).trans (v2.trans v3)) ⟨tsl.reverse, by rw [List.map_reverse]; exact upd_same, ?_⟩
          rw [← R]
          exact (atE.keep ((Same.keepT v2).trans (Same.keepT v3))).rev
end
end K37

set_option Elab.async false
set_option linter.all false
set_option maxRecDepth 100000
set_option maxHeartbeats 4000000
/-! Comprehensions that make a dict whose keys are nested tuples. -/
namespace L2
open PySem PySem.Spec PyProof.Rows
section
variable {B : Bool} {X : Cx} {pins : List (Addr × Obj)} {σ : St} {H : Hp} {s : Shared} {a b : Addr} {v : V} {r : Value} {E : Value → Shared → Prop} {kvs : List (NestedKey × V)} {k : NestedKey}
theorem n_dictSet {Q : Unit → Shared → Prop} (hu : X.A.units + 8 < cLine) (I : Inv X pins σ H s) (e : DN X.prog X.w B H a kvs) (kb : KeyB B H k b) (hl : kvs.length < sizeLine) (rv : RelV v r)
    (h : ∀ H' s', Inv X pins σ H' s' → OnlyAt H H' a → DN X.prog X.w B H' a (putK kvs k v) → Q () s') :
    wpAny (model X.prog X.w) X.A (dictSet a (.ref b) r) Q E s := by
  obtain ⟨xs, rfl, ex, kx⟩ := e
  obtain ⟨zf, _, _⟩ := (show ObjOk X.prog X.w H s.heap a (DNo X.prog X.w a xs) from I.hok a _ ex)
  obtain ⟨z, hd, ys, rel, o, es, ep, h1, h2, h3, h4, h5⟩ := id zf
  have dd : s.heap.DictOfH (nestedKind X.prog X.w) a ys := ⟨o, es, ep, h1, h2, h3, h4, NPair.all I.hok rel kx, h5⟩
  rw [rows1_len] at hl
  refine wpAny_dictSet_heap (hsz := by rw [← Paired.length rel]; exact z) (show X.A.units + 8 < cLine from hu) (kb.is I.hok) dd fun h' dd' hs => ?_
  obtain ⟨H', I', q1, q2⟩ := n_put (t' := s.toks + (nestedKind X.prog X.w).draws k) I ex kx hs zf kb rv hl rel dd'
  exact h H' _ I' q1 q2
end
/-- what one turn of the comprehension is to give: behind it N holds -/
def DcTurn (P : Program) (w : World) (B : Bool) (g : TG) (tk tv : TE) (vs : List Nat) (σ : St) (D : Addr) (N : Hp → Prop) (x : V) (H : Hp) : Prop :=
  g x (wipe σ vs) H fun σ2 H2 => wipe σ2 vs = wipe σ vs ∧ tk σ2 H2 fun y H3 => tv σ2 H3 fun z H4 =>
    ∃ kvs k kb, y = .ref kb ∧ DN P w B H4 D kvs ∧ KeyB B H4 k kb ∧ kvs.length < sizeLine ∧ ∀ H5, OnlyAt H4 H5 D → DN P w B H5 D (putK kvs k z) → N H5
/-- {k: v for target in iter}, keys nested tuples: D the new dict, W what holds ahead of a turn -/
def tDcN (P : Program) (w : World) (B : Bool) (wi : TI) (g : TG) (tk tv : TE) (vs : List Nat) : TE := fun σ H Q => wi σ H fun J H1 => ∀ D, H1 D = none →
  ∃ W : Nat → Nat → Hp → Prop, (∃ m, W 0 m (upd H1 D (DNo P w D []))) ∧ ∀ i m Hx, W i m Hx → (J.stop i Hx ∧ Q (.ref D) Hx) ∨
    (J.go i Hx ∧ ∃ N : Hp → Prop, (∀ Hy, N Hy → ∃ m', m' < m ∧ W (i + 1) m' Hy) ∧ ∀ x Hy, J.yld i Hx x Hy → DcTurn P w B g tk tv vs σ D N x Hy)
section
variable {B : Bool} {X : Cx} {kx vx tg iter : Expr} {scope : Scope} {own : List (Str × Nat)} {pos : Pos} {wi : TI} {g : TG} {tk tv : TE}
/-- the block's context -/
abbrev bCtx (X : Cx) (scope : Scope) (fp : List Addr) (s : Shared) (H : Hp) : Cx := X.blk s H scope (compEnvC scope (cellsFrom (s.heap.objs.size + 1) scope.names (cloFrom X.env.cells scope.names [])) s.heap.objs.size X.env) fp
theorem dcN_loop {pins : List (Addr × Obj)} {s : Shared} {σ : St} {H : Hp} {Q : VK} {fp : List Addr} {it D : Addr} {tn : Nat → Heap → Prop} {J : It} {W : Nat → Nat → Hp → Prop} {m : Nat} (hu : X.A.units + 8 < cLine) (calm : X.calm = true) (hN : X.N.Nodup)
    (I : Inv X pins σ H s) (ok : BlkOk X.N X.env.scope scope own) (T : Turn X.prog X.w X.K tg J fp it tn) (st : tn 0 s.heap) (foot : ∀ b ∈ fp, FpOk X pins H b ∧ b < s.heap.objs.size)
    (pg : PG (bCtx X scope fp s H) tg g) (pk : PE (bCtx X scope fp s H) kx tk) (pv : PE (bCtx X scope fp s H) vx tv) (w0 : W 0 m H)
    (each : ∀ i m Hx, W i m Hx → (J.stop i Hx ∧ Q (.ref D) Hx) ∨ (J.go i Hx ∧ ∃ N : Hp → Prop, (∀ Hy, N Hy → ∃ m', m' < m ∧ W (i + 1) m' Hy) ∧ ∀ x Hy, J.yld i Hx x Hy → DcTurn X.prog X.w B g tk tv (own.map (·.2)) σ D N x Hy)) :
    codeAny (model X.prog X.w) X.A (.compLoop (.DictComp kx vx [⟨tg, iter, [], 0⟩] scope pos) 0 (.ref it) (.ref D) (bCtx X scope fp s H).env) (compPost (model X.prog X.w) X.A X.xe none (EP X pins σ Q) (.ref D) s.heap.objs.size)
      { s with heap := pushCells (s.heap.push { cls := .type "dict", data := .dict #[] }) scope.names } := by
  have IS := block_start I ok hN foot
  have laid : ∀ b o, s.heap.get? b = some o → (pushCells (s.heap.push { cls := .type "dict", data := .dict #[] }) scope.names).get? b = some o := fun b o e => pushCells_keeps _ _ _ _ (Heap.get?_push_of_some _ e)
  have nC : ∀ {σ' Hx s'}, Inv (bCtx X scope fp s H) [] σ' Hx s' → Hx s.heap.objs.size = none := fun {σ' Hx s'} Ix => Ix.free
  have fpB : ∀ {σ' Hx s'}, Inv (bCtx X scope fp s H) [] σ' Hx s' → (∀ b ∈ fp, Hx b = none) → ∀ b ∈ fp, FpOk (bCtx X scope fp s H) [] Hx b := fun {σ' Hx s'} Ix no b hb => by
    obtain ⟨f1, f2⟩ := Ix.ok.exf b hb
    exact ⟨no b hb, f1, Ix.ok.exfs b hb, .inl hb, fun x c e => f2 x c e, fun p hp => absurd hp (by simp [Cx.blk])⟩
  refine compLoop_anyD (fun n s' => ∃ i Hx, W i n Hx ∧ tn i s'.heap ∧ (∀ b ∈ fp, Hx b = none) ∧ Inv (bCtx X scope fp s H) [] (wipe σ (own.map (·.2))) Hx s') ?_ m ⟨0, H, w0, T.keep _ _ _ st fun b _ o e => laid b o e, fun b hb => (foot b hb).1.1, IS⟩
  rintro n sA ⟨i, HA, wA, stA, noA, IA⟩
  rcases each i n HA wA with ⟨hstop, hq⟩ | ⟨hgo, N, less, step⟩
  · refine thnF (T.done (bCtx X scope fp s H) rfl rfl rfl calm i [] sA _ HA (fun _ _ => False) IA (fpB IA noA) stA hstop) ?_
    rintro _ sZ ⟨rfl, IZ⟩
    have back : Inv X pins σ HA sZ := I.call' (ch := fp) IZ.os IZ.base IZ.hok IZ.bare fun b hb => by
      obtain ⟨⟨_, q1, _, q3, q4, q5⟩, _⟩ := foot b hb
      exact ⟨q3, q1, q4, q5⟩
    obtain ⟨mm, hm, _⟩ := IZ.loc
    obtain ⟨_, g1, g2, g3, g4, g5⟩ := I.fpOk (Nat.le_refl _) (nC IZ)
    refine ⟨mm, hm, fun h2 sb => ⟨.ref D, HA, back.turned (t' := sZ.toks) (fun b o hb e => (sb.2 b hb).trans e) (nC IZ) g1 g3 g4 g5, rfl, hq⟩⟩
  · refine thnF (T.item (bCtx X scope fp s H) rfl rfl rfl calm i [] sA _ HA (fun _ _ => False) IA (fpB IA noA) stA hgo) ?_
    rintro _ sB ⟨u, rfl, hB⟩
    refine thnF hB ?_
    rintro _ sC ⟨x, HC, IC, rC, yC, stC, noC⟩
    refine thnF (pg.run _ sC _ HC x u _ (IC.pinned (fpB IC noC) (T.obj _ _ stC)) rC (step x HC yC)) ?_
    rintro _ sE ⟨σE, HE, IE, same, qE⟩
    refine thnF ((pts_nil (X := bCtx X scope fp s H)).run _ sE σE HE (fun b Hx => b = true ∧ Hx = HE) IE ⟨rfl, rfl⟩) ?_
    rintro _ sF ⟨HF, IF, rfl, rfl⟩
    refine thnF (pk.run _ sF σE HF _ IF qE) ?_
    rintro _ sG ⟨y, HG, IG, rG, qG⟩
    refine thnF (pv.run _ sG σE HG _ IG qG) ?_
    rintro _ sH ⟨z, HH, IH, rH, kvs, k, kb, rfl, dn, key, few, put⟩
    obtain rfl := rG
    refine n_dictSet (X := bCtx X scope fp s H) hu IH dn key few rH fun HI sI II oa dn2 => ?_
    obtain ⟨m2, lt, w2⟩ := less HI (put HI oa dn2)
    have held : ∀ b ∈ fp, ∀ o, sC.heap.get? b = some o → sI.heap.get? b = some o ∧ HI b = none := fun b hb o e => by
      obtain ⟨p1, p2, _⟩ := II.pin (b, o) (by simp [mem_pinsAt hb e])
      exact ⟨p1, p2⟩
    have len : (wipe σ (own.map (·.2))).length = σE.length := by rw [← same, wipe_length]
    refine ⟨m2, lt, i + 1, HI, w2, T.keep _ _ _ stC fun b hb o e => (held b hb o e).1, fun b hb => ?_, (II.unpinned (pins := [])).weak len fun j v e => ?_⟩
    · obtain ⟨o, e, _⟩ := T.obj _ _ stC b hb
      exact (held b hb o e).2
    · rw [← same] at e
      exact (wipe_some e).1
theorem pe_dcN (hu : X.A.units + 8 < cLine) (calm : X.calm = true) (hN : X.N.Nodup) (hi : PI X tg iter wi) (ok : BlkOk X.N X.env.scope scope own)
    (pg : ∀ (s : Shared) (H : Hp) (C : Addr) (cl : List (Str × Addr)) (fp : List Addr), PG (X.blk s H scope (compEnvC scope cl C X.env) fp) tg g)
    (pk : ∀ (s : Shared) (H : Hp) (C : Addr) (cl : List (Str × Addr)) (fp : List Addr), PE (X.blk s H scope (compEnvC scope cl C X.env) fp) kx tk)
    (pv : ∀ (s : Shared) (H : Hp) (C : Addr) (cl : List (Str × Addr)) (fp : List Addr), PE (X.blk s H scope (compEnvC scope cl C X.env) fp) vx tv)
    (plain : ∀ x, foldedSetIterable iter X.env x = pure x := by intro _; rfl) : PE X (.DictComp kx vx [⟨tg, iter, [], 0⟩] scope pos) (tDcN X.prog X.w B wi g tk tv (own.map (·.2))) := by
  refine ⟨fun pins s σ H Q I wish => ?_⟩
  have cells : ∀ y ∈ scope.names, y.2 = .free → ∃ c, X.env.cells.lookup y.1 = some c := fun y hy e => I.ok.has _ ((ok.free y hy e).imp id id)
  have first := hi.run pins s σ H _ I wish
  rw [arm_eval_DictComp]
  refine wpAny_comprehension_free rfl plain (closure_ok cells) ok.kind (fun y hy e => by rw [← e]; exact ok.uniq y hy) (thn first fun _ sA hA => thn hA fun _ sB hB => wpAny_newObj_type (newEnv_comp ?_))
  obtain ⟨it, fp, tn, J, HB, rfl, IB, T, stB, okB, wishD⟩ := hB
  have fresh := IB.hok.fresh (Nat.le_refl sB.heap.objs.size)
  obtain ⟨W, ⟨m, wm⟩, each⟩ := wishD _ fresh
  have ID := IB.laid (a := sB.heap.objs.size) (o := DNo X.prog X.w sB.heap.objs.size []) (h' := sB.heap.push { cls := .type "dict", data := .dict #[] }) (t' := sB.toks) (fun _ _ e => Heap.get?_push_of_some _ e) (Nat.le_refl _) (n_new sB.heap IB.big)
  have there : ∀ b ∈ fp, b < sB.heap.objs.size := fun b hb => by
    obtain ⟨o, e, _⟩ := T.obj _ _ stB b hb
    exact Heap.lt_size e
  have loop := dcN_loop (B := B) (kx := kx) (vx := vx) (iter := iter) (pos := pos) (D := sB.heap.objs.size) hu calm hN ID ok T (T.keep _ _ _ stB fun b _ o e => Heap.get?_push_of_some _ e)
    (fun b hb => ⟨⟨by rw [upd_ne (Nat.ne_of_lt (there b hb))]; exact (okB b hb).1, (okB b hb).2⟩, by rw [Heap.size_push]; exact Nat.lt_succ_of_lt (there b hb)⟩) (pg _ _ _ _ _) (pk _ _ _ _ _) (pv _ _ _ _ _) wm each
  exact codeAny_compStart_dict loop (T.self X.A 0 _ _ _ (T.keep _ _ _ stB fun b _ o e => pushCells_keeps _ _ _ _ (Heap.get?_push_of_some _ (Heap.get?_push_of_some _ e))) loop)
end
/-- the keys of a dict that is locked -/
def ItkN (P : Program) (w : World) (B : Bool) (d : Addr) (o : Obj) (xs : List NEnt) : It :=
  ⟨fun i H => H d = some (.frz o (DNo P w d xs)) ∧ KeysX B H xs ∧ i < xs.length, fun i H x H' => H' = H ∧ ∃ e, xs[i]? = some e ∧ x = .ref e.2.1 ∧ KeyB B H e.1 e.2.1, fun i H => H d = some (.frz o (DNo P w d xs)) ∧ xs.length ≤ i⟩
section
variable {B : Bool} {X : Cx} {pins : List (Addr × Obj)} {σ : St} {H : Hp} {s : Shared} {d : Addr} {o : Obj} {xs : List NEnt}
theorem frz_N (I : Inv X pins σ H s) (h : H d = some (.frz o (DNo X.prog X.w d xs))) : (d == sysModules) = false ∧ s.heap.get? d = some o ∧ o.ExactDict ∧
    ∃ (es : Array DictEntry) (ep : Nat), o.data = .dict es ep ∧ es.size = xs.length ∧ ∀ (i : Nat) (e : NEnt), xs[i]? = some e → ∃ en : DictEntry, es[i]? = some en ∧ en.key = .ref e.2.1 := by
  obtain ⟨there, ⟨_, low, ys, pr, o2, es, ep, h1, h2, h3, h4, _⟩, _, _⟩ := I.hok d _ h
  have same : o2 = o := Option.some.inj (h1.symm.trans there)
  subst same
  have ly : ys.length = es.size := by
    have z := congrArg List.length h4
    simpa using z.symm
  have lx : xs.length = ys.length := Paired.length pr
  refine ⟨low, there, h2, es, ep, h3, by omega, fun i e he => ?_⟩
  obtain ⟨y, hy, e1, e2, _⟩ := paired_get pr he
  have z : es.toList[i]? = some (entryOfKey (nestedKind X.prog X.w) y) := by rw [h4, List.getElem?_map, hy]; rfl
  rw [Array.getElem?_toList] at z
  exact ⟨_, z, by rw [e2]; rfl⟩
end
theorem turn_N {B : Bool} {P : Program} {w : World} {K : PySem.W.Frag} {tg : Expr} {d : Addr} {o : Obj} {es : Array DictEntry} {ep : Nat} {xs : List NEnt} (it : Addr) (data : o.data = .dict es ep) :
    Turn P w K tg (ItkN P w B d o xs) [it] it (fun i h => h.IsKeyIter it d i xs.length ep) := by
  have one : ∀ b, b ∈ [it] → b = it := fun b hb => by simpa using hb
  refine ⟨List.mem_singleton.mpr rfl, fun i h st b hb => ?_, fun i h h2 st kp => st.at fun oi e => kp it (List.mem_singleton.mpr rfl) oi e, ?_, ?_, fun A i s Q E st h => wpAny_pyIter_keyiter st h⟩
  · rw [one b hb]
    obtain ⟨oi, e, _, dd⟩ := st
    exact ⟨oi, e, fun v z => by rw [dd] at z; cases z⟩
  · rintro X rfl rfl rfl calm i pins s σ H E I foot st ⟨hd, kx, lt⟩
    obtain ⟨f0, f1, f2, f3, f4, f5⟩ := foot it (List.mem_singleton.mpr rfl)
    obtain ⟨low, there, ex, es2, ep2, dt, sz, ent⟩ := frz_N I hd
    obtain ⟨rfl, rfl⟩ := dict_ep data dt
    have he : xs[i]? = some xs[i] := List.getElem?_eq_getElem lt
    obtain ⟨en, hen, key⟩ := ent i _ he
    refine next_key_item st there dt sz hen fun h2 st2 sb => ?_
    have I2 : Inv X pins σ H { s with heap := h2 } := I.turned (t' := s.toks) (fun b ob hb e => (sb.2 b hb).trans e) f0 f1 f3 f4 f5
    obtain ⟨oi, e, c, dd⟩ := id st2
    refine ⟨en.key, rfl, go_of (s := { s with heap := h2 }) e c dd (by decide) ⟨.ref (xs[i]).2.1, H, I2, key, ⟨rfl, _, he, rfl, kx _ (List.getElem_mem lt)⟩, st2, fun b hb => ?_⟩⟩
    rw [one b hb]
    exact f0
  · rintro X rfl rfl rfl calm i pins s σ H E I foot st ⟨hd, ge⟩
    obtain ⟨f0, f1, f2, f3, f4, f5⟩ := foot it (List.mem_singleton.mpr rfl)
    obtain ⟨low, there, ex, es2, ep2, dt, sz, ent⟩ := frz_N I hd
    obtain ⟨rfl, rfl⟩ := dict_ep data dt
    exact next_key_end (I.ok.hd calm) st there dt sz ge fun h2 eb => ⟨rfl, I.turned (t' := s.toks) (fun b ob hb e => eb b ob hb e) f0 f1 f3 f4 f5⟩
def iKeysN (P : Program) (w : World) (B : Bool) (td : TE) : TI := fun σ H R => td σ H fun x H1 => ∃ d o xs, x = .ref d ∧ H1 d = some (.frz o (DNo P w d xs)) ∧ R (ItkN P w B d o xs) H1
theorem pi_keysN {B : Bool} {X : Cx} {tg e : Expr} {td : TE} (he : PE X e td) : PI X tg e (iKeysN X.prog X.w B td) := by
  refine ⟨fun pins s σ H R I h => thn (he.run pins s σ H _ I h) ?_⟩
  rintro u s1 ⟨_, H1, I1, rx, d, o, xs, rfl, hd, q⟩
  obtain rfl := rx
  obtain ⟨low, there, ex, es, ep, dt, sz, ent⟩ := frz_N I1 hd
  refine iter_keys low there ex dt (pi_one (tk := s1.toks) I1 _ (turn_N _ dt) ⟨_, Heap.get?_push_size _ rfl, rfl, ?_⟩ q)
  rw [sz]
  rfl
theorem walk_keysN {B : Bool} {P : Program} {w : World} {d : Addr} {o : Obj} {xs : List NEnt} : Walk (ItkN P w B d o xs) xs.length (fun H => H d = some (.frz o (DNo P w d xs)) ∧ KeysX B H xs)
    (fun i H x H' => H' = H ∧ ∃ e, xs[i]? = some e ∧ x = .ref e.2.1 ∧ KeyB B H e.1 e.2.1) :=
  ⟨fun _ _ hi q => ⟨q.1, q.2, hi⟩, fun _ q => ⟨q.1, Nat.le_refl _⟩, fun _ _ _ _ _ _ y => y⟩
/-- the comprehension over what a walk tells of -/
theorem dcN_it {P : Program} {w : World} {B : Bool} {J : It} {n : Nat} {G : Hp → Prop} {Y : Nat → Hp → V → Hp → Prop} (wk : Walk J n G Y) {g : TG} {tk tv : TE} {vs : List Nat} {σ : St} {H1 : Hp} {D : Addr} {Qd : Hp → Prop} (Pv : Nat → Hp → Prop) (h0 : Pv 0 (upd H1 D (DNo P w D [])))
    (hG : ∀ i H, i ≤ n → Pv i H → G H) (hs : ∀ i x H H', i < n → Pv i H → Y i H x H' → DcTurn P w B g tk tv vs σ D (Pv (i + 1)) x H') (hd : ∀ H, Pv n H → Qd H) :
    ∃ W : Nat → Nat → Hp → Prop, (∃ m, W 0 m (upd H1 D (DNo P w D []))) ∧ ∀ i m Hx, W i m Hx → (J.stop i Hx ∧ Qd Hx) ∨
      (J.go i Hx ∧ ∃ N : Hp → Prop, (∀ Hy, N Hy → ∃ m', m' < m ∧ W (i + 1) m' Hy) ∧ ∀ x Hy, J.yld i Hx x Hy → DcTurn P w B g tk tv vs σ D N x Hy) := by
  refine ⟨fun i m Hx => i + m = n ∧ Pv i Hx, ⟨n, by omega, h0⟩, fun i m Hx h => ?_⟩
  obtain ⟨e, p⟩ := h
  have gi := hG i Hx (by omega) p
  cases m with
  | zero =>
    have e : i = n := by omega
    rw [e] at p ⊢
    exact .inl ⟨wk.stops Hx gi, hd Hx p⟩
  | succ m =>
    have lt : i < n := by omega
    exact .inr ⟨wk.goes i Hx lt gi, Pv (i + 1), fun Hy q => ⟨m, by omega, by omega, q⟩, fun x Hy y => hs i x Hx Hy lt p (wk.yields i Hx x Hy lt gi y)⟩
end L2

set_option Elab.async false
set_option linter.all false
set_option maxRecDepth 100000
set_option maxHeartbeats 8000000
/-! What words_read writes: where states may stand, the words for the lines. -/
namespace K37
open PySem L2 L2.EV
/-- which states may stand where, and the words for the lines -/
abbrev Wst := List (List Sx) × List (Nat × List Bool)
def addS (g : List Sx) (s : Sx) : List Sx := if s ∈ g then g else g ++ [s]
def addB (l : List Bool) (b : Bool) : List Bool := if b ∈ l then l else l ++ [b]
def addW : List (Nat × List Bool) → Nat → Bool → List (Nat × List Bool)
  | [], i, b => [(i, [b])]
  | e :: l, i, b => if e.1 = i then (e.1, addB e.2 b) :: l else e :: addW l i b
def wT (fr : List T3) (i : Nat) (z : Wst) (t : Trip) : Wst :=
  (z.1.set t.1 (addS (z.1.getD t.1 []) t.2.1), if (stt fr t.2.2.2).2.2 = 0 then addW z.2 i (decide (behM t.2.1.2 t.2.2.1 (stt fr t.2.2.2).1 = .mix)) else z.2)
def wS (fr : List T3) (Ls : List Layer) (i : Nat) (z : Wst) (s : Sx) : Wst := (seek (Ls.getD i []) s).foldl (wT fr i) z
def wI (fr : List T3) (Ls : List Layer) (z : Wst) (i : Nat) : Wst := (z.1.getD i []).foldl (wS fr Ls i) z
def w0 (Ls : List Layer) (n : Nat) : Wst := ((List.replicate (n + 1) []).set n ((Ls.getD n []).map (·.1)), [])
/-- after k turns, from the end back -/
def wF (fr : List T3) (Ls : List Layer) (n k : Nat) : Wst := (List.range k).foldl (fun z j => wI fr Ls z (n - j)) (w0 Ls n)
def tagB (b : Bool) : Str := if b = true then "mixed" else "whole"
abbrev kvB (bs : List Bool) : List (Key × V) := bs.map fun b => ((Sum.inr (tagB b) : Key), V.bl true)

def kvG (g : List Sx) : List (NestedKey × V) := g.map fun s => (keyS s, V.bl true)
theorem kvG_len (g : List Sx) : (kvG g).length = g.length := by simp [kvG]
theorem kvG_none {s : Sx} : ∀ {g : List Sx}, ¬ s ∈ g → valV (kvG g) (keyS s) = none
  | [], _ => rfl
  | a :: g, h => by
    show valV ((keyS a, V.bl true) :: kvG g) (keyS s) = none
    rw [valV_neg (fun z => h (by rw [keyS_inj z]; exact List.mem_cons_self ..))]
    exact kvG_none fun z => h (List.mem_cons_of_mem _ z)
theorem kvG_some {s : Sx} : ∀ {g : List Sx}, s ∈ g → valV (kvG g) (keyS s) = some (.bl true)
  | a :: g, h => by
    show valV ((keyS a, V.bl true) :: kvG g) (keyS s) = _
    by_cases c : keyS a = keyS s
    · rw [valV_pos c]
    · rw [valV_neg c]
      rcases List.mem_cons.mp h with z | z
      · exact absurd (by rw [z]) c
      · exact kvG_some z
theorem kvG_put (g : List Sx) (s : Sx) : putK (kvG g) (keyS s) (.bl true) = kvG (addS g s) := by
  unfold addS
  by_cases h : s ∈ g
  · rw [if_pos h]
    unfold putK
    rw [if_pos (by rw [valV_any, kvG_some h]; rfl)]
    have e : ∀ l : List Sx, (kvG l).map (fun kv => if kv.1 = keyS s then (kv.1, V.bl true) else kv) = kvG l := by
      intro l
      induction l with
      | nil => rfl
      | cons a l ih =>
        show (if keyS a = keyS s then (keyS a, V.bl true) else (keyS a, V.bl true)) :: (kvG l).map (fun kv => if kv.1 = keyS s then (kv.1, V.bl true) else kv) = (keyS a, V.bl true) :: kvG l
        rw [ih]
        by_cases c : keyS a = keyS s
        · rw [if_pos c]
        · rw [if_neg c]
    exact e g
  · rw [if_neg h, putK_new _ (kvG_none h)]
    unfold kvG
    rw [List.map_append]
    rfl
theorem keysG_at {H : Hp} : ∀ {g : List Sx} {bs : List Addr} {k : Nat} {b : Addr} {s : Sx}, IsKeysN false H (kvG g) bs → bs[k]? = some b → g[k]? = some s → StA H b s
  | [], _, _, _, _, _, _, h => by simp at h
  | a :: g, bs, k, b, s, h, hb, hs => by
    have h : Paired (fun p b => KeyB false H p.1 b) ((keyS a, V.bl true) :: kvG g) bs := h
    cases h with
    | @cons p b0 ps bs' h1 h2 =>
      cases k with
      | zero =>
        have e1 : b0 = b := by simpa using hb
        have e2 : a = s := by simpa using hs
        subst e1 e2
        exact sta_key h1
      | succ k => exact keysG_at (k := k) h2 (by simpa using hb) (by simpa using hs)
def nK (n : Nat) : Key := Sum.inl (n : Int)
theorem nK_inj {a b : Nat} (h : nK a = nK b) : a = b := by
  have h : (Sum.inl (a : Int) : Key) = Sum.inl (b : Int) := h
  injection h with h
  omega
def kvZ (ks : List Nat) (a : List Addr) : List (Key × V) := (ks.zip a).map fun z => (nK z.1, V.ref z.2)
theorem kvZ_len {ks : List Nat} {a : List Addr} (h : a.length = ks.length) : (kvZ ks a).length = ks.length := by
  unfold kvZ
  rw [List.length_map, List.length_zip, h, Nat.min_self]
theorem kvZ_snoc {k : Nat} {b : Addr} : ∀ {ks : List Nat} {a : List Addr}, a.length = ks.length → kvZ (ks ++ [k]) (a ++ [b]) = kvZ ks a ++ [(nK k, .ref b)]
  | [], [], _ => rfl
  | [], _ :: _, h => by cases h
  | _ :: _, [], h => by cases h
  | s :: ks, c :: a, h => by
    show (nK s, V.ref c) :: kvZ (ks ++ [k]) (a ++ [b]) = (nK s, V.ref c) :: (kvZ ks a ++ [(nK k, .ref b)])
    rw [kvZ_snoc (by simpa using h)]
theorem kvZ_none {k : Nat} : ∀ {ks : List Nat} {a : List Addr}, ¬ k ∈ ks → valV (kvZ ks a) (nK k) = none
  | [], _, _ => rfl
  | _ :: _, [], _ => rfl
  | s :: ks, c :: a, h => by
    show valV ((nK s, V.ref c) :: kvZ ks a) (nK k) = none
    rw [valV_neg (fun z => h (by rw [nK_inj z]; exact List.mem_cons_self ..))]
    exact kvZ_none fun z => h (List.mem_cons_of_mem _ z)
theorem kvZ_at {k : Nat} {b : Addr} : ∀ {ks : List Nat} {a : List Addr} {i : Nat}, ks.Nodup → ks[i]? = some k → a[i]? = some b → valV (kvZ ks a) (nK k) = some (.ref b)
  | [], _, _, _, h, _ => by simp at h
  | _ :: _, [], _, _, _, h => by simp at h
  | s :: ks, c :: a, 0, _, h1, h2 => by
    have h1 : s = k := by simpa using h1
    have h2 : c = b := by simpa using h2
    show valV ((nK s, V.ref c) :: kvZ ks a) (nK k) = _
    rw [valV_pos (by show nK s = nK k; rw [h1]), h2]
  | s :: ks, c :: a, i + 1, nd, h1, h2 => by
    have h1 : ks[i]? = some k := by simpa using h1
    obtain ⟨n1, n2⟩ := List.nodup_cons.mp nd
    show valV ((nK s, V.ref c) :: kvZ ks a) (nK k) = _
    rw [valV_neg (fun z => n1 (by rw [nK_inj z]; exact List.mem_of_getElem? h1))]
    exact kvZ_at n2 h1 (by simpa using h2)
theorem tagB_inj {a b : Bool} (h : tagB a = tagB b) : a = b := by
  cases a <;> cases b <;> first | rfl | exact absurd h (by decide +kernel)
theorem kvB_none {b : Bool} : ∀ {l : List Bool}, ¬ b ∈ l → valV (kvB l) (Sum.inr (tagB b)) = none
  | [], _ => rfl
  | a :: l, h => by
    show valV (((Sum.inr (tagB a) : Key), V.bl true) :: kvB l) (Sum.inr (tagB b)) = none
    rw [valV_neg (fun z => h (by have z : (Sum.inr (tagB a) : Key) = Sum.inr (tagB b) := z; injection z with z; rw [tagB_inj z]; exact List.mem_cons_self ..))]
    exact kvB_none fun z => h (List.mem_cons_of_mem _ z)
theorem kvB_some {b : Bool} : ∀ {l : List Bool}, b ∈ l → valV (kvB l) (Sum.inr (tagB b)) = some (.bl true)
  | a :: l, h => by
    show valV (((Sum.inr (tagB a) : Key), V.bl true) :: kvB l) (Sum.inr (tagB b)) = _
    by_cases c : (Sum.inr (tagB a) : Key) = Sum.inr (tagB b)
    · rw [valV_pos c]
    · rw [valV_neg c]
      rcases List.mem_cons.mp h with z | z
      · exact absurd (by rw [z]) c
      · exact kvB_some z
theorem kvB_put (l : List Bool) (b : Bool) : putK (kvB l) (Sum.inr (tagB b)) (.bl true) = kvB (addB l b) := by
  unfold addB
  by_cases h : b ∈ l
  · rw [if_pos h]
    unfold putK
    rw [if_pos (by rw [valV_any, kvB_some h]; rfl)]
    have e : ∀ m : List Bool, (kvB m).map (fun kv => if kv.1 = (Sum.inr (tagB b) : Key) then (kv.1, V.bl true) else kv) = kvB m := by
      intro m
      induction m with
      | nil => rfl
      | cons a m ih =>
        show (if (Sum.inr (tagB a) : Key) = Sum.inr (tagB b) then ((Sum.inr (tagB a) : Key), V.bl true) else ((Sum.inr (tagB a) : Key), V.bl true)) :: (kvB m).map (fun kv => if kv.1 = (Sum.inr (tagB b) : Key) then (kv.1, V.bl true) else kv) = _
        rw [ih]
        by_cases c : (Sum.inr (tagB a) : Key) = Sum.inr (tagB b)
        · rw [if_pos c]; rfl
        · rw [if_neg c]; rfl
    exact e l
  · rw [if_neg h, putK_new _ (kvB_none h)]
    show _ = (l ++ [b]).map _
    rw [List.map_append]
    rfl
theorem addW_cases (i : Nat) (b : Bool) : ∀ ws : List (Nat × List Bool), (∃ (m : Nat) (e : Nat × List Bool), ws[m]? = some e ∧ e.1 = i ∧ addW ws i b = ws.set m (i, addB e.2 b)) ∨ (¬ i ∈ ws.map (·.1) ∧ addW ws i b = ws ++ [(i, [b])])
  | [] => .inr ⟨by simp, rfl⟩
  | e :: ws => by
    by_cases h : e.1 = i
    · refine .inl ⟨0, e, rfl, h, ?_⟩
      show (if e.1 = i then (e.1, addB e.2 b) :: ws else e :: addW ws i b) = (i, addB e.2 b) :: ws
      rw [if_pos h, h]
    · have hp : addW (e :: ws) i b = e :: addW ws i b := if_neg h
      rcases addW_cases i b ws with ⟨m, e2, h1, h2, h3⟩ | ⟨h1, h2⟩
      · exact .inl ⟨m + 1, e2, by simpa using h1, h2, by rw [hp, h3]; rfl⟩
      · refine .inr ⟨fun z => ?_, by rw [hp, h2]; rfl⟩
        rcases List.mem_cons.mp (show i ∈ e.1 :: ws.map (·.1) from z) with z | z
        · exact h z.symm
        · exact h1 z
theorem keys_set {ws : List (Nat × List Bool)} {m i : Nat} {e : Nat × List Bool} {l : List Bool} (h : ws[m]? = some e) (hi : e.1 = i) : (ws.set m (i, l)).map (·.1) = ws.map (·.1) := by
  rw [List.map_set]
  apply List.ext_getElem?
  intro n
  by_cases c : m = n
  · subst c
    have hk : (ws.map (·.1))[m]? = some i := by rw [List.getElem?_map, h, ← hi]; rfl
    rw [List.getElem?_set_self (List.getElem?_eq_some_iff.mp hk).1, hk]
  · rw [List.getElem?_set_ne c]
/-- the words -/
structure WdA (H : Hp) (p : Addr) (ws : List (Nat × List Bool)) (as : List Addr) : Prop where
  l : as.length = ws.length
  e : H p = some (.dK (kvZ (ws.map (·.1)) as))
  it : ∀ (i : Nat) w a, ws[i]? = some w → as[i]? = some a → H a = some (.dK (kvB w.2))
/-- what is written: the dicts of where states may stand, words and its dicts -/
structure Zh (P : Program) (w : World) (H0 H : Hp) (q wd : Addr) (z : Wst) (gs was : List Addr) : Prop where
  s : Same H0 H
  hq : H0 q = some (.lst (gs.map V.ref))
  gl : gs.length = z.1.length
  gn : gs.Nodup
  g0 : ∀ d ∈ gs, H0 d = none
  gd : ∀ (j : Nat) d g, gs[j]? = some d → z.1[j]? = some g → DN P w false H d (kvG g)
  wa : WdA H wd z.2 was
  w0 : H0 wd = none
  wi : ∀ a ∈ was, H0 a = none ∧ a ≠ wd
  wn : was.Nodup
section
variable {P : Program} {w : World} {H0 H H' : Hp} {q wd : Addr} {z : Wst} {gs was : List Addr}
theorem Zh.gsome (y : Zh P w H0 H q wd z gs was) {d : Addr} (hd : d ∈ gs) : ∃ (j : Nat) (g : List Sx), gs[j]? = some d ∧ z.1[j]? = some g ∧ DN P w false H d (kvG g) := by
  obtain ⟨j, hj⟩ := List.mem_iff_getElem?.mp hd
  have j1 : j < z.1.length := by rw [← y.gl]; exact (List.getElem?_eq_some_iff.mp hj).1
  exact ⟨j, _, hj, List.getElem?_eq_getElem j1, y.gd j d _ hj (List.getElem?_eq_getElem j1)⟩
theorem Zh.wsome (y : Zh P w H0 H q wd z gs was) {a : Addr} (ha : a ∈ was) : ∃ (i : Nat) (e : Nat × List Bool), was[i]? = some a ∧ z.2[i]? = some e ∧ H a = some (.dK (kvB e.2)) := by
  obtain ⟨j, hj⟩ := List.mem_iff_getElem?.mp ha
  have j1 : j < z.2.length := by rw [← y.wa.l]; exact (List.getElem?_eq_some_iff.mp hj).1
  exact ⟨j, _, hj, List.getElem?_eq_getElem j1, y.wa.it j _ a (List.getElem?_eq_getElem j1) hj⟩
theorem WdA.keep {ws : List (Nat × List Bool)} {p : Addr} {as : List Addr} (y : WdA H p ws as) (e : H' p = H p) (k : ∀ a ∈ as, H' a = H a) : WdA H' p ws as :=
  ⟨y.l, e.trans y.e, fun i w a h1 h2 => (k a (List.mem_of_getElem? h2)).trans (y.it i w a h1 h2)⟩
theorem Zh.keep (y : Zh P w H0 H q wd z gs was) (s : Same H0 H') (k : KeepT H H') (kg : ∀ d ∈ gs, H' d = H d) (kw : H' wd = H wd) (ka : ∀ a ∈ was, H' a = H a) : Zh P w H0 H' q wd z gs was :=
  ⟨s, y.hq, y.gl, y.gn, y.g0, fun j d g h1 h2 => (y.gd j d g h1 h2).keep (kg d (List.mem_of_getElem? h1)) k, y.wa.keep kw ka, y.w0, y.wi, y.wn⟩
theorem Zh.same (y : Zh P w H0 H q wd z gs was) (s : Same H H') : Zh P w H0 H' q wd z gs was := by
  refine y.keep (y.s.trans s) (Same.keepT s) (fun d hd => ?_) (by rw [s _ _ y.wa.e, y.wa.e]) fun a ha => ?_
  · obtain ⟨_, _, _, _, dn⟩ := y.gsome hd
    obtain ⟨o, e⟩ := dn_some dn
    rw [s _ _ e, e]
  · obtain ⟨_, _, _, _, e⟩ := y.wsome ha
    rw [s _ _ e, e]
theorem Zh.weak {H1 : Hp} (y : Zh P w H1 H q wd z gs was) (s : Same H0 H1) (hq : H0 q = some (.lst (gs.map V.ref))) : Zh P w H0 H q wd z gs was := by
  have nn : ∀ {c : Addr}, H1 c = none → H0 c = none := fun {c} h => by
    cases e : H0 c with
    | none => rfl
    | some o =>
      rw [s _ _ e] at h
      cases h
  exact ⟨s.trans y.s, hq, y.gl, y.gn, fun d hd => nn (y.g0 d hd), y.gd, y.wa, nn y.w0, fun a ha => ⟨nn (y.wi a ha).1, (y.wi a ha).2⟩, y.wn⟩
theorem Zh.rebase (y : Zh P w H0 H q wd z gs was) : ∃ H1, Zh P w H1 H q wd z gs was ∧ Same H0 H1 ∧ KeepT H H1 ∧ ∀ c o, H c = some o → ¬ c ∈ gs → c ≠ wd → ¬ c ∈ was → H1 c = some o := by
  classical
  let bad : Addr → Prop := fun c => c ∈ gs ∨ c = wd ∨ c ∈ was
  have e1 : ∀ c, bad c → (if bad c then none else H c) = none := fun c h => if_pos h
  have e2 : ∀ c, ¬ bad c → (if bad c then none else H c) = H c := fun c h => if_neg h
  have nb : ∀ c o, H0 c = some o → ¬ bad c := fun c o e b => by
    rcases b with b | rfl | b
    · rw [y.g0 c b] at e; cases e
    · rw [y.w0] at e; cases e
    · rw [(y.wi c b).1] at e; cases e
  refine ⟨fun c => if bad c then none else H c, ⟨fun c o e => ?_, (e2 q (nb q _ y.hq)).trans (y.s _ _ y.hq), y.gl, y.gn, fun d hd => e1 _ (.inl hd), y.gd, y.wa, e1 _ (.inr (.inl rfl)), fun a ha => ⟨e1 _ (.inr (.inr ha)), (y.wi a ha).2⟩, y.wn⟩, fun c o e => ?_, fun c xs e => ?_, fun c o e h1 h2 h3 => ?_⟩
  · have e : (if bad c then none else H c) = some o := e
    by_cases b : bad c
    · rw [e1 c b] at e; cases e
    · rw [e2 c b] at e; exact e
  · exact (e2 c (nb c o e)).trans (y.s _ _ e)
  · refine (e2 c ?_).trans e
    rintro (b | rfl | b)
    · obtain ⟨_, _, _, _, dn⟩ := y.gsome b
      exact dn_tup dn _ e
    · rw [y.wa.e] at e; cases e
    · obtain ⟨_, _, _, _, e3⟩ := y.wsome b
      rw [e3] at e; cases e
  · refine (e2 c ?_).trans e
    rintro (b | b | b)
    · exact h1 b
    · exact h2 b
    · exact h3 b
/-- a state may stand there too -/
theorem Zh.go {j : Nat} {d : Addr} {g : List Sx} {s : Sx} (y : Zh P w H0 H q wd z gs was) (hd : gs[j]? = some d) (hg : z.1[j]? = some g) (oa : OnlyAt H H' d) (dn : DN P w false H' d (kvG (addS g s))) : Zh P w H0 H' q wd (z.1.set j (addS g s), z.2) gs was := by
  have md := List.mem_of_getElem? hd
  have dn0 := y.gd j d g hd hg
  have kt : KeepT H H' := fun c xs e => by rw [oa c fun b => dn_tup dn0 xs (by rw [← b]; exact e)]; exact e
  refine ⟨fun c o e => ?_, y.hq, by show gs.length = (z.1.set j (addS g s)).length; rw [List.length_set]; exact y.gl, y.gn, y.g0, fun j2 d2 g2 h1 h2 => ?_, y.wa.keep (oa wd fun b => ?_) fun a ha => oa a fun b => ?_, y.w0, y.wi, y.wn⟩
  · rw [oa c (ne_of_none e (y.g0 d md))]
    exact y.s _ _ e
  · rcases set_at (show (z.1.set j (addS g s))[j2]? = some g2 from h2) with ⟨rfl, rfl⟩ | ⟨n, h2⟩
    · rw [hd] at h1
      cases h1
      exact dn
    · refine (y.gd j2 d2 g2 h1 h2).keep (oa d2 fun b => n ?_) kt
      rw [b] at h1
      exact (List.getElem?_inj (List.getElem?_eq_some_iff.mp h1).1 y.gn).mp (h1.trans hd.symm)
  · obtain ⟨_, _, e, _⟩ := dn0
    rw [← b, y.wa.e] at e
    cases e
  · obtain ⟨_, _, _, _, e1⟩ := y.wsome ha
    obtain ⟨_, _, e, _⟩ := dn0
    rw [← b, e1] at e
    cases e
/-- one word more for a line that has words -/
theorem Zh.wold {m i : Nat} {b : Bool} {a : Addr} {e : Nat × List Bool} (y : Zh P w H0 H q wd z gs was) (he : z.2[m]? = some e) (ei : e.1 = i) (ha : was[m]? = some a) : Zh P w H0 (upd H a (.dK (kvB (addB e.2 b)))) q wd (z.1, z.2.set m (i, addB e.2 b)) gs was := by
  have ma := List.mem_of_getElem? ha
  have ea := y.wa.it m e a he ha
  obtain ⟨a0, aw⟩ := y.wi a ma
  have kt : KeepT H (upd H a (.dK (kvB (addB e.2 b)))) := keepT_upd ea (fun xs z => by cases z)
  refine ⟨fun c o x => by rw [upd_ne (ne_of_none x a0)]; exact y.s _ _ x, y.hq, y.gl, y.gn, y.g0, fun j d g h1 h2 => (y.gd j d g h1 h2).keep (upd_ne fun x => ?_) kt, ⟨?_, ?_, fun n v c h1 h2 => ?_⟩, y.w0, y.wi, y.wn⟩
  · obtain ⟨_, _, e1, _⟩ := y.gd j d g h1 h2
    rw [x, ea] at e1
    cases e1
  · show was.length = (z.2.set m (i, addB e.2 b)).length
    rw [List.length_set]
    exact y.wa.l
  · show upd H a _ wd = some (.dK (kvZ ((z.2.set m (i, addB e.2 b)).map (·.1)) was))
    rw [upd_ne aw.symm, keys_set he ei]
    exact y.wa.e
  · rcases set_at (show (z.2.set m (i, addB e.2 b))[n]? = some v from h1) with ⟨rfl, rfl⟩ | ⟨k, h1⟩
    · rw [ha] at h2
      cases h2
      exact upd_same
    · rw [upd_ne fun x => k (by rw [x] at h2; exact (List.getElem?_inj (List.getElem?_eq_some_iff.mp h2).1 y.wn).mp (h2.trans ha.symm))]
      exact y.wa.it n v c h1 h2
/-- a line that had none -/
theorem Zh.wnew {i : Nat} {b : Bool} {l0 : Addr} (y : Zh P w H0 H q wd z gs was) (hl : H l0 = none) (k : ∀ c o, H c = some o → c ≠ wd → H' c = some o) (ew : H' wd = some (.dK (kvZ (z.2.map (·.1) ++ [i]) (was ++ [l0])))) (el : H' l0 = some (.dK (kvB [b]))) :
    Zh P w H0 H' q wd (z.1, z.2 ++ [(i, [b])]) gs (was ++ [l0]) := by
  have kt : KeepT H H' := fun c xs e => k c _ e fun x => by rw [x, y.wa.e] at e; cases e
  have h0 : H0 l0 = none := by
    cases e : H0 l0 with
    | none => rfl
    | some o =>
      rw [y.s _ _ e] at hl
      cases hl
  have lw : l0 ≠ wd := fun x => by rw [x, y.wa.e] at hl; cases hl
  have ln : ∀ a ∈ was, a ≠ l0 := fun a ha x => by
    obtain ⟨_, _, _, _, e⟩ := y.wsome ha
    rw [x, hl] at e
    cases e
  refine ⟨fun c o x => k c o (y.s _ _ x) (ne_of_none x y.w0), y.hq, y.gl, y.gn, y.g0, fun j d g h1 h2 => ?_, ⟨?_, ?_, fun n v c h1 h2 => ?_⟩, y.w0, fun a ha => ?_, ?_⟩
  · have dn := y.gd j d g h1 h2
    obtain ⟨o, e⟩ := dn_some dn
    have dw : d ≠ wd := fun x => by
      obtain ⟨_, _, e1, _⟩ := dn
      rw [x, y.wa.e] at e1
      cases e1
    exact dn.keep (by rw [e]; exact k d o e dw) kt
  · show (was ++ [l0]).length = (z.2 ++ [(i, [b])]).length
    rw [List.length_append, List.length_append, y.wa.l]
    rfl
  · show H' wd = some (.dK (kvZ ((z.2 ++ [(i, [b])]).map (·.1)) (was ++ [l0])))
    rw [List.map_append]
    exact ew
  · by_cases c1 : n < z.2.length
    · rw [List.getElem?_append_left (by rw [y.wa.l]; exact c1)] at h2
      have h1 : z.2[n]? = some v := by
        have h1 : (z.2 ++ [(i, [b])])[n]? = some v := h1
        rw [List.getElem?_append_left c1] at h1
        exact h1
      have e := y.wa.it n v c h1 h2
      exact k c _ e (y.wi c (List.mem_of_getElem? h2)).2
    · have h1 : (z.2 ++ [(i, [b])])[n]? = some v := h1
      rw [List.getElem?_append_right (by omega)] at h1
      rw [List.getElem?_append_right (by rw [y.wa.l]; omega), y.wa.l] at h2
      cases x : n - z.2.length with
      | zero =>
        rw [x] at h1 h2
        cases h1
        cases h2
        exact el
      | succ r => rw [x] at h1; simp at h1
  · rcases List.mem_append.mp ha with x | x
    · exact y.wi a x
    · rw [List.mem_singleton.mp x]
      exact ⟨h0, lw⟩
  · refine List.nodup_append.mpr ⟨y.wn, by simp, fun a ha c hc => ?_⟩
    rw [List.mem_singleton.mp hc]
    exact ln a ha
theorem zh_init {z1 : List (List Sx)} (hq : H q = some (.lst (gs.map V.ref))) (gl : gs.length = z1.length) (gn : gs.Nodup) (gd : ∀ (j : Nat) d g, gs[j]? = some d → z1[j]? = some g → DN P w false H d (kvG g)) (hw : H wd = none) :
    ∃ HB, Zh P w HB (upd H wd (.dK [])) q wd (z1, []) gs [] ∧ ∀ c o, H c = some o → ¬ c ∈ gs → HB c = some o := by
  classical
  have e1 : ∀ c, c ∈ gs → (if c ∈ gs then none else H c) = none := fun c h => if_pos h
  have e2 : ∀ c, ¬ c ∈ gs → (if c ∈ gs then none else H c) = H c := fun c h => if_neg h
  have uw := same_upd (o := HO.dK []) hw
  have some_g : ∀ d ∈ gs, ∃ g, DN P w false H d (kvG g) := fun d hd => by
    obtain ⟨j, hj⟩ := List.mem_iff_getElem?.mp hd
    have j1 : j < z1.length := by rw [← gl]; exact (List.getElem?_eq_some_iff.mp hj).1
    exact ⟨_, gd j d _ hj (List.getElem?_eq_getElem j1)⟩
  have nq : ¬ q ∈ gs := fun h => by
    obtain ⟨g, dn⟩ := some_g q h
    exact dn_lst dn _ hq
  refine ⟨fun c => if c ∈ gs then none else H c, ⟨fun c o e => ?_, (e2 q nq).trans hq, gl, gn, fun d hd => e1 d hd, fun j d g h1 h2 => ?_, ⟨rfl, upd_same, fun i v a h1 _ => by simp at h1⟩, ?_, (fun a ha => nomatch ha), List.nodup_nil⟩, fun c o e n => (e2 c n).trans e⟩
  · have e : (if c ∈ gs then none else H c) = some o := e
    by_cases b : c ∈ gs
    · rw [e1 c b] at e; cases e
    · rw [e2 c b] at e
      exact uw _ _ e
  · have dn := gd j d g h1 h2
    obtain ⟨o, e⟩ := dn_some dn
    exact dn.keep (by rw [uw _ _ e, e]) (Same.keepT uw)
  · by_cases b : wd ∈ gs
    · exact e1 wd b
    · exact (e2 wd b).trans hw
end
/-- what the states and words are while they are found -/
structure Zk (Ls : List Layer) (n : Nat) (z : Wst) : Prop where
  l : z.1.length = n + 1
  sub : ∀ (j : Nat) g, z.1[j]? = some g → ∀ s ∈ g, ∃ L, Ls[j]? = some L ∧ s ∈ L.map (·.1)
  nd : ∀ (j : Nat) g, z.1[j]? = some g → g.Nodup
  wn : (z.2.map (·.1)).Nodup
  wb : ∀ e ∈ z.2, e.1 ≤ n ∧ e.2.Nodup
theorem addS_mem {g : List Sx} {s t : Sx} (h : t ∈ addS g s) : t ∈ g ∨ t = s := by
  unfold addS at h
  split at h
  · exact .inl h
  · rcases List.mem_append.mp h with h | h
    · exact .inl h
    · exact .inr (List.mem_singleton.mp h)
theorem addS_nd {g : List Sx} {s : Sx} (h : g.Nodup) : (addS g s).Nodup := by
  unfold addS
  by_cases c : s ∈ g
  · rw [if_pos c]; exact h
  · rw [if_neg c]
    exact List.nodup_append.mpr ⟨h, by simp, fun a ha b hb => by rw [List.mem_singleton.mp hb]; exact fun z => c (z ▸ ha)⟩
theorem addB_nd {l : List Bool} {b : Bool} (h : l.Nodup) : (addB l b).Nodup := by
  unfold addB
  by_cases c : b ∈ l
  · rw [if_pos c]; exact h
  · rw [if_neg c]
    exact List.nodup_append.mpr ⟨h, by simp, fun a ha b hb => by rw [List.mem_singleton.mp hb]; exact fun z => c (z ▸ ha)⟩
theorem Zk.go {Ls : List Layer} {n : Nat} {z : Wst} {j : Nat} {g : List Sx} {s : Sx} (k : Zk Ls n z) (hg : z.1[j]? = some g) (hs : ∃ L, Ls[j]? = some L ∧ s ∈ L.map (·.1)) : Zk Ls n (z.1.set j (addS g s), z.2) := by
  refine ⟨by show (z.1.set j (addS g s)).length = n + 1; rw [List.length_set]; exact k.l, fun j2 g2 h2 t ht => ?_, fun j2 g2 h2 => ?_, k.wn, k.wb⟩
  · rcases set_at (show (z.1.set j (addS g s))[j2]? = some g2 from h2) with ⟨rfl, rfl⟩ | ⟨_, h2⟩
    · rcases addS_mem ht with ht | rfl
      · exact k.sub _ _ hg t ht
      · exact hs
    · exact k.sub _ _ h2 t ht
  · rcases set_at (show (z.1.set j (addS g s))[j2]? = some g2 from h2) with ⟨rfl, rfl⟩ | ⟨_, h2⟩
    · exact addS_nd (k.nd _ _ hg)
    · exact k.nd _ _ h2
theorem Zk.word {Ls : List Layer} {n : Nat} {z : Wst} {i : Nat} {b : Bool} (k : Zk Ls n z) (hi : i ≤ n) : Zk Ls n (z.1, addW z.2 i b) := by
  refine ⟨k.l, k.sub, k.nd, ?_, ?_⟩
  · show ((addW z.2 i b).map (·.1)).Nodup
    rcases addW_cases i b z.2 with ⟨m, e, h1, h2, h3⟩ | ⟨h1, h3⟩
    · rw [h3, keys_set h1 h2]
      exact k.wn
    · rw [h3, List.map_append]
      exact List.nodup_append.mpr ⟨k.wn, by simp, fun a ha c hc => by rw [List.mem_singleton.mp (show c ∈ [i] from hc)]; exact fun x => h1 (x ▸ ha)⟩
  · intro e he
    have he : e ∈ addW z.2 i b := he
    rcases addW_cases i b z.2 with ⟨m, e2, h1, h2, h3⟩ | ⟨h1, h3⟩
    · rw [h3] at he
      rcases List.mem_or_eq_of_mem_set he with x | x
      · exact k.wb e x
      · rw [x]
        exact ⟨hi, addB_nd (k.wb e2 (List.mem_of_getElem? h1)).2⟩
    · rw [h3] at he
      rcases List.mem_append.mp he with x | x
      · exact k.wb e x
      · rw [List.mem_singleton.mp x]
        exact ⟨hi, by simp⟩
theorem Zk.few {Ls : List Layer} {n : Nat} {z : Wst} (k : Zk Ls n z) : z.2.length ≤ n + 1 := by
  have a := List.Nodup.length_le_of_subset k.wn (l₂ := List.range (n + 1)) fun i hi => by
    obtain ⟨e, he, rfl⟩ := List.mem_map.mp hi
    exact List.mem_range.mpr (by have := (k.wb e he).1; omega)
  rw [List.length_map, List.length_range] at a
  exact a
theorem few_bools {l : List Bool} (h : l.Nodup) : l.length ≤ 2 := by
  have a := List.Nodup.length_le_of_subset h (l₂ := [true, false]) fun b _ => by cases b <;> simp
  exact a
theorem getG {z : List (List Sx)} {j : Nat} {g : List Sx} (h : z[j]? = some g) : z.getD j [] = g := by
  rw [List.getD_eq_getElem?_getD, h]
  rfl
end K37

set_option Elab.async false
set_option linter.all false
set_option maxRecDepth 100000
set_option maxHeartbeats 8000000
/-! words_read. -/
namespace K37
open PySem L2 L2.EV
abbrev sWords : Stmt := top 39
def spWords (P : Program) (w : World) : Sp := fun vs H Q _ => ∃ (f p : Addr) (fr : List T3) (last : Nat) (x : Str) (nw : Nat) (H0 : Hp) (Ls : List Layer) (ds : List Addr) (as : List (List Addr)), vs = [.ref f, .ref p] ∧ FrA H f fr ∧ Frm fr last ∧ x.length ≤ 60 ∧ nw ≤ 3 ∧
  Ly P w H0 H p Ls ds as ∧ Wl fr x nw last Ls ∧ ∀ H' q bs, Same H H' → WdA H' q (wF fr Ls x.length x.length).2 bs → Zk Ls x.length (wF fr Ls x.length x.length) → Q (.ref q) H'
structure Rf (K : PySem.W.Frag) (mg : Str → Option Value) where
  C : Cf K mg
  f : Addr
  d : FuncData
  F : Fun K "words_read" "words_read" sWords f d
  b : Binds K d ["framing", "layers"] []
  m : mg "words_read" = some (.ref f)
  cW : ∃ t, mg "WHOLE" = some (.str "whole" t)
abbrev NW : List Str := ["framing", "layers", "going", "state", "words", "at", "before", "ahead", "writer", "number", "start", "piece", "goal", "mixed", "layer"]
theorem set_nodup {α : Type} {a : α} : ∀ {l : List α} {i : Nat}, ¬ a ∈ l → l.Nodup → (l.set i a).Nodup
  | [], _, _, h => h
  | b :: l, 0, n, h => List.nodup_cons.mpr ⟨fun z => n (List.mem_cons_of_mem _ z), (List.nodup_cons.mp h).2⟩
  | b :: l, i + 1, n, h => by
    obtain ⟨h1, h2⟩ := List.nodup_cons.mp h
    refine List.nodup_cons.mpr ⟨fun z => ?_, set_nodup (fun z => n (List.mem_cons_of_mem _ z)) h2⟩
    rcases List.mem_or_eq_of_mem_set z with z | z
    · exact h1 z
    · exact n (by rw [z]; exact List.mem_cons_self ..)
theorem wF_succ {fr : List T3} {Ls : List Layer} {n k : Nat} : wF fr Ls n (k + 1) = wI fr Ls (wF fr Ls n k) (n - k) := by
  unfold wF
  rw [List.range_succ, List.foldl_append]
  rfl
theorem zk_w0 {fr : List T3} {x : Str} {nw last : Nat} {Ls : List Layer} (W : Wl fr x nw last Ls) : Zk Ls x.length (w0 Ls x.length) := by
  have jL : x.length < Ls.length := by rw [W.len]; omega
  have hL := List.getElem?_eq_getElem jL
  have e : w0 Ls x.length = ((List.replicate (x.length + 1) []).set x.length ((Ls[x.length]).map (·.1)), []) := by unfold w0; rw [getD_at hL]
  rw [e]
  refine ⟨by simp, fun j g h s hs => ?_, fun j g h => ?_, by simp, fun e he => nomatch he⟩
  · rcases set_at h with ⟨rfl, rfl⟩ | ⟨_, h⟩
    · exact ⟨_, hL, hs⟩
    · rw [rep_at h] at hs
      cases hs
  · rcases set_at h with ⟨rfl, rfl⟩ | ⟨_, h⟩
    · exact W.nd _ _ hL
    · rw [rep_at h]
      exact List.nodup_nil
theorem mk_mix (m : Mk) : decide (mkV m = V.str "mixed") = decide (m = .mix) := by
  cases m with
  | no => rw [decide_eq_false (by intro z; cases z), decide_eq_false (by intro z; cases z)]
  | one k => rw [decide_eq_false (by intro z; cases z), decide_eq_false (by intro z; cases z)]
  | mix => simp [mkV]
theorem scal_mix (m : Mk) : scal (mkV m) (.str "mixed") = true := by cases m <;> rfl
section
variable {P : Program} {w : World} {K : PySem.W.Frag} {mg : Str → Option Value} {base : Heap}
theorem scWords : FnScope NW ["framing", "layers"] (defScope sWords) := ⟨rfl, rfl, rfl, by decide +kernel, rfl, by decide +kernel, by decide +kernel⟩
theorem ok_words (T : Rf K mg) : FnOk P w K mg base CX0 2 T.f T.d ["framing", "layers"] (spWords P w) := by
  have GM : FnOk P w K mg base CX0 1 T.C.T.G.S.fM T.C.T.G.S.dM ["maker", "writer", "start"] spMaker := ok_maker T.C.T.G.S
  refine T.F.ok scWords (fun vs H Q E h => ?_) (fun cdv A outer s H vs Q E hr h => ?_)
  · obtain ⟨f, p, fr, last, x, nw, H0, Ls, ds, as, rfl, _⟩ := h
    rfl
  · obtain ⟨f, p, fr, last, x, nw, H0, Ls, ds, as, rfl, fa, fm, x60, n3, Y, W, q⟩ := h
    have hu : (A.deeper (PyProof.Rows.envOfC "words_read" (defScope sWords) s.heap.objs.size T.f cdv)).units + 9 < cLine := by have := hr.un; omega
    have hu8 : (A.deeper (PyProof.Rows.envOfC "words_read" (defScope sWords) s.heap.objs.size T.f cdv)).units + 8 < cLine := by omega
    have hu1 : (A.deeper (PyProof.Rows.envOfC "words_read" (defScope sWords) s.heap.objs.size T.f cdv)).units + 1 < cLine := by omega
    obtain ⟨tM, eM⟩ := T.C.T.G.S.cM
    obtain ⟨tW, eW⟩ := T.cW
    refine ⟨_, pss_cons (ps_setLc (i := 2) (y := "going") (own := [("layer", 14)]) (g := gName 14) (te := tNNew P w) rfl scWords.nd rfl rfl rfl (pi_list (pv 1))
        (blkOk_by (N := NW) (sc := defScope sWords) (by decide +kernel)) (fun _ _ _ _ _ => pg_name (i := 14) scWords.nd rfl (Or.inl rfl)) (fun _ _ _ _ _ => pts_nil) (fun _ _ _ _ _ => pe_nnew))
      (pss_cons (ps_lock (ps_asg (pe_dcN (B := false) (own := [("state", 3)]) (g := gName 3) (tk := tVar 3) (tv := tC (.bl true)) hu8 rfl scWords.nd (pi_keysN (B := false) (pe_ix ix_list (pv 1) (pe_un un_neg pe_int) (fun _ _ => rfl)))
        (blkOk_by (N := NW) (sc := defScope sWords) (by decide +kernel)) (fun _ _ _ _ _ => pg_name (i := 3) scWords.nd rfl (Or.inl rfl)) (fun _ _ _ _ _ => pv 3) (fun _ _ _ _ _ => pe_bl)) (pg_sub (pv 2) (pe_un un_neg pe_int) set_list)))
      (pss_cons (ps_set (i := 4) scWords.nd rfl (Or.inl rfl) pe_dnewK)
      (pss_cons (ps_for PassesOwn.never rfl (pi_range3 (by rfl) T.C.T.G.ra (pa_cons (pe_op op_sub (pe_callB call_len_seq (by rfl) T.C.T.G.S.Y.Z.T.len PySem.boot_len (pa_cons (pv 1) pa_nil)) pe_int) (pa_cons pe_int (pa_cons (pe_un un_neg pe_int) pa_nil)))) (pg_name (i := 5) scWords.nd rfl (Or.inl rfl))
        (pss_one (ps_for PassesOwn.never rfl (pi_list (pe_callTy (call_list_dN (B := false) rfl) (by rfl) T.C.T.li (by decide +kernel) (pa_cons (pe_ix ix_list (pv 2) (pv 5) (fun _ _ => rfl)) pa_nil))) (pg_name (i := 3) scWords.nd rfl (Or.inl rfl))
          (pss_one (ps_for PassesOwn.never rfl (pi_list (pe_nget (B := false) hu (pe_ix ix_list (pv 1) (pv 5) (fun _ _ => rfl)) (pv 3) (fun _ _ => rfl)))
              (pg_tup rfl (pgs_cons (pg_name (i := 6) scWords.nd rfl (Or.inl rfl)) (pgs_cons (pg_name (i := 7) scWords.nd rfl (Or.inl rfl)) (pgs_cons (pg_tup rfl (pgs_cons (pg_name (i := 8) scWords.nd rfl (Or.inl rfl)) (pgs_cons (pg_name (i := 9) scWords.nd rfl (Or.inl rfl)) pgs_nil))) pgs_nil))))
            (pss_cons (ps_nput (B := false) hu (pe_ix ix_list (pv 2) (pv 6) (fun _ _ => rfl)) (pv 7) pe_bl rfl)
            (pss_cons (ps_asg (pe_ix ix_tup (pv 0) (pv 9) (fun _ _ => rfl)) (pg_tup rfl (pgs_cons (pg_name (i := 10) scWords.nd rfl (Or.inl rfl)) (pgs_cons (pg_name (i := 11) scWords.nd rfl (Or.inl rfl)) (pgs_cons (pg_name (i := 12) scWords.nd rfl (Or.inl rfl)) pgs_nil)))))
            (pss_one (ps_if (pt_cmpR op_eq (pv 12) pe_int (nomark _))
              (pss_cons (ps_set (i := 13) scWords.nd rfl (Or.inl rfl) (pe_cmpR op_eq (pe_call GM hr (by rfl) T.C.T.G.S.mM T.C.T.G.S.M.kp T.C.T.G.S.bM .nil pass0 (pa_cons (pe_ix ix_tup (pv 7) pe_int (fun _ _ => rfl)) (pa_cons (pv 8) (pa_cons (pv 10) pa_nil)))) (pe_glob (v := .str "mixed") (by rfl) eM ⟨_, rfl⟩) (nomark _)))
              (pss_one (ps_dput hu1 (pe_dsetd (pv 4) (pv 5) pe_dnewK ⟨rfl, rfl, rfl, rfl⟩) (pe_ifExp (pt_val (pv 13)) (pe_glob (v := .str "mixed") (by rfl) eM ⟨_, rfl⟩) (pe_glob (v := .str "whole") (by rfl) eW ⟨_, rfl⟩)) pe_bl rfl)))
              pss_nil)))))))))
      (pss_one (ps_ret (pv 4)))))), ?_⟩
    have dsl : ds.length = x.length + 1 := by rw [Y.dl, W.len]
    refine ⟨_, rfl, p, rfl, ⟨_, SqL.of Y.hp⟩, fun D hD => ?_⟩
    have uD := same_upd (o := HO.lst []) hD
    refine lc_it (walk_list (xs := ds.map V.ref)) (fun i H' => ∃ gs : List Addr, H' D = some (.lst (gs.map V.ref)) ∧ gs.length = i ∧ gs.Nodup ∧ (∀ d ∈ gs, H d = none ∧ d ≠ D ∧ DN P w false H' d []) ∧ Same H H')
      ⟨[], upd_same, rfl, List.nodup_nil, (fun d hd => nomatch hd), uD⟩ (fun i H' _ ⟨_, _, _, _, _, z⟩ => SqL.of (z _ _ Y.hp)) ?_ ?_
    · rintro i y H1 H2 hi ⟨gs, h1, h2, h3, h4, h5⟩ ⟨rfl, _⟩
      have hi : i < x.length + 1 := by simpa [dsl] using hi
      refine ⟨rfl, fun pn hpn => ?_⟩
      have un := same_upd (o := DNo P w pn []) hpn
      have h1' := un _ _ h1
      refine ⟨_, h1', by rw [List.length_map, h2, sizeLine_eq]; omega, gs ++ [pn], ?_, by rw [List.length_append, h2]; rfl, ?_, ?_, fun b o z => ?_⟩
      · rw [List.map_append]
        exact upd_same
      · refine List.nodup_append.mpr ⟨h3, by simp, fun a ha b hb => ?_⟩
        rw [List.mem_singleton.mp hb]
        intro z
        obtain ⟨_, _, z2⟩ := h4 a ha
        obtain ⟨o, z3⟩ := dn_some z2
        rw [z, hpn] at z3
        cases z3
      · have nD : pn ≠ D := fun z => by rw [z, h1] at hpn; cases hpn
        intro d hd
        rcases List.mem_append.mp hd with hd | hd
        · obtain ⟨a1, a2, a3⟩ := h4 d hd
          obtain ⟨o, z3⟩ := dn_some a3
          exact ⟨a1, a2, a3.keep (by rw [upd_ne a2, un _ _ z3, z3]) ((Same.keepT un).trans (keepT_upd h1' (fun xs z => by cases z)))⟩
        · rw [List.mem_singleton.mp hd]
          exact ⟨same_none h5 hpn, nD, [], rfl, by rw [upd_ne nD]; exact upd_same, fun x hx => nomatch hx⟩
      · rw [upd_ne (ne_of_none z hD)]
        exact un _ _ (h5 _ _ z)
    · rintro H1 ⟨gs, h1, h2, h3, h4, hS⟩
      rw [List.length_map, dsl] at h2
      -- the last layer's states
      have jL : x.length < Ls.length := by rw [W.len]; omega
      have hL := List.getElem?_eq_getElem jL
      generalize Ls[x.length] = L at hL
      have hd : ds[x.length]? = some (ds[x.length]'(by rw [Y.dl]; exact jL)) := List.getElem?_eq_getElem _
      generalize ds[x.length]'(by rw [Y.dl]; exact jL) = dl at hd
      have ha : as[x.length]? = some (as[x.length]'(by rw [Y.al]; exact jL)) := List.getElem?_eq_getElem _
      generalize as[x.length]'(by rw [Y.al]; exact jL) = al at ha
      have Y1 := Y.same hS
      obtain ⟨la, xs, exs, edl, kx⟩ := Y1.dd _ _ _ _ hd hL ha
      have lx : xs.length = L.length := by
        have z := congrArg List.length exs
        rw [rows1_len, kvF_len (by rw [List.length_map]; exact la), List.length_map] at z
        exact z
      refine ⟨dl, _, edl, True.intro, fun od => ?_⟩
      have pdl : p ≠ dl := fun z => by
        have e := Y1.hp
        rw [z, edl] at e
        cases e
      have hp1 : upd H1 dl (.frz od (DNo P w dl xs)) p = some (.lst (ds.map V.ref)) := by
        rw [upd_ne pdl]
        exact Y1.hp
      refine ⟨_, rfl, _, rfl, p, _, -1, .ref dl, rfl, rfl, SqL.of hp1, at_end2 dsl hd, dl, od, xs, rfl, upd_same, fun D2 hD2 => ?_⟩
      -- the keys are the states
      have nk : ∀ (k : Nat) (e : NEnt), xs[k]? = some e → ∃ s, (L.map (·.1))[k]? = some s ∧ e.1 = keyS s := fun k e he => by
        have z : (rows1 xs)[k]? = some (e.1, e.2.2) := by unfold rows1; rw [List.getElem?_map, he]; rfl
        rw [exs] at z
        unfold kvF at z
        rw [List.getElem?_map] at z
        cases zz : ((L.map (·.1)).zip al)[k]? with
        | none => rw [zz] at z; cases z
        | some v =>
          rw [zz] at z
          obtain ⟨z1, z2⟩ := List.getElem?_zip_eq_some.mp zz
          have z3 : (keyS v.1, V.ref v.2) = (e.1, e.2.2) := Option.some.inj z
          exact ⟨v.1, z1, (congrArg Prod.fst z3).symm⟩
      have kF : KeepT H1 (upd H1 dl (.frz od (DNo P w dl xs))) := keepT_upd edl (fun ys z => nomatch (show DNo P w dl xs = HO.tup ys from z))
      have knd := W.nd _ L hL
      refine dcN_it walk_keysN (fun i H' => DN P w false H' D2 (kvG ((L.map (·.1)).take i)) ∧ ∀ b o, upd H1 dl (.frz od (DNo P w dl xs)) b = some o → H' b = some o) ⟨⟨[], rfl, upd_same, fun e he => nomatch he⟩, fun b o z => same_upd hD2 b o z⟩
        (fun i H' _ z => ⟨z.2 _ _ upd_same, (kx.keep kF).keep fun b ys e => z.2 _ _ e⟩) ?_ ?_
      · rintro i y H2 H3 hi ⟨dn, kp⟩ ⟨rfl, e, he, rfl, ke⟩
        obtain ⟨s1, hs1, es1⟩ := nk i e he
        have l10 : L.length ≤ 1080 := layer_few n3 fm.l5 knd (W.so _ L hL)
        have nin : ¬ s1 ∈ (L.map (·.1)).take i := fun z => by
          obtain ⟨k, hk⟩ := List.mem_iff_getElem?.mp z
          have kl : k < i := by
            have := (List.getElem?_eq_some_iff.mp hk).1
            rw [List.length_take] at this
            omega
          rw [List.getElem?_take_of_lt kl] at hk
          have := (List.getElem?_inj (List.getElem?_eq_some_iff.mp hk).1 knd).mp (hk.trans hs1.symm)
          omega
        refine ⟨rfl, _, rfl, _, e.1, e.2.1, rfl, dn, ke, by rw [kvG_len, List.length_take, sizeLine_eq]; have := List.length_map (f := fun x : Sx × List Trip => x.1) (as := L); omega, fun H5 oa dn5 => ⟨?_, fun b o z => ?_⟩⟩
        · rw [es1, kvG_put] at dn5
          unfold addS at dn5
          rw [if_neg nin, ← take_one hs1] at dn5
          exact dn5
        · rw [oa b (ne_of_none z hD2)]
          exact kp b o z
      · rintro H2 ⟨dn, kp⟩
        rw [lx, ← List.length_map (f := fun x : Sx × List Trip => x.1), List.take_length] at dn
        have DD : D ≠ dl := fun z => by rw [z, edl] at h1; cases h1
        have D2D : D2 ≠ D := fun z => by
          rw [z, upd_ne DD, h1] at hD2
          cases hD2
        have hq2 : H2 D = some (.lst (gs.map V.ref)) := kp _ _ (by rw [upd_ne DD]; exact h1)
        have hdl2 : H2 dl = some (.frz od (DNo P w dl xs)) := kp _ _ upd_same
        have D2l : D2 ≠ dl := fun z => by rw [z, upd_same] at hD2; cases hD2
        refine ⟨_, rfl, _, rfl, D, gs.map V.ref, -1, x.length, rfl, rfl, hq2, ?_, by rw [upd_ne DD.symm]; exact hdl2, ?_⟩
        · unfold ixN
          rw [if_neg (by decide), if_pos (by rw [List.length_map, h2]; omega), List.length_map, h2]
          congr 1
          omega
        -- all is in place
        have kq : ∀ c o, H2 c = some o → c ≠ D → c ≠ dl → upd (upd H2 D (.lst ((gs.map V.ref).set x.length (.ref D2)))) dl (DNo P w dl xs) c = some o := fun c o e n1 n2 => by rw [upd_ne n2, upd_ne n1]; exact e
        have sH4 : Same H (upd (upd H2 D (.lst ((gs.map V.ref).set x.length (.ref D2)))) dl (DNo P w dl xs)) := fun c o e => by
          by_cases n2 : c = dl
          · rw [n2, upd_same]
            have e1 := hS _ _ e
            rw [n2, edl] at e1
            exact e1
          · exact kq c o (kp _ _ (by rw [upd_ne n2]; exact hS _ _ e)) (ne_of_none e hD) n2
        have hq4 : upd (upd H2 D (.lst ((gs.map V.ref).set x.length (.ref D2)))) dl (DNo P w dl xs) D = some (.lst ((gs.set x.length D2).map V.ref)) := by
          rw [upd_ne DD, upd_same, List.map_set]
        have k4 : KeepT H2 (upd (upd H2 D (.lst ((gs.map V.ref).set x.length (.ref D2)))) dl (DNo P w dl xs)) := fun c ys e => kq c _ e (fun z => by rw [z, hq2] at e; cases e) fun z => by rw [z, hdl2] at e; cases e
        have gd4 : ∀ (j : Nat) d g, (gs.set x.length D2)[j]? = some d → (w0 Ls x.length).1[j]? = some g → DN P w false (upd (upd H2 D (.lst ((gs.map V.ref).set x.length (.ref D2)))) dl (DNo P w dl xs)) d (kvG g) := fun j d g q1 q2 => by
          have q2 : ((List.replicate (x.length + 1) ([] : List Sx)).set x.length ((Ls.getD x.length []).map (·.1)))[j]? = some g := q2
          rw [getD_at hL] at q2
          rcases set_at q1 with ⟨rfl, rfl⟩ | ⟨n, q1⟩
          · rw [List.getElem?_set_self (by rw [List.length_replicate]; omega)] at q2
            cases q2
            exact dn.keep (by rw [upd_ne D2l, upd_ne D2D]) k4
          · rw [List.getElem?_set_ne (fun z => n z.symm)] at q2
            rw [rep_at q2]
            obtain ⟨a1, a2, a3⟩ := h4 d (List.mem_of_getElem? q1)
            have ddl : d ≠ dl := fun z => by
              obtain ⟨o, e5⟩ := dn_some (Y.dd _ _ _ _ hd hL ha).2
              rw [z, e5] at a1
              cases a1
            obtain ⟨o, e3⟩ := dn_some a3
            have e4 := kp _ _ (by rw [upd_ne ddl]; exact e3)
            refine a3.keep (by rw [upd_ne ddl, upd_ne a2, e4, e3]) (fun c ys e => k4 _ _ (kp _ _ (kF _ _ e)))
        have gn4 : (gs.set x.length D2).Nodup := by
          refine set_nodup (fun hm => ?_) h3
          obtain ⟨_, _, a3⟩ := h4 D2 hm
          obtain ⟨o, e3⟩ := dn_some a3
          rw [upd_ne D2l, e3] at hD2
          cases hD2
        generalize upd (upd H2 D (.lst ((gs.map V.ref).set x.length (.ref D2)))) dl (DNo P w dl xs) = H4 at sH4 hq4 gd4 ⊢
        have gl4 : (gs.set x.length D2).length = (w0 Ls x.length).1.length := by
          show _ = ((List.replicate (x.length + 1) ([] : List Sx)).set x.length _).length
          rw [List.length_set, List.length_set, List.length_replicate, h2]
        have g04 : ∀ d ∈ gs.set x.length D2, H d = none := fun d hd => by
          rcases List.mem_or_eq_of_mem_set hd with z | z
          · exact (h4 d z).1
          · rw [z]
            cases e : H D2 with
            | none => rfl
            | some o =>
              rw [upd_ne D2l, hS _ _ e] at hD2
              cases hD2
        generalize gs.set x.length D2 = ge at gd4 gn4 gl4 g04 hq4
        refine fun wd hwd => ?_
        obtain ⟨HB, Z0, kB⟩ := zh_init hq4 gl4 gn4 gd4 hwd
        have sB : Same H HB := fun c o e => kB c o (sH4 _ _ e) fun z => by rw [g04 c z] at e; cases e
        have YB := Y.same sB
        have hqB : HB D = some (.lst (ge.map V.ref)) := Z0.hq
        have lp : (ds.map V.ref).length = x.length + 1 := by rw [List.length_map, dsl]
        refine ⟨_, rfl, p, _, rfl, .inl (SqL.of (Z0.s _ _ YB.hp)), _, 1, rfl, rfl, _, rfl, _, 0, -1, _, rfl, RgC.neg (by rw [lp]; omega) (by rw [lp]; omega) (by decide) (by decide), for_it walk_rangeC (fun k σ H' => ∃ (v3 v5 v6 v7 v8 v9 v10 v11 v12 v13 v14 : Option V) (was : List Addr), σ = [some (.ref f), some (.ref p), some (.ref D), v3, some (.ref wd), v5, v6, v7, v8, v9, v10, v11, v12, v13, v14] ∧
          Zh P w HB H' D wd (wF fr Ls x.length k) ge was ∧ Zk Ls x.length (wF fr Ls x.length k)) ⟨none, none, none, none, none, none, none, none, none, none, none, [], rfl, Z0, zk_w0 W⟩ (fun _ _ _ _ _ => trivial) ?_ ?_⟩
        · clear Z0 dn kp
          rintro k y σ Hz H5 hk ⟨v3, v5, v6, v7, v8, v9, v10, v11, v12, v13, v14, was, rfl, Z, ZK⟩ ⟨rfl, rfl⟩
          have hk : k < x.length := by rw [lp] at hk; omega
          have ev : (fun i : Nat => V.int (((ds.map V.ref).length : Int) - 1 + (i : Int) * -1)) k = V.int ((x.length - k : Nat) : Int) := by
            show V.int (((ds.map V.ref).length : Int) - 1 + (k : Int) * -1) = _
            rw [lp]
            congr 1
            omega
          rw [ev]
          rw [wF_succ]
          generalize hz : wF fr Ls x.length k = z at Z ZK
          generalize hi : x.length - k = i
          have i1 : 1 ≤ i := by omega
          have ix : i ≤ x.length := by omega
          clear hi ev
          have jz : i < z.1.length := by rw [ZK.l]; omega
          have hg := List.getElem?_eq_getElem jz
          generalize z.1[i] = g at hg
          have hdi : ge[i]? = some (ge[i]'(by rw [Z.gl]; exact jz)) := List.getElem?_eq_getElem _
          generalize ge[i]'(by rw [Z.gl]; exact jz) = gi at hdi
          have dng := Z.gd i gi g hdi hg
          refine ⟨_, rfl, _, rfl, D, _, (i : Int), .ref gi, rfl, rfl, SqL.of (Z.s _ _ Z.hq), atI_nat (by rw [List.getElem?_map, hdi]; rfl), gi, _, rfl, dng.rd, fun pS bs hS keys => ⟨pS, rfl, ⟨_, SqL.of upd_same⟩, ?_⟩⟩
          have uS := same_upd (o := HO.lst (bs.map V.ref)) hS
          have Z5 := Z.same uS
          obtain ⟨HC, ZC, sC, kC, eC⟩ := Z5.rebase
          have bS : HC pS = some (.lst (bs.map V.ref)) := by
            refine eC pS _ upd_same (fun h => ?_) (fun h => ?_) fun h => ?_
            · obtain ⟨_, _, _, _, dn⟩ := Z.gsome h
              obtain ⟨o, e⟩ := dn_some dn
              rw [e] at hS
              cases hS
            · rw [h, Z.wa.e] at hS
              cases hS
            · obtain ⟨_, _, _, _, e⟩ := Z.wsome h
              rw [e] at hS
              cases hS
          have YC := YB.same sC
          have lB : bs.length = g.length := by
            have := Paired.length keys
            rw [kvG_len] at this
            exact this.symm
          have eI : wI fr Ls z i = g.foldl (wS fr Ls i) z := by unfold wI; rw [getG hg]
          rw [eI]
          have hLi : Ls[i]? = some (Ls[i]'(by rw [W.len]; omega)) := List.getElem?_eq_getElem _
          generalize Ls[i]'(by rw [W.len]; omega) = Li at hLi
          have hdl : ds[i]? = some (ds[i]'(by rw [dsl]; omega)) := List.getElem?_eq_getElem _
          generalize ds[i]'(by rw [dsl]; omega) = di at hdl
          have hal : as[i]? = some (as[i]'(by rw [Y.al, W.len]; omega)) := List.getElem?_eq_getElem _
          generalize as[i]'(by rw [Y.al, W.len]; omega) = ai at hal
          have sub := ZK.sub i g hg
          refine for_it (walk_list (xs := bs.map V.ref)) (fun m σ H' => ∃ (v3 v6 v7 v8 v9 v10 v11 v12 v13 v14 : Option V) (was : List Addr), σ = [some (.ref f), some (.ref p), some (.ref D), v3, some (.ref wd), some (.int (i : Int)), v6, v7, v8, v9, v10, v11, v12, v13, v14] ∧
            Zh P w HC H' D wd ((g.take m).foldl (wS fr Ls i) z) ge was ∧ Zk Ls x.length ((g.take m).foldl (wS fr Ls i) z)) ⟨v3, v6, v7, v8, v9, v10, v11, v12, v13, v14, was, rfl, ZC, ZK⟩ (fun m σ H' _ ⟨_, _, _, _, _, _, _, _, _, _, _, _, y, _⟩ => SqL.of (y.s _ _ bS)) ?_ ?_
          · clear ZC Z5 Z ZK dng
            rintro m y σ Hz H6 hm ⟨v3, v6, v7, v8, v9, v10, v11, v12, v13, v14, was, rfl, Z, ZK⟩ ⟨rfl, hy⟩
            have hm2 : m < bs.length := by simpa using hm
            obtain ⟨b, hb, rfl⟩ : ∃ b, bs[m]? = some b ∧ y = .ref b := by
              have hy : (bs.map V.ref)[m]? = some y := hy
              rw [List.getElem?_map, List.getElem?_eq_getElem hm2] at hy
              exact ⟨_, List.getElem?_eq_getElem hm2, (Option.some.inj hy).symm⟩
            have hgs : g[m]? = some (g[m]'(by omega)) := List.getElem?_eq_getElem _
            generalize g[m]'(by omega) = s0 at hgs
            have stB : StA HC b s0 := (keysG_at keys hb hgs).keep fun c ys e => kC _ _ (uS _ _ e)
            obtain ⟨L', e1, ms⟩ := sub s0 (List.mem_of_getElem? hgs)
            rw [hLi] at e1
            cases e1
            obtain ⟨e, he, rfl⟩ := List.mem_map.mp ms
            obtain ⟨mi, hmi⟩ := List.mem_iff_getElem?.mp he
            obtain ⟨lai, dni⟩ := YC.dd i di Li ai hdl hLi hal
            have ib : mi < ai.length := by rw [lai]; exact (List.getElem?_eq_some_iff.mp hmi).1
            have hbi := List.getElem?_eq_getElem ib
            generalize ai[mi] = bi at hbi
            obtain ⟨⟨tl, ebl, atl⟩, _⟩ := YC.ll i Li ai mi bi e hLi hal hbi hmi
            have hkm : (Li.map (·.1))[mi]? = some e.1 := by rw [List.getElem?_map, hmi]; rfl
            rw [fold_one hgs]
            have eS : ∀ z, wS fr Ls i z e.1 = e.2.foldl (wT fr i) z := fun z => by
              unfold wS
              rw [getD_at hLi, seek_at (W.nd i Li hLi) hmi]
            rw [eS]
            generalize (g.take m).foldl (wS fr Ls i) z = zm at Z ZK
            have dn6 := ((YC.same Z.s).dd i di Li ai hdl hLi hal).2
            refine ⟨_, rfl, _, rfl, p, _, (i : Int), .ref di, rfl, rfl, SqL.of (Z.s _ _ YC.hp), atI_nat (by rw [List.getElem?_map, hdl]; rfl), _, rfl, di, b, _, keyS e.1, .ref bi, rfl, rfl, dn6.rd, (stB.keep (Same.keepT Z.s)).key, kvF_at (W.nd i Li hLi) hkm hbi, bi, rfl, ⟨_, SqL.of (Z.s _ _ ebl)⟩, ?_⟩
            refine for_it (walk_list (xs := tl.map V.ref)) (fun r σ H' => ∃ (v6 v7 v8 v9 v10 v11 v12 v13 v14 : Option V) (was : List Addr), σ = [some (.ref f), some (.ref p), some (.ref D), some (.ref b), some (.ref wd), some (.int (i : Int)), v6, v7, v8, v9, v10, v11, v12, v13, v14] ∧
              Zh P w HC H' D wd ((e.2.take r).foldl (wT fr i) zm) ge was ∧ Zk Ls x.length ((e.2.take r).foldl (wT fr i) zm)) ⟨v6, v7, v8, v9, v10, v11, v12, v13, v14, was, rfl, Z, ZK⟩ (fun m σ H' _ ⟨_, _, _, _, _, _, _, _, _, _, _, y, _⟩ => SqL.of (y.s _ _ ebl)) ?_ ?_
            · clear Z ZK dn6
              rintro r y σ Hz H7 hr2 ⟨v6, v7, v8, v9, v10, v11, v12, v13, v14, was, rfl, Z, ZK⟩ ⟨rfl, hy⟩
              have hr3 : r < tl.length := by simpa using hr2
              obtain ⟨tr, htr, rfl⟩ : ∃ tr, tl[r]? = some tr ∧ y = .ref tr := by
                have hy : (tl.map V.ref)[r]? = some y := hy
                rw [List.getElem?_map, List.getElem?_eq_getElem hr3] at hy
                exact ⟨_, List.getElem?_eq_getElem hr3, (Option.some.inj hy).symm⟩
              have hu2 : e.2[r]? = some (e.2[r]'(by rw [← atl.1]; exact hr3)) := List.getElem?_eq_getElem _
              generalize e.2[r]'(by rw [← atl.1]; exact hr3) = u at hu2
              obtain ⟨sa, ea, z1, z2, z3⟩ := atl.2 r tr u htr hu2
              have tok := W.to i Li hLi e he u (List.mem_of_getElem? hu2)
              rw [fold_one hu2]
              generalize (e.2.take r).foldl (wT fr i) zm = zr at Z ZK
              obtain ⟨sp, es1, es2⟩ := z2
              have ul : u.1 < zr.1.length := by
                obtain ⟨L2, e2, _⟩ := tok.s
                have := (List.getElem?_eq_some_iff.mp e2).1
                rw [ZK.l]
                rw [W.len] at this
                exact this
              have hgu := List.getElem?_eq_getElem ul
              generalize zr.1[u.1] = gu at hgu
              have hdu : ge[u.1]? = some (ge[u.1]'(by rw [Z.gl]; exact ul)) := List.getElem?_eq_getElem _
              generalize ge[u.1]'(by rw [Z.gl]; exact ul) = gb at hdu
              have dnu := Z.gd _ _ _ hdu hgu
              have gfew : gu.length ≤ 1080 := by
                have a := List.Nodup.length_le_of_subset (ZK.nd _ _ hgu) (l₂ := (Ls.getD u.1 []).map (·.1)) fun s hs => by
                  obtain ⟨L2, q1, q2⟩ := ZK.sub _ _ hgu s hs
                  rw [getD_at q1]
                  exact q2
                obtain ⟨L2, q1, _⟩ := tok.s
                rw [getD_at q1, List.length_map] at a
                have := layer_few n3 fm.l5 (W.nd _ _ q1) (W.so _ _ q1)
                omega
              refine ⟨tr, _, rfl, SqT.of (Z.s _ _ z1), rfl, _, _, rfl, _, _, rfl, _, _, rfl, ea, _, rfl, SqT.of (Z.s _ _ z3), rfl, _, _, rfl, _, _, rfl, rfl, rfl, ?_⟩
              refine ⟨_, rfl, _, rfl, D, _, (u.1 : Int), .ref gb, rfl, rfl, SqL.of (Z.s _ _ ((Z.weak (Same.refl HC) ?_).hq)), atI_nat (by rw [List.getElem?_map, hdu]; rfl), _, rfl, gb, sa, _, keyS u.2.1, rfl, rfl, dnu, (StA.keep (H := HC) ⟨sp, es1, es2⟩ (Same.keepT Z.s)).key, by rw [kvG_len, sizeLine_eq]; omega, fun H8 oa dn8 => ?_⟩
              · exact Z.hq
              rw [kvG_put] at dn8
              have Z8 := Z.go hdu hgu oa dn8
              have ZK8 := ZK.go hgu tok.s
              obtain ⟨ts, tp, hf, hta, h3, hm3⟩ := stt_at (fa.same (Same.trans sB (Same.trans sC Z8.s))) tok.e.b0 tok.e.b1
              refine ⟨_, rfl, _, rfl, f, _, u.2.2.2, .ref tp, rfl, rfl, SqT.of hf, hta, tp, _, rfl, SqT.of h3, rfl, _, _, rfl, _, _, rfl, _, _, rfl, rfl, ?_⟩
              refine ⟨_, rfl, rfl, _, rfl, ?_⟩
              have ew : wT fr i zr u = (zr.1.set u.1 (addS gu u.2.1), if (stt fr u.2.2.2).2.2 = 0 then addW zr.2 i (decide (behM u.2.1.2 u.2.2.1 (stt fr u.2.2.2).1 = .mix)) else zr.2) := by
                unfold wT
                rw [getG hgu]
              rw [ew]
              by_cases c : (stt fr u.2.2.2).2.2 = 0
              · rw [if_pos c]
                refine iteT' (by rw [c]; exact decide_eq_true rfl) ?_
                refine ⟨_, rfl, sa, _, 1, mkV u.2.1.2, rfl, rfl, SqT.of (Z8.s _ _ es1), atI_nat (j := 1) rfl, _, rfl, _, rfl, u.2.1.2, u.2.2.1, (stt fr u.2.2.2).1, rfl, scal_mix _, ?_⟩
                rw [mk_mix]
                generalize decide (behM u.2.1.2 u.2.2.1 (stt fr u.2.2.2).1 = .mix) = bb
                have ZK9 := ZK8.word (b := bb) (i := i) ix
                have wfew : (z1 : Nat) → z1 = (kvZ (zr.2.map (·.1)) was).length → z1 < sizeLine := fun z1 e => by
                  have a := ZK.few
                  rw [e, kvZ_len (by rw [List.length_map]; exact Z8.wa.l), List.length_map, sizeLine_eq]
                  omega
                refine ⟨_, rfl, wd, rfl, .inl ⟨_, .inl Z8.wa.e⟩, _, rfl, fun l0 hl0 => ?_⟩
                have u9 := same_upd (o := HO.dK []) hl0
                have Z9 := Z8.same u9
                have pc := addW_cases i bb zr.2
                have few2 : ∀ (m : Nat) (v : Nat × List Bool), zr.2[m]? = some v → (kvB v.2).length < sizeLine := fun m v h => by
                  have := few_bools (ZK8.wb v (List.mem_of_getElem? h)).2
                  rw [List.length_map, sizeLine_eq]
                  omega
                -- the name of the word
                have tag : ∀ (σ : St) (H2 : Hp) (Qv : VK), σ[13]? = some (some (.bl bb)) → Qv (kV (Sum.inr (tagB bb))) H2 → tIf (tB (tVar 13)) (tC (.str "mixed")) (tC (.str "whole")) σ H2 Qv := fun σ H2 Qv h13 hq => by
                  refine ⟨_, h13, bb, rfl, ?_⟩
                  cases bb with
                  | true => exact iteT hq
                  | false => exact iteF hq
                refine ⟨_, nK i, Z9.wa.e, rfl, wfew _ rfl, fun v hv => ?_, fun hn => ?_⟩
                · rcases pc with ⟨m2, v2, q1, q2, q3⟩ | ⟨q1, _⟩
                  · have im : m2 < was.length := by rw [Z8.wa.l]; exact (List.getElem?_eq_some_iff.mp q1).1
                    have ha2 := List.getElem?_eq_getElem im
                    generalize was[m2] = a2 at ha2
                    have hk2 : (zr.2.map (·.1))[m2]? = some i := by rw [List.getElem?_map, q1, ← q2]; rfl
                    have e9 : valV (kvZ (zr.2.map (·.1)) was) (nK i) = some (.ref a2) := kvZ_at ZK.wn hk2 ha2
                    rw [e9] at hv
                    cases hv
                    have Z10 := Z9.wold (b := bb) q1 q2 ha2
                    rw [← q3, ← kvB_put] at Z10
                    exact tag _ _ _ rfl ⟨a2, _, rfl, DPut.k (Z9.wa.it m2 v2 a2 q1 ha2) (few2 m2 v2 q1), ⟨_, _, _, _, _, _, _, _, _, was, rfl, Z10, ZK9⟩⟩
                  · have e9 : valV (kvZ (zr.2.map (·.1)) was) (nK i) = none := kvZ_none q1
                    rw [e9] at hv
                    cases hv
                · rcases pc with ⟨m2, v2, q1, q2, q3⟩ | ⟨q1, q3⟩
                  · have im : m2 < was.length := by rw [Z8.wa.l]; exact (List.getElem?_eq_some_iff.mp q1).1
                    have hk2 : (zr.2.map (·.1))[m2]? = some i := by rw [List.getElem?_map, q1, ← q2]; rfl
                    have e9 : valV (kvZ (zr.2.map (·.1)) was) (nK i) = some (.ref was[m2]) := kvZ_at ZK.wn hk2 (List.getElem?_eq_getElem im)
                    rw [e9] at hn
                    cases hn
                  · have lw : l0 ≠ wd := fun h => by rw [h, Z8.wa.e] at hl0; cases hl0
                    have el0 : upd (upd H8 l0 (.dK [])) wd (.dK (putK (kvZ (zr.2.map (·.1)) was) (nK i) (.ref l0))) l0 = some (.dK []) := by rw [upd_ne lw, upd_same]
                    have Z10 := Z8.wnew (i := i) (b := bb) (l0 := l0) (H' := upd (upd (upd H8 l0 (.dK [])) wd (.dK (putK (kvZ (zr.2.map (·.1)) was) (nK i) (.ref l0)))) l0 (.dK (putK [] (Sum.inr (tagB bb)) (.bl true)))) hl0
                      (fun c o h n => by rw [upd_ne (ne_of_none h hl0), upd_ne n]; exact u9 _ _ h)
                      (by rw [upd_ne lw.symm, upd_same, putK_new _ hn, kvZ_snoc (by rw [List.length_map]; exact Z8.wa.l)])
                      (by rw [upd_same]; rfl)
                    rw [q3] at ZK9 ⊢
                    exact tag _ _ _ rfl ⟨l0, _, rfl, DPut.k el0 (by decide), ⟨_, _, _, _, _, _, _, _, _, was ++ [l0], rfl, Z10, ZK9⟩⟩
              · rw [if_neg c]
                refine iteF' (decide_eq_false fun z => c (by injection z)) ?_
                exact ⟨_, _, _, _, _, _, _, _, _, was, rfl, Z8, ZK8⟩
            · rintro σ H7 ⟨v6, v7, v8, v9, v10, v11, v12, v13, v14, was, rfl, Z, ZK⟩
              rw [List.length_map, atl.1, List.take_length] at Z ZK
              exact ⟨_, _, _, _, _, _, _, _, _, _, was, rfl, Z, ZK⟩
          · rintro σ H6 ⟨v3, v6, v7, v8, v9, v10, v11, v12, v13, v14, was, rfl, Z, ZK⟩
            rw [List.length_map, lB, List.take_length] at Z ZK
            exact ⟨_, _, _, _, _, _, _, _, _, _, _, was, rfl, Z.weak sC hqB, ZK⟩
        · rintro σ H5 ⟨v3, v5, v6, v7, v8, v9, v10, v11, v12, v13, v14, was, rfl, Z, ZK⟩
          have en : (((ds.map V.ref).length : Int) - 1 - 0).toNat = x.length := by rw [lp]; omega
          rw [en] at Z ZK
          exact ⟨_, rfl, q H5 wd was (Same.trans sB Z.s) Z.wa ZK⟩
end
end K37

set_option Elab.async false
set_option linter.all false
set_option maxRecDepth 100000
set_option maxHeartbeats 8000000
/-! verdicts. -/
namespace K37
open PySem L2 L2.EV
abbrev sVerdicts : Stmt := top 40
def lookW : List (Nat × List Bool) → Nat → List Bool
  | [], _ => []
  | e :: ws, i => if e.1 = i then e.2 else lookW ws i
theorem lookW_at : ∀ {ws : List (Nat × List Bool)} {m : Nat} {e : Nat × List Bool}, (ws.map (·.1)).Nodup → ws[m]? = some e → lookW ws e.1 = e.2
  | [], _, _, _, h => by simp at h
  | a :: ws, 0, e, _, h => by
    have h : a = e := by simpa using h
    subst h
    exact if_pos rfl
  | a :: ws, m + 1, e, nd, h => by
    have h : ws[m]? = some e := by simpa using h
    obtain ⟨n1, n2⟩ := List.nodup_cons.mp (show (a.1 :: ws.map (·.1)).Nodup from nd)
    have ne : ¬ a.1 = e.1 := fun z => n1 (by rw [z]; exact List.mem_map.mpr ⟨e, List.mem_of_getElem? h, rfl⟩)
    exact Eq.trans (if_neg ne) (lookW_at n2 h)
/-- what is told of a line -/
def tellW : List Bool → Str
  | [b] => tagB b
  | _ => "open"
/-- the places that have words, ascending -/
def ascW (n : Nat) (ws : List (Nat × List Bool)) : List Nat := (List.range (n + 1)).filter fun i => decide (i ∈ ws.map (·.1))
def verF (fr : List T3) (x : Str) (nw : Nat) : Option (List Str) := match endF fr x nw with
  | [] => none
  | _ :: _ => some ((ascW x.length (wF fr (trF fr x nw x.length) x.length x.length).2).map fun i => tellW (lookW (wF fr (trF fr x nw x.length) x.length x.length).2 i))
def spVerdicts (C : Addr) : Sp := fun vs H Q E => ∃ (fr : List T3) (o : Option (Str × Nat)), Ags H vs fr o ∧ match o.bind fun q => verF fr q.1 q.2 with
  | some ts => ∀ H' p, Same H H' → H' p = some (.tup (ts.map V.str)) → Q (.ref p) H'
  | none => Eo C E H
theorem asc_one : ∀ {a b : List Int}, a.Perm b → a.Pairwise (· ≤ ·) → b.Pairwise (· ≤ ·) → a = b
  | [], b, h, _, _ => (List.nil_perm.mp h).symm
  | x :: a, b, h, ha, hb => by
    cases b with
    | nil => exact absurd h (by simp)
    | cons y b =>
      obtain ⟨a1, a2⟩ := List.pairwise_cons.mp ha
      obtain ⟨b1, b2⟩ := List.pairwise_cons.mp hb
      have xy : x ≤ y := by
        rcases List.mem_cons.mp (h.mem_iff.mpr (List.mem_cons_self (a := y) (l := b))) with z | z
        · omega
        · exact a1 y z
      have yx : y ≤ x := by
        rcases List.mem_cons.mp (h.mem_iff.mp (List.mem_cons_self (a := x) (l := a))) with z | z
        · omega
        · exact b1 x z
      have e : x = y := by omega
      subst e
      rw [asc_one (List.Perm.cons_inv h) a2 b2]
theorem ascW_perm {n : Nat} {ws : List (Nat × List Bool)} (nd : (ws.map (·.1)).Nodup) (b : ∀ e ∈ ws, e.1 ≤ n) : (ascW n ws).Perm (ws.map (·.1)) := by
  refine (List.perm_ext_iff_of_nodup (List.Pairwise.filter _ List.nodup_range) nd).mpr fun i => ?_
  rw [List.mem_filter, List.mem_range, decide_eq_true_eq]
  refine ⟨fun h => h.2, fun h => ⟨?_, h⟩⟩
  obtain ⟨e, he, rfl⟩ := List.mem_map.mp h
  have := b e he
  omega
theorem ascW_asc {n : Nat} {ws : List (Nat × List Bool)} : ((ascW n ws).map fun i : Nat => (i : Int)).Pairwise (· ≤ ·) := by
  rw [List.pairwise_map]
  refine List.Pairwise.filter _ ?_
  refine List.Pairwise.imp (fun {a b} h => ?_) (List.pairwise_lt_range (n := n + 1))
  omega
abbrev NV : List Str := ["framing", "text", "writers", "layers", "words", "at"]
section
variable {P : Program} {w : World} {K : PySem.W.Frag} {mg : Str → Option Value} {base : Heap}
theorem scVerdicts : FnScope NV ["framing", "text", "writers"] (defScope sVerdicts) := ⟨rfl, rfl, rfl, by decide +kernel, rfl, by decide +kernel, by decide +kernel⟩
theorem ok_verdicts (T : Rf K mg) (tu : mg "tuple" = none) (so : mg "sorted" = none) (cO : ∃ t, mg "OPEN" = some (.str "open" t)) {f : Addr} {d : FuncData} (F : Fun K "verdicts" "verdicts" sVerdicts f d) : FnOk P w K mg base (L2.CX P w) 6 f d ["framing", "text", "writers"] (spVerdicts T.C.T.G.S.Y.O.C) := by
  have GC : FnOk P w K mg base (L2.CX P w) 5 T.C.f T.C.d ["framing", "text", "writers"] (spChecked P w T.C.T.G.S.Y.O.C) := ok_checked T.C
  have GW : FnOk P w K mg base CX0 2 T.f T.d ["framing", "layers"] (spWords P w) := ok_words T
  have GO : FnOk P w K mg base CX0 2 T.C.T.G.S.Y.O.f T.C.T.G.S.Y.O.d ["self", "text"] (spNo K T.C.T.G.S.Y.O.C) := ok_OutOfPlace T.C.T.G.S.Y.O.F T.C.T.G.S.Y.O.T T.C.T.G.S.Y.O.I T.C.T.G.S.Y.O.FM T.C.T.G.S.Y.O.bM T.C.T.G.S.Y.O.mM T.C.T.G.S.Y.O.TM
  refine F.okX scVerdicts (fun vs H Q E h => ?_) (fun cdv A outer s H vs Q E hr h => ?_)
  · obtain ⟨fr, o, ⟨f, last, v, u, d1, d2, rfl, _⟩, _⟩ := h
    rfl
  · obtain ⟨fr, o, ag, q⟩ := h
    obtain ⟨g, last0, v, u, d1, d2, rfl, fa0, fm0, da0, sh0, db0, eo⟩ := id ag.ex
    obtain ⟨tO, eO⟩ := cO
    have hu1 : (A.deeper (PyProof.Rows.envOfC "verdicts" (defScope sVerdicts) s.heap.objs.size f cdv)).units + 1 < cLine := by have := hr.un; omega
    refine ⟨_, pss_cons (ps_set (i := 3) scVerdicts.nd rfl (Or.inl rfl) (pe_call GC hr (by rfl) T.C.m T.C.F.kp T.C.b .nil (passes_call (E := E) (takes_of rfl rfl rfl rfl) fun _ _ _ _ h => h) (pa_cons (pv 0) (pa_cons (pv 1) (pa_cons (pv 2) pa_nil)))))
      (pss_cons (ps_if (pt_cmpR op_eq (pe_callB (call_len_dN (B := false)) (by rfl) T.C.T.G.S.Y.Z.T.len PySem.boot_len (pa_cons (pe_ix ix_list (pv 3) (pe_un un_neg pe_int) (fun _ _ => rfl)) pa_nil)) pe_int (nomark _))
        (pss_one (ps_raise rfl (takes_of rfl rfl rfl rfl) (pmk_own2 rfl (pe_new T.C.T.G.S.Y.O.T T.C.T.G.S.Y.O.iC T.C.T.G.S.Y.O.tI GO (hr.mono (by omega)) (kb_pos T.C.T.G.S.Y.O.b rfl) pass0 (by rfl) T.C.T.G.S.Y.O.m (pa_cons pe_str pa_nil))))) pss_nil)
      (pss_cons (ps_set (i := 4) scVerdicts.nd rfl (Or.inr rfl) (pe_call GW (hr.mono (by omega)) (by rfl) T.m T.F.kp T.b .nil pass0 (pa_cons (pv 0) (pa_cons (pv 3) pa_nil))))
      (pss_one (ps_ret (pe_callTy call_tuple_of (by rfl) tu (by decide +kernel) (pa_cons (pe_lc (own := [("at", 5)]) (g := gName 5) (te := tIf (tTest (tOp rEq (tCB (fun xs H Q => ∃ a kvs, xs = [V.ref a] ∧ H a = some (.dK kvs) ∧ Q (.int kvs.length) H) (tCons (tDGet (tVar 4) (tVar 5)) tNil)) (tC (.int 1)))) (tOp (rIxL K) (tCB rListD (tCons (tDGet (tVar 4) (tVar 5)) tNil)) (tC (.int 0))) (tC (.str "open"))) rfl scVerdicts.nd
        (pi_list (pe_callB (call_sortedDI rfl) (by rfl) so (by decide +kernel) (pa_cons (pv 4) pa_nil)))
        (blkOk_by (N := NV) (sc := defScope sVerdicts) (by decide +kernel)) (fun _ _ _ _ _ => pg_name (i := 5) scVerdicts.nd rfl (Or.inl rfl)) (fun _ _ _ _ _ => pts_nil)
        (fun _ _ _ _ _ => pe_ifExp (pt_cmpR op_eq (pe_callB call_lenD (by rfl) T.C.T.G.S.Y.Z.T.len PySem.boot_len (pa_cons (pe_dget hu1 (pv 4) (pv 5) (fun _ _ => rfl)) pa_nil)) pe_int (nomark _))
          (pe_ix ix_list (pe_callTy (call_list_dK rfl) (by rfl) T.C.T.li (by decide +kernel) (pa_cons (pe_dget hu1 (pv 4) (pv 5) (fun _ _ => rfl)) pa_nil)) pe_int (fun _ _ => rfl))
          (pe_glob (v := .str "open") (by rfl) eO ⟨_, rfl⟩))) pa_nil)))))), ?_⟩
    refine ⟨_, rfl, _, rfl, _, rfl, fr, o, ag, ?_⟩
    cases o with
    | none => exact q
    | some o =>
      obtain ⟨x, nw⟩ := o
      intro last H1 p ds as fm x60 n1 n3 Y W
      have jL : x.length < (trF fr x nw x.length).length := by rw [W.len]; omega
      have hL := List.getElem?_eq_getElem jL
      have hE : endF fr x nw = (trF fr x nw x.length)[x.length] := getD_at hL
      generalize (trF fr x nw x.length)[x.length] = L at hL hE
      have hd : ds[x.length]? = some (ds[x.length]'(by rw [Y.dl]; exact jL)) := List.getElem?_eq_getElem _
      generalize ds[x.length]'(by rw [Y.dl]; exact jL) = dl at hd
      have ha : as[x.length]? = some (as[x.length]'(by rw [Y.al]; exact jL)) := List.getElem?_eq_getElem _
      generalize as[x.length]'(by rw [Y.al]; exact jL) = al at ha
      obtain ⟨la, dn⟩ := Y.dd _ _ _ _ hd hL ha
      have lk : (kvF (L.map (·.1)) al).length = L.length := by rw [kvF_len (by rw [List.length_map]; exact la), List.length_map]
      refine ⟨_, rfl, _, rfl, p, _, -1, .ref dl, rfl, rfl, SqL.of Y.hp, at_end2 (by rw [Y.dl, W.len]) hd, dl, _, rfl, dn.rd, rfl, _, rfl, ?_⟩
      cases L with
      | nil =>
        refine iteT' (by rw [lk]; exact decide_eq_true rfl) ?_
        have e : verF fr x nw = none := by unfold verF; rw [hE]
        simp only [Option.bind_some, e] at q
        refine ⟨rfl, rfl, (by decide), fun a na => ⟨a, .str _, .str _, rfl, upd_same, .str _, rfl, a, T.C.T.G.S.Y.O.C, none, rfl, upd_same, fr0_none (same_none Y.s na), raises_own T.C.T.G.S.Y.O.su T.C.T.G.S.Y.O.ty, ?_⟩⟩
        rw [delH_new na]
        exact q H1 Y.s
      | cons e0 Lr =>
        refine iteF' (by rw [lk]; exact decide_eq_false fun z => by injection z with z; rw [List.length_cons] at z; omega) ?_
        have e : verF fr x nw = some ((ascW x.length (wF fr (trF fr x nw x.length) x.length x.length).2).map fun i => tellW (lookW (wF fr (trF fr x nw x.length) x.length x.length).2 i)) := by unfold verF; rw [hE]
        simp only [Option.bind_some, e] at q
        refine ⟨_, rfl, _, rfl, g, p, fr, last, x, nw, H, trF fr x nw x.length, ds, as, rfl, fa0.same Y.s, fm, x60, n3, Y, W, fun H2 wd was s2 WA ZK => ?_⟩
        generalize wF fr (trF fr x nw x.length) x.length x.length = z at q WA ZK
        have hk : (kvZ (z.2.map (·.1)) was).map (·.1) = (z.2.map fun e : Nat × List Bool => (e.1 : Int)).map Sum.inl := by
          have e : ∀ (ks : List Nat) (a : List Addr), a.length = ks.length → (kvZ ks a).map (·.1) = (ks.map fun k : Nat => (k : Int)).map Sum.inl := by
            intro ks
            induction ks with
            | nil => intro a _; rfl
            | cons k ks ih =>
              intro a h
              cases a with
              | nil => cases h
              | cons b a =>
                show nK k :: (kvZ ks a).map (·.1) = _
                rw [ih a (by simpa using h)]
                rfl
          rw [e _ _ (by rw [List.length_map]; exact WA.l), List.map_map (f := fun e : Nat × List Bool => e.1)]
          rfl
        refine ⟨_, rfl, wd, _, _, rfl, .inl WA.e, hk, by rw [List.length_map]; have := ZK.few; omega, fun ys l hp hs hl => ⟨l, rfl, ⟨_, SqL.of upd_same⟩, fun D hD => ?_⟩⟩
        have hy : ys = (ascW x.length z.2).map fun i : Nat => (i : Int) := by
          refine asc_one (hp.trans ?_) hs ascW_asc
          have a := (ascW_perm ZK.wn (fun e he => (ZK.wb e he).1)).map fun i : Nat => (i : Int)
          rw [List.map_map] at a
          exact a.symm
        subst hy
        have few : (ascW x.length z.2).length ≤ 61 := by
          have a := (ascW_perm ZK.wn (fun e he => (ZK.wb e he).1)).length_eq
          rw [List.length_map] at a
          have := ZK.few
          omega
        have mem : ∀ k ∈ ascW x.length z.2, k ∈ z.2.map (·.1) := fun k hk => (ascW_perm ZK.wn (fun e he => (ZK.wb e he).1)).mem_iff.mp hk
        generalize ascW x.length z.2 = aw at q hl hp hs few mem hD ⊢
        have ul := same_upd (o := HO.lst ((aw.map fun i : Nat => (i : Int)).map V.int)) hl
        have uD := same_upd (o := HO.lst []) hD
        have s0 := ul.trans uD
        have e00 := uD _ _ (upd_same (H := H2) (a := l) (o := HO.lst ((aw.map fun i : Nat => (i : Int)).map V.int)))
        refine lc_it (walk_list (xs := (aw.map fun i : Nat => (i : Int)).map V.int)) (fun i H' => H' D = some (.lst (((aw.take i).map fun i => tellW (lookW z.2 i)).map V.str)) ∧ (∀ b o, upd H2 l (.lst ((aw.map fun i : Nat => (i : Int)).map V.int)) b = some o → H' b = some o))
          ⟨upd_same, fun b o h => uD _ _ h⟩ (fun i H' _ h => SqL.of (h.2 _ _ upd_same)) ?_ ?_
        · rintro i y Hz H3 hi ⟨hl3, kp⟩ ⟨rfl, hx⟩
          obtain ⟨k, hk, rfl⟩ : ∃ k, aw[i]? = some k ∧ y = .int (k : Int) := by
            rw [List.getElem?_map, List.getElem?_map] at hx
            cases e : aw[i]? with
            | none => rw [e] at hx; cases hx
            | some k => rw [e] at hx; exact ⟨k, rfl, (Option.some.inj hx).symm⟩
          obtain ⟨m, hm⟩ := List.mem_iff_getElem?.mp (mem k (List.mem_of_getElem? hk))
          have ml : m < z.2.length := by
            have := (List.getElem?_eq_some_iff.mp hm).1
            simpa using this
          have hze := List.getElem?_eq_getElem ml
          generalize z.2[m] = ee at hze
          have ek : ee.1 = k := by
            rw [List.getElem?_map, hze] at hm
            exact Option.some.inj hm
          have hwa : was[m]? = some (was[m]'(by rw [WA.l]; exact ml)) := List.getElem?_eq_getElem _
          generalize was[m]'(by rw [WA.l]; exact ml) = aa at hwa
          have s3 : ∀ b o, H2 b = some o → H3 b = some o := fun b o h => kp _ _ (ul _ _ h)
          have dg : DGet H3 wd (.int (k : Int)) (some (.ref aa)) := by
            have d0 := DGet.k (k := nK k) (s3 _ _ WA.e)
            rw [kvZ_at ZK.wn hm hwa] at d0
            exact d0
          have ea := s3 _ _ (WA.it m ee aa hze hwa)
          have lw : lookW z.2 k = ee.2 := by rw [← ek]; exact lookW_at ZK.wn hze
          refine ⟨rfl, _, rfl, _, rfl, wd, .ref aa, rfl, dg, aa, _, rfl, ea, rfl, _, rfl, ?_⟩
          have snoc : (aw.take (i + 1)).map (fun i => tellW (lookW z.2 i)) = (aw.take i).map (fun i => tellW (lookW z.2 i)) ++ [tellW ee.2] := by
            rw [take_one hk, List.map_append, ← lw]
            rfl
          have lt : ((aw.take i).map fun i => tellW (lookW z.2 i)).length ≤ 61 := by
            rw [List.length_map, List.length_take]
            omega
          cases hb : ee.2 with
          | nil =>
            refine iteF' (by rw [List.length_map]; exact decide_eq_false fun h => by injection h with h; cases h) ?_
            refine ⟨_, hl3, by rw [List.length_map, sizeLine_eq]; omega, ?_, fun b o h => ?_⟩
            · rw [snoc, hb, List.map_append]
              exact upd_same
            · rw [upd_ne fun h2 => by rw [h2, hD] at h; cases h]
              exact kp _ _ h
          | cons b1 bs =>
            cases bs with
            | nil =>
              refine iteT' (by rw [List.length_map]; exact decide_eq_true rfl) ?_
              rw [hb] at ea
              refine ⟨_, rfl, _, rfl, wd, .ref aa, rfl, dg, aa, _, rfl, ea, fun l2 hl2 => ⟨l2, _, 0, .str (tagB b1), rfl, rfl, SqL.of upd_same, atI_nat (j := 0) rfl, ?_⟩⟩
              have u2 := same_upd (o := HO.lst ((kvB [b1]).map fun kv => kV kv.1)) hl2
              refine ⟨_, u2 _ _ hl3, by rw [List.length_map, sizeLine_eq]; omega, ?_, fun b o h => ?_⟩
              · rw [snoc, hb, List.map_append]
                exact upd_same
              · rw [upd_ne fun h2 => by rw [h2, hD] at h; cases h]
                exact u2 _ _ (kp _ _ h)
            | cons b2 bs =>
              refine iteF' (by rw [List.length_map]; exact decide_eq_false fun h => by injection h with h; simp only [List.length_cons] at h; omega) ?_
              refine ⟨_, hl3, by rw [List.length_map, sizeLine_eq]; omega, ?_, fun b o h => ?_⟩
              · rw [snoc, hb, List.map_append]
                exact upd_same
              · rw [upd_ne fun h2 => by rw [h2, hD] at h; cases h]
                exact kp _ _ h
        · rintro H3 ⟨hl3, kp⟩
          rw [List.length_map, List.length_map, List.take_length] at hl3
          refine ⟨D, _, rfl, .inl ⟨SqL.of hl3, fun p3 hp3 => ?_⟩⟩
          exact q _ p3 (fun c o h => same_upd hp3 _ _ (kp _ _ (ul _ _ (s2 _ _ (Y.s _ _ h))))) upd_same
end
end K37

set_option Elab.async false
set_option linter.all false
set_option maxRecDepth 100000
set_option maxHeartbeats 4000000
/-! The errors' classes; _law_fault; _law_outcome. -/
namespace K37
open PySem L2 L2.EV LamX PySem.Spec
abbrev sFault : Stmt := top 44
abbrev sOutcome : Stmt := top 45
/-- a class D, asked of an error's class at C -/
structure Cl (K : PySem.W.Frag) (mg : Str → Option Value) (C : Addr) (x : Str) (D : Addr) (b : Bool) : Prop where
  m : mg x = some (.ref D)
  su : PySem.W.subIn K (.ref D) (.type "BaseException") = some true
  hd : PySem.W.hasDictIn K D = true
  ty : PySem.W.typeIn K (.ref D) = some (.type "type")
  sb : PySem.W.subIn K (.ref C) (.ref D) = some b
theorem Cl.exm {K : PySem.W.Frag} {mg : Str → Option Value} {C D : Addr} {x : Str} {b : Bool} (c : Cl K mg C x D b) : PySem.W.exmOne K (.ref C) (.ref D) = some b := PySem.W.exm_ref c.su c.hd c.ty c.sb
theorem Cl.kit {K : PySem.W.Frag} {mg : Str → Option Value} {C D : Addr} {x : Str} {b : Bool} (c : Cl K mg C x D b) (own : PySem.W.subIn K (.ref C) (.ref C) = some true) : PySem.W.kitOne K (.ref C) (.ref D) = some b := by
  have e := c.exm
  unfold PySem.W.exmOne at e
  rw [if_pos (by rw [c.su]; rfl)] at e
  unfold PySem.W.kitOne
  by_cases h : C = D
  · subst h
    have z := c.sb
    rw [own] at z
    rw [if_pos (by simp)]
    exact z
  · rw [if_neg (by simpa using h)]
    exact e
structure Fx (K : PySem.W.Frag) (mg : Str → Option Value) where
  P : Oop K mg
  D0 : Addr
  D1 : Addr
  D2 : Addr
  D3 : Addr
  D5 : Addr
  D6 : Addr
  D7 : Addr
  p0 : Cl K mg P.C "BadFraming" D0 false
  p1 : Cl K mg P.C "BadReader" D1 false
  p2 : Cl K mg P.C "BadWeaving" D2 false
  p3 : Cl K mg P.C "BadText" D3 false
  p4 : Cl K mg P.C "OutOfPlace" P.C true
  p5 : Cl K mg P.C "TooGreat" D5 false
  p6 : Cl K mg P.C "Nothing" D6 false
  p7 : Cl K mg P.C "Held" D7 false
  isi : mg "isinstance" = none
  len : mg "len" = none
def Fx.cs {K : PySem.W.Frag} {mg : Str → Option Value} (F : Fx K mg) : List Value := [.ref F.D0, .ref F.D1, .ref F.D2, .ref F.D3, .ref F.P.C, .ref F.D5, .ref F.D6, .ref F.D7]
theorem Fx.anyP {K : PySem.W.Frag} {mg : Str → Option Value} (F : Fx K mg) : PySem.W.exmAny K (.ref F.P.C) F.cs = some true := by
  unfold Fx.cs
  simp only [PySem.W.exmAny, F.p0.exm, F.p1.exm, F.p2.exm, F.p3.exm, F.p4.exm, F.p5.exm, F.p6.exm, F.p7.exm]
  rfl
def spFault (D : Addr) : Sp := fun vs H Q _ => ∃ (a : Addr), vs = [.ref a] ∧ H a = some (exh (.ref D) none a) ∧ ∀ H' p, Same H H' → H' p = some (.tup [.str "place", .non]) → Q (.ref p) H'
section
variable {K : PySem.W.Frag} {mg : Str → Option Value} {σ : St} {H : Hp} {Q : VK} {D a : Addr} {x : Str} {b : Bool}
theorem rd_isp (F : Fx K mg) (h0 : σ[0]? = some (some (.ref a))) (c : Cl K mg F.P.C x D b) (e : H a = some (exh (.ref F.P.C) none a)) (q : Q (.bl b) H) : tCB (rIsC K) (tCons (tVar 0) (tCons (tC (.ref D)) tNil)) σ H Q :=
  ⟨_, h0, a, F.P.C, _, _, _, _, .ref D, .ref D, b, rfl, .own D, F.P.T, e, c.kit F.P.own, q⟩
end
section
variable {P : Program} {w : World} {K : PySem.W.Frag} {mg : Str → Option Value} {base : Heap}
theorem scFault : FnScope ["e", "told"] ["e"] (defScope sFault) := ⟨rfl, rfl, rfl, by decide +kernel, rfl, by decide +kernel, by decide +kernel⟩
theorem ok_fault {f : Addr} {fd : FuncData} (L : Fun K "_law_fault" "_law_fault" sFault f fd) (F : Fx K mg) : FnOk P w K mg base CX0 1 f fd ["e"] (spFault F.P.C) := by
  refine L.ok scFault (fun vs H Q E h => ?_) (fun cdv A outer s H vs Q E hr h => ?_)
  · obtain ⟨a, rfl, _⟩ := h
    rfl
  · obtain ⟨a, rfl, e, q⟩ := h
    refine ⟨_, pss_cons (ps_set (i := 1) scFault.nd rfl (Or.inl rfl) (pe_lst pa_nil))
      (pss_cons (ps_if (pt_val (pe_callB call_isC (by rfl) F.isi PyProof.Rows.boot_isinstance (pa_cons (pv 0) (pa_cons (pe_glob (v := .ref F.D0) (by rfl) F.p0.m rfl) pa_nil)))) (pss_one ps_never) pss_nil)
      (pss_cons (ps_if (pt_val (pe_callB call_isC (by rfl) F.isi PyProof.Rows.boot_isinstance (pa_cons (pv 0) (pa_cons (pe_glob (v := .ref F.D1) (by rfl) F.p1.m rfl) pa_nil)))) (pss_one ps_never) pss_nil)
      (pss_cons (ps_if (pt_val (pe_callB call_isC (by rfl) F.isi PyProof.Rows.boot_isinstance (pa_cons (pv 0) (pa_cons (pe_glob (v := .ref F.D2) (by rfl) F.p2.m rfl) pa_nil)))) (pss_one ps_never) pss_nil)
      (pss_cons (ps_if (pt_val (pe_callB call_isC (by rfl) F.isi PyProof.Rows.boot_isinstance (pa_cons (pv 0) (pa_cons (pe_glob (v := .ref F.D3) (by rfl) F.p3.m rfl) pa_nil)))) (pss_one ps_never) pss_nil)
      (pss_cons (ps_if (pt_val (pe_callB call_isC (by rfl) F.isi PyProof.Rows.boot_isinstance (pa_cons (pv 0) (pa_cons (pe_glob (v := .ref F.P.C) (by rfl) F.p4.m rfl) pa_nil)))) (pss_one (ps_expr (pe_bm PySem.F.plainAttrs_list PySem.F.slot_list_append PySem.F.type_list_append mt_append (pv 1) (pa_cons (pe_tup (pa_cons pe_str (pa_cons pe_non pa_nil))) pa_nil)))) pss_nil)
      (pss_cons (ps_if (pt_val (pe_callB call_isC (by rfl) F.isi PyProof.Rows.boot_isinstance (pa_cons (pv 0) (pa_cons (pe_glob (v := .ref F.D5) (by rfl) F.p5.m rfl) pa_nil)))) (pss_one ps_never) pss_nil)
      (pss_cons (ps_if (pt_val (pe_callB call_isC (by rfl) F.isi PyProof.Rows.boot_isinstance (pa_cons (pv 0) (pa_cons (pe_glob (v := .ref F.D6) (by rfl) F.p6.m rfl) pa_nil)))) (pss_one ps_never) pss_nil)
      (pss_cons (ps_if (pt_val (pe_callB call_isC (by rfl) F.isi PyProof.Rows.boot_isinstance (pa_cons (pv 0) (pa_cons (pe_glob (v := .ref F.D7) (by rfl) F.p7.m rfl) pa_nil)))) (pss_one ps_never) pss_nil)
      (pss_one (ps_ret (pe_ifExp (pt_cmpR op_eq (pe_callB call_len_seq (by rfl) F.len PySem.boot_len (pa_cons (pv 1) pa_nil)) pe_int (nomark _)) (pe_ix ix_list (pv 1) pe_int (fun _ _ => rfl)) (pe_tup (pa_cons pe_str (pa_cons pe_non pa_nil)))))))))))))), ?_⟩
    refine ⟨(by decide), fun l hl => ?_⟩
    have e1 := same_upd (o := HO.lst []) hl _ _ e
    refine rd_isp F rfl F.p0 e1 ⟨_, rfl, iteF ?_⟩
    refine rd_isp F rfl F.p1 e1 ⟨_, rfl, iteF ?_⟩
    refine rd_isp F rfl F.p2 e1 ⟨_, rfl, iteF ?_⟩
    refine rd_isp F rfl F.p3 e1 ⟨_, rfl, iteF ?_⟩
    refine rd_isp F rfl F.p4 e1 ⟨_, rfl, iteT ?_⟩
    refine ⟨_, rfl, .inl ⟨rfl, _, SqL.of upd_same⟩, (by show 2 ≤ sizeLine; decide), fun p hp => ⟨l, [], _, rfl, rfl, same_upd hp _ _ upd_same, (by decide), ?_⟩⟩
    have up := same_upd (o := HO.tup [V.str "place", V.non]) hp
    have nal : a ≠ l := ne_of_none e hl
    have npl : p ≠ l := fun z => by
      rw [z, upd_same] at hp
      cases hp
    generalize hH : upd (upd (upd H l (.lst [])) p (.tup [V.str "place", V.non])) l (.lst ([] ++ [V.ref p])) = H5
    have e5 : H5 a = some (exh (.ref F.P.C) none a) := by
      rw [← hH, upd_ne nal]
      exact up _ _ e1
    have l5 : H5 l = some (.lst [V.ref p]) := by
      rw [← hH]
      exact upd_same
    have p5 : H5 p = some (.tup [V.str "place", V.non]) := by
      rw [← hH, upd_ne npl]
      exact upd_same
    have s5 : Same H H5 := fun b o z => by
      rw [← hH, upd_ne (ne_of_none z hl)]
      exact up _ _ (same_upd hl _ _ z)
    show tSeq _ _ _ _ H5
    refine rd_isp F rfl F.p5 e5 ⟨_, rfl, iteF ?_⟩
    refine rd_isp F rfl F.p6 e5 ⟨_, rfl, iteF ?_⟩
    refine rd_isp F rfl F.p7 e5 ⟨_, rfl, iteF ?_⟩
    refine ⟨_, rfl, l, _, rfl, .inl (SqL.of l5), rfl, _, rfl, iteT' (by simp) ?_⟩
    exact ⟨_, rfl, l, _, 0, .ref p, rfl, rfl, SqL.of l5, atI_nat (j := 0) rfl, q H5 p s5 p5⟩
end
/-- what a lambda's reading becomes: its value in a list, or how the error is told -/
def Oc (D : Addr) (Q : VK) : XK := fun cls d H' => cls = .ref D ∧ d = none ∧ ∀ a H2 p, H' a = none → Same (upd H' a (exh (.ref D) none a)) H2 → H2 p = some (.tup [.str "place", .non]) → Q (.ref p) H2
def TOut (D : Addr) : (XK → Hp → VK → Prop) → Hp → VK → Prop := fun tl H Q => ∀ p0, H p0 = none → ∀ R : VK, (∀ v H', (∀ p, H' p = none → Q (.ref p) (upd H' p (.lst [v]))) → R v H') →
  tl (Oc D Q) (upd H p0 (.tup [.non, .non])) R
theorem scOutcome : FnScope ["deed", "caught", "found", "e"] ["deed"] (defScope sOutcome) := ⟨rfl, rfl, rfl, by decide +kernel, rfl, by decide +kernel, by decide +kernel⟩
structure Ou (K : PySem.W.Frag) (mg : Str → Option Value) where
  F : Fx K mg
  f : Addr
  d : FuncData
  L : Fun K "_law_fault" "_law_fault" sFault f d
  b : Binds K d ["e"] []
  g : mg "_law_fault" = some (.ref f)
abbrev NO : List Str := ["deed", "caught", "found", "e"]
section
variable {X : Cx} {g : Addr} {cdg : Value} {q : Str}
theorem out_gives (S : Ou X.K X.mg) (hr : Room 2 X.A) : GivesTo X NO "_law_outcome" (defScope sOutcome) g cdg (defBody sOutcome) "deed" q (TOut S.F.P.C) := by
  intro f c' s H Q tl act hc h
  have GF : FnOk X.prog X.w X.K X.mg X.base CX0 1 S.f S.d ["e"] (spFault S.F.P.C) := ok_fault S.L S.F
  refine ⟨_, pss_cons (ps_asg (pe_tup (pa_cons pe_non (pa_cons pe_non pa_nil))) (pg_tup rfl (pgs_cons (pg_name (i := 1) scOutcome.nd rfl (Or.inl rfl)) (pgs_cons (pg_name (i := 2) scOutcome.nd rfl (Or.inl rfl)) pgs_nil))))
    (pss_cons (ps_try_keep (i := 3) (cs := S.F.cs)
        (tb := fun W D σ H => ∃ Ech : XK, (∀ cls d σ' H', Ech cls d H' → W cls d σ' H') ∧ σ[0]? = some (some (.ref f)) ∧ H c' = some (CodeO c' q) ∧ tl Ech H fun v H1 => D.nx (σ.set 2 (some v)) H1)
        rfl rfl rfl scOutcome.nd rfl rfl ?_ (by decide) (fun W pn xe tk _ => ?_) (fun a oe cls d pn _ _ => pss_one (ps_set (i := 1) scOutcome.nd rfl (Or.inl rfl) (pv 3))))
    (pss_one (ps_ret (pe_ifExp (pt_cmpR op_isN (pv 1) pe_non (nomark _)) (pe_lst (pa_cons (pv 2) pa_nil)) (pe_call GF (hr.deeper _) (by rfl) S.g S.L.kp S.b .nil pass0 (pa_cons (pv 1) pa_nil)))))), ?_⟩
  · unfold Fx.cs
    exact .cons ⟨by rfl, by decide, .inl S.F.p0.m⟩ (.cons ⟨by rfl, by decide, .inl S.F.p1.m⟩ (.cons ⟨by rfl, by decide, .inl S.F.p2.m⟩ (.cons ⟨by rfl, by decide, .inl S.F.p3.m⟩
      (.cons ⟨by rfl, by decide, .inl S.F.p4.m⟩ (.cons ⟨by rfl, by decide, .inl S.F.p5.m⟩ (.cons ⟨by rfl, by decide, .inl S.F.p6.m⟩ (.cons ⟨by rfl, by decide, .inl S.F.p7.m⟩ .nil)))))))
  · refine ⟨fun pins s' σ H' D I h' => ?_⟩
    obtain ⟨Ech, hW, h1, h2, h3⟩ := h'
    exact (pss_one (ps_set (i := 2) scOutcome.nd rfl (Or.inl rfl) (act W pn xe Ech _ _ tk hW))).run pins s' σ H' D I ⟨h1, h2, h3⟩
  · refine ⟨(by decide), fun p0 hp0 => ?_⟩
    have u0 := same_upd (o := HO.tup [V.non, V.non]) hp0
    refine ⟨p0, _, rfl, SqT.of upd_same, rfl, _, _, rfl, _, _, rfl, rfl, ?_⟩
    refine ⟨Oc S.F.P.C Q, fun cls d σ' H' hE hlen => ?_, rfl, u0 _ _ hc, ?_⟩
    · have len4 : σ'.length = 4 := hlen
      match σ', len4 with
      | [w0, w1, w2, w3], _ =>
        obtain ⟨rfl, rfl, hq⟩ := hE
        refine ⟨S.F.anyP, fun a na => ?_⟩
        refine ⟨_, rfl, ?_⟩
        refine ⟨_, rfl, rfl, _, rfl, iteF' (by simp) ?_⟩
        exact ⟨_, rfl, a, rfl, upd_same, fun H2 p s2 e2 => hq a H2 p na s2 e2⟩
    · refine h p0 hp0 _ fun v H1 hq => ?_
      exact ⟨_, rfl, rfl, _, rfl, iteT' (by simp) ⟨_, rfl, (by show 1 ≤ sizeLine; decide), fun p hp => hq p hp⟩⟩
end
end K37

set_option Elab.async false
set_option linter.all false
set_option maxRecDepth 100000
set_option maxHeartbeats 4000000
/-! Framings by hand as literals; what the three calls give of them. -/
namespace L2
open PySem PySem.Spec PyProof.Rows EV
/-- a promise of a def that may raise, where it doesn't -/
theorem fnOk0 {P : Program} {w : World} {K : PySem.W.Frag} {mg : Str → Option Value} {base : Heap} {k : Nat} {f : Addr} {fd : FuncData} {ps : List Str} {sp sp2 : Sp} (F : FnOk P w K mg base (L2.CX P w) k f fd ps sp) (h : ∀ vs H Q E, sp2 vs H Q E → sp vs H Q E0) : FnOk P w K mg base CX0 k f fd ps sp2 :=
  ⟨fun vs H Q E q => F.len vs H Q E0 (h _ _ _ _ q), fun A outer s H args us vs Q E hr he hb hv hs => codeAny_mono (F.run A outer s H args us vs Q E0 hr he hb hv (h _ _ _ _ hs)) fun r s' z => by
    cases r with
    | error e =>
      obtain ⟨_, _, _, _, _, _, _, _, _, _, _, _, bad⟩ := z
      exact bad
    | ok fl => cases fl <;> exact z⟩
end L2
namespace K37
open PySem L2 L2.EV
/-- what is never refused of a promise -/
def sp0 (sp : Sp) : Sp := fun vs H Q _ => sp vs H Q E0
/-! ### framings of two steps -/
def twoF (p q : Str) : List T3 := [(0, p, 1), (1, q, 0)]
theorem two_ok {p q : Str} (p1 : Pc p (decide ((1 : Int) = 0))) (p2 : Pc q (decide ((0 : Int) = 0))) : Frm (twoF p q) 1 := by
  have cs : ∀ x ∈ twoF p q, x = ((0, p, 1) : T3) ∨ x = ((1, q, 0) : T3) := fun x hx => by simpa [twoF] using hx
  refine ⟨by show 1 ≤ 2; decide, by show 2 ≤ 16; decide, fun x hx => ?_, ?_, fun k hk => ?_, fun x hx => ?_, by decide⟩
  · have a0 : (0 : Int) ≤ 0 := by decide
    have a1 : (0 : Int) < 6 := by decide
    have a2 : (0 : Int) ≤ 1 := by decide
    have a3 : (1 : Int) < 6 := by decide
    rcases cs x hx with rfl | rfl
    · exact ⟨a0, a1, p1, a2, a3⟩
    · exact ⟨a2, a3, p2, a0, a1⟩
  · unfold twoF
    refine List.pairwise_cons.mpr ⟨fun y hy => ?_, List.pairwise_cons.mpr ⟨fun y hy => (by cases hy), List.Pairwise.nil⟩⟩
    obtain rfl : y = ((1, q, 0) : T3) := by simpa using hy
    simp [lt3]
  · match k, hk with
    | 0, _ => exact ⟨((0, p, 1) : T3), by simp [twoF], rfl, rfl⟩
    | 1, _ => exact ⟨((1, q, 0) : T3), by simp [twoF], rfl, rfl⟩
  · have b0 : (0 : Int) ≤ ((1 : Nat) : Int) := by decide
    have b1 : (1 : Int) ≤ ((1 : Nat) : Int) := by decide
    rcases cs x hx with rfl | rfl
    · exact ⟨b0, b1⟩
    · exact ⟨b1, b0⟩
abbrev tTwo (p q : Str) : TA := tCons (tTup (tCons (tC (.int 0)) (tCons (tC (.str p)) (tCons (tC (.int 1)) tNil)))) (tCons (tTup (tCons (tC (.int 1)) (tCons (tC (.str q)) (tCons (tC (.int 0)) tNil)))) tNil)
theorem two_tup {p q : Str} {σ : L2.St} {H : Hp} {Q : VK} (h : ∀ f H', Same H H' → FrA H' f (twoF p q) → Q (.ref f) H') : tTup (tTwo p q) σ H Q := by
  refine ⟨(by show 3 ≤ sizeLine; decide), fun t1 n1 => ⟨(by show 3 ≤ sizeLine; decide), fun t2 n2 => ⟨(by show 2 ≤ sizeLine; decide), fun f nf => ?_⟩⟩⟩
  have u1 := same_upd (o := HO.tup [V.int 0, V.str p, V.int 1]) n1
  have u2 := same_upd (o := HO.tup [V.int 1, V.str q, V.int 0]) n2
  have uf := same_upd (o := HO.tup [V.ref t1, V.ref t2]) nf
  refine h f _ (u1.trans (u2.trans uf)) ⟨[t1, t2], upd_same, rfl, fun i t x h1 h2 => ?_⟩
  match i, h1, h2 with
  | 0, h1, h2 =>
    cases h1
    cases h2
    exact uf _ _ (u2 _ _ upd_same)
  | 1, h1, h2 =>
    cases h1
    cases h2
    exact uf _ _ upd_same
abbrev halfF : List T3 := twoF "@a" "b;"
abbrev oneF : List T3 := twoF "@a" "@b;"
abbrev plainF : List T3 := twoF "a" "b;"
theorem half_ok : Frm halfF 1 := two_ok ⟨[64, 97], by decide +kernel, by decide +kernel, by decide +kernel, fun _ => by simp⟩ ⟨[98], by decide +kernel, by decide +kernel, by decide +kernel, fun _ => by simp⟩
theorem one_ok : Frm oneF 1 := two_ok ⟨[64, 97], by decide +kernel, by decide +kernel, by decide +kernel, fun _ => by simp⟩ ⟨[64, 98], by decide +kernel, by decide +kernel, by decide +kernel, fun _ => by simp⟩
theorem plain_ok : Frm plainF 1 := two_ok ⟨[97], by decide +kernel, by decide +kernel, by decide +kernel, fun _ => by simp⟩ ⟨[98], by decide +kernel, by decide +kernel, by decide +kernel, fun _ => by simp⟩
/-! ### texts as literals -/
def strT : List Str → TA
  | [] => tNil
  | s :: r => tCons (tC (.str s)) (strT r)
theorem str_ok : ∀ {ss : List Str} {σ : L2.St} {H : Hp} {R : List V → Hp → Prop}, R (ss.map V.str) H → strT ss σ H R
  | [], _, _, _, h => h
  | s :: r, σ, H, R, h => str_ok (ss := r) h
theorem str_tup {ss : List Str} {σ : L2.St} {H : Hp} {Q : VK} (l : ss.length ≤ 1000) (h : ∀ p H', Same H H' → H' p = some (.tup (ss.map V.str)) → Q (.ref p) H') : tTup (strT ss) σ H Q := by
  refine str_ok ⟨by rw [List.length_map, sizeLine_eq]; omega, fun p np => h p _ (same_upd np) upd_same⟩
def dS (ss : List Str) : PyData := .tuple (ss.map PyData.str)
theorem da_strs {H : Hp} : ∀ ss : List Str, DaAll H (ss.map V.str) (ss.map PyData.str)
  | [] => .nil
  | s :: r => .cons (.str s) (da_strs r)
theorem da_S {H : Hp} {p : Addr} {ss : List Str} (e : H p = some (.tup (ss.map V.str))) : Da H (.ref p) (dS ss) := .tup e (da_strs ss)
/-! ### the calls -/
abbrev tAsk (sp : Sp) (i : Nat) (x : Str) (n : Int) : TE := tCall sp [] E0 (tCons (tVar i) (tCons (tC (.str x)) (tCons (tC (.int n)) tNil)))
def GoodX (x : Str) (n : Int) : Prop := fileT (.str x) = some x ∧ fewD (.int n) = some n ∧ x.length ≤ 1000
theorem ags_lit {H : Hp} {f : Addr} {fr : List T3} {last : Nat} {x : Str} {n : Int} (fa : FrA H f fr) (fm : Frm fr last) (g : GoodX x n) : Ags H [.ref f, .str x, .int n] fr (some (x, n.toNat)) :=
  ⟨f, last, .str x, .int n, .str x, .int n, rfl, fa, fm, .str x, fun y e => by cases e; exact g.2.2, .int n, by rw [g.1, g.2.1]⟩
section
variable {K : PySem.W.Frag} {C : Addr} {σ : L2.St} {H : Hp} {i last : Nat} {f : Addr} {fr : List T3} {x : Str} {n : Int} {ss : List Str} {Q : VK} {Qt : Bool → Hp → Prop}
theorem ask_ver (hf : σ[i]? = some (some (.ref f))) (fa : FrA H f fr) (fm : Frm fr last) (g : GoodX x n) (e : verF fr x n.toNat = some ss) (q : ∀ H' p, Same H H' → H' p = some (.tup (ss.map V.str)) → Q (.ref p) H') : tAsk (sp0 (spVerdicts C)) i x n σ H Q := by
  refine ⟨_, hf, fr, some (x, n.toNat), ags_lit fa fm g, ?_⟩
  rw [show ((some (x, n.toNat)).bind fun q => verF fr q.1 q.2) = verF fr x n.toNat from rfl, e]
  exact q
theorem ask_pos (hf : σ[i]? = some (some (.ref f))) (fa : FrA H f fr) (fm : Frm fr last) (g : GoodX x n) {b : Bool} (e : possF fr x n.toNat = b) (q : ∀ H', Same H H' → Q (.bl b) H') : tAsk (sp0 (spPossible C)) i x n σ H Q := by
  refine ⟨_, hf, fr, some (x, n.toNat), ags_lit fa fm g, fun H' s => ?_⟩
  rw [e]
  exact q H' s
theorem ask_ex (hf : σ[i]? = some (some (.ref f))) (fa : FrA H f fr) (fm : Frm fr last) (g : GoodX x n) {es : List E2} (e : exF fr x n.toNat = some es) (q : ∀ H' p, Same H H' → WvA H' p es → Q (.ref p) H') : tAsk (sp0 (spExplained C)) i x n σ H Q := by
  refine ⟨_, hf, fr, some (x, n.toNat), ags_lit fa fm g, ?_⟩
  show match exF fr x n.toNat with
    | none => ∀ H', Same H H' → Q .non H'
    | some es => ∀ H' p, Same H H' → WvA H' p es → Q (.ref p) H'
  rw [e]
  exact q
theorem ask_exN (hf : σ[i]? = some (some (.ref f))) (fa : FrA H f fr) (fm : Frm fr last) (g : GoodX x n) (e : exF fr x n.toNat = none) (q : ∀ H', Same H H' → Q .non H') : tAsk (sp0 (spExplained C)) i x n σ H Q := by
  refine ⟨_, hf, fr, some (x, n.toNat), ags_lit fa fm g, ?_⟩
  show match exF fr x n.toNat with
    | none => ∀ H', Same H H' → Q .non H'
    | some es => ∀ H' p, Same H H' → WvA H' p es → Q (.ref p) H'
  rw [e]
  exact q
theorem ver_any {r : R2} (hf : σ[i]? = some (some (.ref f))) (fa : FrA H f fr) (fm : Frm fr last) (g : GoodX x n) (e : verF fr x n.toNat = some ss) (l : ss.length ≤ 1000)
    (q : ∀ p1 p2 H', Same H H' → H' p1 = some (.tup (ss.map V.str)) → H' p2 = some (.tup (ss.map V.str)) → r (.ref p1) (.ref p2) H' Q) : tOp r (tAsk (sp0 (spVerdicts C)) i x n) (tTup (strT ss)) σ H Q := by
  refine ask_ver hf fa fm g e fun H1 p1 s1 e1 => str_tup l fun p2 H2 s2 e2 => ?_
  exact q p1 p2 H2 (s1.trans s2) (s2 _ _ e1) e2
theorem ver_ne (hf : σ[i]? = some (some (.ref f))) (fa : FrA H f fr) (fm : Frm fr last) (g : GoodX x n) (e : verF fr x n.toNat = some ss) (l : ss.length ≤ 1000) (sh : SeqAt.shaped (dS ss) = true) (eq : PyData.eqv (dS ss) (dS ss) = true)
    (q : ∀ H', Same H H' → Qt false H') : tTest (tOp (rNeD K) (tAsk (sp0 (spVerdicts C)) i x n) (tTup (strT ss))) σ H Qt :=
  ver_any hf fa fm g e l fun p1 p2 H' s e1 e2 => ⟨dS ss, dS ss, Da.dp _ _ (da_S e1), Da.dp _ _ (da_S e2), sh, sh, by rw [eq]; exact ⟨_, rfl, q H' s⟩⟩
theorem ver_eq (hf : σ[i]? = some (some (.ref f))) (fa : FrA H f fr) (fm : Frm fr last) (g : GoodX x n) (e : verF fr x n.toNat = some ss) (l : ss.length ≤ 1000) (sh : SeqAt.shaped (dS ss) = true) (eq : PyData.eqv (dS ss) (dS ss) = true)
    (q : ∀ H', Same H H' → Q (.bl true) H') : tOp (rEqD K) (tAsk (sp0 (spVerdicts C)) i x n) (tTup (strT ss)) σ H Q :=
  ver_any hf fa fm g e l fun p1 p2 H' s e1 e2 => ⟨dS ss, dS ss, Da.dp _ _ (da_S e1), Da.dp _ _ (da_S e2), sh, sh, by rw [eq]; exact q H' s⟩
end
end K37

set_option Elab.async false
set_option linter.all false
set_option maxRecDepth 100000
set_option maxHeartbeats 8000000
/-! _law_hands_right. -/
namespace K37
open PySem L2 L2.EV
abbrev sHands : Stmt := top 46
def spHands : Sp := fun vs H Q _ => vs = [] ∧ ∀ H', Same H H' → Q (.bl true) H'
structure Lh (K : PySem.W.Frag) (mg : Str → Option Value) where
  R : Rf K mg
  tu : mg "tuple" = none
  so : mg "sorted" = none
  cO : ∃ t, mg "OPEN" = some (.str "open" t)
  fV : Addr
  dV : FuncData
  V : Fun K "verdicts" "verdicts" sVerdicts fV dV
  bV : Binds K dV ["framing", "text", "writers"] []
  mV : mg "verdicts" = some (.ref fV)
  fP : Addr
  dP : FuncData
  P : Fun K "possible" "possible" sPossible fP dP
  bP : Binds K dP ["framing", "text", "writers"] []
  mP : mg "possible" = some (.ref fP)
  fE : Addr
  dE : FuncData
  E : Fun K "explained" "explained" sExplained fE dE
  bE : Binds K dE ["framing", "text", "writers"] []
  mE : mg "explained" = some (.ref fE)
section
variable {σ : L2.St} {H : Hp} {te : TE} {gg : TG} {D : Ends} {ts : TS} {c A B : TT} {a : TS}
theorem st_asg (h : te σ H fun x H1 => gg x σ H1 (ts D)) : tSeq (tAsg te gg) ts D σ H := h
theorem st_or (h : A σ H fun k H1 => if k = true then a { D with nx := ts D } σ H1 else B σ H1 fun k2 H2 => if k2 = true then a { D with nx := ts D } σ H2 else ts D σ H2) : tSeq (tIfS (tOr A B) a tNext) ts D σ H := h
theorem st_and {ta tb : TE} (h : ta σ H fun x H1 => ∃ c, x = .bl c ∧ if c = true then tb σ H1 D.rt else D.rt (.bl false) H1) : tRet (tAndV ta tb) D σ H := h
theorem st_if (h : c σ H fun k H1 => if k = true then a { D with nx := ts D } σ H1 else ts D σ H1) : tSeq (tIfS c a tNext) ts D σ H := h
theorem tup_cons {r : TA} {Q : VK} (h : te σ H fun x H1 => r σ H1 fun xs H2 => (x :: xs).length ≤ sizeLine ∧ ∀ p, H2 p = none → Q (.ref p) (upd H2 p (.tup (x :: xs)))) : tTup (tCons te r) σ H Q := h
theorem arg_cons {r : TA} {R : List V → Hp → Prop} (h : te σ H fun x H1 => r σ H1 fun xs H2 => R (x :: xs) H2) : tCons te r σ H R := h
end
abbrev NHd : List Str := ["half", "one", "plain"]
section
variable {P : Program} {w : World} {K : PySem.W.Frag} {mg : Str → Option Value} {base : Heap}
theorem scHands : FnScope NHd [] (defScope sHands) := ⟨rfl, rfl, rfl, by decide +kernel, rfl, by decide +kernel, by decide +kernel⟩
abbrev Lh.C (L : Lh K mg) : Addr := L.R.C.T.G.S.Y.O.C
theorem Lh.gV (L : Lh K mg) : FnOk P w K mg base CX0 6 L.fV L.dV ["framing", "text", "writers"] (sp0 (spVerdicts L.C)) := fnOk0 (ok_verdicts L.R L.tu L.so L.cO L.V) fun _ _ _ _ h => h
theorem Lh.gP (L : Lh K mg) : FnOk P w K mg base CX0 6 L.fP L.dP ["framing", "text", "writers"] (sp0 (spPossible L.C)) := fnOk0 (ok_possible L.R.C L.P) fun _ _ _ _ h => h
theorem Lh.gE (L : Lh K mg) : FnOk P w K mg base CX0 6 L.fE L.dE ["framing", "text", "writers"] (sp0 (spExplained L.C)) := fnOk0 (ok_explained L.R.C L.tu L.E) fun _ _ _ _ h => h
theorem ok_hands (L : Lh K mg) {f : Addr} {d : FuncData} (F : Fun K "_law_hands_right" "_law_hands_right" sHands f d) : FnOk P w K mg base CX0 7 f d [] spHands := by
  have GV := L.gV (P := P) (w := w) (base := base)
  have GP := L.gP (P := P) (w := w) (base := base)
  refine F.ok scHands (fun vs H Q E h => ?_) (fun cdv A outer s H vs Q E hr h => ?_)
  · rw [h.1]
    rfl
  · obtain ⟨rfl, q⟩ := h
    have hu64 := hr.units
    refine ⟨_, pss_cons (ps_asg (pe_tup (pa_cons (pe_tup (pa_cons (pe_tup (pa_cons pe_int (pa_cons pe_str (pa_cons pe_int pa_nil)))) (pa_cons (pe_tup (pa_cons pe_int (pa_cons pe_str (pa_cons pe_int pa_nil)))) pa_nil))) (pa_cons (pe_tup (pa_cons (pe_tup (pa_cons pe_int (pa_cons pe_str (pa_cons pe_int pa_nil)))) (pa_cons (pe_tup (pa_cons pe_int (pa_cons pe_str (pa_cons pe_int pa_nil)))) pa_nil))) pa_nil))) (pg_tup rfl (pgs_cons (pg_name (i := 0) scHands.nd rfl (Or.inl rfl)) (pgs_cons (pg_name (i := 1) scHands.nd rfl (Or.inl rfl)) pgs_nil))))
      (pss_cons (ps_if (pt_cmpR (op_neD hu64) (pe_call GV hr (by rfl) L.mV L.V.kp L.bV .nil pass0 (pa_cons (pv 0) (pa_cons pe_str (pa_cons pe_int pa_nil)))) (pe_tup (pa_cons pe_str (pa_cons pe_str (pa_cons pe_str pa_nil)))) (nomark _)) (pss_one (ps_ret pe_bl)) pss_nil)
      (pss_cons (ps_if (pw_or (pt_cmpR (op_neD hu64) (pe_call GV hr (by rfl) L.mV L.V.kp L.bV .nil pass0 (pa_cons (pv 0) (pa_cons pe_str (pa_cons pe_int pa_nil)))) (pe_tup (pa_cons pe_str pa_nil)) (nomark _)) (pw_or1 (pt_cmpR (op_neD hu64) (pe_call GV hr (by rfl) L.mV L.V.kp L.bV .nil pass0 (pa_cons (pv 0) (pa_cons pe_str (pa_cons pe_int pa_nil)))) (pe_tup (pa_cons pe_str (pa_cons pe_str (pa_cons pe_str pa_nil)))) (nomark _)))).pt (pss_one (ps_ret pe_bl)) pss_nil)
      (pss_cons (ps_if (pw_or (pt_cmpR (op_neD hu64) (pe_call GV hr (by rfl) L.mV L.V.kp L.bV .nil pass0 (pa_cons (pv 1) (pa_cons pe_str (pa_cons pe_int pa_nil)))) (pe_tup (pa_cons pe_str (pa_cons pe_str pa_nil))) (nomark _)) (pw_or1 (pt_cmpR op_isnot_bl (pe_call GP hr (by rfl) L.mP L.P.kp L.bP .nil pass0 (pa_cons (pv 1) (pa_cons pe_str (pa_cons pe_int pa_nil)))) pe_bl (nomark _)))).pt (pss_one (ps_ret pe_bl)) pss_nil)
      (pss_cons (ps_set (i := 2) scHands.nd rfl (Or.inl rfl) (pe_tup (pa_cons (pe_tup (pa_cons pe_int (pa_cons pe_str (pa_cons pe_int pa_nil)))) (pa_cons (pe_tup (pa_cons pe_int (pa_cons pe_str (pa_cons pe_int pa_nil)))) pa_nil))))
      (pss_cons (ps_if (pw_or (pt_cmpR (op_neD hu64) (pe_call GV hr (by rfl) L.mV L.V.kp L.bV .nil pass0 (pa_cons (pv 2) (pa_cons pe_str (pa_cons pe_int pa_nil)))) (pe_tup (pa_cons pe_str (pa_cons pe_str (pa_cons pe_str pa_nil)))) (nomark _)) (pw_or1 (pt_cmpR op_isnot_bl (pe_call GP hr (by rfl) L.mP L.P.kp L.bP .nil pass0 (pa_cons (pv 2) (pa_cons pe_str (pa_cons pe_int pa_nil)))) pe_bl (nomark _)))).pt (pss_one (ps_ret pe_bl)) pss_nil)
      (pss_one (ps_ret (pe_and (pe_cmpR (op_eqD hu64) (pe_call GV hr (by rfl) L.mV L.V.kp L.bV .nil pass0 (pa_cons (pv 2) (pa_cons pe_str (pa_cons pe_int pa_nil)))) (pe_tup (pa_cons pe_str pa_nil)) (nomark _)) (pe_one (pe_cmpR op_is_bl (pe_call GP hr (by rfl) L.mP L.P.kp L.bP .nil pass0 (pa_cons (pv 2) (pa_cons pe_str (pa_cons pe_int pa_nil)))) pe_bl (nomark _))))))))))), ?_⟩
    refine st_asg ?_
    refine tup_cons ?_
    refine two_tup (p := "@a") (q := "b;") fun f H1 s1 fa1 => ?_
    refine arg_cons ?_
    refine two_tup (p := "@a") (q := "@b;") fun g H2z s2 ga2z => ?_
    refine ⟨(by show 2 ≤ sizeLine; decide), fun pp hpp => ?_⟩
    have u2 := same_upd (o := HO.tup [V.ref f, V.ref g]) hpp
    refine ⟨pp, _, rfl, SqT.of upd_same, rfl, _, _, rfl, _, _, rfl, rfl, ?_⟩
    have fa2 := (fa1.same s2).same u2
    have ga2 := ga2z.same u2
    refine st_if (ver_ne rfl fa2 half_ok ⟨by decide +kernel, by decide +kernel, by decide +kernel⟩ (ss := ["mixed", "open", "mixed"]) (by decide +kernel) (by decide) (by decide +kernel) (by decide +kernel) fun H3 s3 => iteF' rfl ?_)
    have fa3 := fa2.same s3
    have ga3 := ga2.same s3
    refine st_or (ver_ne rfl fa3 half_ok ⟨by decide +kernel, by decide +kernel, by decide +kernel⟩ (ss := ["whole"]) (by decide +kernel) (by decide) (by decide +kernel) (by decide +kernel) fun H4 s4 => iteF' rfl ?_)
    have fa4 := fa3.same s4
    have ga4 := ga3.same s4
    refine ver_ne rfl fa4 half_ok ⟨by decide +kernel, by decide +kernel, by decide +kernel⟩ (ss := ["mixed", "mixed", "whole"]) (by decide +kernel) (by decide) (by decide +kernel) (by decide +kernel) fun H5 s5 => iteF' rfl ?_
    have ga5 := ga4.same s5
    refine st_or (ver_ne rfl ga5 one_ok ⟨by decide +kernel, by decide +kernel, by decide +kernel⟩ (ss := ["mixed", "mixed"]) (by decide +kernel) (by decide) (by decide +kernel) (by decide +kernel) fun H6 s6 => iteF' rfl ?_)
    have ga6 := ga5.same s6
    refine ask_pos rfl ga6 one_ok ⟨by decide +kernel, by decide +kernel, by decide +kernel⟩ (b := false) (by decide +kernel) fun H7 s7 => ⟨_, _, rfl, rfl, _, rfl, iteF' rfl ?_⟩
    refine st_asg ?_
    refine two_tup (p := "a") (q := "b;") fun k H8 s8 ka8 => ?_
    refine st_or (ver_ne rfl ka8 plain_ok ⟨by decide +kernel, by decide +kernel, by decide +kernel⟩ (ss := ["mixed", "open", "mixed"]) (by decide +kernel) (by decide) (by decide +kernel) (by decide +kernel) fun H9 s9 => iteF' rfl ?_)
    have ka9 := ka8.same s9
    refine ask_pos rfl ka9 plain_ok ⟨by decide +kernel, by decide +kernel, by decide +kernel⟩ (b := false) (by decide +kernel) fun H10 s10 => ⟨_, _, rfl, rfl, _, rfl, iteF' rfl ?_⟩
    have ka10 := ka9.same s10
    refine st_and (ver_eq rfl ka10 plain_ok ⟨by decide +kernel, by decide +kernel, by decide +kernel⟩ (ss := ["whole"]) (by decide +kernel) (by decide) (by decide +kernel) (by decide +kernel) fun H11 s11 => ⟨_, rfl, iteT ?_⟩)
    have ka11 := ka10.same s11
    refine ask_pos rfl ka11 plain_ok ⟨by decide +kernel, by decide +kernel, by decide +kernel⟩ (b := false) (by decide +kernel) fun H12 s12 => ⟨_, _, rfl, rfl, ?_⟩
    exact q H12 (s1.trans (s2.trans (u2.trans (s3.trans (s4.trans (s5.trans (s6.trans (s7.trans (s8.trans (s9.trans (s10.trans (s11.trans s12))))))))))))
end
end K37

set_option Elab.async false
set_option linter.all false
set_option maxRecDepth 100000
set_option maxHeartbeats 4000000
/-! What the law wants: what stays while lambdas are made, a text many times, what is refused. -/
namespace K37
open PySem L2 L2.EV LamX PySem.Spec PyProof.Rows
/-! ### "x" * 9 -/
def repS (a : Str) (n : Int) : Str := ⟨(List.replicate n.toNat a.cps).foldl (· ++ ·) #[]⟩
theorem rep_size (a : Array Nat) : ∀ (k : Nat) (acc : Array Nat), ((List.replicate k a).foldl (· ++ ·) acc).size = acc.size + k * a.size
  | 0, acc => by simp
  | k + 1, acc => by
    rw [List.replicate_succ, List.foldl_cons, rep_size a k, Array.size_append, Nat.succ_mul]
    omega
def rMulS : R2 := fun x y H Q => ∃ (a : Str) (n : Int), x = .str a ∧ y = .int n ∧ 2 ≤ n ∧ n ≤ 1000 ∧ 1 ≤ a.length ∧ a.length ≤ 1000 ∧ Q (.str (repS a n)) H
theorem op_mulS {X : Cx} : OpR X (binaryOp .Mult) rMulS := by
  intro pins s σ H x y v u Q I rx ry h
  obtain ⟨a, n, rfl, rfl, h1, h2, h3, h4, q⟩ := h
  obtain ⟨t, rfl⟩ := rx
  obtain ⟨t', rfl⟩ := ry
  obtain ⟨k, rfl⟩ := Int.eq_ofNat_of_zero_le (show 0 ≤ n by omega)
  have ml : a.length * k ≤ 1000 * 1000 := Nat.mul_le_mul h4 (by omega)
  have e0 : (decide ((k : Int) = 1)) = false := decide_eq_false (by omega)
  have e1 : ((k : Int) == 1 || a.length == 0) = false := by
    rw [Bool.or_eq_false_iff]
    exact ⟨by simp; omega, by simp; intro z; rw [z] at h3; simp at h3⟩
  refine P.mul_str (by rw [decide_eq_false (by omega), decide_eq_false (by omega)]; rfl) (fun _ _ => ?_) (fun _ _ => ?_) ?_
  · have z : (1000000 : Int) ≤ (2 ^ 63 - 1) / (k : Int) := by
      refine Int.le_ediv_of_mul_le (by omega) ?_
      omega
    omega
  · show decide (a.length * ((k : Int)).toNat > sizeLine) = false
    rw [sizeLine_eq]
    refine decide_eq_false ?_
    rw [Int.toNat_natCast]
    omega
  · rw [if_neg (by omega), e1, if_neg (by decide)]
    simp only [Made.post]
    refine ⟨?_, .str (repS a (k : Int)), H, I.tok _, ⟨_, rfl⟩, q⟩
    show ((List.replicate ((k : Int)).toNat a.cps).foldl (· ++ ·) #[]).size ≤ sizeLine
    rw [rep_size, Int.toNat_natCast, sizeLine_eq]
    have z : k * a.cps.size ≤ 1000 * 1000 := Nat.mul_le_mul (by omega) h4
    simp only [List.size_toArray, List.length_nil]
    omega
/-- all but the tables of code objects -/
def nt (H : Hp) : Hp := fun b => match H b with
  | some (.tbl _) => none
  | x => x
theorem nt_mk {H : Hp} {b : Addr} {o : HO} (e : H b = some o) (n : ∀ ps, o ≠ .tbl ps) : nt H b = some o := by
  unfold nt
  rw [e]
  cases o <;> first | rfl | exact absurd rfl (n _)
theorem nt_some {H : Hp} {b : Addr} {o : HO} (e : nt H b = some o) : H b = some o ∧ ∀ ps, o ≠ .tbl ps := by
  unfold nt at e
  cases h : H b with
  | none =>
    rw [h] at e
    cases e
  | some u =>
    rw [h] at e
    cases u <;> first | (cases e; exact ⟨rfl, fun ps z => by cases z⟩) | cases e
theorem nt_sub {H : Hp} : Same (nt H) H := fun b o e => (nt_some e).1
theorem nt_same {H H' : Hp} (s : Same H H') : Same (nt H) (nt H') := fun b o e => nt_mk (s _ _ (nt_some e).1) (nt_some e).2
theorem nt_ext {H H' : Hp} (s : ExtN H H') : Same (nt H) (nt H') := fun b o e => nt_mk (s _ _ (nt_some e).1 (nt_some e).2) (nt_some e).2
theorem ext_same {H H' : Hp} (s : Same H H') : ExtN H H' := fun b o e _ => s b o e
theorem fr_nt {H : Hp} {f : Addr} {fr : List T3} (h : FrA H f fr) : FrA (nt H) f fr := by
  obtain ⟨ts, e, l, c⟩ := h
  exact ⟨ts, nt_mk e (fun ps z => by cases z), l, fun i t x h1 h2 => nt_mk (c i t x h1 h2) (fun ps z => by cases z)⟩
theorem mat_nt {H : Hp} {m c l : Addr} {k : Int} (M : MAt H m c l k) : MAt (nt H) m c l k := by
  obtain ⟨h1, ⟨cs, h2, h3⟩, ⟨ls, h4, h5⟩, h6, h7, h8⟩ := M
  exact ⟨nt_mk h1 (fun ps z => by cases z), ⟨cs, nt_mk h2 (fun ps z => by cases z), h3⟩, ⟨ls, nt_mk h4 (fun ps z => by cases z), h5⟩, h6, h7, h8⟩
mutual
theorem da_nt {H : Hp} : ∀ (d : PyData) (v : V), Da H v d → Da (nt H) v d
  | .none, _, h => by cases h; exact .non
  | .bool b, _, h => by cases h; exact .bl b
  | .int i, _, h => by cases h; exact .int i
  | .str x, _, h => by cases h; exact .str x
  | .list ds, _, h => by
    cases h with
    | lst e ha => exact .lst (nt_mk e (fun ps z => by cases z)) (das_nt ds _ ha)
  | .tuple ds, _, h => by
    cases h with
    | tup e ha => exact .tup (nt_mk e (fun ps z => by cases z)) (das_nt ds _ ha)
  | .dict _, _, h => by cases h
theorem das_nt {H : Hp} : ∀ (ds : List PyData) (vs : List V), DaAll H vs ds → DaAll (nt H) vs ds
  | [], _, h => by cases h; exact .nil
  | d :: ds, _, h => by
    cases h with
    | cons h1 h2 => exact .cons (da_nt d _ h1) (das_nt ds _ h2)
end
theorem mat_ext {H H' : Hp} {m c l : Addr} {k : Int} (M : MAt H m c l k) (e : ExtN H H') : MAt H' m c l k := ((mat_nt M).same (nt_ext e)).same nt_sub
theorem ext_tup {H H' : Hp} {p : Addr} {xs : List V} (e : ExtN H H') (h : H p = some (.tup xs)) : H' p = some (.tup xs) := e _ _ h (fun ps z => by cases z)
theorem ext_lst {H H' : Hp} {p : Addr} {xs : List V} (e : ExtN H H') (h : H p = some (.lst xs)) : H' p = some (.lst xs) := e _ _ h (fun ps z => by cases z)
theorem tabs_kp {T : List (Addr × Str)} {H H' : Hp} (t : Tabs T H) (kp : ∀ b o, H b = some o → (∀ kvs, o ≠ .dK kvs) → (∀ xs, o ≠ .lst xs) → H' b = some o) : Tabs T H' := fun p hp => by
  obtain ⟨ps, h1, h2, h3⟩ := t p hp
  refine ⟨ps, kp _ _ h1 (fun _ z => by cases z) (fun _ z => by cases z), h2, fun pos cv e => ?_⟩
  obtain ⟨c', e1, e2⟩ := h3 pos cv e
  exact ⟨c', e1, kp _ _ e2 (fun _ z => by unfold CodeO at z; cases z) (fun _ z => by unfold CodeO at z; cases z)⟩
theorem tabs_lst {T : List (Addr × Str)} {H : Hp} {L : Addr} {xs ys : List V} (t : Tabs T H) (e : H L = some (.lst xs)) : Tabs T (upd H L (.lst ys)) := fun p hp => by
  obtain ⟨ps, h1, h2, h3⟩ := t p hp
  refine ⟨ps, by rw [upd_ne (ne_of h1 e (fun z => by cases z))]; exact h1, h2, fun pos cv q => ?_⟩
  obtain ⟨c', e1, e2⟩ := h3 pos cv q
  exact ⟨c', e1, by rw [upd_ne (ne_of e2 e (fun z => by unfold CodeO at z; cases z))]; exact e2⟩

/-! ### what is refused -/
def BadP (H : Hp) (v u : V) : Prop := ∃ d1 d2, Da H v d1 ∧ Shrt d1 ∧ Da H u d2 ∧ (fileT d1 = none ∨ fewD d2 = none)
theorem BadP.same {H H' : Hp} {v u : V} (h : BadP H v u) (s : Same H H') : BadP H' v u := by
  obtain ⟨d1, d2, a, b, c, e⟩ := h
  exact ⟨d1, d2, Da.same s _ _ a, b, Da.same s _ _ c, e⟩
theorem BadP.nt {H : Hp} {v u : V} (h : BadP H v u) : BadP (nt H) v u := by
  obtain ⟨d1, d2, a, b, c, e⟩ := h
  exact ⟨d1, d2, da_nt _ _ a, b, da_nt _ _ c, e⟩
theorem BadP.ags {H : Hp} {v u : V} {f : Addr} {fr : List T3} {last : Nat} (h : BadP H v u) (fa : FrA H f fr) (fm : Frm fr last) : Ags H [.ref f, v, u] fr none := by
  obtain ⟨d1, d2, a, b, c, e⟩ := h
  refine ⟨f, last, v, u, d1, d2, rfl, fa, fm, a, b, c, ?_⟩
  rcases e with e | e
  · rw [e]
  · rw [e]
    cases fileT d1 <;> rfl
/-- what a promise refuses -/
def Rfs (C : Addr) (sp : Sp) : Prop := ∀ (vs : List V) (H : Hp) (Q : VK) (E : XK) (fr : List T3), Ags H vs fr none → Eo C E H → sp vs H Q E
theorem rfs_pos (C : Addr) : Rfs C (spPossible C) := fun vs H Q E fr a e => ⟨fr, none, a, e⟩
theorem rfs_ver (C : Addr) : Rfs C (spVerdicts C) := fun vs H Q E fr a e => ⟨fr, none, a, e⟩
theorem rfs_ex (C : Addr) : Rfs C (spExplained C) := fun vs H Q E fr a e => ⟨fr, none, a, e⟩
/-- a call that is refused, told through a lambda -/
theorem rd_lam {T : List (Addr × Str)} {C : Addr} {sp : Sp} {σ : L2.St} {H : Hp} {Q : VK} {vs : List V} {ta : TA} (hv : ∀ (H : Hp) (R : List V → Hp → Prop), R vs H → ta σ H R) (tb : Tabs T H)
    (hs : ∀ H1 Q E, Same (nt H) H1 → Eo C E H1 → sp vs H1 Q E) (post : ∀ H3 p, ExtN H H3 → Tabs T H3 → H3 p = some (.tup [.str "place", .non]) → Q (.ref p) H3) :
    tLam T (TOut C) (fun E => tCallS sp (fun σ => WE (fun cls d _ H => E cls d H) σ) ta) σ H Q := by
  refine ⟨tb, fun H1 ext tb1 p0 hp0 R hR => ?_⟩
  have u0 := same_upd (o := HO.tup [V.non, V.non]) hp0
  refine hv _ _ (hs _ _ _ ((nt_ext ext).trans (nt_sub.trans u0)) fun H2 s2 => ⟨rfl, rfl, fun a H3 p na s3 e3 => ?_⟩)
  exact post H3 p (ext.trans (ext_same (u0.trans (s2.trans ((same_upd na).trans s3))))) (tb1.ext (u0.trans (s2.trans ((same_upd na).trans s3)))) e3
def pNon : List V := [V.str "place", V.non]
def pD : PyData := .tuple [.str "place", .none]
theorem da_pN {H : Hp} {p : Addr} (e : H p = some (.tup [.str "place", .non])) : Da H (.ref p) pD := .tup e (.cons (.str _) (.cons .non .nil))
/-! ### what is drawn -/
def oddV (p : Addr) (a : Str) : List V := [.non, .int 5, .ref p, .str a, .str "a b", .str "a@b;", .str "Ia", .str "A\n", .str "a="]
theorem a61 : fileT (.str (repS "a" 61)) = none ∧ (repS "a" 61).length ≤ 1000 := ⟨by decide +kernel, by decide +kernel⟩
theorem odd_bad {H : Hp} {p : Addr} {v : V} {j : Nat} (hv : (oddV p (repS "a" 61))[j]? = some v) (hp : H p = some (.lst [.str "Aab;"])) : ∃ d, Da H v d ∧ Shrt d ∧ fileT d = none := by
  have st : ∀ s : Str, s.length ≤ 1000 → fileT (.str s) = none → ∃ d, Da H (.str s) d ∧ Shrt d ∧ fileT d = none := fun s h e => ⟨.str s, .str s, fun x z => by cases z; exact h, e⟩
  match j, hv with
  | 0, hv => cases hv; exact ⟨.none, .non, (fun x z => by cases z), rfl⟩
  | 1, hv => cases hv; exact ⟨.int 5, .int 5, (fun x z => by cases z), rfl⟩
  | 2, hv => cases hv; exact ⟨.list [.str "Aab;"], .lst hp (.cons (.str _) .nil), (fun x z => by cases z), rfl⟩
  | 3, hv => cases hv; exact st _ a61.2 a61.1
  | 4, hv => cases hv; exact st _ (by decide +kernel) (by decide +kernel)
  | 5, hv => cases hv; exact st _ (by decide +kernel) (by decide +kernel)
  | 6, hv => cases hv; exact st _ (by decide +kernel) (by decide +kernel)
  | 7, hv => cases hv; exact st _ (by decide +kernel) (by decide +kernel)
  | 8, hv => cases hv; exact st _ (by decide +kernel) (by decide +kernel)
def nonV (p : Addr) : List V := [.int 0, .int 4, .int (-1), .non, .bl true, .str "1", .ref p]
theorem non_bad {H : Hp} {p : Addr} {v : V} {j : Nat} (hv : (nonV p)[j]? = some v) (hp : H p = some (.tup [.int 1])) : ∃ d, Da H v d ∧ fewD d = none := by
  match j, hv with
  | 0, hv => cases hv; exact ⟨.int 0, .int 0, by decide +kernel⟩
  | 1, hv => cases hv; exact ⟨.int 4, .int 4, by decide +kernel⟩
  | 2, hv => cases hv; exact ⟨.int (-1), .int (-1), by decide +kernel⟩
  | 3, hv => cases hv; exact ⟨.none, .non, by decide +kernel⟩
  | 4, hv => cases hv; exact ⟨.bool true, .bl true, by decide +kernel⟩
  | 5, hv => cases hv; exact ⟨.str "1", .str "1", by decide +kernel⟩
  | 6, hv => cases hv; exact ⟨.tuple [.int 1], .tup hp (.cons (.int 1) .nil), by decide +kernel⟩
end K37

set_option Elab.async false
set_option linter.all false
set_option maxRecDepth 100000
set_option maxHeartbeats 8000000
/-! The law. -/
namespace K37
open PySem L2 L2.EV LamX PySem.Spec
abbrev sLaw : Stmt := top 47
abbrev lamQ : Str := (("law" : Str) ++ (".<locals>." : Str)) ++ ("<lambda>" : Str)
abbrev NL : List Str := ["script", "m", "turn", "odd", "none", "told", "half", "text", "writers"]
structure Lall (K : PySem.W.Frag) (mg : Str → Option Value) where
  H : Lh K mg
  U : Ou K mg
  eP : U.F.P.C = H.C
  T : TxtD mg
  ra : mg "range" = none
  mi : mg "min" = none
  fH : Addr
  dH : FuncData
  HR : Fun K "_law_hands_right" "_law_hands_right" sHands fH dH
  bH : Binds K dH [] []
  mH : mg "_law_hands_right" = some (.ref fH)
  fB : Addr
  dB : FuncData
  Be : Fun K "_law_begun" "_law_begun" sBegun fB dB
  bB : Binds K dB ["script"] []
  mB : mg "_law_begun" = some (.ref fB)
  fN : Addr
  dN : FuncData
  N : Fun K "_law_next" "_law_next" sNext fN dN
  bN : Binds K dN ["m", "total"] []
  mN : mg "_law_next" = some (.ref fN)
  fO : Addr
  dO : FuncData
  O : Fun K "_law_outcome" "_law_outcome" sOutcome fO dO
  bO : Binds K dO ["deed"] []
  mO : mg "_law_outcome" = some (.ref fO)
def spLawT (K : PySem.W.Frag) (T : Addr) : Sp := fun vs H Q _ => ∃ (a : Addr) (ns : List Int), vs = [.ref a] ∧ SqL K H a (ns.map V.int) ∧ ns.length ≤ 63 ∧ H T = some (.tbl #[]) ∧ ∀ H', Q (.bl true) H'
theorem kp_of {H H' : Hp} {m c l : Addr} {k : Int} (M : MAt H m c l k) (q : ∀ b o, H b = some o → b ≠ m → b ≠ l → H' b = some o) : ∀ b o, H b = some o → (∀ kvs, o ≠ .dK kvs) → (∀ xs, o ≠ .lst xs) → H' b = some o := fun b o e n1 n2 => by
  obtain ⟨ls, hl, _⟩ := M.hl
  exact q b o e (ne_of e M.hm (n1 _)) (ne_of e hl (n2 _))
theorem kp_new {H H' H0 : Hp} {m c l b : Addr} {k : Int} {o : HO} (M : MAt H0 m c l k) (s : Same H0 H) (q : ∀ b o, H b = some o → b ≠ m → b ≠ l → H' b = some o) (n : H0 b = none) (e : H b = some o) : H' b = some o := by
  obtain ⟨ls, hl, _⟩ := M.hl
  exact q b o e (ne_of_none M.hm n).symm (ne_of_none hl n).symm
theorem fr_kp {H H' : Hp} {f : Addr} {fr : List T3} (h : FrA H f fr) (kp : ∀ b o, H b = some o → (∀ kvs, o ≠ .dK kvs) → (∀ xs, o ≠ .lst xs) → H' b = some o) : FrA H' f fr := by
  obtain ⟨ts, e, l, c⟩ := h
  exact ⟨ts, kp _ _ e (fun _ z => by cases z) (fun _ z => by cases z), l, fun i t x h1 h2 => kp _ _ (c i t x h1 h2) (fun _ z => by cases z) (fun _ z => by cases z)⟩
theorem and_v {σ : L2.St} {H : Hp} {Q : VK} {ta tb : TE} (h : ta σ H fun x H1 => ∃ c, x = .bl c ∧ if c = true then tb σ H1 Q else Q (.bl false) H1) : tAndV ta tb σ H Q := h
section
variable {C : Addr} {σ : L2.St} {H : Hp} {last : Nat} {f : Addr} {fr : List T3} {x : Str} {n : Int} {Q : VK} {ta : TA}
theorem ask_posG (hv : ∀ (H : Hp) (R : List V → Hp → Prop), R [.ref f, .str x, .int n] H → ta σ H R) (fa : FrA H f fr) (fm : Frm fr last) (g : GoodX x n) {b : Bool} (e : possF fr x n.toNat = b) (q : ∀ H', Same H H' → Q (.bl b) H') : tCall (sp0 (spPossible C)) [] E0 ta σ H Q := by
  refine hv _ _ ⟨fr, some (x, n.toNat), ags_lit fa fm g, fun H' s => ?_⟩
  rw [e]
  exact q H' s
theorem ask_exNG (hv : ∀ (H : Hp) (R : List V → Hp → Prop), R [.ref f, .str x, .int n] H → ta σ H R) (fa : FrA H f fr) (fm : Frm fr last) (g : GoodX x n) (e : exF fr x n.toNat = none) (q : ∀ H', Same H H' → Q .non H') : tCall (sp0 (spExplained C)) [] E0 ta σ H Q := by
  refine hv _ _ ⟨fr, some (x, n.toNat), ags_lit fa fm g, ?_⟩
  show match exF fr x n.toNat with
    | none => ∀ H', Same H H' → Q .non H'
    | some es => ∀ H' p, Same H H' → WvA H' p es → Q (.ref p) H'
  rw [e]
  exact q
theorem ref_verG {vs : List V} {E : XK} (hv : vs = [.ref f, .str x, .int n]) (fa : FrA H f fr) (fm : Frm fr last) (g : GoodX x n) (e : verF fr x n.toNat = none) (he : Eo C E H) : spVerdicts C vs H Q E := by
  subst hv
  refine ⟨fr, some (x, n.toNat), ags_lit fa fm g, ?_⟩
  rw [show ((some (x, n.toNat)).bind fun q => verF fr q.1 q.2) = verF fr x n.toNat from rfl, e]
  exact he
end
def wvD : PyData := .tuple [.tuple [.int 1, .int 0], .tuple [.int 1, .int 1]]
theorem da_wv {H : Hp} {p : Addr} (h : WvA H p [(1, 0), (1, 1)]) : Da H (.ref p) wvD := by
  obtain ⟨ts, e, l, c⟩ := h
  match ts, l, e, c with
  | [t1, t2], _, e, c =>
    have a1 := c 0 t1 (1, 0) rfl rfl
    have a2 := c 1 t2 (1, 1) rfl rfl
    exact .tup e (.cons (.tup a1 (.cons (.int 1) (.cons (.int 0) .nil))) (.cons (.tup a2 (.cons (.int 1) (.cons (.int 1) .nil))) .nil))
theorem da_w0 {H : Hp} {p : Addr} (h : WvA H p []) : Da H (.ref p) (.tuple []) := by
  obtain ⟨ts, e, l, c⟩ := h
  match ts, l, e with
  | [], _, e => exact .tup e .nil
def wrongs : List V := [.str "Dab;", .str "Hab;", .str "dkvz259;", .str "EFGm0"]
theorem wrong_is {n : Nat} {y : V} (h : wrongs[n]? = some y) : ∃ x, y = .str x ∧ GoodX x 3 ∧ possF halfF x (3 : Int).toNat = false ∧ exF halfF x (3 : Int).toNat = none ∧ verF halfF x (3 : Int).toNat = none := by
  match n, h with
  | 0, h => cases h; exact ⟨_, rfl, ⟨by decide +kernel, by decide +kernel, by decide +kernel⟩, by decide +kernel, by decide +kernel, by decide +kernel⟩
  | 1, h => cases h; exact ⟨_, rfl, ⟨by decide +kernel, by decide +kernel, by decide +kernel⟩, by decide +kernel, by decide +kernel, by decide +kernel⟩
  | 2, h => cases h; exact ⟨_, rfl, ⟨by decide +kernel, by decide +kernel, by decide +kernel⟩, by decide +kernel, by decide +kernel, by decide +kernel⟩
  | 3, h => cases h; exact ⟨_, rfl, ⟨by decide +kernel, by decide +kernel, by decide +kernel⟩, by decide +kernel, by decide +kernel, by decide +kernel⟩
section
variable {P : Program} {w : World} {K : PySem.W.Frag} {mg : Str → Option Value} {base : Heap}
theorem scLaw : FnScope NL ["script"] (defScope sLaw) := ⟨rfl, rfl, rfl, by decide +kernel, rfl, by decide +kernel, by decide +kernel⟩
theorem ok_law {f c T : Addr} {oc kV doc pm ct : Value} {od an : Option Addr} {osl : Array (Option Value)} (L : Lall K mg) (TB : TabB base mg c T)
    (lk : K.lookup f = some ⟨oc, od, .func (PySem.W.fnOf "law" "law" (defArgs sLaw) (defBody sLaw) (defScope sLaw) .none kV doc pm an (.ref c) ct), osl⟩) (hcd : PySem.W.codeIn K (.ref c) "law" = true) :
    FnOk P w K mg base CX0 9 f (PySem.W.fnOf "law" "law" (defArgs sLaw) (defBody sLaw) (defScope sLaw) .none kV doc pm an (.ref c) ct) ["script"] (spLawT K T) := by
  have GB : FnOk P w K mg base CX0 1 L.fB L.dB ["script"] (spBegun K) := ok_begun L.Be L.T
  have GX : FnOk P w K mg base CX0 1 L.fN L.dN ["m", "total"] spNext := ok_next L.N L.T
  have GH : FnOk P w K mg base CX0 7 L.fH L.dH [] spHands := ok_hands L.H L.HR
  have GV0 := L.H.gV (P := P) (w := w) (base := base)
  have GP0 := L.H.gP (P := P) (w := w) (base := base)
  have GE0 := L.H.gE (P := P) (w := w) (base := base)
  have GV : FnOk P w K mg base (L2.CX P w) 6 L.H.fV L.H.dV ["framing", "text", "writers"] (spVerdicts L.U.F.P.C) := by
    rw [L.eP]
    exact ok_verdicts L.H.R L.H.tu L.H.so L.H.cO L.H.V
  have GP : FnOk P w K mg base (L2.CX P w) 6 L.H.fP L.H.dP ["framing", "text", "writers"] (spPossible L.U.F.P.C) := by
    rw [L.eP]
    exact ok_possible L.H.R.C L.H.P
  have GE : FnOk P w K mg base (L2.CX P w) 6 L.H.fE L.H.dE ["framing", "text", "writers"] (spExplained L.U.F.P.C) := by
    rw [L.eP]
    exact ok_explained L.H.R.C L.H.tu L.H.E
  obtain ⟨oc2, od2, kV2, doc2, pm2, an2, cdv2, ct2, osl2, eO2, lkO, hcO⟩ := L.O.ex
  have bO := L.bO
  rw [eO2] at bO lkO
  refine fn_of (k := 8) lk hcd scLaw (fun vs H Q E h => ?_) (fun A outer s H vs Q E hr h => ?_)
  · obtain ⟨a, ns, rfl, _⟩ := h
    rfl
  · obtain ⟨a, ns, rfl, hS, hlen, hT0, q⟩ := h
    suffices z : ∃ t, PSs (cxOf CX0 P w K mg base NL "law" (defScope sLaw) f (.ref c) A outer s H E).nox (defBody sLaw) t ∧ t { nx := fun _ H' => Q .non H', rt := Q } (start NL [.ref a]) H by
      obtain ⟨t, h1, h2⟩ := z
      exact ⟨t, h1.nox, h2⟩
    have hu64 := hr.units
    have r1 := hr.mono (j := 1) (by decide)
    have r2 := hr.mono (j := 2) (by decide)
    have r6 := hr.mono (j := 6) (by decide)
    have r7 := hr.mono (j := 7) (by decide)
    have lamq : ((T, lamQ) : Addr × Str) ∈ [((T, lamQ) : Addr × Str)] := List.mem_cons_self ..
    have lamu : ∀ p ∈ [((T, lamQ) : Addr × Str)], p.1 = T → p.2 = lamQ := fun p hp _ => by
      have e : p = ((T, lamQ) : Addr × Str) := by simpa using hp
      rw [e]
    refine ⟨_, (pss_cons (ps_set (i := 1) scLaw.nd rfl (Or.inl rfl) (pe_call GB r1 (by rfl) L.mB L.Be.kp L.bB .nil pass0 (pa_cons (pv 0) pa_nil)))
      (pss_cons (ps_set (i := 6) scLaw.nd rfl (Or.inr rfl) (pe_tup (pa_cons (pe_tup (pa_cons pe_int (pa_cons pe_str (pa_cons pe_int pa_nil)))) (pa_cons (pe_tup (pa_cons pe_int (pa_cons pe_str (pa_cons pe_int pa_nil)))) pa_nil))))
      (pss_cons (ps_for PassesOwn.never rfl (pi_range1 (by rfl) L.ra (pa_cons (pe_op op_add pe_int (pe_callB (call_min2 rfl) (by rfl) L.mi (by decide +kernel) (pa_cons (pe_callB call_len_seq (by rfl) L.T.len PySem.boot_len (pa_cons (pv 0) pa_nil)) (pa_cons pe_int pa_nil)))) pa_nil)) (pg_name (i := 2) scLaw.nd rfl (Or.inl rfl))
      (pss_cons (ps_set (i := 3) scLaw.nd rfl (Or.inl rfl) (pe_ix ix_list (pe_lst (pa_cons pe_non (pa_cons pe_int (pa_cons (pe_lst (pa_cons pe_str pa_nil)) (pa_cons (pe_op op_mulS pe_str pe_int) (pa_cons pe_str (pa_cons pe_str (pa_cons pe_str (pa_cons pe_str (pa_cons pe_str pa_nil)))))))))) (pe_call GX r1 (by rfl) L.mN L.N.kp L.bN .nil pass0 (pa_cons (pv 1) (pa_cons pe_int pa_nil))) (fun _ _ => rfl)))
      (pss_cons (ps_set (i := 4) scLaw.nd rfl (Or.inl rfl) (pe_ix ix_list (pe_lst (pa_cons pe_int (pa_cons pe_int (pa_cons (pe_un un_neg pe_int) (pa_cons pe_non (pa_cons pe_bl (pa_cons pe_str (pa_cons (pe_tup (pa_cons pe_int pa_nil)) pa_nil)))))))) (pe_call GX r1 (by rfl) L.mN L.N.kp L.bN .nil pass0 (pa_cons (pv 1) (pa_cons pe_int pa_nil))) (fun _ _ => rfl)))
      (pss_one (ps_for PassesOwn.never rfl (pi_tup (pe_tup (pa_cons (pe_tup (pa_cons (pv 3) (pa_cons pe_int pa_nil))) (pa_cons (pe_tup (pa_cons (pv 3) (pa_cons (pv 4) pa_nil))) (pa_cons (pe_tup (pa_cons pe_str (pa_cons (pv 4) pa_nil))) pa_nil))))) (pg_tup rfl (pgs_cons (pg_name (i := 7) scLaw.nd rfl (Or.inr rfl)) (pgs_cons (pg_name (i := 8) scLaw.nd rfl (Or.inr rfl)) pgs_nil)))
      (pss_cons (ps_set (i := 5) scLaw.nd rfl (Or.inl rfl) (pe_lst (pa_cons (pe_lamcall (X := (cxOf CX0 P w K mg base NL "law" (defScope sLaw) f (.ref c) A outer s H E).nox) (T := [((T, lamQ) : Addr × Str)]) (k := 6) (Ng := NO) (a := "deed") (TT := TOut L.U.F.P.C) (t := fun E => tCallS (spPossible L.U.F.P.C) (fun σ => WE (fun cls d _ H => E cls d H) σ) (tCons (tVar 6) (tCons (tVar 7) (tCons (tVar 8) tNil)))) (by rfl) L.mO L.O.kp lkO hcO bO scOutcome rfl (.inl rfl) (out_gives (X := (cxOf CX0 P w K mg base NL "law" (defScope sLaw) f (.ref c) A outer s H E).nox) L.U r2) TB rfl lamq lamu hr (lamS_by (sc := defScope sLaw) (by decide +kernel)) rfl (fun _ _ _ _ _ => rfl) (fun A outer s H E f c' hr => pe_callS GP hr (by rfl) L.H.mP L.H.P.kp L.H.bP (fun σ => passAt (takes_of rfl rfl rfl rfl) σ) (pa_cons (pe_var (i := 6) rfl (.inr (.inr rfl))) (pa_cons (pe_var (i := 7) rfl (.inr (.inr rfl))) (pa_cons (pe_var (i := 8) rfl (.inr (.inr rfl))) pa_nil))))) pa_nil)))
      (pss_cons (ps_expr (pe_bm PySem.F.plainAttrs_list PySem.F.slot_list_append PySem.F.type_list_append mt_append (pv 5) (pa_cons (pe_lamcall (X := (cxOf CX0 P w K mg base NL "law" (defScope sLaw) f (.ref c) A outer s H E).nox) (T := [((T, lamQ) : Addr × Str)]) (k := 6) (Ng := NO) (a := "deed") (TT := TOut L.U.F.P.C) (t := fun E => tCallS (spVerdicts L.U.F.P.C) (fun σ => WE (fun cls d _ H => E cls d H) σ) (tCons (tVar 6) (tCons (tVar 7) (tCons (tVar 8) tNil)))) (by rfl) L.mO L.O.kp lkO hcO bO scOutcome rfl (.inl rfl) (out_gives (X := (cxOf CX0 P w K mg base NL "law" (defScope sLaw) f (.ref c) A outer s H E).nox) L.U r2) TB rfl lamq lamu hr (lamS_by (sc := defScope sLaw) (by decide +kernel)) rfl (fun _ _ _ _ _ => rfl) (fun A outer s H E f c' hr => pe_callS GV hr (by rfl) L.H.mV L.H.V.kp L.H.bV (fun σ => passAt (takes_of rfl rfl rfl rfl) σ) (pa_cons (pe_var (i := 6) rfl (.inr (.inr rfl))) (pa_cons (pe_var (i := 7) rfl (.inr (.inr rfl))) (pa_cons (pe_var (i := 8) rfl (.inr (.inr rfl))) pa_nil))))) pa_nil)))
      (pss_cons (ps_expr (pe_bm PySem.F.plainAttrs_list PySem.F.slot_list_append PySem.F.type_list_append mt_append (pv 5) (pa_cons (pe_lamcall (X := (cxOf CX0 P w K mg base NL "law" (defScope sLaw) f (.ref c) A outer s H E).nox) (T := [((T, lamQ) : Addr × Str)]) (k := 6) (Ng := NO) (a := "deed") (TT := TOut L.U.F.P.C) (t := fun E => tCallS (spExplained L.U.F.P.C) (fun σ => WE (fun cls d _ H => E cls d H) σ) (tCons (tVar 6) (tCons (tVar 7) (tCons (tVar 8) tNil)))) (by rfl) L.mO L.O.kp lkO hcO bO scOutcome rfl (.inl rfl) (out_gives (X := (cxOf CX0 P w K mg base NL "law" (defScope sLaw) f (.ref c) A outer s H E).nox) L.U r2) TB rfl lamq lamu hr (lamS_by (sc := defScope sLaw) (by decide +kernel)) rfl (fun _ _ _ _ _ => rfl) (fun A outer s H E f c' hr => pe_callS GE hr (by rfl) L.H.mE L.H.E.kp L.H.bE (fun σ => passAt (takes_of rfl rfl rfl rfl) σ) (pa_cons (pe_var (i := 6) rfl (.inr (.inr rfl))) (pa_cons (pe_var (i := 7) rfl (.inr (.inr rfl))) (pa_cons (pe_var (i := 8) rfl (.inr (.inr rfl))) pa_nil))))) pa_nil)))
      (pss_one (ps_if (pt_cmpR (op_neD hu64) (pv 5) (pe_op op_rep (pe_lst (pa_cons (pe_tup (pa_cons pe_str (pa_cons pe_non pa_nil))) pa_nil)) pe_int) (nomark _)) (pss_one (ps_ret pe_bl)) pss_nil))))))))))
      (pss_cons (ps_if (pw_or (pt_cmpR (op_neD hu64) (pe_call GE0 r6 (by rfl) L.H.mE L.H.E.kp L.H.bE .nil pass0 (pa_cons (pv 6) (pa_cons pe_str (pa_cons pe_int pa_nil)))) (pe_tup (pa_cons (pe_tup (pa_cons pe_int (pa_cons pe_int pa_nil))) (pa_cons (pe_tup (pa_cons pe_int (pa_cons pe_int pa_nil))) pa_nil))) (nomark _)) (pw_or1 (pt_cmpR op_notN (pe_call GE0 r6 (by rfl) L.H.mE L.H.E.kp L.H.bE .nil pass0 (pa_cons (pv 6) (pa_cons pe_str (pa_cons pe_int pa_nil)))) pe_non (nomark _)))).pt (pss_one (ps_ret pe_bl)) pss_nil)
      (pss_cons (ps_for PassesOwn.never rfl (pi_tup (pe_tup (pa_cons pe_str (pa_cons pe_str (pa_cons pe_str (pa_cons pe_str pa_nil)))))) (pg_name (i := 7) scLaw.nd rfl (Or.inr rfl))
      (pss_cons (ps_if (pw_or (pt_cmpR op_isnot_bl (pe_call GP0 r6 (by rfl) L.H.mP L.H.P.kp L.H.bP .nil pass0 (pa_cons (pv 6) (pa_cons (pv 7) (pa_cons pe_int pa_nil)))) pe_bl (nomark _)) (pw_or1 (pt_cmpR op_notN (pe_call GE0 r6 (by rfl) L.H.mE L.H.E.kp L.H.bE .nil pass0 (pa_cons (pv 6) (pa_cons (pv 7) (pa_cons pe_int pa_nil)))) pe_non (nomark _)))).pt (pss_one (ps_ret pe_bl)) pss_nil)
      (pss_one (ps_if (pt_cmpR (op_neD hu64) (pe_lamcall (X := (cxOf CX0 P w K mg base NL "law" (defScope sLaw) f (.ref c) A outer s H E).nox) (T := [((T, lamQ) : Addr × Str)]) (k := 6) (Ng := NO) (a := "deed") (TT := TOut L.U.F.P.C) (t := fun E => tCallS (spVerdicts L.U.F.P.C) (fun σ => WE (fun cls d _ H => E cls d H) σ) (tCons (tVar 6) (tCons (tVar 7) (tCons (tC (.int 3)) tNil)))) (by rfl) L.mO L.O.kp lkO hcO bO scOutcome rfl (.inl rfl) (out_gives (X := (cxOf CX0 P w K mg base NL "law" (defScope sLaw) f (.ref c) A outer s H E).nox) L.U r2) TB rfl lamq lamu hr (lamS_by (sc := defScope sLaw) (by decide +kernel)) rfl (fun _ _ _ _ _ => rfl) (fun A outer s H E f c' hr => pe_callS GV hr (by rfl) L.H.mV L.H.V.kp L.H.bV (fun σ => passAt (takes_of rfl rfl rfl rfl) σ) (pa_cons (pe_var (i := 6) rfl (.inr (.inr rfl))) (pa_cons (pe_var (i := 7) rfl (.inr (.inr rfl))) (pa_cons pe_int pa_nil))))) (pe_tup (pa_cons pe_str (pa_cons pe_non pa_nil))) (nomark _)) (pss_one (ps_ret pe_bl)) pss_nil))))
      (pss_one (ps_ret (pe_and (pe_cmpR (op_eqD hu64) (pe_call GV0 r6 (by rfl) L.H.mV L.H.V.kp L.H.bV .nil pass0 (pa_cons (pv 6) (pa_cons pe_str (pa_cons pe_int pa_nil)))) (pe_tup pa_nil) (nomark _)) (pe_and (pe_cmpR (op_eqD hu64) (pe_call GE0 r6 (by rfl) L.H.mE L.H.E.kp L.H.bE .nil pass0 (pa_cons (pv 6) (pa_cons pe_str (pa_cons pe_int pa_nil)))) (pe_tup pa_nil) (nomark _)) (pe_one (pe_call0 GH r7 (by rfl) L.mH L.HR.kp L.bH .nil pass0))))))))))), ?_⟩
    refine ⟨_, rfl, a, ns, rfl, hS, by omega, fun m mc l0 H0 M0 hm hmc hl sm0 => ?_⟩
    have nl : (ns.map V.int).length ≤ 63 := by rw [List.length_map]; exact hlen
    have tb0 : Tabs [((T, lamQ) : Addr × Str)] H0 := fun p hp => by
      have e : p = ((T, lamQ) : Addr × Str) := by simpa using hp
      rw [e]
      exact TabS.nil (sm0 _ _ hT0)
    show tSeq (tAsg (tTup (tTwo "@a" "b;")) (gName 6)) _ _ _ _
    refine st_asg ?_
    refine two_tup (p := "@a") (q := "b;") fun hf H1 s1 fa1 => ?_
    have M1 := M0.same s1
    have tb1 := tb0.ext s1
    refine ⟨_, rfl, a, _, rfl, .inl ((sm0.trans s1).seq hS), _, 6, rfl, 2, _, rfl, rfl, _, rfl, by split <;> omega, by split <;> omega, ?_⟩
    have hN : (2 + if (6 : Int) < ((ns.map V.int).length : Nat) then 6 else (((ns.map V.int).length : Nat) : Int)).toNat ≤ 8 := by split <;> omega
    generalize (2 + if (6 : Int) < ((ns.map V.int).length : Nat) then 6 else (((ns.map V.int).length : Nat) : Int)).toNat = N at hN ⊢
    refine for_it walk_range (fun i σ H' => ∃ (v2 v3 v4 v5 v7 v8 : Option V) (l : Addr) (k : Int), σ = [some (.ref a), some (.ref m), v2, v3, v4, v5, some (.ref hf), v7, v8] ∧ MAt H' m mc l k ∧ k ≤ 1000 * i ∧ FrA H' hf halfF ∧ Tabs [((T, lamQ) : Addr × Str)] H')
      ⟨none, none, none, none, none, none, l0, 0, rfl, M1, by omega, fa1, tb1⟩ (fun _ _ _ _ _ => trivial) ?_ ?_
    · rintro i x σ H2z H2 hi ⟨v2, v3, v4, v5, v7, v8, l2, k2, rfl, M2, kk2, fa2, tb2⟩ ⟨rfl, rfl⟩
      -- the odd text
      refine ⟨(by show 1 ≤ sizeLine; decide), fun pl hpl => ⟨"a", 61, rfl, rfl, by decide, by decide, by decide +kernel, by decide +kernel, (by show 9 ≤ sizeLine; decide), fun po hpo => ?_⟩⟩
      have w1 := same_upd (o := HO.lst [V.str "Aab;"]) hpl
      have w2 := same_upd (o := HO.lst (oddV pl (repS "a" 61))) hpo
      have M3 := M2.same (w1.trans w2)
      refine ⟨_, rfl, m, mc, l2, k2, 9, rfl, M3, by decide, by decide, by omega, fun r4 H4 l4 k4 a4 b4 g4 M4 f4 q4 => ?_⟩
      have kp4 := kp_of M3 q4
      have e4 := kp_new (M2.same w1) w2 q4 hpo upd_same
      have pl4 := kp_new M2 (w1.trans w2) q4 hpl (w2 _ _ upd_same)
      have tb4 := tabs_kp (tb2.ext (w1.trans w2)) kp4
      have fa4 := fr_kp (fa2.same (w1.trans w2)) kp4
      obtain ⟨j, rfl⟩ := Int.eq_ofNat_of_zero_le a4
      obtain ⟨v, hv⟩ : ∃ v, (oddV pl (repS "a" 61))[j]? = some v := ⟨_, List.getElem?_eq_getElem (by show j < 9; omega)⟩
      refine ⟨po, _, _, v, rfl, rfl, SqL.of e4, atI_nat (j := j) hv, ?_⟩
      -- the number of writers that is none
      refine ⟨1, rfl, (by show 1 ≤ sizeLine; decide), fun pt hpt => ⟨(by show 7 ≤ sizeLine; decide), fun p5 hp5 => ?_⟩⟩
      have w3 := same_upd (o := HO.tup [V.int 1]) hpt
      have w4 := same_upd (o := HO.lst (nonV pt)) hp5
      have M5 := M4.same (w3.trans w4)
      refine ⟨_, rfl, m, mc, l4, k4, 7, rfl, M5, by decide, by decide, by omega, fun r6 H6 l6 k6 a6 b6 g6 M6 f6 q6 => ?_⟩
      have kp6 := kp_of M5 q6
      have e6 := kp_new (M4.same w3) w4 q6 hp5 upd_same
      have pt6 := kp_new M4 (w3.trans w4) q6 hpt (w4 _ _ upd_same)
      have pl6 : H6 pl = some (.lst [V.str "Aab;"]) := by
        have n1 : pl ≠ m := (ne_of_none M2.hm hpl).symm
        have n2 : pl ≠ l4 := fun z => by
          obtain ⟨ls, hl', _⟩ := M4.hl
          rcases f4 with f4 | f4
          · obtain ⟨ls2, hl2, _⟩ := M2.hl
            exact ne_of_none hl2 hpl (by rw [← f4, ← z])
          · rw [← z] at f4
            exact nomatch (w2 _ _ upd_same).symm.trans f4
        exact q6 _ _ (w4 _ _ (w3 _ _ pl4)) n1 n2
      have tb6 := tabs_kp (tb4.ext (w3.trans w4)) kp6
      have fa6 := fr_kp (fa4.same (w3.trans w4)) kp6
      obtain ⟨j2, rfl⟩ := Int.eq_ofNat_of_zero_le a6
      obtain ⟨u, hu⟩ : ∃ u, (nonV pt)[j2]? = some u := ⟨_, List.getElem?_eq_getElem (by show j2 < 7; omega)⟩
      refine ⟨p5, _, _, u, rfl, rfl, SqL.of e6, atI_nat (j := j2) hu, ?_⟩
      obtain ⟨d1, da1, sh1, no1⟩ := odd_bad hv pl6
      obtain ⟨d2, da2, no2⟩ := non_bad hu pt6
      clear pl6 pt6 e6 e4 pl4 tb4 fa4 kp4 kp6 q4 q6 M5 M3 w1 w2 w3 w4 hpl hpo hpt hp5 f4 f6 hv hu
      -- the pairs
      refine ⟨_, rfl, (by show 2 ≤ sizeLine; decide), fun t1 h1 => ⟨_, rfl, _, rfl, (by show 2 ≤ sizeLine; decide), fun t2 h2 => ⟨_, rfl, (by show 2 ≤ sizeLine; decide), fun t3 h3 => ⟨(by show 3 ≤ sizeLine; decide), fun pp hpp => ?_⟩⟩⟩⟩
      have x1 := same_upd (o := HO.tup [v, V.int 2]) h1
      have x2 := same_upd (o := HO.tup [v, u]) h2
      have x3 := same_upd (o := HO.tup [V.str "Aab;", u]) h3
      have x4 := same_upd (o := HO.tup [V.ref t1, V.ref t2, V.ref t3]) hpp
      have xs := x1.trans (x2.trans (x3.trans x4))
      have y1 := x4 _ _ (x3 _ _ (x2 _ _ (upd_same (H := H6) (a := t1) (o := HO.tup [v, V.int 2]))))
      have y2 := x4 _ _ (x3 _ _ (upd_same (H := upd H6 t1 (HO.tup [v, V.int 2])) (a := t2) (o := HO.tup [v, u])))
      have y3 := x4 _ _ (upd_same (H := upd (upd H6 t1 (HO.tup [v, V.int 2])) t2 (HO.tup [v, u])) (a := t3) (o := HO.tup [V.str "Aab;", u]))
      have y4 := upd_same (H := upd (upd (upd H6 t1 (HO.tup [v, V.int 2])) t2 (HO.tup [v, u])) t3 (HO.tup [V.str "Aab;", u])) (a := pp) (o := HO.tup [V.ref t1, V.ref t2, V.ref t3])
      have M7 := M6.same xs
      have tb7 := tb6.ext xs
      have fa7 := fa6.same xs
      have da1 := Da.same xs _ _ da1
      have da2 := Da.same xs _ _ da2
      clear x1 x2 x3 x4 xs
      generalize upd (upd (upd (upd H6 t1 (HO.tup [v, V.int 2])) t2 (HO.tup [v, u])) t3 (HO.tup [V.str "Aab;", u])) pp (HO.tup [V.ref t1, V.ref t2, V.ref t3]) = H7 at y1 y2 y3 y4 M7 tb7 fa7 da1 da2 ⊢
      have pairs : ∀ (n : Nat) (y : V), [V.ref t1, V.ref t2, V.ref t3][n]? = some y → ∃ tt v' u', y = .ref tt ∧ H7 tt = some (.tup [v', u']) ∧ BadP H7 v' u' := fun n y hy => by
        match n, hy with
        | 0, hy => cases hy; exact ⟨t1, v, .int 2, rfl, y1, d1, .int 2, da1, sh1, .int 2, .inl no1⟩
        | 1, hy => cases hy; exact ⟨t2, v, u, rfl, y2, d1, d2, da1, sh1, da2, .inl no1⟩
        | 2, hy => cases hy; exact ⟨t3, .str "Aab;", u, rfl, y3, .str "Aab;", d2, .str _, (fun x z => by cases z; decide +kernel), da2, .inr no2⟩
      have z4 := nt_mk y4 (fun ps z => by cases z)
      refine ⟨pp, rfl, ⟨_, SqT.of y4⟩, for_it (walk_tup (xs := [V.ref t1, V.ref t2, V.ref t3])) (fun n σ H' => ∃ v5 v7 v8 : Option V, σ = [some (.ref a), some (.ref m), some (.int (0 + (i : Int))), some v, some u, v5, some (.ref hf), v7, v8] ∧ Same (nt H7) (nt H') ∧ Tabs [((T, lamQ) : Addr × Str)] H')
        ⟨_, _, _, rfl, Same.refl _, tb7⟩ (fun n σ H' _ ⟨_, _, _, _, z, _⟩ => SqT.of (nt_sub _ _ (z _ _ z4))) ?_ ?_⟩
      · rintro n y σ HZ HP hn ⟨v5, v7, v8, rfl, sP, tbP⟩ ⟨rfl, hy⟩
        obtain ⟨tt, v', u', rfl, ht, bp⟩ := pairs n y hy
        have ht' := nt_sub _ _ (sP _ _ (nt_mk ht (fun ps z => by cases z)))
        refine ⟨tt, _, rfl, SqT.of ht', rfl, _, _, rfl, _, _, rfl, rfl, ?_⟩
        have bpn := bp.nt.same sP
        have fan := (fr_nt fa7).same sP
        refine rd_lam (vs := [.ref hf, v', u']) (fun H R z => ⟨_, rfl, _, rfl, _, rfl, z⟩) tbP (fun H1 Q E s1 e => rfs_pos _ _ _ _ _ halfF ((bpn.same s1).ags (fan.same s1) half_ok) e) fun HQ q1 eQ tQ hQ => ⟨(by show 1 ≤ sizeLine; decide), fun LL hLL => ?_⟩
        have uL := same_upd (o := HO.lst [V.ref q1]) hLL
        have sQ := (nt_ext eQ).trans (nt_same uL)
        have bpQ := bpn.same sQ
        have faQ := fan.same sQ
        refine ⟨_, rfl, .inl ⟨rfl, _, SqL.of upd_same⟩, ?_⟩
        refine rd_lam (vs := [.ref hf, v', u']) (fun H R z => ⟨_, rfl, _, rfl, _, rfl, z⟩) (tQ.ext uL) (fun H1 Q E s1 e => rfs_ver _ _ _ _ _ halfF ((bpQ.same s1).ags (faQ.same s1) half_ok) e) fun HR q2 eR tR hR => ⟨LL, _, _, rfl, rfl, ext_lst eR upd_same, (by show 1 < sizeLine; decide), ?_⟩
        have eL := ext_lst eR (upd_same (H := HQ) (a := LL) (o := HO.lst [V.ref q1]))
        have hq1 : upd HR LL (.lst ([V.ref q1] ++ [V.ref q2])) q1 = some (.tup [.str "place", .non]) := by
          have z := ext_tup eR (uL _ _ hQ)
          rw [upd_ne (ne_of z eL (fun z => by cases z))]
          exact z
        have hq2 : upd HR LL (.lst ([V.ref q1] ++ [V.ref q2])) q2 = some (.tup [.str "place", .non]) := by
          rw [upd_ne (ne_of hR eL (fun z => by cases z))]
          exact hR
        have hqL := upd_same (H := HR) (a := LL) (o := HO.lst ([V.ref q1] ++ [V.ref q2]))
        have sS : Same (nt HP) (nt (upd HR LL (.lst ([V.ref q1] ++ [V.ref q2])))) := fun b o z => by
          have z1 := nt_ext eQ _ _ z
          have nb := ne_of_none (nt_sub _ _ z1) hLL
          have z2 := nt_ext eR _ _ (nt_same uL _ _ z1)
          exact nt_mk (by rw [upd_ne nb]; exact (nt_some z2).1) (nt_some z2).2
        have tbS : Tabs [((T, lamQ) : Addr × Str)] (upd HR LL (.lst ([V.ref q1] ++ [V.ref q2]))) := tabs_lst tR eL
        have nLP : nt HP LL = none := by
          cases z : nt HP LL with
          | none => rfl
          | some o =>
            have z1 := nt_sub _ _ (nt_ext eQ _ _ z)
            rw [hLL] at z1
            cases z1
        clear sQ uL eL hQ hR tQ tR eQ eR bpQ faQ
        generalize upd HR LL (.lst ([V.ref q1] ++ [V.ref q2])) = HS at hq1 hq2 hqL sS tbS ⊢
        have bpS := bpn.same sS
        have faS := fan.same sS
        refine ⟨_, rfl, .inl ⟨rfl, _, SqL.of hqL⟩, ?_⟩
        refine rd_lam (vs := [.ref hf, v', u']) (fun H R z => ⟨_, rfl, _, rfl, _, rfl, z⟩) tbS (fun H1 Q E s1 e => rfs_ex _ _ _ _ _ halfF ((bpS.same s1).ags (faS.same s1) half_ok) e) fun HT q3 eT tT hT => ⟨LL, _, _, rfl, rfl, ext_lst eT hqL, (by show 2 < sizeLine; decide), ?_⟩
        have eL3 := ext_lst eT hqL
        have k1 : upd HT LL (.lst (([V.ref q1] ++ [V.ref q2]) ++ [V.ref q3])) q1 = some (.tup [.str "place", .non]) := by
          have z := ext_tup eT hq1
          rw [upd_ne (ne_of z eL3 (fun z => by cases z))]
          exact z
        have k2 : upd HT LL (.lst (([V.ref q1] ++ [V.ref q2]) ++ [V.ref q3])) q2 = some (.tup [.str "place", .non]) := by
          have z := ext_tup eT hq2
          rw [upd_ne (ne_of z eL3 (fun z => by cases z))]
          exact z
        have k3 : upd HT LL (.lst (([V.ref q1] ++ [V.ref q2]) ++ [V.ref q3])) q3 = some (.tup [.str "place", .non]) := by
          rw [upd_ne (ne_of hT eL3 (fun z => by cases z))]
          exact hT
        have kL := upd_same (H := HT) (a := LL) (o := HO.lst (([V.ref q1] ++ [V.ref q2]) ++ [V.ref q3]))
        have sU : Same (nt HP) (nt (upd HT LL (.lst (([V.ref q1] ++ [V.ref q2]) ++ [V.ref q3])))) := fun b o z => by
          have z1 := nt_ext eT _ _ (sS _ _ z)
          have nb : b ≠ LL := fun e => by
            rw [e, nLP] at z
            cases z
          exact nt_mk (by rw [upd_ne nb]; exact (nt_some z1).1) (nt_some z1).2
        have tbU : Tabs [((T, lamQ) : Addr × Str)] (upd HT LL (.lst (([V.ref q1] ++ [V.ref q2]) ++ [V.ref q3]))) := tabs_lst tT eL3
        clear eL3 eT tT hT sS tbS hqL hq1 hq2 bpS faS
        generalize upd HT LL (.lst (([V.ref q1] ++ [V.ref q2]) ++ [V.ref q3])) = HU at k1 k2 k3 kL sU tbU ⊢
        refine ⟨_, rfl, (by show 2 ≤ sizeLine; decide), fun p9 n9 => ⟨(by show 1 ≤ sizeLine; decide), fun p10 n10 => ⟨p10, 3, _, rfl, rfl, upd_same, by decide, by decide, by show 1 * 3 ≤ sizeLine; decide, fun p11 n11 => ?_⟩⟩⟩
        have u9 := same_upd (o := HO.tup [V.str "place", V.non]) n9
        have u10 := same_upd (o := HO.lst [V.ref p9]) n10
        have u11 := same_upd (o := HO.lst (List.replicate 3 (V.ref p9))) n11
        have u12 := u9.trans (u10.trans u11)
        have hp9 := (u10.trans u11) _ _ (upd_same (H := HU) (a := p9) (o := HO.tup [V.str "place", V.non]))
        refine ⟨.list [pD, pD, pD], .list [pD, pD, pD], Da.dp _ _ (.lst (u12 _ _ kL) (.cons (da_pN (u12 _ _ k1)) (.cons (da_pN (u12 _ _ k2)) (.cons (da_pN (u12 _ _ k3)) .nil)))), Da.dp _ _ (.lst upd_same (.cons (da_pN hp9) (.cons (da_pN hp9) (.cons (da_pN hp9) .nil)))), (by decide +kernel), (by decide +kernel), _, rfl, iteF' (by decide +kernel) ?_⟩
        exact ⟨_, _, _, rfl, sP.trans (sU.trans (nt_same u12)), tbU.ext u12⟩
      · rintro σ HP ⟨v5, v7, v8, rfl, sP, tbP⟩
        exact ⟨_, _, _, _, _, _, l6, k6, rfl, ((mat_nt M7).same sP).same nt_sub, by push_cast; omega, ((fr_nt fa7).same sP).same nt_sub, tbP⟩
    · rintro σ HE ⟨v2, v3, v4, v5, v7, v8, l, k, rfl, ME, kkE, faE, tbE⟩
      clear ME kkE hN M1 tb1 fa1 tb0 M0
      dsimp only
      refine st_or ?_
      refine ask_ex rfl faE half_ok ⟨by decide +kernel, by decide +kernel, by decide +kernel⟩ (es := [(1, 0), (1, 1)]) (by decide +kernel) fun H2 p2 s2 wv2 => ?_
      refine ⟨(by show 2 ≤ sizeLine; decide), fun t1 h1 => ⟨(by show 2 ≤ sizeLine; decide), fun t2 h2 => ⟨(by show 2 ≤ sizeLine; decide), fun t3 h3 => ?_⟩⟩⟩
      have x1 := same_upd (o := HO.tup [V.int 1, V.int 0]) h1
      have x2 := same_upd (o := HO.tup [V.int 1, V.int 1]) h2
      have x3 := same_upd (o := HO.tup [V.ref t1, V.ref t2]) h3
      have xx := x1.trans (x2.trans x3)
      have dR : Da (upd (upd (upd H2 t1 (HO.tup [V.int 1, V.int 0])) t2 (HO.tup [V.int 1, V.int 1])) t3 (HO.tup [V.ref t1, V.ref t2])) (.ref t3) wvD :=
        .tup upd_same (.cons (.tup (x3 _ _ (x2 _ _ upd_same)) (.cons (.int 1) (.cons (.int 0) .nil))) (.cons (.tup (x3 _ _ upd_same) (.cons (.int 1) (.cons (.int 1) .nil))) .nil))
      refine ⟨wvD, wvD, Da.dp _ _ (Da.same xx _ _ (da_wv wv2)), Da.dp _ _ dR, (by decide +kernel), (by decide +kernel), _, rfl, iteF' (by decide +kernel) ?_⟩
      have fa3 := (faE.same s2).same xx
      have tb3 := (tbE.ext s2).ext xx
      clear dR x1 x2 x3 xx wv2
      generalize upd (upd (upd H2 t1 (HO.tup [V.int 1, V.int 0])) t2 (HO.tup [V.int 1, V.int 1])) t3 (HO.tup [V.ref t1, V.ref t2]) = H3 at fa3 tb3 ⊢
      refine ask_exN rfl fa3 half_ok ⟨by decide +kernel, by decide +kernel, by decide +kernel⟩ (by decide +kernel) fun H4 s4 => ⟨rfl, _, rfl, iteF' rfl ?_⟩
      have fa4 := fa3.same s4
      have tb4 := tb3.ext s4
      refine ⟨(by show 4 ≤ sizeLine; decide), fun pp hpp => ?_⟩
      have u5 := same_upd (o := HO.tup wrongs) hpp
      have fa5 := fa4.same u5
      have tb5 := tb4.ext u5
      have z5 := nt_mk (upd_same (H := H4) (a := pp) (o := HO.tup wrongs)) (fun ps z => by cases z)
      refine ⟨pp, rfl, ⟨_, SqT.of upd_same⟩, for_it (walk_tup (xs := wrongs)) (fun n σ H' => ∃ v7 : Option V, σ = [some (.ref a), some (.ref m), v2, v3, v4, v5, some (.ref hf), v7, v8] ∧ Same (nt (upd H4 pp (.tup wrongs))) (nt H') ∧ Tabs [((T, lamQ) : Addr × Str)] H')
        ⟨_, rfl, Same.refl _, tb5⟩ (fun n σ H' _ ⟨_, _, z, _⟩ => SqT.of (nt_sub _ _ (z _ _ z5))) ?_ ?_⟩
      · rintro n y σ HZ HP hn ⟨v7, rfl, sP, tbP⟩ ⟨rfl, hy⟩
        obtain ⟨x, rfl, gx, f1, f2, f3⟩ := wrong_is hy
        have faP := ((fr_nt fa5).same sP).same nt_sub
        dsimp only
        refine st_or ?_
        refine ask_posG (x := x) (n := 3) (fun H R z => ⟨_, rfl, _, rfl, z⟩) faP half_ok gx f1 fun H6 s6 => ⟨_, _, rfl, rfl, _, rfl, iteF' rfl ?_⟩
        have fa6 := faP.same s6
        refine ask_exNG (x := x) (n := 3) (fun H R z => ⟨_, rfl, _, rfl, z⟩) fa6 half_ok gx f2 fun H7 s7 => ⟨rfl, _, rfl, iteF' rfl ?_⟩
        have fa7 := fa6.same s7
        have tb7 := (tbP.ext s6).ext s7
        refine rd_lam (vs := [.ref hf, .str x, .int 3]) (fun H R z => ⟨_, rfl, _, rfl, z⟩) tb7 (fun H1 Q E s1 e => ref_verG rfl ((fr_nt fa7).same s1) half_ok gx f3 e) fun H8 p8 e8 t8 h8 => ?_
        refine ⟨(by show 2 ≤ sizeLine; decide), fun p9 n9 => ?_⟩
        have u9 := same_upd (o := HO.tup [V.str "place", V.non]) n9
        refine ⟨pD, pD, Da.dp _ _ (da_pN (u9 _ _ h8)), Da.dp _ _ (da_pN upd_same), (by decide +kernel), (by decide +kernel), _, rfl, iteF' (by decide +kernel) ?_⟩
        exact ⟨_, rfl, sP.trans (((nt_same (s6.trans s7)).trans (nt_ext e8)).trans (nt_same u9)), t8.ext u9⟩
      · rintro σ HP ⟨v7, rfl, sP, tbP⟩
        have faP := ((fr_nt fa5).same sP).same nt_sub
        dsimp only
        refine st_and ?_
        refine ver_eq rfl faP half_ok ⟨by decide +kernel, by decide +kernel, by decide +kernel⟩ (ss := []) (by decide +kernel) (by decide) (by decide +kernel) (by decide +kernel) fun H6 s6 => ⟨_, rfl, iteT ?_⟩
        have fa6 := faP.same s6
        refine and_v ?_
        refine ask_ex rfl fa6 half_ok ⟨by decide +kernel, by decide +kernel, by decide +kernel⟩ (es := []) (by decide +kernel) fun H7 p7 s7 w7 => ⟨(by show 0 ≤ sizeLine; decide), fun p8 n8 => ?_⟩
        have u8 := same_upd (o := HO.tup []) n8
        refine ⟨.tuple [], .tuple [], Da.dp _ _ (Da.same u8 _ _ (da_w0 w7)), Da.dp _ _ (.tup upd_same .nil), (by decide +kernel), (by decide +kernel), _, rfl, iteT' (by decide +kernel) ?_⟩
        exact ⟨rfl, fun H' _ => q H'⟩
end
end K37

set_option Elab.async false
set_option linter.all false
set_option maxRecDepth 100000
set_option maxHeartbeats 8000000
/-! What the top has written. -/
namespace K37
open PySem L2 L2.EV LamX PySem.Spec PyProof.Rows
theorem oxc {K : PySem.W.Frag} {C N : Addr} {nm q : Str} {bs : List Value} {sn : List Str} {sub : List Value} {ab : Bool} {col : Option Bool} {dd : Option Addr} {k0 k1 k2 k3 k5 : Option Value} {B newId initId : String} {bm : List Value}
    (cl : K.lookup C = some (excClassObj nm q C N bs bm true sn sub ab col dd k0 k1 k2 k3 k5 newId)) (F : ExcBaseFacts B newId initId bm) (pas : ∀ self, refuseLoop self "__setattr__" bm = pure ()) (obj : bm.contains (.type "object") = true)
    (sa : PySem.W.findIn K (.ref C) "__setattr__" = some (some (.builtin "object.__setattr__"))) (ga : PySem.W.findIn K (.ref C) "__getattribute__" = some (some (.builtin "BaseException.__getattribute__")))
    (gg : PySem.W.findIn K (.ref C) "__getattr__" = some none) (exC : PySem.W.subIn K (.ref C) (.type "BaseException") = some true) (kC : PySem.W.keepIn K (.ref C) = true) (hd : PySem.W.hasDictIn K C = true)
    (ca : PySem.W.findIn K (.ref C) "__class__" = some (some (.builtin "object.__class__"))) (cn : PySem.W.specialIn K (.builtin "object.__class__") "__get__" = some (some (.builtin "getset_descriptor.__get__")))
    (ct : PySem.W.takesIn K (.builtin "object.__class__") = some true) (om : PySem.W.mroIn K C (.type "object") = some true) : OxC K C B newId initId bm :=
  ⟨F, ⟨nm, q, N, bs, sn, sub, ab, col, dd, k0, k1, k2, k3, k5, cl⟩, pas, obj, sa, ga, gg, exC, kC, hd, ca, cn, ct, om⟩
theorem all_mk {P : Program} {w : World} {K : PySem.W.Frag} {h : Heap} {mg : Str → Option Value} {fa ccl Tla f_inj D0 D1 D2 D3 D4 D5 D6 D7 f_iN f_iP f_iS f_iL f_iW f_iJ f_iF f_vT f_vW f_vF f_vM f_vS f_vR f_vC f_vP f_vE f_vD f_vV f_eM f_lB f_lN f_lU f_lO f_lH f_la : Addr}
    {od_iN an_iN : Option Addr} {sl_iN : Array (Option Value)} {oc_iN kV_iN dc_iN pm_iN cd_iN ct_iN : Value}
    {od_iP an_iP : Option Addr} {sl_iP : Array (Option Value)} {oc_iP kV_iP dc_iP pm_iP cd_iP ct_iP : Value}
    {od_iS an_iS : Option Addr} {sl_iS : Array (Option Value)} {oc_iS kV_iS dc_iS pm_iS cd_iS ct_iS : Value}
    {od_iL an_iL : Option Addr} {sl_iL : Array (Option Value)} {oc_iL kV_iL dc_iL pm_iL cd_iL ct_iL : Value}
    {od_iW an_iW : Option Addr} {sl_iW : Array (Option Value)} {oc_iW kV_iW dc_iW pm_iW cd_iW ct_iW : Value}
    {od_iJ an_iJ : Option Addr} {sl_iJ : Array (Option Value)} {oc_iJ kV_iJ dc_iJ pm_iJ cd_iJ ct_iJ : Value}
    {od_iF an_iF : Option Addr} {sl_iF : Array (Option Value)} {oc_iF kV_iF dc_iF pm_iF cd_iF ct_iF : Value}
    {od_vT an_vT : Option Addr} {sl_vT : Array (Option Value)} {oc_vT kV_vT dc_vT pm_vT cd_vT ct_vT : Value}
    {od_vW an_vW : Option Addr} {sl_vW : Array (Option Value)} {oc_vW kV_vW dc_vW pm_vW cd_vW ct_vW : Value}
    {od_vF an_vF : Option Addr} {sl_vF : Array (Option Value)} {oc_vF kV_vF dc_vF pm_vF cd_vF ct_vF : Value}
    {od_vM an_vM : Option Addr} {sl_vM : Array (Option Value)} {oc_vM kV_vM dc_vM pm_vM cd_vM ct_vM : Value}
    {od_vS an_vS : Option Addr} {sl_vS : Array (Option Value)} {oc_vS kV_vS dc_vS pm_vS cd_vS ct_vS : Value}
    {od_vR an_vR : Option Addr} {sl_vR : Array (Option Value)} {oc_vR kV_vR dc_vR pm_vR cd_vR ct_vR : Value}
    {od_vC an_vC : Option Addr} {sl_vC : Array (Option Value)} {oc_vC kV_vC dc_vC pm_vC cd_vC ct_vC : Value}
    {od_vP an_vP : Option Addr} {sl_vP : Array (Option Value)} {oc_vP kV_vP dc_vP pm_vP cd_vP ct_vP : Value}
    {od_vE an_vE : Option Addr} {sl_vE : Array (Option Value)} {oc_vE kV_vE dc_vE pm_vE cd_vE ct_vE : Value}
    {od_vD an_vD : Option Addr} {sl_vD : Array (Option Value)} {oc_vD kV_vD dc_vD pm_vD cd_vD ct_vD : Value}
    {od_vV an_vV : Option Addr} {sl_vV : Array (Option Value)} {oc_vV kV_vV dc_vV pm_vV cd_vV ct_vV : Value}
    {od_eM an_eM : Option Addr} {sl_eM : Array (Option Value)} {oc_eM kV_eM dc_eM pm_eM cd_eM ct_eM : Value}
    {od_lB an_lB : Option Addr} {sl_lB : Array (Option Value)} {oc_lB kV_lB dc_lB pm_lB cd_lB ct_lB : Value}
    {od_lN an_lN : Option Addr} {sl_lN : Array (Option Value)} {oc_lN kV_lN dc_lN pm_lN cd_lN ct_lN : Value}
    {od_lU an_lU : Option Addr} {sl_lU : Array (Option Value)} {oc_lU kV_lU dc_lU pm_lU cd_lU ct_lU : Value}
    {od_lO an_lO : Option Addr} {sl_lO : Array (Option Value)} {oc_lO kV_lO dc_lO pm_lO cd_lO ct_lO : Value}
    {od_lH an_lH : Option Addr} {sl_lH : Array (Option Value)} {oc_lH kV_lH dc_lH pm_lH cd_lH ct_lH : Value}
    {od_la an_la : Option Addr} {sl_la : Array (Option Value)} {oc_la kV_la dc_la pm_la ct_la : Value}
    {od_inj an_inj : Option Addr} {sl_inj : Array (Option Value)} {oc_inj kV_inj dc_inj pm_inj cd_inj ct_inj : Value}
    {t_cS : Tok}
    {t_cM : Tok}
    {t_cT : Tok}
    {t_cD : Tok}
    {t_cK : Tok}
    {t_w1 : Tok}
    {t_w2 : Tok}
    {t_w3 : Tok}
    {t_w4 : Tok}
    {t_w5 : Tok}
    {t_w6 : Tok}
    (X : K.In h) (G : h.Ns mainGlobals mg) (hfa : mg "law" = some (.ref fa))
    (a_iN : PySem.W.nsIn K mainGlobals "is_number" = some (some (.ref f_iN)))
    (l_iN : K.lookup f_iN = some ⟨oc_iN, od_iN, .func (PySem.W.fnOf "is_number" "is_number" (defArgs sNum) (defBody sNum) (defScope sNum) .none kV_iN dc_iN pm_iN an_iN cd_iN ct_iN), sl_iN⟩) (c_iN : PySem.W.codeIn K cd_iN "is_number" = true) (k_iN : PySem.W.keepIn K (.ref f_iN) = true)
    (a_iP : PySem.W.nsIn K mainGlobals "is_piece" = some (some (.ref f_iP)))
    (l_iP : K.lookup f_iP = some ⟨oc_iP, od_iP, .func (PySem.W.fnOf "is_piece" "is_piece" (defArgs sPc) (defBody sPc) (defScope sPc) .none kV_iP dc_iP pm_iP an_iP cd_iP ct_iP), sl_iP⟩) (c_iP : PySem.W.codeIn K cd_iP "is_piece" = true) (k_iP : PySem.W.keepIn K (.ref f_iP) = true)
    (a_iS : PySem.W.nsIn K mainGlobals "is_step" = some (some (.ref f_iS)))
    (l_iS : K.lookup f_iS = some ⟨oc_iS, od_iS, .func (PySem.W.fnOf "is_step" "is_step" (defArgs sStep) (defBody sStep) (defScope sStep) .none kV_iS dc_iS pm_iS an_iS cd_iS ct_iS), sl_iS⟩) (c_iS : PySem.W.codeIn K cd_iS "is_step" = true) (k_iS : PySem.W.keepIn K (.ref f_iS) = true)
    (a_iL : PySem.W.nsIn K mainGlobals "listed_standings" = some (some (.ref f_iL)))
    (l_iL : K.lookup f_iL = some ⟨oc_iL, od_iL, .func (PySem.W.fnOf "listed_standings" "listed_standings" (defArgs sListed) (defBody sListed) (defScope sListed) .none kV_iL dc_iL pm_iL an_iL cd_iL ct_iL), sl_iL⟩) (c_iL : PySem.W.codeIn K cd_iL "listed_standings" = true) (k_iL : PySem.W.keepIn K (.ref f_iL) = true)
    (a_iW : PySem.W.nsIn K mainGlobals "ways_from" = some (some (.ref f_iW)))
    (l_iW : K.lookup f_iW = some ⟨oc_iW, od_iW, .func (PySem.W.fnOf "ways_from" "ways_from" (defArgs sWays) (defBody sWays) (defScope sWays) .none kV_iW dc_iW pm_iW an_iW cd_iW ct_iW), sl_iW⟩) (c_iW : PySem.W.codeIn K cd_iW "ways_from" = true) (k_iW : PySem.W.keepIn K (.ref f_iW) = true)
    (a_iJ : PySem.W.nsIn K mainGlobals "is_joined" = some (some (.ref f_iJ)))
    (l_iJ : K.lookup f_iJ = some ⟨oc_iJ, od_iJ, .func (PySem.W.fnOf "is_joined" "is_joined" (defArgs sJoined) (defBody sJoined) (defScope sJoined) .none kV_iJ dc_iJ pm_iJ an_iJ cd_iJ ct_iJ), sl_iJ⟩) (c_iJ : PySem.W.codeIn K cd_iJ "is_joined" = true) (k_iJ : PySem.W.keepIn K (.ref f_iJ) = true)
    (a_iF : PySem.W.nsIn K mainGlobals "need_framing" = some (some (.ref f_iF)))
    (l_iF : K.lookup f_iF = some ⟨oc_iF, od_iF, .func (PySem.W.fnOf "need_framing" "need_framing" (defArgs sNeedF) (defBody sNeedF) (defScope sNeedF) .none kV_iF dc_iF pm_iF an_iF cd_iF ct_iF), sl_iF⟩) (c_iF : PySem.W.codeIn K cd_iF "need_framing" = true) (k_iF : PySem.W.keepIn K (.ref f_iF) = true)
    (a_vT : PySem.W.nsIn K mainGlobals "need_file_text" = some (some (.ref f_vT)))
    (l_vT : K.lookup f_vT = some ⟨oc_vT, od_vT, .func (PySem.W.fnOf "need_file_text" "need_file_text" (defArgs sNFT) (defBody sNFT) (defScope sNFT) .none kV_vT dc_vT pm_vT an_vT cd_vT ct_vT), sl_vT⟩) (c_vT : PySem.W.codeIn K cd_vT "need_file_text" = true) (k_vT : PySem.W.keepIn K (.ref f_vT) = true)
    (a_vW : PySem.W.nsIn K mainGlobals "need_few_writers" = some (some (.ref f_vW)))
    (l_vW : K.lookup f_vW = some ⟨oc_vW, od_vW, .func (PySem.W.fnOf "need_few_writers" "need_few_writers" (defArgs sNFW) (defBody sNFW) (defScope sNFW) .none kV_vW dc_vW pm_vW an_vW cd_vW ct_vW), sl_vW⟩) (c_vW : PySem.W.codeIn K cd_vW "need_few_writers" = true) (k_vW : PySem.W.keepIn K (.ref f_vW) = true)
    (a_vF : PySem.W.nsIn K mainGlobals "fits_at" = some (some (.ref f_vF)))
    (l_vF : K.lookup f_vF = some ⟨oc_vF, od_vF, .func (PySem.W.fnOf "fits_at" "fits_at" (defArgs sFits) (defBody sFits) (defScope sFits) .none kV_vF dc_vF pm_vF an_vF cd_vF ct_vF), sl_vF⟩) (c_vF : PySem.W.codeIn K cd_vF "fits_at" = true) (k_vF : PySem.W.keepIn K (.ref f_vF) = true)
    (a_vM : PySem.W.nsIn K mainGlobals "maker_behind" = some (some (.ref f_vM)))
    (l_vM : K.lookup f_vM = some ⟨oc_vM, od_vM, .func (PySem.W.fnOf "maker_behind" "maker_behind" (defArgs sMaker) (defBody sMaker) (defScope sMaker) .none kV_vM dc_vM pm_vM an_vM cd_vM ct_vM), sl_vM⟩) (c_vM : PySem.W.codeIn K cd_vM "maker_behind" = true) (k_vM : PySem.W.keepIn K (.ref f_vM) = true)
    (a_vS : PySem.W.nsIn K mainGlobals "state_behind" = some (some (.ref f_vS)))
    (l_vS : K.lookup f_vS = some ⟨oc_vS, od_vS, .func (PySem.W.fnOf "state_behind" "state_behind" (defArgs sState) (defBody sState) (defScope sState) .none kV_vS dc_vS pm_vS an_vS cd_vS ct_vS), sl_vS⟩) (c_vS : PySem.W.codeIn K cd_vS "state_behind" = true) (k_vS : PySem.W.keepIn K (.ref f_vS) = true)
    (a_vR : PySem.W.nsIn K mainGlobals "traces" = some (some (.ref f_vR)))
    (l_vR : K.lookup f_vR = some ⟨oc_vR, od_vR, .func (PySem.W.fnOf "traces" "traces" (defArgs sTraces) (defBody sTraces) (defScope sTraces) .none kV_vR dc_vR pm_vR an_vR cd_vR ct_vR), sl_vR⟩) (c_vR : PySem.W.codeIn K cd_vR "traces" = true) (k_vR : PySem.W.keepIn K (.ref f_vR) = true)
    (a_vC : PySem.W.nsIn K mainGlobals "checked_traces" = some (some (.ref f_vC)))
    (l_vC : K.lookup f_vC = some ⟨oc_vC, od_vC, .func (PySem.W.fnOf "checked_traces" "checked_traces" (defArgs sChecked) (defBody sChecked) (defScope sChecked) .none kV_vC dc_vC pm_vC an_vC cd_vC ct_vC), sl_vC⟩) (c_vC : PySem.W.codeIn K cd_vC "checked_traces" = true) (k_vC : PySem.W.keepIn K (.ref f_vC) = true)
    (a_vP : PySem.W.nsIn K mainGlobals "possible" = some (some (.ref f_vP)))
    (l_vP : K.lookup f_vP = some ⟨oc_vP, od_vP, .func (PySem.W.fnOf "possible" "possible" (defArgs sPossible) (defBody sPossible) (defScope sPossible) .none kV_vP dc_vP pm_vP an_vP cd_vP ct_vP), sl_vP⟩) (c_vP : PySem.W.codeIn K cd_vP "possible" = true) (k_vP : PySem.W.keepIn K (.ref f_vP) = true)
    (a_vE : PySem.W.nsIn K mainGlobals "explained" = some (some (.ref f_vE)))
    (l_vE : K.lookup f_vE = some ⟨oc_vE, od_vE, .func (PySem.W.fnOf "explained" "explained" (defArgs sExplained) (defBody sExplained) (defScope sExplained) .none kV_vE dc_vE pm_vE an_vE cd_vE ct_vE), sl_vE⟩) (c_vE : PySem.W.codeIn K cd_vE "explained" = true) (k_vE : PySem.W.keepIn K (.ref f_vE) = true)
    (a_vD : PySem.W.nsIn K mainGlobals "words_read" = some (some (.ref f_vD)))
    (l_vD : K.lookup f_vD = some ⟨oc_vD, od_vD, .func (PySem.W.fnOf "words_read" "words_read" (defArgs sWords) (defBody sWords) (defScope sWords) .none kV_vD dc_vD pm_vD an_vD cd_vD ct_vD), sl_vD⟩) (c_vD : PySem.W.codeIn K cd_vD "words_read" = true) (k_vD : PySem.W.keepIn K (.ref f_vD) = true)
    (a_vV : PySem.W.nsIn K mainGlobals "verdicts" = some (some (.ref f_vV)))
    (l_vV : K.lookup f_vV = some ⟨oc_vV, od_vV, .func (PySem.W.fnOf "verdicts" "verdicts" (defArgs sVerdicts) (defBody sVerdicts) (defScope sVerdicts) .none kV_vV dc_vV pm_vV an_vV cd_vV ct_vV), sl_vV⟩) (c_vV : PySem.W.codeIn K cd_vV "verdicts" = true) (k_vV : PySem.W.keepIn K (.ref f_vV) = true)
    (a_eM : PySem.W.nsIn K mainGlobals "message" = some (some (.ref f_eM)))
    (l_eM : K.lookup f_eM = some ⟨oc_eM, od_eM, .func (PySem.W.fnOf "message" "message" (defArgs sMsg) (defBody sMsg) (defScope sMsg) .none kV_eM dc_eM pm_eM an_eM cd_eM ct_eM), sl_eM⟩) (c_eM : PySem.W.codeIn K cd_eM "message" = true) (k_eM : PySem.W.keepIn K (.ref f_eM) = true)
    (a_lB : PySem.W.nsIn K mainGlobals "_law_begun" = some (some (.ref f_lB)))
    (l_lB : K.lookup f_lB = some ⟨oc_lB, od_lB, .func (PySem.W.fnOf "_law_begun" "_law_begun" (defArgs sBegun) (defBody sBegun) (defScope sBegun) .none kV_lB dc_lB pm_lB an_lB cd_lB ct_lB), sl_lB⟩) (c_lB : PySem.W.codeIn K cd_lB "_law_begun" = true) (k_lB : PySem.W.keepIn K (.ref f_lB) = true)
    (a_lN : PySem.W.nsIn K mainGlobals "_law_next" = some (some (.ref f_lN)))
    (l_lN : K.lookup f_lN = some ⟨oc_lN, od_lN, .func (PySem.W.fnOf "_law_next" "_law_next" (defArgs sNext) (defBody sNext) (defScope sNext) .none kV_lN dc_lN pm_lN an_lN cd_lN ct_lN), sl_lN⟩) (c_lN : PySem.W.codeIn K cd_lN "_law_next" = true) (k_lN : PySem.W.keepIn K (.ref f_lN) = true)
    (a_lU : PySem.W.nsIn K mainGlobals "_law_fault" = some (some (.ref f_lU)))
    (l_lU : K.lookup f_lU = some ⟨oc_lU, od_lU, .func (PySem.W.fnOf "_law_fault" "_law_fault" (defArgs sFault) (defBody sFault) (defScope sFault) .none kV_lU dc_lU pm_lU an_lU cd_lU ct_lU), sl_lU⟩) (c_lU : PySem.W.codeIn K cd_lU "_law_fault" = true) (k_lU : PySem.W.keepIn K (.ref f_lU) = true)
    (a_lO : PySem.W.nsIn K mainGlobals "_law_outcome" = some (some (.ref f_lO)))
    (l_lO : K.lookup f_lO = some ⟨oc_lO, od_lO, .func (PySem.W.fnOf "_law_outcome" "_law_outcome" (defArgs sOutcome) (defBody sOutcome) (defScope sOutcome) .none kV_lO dc_lO pm_lO an_lO cd_lO ct_lO), sl_lO⟩) (c_lO : PySem.W.codeIn K cd_lO "_law_outcome" = true) (k_lO : PySem.W.keepIn K (.ref f_lO) = true)
    (a_lH : PySem.W.nsIn K mainGlobals "_law_hands_right" = some (some (.ref f_lH)))
    (l_lH : K.lookup f_lH = some ⟨oc_lH, od_lH, .func (PySem.W.fnOf "_law_hands_right" "_law_hands_right" (defArgs sHands) (defBody sHands) (defScope sHands) .none kV_lH dc_lH pm_lH an_lH cd_lH ct_lH), sl_lH⟩) (c_lH : PySem.W.codeIn K cd_lH "_law_hands_right" = true) (k_lH : PySem.W.keepIn K (.ref f_lH) = true)
    (a_la : PySem.W.nsIn K mainGlobals "law" = some (some (.ref f_la)))
    (l_la : K.lookup f_la = some ⟨oc_la, od_la, .func (PySem.W.fnOf "law" "law" (defArgs sLaw) (defBody sLaw) (defScope sLaw) .none kV_la dc_la pm_la an_la (.ref ccl) ct_la), sl_la⟩) (c_la : PySem.W.codeIn K (.ref ccl) "law" = true) (k_la : PySem.W.keepIn K (.ref f_la) = true)
    {ts : List Addr} (mT : Tla ∈ ts) (tb : PySem.W.codeHdIn K ccl Tla = true) (nT : K.lookup Tla = none)
    (aD0 : PySem.W.nsIn K mainGlobals "BadFraming" = some (some (.ref D0)))
    (aD1 : PySem.W.nsIn K mainGlobals "BadReader" = some (some (.ref D1)))
    (aD2 : PySem.W.nsIn K mainGlobals "BadWeaving" = some (some (.ref D2)))
    (aD3 : PySem.W.nsIn K mainGlobals "BadText" = some (some (.ref D3)))
    (aD4 : PySem.W.nsIn K mainGlobals "OutOfPlace" = some (some (.ref D4)))
    (aD5 : PySem.W.nsIn K mainGlobals "TooGreat" = some (some (.ref D5)))
    (aD6 : PySem.W.nsIn K mainGlobals "Nothing" = some (some (.ref D6)))
    (aD7 : PySem.W.nsIn K mainGlobals "Held" = some (some (.ref D7)))
    (OY : OxC K D4 "ValueError" "ValueError.__new__" "ValueError.__init__" [.type "ValueError", .type "Exception", .type "BaseException", .type "object"])
    (iC_OY : PySem.W.findIn K (.ref D4) "__init__" = some (some (.ref f_inj))) (tI_OY : PySem.W.typeIn K (.ref f_inj) = some (.type "function"))
    (l_inj : K.lookup f_inj = some ⟨oc_inj, od_inj, .func (PySem.W.fnOf "__init__" "OutOfPlace.__init__" (defArgs sOutOfPlace) (defBody sOutOfPlace) (defScope sOutOfPlace) .none kV_inj dc_inj pm_inj an_inj cd_inj ct_inj), sl_inj⟩) (c_inj : PySem.W.codeIn K cd_inj "OutOfPlace.__init__" = true) (k_inj : PySem.W.keepIn K (.ref f_inj) = true)
    (suD0 : PySem.W.subIn K (.ref D0) (.type "BaseException") = some true) (hdD0 : PySem.W.hasDictIn K D0 = true) (tyD0 : PySem.W.typeIn K (.ref D0) = some (.type "type")) (sbD0 : PySem.W.subIn K (.ref D4) (.ref D0) = some false)
    (suD1 : PySem.W.subIn K (.ref D1) (.type "BaseException") = some true) (hdD1 : PySem.W.hasDictIn K D1 = true) (tyD1 : PySem.W.typeIn K (.ref D1) = some (.type "type")) (sbD1 : PySem.W.subIn K (.ref D4) (.ref D1) = some false)
    (suD2 : PySem.W.subIn K (.ref D2) (.type "BaseException") = some true) (hdD2 : PySem.W.hasDictIn K D2 = true) (tyD2 : PySem.W.typeIn K (.ref D2) = some (.type "type")) (sbD2 : PySem.W.subIn K (.ref D4) (.ref D2) = some false)
    (suD3 : PySem.W.subIn K (.ref D3) (.type "BaseException") = some true) (hdD3 : PySem.W.hasDictIn K D3 = true) (tyD3 : PySem.W.typeIn K (.ref D3) = some (.type "type")) (sbD3 : PySem.W.subIn K (.ref D4) (.ref D3) = some false)
    (suD4 : PySem.W.subIn K (.ref D4) (.type "BaseException") = some true) (hdD4 : PySem.W.hasDictIn K D4 = true) (tyD4 : PySem.W.typeIn K (.ref D4) = some (.type "type")) (sbD4 : PySem.W.subIn K (.ref D4) (.ref D4) = some true)
    (suD5 : PySem.W.subIn K (.ref D5) (.type "BaseException") = some true) (hdD5 : PySem.W.hasDictIn K D5 = true) (tyD5 : PySem.W.typeIn K (.ref D5) = some (.type "type")) (sbD5 : PySem.W.subIn K (.ref D4) (.ref D5) = some false)
    (suD6 : PySem.W.subIn K (.ref D6) (.type "BaseException") = some true) (hdD6 : PySem.W.hasDictIn K D6 = true) (tyD6 : PySem.W.typeIn K (.ref D6) = some (.type "type")) (sbD6 : PySem.W.subIn K (.ref D4) (.ref D6) = some false)
    (suD7 : PySem.W.subIn K (.ref D7) (.type "BaseException") = some true) (hdD7 : PySem.W.hasDictIn K D7 = true) (tyD7 : PySem.W.typeIn K (.ref D7) = some (.type "type")) (sbD7 : PySem.W.subIn K (.ref D4) (.ref D7) = some false)
    (g_cS : PySem.W.nsIn K mainGlobals "SIGNS" = some (some (.str "abcdefghijklmnopqrstuvwxyz0123456789@" t_cS)))
    (g_cM : PySem.W.nsIn K mainGlobals "MOST_SIGNS" = some (some (.int 8 t_cM)))
    (g_cT : PySem.W.nsIn K mainGlobals "MOST_STEPS" = some (some (.int 16 t_cT)))
    (g_cD : PySem.W.nsIn K mainGlobals "MANY_STANDINGS" = some (some (.int 6 t_cD)))
    (g_cK : PySem.W.nsIn K mainGlobals "MARKS" = some (some (.str "ABCDEFGH" t_cK)))
    (g_w1 : PySem.W.nsIn K mainGlobals "FILE_SIGNS" = some (some (.str "abcdefghijklmnopqrstuvwxyz0123456789;ABCDEFGH" t_w1)))
    (g_w2 : PySem.W.nsIn K mainGlobals "MOST_FILE_SIGNS" = some (some (.int 60 t_w2)))
    (g_w3 : PySem.W.nsIn K mainGlobals "MOST_WRITERS" = some (some (.int 3 t_w3)))
    (g_w4 : PySem.W.nsIn K mainGlobals "WHOLE" = some (some (.str "whole" t_w4)))
    (g_w5 : PySem.W.nsIn K mainGlobals "MIXED" = some (some (.str "mixed" t_w5)))
    (g_w6 : PySem.W.nsIn K mainGlobals "OPEN" = some (some (.str "open" t_w6)))
    (z_isinstance : PySem.W.nsIn K mainGlobals "isinstance" = some none)
    (z_int : PySem.W.nsIn K mainGlobals "int" = some none)
    (z_bool : PySem.W.nsIn K mainGlobals "bool" = some none)
    (z_str : PySem.W.nsIn K mainGlobals "str" = some none)
    (z_tuple : PySem.W.nsIn K mainGlobals "tuple" = some none)
    (z_len : PySem.W.nsIn K mainGlobals "len" = some none)
    (z_all : PySem.W.nsIn K mainGlobals "all" = some none)
    (z_sorted : PySem.W.nsIn K mainGlobals "sorted" = some none)
    (z_enumerate : PySem.W.nsIn K mainGlobals "enumerate" = some none)
    (z_list : PySem.W.nsIn K mainGlobals "list" = some none)
    (z_range : PySem.W.nsIn K mainGlobals "range" = some none)
    (z_min : PySem.W.nsIn K mainGlobals "min" = some none)
    (z_ValueError : PySem.W.nsIn K mainGlobals "ValueError" = some none)
    (v_V : PySem.W.findCls K (.type "ValueError") (.type "type") "__init__" = some (.val (.builtin "ValueError.__init__"))) :
    ∃ (fd : FuncData) (c T : Addr), PySem.W.codeHdIn K c T = true ∧ T ∈ ts ∧ K.lookup T = none ∧ (∀ (s : Shared) (u : Value), BindsTo s fd ⟨[u], []⟩ [("script", u)]) ∧
      ∀ base : Heap, K.In base → base.Ns mainGlobals mg → TabB base mg c T → FnOk P w K mg base CX0 9 fa fd ["script"] (spLawT K T) := by
  have e := hfa.symm.trans (PySem.W.mg_of X G a_la)
  cases e
  have F_iN := fun_mk (st := sNum) l_iN c_iN k_iN
  have b_iN := F_iN.binds (ps := ["thing", "many"]) fun _ _ _ _ _ _ us hl => match us, hl with | [_, _], _ => rfl
  have m_iN := PySem.W.mg_of X G a_iN
  have F_iP := fun_mk (st := sPc) l_iP c_iP k_iP
  have b_iP := F_iP.binds (ps := ["thing"]) fun _ _ _ _ _ _ us hl => match us, hl with | [_], _ => rfl
  have m_iP := PySem.W.mg_of X G a_iP
  have F_iS := fun_mk (st := sStep) l_iS c_iS k_iS
  have b_iS := F_iS.binds (ps := ["thing"]) fun _ _ _ _ _ _ us hl => match us, hl with | [_], _ => rfl
  have m_iS := PySem.W.mg_of X G a_iS
  have F_iL := fun_mk (st := sListed) l_iL c_iL k_iL
  have b_iL := F_iL.binds (ps := ["framing"]) fun _ _ _ _ _ _ us hl => match us, hl with | [_], _ => rfl
  have m_iL := PySem.W.mg_of X G a_iL
  have F_iW := fun_mk (st := sWays) l_iW c_iW k_iW
  have b_iW := F_iW.binds (ps := ["framing", "begin"]) fun _ _ _ _ _ _ us hl => match us, hl with | [_, _], _ => rfl
  have m_iW := PySem.W.mg_of X G a_iW
  have F_iJ := fun_mk (st := sJoined) l_iJ c_iJ k_iJ
  have b_iJ := F_iJ.binds (ps := ["framing"]) fun _ _ _ _ _ _ us hl => match us, hl with | [_], _ => rfl
  have m_iJ := PySem.W.mg_of X G a_iJ
  have F_iF := fun_mk (st := sNeedF) l_iF c_iF k_iF
  have b_iF := F_iF.binds (ps := ["thing"]) fun _ _ _ _ _ _ us hl => match us, hl with | [_], _ => rfl
  have m_iF := PySem.W.mg_of X G a_iF
  have F_vT := fun_mk (st := sNFT) l_vT c_vT k_vT
  have b_vT := F_vT.binds (ps := ["thing"]) fun _ _ _ _ _ _ us hl => match us, hl with | [_], _ => rfl
  have m_vT := PySem.W.mg_of X G a_vT
  have F_vW := fun_mk (st := sNFW) l_vW c_vW k_vW
  have b_vW := F_vW.binds (ps := ["thing"]) fun _ _ _ _ _ _ us hl => match us, hl with | [_], _ => rfl
  have m_vW := PySem.W.mg_of X G a_vW
  have F_vF := fun_mk (st := sFits) l_vF c_vF k_vF
  have b_vF := F_vF.binds (ps := ["framing", "text", "at", "writers"]) fun _ _ _ _ _ _ us hl => match us, hl with | [_, _, _, _], _ => rfl
  have m_vF := PySem.W.mg_of X G a_vF
  have F_vM := fun_mk (st := sMaker) l_vM c_vM k_vM
  have b_vM := F_vM.binds (ps := ["maker", "writer", "start"]) fun _ _ _ _ _ _ us hl => match us, hl with | [_, _, _], _ => rfl
  have m_vM := PySem.W.mg_of X G a_vM
  have F_vS := fun_mk (st := sState) l_vS c_vS k_vS
  have b_vS := F_vS.binds (ps := ["state", "writer", "step"]) fun _ _ _ _ _ _ us hl => match us, hl with | [_, _, _], _ => rfl
  have m_vS := PySem.W.mg_of X G a_vS
  have F_vR := fun_mk (st := sTraces) l_vR c_vR k_vR
  have b_vR := F_vR.binds (ps := ["framing", "text", "writers"]) fun _ _ _ _ _ _ us hl => match us, hl with | [_, _, _], _ => rfl
  have m_vR := PySem.W.mg_of X G a_vR
  have F_vC := fun_mk (st := sChecked) l_vC c_vC k_vC
  have b_vC := F_vC.binds (ps := ["framing", "text", "writers"]) fun _ _ _ _ _ _ us hl => match us, hl with | [_, _, _], _ => rfl
  have m_vC := PySem.W.mg_of X G a_vC
  have F_vP := fun_mk (st := sPossible) l_vP c_vP k_vP
  have b_vP := F_vP.binds (ps := ["framing", "text", "writers"]) fun _ _ _ _ _ _ us hl => match us, hl with | [_, _, _], _ => rfl
  have m_vP := PySem.W.mg_of X G a_vP
  have F_vE := fun_mk (st := sExplained) l_vE c_vE k_vE
  have b_vE := F_vE.binds (ps := ["framing", "text", "writers"]) fun _ _ _ _ _ _ us hl => match us, hl with | [_, _, _], _ => rfl
  have m_vE := PySem.W.mg_of X G a_vE
  have F_vD := fun_mk (st := sWords) l_vD c_vD k_vD
  have b_vD := F_vD.binds (ps := ["framing", "layers"]) fun _ _ _ _ _ _ us hl => match us, hl with | [_, _], _ => rfl
  have m_vD := PySem.W.mg_of X G a_vD
  have F_vV := fun_mk (st := sVerdicts) l_vV c_vV k_vV
  have b_vV := F_vV.binds (ps := ["framing", "text", "writers"]) fun _ _ _ _ _ _ us hl => match us, hl with | [_, _, _], _ => rfl
  have m_vV := PySem.W.mg_of X G a_vV
  have F_eM := fun_mk (st := sMsg) l_eM c_eM k_eM
  have b_eM := F_eM.binds (ps := ["text"]) fun _ _ _ _ _ _ us hl => match us, hl with | [_], _ => rfl
  have m_eM := PySem.W.mg_of X G a_eM
  have F_lB := fun_mk (st := sBegun) l_lB c_lB k_lB
  have b_lB := F_lB.binds (ps := ["script"]) fun _ _ _ _ _ _ us hl => match us, hl with | [_], _ => rfl
  have m_lB := PySem.W.mg_of X G a_lB
  have F_lN := fun_mk (st := sNext) l_lN c_lN k_lN
  have b_lN := F_lN.binds (ps := ["m", "total"]) fun _ _ _ _ _ _ us hl => match us, hl with | [_, _], _ => rfl
  have m_lN := PySem.W.mg_of X G a_lN
  have F_lU := fun_mk (st := sFault) l_lU c_lU k_lU
  have b_lU := F_lU.binds (ps := ["e"]) fun _ _ _ _ _ _ us hl => match us, hl with | [_], _ => rfl
  have m_lU := PySem.W.mg_of X G a_lU
  have F_lO := fun_mk (st := sOutcome) l_lO c_lO k_lO
  have b_lO := F_lO.binds (ps := ["deed"]) fun _ _ _ _ _ _ us hl => match us, hl with | [_], _ => rfl
  have m_lO := PySem.W.mg_of X G a_lO
  have F_lH := fun_mk (st := sHands) l_lH c_lH k_lH
  have b_lH := F_lH.binds (ps := []) fun _ _ _ _ _ _ us hl => match us, hl with | [], _ => rfl
  have m_lH := PySem.W.mg_of X G a_lH
  have F_inj := fun_mk (st := sOutOfPlace) l_inj c_inj k_inj
  have b_inj := F_inj.binds (ps := ["self", "text"]) fun _ _ _ _ _ _ us hl => match us, hl with | [_, _], _ => rfl
  have y_isinstance := PySem.W.mg_none_of X G z_isinstance
  have y_int := PySem.W.mg_none_of X G z_int
  have y_bool := PySem.W.mg_none_of X G z_bool
  have y_str := PySem.W.mg_none_of X G z_str
  have y_tuple := PySem.W.mg_none_of X G z_tuple
  have y_len := PySem.W.mg_none_of X G z_len
  have y_all := PySem.W.mg_none_of X G z_all
  have y_sorted := PySem.W.mg_none_of X G z_sorted
  have y_enumerate := PySem.W.mg_none_of X G z_enumerate
  have y_list := PySem.W.mg_none_of X G z_list
  have y_range := PySem.W.mg_none_of X G z_range
  have y_min := PySem.W.mg_none_of X G z_min
  have y_ValueError := PySem.W.mg_none_of X G z_ValueError
  have x_cS := PySem.W.mg_of X G g_cS
  have x_cM := PySem.W.mg_of X G g_cM
  have x_cT := PySem.W.mg_of X G g_cT
  have x_cD := PySem.W.mg_of X G g_cD
  have x_cK := PySem.W.mg_of X G g_cK
  have x_w1 := PySem.W.mg_of X G g_w1
  have x_w2 := PySem.W.mg_of X G g_w2
  have x_w3 := PySem.W.mg_of X G g_w3
  have x_w4 := PySem.W.mg_of X G g_w4
  have x_w5 := PySem.W.mg_of X G g_w5
  have x_w6 := PySem.W.mg_of X G g_w6
  have TF : TxtF mg := ⟨y_isinstance, y_int, y_bool, y_str, y_tuple, y_len, y_all, ⟨_, x_cS⟩, ⟨_, x_cM⟩, ⟨_, x_cD⟩⟩
  have TD : TxtD mg := ⟨y_list, y_int, y_len⟩
  have TM : TxtM mg := ⟨y_isinstance, y_str⟩
  have IV : BI K mg "ValueError" "ValueError" "ValueError.__init__" := ⟨y_ValueError, by decide +kernel, by kernel_rfl, v_V, by decide +kernel⟩
  let zF : Fs K mg := { fN := f_iN, dN := _, N := F_iN, bN := b_iN, mN := m_iN, fP := f_iP, dP := _, P := F_iP, bP := b_iP, mP := m_iP, fS := f_iS, dS := _, S := F_iS, bS := b_iS, mS := m_iS, fL := f_iL, dL := _, L := F_iL, bL := b_iL, mL := m_iL, fW := f_iW, dW := _, W := F_iW, bW := b_iW, mW := m_iW, fJ := f_iJ, dJ := _, J := F_iJ, bJ := b_iJ, mJ := m_iJ, fF := f_iF, dF := _, F := F_iF, bF := b_iF, mF := m_iF, T := TF, so := y_sorted, en := y_enumerate, ms := ⟨_, x_cT⟩ }
  let zO : Oop K mg := { C := D4, f := f_inj, d := _, fM := f_eM, dM := _, T := OY, I := IV, F := F_inj, b := b_inj, FM := F_eM, bM := b_eM, mM := m_eM, TM := TM, m := PySem.W.mg_of X G aD4, iC := iC_OY, tI := tI_OY, su := suD4, ty := tyD4, own := sbD4 }
  let zY : Wf K mg := { Z := zF, O := zO, fT := f_vT, fW := f_vW, dT := _, dW := _, T := F_vT, W := F_vW, bT := b_vT, bW := b_vW, mT := m_vT, mW := m_vW, c1 := ⟨_, x_w1⟩, c2 := ⟨_, x_w2⟩, c3 := ⟨_, x_w3⟩ }
  let zS : Sf K mg := { Y := zY, fM := f_vM, fS := f_vS, dM := _, dS := _, M := F_vM, S := F_vS, bM := b_vM, bS := b_vS, mM := m_vM, mS := m_vS, cM := ⟨_, x_w5⟩ }
  let zG : Ff K mg := { S := zS, f := f_vF, d := _, F := F_vF, b := b_vF, m := m_vF, ra := y_range, cK := ⟨_, x_cK⟩ }
  let zT : Tf K mg := { G := zG, f := f_vR, d := _, F := F_vR, b := b_vR, m := m_vR, li := y_list }
  let zC : Cf K mg := { T := zT, f := f_vC, d := _, F := F_vC, b := b_vC, m := m_vC }
  let zR : Rf K mg := { C := zC, f := f_vD, d := _, F := F_vD, b := b_vD, m := m_vD, cW := ⟨_, x_w4⟩ }
  let zH : Lh K mg := { R := zR, tu := y_tuple, so := y_sorted, cO := ⟨_, x_w6⟩, fV := f_vV, dV := _, V := F_vV, bV := b_vV, mV := m_vV, fP := f_vP, dP := _, P := F_vP, bP := b_vP, mP := m_vP, fE := f_vE, dE := _, E := F_vE, bE := b_vE, mE := m_vE }
  let zX : Fx K mg := { P := zO, D0 := D0, D1 := D1, D2 := D2, D3 := D3, D5 := D5, D6 := D6, D7 := D7, p0 := ⟨PySem.W.mg_of X G aD0, suD0, hdD0, tyD0, sbD0⟩, p1 := ⟨PySem.W.mg_of X G aD1, suD1, hdD1, tyD1, sbD1⟩, p2 := ⟨PySem.W.mg_of X G aD2, suD2, hdD2, tyD2, sbD2⟩, p3 := ⟨PySem.W.mg_of X G aD3, suD3, hdD3, tyD3, sbD3⟩, p4 := ⟨PySem.W.mg_of X G aD4, suD4, hdD4, tyD4, sbD4⟩, p5 := ⟨PySem.W.mg_of X G aD5, suD5, hdD5, tyD5, sbD5⟩, p6 := ⟨PySem.W.mg_of X G aD6, suD6, hdD6, tyD6, sbD6⟩, p7 := ⟨PySem.W.mg_of X G aD7, suD7, hdD7, tyD7, sbD7⟩, isi := y_isinstance, len := y_len }
  let zU : Ou K mg := { F := zX, f := f_lU, d := _, L := F_lU, b := b_lU, g := m_lU }
  let zA : Lall K mg := { H := zH, U := zU, eP := rfl, T := TD, ra := y_range, mi := y_min, fH := f_lH, dH := _, HR := F_lH, bH := b_lH, mH := m_lH, fB := f_lB, dB := _, Be := F_lB, bB := b_lB, mB := m_lB, fN := f_lN, dN := _, N := F_lN, bN := b_lN, mN := m_lN, fO := f_lO, dO := _, O := F_lO, bO := b_lO, mO := m_lO }
  exact ⟨PySem.W.fnOf "law" "law" (defArgs sLaw) (defBody sLaw) (defScope sLaw) .none kV_la dc_la pm_la an_la (.ref ccl) ct_la, ccl, Tla, tb, mT, nT, fun s u => .of_eq rfl, fun base _ _ TB => ok_law zA TB l_la c_la⟩
theorem walk {l : PySem.W.OpenLaw} {q : Program} {loose : List Str} {XP : (Str → Option Value) → Heap → Prop} {YP : World → Heap → Prop} {d : DefRec} {K : Params → PySem.W.Frag} {ts : List Addr} (hn : l.most = some 63) (hdf : d.params.defaults = [])
    (hY : ∀ (w : World) (h : Heap), YP w h → (K w.params).In h ∧ ∀ P ∈ ts, h.get? P = some (PySem.W.tabObj #[]))
    (F : ∀ (w : World) (mg : Str → Option Value) (fa : Addr) (h : Heap), (K w.params).In h → h.Ns mainGlobals mg → mg d.name = some (.ref fa) →
      ∃ (fd : FuncData) (c T : Addr), PySem.W.codeHdIn (K w.params) c T = true ∧ T ∈ ts ∧ (K w.params).lookup T = none ∧ (∀ (s : Shared) (u : Value), BindsTo s fd ⟨[u], []⟩ [("script", u)]) ∧
        ∀ base : Heap, (K w.params).In base → base.Ns mainGlobals mg → TabB base mg c T → FnOk l.prog w (K w.params) mg base CX0 9 fa fd ["script"] (spLawT (K w.params) T)) :
    PySem.W.WalkO q loose XP YP l.row.toRowW d [] (fun f vs => PySem.call f vs) :=
  LamX.walk_ofTs (n := 63) (k := 9) (x := "script") (CX := fun _ => CX0) hn (by decide) hdf ⟨rfl, by decide, by decide⟩ (fun w h Y => (hY w h Y).1) (fun w mg fa h Y KX G hm => by
    obtain ⟨fd, c, T, hC, mT, nT, hb, hF⟩ := F w mg fa h KX G hm
    have one : ∀ p : Addr × Addr, p ∈ [(c, T)] → p = (c, T) := fun p hp => by simpa using hp
    refine ⟨fd, [(c, T)], spLawT (K w.params) T, fun p hp => ?_, fun p hp => ?_, fun p hp => ?_, hb, fun H a ns hl _ hT hS => ⟨a, ns, rfl, hS, hl, hT _ (List.mem_cons_self ..), fun _ => rfl⟩, fun base k1 k2 TB => hF base k1 k2 (TB _ (List.mem_cons_self ..))⟩
    · rw [one p hp]
      exact (hY w h Y).2 T mT
    · rw [one p hp]
      exact nT
    · rw [one p hp]
      exact PySem.W.codeHd_of_K KX hC) fun _ _ _ _ _ z => z
end K37

set_option Elab.async false
set_option maxRecDepth 100000
open PySem PySem.W PyProof.Rows
set_option maxRecDepth 100000 in
set_option maxHeartbeats 0 in
theorem PySem.Challenge.cw_tornlines_k37_verdicts_by_hand_holds : PySem.Challenge.rw_tornlines_k37_verdicts_by_hand.Holds := by
  w_on; o_law; k_head; (case hw => w_witness2)
  k_fill
  refine K37.walk (l := PySem.Challenge.rw_tornlines_k37_verdicts_by_hand) rfl rfl (fun w h Y => ⟨PySem.W.km_in_of Y, PySem.W.km_tabs_of Y⟩) ?F
  case F =>
    intro w mg fa h KX G hmg
    refine' K37.all_mk KX G hmg ?a_iN ?l_iN ?c_iN ?k_iN ?a_iP ?l_iP ?c_iP ?k_iP ?a_iS ?l_iS ?c_iS ?k_iS ?a_iL ?l_iL ?c_iL ?k_iL ?a_iW ?l_iW ?c_iW ?k_iW ?a_iJ ?l_iJ ?c_iJ ?k_iJ ?a_iF ?l_iF ?c_iF ?k_iF ?a_vT ?l_vT ?c_vT ?k_vT ?a_vW ?l_vW ?c_vW ?k_vW ?a_vF ?l_vF ?c_vF ?k_vF ?a_vM ?l_vM ?c_vM ?k_vM ?a_vS ?l_vS ?c_vS ?k_vS ?a_vR ?l_vR ?c_vR ?k_vR ?a_vC ?l_vC ?c_vC ?k_vC ?a_vP ?l_vP ?c_vP ?k_vP ?a_vE ?l_vE ?c_vE ?k_vE ?a_vD ?l_vD ?c_vD ?k_vD ?a_vV ?l_vV ?c_vV ?k_vV ?a_eM ?l_eM ?c_eM ?k_eM ?a_lB ?l_lB ?c_lB ?k_lB ?a_lN ?l_lN ?c_lN ?k_lN ?a_lU ?l_lU ?c_lU ?k_lU ?a_lO ?l_lO ?c_lO ?k_lO ?a_lH ?l_lH ?c_lH ?k_lH ?a_la ?l_la ?c_la ?k_la ?mT ?tb ?nT ?aD0 ?aD1 ?aD2 ?aD3 ?aD4 ?aD5 ?aD6 ?aD7 ?OY ?iC_OY ?tI_OY ?l_inj ?c_inj ?k_inj ?suD0 ?hdD0 ?tyD0 ?sbD0 ?suD1 ?hdD1 ?tyD1 ?sbD1 ?suD2 ?hdD2 ?tyD2 ?sbD2 ?suD3 ?hdD3 ?tyD3 ?sbD3 ?suD4 ?hdD4 ?tyD4 ?sbD4 ?suD5 ?hdD5 ?tyD5 ?sbD5 ?suD6 ?hdD6 ?tyD6 ?sbD6 ?suD7 ?hdD7 ?tyD7 ?sbD7 ?g_cS ?g_cM ?g_cT ?g_cD ?g_cK ?g_w1 ?g_w2 ?g_w3 ?g_w4 ?g_w5 ?g_w6 ?z_isinstance ?z_int ?z_bool ?z_str ?z_tuple ?z_len ?z_all ?z_sorted ?z_enumerate ?z_list ?z_range ?z_min ?z_ValueError ?v_V
    (case a_iN => k_is)
    (case l_iN => k_is)
    (case c_iN => k_is)
    (case k_iN => k_is)
    (case a_iP => k_is)
    (case l_iP => k_is)
    (case c_iP => k_is)
    (case k_iP => k_is)
    (case a_iS => k_is)
    (case l_iS => k_is)
    (case c_iS => k_is)
    (case k_iS => k_is)
    (case a_iL => k_is)
    (case l_iL => k_is)
    (case c_iL => k_is)
    (case k_iL => k_is)
    (case a_iW => k_is)
    (case l_iW => k_is)
    (case c_iW => k_is)
    (case k_iW => k_is)
    (case a_iJ => k_is)
    (case l_iJ => k_is)
    (case c_iJ => k_is)
    (case k_iJ => k_is)
    (case a_iF => k_is)
    (case l_iF => k_is)
    (case c_iF => k_is)
    (case k_iF => k_is)
    (case a_vT => k_is)
    (case l_vT => k_is)
    (case c_vT => k_is)
    (case k_vT => k_is)
    (case a_vW => k_is)
    (case l_vW => k_is)
    (case c_vW => k_is)
    (case k_vW => k_is)
    (case a_vF => k_is)
    (case l_vF => k_is)
    (case c_vF => k_is)
    (case k_vF => k_is)
    (case a_vM => k_is)
    (case l_vM => k_is)
    (case c_vM => k_is)
    (case k_vM => k_is)
    (case a_vS => k_is)
    (case l_vS => k_is)
    (case c_vS => k_is)
    (case k_vS => k_is)
    (case a_vR => k_is)
    (case l_vR => k_is)
    (case c_vR => k_is)
    (case k_vR => k_is)
    (case a_vC => k_is)
    (case l_vC => k_is)
    (case c_vC => k_is)
    (case k_vC => k_is)
    (case a_vP => k_is)
    (case l_vP => k_is)
    (case c_vP => k_is)
    (case k_vP => k_is)
    (case a_vE => k_is)
    (case l_vE => k_is)
    (case c_vE => k_is)
    (case k_vE => k_is)
    (case a_vD => k_is)
    (case l_vD => k_is)
    (case c_vD => k_is)
    (case k_vD => k_is)
    (case a_vV => k_is)
    (case l_vV => k_is)
    (case c_vV => k_is)
    (case k_vV => k_is)
    (case a_eM => k_is)
    (case l_eM => k_is)
    (case c_eM => k_is)
    (case k_eM => k_is)
    (case a_lB => k_is)
    (case l_lB => k_is)
    (case c_lB => k_is)
    (case k_lB => k_is)
    (case a_lN => k_is)
    (case l_lN => k_is)
    (case c_lN => k_is)
    (case k_lN => k_is)
    (case a_lU => k_is)
    (case l_lU => k_is)
    (case c_lU => k_is)
    (case k_lU => k_is)
    (case a_lO => k_is)
    (case l_lO => k_is)
    (case c_lO => k_is)
    (case k_lO => k_is)
    (case a_lH => k_is)
    (case l_lH => k_is)
    (case c_lH => k_is)
    (case k_lH => k_is)
    (case a_la => k_is)
    (case l_la => k_is)
    (case c_la => k_is)
    (case k_la => k_is)
    (case mT => exact List.mem_cons_self)
    (case tb => first | kernel_rfl | k_is)
    (case nT => first | kernel_rfl | k_is)
    (case aD0 => k_is)
    (case aD1 => k_is)
    (case aD2 => k_is)
    (case aD3 => k_is)
    (case aD4 => k_is)
    (case aD5 => k_is)
    (case aD6 => k_is)
    (case aD7 => k_is)
    case OY =>
      refine' K37.oxc ?cl PySem.F.excBase_ValueError (fun self => PySem.F.store_ValueError.passes self) (by decide +kernel) ?sa ?ga ?gg ?exC ?kC ?hd ?ca ?cn ?ct ?om
      (case cl => k_is)
      (case sa => k_is)
      (case ga => k_is)
      (case gg => k_is)
      (case exC => k_is)
      (case kC => k_is)
      (case hd => k_is)
      (case ca => k_is)
      (case cn => k_is)
      (case ct => k_is)
      (case om => k_is)
    (case iC_OY => k_is)
    (case tI_OY => k_is)
    (case l_inj => k_is)
    (case c_inj => k_is)
    (case k_inj => k_is)
    (case suD0 => k_is)
    (case hdD0 => k_is)
    (case tyD0 => k_is)
    (case sbD0 => k_is)
    (case suD1 => k_is)
    (case hdD1 => k_is)
    (case tyD1 => k_is)
    (case sbD1 => k_is)
    (case suD2 => k_is)
    (case hdD2 => k_is)
    (case tyD2 => k_is)
    (case sbD2 => k_is)
    (case suD3 => k_is)
    (case hdD3 => k_is)
    (case tyD3 => k_is)
    (case sbD3 => k_is)
    (case suD4 => k_is)
    (case hdD4 => k_is)
    (case tyD4 => k_is)
    (case sbD4 => k_is)
    (case suD5 => k_is)
    (case hdD5 => k_is)
    (case tyD5 => k_is)
    (case sbD5 => k_is)
    (case suD6 => k_is)
    (case hdD6 => k_is)
    (case tyD6 => k_is)
    (case sbD6 => k_is)
    (case suD7 => k_is)
    (case hdD7 => k_is)
    (case tyD7 => k_is)
    (case sbD7 => k_is)
    (case g_cS => k_is)
    (case g_cM => k_is)
    (case g_cT => k_is)
    (case g_cD => k_is)
    (case g_cK => k_is)
    (case g_w1 => k_is)
    (case g_w2 => k_is)
    (case g_w3 => k_is)
    (case g_w4 => k_is)
    (case g_w5 => k_is)
    (case g_w6 => k_is)
    (case z_isinstance => k_is)
    (case z_int => k_is)
    (case z_bool => k_is)
    (case z_str => k_is)
    (case z_tuple => k_is)
    (case z_len => k_is)
    (case z_all => k_is)
    (case z_sorted => k_is)
    (case z_enumerate => k_is)
    (case z_list => k_is)
    (case z_range => k_is)
    (case z_min => k_is)
    (case z_ValueError => k_is)
    (case v_V => k_is)
#print axioms PySem.Challenge.cw_tornlines_k37_verdicts_by_hand_holds
