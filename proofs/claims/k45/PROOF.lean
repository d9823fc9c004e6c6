import PyProof.Rows.All
import Wide.All
import OpenK.AllK
import Wide.FinOn
import KE.KExcInit
import KE.KExcIs
import HandS.ForMost
import HandS.Exc
import HandS.ExcInit
import HandS.Defaults
import HandS.IsInst
import HandS.Conv
import HandS.Small
import HandS.SortRule
import HandS.TupLe
import HandS.NamedTupSort
import PyProof.Rows.SortKeyStr
import PyProof.FString5
import HandS.StrMore
import HandS.Walk
import PyProof.Rows.StrLen
import PyProof.StrLawsAffix
import HandS.Set
import HandS.Strs
import HandS.SetBool
import KE.GoesMore
import HandS.TupAny
import HandS.TryMany
import HandS.ExcValue
import HandS.ExcOwn
import HandS.ExcField
import HandS.WordsExc
import HandS.Deep
import PyProof.ReprRoads
import HandS.FStr
import HandS.Text
import PyProof.StrLawsTight
import PyProof.StrLawsChain
import PyProof.Rows.StrSplitJoin
import PyProof.StrOps2
import HandS.ExcIs
import HandS.Lambda
import KE.KDflt
import HandS.EndOwn
import HandS.TupMul
import PySem.Challenge.RW_tornlines_k45_whole_any_text
set_option Elab.async false
set_option linter.all false
set_option maxRecDepth 100000
set_option maxHeartbeats 4000000
/-! Own exception classes over any built-in base: made with positional or keyword arguments, kept as values, their fields read, asked by isinstance. -/
namespace EV
open PySem PySem.W PySem.Calls PyProof.Rows PySem.HandSPX
open Builtin Builtin.ObjectAttr
section
variable {prog : Program} {w : World} {A : Around} {E : Value → Shared → Prop} {R : Result → Shared → Prop}
variable {hp : Heap} {g : Array GenState} {d : Drawn} {t : Nat} {os : OsState}
/-- an exception's first field, whatever its base -/
theorem put_first {K : W.Frag} {nm : Str} {tk : Tok} {v : Value} {x C : Addr} {fv : Array Value} {cd : ClassData}
    (X : K.In hp) (hx : hp.get? x = some { cls := .ref C, data := .fields fv }) (hcd : W.clsIn K C = some cd)
    (pas : refuseLoop (.ref x) "__setattr__" cd.mro = pure ()) (hob : cd.mro.contains (.type "object") = true) (hne : cd.mro.isEmpty = false)
    (hh : cd.hasDict = true) (ha : W.findIn K (.ref C) nm = some none)
    (hq : ∀ h' tk' dx, (∀ b o, b ≠ x → hp.get? b = some o → h'.get? b = some o) → hp.objs.size ≤ dx → dx ≠ x →
      h'.get? x = some { cls := .ref C, dict := some dx, data := .fields fv } → h'.Ns1 dx (fun y => if y = nm then some v else none) →
      R (.ok (.ret .none)) ⟨h', g, d, tk', os⟩) :
    codeAny (model prog w) A (.call (.builtin "object.__setattr__") ⟨[.ref x, .str nm tk, v], []⟩) R ⟨hp, g, d, t, os⟩ := by
  have J : W.InstAt hp x { cls := .ref C, data := .fields fv } C none := ⟨hx, rfl, rfl, trivial⟩
  have hxs : x ≠ hp.objs.size := Nat.ne_of_lt (Heap.lt_size hx)
  have isO : W.Looks (model prog w) hp (isInstance (.ref x) (.type "object")) true :=
    J.type.andThen (W.looks_mroIn X (by unfold W.mroIn; rw [hcd, Option.bind_some, if_neg (by rw [hne]; decide), hob]))
  refine codeAny_call_builtin F.store_object.slot.plain F.store_object.entry
    (@W.check_slot (model prog w) _ _ ⟨hp, g, d, t, os⟩ "object.__setattr__" "object" "__setattr__" (.ref x) [.str nm tk, v] [] _
      F.store_object.kind F.store_object.split isO (F.store_object.args (.ref x) (.str nm tk) v) ?_)
  have order : W.Looks (model prog w) hp (mroOf (.ref C)) cd.mro := (W.looks_clsIn X hcd).andThen .now
  have taker : W.Looks (model prog w) hp (storeTaker? none) none := .now
  have data : W.Looks (model prog w) hp (classData C) cd := W.looks_clsIn X hcd
  rw [W.osa_eq, refuse_eq]
  refine wpAny_bind (wpAny_bind (J.type.at (wpAny_bind (order.at ?_))))
  rw [pas]
  refine wpAny_pure (wpAny_bind (J.type.at (wpAny_bind ((W.looks_findIn X ha).at (wpAny_bind (taker.at ?_))))))
  show wpAny _ _ (storeInOwnDict (.ref x) (.ref C) (.str nm tk) nm v false) _ _ _
  obtain ⟨q1, q2, q3, q4, q5, q6, q7, q8, q9, q10, q11⟩ := cd
  dsimp only at hh
  subst hh
  unfold storeInOwnDict ownDictForStores
  repeat (first
    | with_reducible refine store_in_new ?_ ?_
    | with_reducible refine wpAny_loadPart_at hx ?_
    | with_reducible refine data.at ?_
    | wp_step)
  · exact ⟨_, #[], _, (Heap.get?_update_ne _ _ _ _ hxs.symm).trans (Heap.get?_push_at rfl rfl), rfl, fun e he => absurd he (by simp), fun _ => rfl⟩
  · intro h' tk' nsd same
    have hx1 : (hp.push { cls := .type "dict", data := .dict #[] }).get? x = some { cls := .ref C, data := .fields fv } := Heap.get?_push_of_some _ hx
    refine hq h' tk' hp.objs.size (fun b o nb q => ?_) (Nat.le_refl _) hxs.symm ?_ nsd
    · exact (same.2 b (Nat.ne_of_lt (Heap.lt_size q))).trans
        ((Heap.get?_update_ne _ _ _ _ nb).trans (Heap.get?_push_of_some _ q))
    · exact (same.2 x hxs).trans (Heap.get?_update_self _ hx1 rfl)
/-- a further field -/
theorem put_more {K : W.Frag} {nm : Str} {tk : Tok} {v : Value} {x C dx : Addr} {fv : Array Value} {cd : ClassData} {m0 : Str → Option Value} {nl : List Str}
    (X : K.In hp) (hx : hp.get? x = some { cls := .ref C, dict := some dx, data := .fields fv }) (nsd : hp.Ns1 dx m0) (wi : Within m0 nl) (hz : nl.length ≤ 1000)
    (hcd : W.clsIn K C = some cd) (pas : refuseLoop (.ref x) "__setattr__" cd.mro = pure ()) (hob : cd.mro.contains (.type "object") = true)
    (hne : cd.mro.isEmpty = false) (hh : cd.hasDict = true) (ha : W.findIn K (.ref C) nm = some none)
    (hq : ∀ h' tk', (∀ b o, b ≠ dx → hp.get? b = some o → h'.get? b = some o) → h'.Ns1 dx (fun y => if y = nm then some v else m0 y) →
      R (.ok (.ret .none)) ⟨h', g, d, tk', os⟩) :
    codeAny (model prog w) A (.call (.builtin "object.__setattr__") ⟨[.ref x, .str nm tk, v], []⟩) R ⟨hp, g, d, t, os⟩ := by
  obtain ⟨oD, _, _, hoD, _, _⟩ := nsd.count wi
  have J : W.InstAt hp x { cls := .ref C, dict := some dx, data := .fields fv } C (some oD) := ⟨hx, rfl, rfl, hoD⟩
  have isO : W.Looks (model prog w) hp (isInstance (.ref x) (.type "object")) true :=
    J.type.andThen (W.looks_mroIn X (by unfold W.mroIn; rw [hcd, Option.bind_some, if_neg (by rw [hne]; decide), hob]))
  refine codeAny_call_builtin F.store_object.slot.plain F.store_object.entry
    (@W.check_slot (model prog w) _ _ ⟨hp, g, d, t, os⟩ "object.__setattr__" "object" "__setattr__" (.ref x) [.str nm tk, v] [] _
      F.store_object.kind F.store_object.split isO (F.store_object.args (.ref x) (.str nm tk) v) ?_)
  have order : W.Looks (model prog w) hp (mroOf (.ref C)) cd.mro := (W.looks_clsIn X hcd).andThen .now
  have taker : W.Looks (model prog w) hp (storeTaker? none) none := .now
  have data : W.Looks (model prog w) hp (classData C) cd := W.looks_clsIn X hcd
  rw [W.osa_eq, refuse_eq]
  refine wpAny_bind (wpAny_bind (J.type.at (wpAny_bind (order.at ?_))))
  rw [pas]
  refine wpAny_pure (wpAny_bind (J.type.at (wpAny_bind ((W.looks_findIn X ha).at (wpAny_bind (taker.at ?_))))))
  show wpAny _ _ (storeInOwnDict (.ref x) (.ref C) (.str nm tk) nm v false) _ _ _
  obtain ⟨q1, q2, q3, q4, q5, q6, q7, q8, q9, q10, q11⟩ := cd
  dsimp only at hh
  subst hh
  unfold storeInOwnDict ownDictForStores
  repeat (first
    | with_reducible refine OEX.store_in_old nsd wi hz ?_
    | with_reducible refine wpAny_loadPart_at hx ?_
    | with_reducible refine data.at ?_
    | wp_step)
  intro h' tk' ns' same
  exact hq h' tk' (fun b o nb q => (same.2 b nb).trans q) ns'
end
/-! ### an own exception class called with keywords -/
section
variable {M : Model} {A : Around} {E : Value → Shared → Prop} {h : Heap} {g : Array GenState} {d : Drawn} {t : Nat} {os : OsState}
variable {nm q : Str} {C N : Addr} {bs bm : List Value} {hd : Bool} {sn : List Str} {sub : List Value} {ab : Bool} {col : Option Bool} {dd : Option Addr}
variable {k0 k1 k2 k3 k5 : Option Value} {B newId initId : String}
theorem check_newK (F : ExcBaseFacts B newId initId bm) {rest : List Value} {kw : List (Str × Value)} {Q : Unit → Shared → Prop}
    (hC : h.get? C = some (excClassObj nm q C N bs bm hd sn sub ab col dd k0 k1 k2 k3 k5 newId)) (hq : Q () ⟨h, g, d, t, os⟩) :
    wpAny M A (checkBuiltinCall newId ⟨.ref C :: rest, kw⟩) Q E ⟨h, g, d, t, os⟩ := by
  have hasIt : (Value.ref C :: bm).contains (.type B) = true := by rw [List.contains_cons, F.hasB, Bool.or_true]
  have star := F.noStar
  simp only [checkBuiltinCall, F.newKind, F.newSplit, F.newRow]
  repeat (first
    | refine wpAny_loadPart_at hC ?_
    | (refine wpAny_isSubtype_exc hC ?_; rw [hasIt])
    | refine wpAny_staticBase_exc hC ?_
    | refine wpAny_madeBy_exc hC ?_
    | simp only [bne_self_eq_false, Bool.false_eq_true, if_false]
    | wp_step)
  exact hq
end
section
variable {prog : Program} {w : World} {A : Around} {E : Value → Shared → Prop} {R : Result → Shared → Prop}
variable {h : Heap} {g : Array GenState} {d : Drawn} {t : Nat} {os : OsState}
variable {nm q : Str} {C N : Addr} {bs bm : List Value} {hd : Bool} {sn : List Str} {sub : List Value} {ab : Bool} {col : Option Bool} {dd : Option Addr}
variable {k0 k1 k2 k3 k5 : Option Value} {B newId initId : String}
theorem newK (F : ExcBaseFacts B newId initId bm) {rest : List Value} {kw : List (Str × Value)}
    (hC : h.get? C = some (excClassObj nm q C N bs bm hd sn sub ab col dd k0 k1 k2 k3 k5 newId))
    (hq : R (.ok (.ret (.ref (h.objs.size + 1)))) ⟨(h.push (W.kdv_tup rest)).push (excO C h.objs.size), g, d, t, os⟩) (hrest : rest.length ≤ sizeLine) :
    codeAny (model prog w) A (.builtin newId ⟨.ref C :: rest, kw⟩) R ⟨h, g, d, t, os⟩ := by
  have ends := F.ends
  have b1 : (Value.ref C :: bm).contains (.type B) = true := by rw [List.contains_cons, F.hasB, Bool.or_true]
  have b2 : (Value.ref C :: bm).contains (.type "AttributeError") = false := by rw [List.contains_cons, F.noAttr]; rfl
  have b3 : (Value.ref C :: bm).contains (.type "NameError") = false := by rw [List.contains_cons, F.noName]; rfl
  refine codeAny_builtinAt F.entry ?_
  unfold Builtin.«BaseException.__new__»
  refine PySem.wpAt_bind ?_
  show PySem.wpAt _ _ _ (stack >>= _) _ _ _
  refine PySem.wpAt_bind (PySem.wpAt_stack fun p below => PySem.wpAt_of_wpAny ?_)
  wp_walk
  refine PySem.wpAt_of_wpAny ?_
  rw [F.owner]
  repeat (first
    | with_reducible refine wpAny_madeHere_exc F.canon hC ?_
    | with_reducible refine wpAny_loadPart_at hC ?_
    | (with_reducible refine wpAny_isSubtype_exc hC ?_; first | rw [b1] | rw [b2] | rw [b3])
    | wp_step)
  show R _ _
  rw [Heap.size_push]
  exact hq
theorem typeCallK (F : ExcBaseFacts B newId initId bm) {rest : List Value} {kw : List (Str × Value)} {fI : Addr} {Q : Fin → Shared → Prop}
    (hC : h.get? C = some (excClassObj nm q C N bs bm hd sn sub ab col dd k0 k1 k2 k3 k5 newId))
    (hi : W.Looks (model prog w) h (typeLookup (.ref C) "__init__") (some (.ref fI)))
    (hb : ∀ self, W.Looks (model prog w) h (bindSpecial (.ref fI) self) (.ref fI, [self])) (hrest : rest.length ≤ sizeLine)
    (hq : codeAny (model prog w) A (.call (.ref fI) ⟨.ref (h.objs.size + 1) :: rest, kw⟩)
      (fun r s' => match r with | .ok (.ret v) => v = .none ∧ Q (.done (.ret (.ref (h.objs.size + 1)))) s' | .ok _ => False | .error e => E e s')
      ⟨(h.push (W.kdv_tup rest)).push (excO C h.objs.size), g, d, t, os⟩) :
    wpAny (model prog w) A (Builtin.«type.__call__» ⟨.ref C :: rest, kw⟩) Q E ⟨h, g, d, t, os⟩ := by
  repeat (first
    | with_reducible refine wpAny_loadPart_at hC ?_
    | with_reducible refine wpAny_madeBy_exc hC ?_
    | wp_step)
  refine codeAny_call_builtin_code (Code.quiet_builtin _ F.quiet) (check_newK F hC ?_)
  refine newK F hC ?_ hrest
  show wpAny _ _ _ _ _ _
  have kp : ∀ b o, h.get? b = some o → ((h.push (W.kdv_tup rest)).push (excO C h.objs.size)).get? b = some o :=
    fun b o e => Heap.get?_push_of_some _ (Heap.get?_push_of_some _ e)
  have hC1 := kp _ _ hC
  have new : ((h.push (W.kdv_tup rest)).push (excO C h.objs.size)).get? (h.objs.size + 1) = some (excO C h.objs.size) := by heap_get
  have self : (Value.ref C :: bm).contains (.ref C) = true := by simp
  have i1 := hi.keeps kp
  have b1 := (hb (.ref (h.objs.size + 1))).keeps kp
  unfold isInstance
  repeat (first
    | with_reducible refine wpAny_loadPart_at new ?_
    | (with_reducible refine wpAny_isSubtype_exc hC1 ?_; rw [self])
    | wp_step)
  show wpAny _ _ (typeLookup (.ref C) _) _ _ _
  refine i1.at ?_
  refine wpAny_holding (wpAny_bind (b1.at ?_))
  refine wpAny_bind (wpAny_call (codeAny_mono hq fun r s' z => ?_))
  rcases r with e | (v | _ | _ | _) <;> first | exact z | exact z.elim | skip
  obtain ⟨rfl, z⟩ := z
  first
    | exact wpAny_pure (wpAny_pure z)
    | (wp_walk; exact z)
theorem callK (F : ExcBaseFacts B newId initId bm) {rest : List Value} {kw : List (Str × Value)} {fI : Addr}
    (hC : h.get? C = some (excClassObj nm q C N bs bm hd sn sub ab col dd k0 k1 k2 k3 k5 newId))
    (hi : W.Looks (model prog w) h (typeLookup (.ref C) "__init__") (some (.ref fI)))
    (hb : ∀ self, W.Looks (model prog w) h (bindSpecial (.ref fI) self) (.ref fI, [self])) (hrest : rest.length ≤ sizeLine)
    (hq : codeAny (model prog w) (A.under (.builtin "type.__call__" ⟨.ref C :: rest, kw⟩)) (.call (.ref fI) ⟨.ref (h.objs.size + 1) :: rest, kw⟩)
      (W.InitBack (h.objs.size + 1) R) ⟨(h.push (W.kdv_tup rest)).push (excO C h.objs.size), g, d, t, os⟩) :
    codeAny (model prog w) A (.call (.ref C) ⟨rest, kw⟩) R ⟨h, g, d, t, os⟩ := by
  have f1 := tc_lookup
  have f2 := tc_bind (.ref C)
  have ty : (⟨h, g, d, t, os⟩ : Shared).TypeIs (.ref C) "type" := ⟨_, hC, rfl⟩
  refine codeAny_of_tree ?_
  show wpAny _ _ (callAny (.ref C) _) _ _ _
  repeat (any_goals (first
    | assumption
    | with_reducible refine wpAny_loadPart_at hC ?_
    | wp_step))
  refine ⟨rfl, ?_⟩
  refine codeAny_call_builtin_at (Code.quiet_builtin _ (by decide +kernel)) entry_typeCall ?_
  refine wpAny_check_type_call_sub hC ?_
  refine typeCallK F hC hi hb hrest (codeAny_mono hq fun r s' z => ?_)
  rcases r with e | (v | _ | _ | _) <;> exact z
end
end EV

set_option Elab.async false
set_option linter.all false
set_option maxRecDepth 100000
set_option maxHeartbeats 4000000
namespace L2
namespace EV
open PySem PySem.Spec PyProof.Rows _root_.EV
/-- what the written part says of an own exception class at C, straight under the built-in base B -/
structure OxC (K : PySem.W.Frag) (C : Addr) (B newId initId : String) (bm : List Value) : Prop where
  F : ExcBaseFacts B newId initId bm
  cls : ∃ nm q N bs sn sub ab col dd k0 k1 k2 k3 k5, K.lookup C = some (excClassObj nm q C N bs bm true sn sub ab col dd k0 k1 k2 k3 k5 newId)
  pas : ∀ self, refuseLoop self "__setattr__" bm = pure ()
  obj : bm.contains (.type "object") = true
  sa : PySem.W.findIn K (.ref C) "__setattr__" = some (some (.builtin "object.__setattr__"))
  ga : PySem.W.findIn K (.ref C) "__getattribute__" = some (some (.builtin "BaseException.__getattribute__"))
  gg : PySem.W.findIn K (.ref C) "__getattr__" = some none
  exC : PySem.W.subIn K (.ref C) (.type "BaseException") = some true
  kC : PySem.W.keepIn K (.ref C) = true
  hd : PySem.W.hasDictIn K C = true
  ca : PySem.W.findIn K (.ref C) "__class__" = some (some (.builtin "object.__class__"))
  cn : PySem.W.specialIn K (.builtin "object.__class__") "__get__" = some (some (.builtin "getset_descriptor.__get__"))
  ct : PySem.W.takesIn K (.builtin "object.__class__") = some true
  om : PySem.W.mroIn K C (.type "object") = some true
section
variable {X : Cx} {pins : List (Addr × Obj)} {σ : St} {H : Hp} {s : Shared} {a C dx : Addr} {f : Str} {y : V} {u : Value} {fs : List (Str × V)}
variable {Q : Unit → Shared → Prop} {E : Value → Shared → Prop} {A : Around} {B newId initId : String} {bm : List Value}
theorem OxC.data {K : PySem.W.Frag} (T : OxC K C B newId initId bm) : ∃ cd, PySem.W.clsIn K C = some cd ∧ cd.mro = .ref C :: bm ∧ cd.hasDict = true := by
  obtain ⟨nm, q, N, bs, sn, sub, ab, col, dd, k0, k1, k2, k3, k5, hC⟩ := T.cls
  refine ⟨{ name := nm, bases := bs, mro := .ref C :: bm, ns := N, qualname := q, hasDict := true, slotNames := sn, subclasses := sub, abstract := ab, collection := col, hasDel := false }, ?_, rfl, rfl⟩
  unfold PySem.W.clsIn
  rw [hC] <;> rfl
theorem OxC.look {K : PySem.W.Frag} (T : OxC K C B newId initId bm) {cd : ClassData} (e : cd.mro = .ref C :: bm) (self : Value) :
    refuseLoop self "__setattr__" cd.mro = pure () ∧ cd.mro.contains (.type "object") = true ∧ cd.mro.isEmpty = false := by
  rw [e, refuseLoop_ref]
  refine ⟨T.pas self, ?_, rfl⟩
  rw [List.contains_cons, T.obj, Bool.or_true]
/-- self.f = y, the first field -/
theorem ox_first (T : OxC X.K C B newId initId bm) (I : Inv X pins σ H s) (e : H a = some (exo a C none)) (no : PySem.W.findIn X.K (.ref C) f = some none) (ry : RelV y u)
    (h : ∀ dx s', H dx = none → dx ≠ a → Inv X pins σ (upd (upd H dx (exd dx [(f, y)])) a (exo a C (some dx))) s' → Q () s') :
    wpAny (model X.prog X.w) A (setAttr (.ref a) f u) Q E s := by
  obtain ⟨cd, hcl, hmr, hdi⟩ := T.data
  obtain ⟨l1, l2, l3⟩ := T.look hmr (.ref a)
  obtain ⟨t1, ho⟩ := exo_at I.hok e
  obtain ⟨hp, g, d, t, os⟩ := s
  refine PySem.W.set_plain I.kIn (ox := { cls := .ref C, dict := none, data := .fields #[.ref t1, .none, .none, .none, .bool false, .none] })
    (od := none) ⟨ho, rfl, rfl, trivial⟩ T.sa ?_
  refine put_first I.kIn ho hcl l1 l2 l3 hdi no fun h' tk' dx k big ne hx hn => ?_
  have free : H dx = none := I.hok.fresh big
  have old : ∀ {b : Addr} {o : Obj}, hp.get? b = some o → b ≠ dx := fun {b o} q => Nat.ne_of_lt (Nat.lt_of_lt_of_le (Heap.lt_size q) big)
  have nota : ∀ {b : Addr}, H b = none → b ≠ a := fun {b} n z => by
    subst z
    rw [e] at n
    cases n
  have un : Un X.fs [] H (upd (upd H dx (exd dx [(f, y)])) a (exo a C (some dx))) hp h' := by
    refine ⟨fun b o q n _ _ => k b o (nota n) q, fun b o q n _ _ => ⟨o.slots, k b o (nota n) q⟩, fun b o q n _ => ?_, fun b o q _ => ?_, fun b xs q => ?_, fun b o v q => ?_, fun b ps q => ⟨#[], ?_⟩⟩
    · rw [upd_ne (nota n), upd_ne (old q)]
      exact n
    · by_cases hb : b = a
      · subst hb
        exact ⟨_, hx⟩
      · exact ⟨o, k b o hb q⟩
    · rw [upd_ne (at_ne e q exo_tup), upd_ne (ne_of_none q free)]
      exact q
    · rw [upd_ne (at_ne e q exo_frz), upd_ne (ne_of_none q free)]
      exact q
    · rw [upd_ne (at_ne e q exo_tbl), upd_ne (ne_of_none q free), q]
      simp
  refine h dx _ free ne (I.un (t' := tk') un fun b o q => ?_)
  by_cases hb : b = a
  · subst hb
    rw [upd_same] at q
    cases q
    exact exo_ok hx
  · rw [upd_ne hb] at q
    by_cases hd : b = dx
    · subst hd
      rw [upd_same] at q
      cases q
      exact exd_ok hn (relO_put (fs := []) ry fun g => True.intro)
    · rw [upd_ne hd] at q
      refine (I.hok b o q).stay (fun c v hc z => k c v ?_ z) (fun c hc => ?_) fun c xs hc => ?_
      · rcases hc with hc | hc
        · subst hc
          exact hb
        · exact at_ne e hc exo_own
      · rw [upd_ne (at_ne e hc exo_own), upd_ne (ne_of_none hc free)]
        exact hc
      · rw [upd_ne (at_ne e hc exo_tup), upd_ne (ne_of_none hc free)]
        exact hc
/-- self.f = y, a further field -/
theorem ox_more (T : OxC X.K C B newId initId bm) (I : Inv X pins σ H s) (e : H a = some (exo a C (some dx))) (ed : H dx = some (exd dx fs)) (hl : fs.length ≤ 900)
    (no : PySem.W.findIn X.K (.ref C) f = some none) (ry : RelV y u) (h : ∀ s', Inv X pins σ (upd H dx (exd dx ((f, y) :: fs))) s' → Q () s') :
    wpAny (model X.prog X.w) A (setAttr (.ref a) f u) Q E s := by
  obtain ⟨cd, hcl, hmr, hdi⟩ := T.data
  obtain ⟨l1, l2, l3⟩ := T.look hmr (.ref a)
  obtain ⟨t1, ho⟩ := exo_at I.hok e
  obtain ⟨mA, hns, rel⟩ := exd_at I.hok ed
  have hw := within_of rel
  obtain ⟨hp, g, d, t, os⟩ := s
  obtain ⟨oD, _, _, hoD, _, _⟩ := hns.count hw
  refine PySem.W.set_plain I.kIn (ox := { cls := .ref C, dict := some dx, data := .fields #[.ref t1, .none, .none, .none, .bool false, .none] })
    (od := some oD) ⟨ho, rfl, rfl, hoD⟩ T.sa ?_
  refine put_more I.kIn ho hns hw (by rw [List.length_map]; omega) hcl l1 l2 l3 hdi no fun h' tk' k hn => ?_
  have there : ∃ o, h'.get? dx = some o := by
    obtain ⟨o, _, _, e', _⟩ := hn
    exact ⟨o, e'⟩
  refine h _ (I.write (t' := tk') (x := dx) (e := dx) (o := exd dx ((f, y) :: fs)) ?_ (.inl rfl) k there (exd_ok hn (relO_put ry rel)))
  rw [ed]
  exact True.intro
/-- B.__init__(self, ..) of an exception without fields: nothing of it is told -/
theorem ox_init {us : List Value} {Q : Value → Shared → Prop} (T : OxC X.K C B newId initId bm) (I : Inv X pins σ H s) (e : H a = some (exo a C none)) (hl : us.length ≤ sizeLine)
    (h : ∀ s', Inv X pins σ H s' → Q .none s') : wpAny (model X.prog X.w) A (call (.builtin initId) (.ref a :: us)) Q E s := by
  obtain ⟨nm, q, N, bs, sn, sub, ab, col, dd, k0, k1, k2, k3, k5, hC⟩ := T.cls
  obtain ⟨t1, ho⟩ := exo_at I.hok e
  obtain ⟨hp, g, d, t, os⟩ := s
  refine wpAny_call (PySem.HandSPX.init_base T.F (fun _ => rfl) (I.kIn _ _ hC) ho hl fun h' t2 k hx => ?_)
  have J := I.write (t' := t) (x := a) (e := a) (o := exo a C none) (by rw [e]; exact True.intro) (.inl rfl) k ⟨_, hx⟩ (exo_ok hx)
  have eu : upd H a (exo a C none) = H := by
    funext b
    by_cases hb : b = a
    · subst hb
      rw [upd_same, e]
    · rw [upd_ne hb]
  rw [eu] at J
  exact h _ J
end
/-! ### the readings -/
def tBin (K : PySem.W.Frag) (B newId initId : String) (bm : List Value) (ta : TA) : TE := fun σ H Q => ta σ H fun vs H1 =>
  ∃ (a C : Addr) (ws : List V), vs = .ref a :: ws ∧ ws.length ≤ 1000 ∧ OxC K C B newId initId bm ∧ H1 a = some (exo a C none) ∧ Q .non H1
def tPut (K : PySem.W.Frag) (B newId initId : String) (bm : List Value) (f : Str) (to te : TE) : TS := fun D σ H => te σ H fun y H1 => to σ H1 fun x H2 =>
  ∃ a C : Addr, x = .ref a ∧ OxC K C B newId initId bm ∧ PySem.W.findIn K (.ref C) f = some none ∧
    ((H2 a = some (exo a C none) ∧ ∀ dx, H2 dx = none → dx ≠ a → D.nx σ (upd (upd H2 dx (exd dx [(f, y)])) a (exo a C (some dx)))) ∨
      ∃ (dx : Addr) (fs : List (Str × V)), H2 a = some (exo a C (some dx)) ∧ H2 dx = some (exd dx fs) ∧ fs.length ≤ 900 ∧ D.nx σ (upd H2 dx (exd dx ((f, y) :: fs))))
/-- C(..) as a value: gV puts the exception itself, the values by position and those by name in the parameters' order -/
def tNew (C : Addr) (n m : Nat) (sp : Sp) (gV : List V → List V → List V) (t tk : TA) : TE := fun σ H Q => t σ H fun vs H1 => tk σ H1 fun zs H2 =>
  vs.length = n ∧ zs.length = m ∧ vs.length ≤ 1000 ∧ ∀ a, H2 a = none → sp (gV (.ref a :: vs) zs) (upd H2 a (exo a C none)) (fun v H3 => v = .non ∧ Q (.ref a) H3) (fun _ _ _ => False)
/-- e.f, e such an exception -/
def tFld (K : PySem.W.Frag) (f : Str) (te : TE) : TE := fun σ H Q => te σ H fun x H1 =>
  ∃ (a C dx : Addr) (B newId initId : String) (bm : List Value) (fs : List (Str × V)) (v : V), x = .ref a ∧ OxC K C B newId initId bm ∧ PySem.W.findIn K (.ref C) f = some none ∧
    H1 a = some (exo a C (some dx)) ∧ H1 dx = some (exd dx fs) ∧ fs.lookup f = some v ∧ Q v H1
/-- isinstance(e, c) -/
def rIsX (K : PySem.W.Frag) : List V → Hp → VK → Prop := fun xs H Q => ∃ (a C : Addr) (od : Option Addr) (fs : List (Str × V)) (B newId initId : String) (bm : List Value) (c : V) (u : Value) (b : Bool),
  xs = [.ref a, c] ∧ ClsV c u ∧ OxC K C B newId initId bm ∧ H a = some (exo a C od) ∧ (∀ dx, od = some dx → H dx = some (exd dx fs)) ∧ PySem.W.kitOne K (.ref C) u = some b ∧ Q (.bl b) H
section
variable {X : Cx} {o e : Expr} {es : List Expr} {to te : TE} {ta : TA} {f : Str} {p p' p1 p2 pos : Pos} {B newId initId : String} {bm : List Value}
theorem pe_bin {nB : Str} {pl : Sem Bool} (hg : Gl X nB) (hm : X.mg nB = none) (hv : bootBuiltins nB = some (.type B)) (ty : typeOf (.type B) = pure (.type "type"))
    (vV : PySem.W.findCls X.K (.type B) (.type "type") "__init__" = some (.val (.builtin initId))) (q4 : Manifest.isStub B = false) (ha : PA X (e :: es) ta) (q3 : PySem.W.handedIn (.builtin initId) = true)
    (hn1 : nB ≠ "__name__" := by decide) (hn2 : (nB == ("__debug__" : Str)) = false := by decide)
    (hc : eval (.Call (.Attribute (.Name nB p1) "__init__" p2) (e :: es) [] pos) X.env = (do
      let ov ← eval (.Name nB p1) X.env
      standAt p2.atName
      let (f, first) ← holding [ov] (getMethod ov "__init__" pl)
      callWith pos f first (backTo pos (starEach (e :: es) X.env)) (backToKw pos (keywordEach [] X.env))) := by rfl)
    (he : starEach (e :: es) X.env = (false, eval e X.env) :: starEach es X.env := by rfl) (hpl : (backTo pos (starEach es X.env)).any (·.1) = false := by rfl) :
    PE X (.Call (.Attribute (.Name nB p1) "__init__" p2) (e :: es) [] pos) (tBin X.K B newId initId bm ta) := by
  refine ⟨fun pins s σ H Q I h => ?_⟩
  refine PySem.W.methodCall_KW (ld_blt I hg hm hv ?_ hn1 hn2) hc
  obtain ⟨m, fr⟩ := I.fr
  refine PySem.W.method_type fr I.ok.mod.kin ty q4 vV q3 ?_
  show wpAny _ _ (callWith pos (Value.builtin initId) [] (backTo pos (starEach (e :: es) X.env)) []) _ _ _
  refine PyProof.Rows.callWith_method1 (thn (ha.run pos pins _ σ H _ (I.tok _) h) fun us s1 ⟨vs, H1, I1, r1, a, C, ws, ev, hl, T, ea, q⟩ => ?_) he hpl
  subst ev
  cases r1 with
  | @cons _ u0 _ ur ra rr =>
    obtain rfl : u0 = Value.ref a := ra
    have len : ur.length ≤ sizeLine := by
      have e1 := Paired.length rr
      rw [← e1, sizeLine_eq]
      omega
    exact ox_init T I1 ea len fun s' J => ⟨.non, H1, J, rfl, q⟩
/-- self.f = e -/
theorem ps_put (ho : PE X o to) (he : PE X e te) (hs : swapsWith e (some (.Attribute o f p')) pos.line X.env = pure false := by rfl) :
    PS X (.Assign [.Attribute o f p'] e pos) (tPut X.K B newId initId bm f to te) := by
  refine ⟨fun pins s σ H D I h => ?_⟩
  refine plainObj_wpAny_Assign_Attribute (thn (he.run pins s σ H _ I h) fun v s1 ⟨y, H1, I1, r1, q1⟩ => ?_) hs
  refine thn (ho.run pins s1 σ H1 _ I1 q1) fun u s2 ⟨x, H2, I2, r2, a, C, ex, T, no, q⟩ => ?_
  subst ex
  obtain rfl : u = Value.ref a := r2
  rcases q with ⟨ea, q⟩ | ⟨dx, fs, ea, ed, hl, q⟩
  · exact ox_first T I2 ea no r1 fun dx s' n ne J => ⟨σ, _, J, q dx n ne⟩
  · exact ox_more T I2 ea ed hl no r1 fun s' J => ⟨σ, _, J, q⟩
/-- e.f -/
theorem pe_xfld (he : PE X e te) (hb : attributeBase e f X.env (eval e X.env) = eval e X.env := by rfl) : PE X (.Attribute e f pos) (tFld X.K f te) := by
  refine ⟨fun pins s σ H Q I h => ?_⟩
  refine attr_of hb (thn (he.run pins s σ H _ I h) fun u s1 ⟨x, H1, I1, rx, a, C, dx, B, newId, initId, bm, fs, v, ex, T, no, ea, ed, l, q⟩ => ?_)
  subst ex
  obtain rfl : u = Value.ref a := rx
  obtain ⟨t1, ho⟩ := exo_at I1.hok ea
  obtain ⟨mA, hns, hr⟩ := exd_at I1.hok ed
  obtain ⟨od, hod, hl⟩ := lookIn_ns hns
  obtain ⟨u, hu, ru⟩ := RelO.some_of (v := v) (o := mA f) (by rw [← l]; exact hr f)
  have J : PySem.W.InstAt s1.heap a { cls := .ref C, dict := some dx, data := .fields #[.ref t1, .none, .none, .none, .bool false, .none] } C (some od) := ⟨ho, rfl, rfl, hod⟩
  exact HandSPX.exc_get I1.kIn J T.ga T.gg T.exC (PySem.W.findObj_own T.hd no rfl (by rw [hl, hu])) (handed_of ru) ⟨v, H1, I1.tok _, ru, q⟩
theorem call_isX : CallR X (.builtin "isinstance") (rIsX X.K) := by
  intro pins s σ H xs us Q I r h
  obtain ⟨a, C, od, fs, B, newId, initId, bm, c, u, b, rfl, k, T, ea, ed, e, q⟩ := h
  obtain ⟨u1, u2, rfl, r1, r2⟩ := vals2 r
  have e2 := k.eq r2
  subst e2
  obtain rfl : u1 = Value.ref a := r1
  obtain ⟨t1, ho⟩ := exo_at I.hok ea
  obtain ⟨cd, hcl, _⟩ := T.data
  have some_ : (PySem.W.clsIn X.K C).isSome = true := by rw [hcl]; rfl
  have fin : ∀ tk, EP X pins σ Q (.bool b) { s with toks := tk } := fun tk => ⟨.bl b, H, I.tok tk, rfl, q⟩
  cases od with
  | none =>
    have J : PySem.W.InstAt s.heap a { cls := .ref C, dict := none, data := .fields #[.ref t1, .none, .none, .none, .bool false, .none] } C none := ⟨ho, rfl, rfl, trivial⟩
    exact PySem.W.kia_one (PySem.W.kitx_exc some_ T.ga T.gg T.exC T.ca T.cn T.ct T.om) I.kIn J e (fun z => nomatch z) fin
  | some dx =>
    obtain ⟨mA, hns, hr⟩ := exd_at I.hok (ed dx rfl)
    obtain ⟨o', hod, hl⟩ := lookIn_ns hns
    have J : PySem.W.InstAt s.heap a { cls := .ref C, dict := some dx, data := .fields #[.ref t1, .none, .none, .none, .bool false, .none] } C (some o') := ⟨ho, rfl, rfl, hod⟩
    exact PySem.W.kia_one (PySem.W.kitx_exc some_ T.ga T.gg T.exC T.ca T.cn T.ct T.om) I.kIn J e (fun z => nomatch z) fin
end
/-! ### making one, kept as a value -/
section
variable {X : Cx} {CX : CXT} {k n : Nat} {fI C : Addr} {fd : FuncData} {ps ks : List Str} {sp : Sp} {x : Str} {p pos : Pos} {e : Expr} {es : List Expr} {kws : List Keyword}
variable {t tk : TA} {g : List Value → List Value → List Value} {gV : List V → List V → List V} {B newId initId : String} {bm : List Value}
theorem run_new {pins : List (Addr × Obj)} {σ : St} {H : Hp} {s : Shared} {Q : VK} {us ws : List Value} {vs zs : List V} (T : OxC X.K C B newId initId bm)
    (iC : PySem.W.findIn X.K (.ref C) "__init__" = some (some (.ref fI))) (tI : PySem.W.typeIn X.K (.ref fI) = some (.type "function"))
    (F : FnOk X.prog X.w X.K X.mg X.base CX k fI fd ps sp) (hr : Room (k + 1) X.A) (hb : KBn X.K fd ps (n + 1) ks g gV) (hx : Passes CX X (fun _ _ _ => False))
    (I : Inv X pins σ H s) (r : Vals vs us) (rz : Vals zs ws) (l1 : vs.length = n) (l2 : zs.length = ks.length) (l3 : vs.length ≤ 1000)
    (h : ∀ a, H a = none → sp (gV (.ref a :: vs) zs) (upd H a (exo a C none)) (fun v H3 => v = .non ∧ Q (.ref a) H3) (fun _ _ _ => False)) :
    wpAny (model X.prog X.w) X.A (call (.ref C) us (ks.zip ws)) (EP X pins σ Q) X.xe s := by
  obtain ⟨nm, q, N, bs, sn, sub, ab, col, dd, k0, k1, k2, k3, k5, hC⟩ := T.cls
  obtain ⟨hp, g1, dr, tk, os⟩ := s
  have big : hp.objs.size ≤ hp.objs.size + 1 := Nat.le_succ _
  have free : H (hp.objs.size + 1) = none := I.hok.fresh big
  have hq := h (hp.objs.size + 1) free
  have kp : ∀ b o, hp.get? b = some o → ((hp.push (PySem.W.kdv_tup us)).push (PySem.HandSPX.excO C hp.objs.size)).get? b = some o := fun b o e =>
    Heap.get?_push_of_some _ (Heap.get?_push_of_some _ e)
  have new : ((hp.push (PySem.W.kdv_tup us)).push (PySem.HandSPX.excO C hp.objs.size)).get? (hp.objs.size + 1) = some (PySem.HandSPX.excO C hp.objs.size) := by heap_get
  have I2 : Inv X pins σ (upd H (hp.objs.size + 1) (exo (hp.objs.size + 1) C none))
      ⟨(hp.push (PySem.W.kdv_tup us)).push (PySem.HandSPX.excO C hp.objs.size), g1, dr, tk, os⟩ :=
    I.laid (t' := tk) (a := hp.objs.size + 1) (o := exo (hp.objs.size + 1) C none) (h' := (hp.push (PySem.W.kdv_tup us)).push (PySem.HandSPX.excO C hp.objs.size)) kp big (exo_ok new)
  have ra : Vals (V.ref (hp.objs.size + 1) :: vs) (Value.ref (hp.objs.size + 1) :: us) := .cons rfl r
  have lu : us.length ≤ sizeLine := by
    have e1 := Paired.length r
    rw [← e1, sizeLine_eq]
    omega
  have n1 : (Value.ref (hp.objs.size + 1) :: us).length = n + 1 := by
    rw [List.length_cons, ← r.length, l1]
  refine wpAny_call (EV.callK T.F (I.kIn _ _ hC) (PySem.W.looks_findIn I.kIn iC) (fun self => PySem.W.bind_fn I.kIn self tI) lu
    (codeAny_mono (F.run _ X.stack _ _ ⟨Value.ref (hp.objs.size + 1) :: us, ks.zip ws⟩ (g (Value.ref (hp.objs.size + 1) :: us) ws) _ _ (fun _ _ _ => False)
      (hr.make C us (ks.zip ws)) (I2.env0.make C us (ks.zip ws)) (hb.to _ _ ws I2.kIn n1 (rz.length.symm.trans l2)) (hb.rel ra rz) hq) fun r s' hq' => ?_))
  cases r with
  | error er => exact hx pins σ _ _ er s' I2 hq'
  | ok fl =>
    cases fl with
    | ret u =>
      obtain ⟨v, H3, I3, rv, ev, q3⟩ := I2.after hq'
      subst ev
      exact ⟨rv, ⟨V.ref (hp.objs.size + 1), H3, I3, rfl, q3⟩⟩
    | next => exact False.elim hq'
    | brk => exact False.elim hq'
    | cont => exact False.elim hq'
/-- C(e, ..) -/
theorem pe_new (T : OxC X.K C B newId initId bm) (iC : PySem.W.findIn X.K (.ref C) "__init__" = some (some (.ref fI))) (tI : PySem.W.typeIn X.K (.ref fI) = some (.type "function"))
    (F : FnOk X.prog X.w X.K X.mg X.base CX k fI fd ps sp) (hr : Room (k + 1) X.A) (hb : KBn X.K fd ps (n + 1) [] g gV) (hx : Passes CX X (fun _ _ _ => False))
    (hg : Gl X x) (hm : X.mg x = some (.ref C)) (ha : PA X (e :: es) t) (hdb : (x == ("__debug__" : Str)) = false := by decide)
    (he : starEach (e :: es) X.env = (false, eval e X.env) :: starEach es X.env := by rfl) (hpl : (backTo pos (starEach es X.env)).any (·.1) = false := by rfl) :
    PE X (.Call (.Name x p) (e :: es) [] pos) (tNew C n 0 sp gV t tNil) := by
  refine ⟨fun pins s σ H Q I h => ?_⟩
  refine wpAny_Call_Name_kw (ld_glob I hg hm ?_ hdb)
  refine PySem.W.callWith_K (h₀ := X.base) I.ok.mod.kin T.kC (thn (ha.run pos pins s σ H _ I h) fun us s1 ⟨vs, H1, I1, r1, q1⟩ => ⟨I1.kIn, ?_⟩) he hpl
  obtain ⟨l1, _, l3, q2⟩ := q1
  exact run_new (ws := []) (zs := []) T iC tI F hr hb hx I1 r1 .nil l1 rfl l3 q2
/-- C(k = v, ..) -/
theorem pe_newK (T : OxC X.K C B newId initId bm) (iC : PySem.W.findIn X.K (.ref C) "__init__" = some (some (.ref fI))) (tI : PySem.W.typeIn X.K (.ref fI) = some (.type "function"))
    (F : FnOk X.prog X.w X.K X.mg X.base CX k fI fd ps sp) (hr : Room (k + 1) X.A) (hb : KBn X.K fd ps 1 ks g gV) (hx : Passes CX X (fun _ _ _ => False))
    (hg : Gl X x) (hm : X.mg x = some (.ref C)) (hkw : PK X kws tk) (hall : (backToKw pos (keywordEach kws X.env)).all (·.1.isSome) = true := by rfl)
    (hks : (backToKw pos (keywordEach kws X.env)).filterMap (·.1) = ks := by rfl) (hdb : (x == ("__debug__" : Str)) = false := by decide)
    (hpl : ((backTo pos (starEach [] X.env)).any (·.1) || (backToKw pos (keywordEach kws X.env)).any (·.1.isNone)) = false := by rfl) :
    PE X (.Call (.Name x p) [] kws pos) (tNew C 0 ks.length sp gV tNil tk) := by
  refine ⟨fun pins s σ H Q I h => ?_⟩
  refine wpAny_Call_Name_kw (ld_glob I hg hm ?_ hdb)
  refine PySem.W.callWith_KW0 (h₀ := X.base) I.ok.mod.kin T.kC hall ?_ hpl
  refine thn (hkw.run pos pins s σ H _ I h) fun ws s2 ⟨zs, H2, I2, rz, l1, l2, l3, q2⟩ => ⟨I2.kIn, ?_⟩
  rw [hks]
  exact run_new (us := []) (vs := []) T iC tI F hr hb hx I2 .nil rz rfl l2 (by decide) q2
end
end EV
end L2

set_option Elab.async false
set_option linter.all false
set_option maxRecDepth 100000
set_option maxHeartbeats 4000000
/-! Defs that show values by repr: a promise that is kept where no repr runs yet. -/
namespace L2
namespace EV
open PySem PySem.Spec PyProof.Rows _root_.EV
/-- FnOk, where no repr runs yet -/
structure FnG (P : Program) (w : World) (K : PySem.W.Frag) (mg : Str → Option Value) (base : Heap) (CX : CXT) (k : Nat) (f : Addr) (fd : FuncData) (ps : List Str) (sp : Sp) : Prop where
  len : ∀ vs H Q E, sp vs H Q E → vs.length = ps.length
  run : ∀ (A : Around) (outer : List Env) (s : Shared) (H : Hp) (args : Args) (us : List Value) (vs : List V) (Q : VK) (E : XK), Room k A → A.guards = some [] →
    Env0 P w K mg base A outer s H → BindsTo s fd args (ps.zip us) → Vals vs us → sp vs H Q E → codeAny (model P w) A (.call (.ref f) args) (CR CX outer P w H s Q E) s
section
variable {P : Program} {w : World} {K : PySem.W.Frag} {mg : Str → Option Value} {base : Heap}
theorem okG {x qual : Str} {st : Stmt} {f : Addr} {fd : FuncData} {N ps : List Str} {k : Nat} {sp : Sp} (F : Fun K x qual st f fd) (S : FnScope N ps (defScope st))
    (len : ∀ vs H Q E, sp vs H Q E → vs.length = ps.length)
    (hbody : ∀ (cdv : Value) (A : Around) (outer : List Env) (s : Shared) (H : Hp) (vs : List V) (Q : VK) (E : XK), Room k (A.deeper (envOfC qual (defScope st) s.heap.objs.size f cdv)) →
      A.guards = some [] → sp vs H Q E →
      ∃ t, PSs (cxOf CX0 P w K mg base N qual (defScope st) f cdv A outer s H E).nox (defBody st) t ∧ t { nx := fun _ H' => Q .non H', rt := Q } (start N vs) H) :
    FnG P w K mg base CX0 (k + 1) f fd ps sp := by
  obtain ⟨oc, od, kV, doc, pm, an, cdv, ct, osl, rfl, lk, hcd⟩ := F.ex
  refine ⟨len, fun A outer s H args us vs Q E hr hgd e0 hb r hsp => ?_⟩
  have hl := len _ _ _ _ hsp
  have keptB : ∀ b o, base.get? b = some o → s.heap.get? b = some o := fun b o e => (e0.bs b o e).1
  have KX : K.In s.heap := e0.mod.kin.keeps keptB
  have lim : s.heap.NoLimit := e0.mod.nolimit.keeps keptB
  have kinds : ∀ y ∈ ps.zip us, (defScope st).names.lookup y.1 = some .local ∨
      ((defScope st).names.lookup y.1 = some .cell ∧ ((cellsFrom (s.heap.objs.size + 1) (defScope st).names []).lookup y.1).isSome = true) := fun ⟨n, v⟩ hy =>
    (S.par n (List.of_mem_zip hy).1).elim .inl fun q => .inr ⟨q, PySem.W.cellsFrom_some _ _ _ (.inl q)⟩
  refine codeAny_call_function hr.depth (KX _ _ lk) rfl S.co S.gen rfl (PySem.W.codeRec_of KX hcd) (hb _ _ _ _ ?_)
  refine wpAny_newFunctionEnv_cells S.kind kinds fun env he s1 x => ?_
  subst he
  refine ⟨lim.keeps x.toInCall.keep, codeAny_func ?_⟩
  obtain ⟨t, ht0, hq⟩ := hbody cdv A outer s H vs Q E (hr.deeper _) hgd hsp
  have ht := ht0.nox
  have I : Inv (cxOf CX0 P w K mg base N qual (defScope st) f cdv A outer s H E) [] (start N vs) H s1 := inv_start S hr.hd e0 hl r x
  refine wpAny_mono (ht.run [] s1 (start N vs) H _ I hq) (fun fl s' hs => ?_) fun e s' hs => hs
  cases fl with
  | ret u =>
    obtain ⟨v, σ', H', J, rv, q⟩ := hs
    exact ⟨v, H', J.os, J.bare, J.base, J.hok, rv, q⟩
  | next =>
    obtain ⟨σ', H', J, q⟩ := hs
    exact ⟨V.non, H', J.os, J.bare, J.base, J.hok, rfl, q⟩
  | brk =>
    obtain ⟨_, _, _, q⟩ := hs
    exact False.elim q
  | cont =>
    obtain ⟨_, _, _, q⟩ := hs
    exact False.elim q
end
section
variable {X : Cx} {CX : CXT} {k : Nat} {f : Addr} {fd : FuncData} {ps : List Str} {sp : Sp} {x : Str} {p pos : Pos} {e : Expr} {es : List Expr} {t : TA} {E : XK}
/-- f(e, ..) of such a def -/
theorem pe_callG (F : FnG X.prog X.w X.K X.mg X.base CX k f fd ps sp) (hr : Room k X.A) (hgd : X.A.guards = some []) (hg : Gl X x) (hm : X.mg x = some (.ref f))
    (hk : PySem.W.keepIn X.K (.ref f) = true) (hb : Binds X.K fd ps []) (hx : Passes CX X E) (ha : PA X (e :: es) t) (hdb : (x == ("__debug__" : Str)) = false := by decide)
    (he : starEach (e :: es) X.env = (false, eval e X.env) :: starEach es X.env := by rfl) (hpl : (backTo pos (starEach es X.env)).any (·.1) = false := by rfl) :
    PE X (.Call (.Name x p) (e :: es) [] pos) (fun σ H Q => t σ H fun vs H1 => sp vs H1 Q E) := by
  refine ⟨fun pins s σ H Q I h => ?_⟩
  refine wpAny_Call_Name_kw (ld_glob I hg hm ?_ hdb)
  refine PySem.W.callWith_K (h₀ := X.base) I.ok.mod.kin hk (thn (ha.run pos pins s σ H _ I h) fun us s1 ⟨vs, H1, I1, r, q⟩ => ⟨I1.kIn, ?_⟩) he hpl
  have hl : us.length = ps.length := by
    rw [← r.length]
    exact F.len _ _ _ _ q
  have bn := hb s1 us I1.kIn (by rw [List.append_nil]; exact hl)
  rw [List.append_nil] at bn
  refine wpAny_call (codeAny_mono (F.run X.A X.stack s1 H1 ⟨us, []⟩ us vs Q E hr hgd I1.env0 bn r q) fun r2 s2 hq => ?_)
  cases r2 with
  | error er => exact hx pins σ H1 s1 er s2 I1 hq
  | ok fl =>
    cases fl with
    | ret u => exact I1.after hq
    | next => exact False.elim hq
    | brk => exact False.elim hq
    | cont => exact False.elim hq
end
/-- the law's own call, of a promise that is kept where no repr runs -/
theorem law_callG {P : Program} {w : World} {K : PySem.W.Frag} {mg mb : Str → Option Value} {k : Nat} {fa a : Addr} {fd : FuncData} {x : Str} {sp : Sp} {s1 : Shared} {vs : List Value} {ns : List Int}
    (KX : K.In s1.heap) (hns : s1.heap.Ns mainGlobals mg) (hb : s1.heap.Ns builtinsNs mb) (hbb : ∀ x : Str, x ≠ "__name__" → mb x = bootBuiltins x) (hlim : s1.heap.NoLimit) (hg : s1.gens = #[])
    (ha : s1.heap.get? a = some { cls := .type "list", data := .seq vs.toArray }) (hi : IntsAre vs ns) (hl : ns.length ≤ sizeLine) (hr : Room k callerA)
    (F : ∀ base : Heap, K.In base → base.Ns mainGlobals mg → FnG P w K mg base CX0 k fa fd [x] sp) (hbind : ∀ (s : Shared) (u : Value), BindsTo s fd ⟨[u], []⟩ [(x, u)])
    (hsp : ∀ H : Hp, Only H → SqL K H a (ns.map V.int) → sp [.ref a] H (fun v _ => v = .bl true) fun _ _ _ => False) :
    codeAny (model P w) callerA (.call (.ref fa) ⟨[.ref a], []⟩) (fun r s' => r = .ok (.ret (.bool true)) ∧ OldK s1.heap s'.heap ∧ s'.os = s1.os ∧ AllBare s'.gens) s1 := by
  have rv := vals_ints hi
  have lenV := hi.length
  have core : ∀ H : Hp, Only H → SqL K H a (ns.map V.int) → HOk P w H s1.heap → (∀ b, H b ≠ none → b = a) → (H a ≠ none → K.lookup a = none) →
      codeAny (model P w) callerA (.call (.ref fa) ⟨[.ref a], []⟩) (fun r s' => r = .ok (.ret (.bool true)) ∧ OldK s1.heap s'.heap ∧ s'.os = s1.os ∧ AllBare s'.gens) s1 := by
    intro H hO hS hok onlyA notK
    have noDict : ∀ {b : Addr} {o : Obj} {es : Array DictEntry} {ep : Nat}, s1.heap.get? b = some o → o.data = .dict es ep → H b = none := fun {b o es ep} e d => by
      cases q : H b with
      | none => rfl
      | some u =>
        obtain rfl : b = a := onlyA b (by rw [q]; simp)
        rw [ha] at e
        cases e
        exact nomatch (show Data.seq vs.toArray _ = Data.dict es ep from d)
    have nsK : ∀ {b : Addr} {m : Str → Option Value}, s1.heap.Ns b m → (hidT s1.heap H).Ns b m := fun {b m} ⟨o, es, ep, e, d, r⟩ => ⟨o, es, ep, hidT_get e (noDict e d), d, r⟩
    have kin : K.In (hidT s1.heap H) := fun b o e => hidT_get (KX b o e) (by
      cases q : H b with
      | none => rfl
      | some u =>
        obtain rfl : b = a := onlyA b (by rw [q]; simp)
        rw [notK (by rw [q]; simp)] at e
        cases e)
    obtain ⟨mc, c1, c2⟩ := hlim
    have hM : Mod K mg (hidT s1.heap H) := ⟨kin, nsK hns, ⟨mb, nsK hb, hbb⟩, ⟨mc, nsK c1, c2⟩⟩
    have noF : ∀ b, b ∉ frs [] := fun b z => absurd (show b ∈ ([] : List Addr) from z) (by simp)
    have e0 : Env0 P w K mg (hidT s1.heap H) callerA [] s1 H :=
      ⟨rfl, hM, fun b o e => of_hidT e, Nat.le_of_eq (hidT_size _ _), trivial, fun b z => absurd z (noF b), hok, .of_eq hg⟩
    refine codeAny_mono ((F _ kin (nsK hns)).run callerA [] s1 H ⟨[.ref a], []⟩ [.ref a] [.ref a] _ _ hr rfl e0 (hbind s1 (.ref a)) (.cons rfl .nil) (hsp H hO hS)) fun r s' h => ?_
    cases r with
    | error e => exact False.elim h
    | ok fl =>
      cases fl with
      | next => exact False.elim h
      | brk => exact False.elim h
      | cont => exact False.elim h
      | ret u =>
        obtain ⟨v, H', os, bare, un, hok', r', q⟩ := h
        obtain rfl : v = .bl true := q
        obtain rfl : u = Value.bool true := r'
        refine ⟨rfl, OldK.of_keep fun b o e => ?_, os, bare⟩
        cases q : H b with
        | none => exact un.keep b o e q (noF b) (by simp)
        | some u =>
          rcases hO b with z | ⟨ob, xs, z⟩
          · rw [q] at z
            cases z
          · obtain ⟨e1, _⟩ := hok b _ z
            obtain ⟨e2, _⟩ := hok' b _ (un.frzs b ob _ z)
            rw [e] at e1
            cases e1
            exact e2
  cases hk : K.lookup a with
  | some o =>
    have e := KX a o hk
    rw [ha] at e
    cases e
    refine core (fun _ => none) (fun _ => .inl rfl) (.inr ⟨_, vs.toArray, _, hk, rfl, rfl, rfl, ?_, by simpa using rv⟩) (fun b u z => ?_) (fun b z => absurd rfl z) fun z => absurd rfl z
    · rw [List.size_toArray, lenV]
      exact hl
    · exact nomatch (show (none : Option HO) = some u from z)
  | none =>
    refine core (fun b => if b = a then some (.frz { cls := .type "list", data := .seq vs.toArray } (.lst (ns.map V.int))) else none) (fun b => ?_)
      (.inl (.inr ⟨{ cls := .type "list", data := .seq vs.toArray }, if_pos rfl⟩)) (fun b u z => ?_) (fun b z => ?_) fun _ => hk
    · by_cases hb : b = a
      · exact .inr ⟨_, _, if_pos hb⟩
      · exact .inl (if_neg hb)
    · by_cases hb : b = a
      · have z2 := (if_pos hb).symm.trans z
        cases z2
        subst hb
        exact ⟨ha, by rw [List.length_map]; exact hl, vs, _, rv, ha⟩
      · exact nomatch (if_neg hb).symm.trans z
    · by_cases hb : b = a
      · exact hb
      · exact absurd (if_neg hb) z
theorem walk_ofG {l : PySem.W.OpenLaw} {n k : Nat} {q : Program} {loose : List Str} {XP : (Str → Option Value) → Heap → Prop} {YP : World → Heap → Prop} {d : DefRec} {K : Params → PySem.W.Frag} {sp : PySem.W.Frag → Sp} {x : Str}
    (hn : l.most = some n) (hn2 : n ≤ sizeLine) (hdf : d.params.defaults = []) (hr : Room k callerA) (hY : ∀ (w : World) (h : Heap), YP w h → (K w.params).In h)
    (F : ∀ (w : World) (mg : Str → Option Value) (fa : Addr) (h : Heap), (K w.params).In h → h.Ns mainGlobals mg → mg d.name = some (.ref fa) →
      ∃ fd : FuncData, (∀ (s : Shared) (u : Value), BindsTo s fd ⟨[u], []⟩ [(x, u)]) ∧
        ∀ base : Heap, (K w.params).In base → base.Ns mainGlobals mg → FnG l.prog w (K w.params) mg base CX0 k fa fd [x] (sp (K w.params)))
    (hsp : ∀ (K : PySem.W.Frag) (H : Hp) (a : Addr) (ns : List Int), ns.length ≤ n → Only H → SqL K H a (ns.map V.int) → sp K [.ref a] H (fun v _ => v = .bl true) fun _ _ _ => False) :
    PySem.W.WalkO q loose XP YP l.row.toRowW d [] (fun f vs => PySem.call f vs) := by
  refine Att.attach_call hn hdf fun w s0 s1 mg mb fa o pm cd doc a vs ns G Y ho hd hcd hmg hobj hints hlen hg => ?_
  have KX := hY w _ Y
  obtain ⟨fd, hb, hF⟩ := F w mg fa _ KX G.T.g hmg
  exact law_callG KX G.T.g G.T.b G.T.builtins G.T.nolimit hg hobj hints (Nat.le_trans hlen hn2) hr hF hb fun H hO hS => hsp _ H a ns hlen hO hS
end EV
end L2

set_option Elab.async false
set_option linter.all false
set_option maxRecDepth 100000
set_option maxHeartbeats 4000000
/-! repr of a list of data. -/
namespace L2
namespace EV
open PySem PySem.Spec PyProof.Rows _root_.EV
/-- v stands for d: data without dicts, or the dict {"a": 1} -/
inductive Sh (K : PySem.W.Frag) (H : Hp) : V → PyData → Prop
  | plain {v : V} {d : PyData} : Dp K H v d → d.hasDict = false → Sh K H v d
  | one {a : Addr} : H a = some (.dK [(Sum.inr "a", V.int 1)]) → Sh K H (.ref a) (.dict [(.str "a", .int 1)])
def Small (d : PyData) : Prop := d.showable = true ∧ d.shown.length ≤ 60 ∧ d.depth ≤ 5
inductive ShAll (K : PySem.W.Frag) (H : Hp) : List V → List PyData → Prop
  | nil : ShAll K H [] []
  | cons {v : V} {vs : List V} {d : PyData} {ds : List PyData} : Sh K H v d → Small d → ShAll K H vs ds → ShAll K H (v :: vs) (d :: ds)
section
variable {X : Cx} {pins : List (Addr × Obj)} {σ : St} {H : Hp} {s : Shared}
theorem sh_reads (I : Inv X pins σ H s) {v : V} {d : PyData} {u : Value} (h : Sh X.K H v d) (r : RelV v u) : ∃ as, Reads s.heap u d as ∧ (d.hasDict = true → sysModules ∉ as) := by
  cases h with
  | plain hd no =>
    obtain ⟨as, q⟩ := Dp.reads I d v u hd r
    exact ⟨as, q, fun z => by rw [no] at z; cases z⟩
  | @one a e =>
    obtain rfl : u = Value.ref a := r
    obtain ⟨_, nsys, vs, kv, o, es, ep, ho, ex, hd, _, pr, _⟩ := (show ObjOk X.prog X.w H s.heap a (.dK [(Sum.inr "a", V.int 1)]) from I.hok a _ e)
    cases kv with
    | @cons _ p _ ps hk kr =>
      cases kr
      obtain ⟨k, v⟩ := p
      obtain ⟨ek, t, ev⟩ := hk
      dsimp only at ek ev
      subst ek ev
      generalize hes : es.toList = l at pr
      cases pr with
      | @cons e1 _ l2 _ k1 k2 k3 =>
        cases k3
        obtain ⟨t2, ek⟩ : ∃ t2, e1.key = Value.str "a" t2 := Value.isStrOf_shape k1
        refine ⟨[a], Reads.dict (as := []) (bs := []) ho ex.1 hd ?_ ?_, fun _ z => ?_⟩
        · rw [hes]
          show ReadsAll s.heap [e1.key] [PyData.str "a"] []
          rw [ek]
          exact ReadsAll.cons (Reads.str _ _) ReadsAll.nil
        · rw [hes]
          show ReadsAll s.heap [e1.val] [PyData.int 1] []
          rw [k2]
          exact ReadsAll.cons (Reads.int _ _) ReadsAll.nil
        · obtain rfl : sysModules = a := by simpa using z
          simp at nsys
theorem sh_all (I : Inv X pins σ H s) : ∀ {vs : List V} {ds : List PyData} {us : List Value}, ShAll X.K H vs ds → Vals vs us →
    ∃ as bs, ReadsAll s.heap us ds as ∧ ReadAtMost s.heap (PyData.depthAll ds) bs ∧ ReprAllK X.prog X.w bs s.heap (PyData.depthAll ds) us (PyData.shownAll ds)
  | _, _, _, .nil, .nil => ⟨[], [], ReadsAll.nil, (fun _ h => nomatch h), by simp only [PyData.shownAll]; exact .nil⟩
  | _, _, _, .cons (d := d) (ds := ds) h sm t, .cons r rt => by
    obtain ⟨as1, q1, hsm⟩ := sh_reads I h r
    obtain ⟨as2, b2, q2, m2, k2⟩ := sh_all I t rt
    obtain ⟨b1, m1, k1⟩ := ReprK.of_reads (prog := X.prog) (w := X.w) q1 sm.1 hsm (Nat.le_trans sm.2.1 (by decide))
    refine ⟨as1 ++ as2, b1 ++ b2, ReadsAll.cons q1 q2, ?_, ?_⟩
    · simp only [PyData.depthAll]
      exact (m1.mono (Nat.le_max_left _ _)).append (m2.mono (Nat.le_max_right _ _))
    · simp only [PyData.depthAll, PyData.shownAll]
      exact .cons ((k1.more fun b hb => List.mem_append_left _ hb).level_le (Nat.le_max_left _ _)) (k2.more_le (fun b hb => List.mem_append_right _ hb) (Nat.le_max_right _ _))
theorem shall_depth {K : PySem.W.Frag} {H : Hp} : ∀ {vs : List V} {ds : List PyData}, ShAll K H vs ds → PyData.depthAll ds ≤ 5 ∧ (∀ t ∈ PyData.shownAll ds, t.length ≤ 60) ∧ (PyData.shownAll ds).length = vs.length
  | _, _, .nil => ⟨by simp only [PyData.depthAll]; omega, by simp [PyData.shownAll], by simp [PyData.shownAll]⟩
  | _, _, .cons h sm t => by
    obtain ⟨h1, h2, h3⟩ := shall_depth t
    refine ⟨by simp only [PyData.depthAll]; have := sm.2.2; omega, ?_, by simp [PyData.shownAll, h3]⟩
    intro t ht
    simp only [PyData.shownAll, List.mem_cons] at ht
    rcases ht with rfl | ht
    · exact sm.2.1
    · exact h2 t ht
theorem sum_le60 : ∀ {ts : List Str}, (∀ t ∈ ts, t.length ≤ 60) → (ts.map (·.length)).sum ≤ 60 * ts.length
  | [], _ => by simp
  | t :: ts, h => by
    have h1 := h t (List.mem_cons_self ..)
    have h2 := sum_le60 (ts := ts) fun t ht => h t (List.mem_cons_of_mem _ ht)
    simp only [List.map_cons, List.sum_cons, List.length_cons]
    omega
/-- repr(l), l a list of some data -/
def rShow (K : PySem.W.Frag) : List V → Hp → VK → Prop := fun xs H Q => ∃ (l : Addr) (v : V) (vs : List V) (ds : List PyData), xs = [.ref l] ∧ H l = some (.lst (v :: vs)) ∧ ShAll K H (v :: vs) ds ∧ vs.length ≤ 1000 ∧
  Q (.str (listText (PyData.shownAll ds))) H
theorem call_show (hgd : X.A.guards = some []) (hu : X.A.units + 64 < cLine) : CallR X (.builtin "repr") (rShow X.K) := by
  intro pins s σ H xs us Q I r h
  obtain ⟨l, v, vs, ds, rfl, e, sh, lz, q⟩ := h
  obtain ⟨u, rfl, ru⟩ := vals1 r
  obtain rfl : u = Value.ref l := ru
  obtain ⟨_, its, n, rv, ho⟩ := (show ObjOk X.prog X.w H s.heap l (.lst (v :: vs)) from I.hok l _ e)
  obtain ⟨as, bs, q1, m1, k1⟩ := sh_all I sh rv
  obtain ⟨dp, sz, ln⟩ := shall_depth sh
  have whole : Reads s.heap (.ref l) (.list ds) (l :: as) := Reads.list ho rfl rfl (by simpa using q1)
  have hna : l ∉ bs := not_mem_of_deeper whole (by simp only [PyData.depth]; omega) m1
  have hz : (listText (PyData.shownAll ds)).length ≤ sizeLine := by
    have h1 := listText_len_le (PyData.shownAll ds)
    have h2 := sum_le60 sz
    rw [ln, List.length_cons] at *
    rw [sizeLine_eq]
    omega
  cases rv with
  | @cons _ u1 _ ut r1 r2 =>
    refine call_repr_slot (by omega) ⟨_, ho, rfl⟩ PySem.F.slot_list_repr.toG ?_
    refine call_list_reprK ho rfl rfl hna (by simpa using k1.length_eq) (fun i y ey => k1.item i y (by simpa using ey)) (A := X.A.in1) hgd (fun b _ => Clear.nil b) ?_ (fun _ _ z => z) (fun h' t tk hk => ⟨_, _, rfl, ?_⟩) hz
    · show X.A.units + 1 + (PyData.depthAll ds + 1) < cLine
      omega
    · exact ⟨.str _, H, I.kept (t' := tk) hk, ⟨_, rfl⟩, q⟩
end
end EV
end L2

set_option Elab.async false
set_option linter.all false
set_option maxRecDepth 100000
set_option maxHeartbeats 4000000
/-! Tuples of an int, a text and an int: sorted, and <=. -/
namespace L2
open PySem PySem.Spec PyProof.Rows
abbrev T3 : Type := Int × Str × Int
abbrev sl (a : Str) : List Nat := a.cps.toList
theorem sl_inj {a b : Str} (h : sl a = sl b) : a = b := by
  cases a with
  | mk x =>
    cases b with
    | mk y =>
      have : x = y := Array.toList_inj.mp h
      rw [this]
/-- x is ahead of y -/
def lt3 (a b : T3) : Bool := if a.1 = b.1 then (if a.2.1 = b.2.1 then decide (a.2.2 < b.2.2) else decide (sl a.2.1 < sl b.2.1)) else decide (a.1 < b.1)
theorem lt3_iff {a b : T3} : lt3 a b = true ↔ a.1 < b.1 ∨ (a.1 = b.1 ∧ (sl a.2.1 < sl b.2.1 ∨ (a.2.1 = b.2.1 ∧ a.2.2 < b.2.2))) := by
  unfold lt3
  by_cases e1 : a.1 = b.1
  · rw [if_pos e1]
    by_cases e2 : a.2.1 = b.2.1
    · rw [if_pos e2, decide_eq_true_eq]
      refine ⟨fun h => .inr ⟨e1, .inr ⟨e2, h⟩⟩, ?_⟩
      rintro (h | ⟨_, h | ⟨_, h⟩⟩)
      · omega
      · rw [e2] at h
        exact absurd h (List.lt_irrefl _)
      · exact h
    · rw [if_neg e2, decide_eq_true_eq]
      refine ⟨fun h => .inr ⟨e1, .inl h⟩, ?_⟩
      rintro (h | ⟨_, h | ⟨h, _⟩⟩)
      · omega
      · exact h
      · exact absurd h e2
  · rw [if_neg e1, decide_eq_true_eq]
    refine ⟨fun h => .inl h, ?_⟩
    rintro (h | ⟨h, _⟩)
    · exact h
    · exact absurd h e1
theorem lt3_no {a b : T3} : lt3 a b = false ↔ ¬ (a.1 < b.1 ∨ (a.1 = b.1 ∧ (sl a.2.1 < sl b.2.1 ∨ (a.2.1 = b.2.1 ∧ a.2.2 < b.2.2)))) := by
  rw [← lt3_iff]
  cases lt3 a b <;> simp
theorem swo3 : SrtO.Swo lt3 := by
  refine ⟨fun x y h => ?_, fun x y z h1 h2 => ?_⟩
  · have a := lt3_iff.mp h
    refine lt3_no.mpr ?_
    rintro (h1 | ⟨h1, h2⟩)
    · rcases a with a | ⟨a, _⟩ <;> omega
    · rcases a with a | ⟨_, a⟩
      · omega
      · rcases h2 with h2 | ⟨h2, h3⟩
        · rcases a with a | ⟨a, _⟩
          · exact List.lt_asymm a h2
          · rw [a] at h2
            exact List.lt_irrefl _ h2
        · rcases a with a | ⟨_, a⟩
          · rw [h2] at a
            exact List.lt_irrefl _ a
          · omega
  · have a := lt3_no.mp h1
    have b := lt3_no.mp h2
    refine lt3_no.mpr ?_
    have a1 : ¬ y.1 < x.1 := fun q => a (.inl q)
    have b1 : ¬ z.1 < y.1 := fun q => b (.inl q)
    rintro (q | ⟨q1, q2⟩)
    · omega
    · have e1 : y.1 = x.1 := by omega
      have e2 : z.1 = y.1 := by omega
      have a2 : ¬ sl y.2.1 < sl x.2.1 := fun q => a (.inr ⟨e1, .inl q⟩)
      have b2 : ¬ sl z.2.1 < sl y.2.1 := fun q => b (.inr ⟨e2, .inl q⟩)
      have l1 : sl x.2.1 ≤ sl y.2.1 := List.not_lt.mp a2
      have l2 : sl y.2.1 ≤ sl z.2.1 := List.not_lt.mp b2
      rcases q2 with q2 | ⟨q2, q3⟩
      · exact absurd q2 (List.not_lt.mpr (List.le_trans l1 l2))
      · have e3 : sl y.2.1 = sl x.2.1 := by
          rw [q2] at l2
          exact List.le_antisymm l2 l1
        have e4 := sl_inj e3
        have a3 : ¬ y.2.2 < x.2.2 := fun q => a (.inr ⟨e1, .inr ⟨e4, q⟩⟩)
        have b3 : ¬ z.2.2 < y.2.2 := fun q => b (.inr ⟨e2, .inr ⟨q2.trans e4.symm, q⟩⟩)
        omega
theorem swo3k {α : Type} (k : α → T3) : SrtO.Swo fun v u : α => lt3 (k v) (k u) := ⟨fun x y => swo3.asym (k x) (k y), fun x y z => swo3.tr (k x) (k y) (k z)⟩
/-- v is a tuple of an int, a text and an int in the heap -/
def IsTrip (h : Heap) (v : Value) (x : T3) : Prop := ∃ a o t u r n, v = .ref a ∧ h.get? a = some o ∧ o.cls = .type "tuple" ∧ o.data = .seq #[.int x.1 t, .str x.2.1 u, .int x.2.2 r] n
theorem IsTrip.keeps {h h' : Heap} {v : Value} {x : T3} (p : IsTrip h v x) (k : ∀ b o, h.get? b = some o → o.cls = .type "tuple" → h'.get? b = some o) : IsTrip h' v x := by
  obtain ⟨a, o, t, u, r, n, e, ho, hc, hd⟩ := p
  exact ⟨a, o, t, u, r, n, e, k _ _ ho hc, hc, hd⟩
theorem firsts3 {h : Heap} : ∀ {vs : List Value}, (∀ v ∈ vs, ∃ x, IsTrip h v x) → ∃ fs : List Value, PySem.W.KatTups h vs fs ∧ fs.length = vs.length ∧ ∀ f ∈ fs, ∃ x t, f = Value.int x t
  | [], _ => ⟨[], PySem.W.KatTups.nil, rfl, fun _ hm => by simp at hm⟩
  | v :: vs, hp => by
    obtain ⟨fs, h1, h2, h3⟩ := firsts3 (vs := vs) fun v' hm => hp v' (List.mem_cons_of_mem _ hm)
    obtain ⟨x, a, o, t, u, r, n, e, ho, hc, hd⟩ := hp v (List.mem_cons_self ..)
    subst e
    refine ⟨.int x.1 t :: fs, PySem.W.KatTups.cons ho hc hd rfl h1, by rw [List.length_cons, List.length_cons, h2], fun f hm => ?_⟩
    rcases List.mem_cons.mp hm with rfl | hm
    · exact ⟨x.1, t, rfl⟩
    · exact h3 f hm
section
variable {prog : Program} {w : World} {A : Around} {E : Value → Shared → Prop} {s : Shared}
theorem trip_cmp {vs : List Value} {k : Value → T3} (hp : ∀ v ∈ vs, IsTrip s.heap v (k v)) : SrtO.Cmp prog w A s (tuples' true) (fun p => p.1 ∈ vs) (SrtO.lt2 fun v u => lt3 (k v) (k u)) := by
  intro p q hm hm'
  have h1 := hp _ hm
  have h2 := hp _ hm'
  show wpAny (model prog w) A (keyLt' (tuples' true) p.1 q.1) (fun r s' => s' = s ∧ r = lt3 (k p.1) (k q.1)) (fun _ _ => False) s
  generalize k p.1 = x at h1 ⊢
  generalize k q.1 = y at h2 ⊢
  obtain ⟨x1, x2, x3⟩ := x
  obtain ⟨y1, y2, y3⟩ := y
  obtain ⟨a, o, t, u, r, n, e, ho, hc, hd⟩ := h1
  obtain ⟨a', o', t', u', r', n', e', ho', hc', hd'⟩ := h2
  rw [e, e']
  unfold lt3
  refine PySem.W.kat_lt ho hd ho' hd' ?_
  show PySem.W.KatLex prog w A true (decide (3 < 3)) _ [(.int x1 t, .int y1 t'), (.str x2 u, .str y2 u'), (.int x3 r, .int y3 r')] 0 s
  refine PySem.W.kat_cons (SeqAt.EqAt.int_int x1 t y1 t' prog w _ _ ?_)
  refine PySem.W.kat_go (fun e1 => ?_) (fun e1 => ?_)
  · have ex : x1 = y1 := by simpa using e1
    subst ex
    refine PySem.W.kat_yes (PySem.W.kat_cons (SeqAt.EqAt.str_str x2 u y2 u' prog w _ _ ?_))
    refine PySem.W.kat_go (fun e2 => ?_) (fun e2 => ?_)
    · have ey : x2 = y2 := by simpa using e2
      subst ey
      refine PySem.W.kat_yes (PySem.W.kat_cons (SeqAt.EqAt.int_int x3 r y3 r' prog w _ _ ?_))
      refine PySem.W.kat_go (fun e3 => ?_) (fun e3 => ?_)
      · have ez : x3 = y3 := by simpa using e3
        subst ez
        refine PySem.W.kat_yes (PySem.W.kat_nil ⟨rfl, ?_⟩)
        simp
      · refine PySem.W.kat_no (PySem.W.kat_one _ _ (PyProof.Rows.lt_int ?_))
        refine (show s = s ∧ _ from ⟨rfl, ?_⟩)
        simp
    · have ey : ¬ x2 = y2 := by simpa using e2
      refine PySem.W.kat_no (PySem.W.kat_one _ _ (PyProof.Rows.lt_str ?_))
      refine (show s = s ∧ _ from ⟨rfl, ?_⟩)
      simp [ey]
  · have ex : ¬ x1 = y1 := by simpa using e1
    refine PySem.W.kat_no (oneLt_int ⟨rfl, ?_⟩)
    simp [ex]
theorem trips_sortable {a : Addr} {vs : List Value} {k : Value → T3} (h0 : 0 < vs.length) (hp : ∀ v ∈ vs, IsTrip s.heap v (k v)) (ha : ∀ o, s.heap.get? a = some o → o.cls ≠ .type "tuple") : SrtO.SortableO prog w A s a vs fun v u => lt3 (k v) (k u) := by
  intro h' keep
  have hp' : ∀ v ∈ vs, IsTrip h' v (k v) := fun v hm => (hp v hm).keeps fun b o e c => keep b o (fun z => by subst z; exact ha o e c) e
  obtain ⟨fs, h1, h2, h3⟩ := firsts3 fun v hm => ⟨_, hp' v hm⟩
  refine ⟨tuples' true, fun Q E hq => ?_, trip_cmp hp'⟩
  refine PySem.W.kat_kind (T := .type "int") h1 (by omega) (fun f hm => ?_) (by rfl) ?_
  · obtain ⟨x, t, rfl⟩ := h3 f hm
    exact PySem.W.Looks.now
  · have e : (Value.type "int" != Value.type "tuple") = true := by first | decide +kernel | rfl | decide
    rw [e]
    exact hq
theorem sorted_trips {l : Addr} {vs : List Value} {k : Value → T3} {Q : Value → Shared → Prop} (hl : s.heap.IsList l vs.toArray) (hz : vs.length ≤ sizeLine) (hp : ∀ v ∈ vs, IsTrip s.heap v (k v))
    (h : ∀ (h' : Heap) (d : Addr) (out : List Value), SrtO.Srtd (fun v u => lt3 (k v) (k u)) out → SrtO.Stb (fun v u => lt3 (k v) (k u)) out vs → (∀ b o, s.heap.get? b = some o → h'.get? b = some o) → s.heap.objs.size ≤ d → (∃ n, h'.get? d = some (seqObj "list" out.toArray n)) → Q (.ref d) { s with heap := h' }) :
    wpAny (model prog w) A (call (.builtin "sorted") [.ref l]) Q E s := by
  refine SrtO.sorted_ord (swo3k k) hl hz (fun h2 h₁ a ha kk => ?_) fun out hs hb => ?_
  · refine trips_sortable (s := { s with heap := h₁ }) (by omega) (fun v hm => (hp v hm).keeps fun b o e _ => (kk b o e).2) fun o e => ?_
    have e' : some o = some (seqObj "list" vs.toArray 0) := e.symm.trans ha
    cases e'
    intro c
    exact absurd (Value.type.inj c) (by decide)
  · exact h _ _ out hs hb (fun b o e => sortedAll_old e) (Nat.le_succ _) (sortedAll_at s.heap vs out.toArray)
end
/-- sorted(xs), xs a list of such tuples (k says which): a new list of the same ones -/
def rSorted3 (K : PySem.W.Frag) : List V → Hp → VK → Prop := fun vs H Q => ∃ (a : Addr) (xs : List V) (k : V → T3), vs = [V.ref a] ∧ SqL K H a xs ∧ (∀ x ∈ xs, ∃ t, x = V.ref t ∧ H t = some (.tup [.int (k x).1, .str (k x).2.1, .int (k x).2.2])) ∧
  ∀ ys p, SrtO.Srtd (fun x y => lt3 (k x) (k y)) ys → ys.Perm xs → H p = none → Q (.ref p) (upd H p (.lst ys))
theorem vals_3 {x y z : V} {us : List Value} (r : Vals [x, y, z] us) : ∃ u w' t', us = [u, w', t'] ∧ RelV x u ∧ RelV y w' ∧ RelV z t' := by
  cases r with
  | cons r1 r2 =>
    obtain ⟨u, w', rfl, r3, r4⟩ := vals2 r2
    exact ⟨_, u, w', rfl, r1, r3, r4⟩
section
variable {X : Cx}
theorem cr_sorted3 : CallR X (.builtin "sorted") (rSorted3 X.K) := by
  intro pins s σ H vs us Q I r h
  obtain ⟨a, xs, k, rfl, hs, hx, q⟩ := h
  obtain ⟨its, rv, hl, hz⟩ := I.list hs
  obtain ⟨u, rfl, ru⟩ := vals1 r
  obtain rfl : u = Value.ref a := ru
  obtain ⟨e1, e2⟩ := refs_back rv fun x m => by
    obtain ⟨t, e, _⟩ := hx x m
    exact ⟨t, e⟩
  refine sorted_trips (k := fun u => k (backV u)) hl.isList (by rw [← rv.length]; exact hz) (fun v hv => ?_) fun h' d out h1 h2 kp hd hn => ?_
  · obtain ⟨t, rfl⟩ := e2 v hv
    have hm : V.ref t ∈ xs := by rw [e1]; exact List.mem_map.mpr ⟨_, hv, rfl⟩
    obtain ⟨t', e, ht⟩ := hx _ hm
    cases e
    obtain ⟨_, its2, r2, o, ho, hc, n, hd⟩ := I.hok _ _ ht
    obtain ⟨u1, u2, u3, rfl, ri, rj, rk⟩ := vals_3 r2
    obtain ⟨t1, rfl⟩ := ri
    obtain ⟨t2, rfl⟩ := rj
    obtain ⟨t3, rfl⟩ := rk
    exact ⟨t, o, t1, t2, t3, n, rfl, ho, hc, hd⟩
  · have h3 : ∀ u ∈ out, ∃ a, u = Value.ref a := fun u hu => e2 u (h2.perm.mem_iff.mp hu)
    obtain ⟨n, hn⟩ := hn
    have hb : SrtO.Stb (fun x y => lt3 (k x) (k y)) (out.map backV) xs := by
      rw [e1]
      exact SrtO.Stb.map (swo3k k) backV h2
    refine ⟨.ref d, upd H d (.lst (out.map backV)), I.laid (t' := s.toks) kp hd ⟨?_, out, n, vals_back h3, hn⟩, rfl, q _ d (SrtO.srtd_map h1) hb.perm (I.hok.fresh hd)⟩
    rw [hb.len]
    exact hz
/-- x <= y of two such tuples -/
def rLe3 : R2 := fun x y H Q => ∃ (a b : Addr) (m n : T3), x = .ref a ∧ y = .ref b ∧ H a = some (.tup [.int m.1, .str m.2.1, .int m.2.2]) ∧ H b = some (.tup [.int n.1, .str n.2.1, .int n.2.2]) ∧ Q (.bl (!lt3 n m)) H
theorem le_lex (m n : T3) : Ob.lexAt (fun j => if j = 0 then m.1 == n.1 else if j = 1 then m.2.1 == n.2.1 else m.2.2 == n.2.2)
    (fun j => if j = 0 then decide (m.1 ≤ n.1) else if j = 1 then decide (sl m.2.1 ≤ sl n.2.1) else decide (m.2.2 ≤ n.2.2)) true 0 3 = !lt3 n m := by
  obtain ⟨m1, m2, m3⟩ := m
  obtain ⟨n1, n2, n3⟩ := n
  simp only [Ob.lexAt, lt3]
  by_cases e1 : m1 = n1
  · subst e1
    by_cases e2 : m2 = n2
    · subst e2
      by_cases e3 : m3 = n3
      · subst e3
        simp
      · simp only [beq_self_eq_true, if_true, Nat.zero_add, Nat.one_ne_zero, if_false, Nat.reduceAdd, Nat.reduceEqDiff, beq_iff_eq, e3]
        by_cases z : m3 ≤ n3
        · rw [decide_eq_true z, decide_eq_false (by omega)]
          rfl
        · rw [decide_eq_false z, decide_eq_true (by omega)]
          rfl
    · have e2' : ¬ n2 = m2 := fun z => e2 z.symm
      simp only [beq_self_eq_true, if_true, Nat.zero_add, Nat.one_ne_zero, if_false, beq_iff_eq, e2, e2']
      by_cases z : sl m2 ≤ sl n2
      · rw [decide_eq_true z, decide_eq_false (List.not_lt.mpr z)]
        rfl
      · rw [decide_eq_false z, decide_eq_true (List.not_le.mp z)]
        rfl
  · have e1' : ¬ n1 = m1 := fun z => e1 z.symm
    simp only [if_true, beq_iff_eq, e1, e1', if_false]
    by_cases z : m1 ≤ n1
    · rw [decide_eq_true z, decide_eq_false (by omega)]
      rfl
    · rw [decide_eq_false z, decide_eq_true (by omega)]
      rfl
theorem RcOp.le_str {A : Around} {s : Shared} (a b : Str) (t u : Tok) : Ob.RcOp .LtE A s (.str a t) (.str b u) (decide (sl a ≤ sl b)) := fun _ _ _ _ h => PySem.P.le_str (by
  have e : (!decide (b.cps.toList < a.cps.toList)) = decide (sl a ≤ sl b) := by
    by_cases z : sl a ≤ sl b
    · rw [decide_eq_true z, decide_eq_false (List.not_lt.mpr z)]
      rfl
    · rw [decide_eq_false z, decide_eq_true (List.not_le.mp z)]
      rfl
  rw [e]
  exact h)
theorem op_le3 (hu : X.A.units < cLine) : OpR X (compareOp .LtE) rLe3 := by
  intro pins s σ H x y v u Q I rx ry h
  obtain ⟨a, b, m, n, rfl, rfl, ha, hb, q⟩ := h
  cases rx
  cases ry
  obtain ⟨its, r1, p1, _⟩ := I.tuple (SqT.of ha)
  obtain ⟨its2, r2, p2, _⟩ := I.tuple (SqT.of hb)
  obtain ⟨u1, u2, u3, rfl, ⟨t1, rfl⟩, ⟨t2, rfl⟩, ⟨t3, rfl⟩⟩ := vals_3 r1
  obtain ⟨v1, v2, v3, rfl, ⟨w1, rfl⟩, ⟨w2, rfl⟩, ⟨w3, rfl⟩⟩ := vals_3 r2
  have R := Ob.RcOp.tuples_le (A := X.A) (s := s) (e := fun j => if j = 0 then m.1 == n.1 else if j = 1 then m.2.1 == n.2.1 else m.2.2 == n.2.2)
    (r := fun j => if j = 0 then decide (m.1 ≤ n.1) else if j = 1 then decide (sl m.2.1 ≤ sl n.2.1) else decide (m.2.2 ≤ n.2.2)) p1 p2 hu (fun j h1 h2 => by
    match j, h1 with
    | 0, _ => exact SeqAt.EqAt.int_int _ _ _ _
    | 1, _ => exact SeqAt.EqAt.str_str _ _ _ _
    | 2, _ => exact SeqAt.EqAt.int_int _ _ _ _) (fun j h1 h2 _ => by
    match j, h1 with
    | 0, _ => exact Ob.RcOp.le_int _ _ _ _
    | 1, _ => exact RcOp.le_str _ _ _ _
    | 2, _ => exact Ob.RcOp.le_int _ _ _ _)
  have e3 : Ob.lexAt (fun j => if j = 0 then m.1 == n.1 else if j = 1 then m.2.1 == n.2.1 else m.2.2 == n.2.2)
    (fun j => if j = 0 then decide (m.1 ≤ n.1) else if j = 1 then decide (sl m.2.1 ≤ sl n.2.1) else decide (m.2.2 ≤ n.2.2)) (decide (3 ≤ 3)) 0 (min 3 3) = !lt3 n m := le_lex m n
  have z : wpAny (model X.prog X.w) X.A (compareOp .LtE (.ref a) (.ref b)) (EP X pins σ Q) X.xe s := R X.prog X.w X.xe (EP X pins σ Q) ⟨.bl _, H, I, rfl, by
    rw [← e3] at q
    exact q⟩
  exact z
end
end L2

set_option Elab.async false
set_option linter.all false
set_option maxRecDepth 100000
set_option maxHeartbeats 4000000
/-! The law's draws. -/
namespace K45
open PySem L2 L2.EV
def top (i : Nat) : Stmt := PySem.Challenge.pw_tornlines_k45_whole_any_text.main.body.getD i (.Pass ⟨0, 0, 0, 0⟩)
abbrev sBegun : Stmt := top 27
abbrev sNext : Stmt := top 28
/-! ### data of ints -/
theorem canLay_ints : ∀ ns : List Int, PyData.canLayAll0 (ns.map PyData.int) = true
  | [] => by simp [PyData.canLayAll0]
  | n :: ns => by simp [PyData.canLayAll0, PyData.canLay0, canLay_ints ns]
theorem depth_ints : ∀ ns : List Int, PyData.depthAll (ns.map PyData.int) = 0
  | [] => by simp [PyData.depthAll]
  | n :: ns => by simp [PyData.depthAll, PyData.depth, depth_ints ns]
theorem shaped_ints (ns : List Int) : SeqAt.shaped (.list (ns.map PyData.int)) = true := by
  show (PyData.canLay0 (.list (ns.map PyData.int)) && decide (PyData.depth (.list (ns.map PyData.int)) ≤ 64)) = true
  rw [Bool.and_eq_true]
  refine ⟨by simp only [PyData.canLay0]; exact canLay_ints ns, decide_eq_true ?_⟩
  simp only [PyData.depth, depth_ints]
  omega
theorem dp_ints {K : PySem.W.Frag} {H : Hp} : ∀ ns : List Int, DpAll K H (ns.map V.int) (ns.map PyData.int)
  | [] => .nil
  | n :: ns => .cons (.int n) (dp_ints ns)
theorem dp_list {K : PySem.W.Frag} {H : Hp} {a : Addr} {ns : List Int} (h : H a = some (.lst (ns.map V.int))) : Dp K H (.ref a) (.list (ns.map PyData.int)) := .lst (SqL.of h) (dp_ints ns)
theorem eqv_nil (ns : List Int) : PyData.eqv (.list (ns.map PyData.int)) (.list []) = ns.isEmpty := by
  cases ns <;> simp [PyData.eqv, PyData.eqvAll]
/-! ### the draws' dict -/
def mkv (c l : Addr) (k : Int) : List (Key × V) := [(Sum.inr "cells", .ref c), (Sum.inr "left", .ref l), (Sum.inr "at", .int k)]
theorem n1 : ¬ (("cells" : Str) = "left") := by decide +kernel
theorem n2 : ¬ (("cells" : Str) = "at") := by decide +kernel
theorem n3 : ¬ (("left" : Str) = "at") := by decide +kernel
theorem n1' : ¬ (("left" : Str) = "cells") := by decide +kernel
theorem n2' : ¬ (("at" : Str) = "cells") := by decide +kernel
theorem n3' : ¬ (("at" : Str) = "left") := by decide +kernel
theorem k1 {a b : Str} (h : ¬ a = b) : ¬ ((Sum.inr a : Key) = Sum.inr b) := fun z => h (Sum.inr.inj z)
theorem v_cells (c l : Addr) (k : Int) : valV (mkv c l k) (Sum.inr "cells" : Key) = some (.ref c) := by simp [valV, mkv, List.find?_cons]
theorem v_left (c l : Addr) (k : Int) : valV (mkv c l k) (Sum.inr "left" : Key) = some (.ref l) := by simp [valV, mkv, List.find?_cons, n1]
theorem v_at (c l : Addr) (k : Int) : valV (mkv c l k) (Sum.inr "at" : Key) = some (.int k) := by simp [valV, mkv, List.find?_cons, n2, n3]
theorem p_left (c l l' : Addr) (k : Int) : putK (mkv c l k) (Sum.inr "left" : Key) (.ref l') = mkv c l' k := by simp [putK, mkv, n1, n3']
theorem p_at (c l : Addr) (k k' : Int) : putK (mkv c l k) (Sum.inr "at" : Key) (.int k') = mkv c l k' := by simp [putK, mkv, n2, n3]
theorem mk_merge (c l : Addr) (k : Int) : mergeK [] (mkv c l k) = mkv c l k := by simp [mergeK, putK, mkv, n1, n2, n3]
structure MAt (H : Hp) (m c l : Addr) (k : Int) : Prop where
  hm : H m = some (.dK (mkv c l k))
  hc : ∃ cs : List Int, H c = some (.lst (cs.map V.int)) ∧ cs.length ≤ 1000
  hl : ∃ ls : List Int, H l = some (.lst (ls.map V.int)) ∧ ls.length ≤ 1000
  ne : c ≠ l
  k0 : 0 ≤ k
  k1 : k ≤ 1000000
/-- a drawn number from 0 to n - 1; only the dict and its list of great cells have changed -/
def spNext : Sp := fun vs H Q _ => ∃ (m c l : Addr) (k n : Int), vs = [.ref m, .int n] ∧ MAt H m c l k ∧ 0 < n ∧ n < 1000000 ∧ k < 1000000 ∧
  ∀ (r : Int) (H' : Hp) (l' : Addr) (k' : Int), 0 ≤ r → r < n → k' ≤ k + 1 → MAt H' m c l' k' → (l' = l ∨ H l' = none) → (∀ b o, H b = some o → b ≠ m → b ≠ l → H' b = some o) → Q (.int r) H'
/-- the beginning -/
def spBegun (K : PySem.W.Frag) : Sp := fun vs H Q _ => ∃ (a : Addr) (ns : List Int), vs = [.ref a] ∧ SqL K H a (ns.map V.int) ∧ ns.length ≤ 1000 ∧
  ∀ (m c l : Addr) (H' : Hp), MAt H' m c l 0 → H m = none → H c = none → H l = none → Same H H' → Q (.ref m) H'
structure TxtD (mg : Str → Option Value) : Prop where
  list : mg "list" = none
  int : mg "int" = none
  len : mg "len" = none
theorem same_upd {H : Hp} {p : Addr} {o : HO} (h : H p = none) : Same H (upd H p o) := fun b u e => by
  rw [upd_ne (ne_of_none e h)]
  exact e
theorem MAt.same {H H' : Hp} {m c l : Addr} {k : Int} (M : MAt H m c l k) (s : Same H H') : MAt H' m c l k := by
  obtain ⟨h1, ⟨cs, h2, h3⟩, ⟨ls, h4, h5⟩, h6, h7, h8⟩ := M
  exact ⟨s _ _ h1, ⟨cs, s _ _ h2, h3⟩, ⟨ls, s _ _ h4, h5⟩, h6, h7, h8⟩
theorem MAt.set {H : Hp} {m c l : Addr} {k : Int} {ls : List Int} (M : MAt H m c l k) (hz : ls.length ≤ 1000) : MAt (upd H l (.lst (ls.map V.int))) m c l k := by
  obtain ⟨h1, ⟨cs, h2, h3⟩, ⟨ls0, h4, h5⟩, h6, h7, h8⟩ := M
  have ml : m ≠ l := ne_of h1 h4 (fun z => by cases z)
  exact ⟨by rw [upd_ne ml]; exact h1, ⟨cs, by rw [upd_ne h6]; exact h2, h3⟩, ⟨ls, upd_same, hz⟩, h6, h7, h8⟩
/-- another list of great cells -/
theorem MAt.turn {H : Hp} {m c l p : Addr} {k : Int} {ls : List Int} (M : MAt H m c l k) (hp : H p = none) (hz : ls.length ≤ 1000) : MAt (upd (upd H p (.lst (ls.map V.int))) m (.dK (mkv c p k))) m c p k := by
  obtain ⟨h1, ⟨cs, h2, h3⟩, ⟨ls0, h4, h5⟩, h6, h7, h8⟩ := M
  have mp : p ≠ m := (ne_of_none h1 hp).symm
  have cp : c ≠ p := ne_of_none h2 hp
  have cm : c ≠ m := ne_of h2 h1 (fun z => by cases z)
  exact ⟨upd_same, ⟨cs, by rw [upd_ne cm, upd_ne cp]; exact h2, h3⟩, ⟨ls, by rw [upd_ne mp]; exact upd_same, hz⟩, cp, h7, h8⟩
/-- another counter -/
theorem MAt.count {H : Hp} {m c l : Addr} {k k' : Int} (M : MAt H m c l k) (h0 : 0 ≤ k') (h1' : k' ≤ 1000000) : MAt (upd H m (.dK (mkv c l k'))) m c l k' := by
  obtain ⟨h1, ⟨cs, h2, h3⟩, ⟨ls0, h4, h5⟩, h6, h7, h8⟩ := M
  have lm : l ≠ m := ne_of h4 h1 (fun z => by cases z)
  have cm : c ≠ m := ne_of h2 h1 (fun z => by cases z)
  exact ⟨upd_same, ⟨cs, by rw [upd_ne cm]; exact h2, h3⟩, ⟨ls0, by rw [upd_ne lm]; exact h4, h5⟩, h6, h0, h1'⟩
section
variable {K : PySem.W.Frag} {σ : St} {H : Hp} {m c l : Addr} {k : Int}
theorem rd_left {Q : VK} (h0 : σ[0]? = some (some (.ref m))) (M : MAt H m c l k) (q : Q (.ref l) H) : tDGet (tVar 0) (tC (.str "left")) σ H Q := by
  have z : DGet H m (.str "left") (valV (mkv c l k) (Sum.inr "left" : Key)) := DGet.k (k := Sum.inr "left") M.hm
  rw [v_left] at z
  exact ⟨_, h0, m, _, rfl, z, q⟩
theorem rd_cells {Q : VK} (h0 : σ[0]? = some (some (.ref m))) (M : MAt H m c l k) (q : Q (.ref c) H) : tDGet (tVar 0) (tC (.str "cells")) σ H Q := by
  have z : DGet H m (.str "cells") (valV (mkv c l k) (Sum.inr "cells" : Key)) := DGet.k (k := Sum.inr "cells") M.hm
  rw [v_cells] at z
  exact ⟨_, h0, m, _, rfl, z, q⟩
theorem rd_at {Q : VK} (h0 : σ[0]? = some (some (.ref m))) (M : MAt H m c l k) (q : Q (.int k) H) : tDGet (tVar 0) (tC (.str "at")) σ H Q := by
  have z : DGet H m (.str "at") (valV (mkv c l k) (Sum.inr "at" : Key)) := DGet.k (k := Sum.inr "at") M.hm
  rw [v_at] at z
  exact ⟨_, h0, m, _, rfl, z, q⟩
/-- a list of ints against the empty one -/
theorem ne_empty {Q : Bool → Hp → Prop} {a : Addr} {ls : List Int} (hl : H a = some (.lst (ls.map V.int))) (q : ∀ p, H p = none → Q (!ls.isEmpty) (upd H p (.lst []))) :
    tLst tNil σ H fun y H2 => rNeD K (.ref a) y H2 fun x H' => ∃ k, x = .bl k ∧ Q k H' := by
  refine ⟨by decide, fun p hp => ⟨.list (ls.map PyData.int), .list [], dp_list (same_upd hp _ _ hl), .lst (SqL.of upd_same) .nil, shaped_ints ls, shaped_ints [], _, rfl, ?_⟩⟩
  rw [eqv_nil]
  exact q p hp
theorem cut_one (ls : List Int) : cutV (ls.map V.int) (some 1) none = (ls.drop 1).map V.int := by
  unfold cutV
  have e1 : HT.sIx (ls.map V.int).length 0 (some 1) = min 1 (ls.map V.int).length := HT.sIx_nat _ _ 1
  rw [e1, HT.sIx_none]
  cases ls with
  | nil => rfl
  | cons x r =>
    have e2 : min 1 ((x :: r).map V.int).length = 1 := by simp
    rw [e2]
    show List.take ((x :: r).map V.int).length.pred (r.map V.int) = r.map V.int
    exact List.take_of_length_le (by simp)
end
theorem byAll {P : Int → Prop} {G : Prop} (a : (∀ x, P x) → G) (b : ∀ x, P x) : G := a b
theorem iteF' {b : Bool} {A B : Prop} (h : b = false) (q : B) : if b = true then A else B := by
  rw [h]
  exact iteF q
theorem iteT' {b : Bool} {A B : Prop} (h : b = true) (q : A) : if b = true then A else B := by
  rw [h]
  exact iteT q
theorem seq_while {tc : TT} {tb u : TS} {D : Ends} {σ : St} {H : Hp} (W : Nat → Hp → Prop) (R : Hp → Prop) {j0 : Nat} (h0 : W j0 H) (hr : ∀ H2, R H2 → u D σ H2)
    (turn : (∀ H2, R H2 → u D σ H2) → ∀ j H1, W j H1 → tc σ H1 fun b H2 => if b = true then
      ∃ N : St → Hp → Prop, (∀ σ' H', N σ' H' → ∃ j', j' < j ∧ (σ' = σ ∧ W j' H')) ∧ tb { nx := N, rt := D.rt, bk := u D, ct := N } σ H2 else u D σ H2) :
    tSeq (tWhile tc tb) u D σ H := by
  refine ⟨fun j σ' H' => σ' = σ ∧ W j H', ⟨j0, rfl, h0⟩, ?_⟩
  rintro j σ' H1 ⟨rfl, w⟩
  exact turn hr j H1 w
section
variable {P : Program} {w : World} {K : PySem.W.Frag} {mg : Str → Option Value} {base : Heap}
theorem scN : FnScope ["m", "total", "rest", "k", "cell", "mixed"] ["m", "total"] (defScope sNext) := ⟨rfl, rfl, rfl, by decide +kernel, rfl, by decide +kernel, by decide +kernel⟩
theorem ok_next {f : Addr} {fd : FuncData} (F : Fun K "_law_next" "_law_next" sNext f fd) (T : TxtD mg) : FnOk P w K mg base CX0 1 f fd ["m", "total"] spNext := by
  refine F.ok scN (fun vs H Q E h => ?_) (fun cdv A outer s H vs Q E hr h => ?_)
  · obtain ⟨m, c, l, k, n, rfl, _⟩ := h
    rfl
  · obtain ⟨m, c, l, k, n, rfl, M, n0, n1, kk, q⟩ := h
    have hu := hu_of hr
    have hu2 := hr.units
    refine ⟨_, pss_cons (ps_while PassesOwn.never
        (pw_and (pt_cmpR (op_neD hu2) (pe_dget hu (pv 0) pe_str (fun _ _ => rfl)) (pe_lst pa_nil) (nomark _))
          (pw_and1 (pt_cmpR op_eq (pe_ix ix_list (pe_dget hu (pv 0) pe_str (fun _ _ => rfl)) pe_int (fun _ _ => rfl)) pe_int (nomark _)))).pt
        (pss_one (ps_dput hu (pv 0) pe_str (pe_slice sl_list (pe_dget hu (pv 0) pe_str (fun _ _ => rfl)) (po_some pe_int) po_none) rfl)))
      (pss_cons (ps_if (pt_cmpR (op_neD hu2) (pe_dget hu (pv 0) pe_str (fun _ _ => rfl)) (pe_lst pa_nil) (nomark _))
        (pss_cons (ps_set (i := 2) scN.nd rfl (Or.inl rfl) (pe_callTy call_int1 (by rfl) T.int (by decide +kernel) (pa_cons (pe_ix ix_list (pe_dget hu (pv 0) pe_str (fun _ _ => rfl)) pe_int (fun _ _ => rfl)) pa_nil)))
        (pss_cons (ps_asg (pe_op op_fdiv (pv 2) (pv 1)) (pg_sub (pe_dget hu (pv 0) pe_str (fun _ _ => rfl)) pe_int set_list))
        (pss_one (ps_ret (pe_op op_mod (pv 2) (pv 1)))))) pss_nil)
      (pss_cons (ps_set (i := 3) scN.nd rfl (Or.inl rfl) (pe_op op_add (pe_dget hu (pv 0) pe_str (fun _ _ => rfl)) pe_int))
      (pss_cons (ps_dput hu (pv 0) pe_str (pv 3) rfl)
      (pss_cons (ps_set (i := 4) scN.nd rfl (Or.inl rfl) (pe_ifExp (pt_cmpR (op_neD hu2) (pe_dget hu (pv 0) pe_str (fun _ _ => rfl)) (pe_lst pa_nil) (nomark _))
        (pe_ix ix_list (pe_dget hu (pv 0) pe_str (fun _ _ => rfl))
          (pe_op op_mod (pe_callTy call_int1 (by rfl) T.int (by decide +kernel) (pa_cons (pv 3) pa_nil)) (pe_callB call_len_seq (by rfl) T.len PySem.boot_len (pa_cons (pe_dget hu (pv 0) pe_str (fun _ _ => rfl)) pa_nil))) (fun _ _ => rfl))
        pe_int))
      (pss_cons (ps_set (i := 5) scN.nd rfl (Or.inl rfl) (pe_op op_mul (pe_callTy call_int1 (by rfl) T.int (by decide +kernel) (pa_cons
        (pe_op op_add (pe_op op_add (pe_op op_mod (pe_callTy call_int1 (by rfl) T.int (by decide +kernel) (pa_cons (pv 4) pa_nil)) pe_int) (pe_op op_mul pe_int (pv 3))) (pe_op op_mul (pe_op op_mul pe_int (pv 3)) (pv 3))) pa_nil)) pe_int))
      (pss_cons (ps_set (i := 5) scN.nd rfl (Or.inl rfl) (pe_op op_mul (pe_callTy call_int1 (by rfl) T.int (by decide +kernel) (pa_cons
        (pe_op op_add (pe_op op_mod (pe_callTy call_int1 (by rfl) T.int (by decide +kernel) (pa_cons (pv 5) pa_nil)) pe_int) (pe_op op_mul pe_int (pv 3))) pa_nil)) pe_int))
      (pss_one (ps_ret (pe_op op_mod (pe_callTy call_int1 (by rfl) T.int (by decide +kernel) (pa_cons
        (pe_op op_fdiv (pe_op op_mod (pe_callTy call_int1 (by rfl) T.int (by decide +kernel) (pa_cons (pv 5) pa_nil)) pe_int) pe_int) pa_nil)) (pv 1)))))))))), ?_⟩
    obtain ⟨ls0, hl0, ll0⟩ := id M.hl
    refine seq_while (fun j H1 => ∃ (l1 : Addr) (ls : List Int), MAt H1 m c l1 k ∧ H1 l1 = some (.lst (ls.map V.int)) ∧ ls.length = j ∧ (l1 = l ∨ H l1 = none) ∧ (∀ b o, H b = some o → b ≠ m → b ≠ l → H1 b = some o) ∧ ∃ o, H1 l = some o)
      (fun H1 => ∃ (l1 : Addr) (ls : List Int), MAt H1 m c l1 k ∧ H1 l1 = some (.lst (ls.map V.int)) ∧ (l1 = l ∨ H l1 = none) ∧ (∀ b o, H b = some o → b ≠ m → b ≠ l → H1 b = some o))
      ⟨l, ls0, M, hl0, rfl, .inl rfl, fun b o e _ _ => e, _, hl0⟩ ?_ ?_
    · rintro H1 ⟨l1, ls, M1, hl, fl, kp⟩
      refine rd_left rfl M1 (ne_empty hl fun p hp => ?_)
      have M2 := MAt.same M1 (same_upd (o := .lst []) hp)
      have hl2 : upd H1 p (.lst []) l1 = some (.lst (ls.map V.int)) := same_upd hp _ _ hl
      cases ls with
      | cons x r =>
        refine iteT' rfl ?_
        refine rd_left rfl M2 ?_
        refine ⟨l1, _, 0, .int x, rfl, rfl, SqL.of hl2, atI_nat (j := 0) rfl, .inl ⟨x, rfl, ?_⟩⟩
        refine ⟨_, rfl, _, rfl, x, n, rfl, rfl, ⟨n0, by omega⟩, ?_⟩
        refine rd_left rfl M2 ?_
        refine ⟨l1, _, 0, 0, rfl, rfl, hl2, by simp [ixN], ?_⟩
        refine ⟨_, rfl, _, rfl, x, n, rfl, rfl, n0, ?_⟩
        show Q (.int (x % n)) _
        have hz : ((x / n) :: r).length ≤ 1000 := by
          obtain ⟨ls', e1, e2⟩ := M2.hl
          rw [hl2] at e1
          have e3 := congrArg List.length (HO.lst.inj (Option.some.inj e1))
          simp only [List.length_map] at e3
          rw [List.length_cons] at e3 ⊢
          omega
        refine q (x % n) _ l1 k (Int.emod_nonneg _ (by omega)) (Int.emod_lt_of_pos _ n0) (by omega) (M2.set hz) fl fun b o e h1 h2 => ?_
        have h3 : b ≠ l1 := by
          rcases fl with z | z
          · rw [z]
            exact h2
          · exact ne_of_none e z
        rw [upd_ne h3]
        exact same_upd hp _ _ (kp b o e h1 h2)
      | nil =>
        refine iteF' rfl ?_
        refine rd_at rfl M2 ⟨k, 1, rfl, rfl, ?_⟩
        refine ⟨_, rfl, _, rfl, m, _, rfl, DPut.k (k := Sum.inr "at") M2.hm (small1000 (by show 3 ≤ 1000; decide)), ?_⟩
        rw [p_at]
        have M3 := M2.count (k' := k + 1) (by have := M2.k0; omega) (by omega)
        obtain ⟨cs, hc, lc⟩ := id M3.hc
        have k0 := M.k0
        have kp3 : ∀ b o, H b = some o → b ≠ m → b ≠ l → upd (upd H1 p (.lst [])) m (.dK (mkv c l1 (k + 1))) b = some o := fun b o e h1 h2 => by
          rw [upd_ne h1]
          exact same_upd hp _ _ (kp b o e h1 h2)
        refine rd_cells rfl M3 (ne_empty hc fun p3 hp3 => ?_)
        have M4 := MAt.same M3 (same_upd (o := .lst []) hp3)
        have hc4 := same_upd (o := .lst []) hp3 _ _ hc
        have kp4 : ∀ b o, H b = some o → b ≠ m → b ≠ l → upd (upd (upd H1 p (.lst [])) m (.dK (mkv c l1 (k + 1)))) p3 (.lst []) b = some o := fun b o e h1 h2 => same_upd hp3 _ _ (kp3 b o e h1 h2)
        apply byAll
        case a =>
          intro fin
          by_cases he : cs.isEmpty = true
          · refine iteF' (by rw [he]; rfl) ?_
            generalize (3 : Int) = x
            exact fin x
          · refine iteT' (by simpa using he) ?_
            refine rd_cells rfl M4 ?_
            have ne0 : 0 < cs.length := List.length_pos_iff.mpr (fun z => he (by rw [z]; rfl))
            have pos : (0 : Int) < ((cs.map V.int).length : Nat) := by
              simp only [List.length_map]
              omega
            refine ⟨_, rfl, .inl ⟨k + 1, rfl, ?_⟩⟩
            refine rd_cells rfl M4 ?_
            refine ⟨c, _, rfl, .inl (SqL.of hc4), k + 1, _, rfl, rfl, pos, ?_⟩
            have i0 := Int.emod_nonneg (k + 1) (Int.ne_of_gt pos)
            have i1 := Int.emod_lt_of_pos (k + 1) pos
            obtain ⟨j, hj⟩ := Int.eq_ofNat_of_zero_le i0
            have jl : j < cs.length := by
              simp only [List.length_map] at i1 hj
              omega
            obtain ⟨x, hx⟩ : ∃ x : Int, cs[j]? = some x := ⟨cs[j], List.getElem?_eq_getElem jl⟩
            refine ⟨c, _, _, V.int x, rfl, rfl, SqL.of hc4, ?_, ?_⟩
            · rw [hj]
              refine atI_nat ?_
              rw [List.getElem?_map, hx]
              rfl
            · exact fin x
        case b =>
          intro x
          have k2 : -(2 ^ 64) < k + 1 ∧ k + 1 < 2 ^ 64 := ⟨by omega, by omega⟩
          refine ⟨_, rfl, .inl ⟨x, rfl, _, _, rfl, rfl, (by show (0 : Int) < 2147483629; decide), _, rfl, _, _, rfl, rfl, .inl ⟨by decide, by decide⟩, _, _, rfl, rfl, _, rfl, _, _, rfl, rfl, .inl ⟨by decide, by decide⟩,
            _, rfl, _, _, rfl, rfl, .inr k2, _, _, rfl, rfl, .inl ⟨_, rfl, _, _, rfl, rfl, .inr ⟨by decide, by decide⟩, ?_⟩⟩⟩
          refine ⟨_, rfl, .inl ⟨_, rfl, _, _, rfl, rfl, (by show (0 : Int) < 2147483647; decide), _, rfl, _, _, rfl, rfl, .inl ⟨by decide, by decide⟩, _, _, rfl, rfl, .inl ⟨_, rfl, _, _, rfl, rfl, .inr ⟨by decide, by decide⟩, ?_⟩⟩⟩
          refine ⟨_, rfl, .inl ⟨_, rfl, _, _, rfl, rfl, (by show (0 : Int) < 2147483587; decide), _, _, rfl, rfl, ⟨by decide, by decide⟩, .inl ⟨_, rfl, _, rfl, _, _, rfl, rfl, n0, ?_⟩⟩⟩
          exact q _ _ l1 (k + 1) (Int.emod_nonneg _ (by omega)) (Int.emod_lt_of_pos _ n0) (by omega) M4 fl kp4
    · rintro out j H1 ⟨l1, ls, M1, hl, lj, fl, kp, lo⟩
      refine rd_left rfl M1 (ne_empty hl fun p hp => ?_)
      have M2 := MAt.same M1 (same_upd (o := .lst []) hp)
      have hl2 : upd H1 p (.lst []) l1 = some (.lst (ls.map V.int)) := same_upd hp _ _ hl
      have kp2 : ∀ b o, H b = some o → b ≠ m → b ≠ l → upd H1 p (.lst []) b = some o := fun b o e h1 h2 => same_upd hp _ _ (kp b o e h1 h2)
      have lo2 : ∃ o, upd H1 p (.lst []) l = some o := lo.elim fun o e => ⟨o, same_upd hp _ _ e⟩
      cases ls with
      | nil =>
        refine iteF' rfl (iteF' rfl ?_)
        exact out _ ⟨l1, [], M2, hl2, fl, kp2⟩
      | cons x r =>
        refine iteT' rfl (rd_left rfl M2 ⟨l1, _, 0, .int x, rfl, rfl, SqL.of hl2, atI_nat (j := 0) rfl, rfl, _, rfl, ?_⟩)
        refine ite2 (fun z => ?_) (fun z => ?_)
        · refine ⟨_, fun _ _ z => z, ?_⟩
          refine rd_left rfl M2 ⟨1, rfl, l1, _, rfl, SqL.of hl2, fun p2 hp2 => ?_⟩
          have M3 : MAt (upd (upd H1 p (.lst [])) p2 (.lst (cutV ((x :: r).map V.int) (some 1) none))) m c l1 k := MAt.same M2 (same_upd hp2)
          refine ⟨_, rfl, m, _, rfl, DPut.k (k := Sum.inr "left") M3.hm (small1000 (by show 3 ≤ 1000; decide)), ?_⟩
          rw [p_left, cut_one]
          have hz : ((x :: r).drop 1).length ≤ 1000 := by
            obtain ⟨ls', e1, e2⟩ := M2.hl
            rw [hl2] at e1
            have e3 := congrArg List.length (HO.lst.inj (Option.some.inj e1))
            simp only [List.length_map] at e3
            rw [List.length_cons] at e3
            simp only [List.drop_succ_cons, List.drop_zero]
            omega
          have mp : p2 ≠ m := (ne_of_none M2.hm hp2).symm
          refine ⟨r.length, by rw [← lj]; simp, rfl, p2, r, M2.turn hp2 hz, by rw [upd_ne mp]; exact upd_same, rfl, .inr ?_, fun b o e h1 h2 => ?_, ?_⟩
          · cases q0 : H p2 with
            | none => rfl
            | some o =>
              have a2 : p2 ≠ l := by
                obtain ⟨o, e⟩ := lo2
                exact (ne_of_none e hp2).symm
              rw [kp2 p2 o q0 mp a2] at hp2
              cases hp2
          · rw [upd_ne h1]
            exact same_upd hp2 _ _ (kp2 b o e h1 h2)
          · obtain ⟨o, e⟩ := lo2
            refine ⟨o, ?_⟩
            by_cases lm : l = m
            · subst lm
              rw [M.hm] at hl0
              cases hl0
            · rw [upd_ne lm]
              exact same_upd hp2 _ _ e
        · exact out _ ⟨l1, x :: r, M2, hl2, fl, kp2⟩
theorem scB : FnScope ["script", "cell"] ["script"] (defScope sBegun) := ⟨rfl, rfl, rfl, by decide +kernel, rfl, by decide +kernel, by decide +kernel⟩
theorem ok_begun {f : Addr} {fd : FuncData} (F : Fun K "_law_begun" "_law_begun" sBegun f fd) (T : TxtD mg) : FnOk P w K mg base CX0 1 f fd ["script"] (spBegun K) := by
  refine F.ok scB (fun vs H Q E h => ?_) (fun cdv A outer s H vs Q E hr h => ?_)
  · obtain ⟨a, ns, rfl, _⟩ := h
    rfl
  · obtain ⟨a, ns, rfl, hS, hl, q⟩ := h
    refine ⟨_, pss_one (ps_ret (pe_disp (pps_cons pe_str (pe_callTy call_list_of (by rfl) T.list (by decide +kernel) (pa_cons (pv 0) pa_nil))
      (pps_cons pe_str (pe_lc (own := [("cell", 1)]) (g := gName 1) rfl scB.nd (pi_list (pv 0)) (blkOk_by (N := ["script", "cell"]) (sc := defScope sBegun) (by decide +kernel))
        (fun _ _ _ _ _ => pg_name (i := 1) scB.nd rfl (Or.inl rfl)) (fun _ _ _ _ _ => pts_one (pt_cmpR op_ge (pv 1) (pe_op op_pow pe_int pe_int) (nomark _))) (fun _ _ _ _ _ => pv 1))
      (pps_cons pe_str pe_int pps_nil))) rfl rfl (by simp) (by decide))), ?_⟩
    intro m hm
    have s1 : Same H (upd H m (.dK [])) := same_upd hm
    refine ⟨_, rfl, a, ns.map V.int, rfl, .inl (s1.seq hS), fun c hc => ?_⟩
    have s2 := s1.trans (same_upd (o := .lst (ns.map V.int)) hc)
    refine ⟨_, rfl, a, rfl, ⟨_, s2.seq hS⟩, fun l hl0 => ?_⟩
    have mc : m ≠ c := ne_of_none upd_same hc
    have hm2 : upd (upd H m (.dK [])) c (.lst (ns.map V.int)) m = some (.dK []) := by
      rw [upd_ne mc]
      exact upd_same
    have ml : m ≠ l := ne_of_none hm2 hl0
    have cl : c ≠ l := ne_of_none (upd_same) hl0
    refine lc_list (K := K) (a := a) (xs := ns.map V.int) (fun i H' => ∃ acc : List Int, H' l = some (.lst (acc.map V.int)) ∧ acc.length ≤ i ∧ ∀ b o, upd (upd H m (.dK [])) c (.lst (ns.map V.int)) b = some o → H' b = some o)
      ⟨[], upd_same, Nat.le_refl _, fun b o e => same_upd hl0 _ _ e⟩ (fun i H' _ ⟨acc, _, _, k⟩ => Same.seq (s2.trans k) hS) ?_ ?_
    · rintro i x H' hi ⟨acc, ha, la, kp⟩
      obtain ⟨z, rfl⟩ : ∃ z, x = V.int z := by
        rw [List.getElem?_map] at hi
        cases e : ns[i]? with
        | none =>
          rw [e] at hi
          cases hi
        | some z =>
          rw [e] at hi
          exact ⟨z, (Option.some.inj hi).symm⟩
      have il : i < ns.length := by
        have := (List.getElem?_eq_some_iff.mp hi).1
        simpa using this
      refine ⟨rfl, _, rfl, 10, 18, rfl, rfl, ⟨by decide, by decide, by decide⟩, _, _, rfl, rfl, _, rfl, ?_⟩
      refine ite2 (fun _ => ⟨_, rfl, acc.map V.int, ha, ?_, acc ++ [z], ?_, ?_, fun b o e => ?_⟩) (fun _ => ⟨acc, ha, Nat.le_succ_of_le la, kp⟩)
      · rw [List.length_map]
        exact small1000 (by omega)
      · rw [List.map_append]
        exact upd_same
      · simp only [List.length_append, List.length_cons, List.length_nil]
        omega
      · rw [upd_ne (ne_of_none e hl0)]
        exact kp b o e
    · rintro H' ⟨acc, ha, la, kp⟩
      rw [List.length_map] at la
      refine ⟨kp _ _ hm2, mkv c l 0, rfl, (by show 3 ≤ 15; decide), ?_⟩
      rw [mk_merge]
      have lm : l ≠ m := ml.symm
      have cm : c ≠ m := mc.symm
      refine q m c l _ ⟨upd_same, ⟨ns, by rw [upd_ne cm]; exact kp _ _ upd_same, hl⟩, ⟨acc, by rw [upd_ne lm]; exact ha, by omega⟩, cl, by decide, by decide⟩ hm (s1.free hc) (s2.free hl0) fun b o e => ?_
      rw [upd_ne (ne_of_none e hm)]
      exact kp _ _ (s2 _ _ e)
end
end K45

set_option Elab.async false
set_option linter.all false
set_option maxRecDepth 100000
set_option maxHeartbeats 4000000
/-! is_number, is_piece, is_step: of what a framing holds. -/
namespace K45
open PySem L2 L2.EV
abbrev sPc : Stmt := top 14
def sgs : List Nat := sl ("abcdefghijklmnopqrstuvwxyz0123456789@" : Str)
theorem no59 : ¬ (59 ∈ sgs) := by decide +kernel
theorem semi : sl (";" : Str) = [59] := by decide +kernel
theorem semi1 : (";" : Str).length = 1 := by decide +kernel
/-- a piece; it ends a line if last -/
def Pc (p : Str) (last : Bool) : Prop := ∃ b : List Nat, sl p = b ++ (if last = true then [59] else []) ∧ b.length + (if last = true then 1 else 0) ≤ 8 ∧ (∀ c ∈ b, c ∈ sgs) ∧ (last = false → b ≠ [])
theorem len_sl (p : Str) : p.length = (sl p).length := by
  show p.cps.size = p.cps.toList.length
  simp
theorem pc_len {p : Str} {l : Bool} (h : Pc p l) : 1 ≤ p.length ∧ p.length ≤ 8 := by
  obtain ⟨b, e, h1, _, h2⟩ := h
  rw [len_sl, e, List.length_append]
  cases l with
  | true =>
    rw [if_pos rfl] at h1 ⊢
    simp only [List.length_cons, List.length_nil]
    omega
  | false =>
    have := List.length_pos_iff.mpr (h2 rfl)
    rw [if_neg (by simp)] at h1 ⊢
    simp only [List.length_nil]
    omega
theorem at_end {p : Str} : Builtin.Str.subAt p ";" (p.length - (";" : Str).length) = (((sl p).drop ((sl p).length - 1)).take 1 == [59]) := by
  rw [StrLaws.subAt_eq, semi1, len_sl]
  show (((sl p).drop _).take 1 == sl (";" : Str)) = _
  rw [semi]
theorem pc_last {p : Str} {l : Bool} (h : Pc p l) : (decide (0 + (";" : Str).length ≤ p.length) && Builtin.Str.subAt p ";" (p.length - (";" : Str).length)) = l := by
  have z := pc_len h
  rw [at_end]
  have d : decide (0 + (";" : Str).length ≤ p.length) = true := decide_eq_true (by rw [semi1]; omega)
  rw [d, Bool.true_and]
  obtain ⟨b, e, h1, hb, h2⟩ := h
  rw [e]
  cases l with
  | true =>
    rw [if_pos rfl]
    simp
  | false =>
    rw [if_neg (by simp), List.append_nil]
    obtain ⟨M, y, rfl⟩ := SrtO.snoc_of (l := b) (List.length_pos_iff.mpr (h2 rfl))
    have hy : y ∈ sgs := hb y (by simp)
    have ne : ¬ y = 59 := fun q => no59 (q ▸ hy)
    simp [ne]
theorem pc_ends {p : Str} {l : Bool} (h : Pc p l) : Txt.endswith p ";" = l := pc_last h
theorem pc_cut {p : Str} {l : Bool} (h : Pc p l) : ∀ c ∈ sl (Txt.removesuffix p ";"), c ∈ sgs := by
  have z := pc_last h
  rw [StrLaws.removesuffix_eq]
  rw [show (decide (0 + (";" : Str).length ≤ p.length) && Builtin.Str.subAt p ";" (p.length - (";" : Str).length)) = l from z]
  obtain ⟨b, e, h1, hb, h2⟩ := h
  intro c hc
  cases l with
  | true =>
    rw [if_pos rfl] at hc e
    rw [semi1, len_sl] at hc
    have e' : p.cps.toList = b ++ [59] := e
    simp only [e, e', List.drop_zero, List.length_append, List.length_cons, List.length_nil] at hc
    have : (b ++ [59]).take (b.length + (0 + 1) - 1 - 0) = b := by simp
    rw [this] at hc
    exact hb c (by simpa using hc)
  | false =>
    rw [if_neg (by simp)] at hc
    rw [e, if_neg (by simp), List.append_nil] at hc
    exact hb c hc
/-- is_number(n, many) -/
def spNum : Sp := fun vs H Q _ => ∃ n m : Int, vs = [.int n, .int m] ∧ Q (.bl (decide (0 ≤ n) && decide (n < m))) H
/-- is_piece(p), p a piece -/
def spPc : Sp := fun vs H Q _ => ∃ (p : Str) (l : Bool), vs = [.str p] ∧ Pc p l ∧ ∀ H', Same H H' → Q (.bl true) H'
/-- what a step is -/
def Stp (x : T3) : Prop := 0 ≤ x.1 ∧ x.1 < 6 ∧ Pc x.2.1 (decide (x.2.2 = 0)) ∧ 0 ≤ x.2.2 ∧ x.2.2 < 6
/-- a step at t -/
abbrev S3 (H : Hp) (t : Addr) (x : T3) : Prop := H t = some (.tup [.int x.1, .str x.2.1, .int x.2.2])
def spStep : Sp := fun vs H Q _ => ∃ (t : Addr) (x : T3), vs = [.ref t] ∧ S3 H t x ∧ Stp x ∧ ∀ H', Same H H' → Q (.bl true) H'
structure TxtF (mg : Str → Option Value) : Prop where
  isi : mg "isinstance" = none
  int : mg "int" = none
  bool : mg "bool" = none
  str : mg "str" = none
  tuple : mg "tuple" = none
  len : mg "len" = none
  all : mg "all" = none
  signs : ∃ t, mg "SIGNS" = some (.str "abcdefghijklmnopqrstuvwxyz0123456789@" t)
  mSigns : ∃ t, mg "MOST_SIGNS" = some (.int 8 t)
section
variable {P : Program} {w : World} {K : PySem.W.Frag} {mg : Str → Option Value} {base : Heap}
theorem scPc : FnScope ["thing", "sign"] ["thing"] (defScope sPc) := ⟨rfl, rfl, rfl, by decide +kernel, rfl, by decide +kernel, by decide +kernel⟩
theorem ok_pc {f : Addr} {fd : FuncData} (F : Fun K "is_piece" "is_piece" sPc f fd) (T : TxtF mg) : FnOk P w K mg base CX0 1 f fd ["thing"] spPc := by
  refine F.ok scPc (fun vs H Q E h => ?_) (fun cdv A outer s H vs Q E hr h => ?_)
  · obtain ⟨p, l, rfl, _⟩ := h
    rfl
  · obtain ⟨p, l, rfl, hp, q⟩ := h
    obtain ⟨ts, eS⟩ := T.signs
    obtain ⟨tm, eM⟩ := T.mSigns
    refine ⟨_, pss_cons (ps_if (pw_or (pt_not (pt_val (pe_callB call_isi (by rfl) T.isi PyProof.Rows.boot_isinstance (pa_cons (pv 0) (pa_cons (pe_bltn (v := .ty "str") (by rfl) T.str (by decide +kernel) rfl) pa_nil)))))
        (pw_or1 (pt_not (pt_chain op_le op_le pe_int (pe_callB call_len_str (by rfl) T.len PySem.boot_len (pa_cons (pv 0) pa_nil)) (pe_glob (v := .int 8) (by rfl) eM ⟨_, rfl⟩))))).pt
        (pss_one (ps_ret pe_bl)) pss_nil)
      (pss_one (ps_ret (pe_callB (cr_all rfl) (by rfl) T.all (by decide +kernel) (pa_cons (pe_lc (own := [("sign", 1)]) (g := gName 1) rfl scPc.nd
        (pi_str (pe_m1 PySem.F.slot_str_removesuffix PySem.F.type_str_removesuffix mt_removesuffix (pv 0) pe_str)) (blkOk_by (N := ["thing", "sign"]) (sc := defScope sPc) (by decide +kernel))
        (fun _ _ _ _ _ => pg_name (i := 1) scPc.nd rfl (Or.inl rfl)) (fun _ _ _ _ _ => pts_nil) (fun _ _ _ _ _ => pe_cmpR op_in_sign (pv 1) (pe_glob (v := .str "abcdefghijklmnopqrstuvwxyz0123456789@") (by rfl) eS ⟨_, rfl⟩) (by rfl))) pa_nil)))), ?_⟩
    have z := pc_len hp
    refine ⟨_, rfl, .str p, .ty "str", .type "str", .type "str", true, rfl, .ty "str", .base (.str p), kit_ty (by decide +kernel), true, rfl, iteF ?_⟩
    refine ⟨.str p, rfl, p, rfl, by rw [sizeLine_eq]; omega, 1, p.length, rfl, rfl, _, rfl, iteT' (decide_eq_true (by omega)) ⟨p.length, 8, rfl, rfl, _, rfl, ?_⟩⟩
    refine iteF' (by rw [decide_eq_true (by omega)]; rfl) ?_
    refine ⟨_, rfl, ⟨p, rfl⟩, p, ";", rfl, rfl, by rw [sizeLine_eq]; omega, _, rfl, fun D hD => ?_⟩
    refine lc_it walk_str (fun i H' => H' D = some (.lst ((List.replicate i true).map V.bl)) ∧ ∀ b o, H b = some o → H' b = some o) ⟨upd_same, fun b o z => same_upd hD b o z⟩ (fun _ _ _ _ => trivial) ?_ ?_
    · rintro i x H1 H2 hi ⟨hl, kp⟩ ⟨rfl, c, hc, rfl⟩
      refine ⟨rfl, ⟨_, rfl, c, _, rfl, rfl, ?_⟩⟩
      have hm : c ∈ sgs := pc_cut hp c (List.mem_of_getElem? (by simpa using hc))
      refine ⟨_, hl, ?_, ?_, fun b o z => ?_⟩
      · rw [List.length_map, List.length_replicate, sizeLine_eq]
        have l1 := PyProof.Rows.len_removesuffix p ";"
        have l2 : (Txt.removesuffix p ";").cps.size = (Txt.removesuffix p ";").length := rfl
        omega
      · have e : decide (c ∈ ("abcdefghijklmnopqrstuvwxyz0123456789@" : Str).cps.toList) = true := decide_eq_true hm
        rw [e, List.replicate_succ', List.map_append]
        exact upd_same
      · rw [upd_ne (ne_of_none z hD)]
        exact kp b o z
    · rintro H1 ⟨hl, kp⟩
      refine ⟨D, _, rfl, SqL.of hl, ?_⟩
      rw [show (List.replicate (Txt.removesuffix p ";").cps.size true).all id = true by simp]
      exact q H1 kp
end
end K45

set_option Elab.async false
set_option linter.all false
set_option maxRecDepth 100000
set_option maxHeartbeats 4000000
/-! {elt for tg in iter if .. for tg1 in iter1 if ..}: a set of ints by a comprehension of two clauses. -/
namespace L2
namespace EV
open PySem PySem.Spec PyProof.Rows
/-- the comprehension itself -/
abbrev sc2 (elt t0 i0 t1 i1 : Expr) (f0 f1 : List Expr) (sc : Scope) (pos : Pos) : Expr := .SetComp elt [⟨t0, i0, f0, 0⟩, ⟨t1, i1, f1, 0⟩] sc pos
section
variable (elt t0 i0 t1 i1 : Expr) (f0 f1 : List Expr) (sc : Scope) (pos : Pos) (it acc : Value) (env : Env)
theorem turn_outer : compTurn (sc2 elt t0 i0 t1 i1 f0 f1 sc pos) 0 it acc env = (do
    standAt i0.pos
    match ← pyNext it with
    | none => pure (.done .next)
    | some u =>
      letOwnedTupleGo t0 it u
      assign t0 env u
      let mut go := true
      for c in f0 do
        if go then go ← isTrue c env (eval c env)
      if go then
        let xs ← eval i1 env
        standAt i1.pos
        let xs ← foldedSetIterable i1 env xs
        let _ ← runOwn (.compStart (sc2 elt t0 i0 t1 i1 f0 f1 sc pos) 1 (← holding [xs] (pyIter xs)) acc env) env
      again (.compLoop (sc2 elt t0 i0 t1 i1 f0 f1 sc pos) 0 it acc env)) := by rfl
theorem turn_inner : compTurn (sc2 elt t0 i0 t1 i1 f0 f1 sc pos) 1 it acc env = (do
    standAt i1.pos
    match ← pyNext it with
    | none => pure (.done .next)
    | some u =>
      letOwnedTupleGo t1 it u
      assign t1 env u
      let mut go := true
      for c in f1 do
        if go then go ← isTrue c env (eval c env)
      if go then
        (do let y ← eval elt env; standAt elt.pos; let _ ← call (.builtin "set.add") [acc, y])
      again (.compLoop (sc2 elt t0 i0 t1 i1 f0 f1 sc pos) 1 it acc env)) := by rfl
end
section
variable {prog : Program} {w : World} {A : Around} {R : Result → Shared → Prop} {s : Shared} {elt t0 i0 t1 i1 : Expr} {f0 f1 : List Expr} {sc : Scope} {pos : Pos} {it acc : Value} {env : Env}
/-- what is wanted of an error in the block -/
abbrev Erx (prog : Program) (w : World) (A : Around) (env : Env) (R : Result → Shared → Prop) : Value → Shared → Prop := notedBy (model prog w) A env fun e s' => R (.error e) s'
/-- the tests of a clause -/
abbrev tests (fs : List Expr) (env : Env) : Sem Bool := forIn fs true fun c r => if r = true then do let ok ← isTrue c env (eval c env); pure (ForInStep.yield ok) else pure (ForInStep.yield r)
theorem loop_outer (fold : ∀ x, foldedSetIterable i1 env x = pure x) (J : Nat → Shared → Prop)
    (turn : ∀ n s, J n s → wpAny (model prog w) A (pyNext it) (fun r s1 => match r with
      | none => R (.ok .next) s1
      | some u => wpAny (model prog w) A (letOwnedTupleGo t0 it u) (fun _ s2 => wpAny (model prog w) A (assign t0 env u) (fun _ s3 => wpAny (model prog w) A (tests f0 env) (fun ok s4 =>
          if ok = true then wpAny (model prog w) A (eval i1 env) (fun xs s5 => wpAny (model prog w) A (pyIter xs) (fun itv s6 =>
            codeAny (model prog w) A (.compStart (sc2 elt t0 i0 t1 i1 f0 f1 sc pos) 1 itv acc env) (fun r s' => (∃ fl, r = .ok fl) ∧ ∃ m, m < n ∧ J m s') s6) (Erx prog w A env R) s5) (Erx prog w A env R) s4
          else ∃ m, m < n ∧ J m s4) (Erx prog w A env R) s3) (Erx prog w A env R) s2) (Erx prog w A env R) s1) (Erx prog w A env R) s) (n : Nat) (h : J n s) :
    codeAny (model prog w) A (.compLoop (sc2 elt t0 i0 t1 i1 f0 f1 sc pos) 0 it acc env) R s := by
  refine codeAny_loop rfl J (fun n s hJ => ?_) n h
  show wpAny _ A ((compTurn (sc2 elt t0 i0 t1 i1 f0 f1 sc pos) 0 it acc env).onRaise (fun x => do noteFrame x env; theTreesLotGoes x)) _ _ s
  refine wpAny_noted ?_
  rw [turn_outer]
  refine wpAny_bind (wpAny_standAt (wpAny_bind (wpAny_mono (turn n s hJ) (fun r s1 q1 => ?_) fun _ _ z => z)))
  cases r with
  | none => exact wpAny_pure q1
  | some u =>
    refine wpAny_bind (wpAny_mono q1 (fun _ s2 q2 => ?_) fun _ _ z => z)
    refine wpAny_bind (wpAny_mono q2 (fun _ s3 q3 => ?_) fun _ _ z => z)
    refine wpAny_bind (wpAny_mono q3 (fun ok s4 q4 => ?_) fun _ _ z => z)
    cases ok with
    | false => exact wpAny_pure ⟨rfl, q4⟩
    | true =>
      refine wpAny_bind (wpAny_mono q4 (fun xs s5 q5 => ?_) fun _ _ z => z)
      refine wpAny_bind (wpAny_standAt (wpAny_bind (wpAny_of_eq (fold xs) ?_)))
      refine wpAny_bind (wpAny_holding (wpAny_mono q5 (fun itv s6 q6 => ?_) fun _ _ z => z))
      refine wpAny_bind (wpAny_runOwn ?_)
      rw [Around.mark_none]
      refine codeAny_mono q6 fun r s' hr => ?_
      obtain ⟨⟨fl, rfl⟩, hm⟩ := hr
      first
        | exact wpAny_pure ⟨rfl, hm⟩
        | exact wpAny_bind (wpAny_pure (wpAny_pure ⟨rfl, hm⟩))
theorem loop_inner (J : Nat → Shared → Prop)
    (turn : ∀ n s, J n s → wpAny (model prog w) A (pyNext it) (fun r s1 => match r with
      | none => R (.ok .next) s1
      | some u => wpAny (model prog w) A (letOwnedTupleGo t1 it u) (fun _ s2 => wpAny (model prog w) A (assign t1 env u) (fun _ s3 => wpAny (model prog w) A (tests f1 env) (fun ok s4 =>
          if ok = true then wpAny (model prog w) A (eval elt env) (fun y s5 => wpAny (model prog w) A (call (.builtin "set.add") [acc, y]) (fun _ s6 => ∃ m, m < n ∧ J m s6) (Erx prog w A env R) s5) (Erx prog w A env R) s4
          else ∃ m, m < n ∧ J m s4) (Erx prog w A env R) s3) (Erx prog w A env R) s2) (Erx prog w A env R) s1) (Erx prog w A env R) s) (n : Nat) (h : J n s) :
    codeAny (model prog w) A (.compLoop (sc2 elt t0 i0 t1 i1 f0 f1 sc pos) 1 it acc env) R s := by
  refine codeAny_loop rfl J (fun n s hJ => ?_) n h
  show wpAny _ A ((compTurn (sc2 elt t0 i0 t1 i1 f0 f1 sc pos) 1 it acc env).onRaise (fun x => do noteFrame x env; theTreesLotGoes x)) _ _ s
  refine wpAny_noted ?_
  rw [turn_inner]
  refine wpAny_bind (wpAny_standAt (wpAny_bind (wpAny_mono (turn n s hJ) (fun r s1 q1 => ?_) fun _ _ z => z)))
  cases r with
  | none => exact wpAny_pure q1
  | some u =>
    refine wpAny_bind (wpAny_mono q1 (fun _ s2 q2 => ?_) fun _ _ z => z)
    refine wpAny_bind (wpAny_mono q2 (fun _ s3 q3 => ?_) fun _ _ z => z)
    refine wpAny_bind (wpAny_mono q3 (fun ok s4 q4 => ?_) fun _ _ z => z)
    cases ok with
    | false => exact wpAny_pure ⟨rfl, q4⟩
    | true =>
      refine wpAny_bind (wpAny_bind (wpAny_mono q4 (fun y s5 q5 => ?_) fun _ _ z => z))
      refine wpAny_bind (wpAny_standAt (wpAny_bind (wpAny_mono q5 (fun _ s6 q6 => ?_) fun _ _ z => z)))
      exact wpAny_pure (wpAny_pure ⟨rfl, q6⟩)
/-- a clause's start: its walk is begun already, or begins here -/
theorem start_inner (h0 : codeAny (model prog w) A (.compLoop (sc2 elt t0 i0 t1 i1 f0 f1 sc pos) 1 it acc env) R s)
    (h : wpAny (model prog w) A (pyIter it) (fun itv s' => codeAny (model prog w) A (.compLoop (sc2 elt t0 i0 t1 i1 f0 f1 sc pos) 1 itv acc env) R s') (Erx prog w A env R) s) :
    codeAny (model prog w) A (.compStart (sc2 elt t0 i0 t1 i1 f0 f1 sc pos) 1 it acc env) R s := by
  refine codeAny_of_tree ?_
  show wpAny _ _ ((compStart (sc2 elt t0 i0 t1 i1 f0 f1 sc pos) 1 it acc env).onRaise (fun x => do noteFrame x env; standAt theWindowsPlace)) _ _ s
  refine wpAny_notedAt ?_
  unfold compStart
  show wpAny _ _ (ask >>= _) _ _ s
  refine wpAny_bind (wpAny_askSetting (wpAny_ite ?_))
  split
  · first
      | exact wpAny_bind (wpAny_pure (wpAny_pure (And.intro rfl h0)))
      | exact wpAny_pure (And.intro rfl h0)
  · refine wpAny_bind (wpAny_rule ?_)
    show wpAny _ _ (standAt i1.pos >>= _) _ _ s
    exact wpAny_bind (wpAny_standAt (wpAny_bind (wpAny_mono h (fun itv s' q => wpAny_pure (And.intro rfl q)) fun _ _ z => z)))
end
/-- the set at D has got y -/
def addedS (w : World) (D : Addr) (y : V) (H : Hp) (N : Hp → Prop) : Prop := ∃ (k : Int) (S : Int → Bool) (n : Nat), y = .int k ∧ H D = some (SetO w D S n) ∧ n + 1 < scanBound ∧
  N (upd H D (SetO w D (fun j => S j || decide (j = k)) (if S k = true then n else n + 1)))
/-- the reading: D the new set; behind the first clause's store and tests the second walk, from which Nx is reached -/
def tSc2 (w : World) (wi : TI) (g : TG) (tt : TT) (wi1 : TI) (g1 : TG) (tt1 : TT) (te : TE) (vs vs1 : List Nat) : TE := fun σ H Q => wi σ H fun J H1 => ∀ D, H1 D = none →
  ∃ W : Nat → Nat → Hp → Prop, (∃ m, W 0 m (upd H1 D (SetO w D (fun _ => false) 0))) ∧ ∀ i m H, W i m H →
    (J.stop i H ∧ Q (.ref D) H) ∨ (J.go i H ∧ ∃ Nx : Hp → Prop, (∀ H', Nx H' → ∃ m', m' < m ∧ W (i + 1) m' H') ∧ ∀ x H', J.yld i H x H' → g x (wipe σ vs) H' fun σ2 H2 => wipe σ2 vs = wipe σ vs ∧ tt σ2 H2 fun b H3 =>
      if b = true then wi1 σ2 H3 fun J1 H4 => ∃ W1 : Nat → Nat → Hp → Prop, (∃ m, W1 0 m H4) ∧ ∀ j k H, W1 j k H →
        (J1.stop j H ∧ Nx H) ∨ (J1.go j H ∧ ∃ Nx1 : Hp → Prop, (∀ H', Nx1 H' → ∃ k', k' < k ∧ W1 (j + 1) k' H') ∧ ∀ x H', J1.yld j H x H' → g1 x (wipe σ2 vs1) H' fun σ3 H5 => wipe σ3 vs1 = wipe σ2 vs1 ∧ tt1 σ3 H5 fun b H6 =>
          if b = true then te σ3 H6 fun y H7 => addedS w D y H7 Nx1 else Nx1 H6)
      else Nx H3)
section
variable {X : Cx}
theorem add_in {pins : List (Addr × Obj)} {σ : L2.St} {H : Hp} {s : Shared} {D : Addr} {y : V} {u : Value} {N : Hp → Prop} {Q : Value → Shared → Prop} (I : Inv X pins σ H s) (r : RelV y u) (a : addedS X.w D y H N)
    (h : ∀ H' s', Inv X pins σ H' s' → N H' → Q .none s') : wpAny (model X.prog X.w) X.A (call (.builtin "set.add") [.ref D, u]) Q X.xe s := by
  obtain ⟨k, S, n, rfl, hD, room, nx⟩ := a
  refine thn (mt_sadd pins s σ H (.ref D) [.int k] (.ref D) [u] (fun v H' => v = .non ∧ N H') I rfl (.cons r .nil) ⟨D, k, S, n, rfl, rfl, hD, room, rfl, nx⟩) fun v s' q => ?_
  obtain ⟨v', H', I', rv, rfl, nx'⟩ := q
  obtain rfl : v = Value.none := rv
  exact h H' s' I' nx'
variable {elt tg iter tg1 iter1 : Expr} {ifs ifs1 : List Expr} {scope : Scope} {own : List (Str × Nat)} {vs1 : List Nat} {pos : Pos} {wi wi1 : TI} {g g1 : TG} {tt tt1 : TT} {te : TE}
theorem pe_sc2 (hc : X.calm = true) (hN : X.N.Nodup) (hi : PI X tg iter wi) (ok : BlkOk X.N X.env.scope scope own) (hv : ∀ i ∈ vs1, i ∈ own.map (·.2))
    (blk : ∀ (s : Shared) (H : Hp) (C : Addr) (cl : List (Str × Addr)) (fp : List Addr), PG (X.blk s H scope (compEnvC scope cl C X.env) fp) tg g ∧ PTs (X.blk s H scope (compEnvC scope cl C X.env) fp) ifs tt ∧
      PI (X.blk s H scope (compEnvC scope cl C X.env) fp) tg1 iter1 wi1 ∧ PG (X.blk s H scope (compEnvC scope cl C X.env) fp) tg1 g1 ∧ PTs (X.blk s H scope (compEnvC scope cl C X.env) fp) ifs1 tt1 ∧
      PE (X.blk s H scope (compEnvC scope cl C X.env) fp) elt te)
    (fold : ∀ x, foldedSetIterable iter X.env x = pure x := by intro _; rfl) (fold1 : ∀ env x, foldedSetIterable iter1 env x = pure x := by intro _ _; rfl) :
    PE X (sc2 elt tg iter tg1 iter1 ifs ifs1 scope pos) (tSc2 X.w wi g tt wi1 g1 tt1 te (own.map (·.2)) vs1) := by
  refine ⟨fun pins s σ H Q I h => ?_⟩
  rw [PpSet.eval_SetComp]
  have cellOf : ∀ y ∈ scope.names, y.2 = .free → ∃ c, X.env.cells.lookup y.1 = some c := fun y hy e => (ok.free y hy e).elim (fun k => I.ok.has _ (.inl k)) fun k => I.ok.has _ (.inr k)
  refine wpAny_comprehension_free (use := none) rfl fold (closure_ok cellOf) ok.kind (fun y hy e => by rw [ok.uniq y hy, e]) (thn (hi.run pins s σ H _ I h) fun xv s1 hx => thn hx fun itv s2 h2 => ?_)
  obtain ⟨it, fp, tn, J, H2, e, I2, T, st2, f2, q⟩ := h2
  subst e
  refine PpSet.newSet_ok (newEnv_comp ?_)
  generalize hD : s2.heap.objs.size = D
  have freeD : H2 D = none := I2.hok.fresh (Nat.le_of_eq hD)
  obtain ⟨W, ⟨m0, w0⟩, turn⟩ := q D freeD
  generalize hso : ({ cls := .type "set", dict := none, data := .set #[] 0 (.fresh 0 0 (!X.w.params.followText "set-order")) } : Obj) = so
  have keepSo : ∀ b o, s2.heap.get? b = some o → (s2.heap.push so).get? b = some o := fun b o e => Heap.get?_push_of_some _ e
  have I3 : Inv X pins σ (upd H2 D (SetO X.w D (fun _ => false) 0)) { s2 with heap := s2.heap.push so } := by
    refine I2.laid (t' := s2.toks) keepSo (Nat.le_of_eq hD) ?_
    rw [← hD, ← hso]
    exact setO_new (setR_fresh X.w)
  generalize hs3 : ({ s2 with heap := s2.heap.push so } : Shared) = s3 at I3 ⊢
  have h3 : s3.heap = s2.heap.push so := by rw [← hs3]
  have below : ∀ b ∈ fp, b < s2.heap.objs.size := fun b hb => (T.obj _ _ st2 b hb).elim fun o e => Heap.lt_size e.1
  generalize hH3 : upd H2 D (SetO X.w D (fun _ => false) 0) = H3 at I3 w0 ⊢
  have f3 : ∀ b ∈ fp, FpOk X pins H3 b ∧ b < s3.heap.objs.size := fun b hb => by
    have lt := below b hb
    refine ⟨⟨?_, (f2 b hb).2⟩, by rw [h3, Heap.size_push]; exact Nat.lt_succ_of_lt lt⟩
    rw [← hH3, upd_ne (by rw [← hD]; exact Nat.ne_of_lt lt)]
    exact (f2 b hb).1
  have st3 : tn 0 s3.heap := T.keep _ _ _ st2 fun b _ o e => by rw [h3]; exact keepSo b o e
  have I4 := block_start I3 ok hN f3
  obtain ⟨pg, pt, pi1, pg1, pt1, pe⟩ := blk s3 H3 s3.heap.objs.size (cellsFrom (s3.heap.objs.size + 1) scope.names (cloFrom X.env.cells scope.names [])) fp
  show codeAny _ _ (.compStart (sc2 elt tg iter tg1 iter1 ifs ifs1 scope pos) 0 (.ref it) (.ref D) (compEnvC scope (cellsFrom (s3.heap.objs.size + 1) scope.names (cloFrom X.env.cells scope.names [])) s3.heap.objs.size X.env))
    (compPost (model X.prog X.w) X.A X.xe none (EP X pins σ Q) (.ref D) s3.heap.objs.size) { s3 with heap := pushCells (s3.heap.push { cls := .type "dict", data := .dict #[] }) scope.names }
  generalize hce : compEnvC scope (cellsFrom (s3.heap.objs.size + 1) scope.names (cloFrom X.env.cells scope.names [])) s3.heap.objs.size X.env = ce at I4 pg pt pi1 pg1 pt1 pe ⊢
  have locals : ce.locals = s3.heap.objs.size := by
    subst hce
    rfl
  generalize hs4 : ({ s3 with heap := pushCells (s3.heap.push { cls := .type "dict", data := .dict #[] }) scope.names } : Shared) = s4 at I4 ⊢
  have st4 : tn 0 s4.heap := T.keep _ _ _ st3 fun b _ o e => by
    rw [← hs4]
    exact pushCells_keeps _ _ _ _ (Heap.get?_push_of_some _ e)
  have clearOf : ∀ {H' : Hp}, H3 = H' → ∀ b ∈ fp, H' b = none := fun e b hb => by
    rw [← e]
    exact (f3 b hb).1.1
  -- a record of the outer walk, within the block
  have outer : ∀ {σ' : L2.St} {H' : Hp} {s' : Shared}, Inv (X.blk s3 H3 scope ce fp) [] σ' H' s' → (∀ b ∈ fp, H' b = none) → ∀ b ∈ fp, FpOk (X.blk s3 H3 scope ce fp) [] H' b := fun I' clear b hb =>
    ⟨clear b hb, (I'.ok.exf b hb).1, I'.ok.exfs b hb, .inl hb, fun x c e => (I'.ok.exf b hb).2 x c e, fun p hp => by simp at hp⟩
  -- what the outer loop keeps
  let Keep : Nat → Shared → Prop := fun n s' => ∃ i H', Inv (X.blk s3 H3 scope ce fp) [] (wipe σ (own.map (·.2))) H' s' ∧ tn i s'.heap ∧ (∀ b ∈ fp, H' b = none) ∧ W i n H'
  have loop : codeAny (model X.prog X.w) X.A (.compLoop (sc2 elt tg iter tg1 iter1 ifs ifs1 scope pos) 0 (.ref it) (.ref D) ce) (compPost (model X.prog X.w) X.A X.xe none (EP X pins σ Q) (.ref D) s3.heap.objs.size) s4 := by
    refine loop_outer (fold1 ce) Keep ?_ m0 ⟨0, H3, I4, st4, clearOf rfl, w0⟩
    rintro n s5 ⟨i, H5, I5, st5, n5, w5⟩
    rcases turn i n H5 w5 with ⟨stop, done⟩ | ⟨go, Nx, hNx, one⟩
    · refine thnF (T.done (X.blk s3 H3 scope ce fp) rfl rfl rfl hc i [] s5 _ H5 (fun _ _ => False) I5 (outer I5 n5) st5 stop) fun r s6 ⟨hr, I6⟩ => ?_
      subst hr
      have I7 : Inv X pins σ H5 s6 := I3.call' (ch := fp) I6.os I6.base I6.hok I6.bare fun b hb => by
        obtain ⟨⟨z1, z2, z3, z4, z5, z6⟩, _⟩ := f3 b hb
        exact ⟨z4, z2, z5, z6⟩
      have free5 : H5 s3.heap.objs.size = none := by
        have z : H5 ce.locals = none := I6.free
        rw [locals] at z
        exact z
      obtain ⟨m, hn, _⟩ := I6.loc
      have hn : s6.heap.Ns ce.locals m := hn
      rw [locals] at hn
      obtain ⟨y0, y1, y2, y3, y4, y5⟩ := I3.fpOk (Nat.le_refl _) free5
      refine ⟨m, hn, fun h'' sb => ?_⟩
      exact ⟨.ref D, H5, I7.turned (t' := s6.toks) (fun b o nb e => (sb.2 b nb).trans e) y0 y1 y3 y4 y5, rfl, done⟩
    · refine thnF (T.item (X.blk s3 H3 scope ce fp) rfl rfl rfl hc i [] s5 _ H5 (fun _ _ => False) I5 (outer I5 n5) st5 go) fun r s6 ⟨u, hr, h6⟩ => ?_
      subst hr
      refine thnF h6 fun _ s7 ⟨x, H7, I7, r7, y7, st7, n7⟩ => ?_
      refine thnF (pg.run _ s7 _ H7 x u _ (I7.pinned (outer I7 n7) (T.obj _ _ st7)) r7 (one x H7 y7)) fun _ s8 ⟨σ8, H8, I8, hw8, q8⟩ => ?_
      refine thnF (pt.run _ s8 σ8 H8 _ I8 q8) fun b s9 ⟨H9, I9, q9⟩ => ?_
      have len8 : (wipe σ (own.map (·.2))).length = σ8.length := by rw [← hw8, wipe_length]
      have know8 : ∀ (j : Nat) v, (wipe σ (own.map (·.2)))[j]? = some (some v) → σ8[j]? = some (some v) ∧ j ∉ own.map (·.2) := fun j v e => by
        rw [← hw8] at e
        exact wipe_some e
      -- the turn's end, from any slots that know what the block knew
      have fin : ∀ {σ9 : L2.St} {s' : Shared} {H' : Hp}, Inv (X.blk s3 H3 scope ce fp) ([] ++ pinsAt fp s7.heap) σ9 H' s' → (wipe σ (own.map (·.2))).length = σ9.length →
          (∀ (j : Nat) v, (wipe σ (own.map (·.2)))[j]? = some (some v) → σ9[j]? = some (some v)) → Nx H' → ∃ m, m < n ∧ Keep m s' := fun {σ9 s' H'} I' hl hk nx => by
        obtain ⟨m', lt, w'⟩ := hNx H' nx
        have pinned : ∀ b ∈ fp, ∀ o, s7.heap.get? b = some o → s'.heap.get? b = some o ∧ H' b = none := fun b hb o e => by
          have z := I'.pin (b, o) (List.mem_append_right _ (List.mem_append_right _ (mem_pinsAt hb e)))
          exact ⟨z.1, z.2.1⟩
        refine ⟨m', lt, i + 1, H', (I'.unpinned (pins := [])).weak hl hk, T.keep _ _ _ st7 fun b hb o e => (pinned b hb o e).1, fun b hb => ?_, w'⟩
        obtain ⟨o, e, _⟩ := T.obj _ _ st7 b hb
        exact (pinned b hb o e).2
      cases b with
      | false =>
        simp only [Bool.false_eq_true, if_false] at q9 ⊢
        exact fin I9 len8 (fun j v e => (know8 j v e).1) q9
      | true =>
        simp only [if_true] at q9 ⊢
        refine thnF (pi1.run _ s9 σ8 H9 _ I9 q9) fun xv s10 hx => thnF hx fun itv s11 h11 => ?_
        obtain ⟨it1, fp1, tn1, J1, H11, e1, I11, T1, st11, f11, W1, ⟨m1, w1⟩, turn1⟩ := h11
        subst e1
        have inner : ∀ {H' : Hp}, (∀ b ∈ fp1, H' b = none) → ∀ b ∈ fp1, FpOk (X.blk s3 H3 scope ce fp) ([] ++ pinsAt fp s7.heap) H' b := fun clear b hb => ⟨clear b hb, (f11 b hb).2⟩
        let Keep1 : Nat → Shared → Prop := fun k s' => ∃ j H', Inv (X.blk s3 H3 scope ce fp) ([] ++ pinsAt fp s7.heap) (wipe σ8 vs1) H' s' ∧ tn1 j s'.heap ∧ (∀ b ∈ fp1, H' b = none) ∧ W1 j k H'
        have loop1 : codeAny (model X.prog X.w) X.A (.compLoop (sc2 elt tg iter tg1 iter1 ifs ifs1 scope pos) 1 (.ref it1) (.ref D) ce) (fun r s' => (∃ fl, r = .ok fl) ∧ ∃ m, m < n ∧ Keep m s') s11 := by
          refine loop_inner Keep1 ?_ m1 ⟨0, H11, I11.weak (wipe_length _ _) (fun j v e => (wipe_some e).1), st11, fun b hb => (f11 b hb).1, w1⟩
          rintro k s12 ⟨j, H12, I12, st12, n12, w12⟩
          rcases turn1 j k H12 w12 with ⟨stop1, nx1⟩ | ⟨go1, Nx1, hNx1, one1⟩
          · refine thnF (T1.done (X.blk s3 H3 scope ce fp) rfl rfl rfl hc j _ s12 (wipe σ8 vs1) H12 (fun _ _ => False) I12 (inner n12) st12 stop1) fun r s13 ⟨hr, I13⟩ => ?_
            subst hr
            refine ⟨⟨_, rfl⟩, fin I13 (len8.trans (wipe_length σ8 vs1).symm) (fun j v e => ?_) nx1⟩
            obtain ⟨z1, z2⟩ := know8 j v e
            rw [wipe_out fun z => z2 (hv j z)]
            exact z1
          · refine thnF (T1.item (X.blk s3 H3 scope ce fp) rfl rfl rfl hc j _ s12 (wipe σ8 vs1) H12 (fun _ _ => False) I12 (inner n12) st12 go1) fun r s13 ⟨u1, hr, h13⟩ => ?_
            subst hr
            refine thnF h13 fun _ s14 ⟨x1, H14, I14, r14, y14, st14, n14⟩ => ?_
            refine thnF (pg1.run _ s14 (wipe σ8 vs1) H14 x1 u1 _ (I14.pinned (inner n14) (T1.obj _ _ st14)) r14 (one1 x1 H14 y14)) fun _ s15 ⟨σ15, H15, I15, hw15, q15⟩ => ?_
            refine thnF (pt1.run _ s15 σ15 H15 _ I15 q15) fun b1 s16 ⟨H16, I16, q16⟩ => ?_
            have fin1 : ∀ {s' : Shared} {H' : Hp}, Inv (X.blk s3 H3 scope ce fp) (([] ++ pinsAt fp s7.heap) ++ pinsAt fp1 s14.heap) σ15 H' s' → Nx1 H' → ∃ m, m < k ∧ Keep1 m s' := fun {s' H'} I' nx => by
              obtain ⟨m', lt, w'⟩ := hNx1 H' nx
              have pinned : ∀ b ∈ fp1, ∀ o, s14.heap.get? b = some o → s'.heap.get? b = some o ∧ H' b = none := fun b hb o e => by
                have z := I'.pin (b, o) (List.mem_append_right _ (List.mem_append_right _ (mem_pinsAt hb e)))
                exact ⟨z.1, z.2.1⟩
              refine ⟨m', lt, j + 1, H', I'.unpinned.weak (by rw [← hw15, wipe_length]) (fun j v e => by rw [← hw15] at e; exact (wipe_some e).1), T1.keep _ _ _ st14 fun b hb o e => (pinned b hb o e).1, fun b hb => ?_, w'⟩
              obtain ⟨o, e, _⟩ := T1.obj _ _ st14 b hb
              exact (pinned b hb o e).2
            cases b1 with
            | false =>
              simp only [Bool.false_eq_true, if_false] at q16 ⊢
              exact fin1 I16 q16
            | true =>
              simp only [if_true] at q16 ⊢
              refine thnF (pe.run _ s16 σ15 H16 _ I16 q16) fun z s17 ⟨yv, H17, I17, r17, ad⟩ => ?_
              exact thnF (add_in (X := X.blk s3 H3 scope ce fp) (Q := fun _ s' => ∃ m, m < k ∧ Keep1 m s') I17 r17 ad fun H' s18 I18 nx => fin1 I18 nx) fun _ _ z => z
        exact start_inner loop1 (T1.self X.A 0 _ _ _ st11 loop1)
  exact PpSet.codeAny_compStart_set loop (T.self X.A 0 _ _ _ st4 loop)
end
end EV
end L2

set_option Elab.async false
set_option linter.all false
set_option maxRecDepth 100000
set_option maxHeartbeats 4000000
/-! enumerate over a tuple. -/
namespace PySem
open Sem (wp)
open AutoSeq1 (wpAny_loadPart')
theorem meets_enumerate_newT (l : Addr) (items : Array Value) (n : Nat) (dct : Option Addr) (sl : Array (Option Value)) :
    Meets (Builtin.«enumerate.__new__» ⟨[.type "enumerate", .ref l], []⟩) (fun _ R s => s.heap.get? l = some { cls := .type "tuple", dict := dct, data := .seq items n, slots := sl } ∧
      R (.ok (.ret (.ref (s.heap.push { cls := .type "tuple_iterator", data := .fields #[.ref l, .int 0 0] }).objs.size)))
        { s with heap := (s.heap.push { cls := .type "tuple_iterator", data := .fields #[.ref l, .int 0 0] }).push { cls := .type "enumerate", data := .fields #[.none, .bool false, .ref s.heap.objs.size, rawInt 0, .none, .none] } }) :=
  .of_wp fun prog w A R s h => by
    obtain ⟨hp, g, d, tk, os⟩ := s; obtain ⟨hl, h⟩ := h
    have hsub := sub_enumerate
    have hL : Heap.IsTuple (Shared.heap ⟨hp, g, d, tk, os⟩) l items := ⟨_, hl, rfl, n, rfl⟩
    wp_walk using wpAny_loadPart' hl
    refine wpAny_stack_any fun st => wpAny_pure ?_
    split
    · rename_i c _ _ _ _ _
      cases (c == Value.type "enumerate")
      · wp_walk using wpAny_loadPart' hl, wpAny_pyIter_tuple hL
        exact ⟨_, rfl, h⟩
      · wp_walk using wpAny_loadPart' hl, wpAny_pyIter_tuple hL
        exact ⟨_, rfl, h⟩
    · wp_walk using wpAny_loadPart' hl, wpAny_pyIter_tuple hL
      exact ⟨_, rfl, h⟩
section
variable {prog : Program} {w : World} {A : Around} {E : Value → Shared → Prop} {s : Shared}
theorem call_enumerate_tuple {l : Addr} {items : Array Value} {Q : Value → Shared → Prop} (hL : s.heap.IsTuple l items)
    (h : ∀ h', IsEnum h' (s.heap.objs.size + 1) s.heap.objs.size 0 .none → h'.IsTupleIter s.heap.objs.size l 0 → h'.objs.size = s.heap.objs.size + 2 →
      (∀ b o, s.heap.get? b = some o → h'.get? b = some o) → Q (.ref (s.heap.objs.size + 1)) { s with heap := h' }) :
    wpAny (model prog w) A (call (.type "enumerate") [.ref l]) Q E s := by
  obtain ⟨⟨c, dct, dt, sl⟩, hl, hc, n, hd⟩ := hL
  replace hc : c = .type "tuple" := hc
  replace hd : dt = .seq items n := hd
  subst hc hd
  refine callType_new F.called_enumerate (by decide) (F.typeCall_enumerate_1 _) (F.newCall_enumerate_1 _) (fun obj => F.args_object_init_2 obj _) F.entry_enumerate_new
    (meets_enumerate_newT l items n dct sl) ⟨hl, ?_⟩
  have hz : (s.heap.push { cls := .type "tuple_iterator", data := .fields #[.ref l, .int 0 0] }).objs.size = s.heap.objs.size + 1 := Heap.size_push ..
  show _ ∧ _
  rw [hz]
  have he : IsEnum ((s.heap.push { cls := .type "tuple_iterator", data := .fields #[.ref l, .int 0 0] }).push
      { cls := .type "enumerate", data := .fields #[.none, .bool false, .ref s.heap.objs.size, rawInt 0, .none, .none] }) (s.heap.objs.size + 1) s.heap.objs.size 0 .none := by
    have := Heap.get?_push_size (s.heap.push { cls := .type "tuple_iterator", data := .fields #[.ref l, .int 0 0] })
      (o := { cls := .type "enumerate", data := .fields #[.none, .bool false, .ref s.heap.objs.size, rawInt 0, .none, .none] }) rfl
    rw [hz] at this; exact this
  refine ⟨⟨_, he, rfl⟩, h _ he ⟨_, Heap.get?_push_of_some _ (Heap.get?_push_size _ rfl), rfl, rfl⟩ (by rw [Heap.size_push, hz]) fun b o x => Heap.get?_push_of_some _ (Heap.get?_push_of_some _ x)⟩
end
end PySem
namespace L2
open PySem PySem.Spec PyProof.Rows
def IteT (K : PySem.W.Frag) (a : Addr) : It :=
  ⟨fun i H => ∃ (xs : List V) (x : V), SqT K H a xs ∧ xs[i]? = some x, fun i H v H' => ∃ T x, v = .ref T ∧ H T = none ∧ H' = upd H T (.tup [.int (i : Nat), x]) ∧ ∀ xs, SqT K H a xs → xs[i]? = some x, fun i H => ∃ xs : List V, SqT K H a xs ∧ xs.length = i⟩
theorem turn_enumT {P : Program} {w : World} {K : PySem.W.Frag} {elts : List Expr} {kk : Nat} {tpos : Pos} (a e it : Addr) (hai : a ≠ it) (hae : a ≠ e) :
    Turn P w K (.Tuple elts kk tpos) (IteT K a) [e, it] e (fun i h => (∃ old, IsEnum h e it ((i : Nat) : Int) old) ∧ h.IsTupleIter it a i ∧ e ≠ it) where
  mem := by simp
  obj := fun i h st b hb => by
    obtain ⟨⟨old, he⟩, ⟨o, ho, hc, hd⟩, _⟩ := st
    have e' : b = e ∨ b = it := by simpa using hb
    rcases e' with z | z
    · rw [z]; exact ⟨_, he, fun v q => nomatch q⟩
    · rw [z]; exact ⟨o, ho, fun v q => by rw [hd] at q; cases q⟩
  keep := fun i h h' st k => let ⟨⟨old, he⟩, hi, hne⟩ := st; ⟨⟨old, k e (by simp) _ he⟩, hi.at fun o q => k it (by simp) o q, hne⟩
  item := by
    intro X hP hw hK hc i pins s σ H E I hf st hg
    subst hP hw hK
    obtain ⟨⟨old, he⟩, hit, hne⟩ := st
    obtain ⟨xs, x, hq, hx⟩ := hg
    obtain ⟨its, rv, p, hz⟩ := I.tuple hq
    obtain ⟨u, hu, ru⟩ := rv.get hx
    have hel : e < s.heap.objs.size := Heap.lt_size he
    have hil : it < s.heap.objs.size := by obtain ⟨_, q, _⟩ := hit; exact Heap.lt_size q
    have hlt : i < its.toArray.size := by
      have := (List.getElem?_eq_some_iff.mp hu).1
      simpa using this
    refine wpAny_pyNext_enum_itemD (Draws.tuple (A := X.A.in1) (show X.A.in1.handled = none from I.ok.hd hc) it a hai its.toArray) he ⟨hit, show s.heap.IsTuple a its.toArray from p⟩ hlt hne (by simp [hne, Ne.symm hae]) fun u' h' tk hu' ho st' hT hsz hk => ?_
    have e0 : u' = u := by
      have q1 : its[i]? = some u' := by simpa using hu'
      rw [hu] at q1
      exact (Option.some.inj q1).symm
    subst e0
    obtain ⟨hit', _⟩ := st'
    refine ⟨_, rfl, wpAny_letOwnedTupleGo_enum (s := { s with heap := h', toks := tk + 1 }) ho fun h'' he' sb => ?_⟩
    have hT2 : h''.get? s.heap.objs.size = some { cls := .type "tuple", data := .seq #[.int i tk, u'] } := (sb.2 _ (Nat.ne_of_gt hel)).trans hT
    have new : ObjOk X.prog X.w (upd H s.heap.objs.size (.tup [.int (i : Nat), x])) h'' s.heap.objs.size (.tup [.int (i : Nat), x]) :=
      ⟨by show 2 ≤ sizeLine; decide, [.int i tk, u'], .cons ⟨_, rfl⟩ (.cons ru .nil), ⟨_, hT2, rfl, _, rfl⟩⟩
    have I1 : Inv X pins σ (upd H s.heap.objs.size (.tup [.int (i : Nat), x])) { s with heap := h'', toks := tk + 1 } :=
      I.turnedNew (ch := [e, it]) (fun b ob hb q => (sb.2 b (fun z => hb (by simp [z]))).trans (hk b ob (fun z => hb (by simp [z])) (fun z => hb (by simp [z])) q)) hf (Nat.le_refl _) new
    refine ⟨.ref s.heap.objs.size, _, I1, rfl, ⟨_, x, rfl, I.hok.fresh (Nat.le_refl _), rfl, fun ys hy => by rw [I.tuple_inj hy hq]; exact hx⟩, ⟨⟨u', ?_⟩, hit'.at fun o q => (sb.2 it (Ne.symm hne)).trans q, hne⟩, fun b hb => ?_⟩
    · have e1 : ((i + 1 : Nat) : Int) = (i : Int) + 1 := by omega
      rw [e1]; exact he'
    · have hb' : b < s.heap.objs.size := by
        have e' : b = e ∨ b = it := by simpa using hb
        rcases e' with z | z
        · rw [z]; exact hel
        · rw [z]; exact hil
      rw [upd_ne (Nat.ne_of_lt hb')]
      exact (hf b hb).1
  done := by
    intro X hP hw hK hc i pins s σ H E I hf st hg
    subst hP hw hK
    obtain ⟨⟨old, he⟩, hit, hne⟩ := st
    obtain ⟨xs, hq, hx⟩ := hg
    obtain ⟨its, rv, p, hz⟩ := I.tuple hq
    obtain ⟨f0, f1, f2, f3, f4, f5⟩ := hf it (by simp)
    have hl := rv.length
    have hn : its.toArray.size = i := by simp; omega
    exact wpAny_pyNext_enum_endD (Draws.tuple (A := X.A.in1) (show X.A.in1.handled = none from I.ok.hd hc) it a hai its.toArray) he ⟨hn.symm ▸ hit, show s.heap.IsTuple a its.toArray from p⟩ fun h' eb => ⟨rfl, I.turned (t' := s.toks) (fun b o hb q => eb b o hb q) f0 f1 f3 f4 f5⟩
  self := fun A i s Q E st h => let ⟨⟨_, he⟩, _⟩ := st; wpAny_pyIter_enum he h
def iEnumT (K : PySem.W.Frag) (ta : TA) : TI := fun σ H R => ta σ H fun vs H1 => ∃ a xs, vs = [.ref a] ∧ SqT K H1 a xs ∧ R (IteT K a) H1
theorem pi_enumT {X : Cx} {e : Expr} {ta : TA} {p pos tpos : Pos} {elts : List Expr} {kk : Nat} (hg : Gl X "enumerate") (hm : X.mg "enumerate" = none) (ha : PA X [e] ta) (hs : starEach [e] X.env = [(false, eval e X.env)] := by rfl) :
    PI X (.Tuple elts kk tpos) (.Call (.Name "enumerate" p) [e] [] pos) (iEnumT X.K ta) := by
  refine ⟨fun pins s σ H R I h => ?_⟩
  refine Call_ (ld_blt I hg hm boot_enumerate (PyProof.Rows.callWith_type1 (thn (ha.run pos pins s σ H _ I h) fun us s1 ⟨vs, H1, I1, r1, q1⟩ => ?_) hs rfl))
  obtain ⟨a, xs, ex, hq, q⟩ := q1
  subst ex
  cases r1 with
  | cons r rr =>
    cases rr
    cases r
    obtain ⟨its, rv, p', hz⟩ := I1.tuple hq
    have hal : a < s1.heap.objs.size := by
      obtain ⟨o, q, _⟩ := id p'
      exact Heap.lt_size q
    refine call_enumerate_tuple (show s1.heap.IsTuple a its.toArray from p') fun h' he hit hsz hk => wpAny_pyIter_enum he ?_
    have I2 : Inv X pins σ H1 { s1 with heap := h' } := I1.kept (t' := s1.toks) hk
    refine ⟨s1.heap.objs.size + 1, [s1.heap.objs.size + 1, s1.heap.objs.size], _, _, H1, rfl, I2, turn_enumT a (s1.heap.objs.size + 1) s1.heap.objs.size (Nat.ne_of_lt hal) (Nat.ne_of_lt (Nat.lt_succ_of_lt hal)), ⟨⟨.none, he⟩, hit, Nat.succ_ne_self _⟩, fun b hb => ?_, q⟩
    have e' : b = s1.heap.objs.size + 1 ∨ b = s1.heap.objs.size := by simpa using hb
    have hle : s1.heap.objs.size ≤ b := by
      rcases e' with z | z
      · rw [z]; exact Nat.le_add_right _ _
      · rw [z]; exact Nat.le_refl _
    exact I1.fpOk hle (I1.hok.fresh hle)
theorem walk_enumT {K : PySem.W.Frag} {a : Addr} {xs : List V} : Walk (IteT K a) xs.length (fun H => SqT K H a xs) (YPair (fun i => some (.int (i : Nat))) (fun i => xs[i]?)) := by
  refine ⟨fun i _ hi q => ⟨xs, xs[i], q, by simp [hi]⟩, fun _ q => ⟨xs, q, rfl⟩, fun i H v H' _ q y => ?_⟩
  obtain ⟨T, x, h1, h2, h3, h4⟩ := y
  exact ⟨T, .int (i : Nat), x, h1, h2, h3, rfl, h4 xs q⟩
end L2

set_option Elab.async false
set_option linter.all false
set_option maxRecDepth 100000
set_option maxHeartbeats 4000000
/-! Framings; listed_standings. -/
namespace K45
open PySem L2 L2.EV
abbrev sListed : Stmt := top 15
/-- a framing at f -/
def FrA (H : Hp) (f : Addr) (fr : List T3) : Prop := ∃ ts : List Addr, H f = some (.tup (ts.map V.ref)) ∧ ts.length = fr.length ∧ ∀ (i : Nat) t x, ts[i]? = some t → fr[i]? = some x → S3 H t x
theorem FrA.same {H H' : Hp} {f : Addr} {fr : List T3} (h : FrA H f fr) (s : Same H H') : FrA H' f fr := by
  obtain ⟨ts, e, l, c⟩ := h
  exact ⟨ts, s _ _ e, l, fun i t x h1 h2 => s _ _ (c i t x h1 h2)⟩
structure Frm (fr : List T3) (last : Nat) : Prop where
  l0 : 1 ≤ fr.length
  l1 : fr.length ≤ 16
  stp : ∀ x ∈ fr, Stp x
  srt : fr.Pairwise (fun x y => lt3 x y = true)
  ring : ∀ k : Nat, k ≤ last → ∃ x ∈ fr, x.1 = (k : Int) ∧ x.2.2 = (if k < last then (k : Int) + 1 else 0)
  lo : ∀ x ∈ fr, x.1 ≤ last ∧ x.2.2 ≤ last
  l5 : last ≤ 5
/-- a framing's bounds -/
structure Fb (fr : List T3) (last : Nat) : Prop where
  l1 : fr.length ≤ 16
  lo : ∀ x ∈ fr, 0 ≤ x.1 ∧ x.1 ≤ last ∧ 0 ≤ x.2.2 ∧ x.2.2 ≤ last
  l5 : last ≤ 5
/-- what is closed under the steps, from b on, holds all standings -/
theorem Frm.all {fr : List T3} {last : Nat} (F : Frm fr last) {S : Int → Prop} {b : Nat} (hb : b ≤ last) (c0 : ∀ x ∈ fr, x.1 = (b : Int) → S x.2.2) (c : ∀ x ∈ fr, S x.1 → S x.2.2) : ∀ k : Nat, k ≤ last → S k := by
  have up : ∀ j : Nat, b + j ≤ last → j = 0 ∨ S ((b + j : Nat) : Int) := by
    intro j
    induction j with
    | zero => exact fun _ => .inl rfl
    | succ j ih =>
      intro h
      obtain ⟨x, hx, e1, e2⟩ := F.ring (b + j) (by omega)
      rw [if_pos (by omega)] at e2
      have e3 : (((b + (j + 1) : Nat)) : Int) = ((b + j : Nat) : Int) + 1 := by omega
      rw [e3, ← e2]
      refine .inr ?_
      rcases ih (by omega) with z | z
      · subst z
        exact c0 x hx (by simpa using e1)
      · exact c x hx (by rw [e1]; exact z)
  have s0 : S 0 := by
    obtain ⟨x, hx, e1, e2⟩ := F.ring last (Nat.le_refl _)
    rw [if_neg (by omega)] at e2
    rw [← e2]
    obtain ⟨j, rfl⟩ := Nat.le.dest hb
    rcases up j (Nat.le_refl _) with z | z
    · subst z
      exact c0 x hx (by simpa using e1)
    · exact c x hx (by rw [e1]; exact z)
  intro k
  induction k with
  | zero => exact fun _ => s0
  | succ k ih =>
    intro h
    obtain ⟨x, hx, e1, e2⟩ := F.ring k (by omega)
    rw [if_pos (by omega)] at e2
    have e3 : ((k + 1 : Nat) : Int) = (k : Int) + 1 := by omega
    rw [e3, ← e2]
    exact c x hx (by rw [e1]; exact ih (by omega))
theorem sc_it {J : It} {n : Nat} {G : Hp → Prop} {Y : Nat → Hp → V → Hp → Prop} (w : Walk J n G Y) {H0 : Hp} {Qd : Hp → Prop} {body : V → Hp → (Hp → Prop) → Prop} (Pv : Nat → Hp → Prop) (h0 : Pv 0 H0) (hG : ∀ i H, i ≤ n → Pv i H → G H)
    (hs : ∀ i x H H', i < n → Pv i H → Y i H x H' → body x H' (Pv (i + 1))) (hd : ∀ H, Pv n H → Qd H) :
    ∃ W : Nat → Nat → Hp → Prop, (∃ m, W 0 m H0) ∧ ∀ i m H, W i m H → (J.stop i H ∧ Qd H) ∨ (J.go i H ∧ ∃ Nx : Hp → Prop, (∀ H', Nx H' → ∃ m', m' < m ∧ W (i + 1) m' H') ∧ ∀ x H', J.yld i H x H' → body x H' Nx) := by
  refine ⟨fun i m H => m = n - i ∧ i ≤ n ∧ Pv i H, ⟨n, by simp, Nat.zero_le _, h0⟩, ?_⟩
  rintro i m H ⟨rfl, hi, p⟩
  have q := hG i H hi p
  by_cases hlt : i < n
  · exact .inr ⟨w.goes i H hlt q, Pv (i + 1), fun H' p' => ⟨n - (i + 1), by omega, rfl, hlt, p'⟩, fun x H' y => hs i x H H' hlt p (w.yields i H x H' hlt q y)⟩
  · have e : i = n := by omega
    subst e
    exact .inl ⟨w.stops H q, hd H p⟩
theorem at_step {H : Hp} {ts : List Addr} {fr : List T3} {i : Nat} {x : V} (hl : ts.length = fr.length) (ht : ∀ (i : Nat) t x, ts[i]? = some t → fr[i]? = some x → S3 H t x) (hx : (ts.map V.ref)[i]? = some x) :
    ∃ t y, fr[i]? = some y ∧ x = .ref t ∧ S3 H t y := by
  rw [List.getElem?_map] at hx
  cases e : ts[i]? with
  | none =>
    rw [e] at hx
    cases hx
  | some t =>
    rw [e] at hx
    have il : i < fr.length := by
      have := (List.getElem?_eq_some_iff.mp e).1
      omega
    exact ⟨t, fr[i], List.getElem?_eq_getElem il, (Option.some.inj hx).symm, ht i t _ e (List.getElem?_eq_getElem il)⟩
/-- listed_standings(framing): a new list of numbers up to last -/
def spListed : Sp := fun vs H Q _ => ∃ (f : Addr) (fr : List T3) (last : Nat), vs = [.ref f] ∧ FrA H f fr ∧ Fb fr last ∧
  ∀ (H' : Hp) (p : Addr) (ns : List Int), Same H H' → H p = none → H' p = some (.lst (ns.map V.int)) → ns.length ≤ 32 → (∀ k ∈ ns, 0 ≤ k ∧ k ≤ last) → (∀ x ∈ fr, x.1 ∈ ns ∧ x.2.2 ∈ ns) → (∀ k ∈ ns, ∃ x ∈ fr, x.1 = k ∨ x.2.2 = k) → Q (.ref p) H'
theorem pe_sc2s {X : Cx} {elt tg iter tg1 iter1 : Expr} {ifs ifs1 : List Expr} {scope : Scope} {own : List (Str × Nat)} {vs1 : List Nat} {pos : Pos} {wi wi1 : TI} {g g1 : TG} {tt tt1 : TT} {te : TE} (hc : X.calm = true) (hN : X.N.Nodup) (hi : PI X tg iter wi) (ok : BlkOk X.N X.env.scope scope own) (hv : ∀ i ∈ vs1, i ∈ own.map (·.2))
    (b1 : ∀ (s : Shared) (H : Hp) (C : Addr) (cl : List (Str × Addr)) (fp : List Addr), PG (X.blk s H scope (compEnvC scope cl C X.env) fp) tg g)
    (b2 : ∀ (s : Shared) (H : Hp) (C : Addr) (cl : List (Str × Addr)) (fp : List Addr), PTs (X.blk s H scope (compEnvC scope cl C X.env) fp) ifs tt)
    (b3 : ∀ (s : Shared) (H : Hp) (C : Addr) (cl : List (Str × Addr)) (fp : List Addr), PI (X.blk s H scope (compEnvC scope cl C X.env) fp) tg1 iter1 wi1)
    (b4 : ∀ (s : Shared) (H : Hp) (C : Addr) (cl : List (Str × Addr)) (fp : List Addr), PG (X.blk s H scope (compEnvC scope cl C X.env) fp) tg1 g1)
    (b5 : ∀ (s : Shared) (H : Hp) (C : Addr) (cl : List (Str × Addr)) (fp : List Addr), PTs (X.blk s H scope (compEnvC scope cl C X.env) fp) ifs1 tt1)
    (b6 : ∀ (s : Shared) (H : Hp) (C : Addr) (cl : List (Str × Addr)) (fp : List Addr), PE (X.blk s H scope (compEnvC scope cl C X.env) fp) elt te)
    (fold : ∀ x, foldedSetIterable iter X.env x = pure x := by intro _; rfl) (fold1 : ∀ env x, foldedSetIterable iter1 env x = pure x := by intro _ _; rfl) :
    PE X (.SetComp elt [⟨tg, iter, ifs, 0⟩, ⟨tg1, iter1, ifs1, 0⟩] scope pos) (tSc2 X.w wi g tt wi1 g1 tt1 te (own.map (·.2)) vs1) :=
  pe_sc2 hc hN hi ok hv (fun s H C cl fp => ⟨b1 s H C cl fp, b2 s H C cl fp, b3 s H C cl fp, b4 s H C cl fp, b5 s H C cl fp, b6 s H C cl fp⟩) fold fold1
theorem same_set {D : Addr} {H H' : Hp} {o : HO} (hD : H D = none) (k : Same H H') : Same H (upd H' D o) := fun b u e => by
  rw [upd_ne (ne_of_none e hD)]
  exact k _ _ e
theorem scan64 : 64 < scanBound := by decide +kernel
section
variable {P : Program} {w : World} {K : PySem.W.Frag} {mg : Str → Option Value} {base : Heap}
theorem scListed : FnScope ["framing", "start", "piece", "goal", "standing"] ["framing"] (defScope sListed) := ⟨rfl, rfl, rfl, by decide +kernel, rfl, by decide +kernel, by decide +kernel⟩
theorem ok_listed {f : Addr} {fd : FuncData} (F : Fun K "listed_standings" "listed_standings" sListed f fd) (hs : mg "sorted" = none) : FnOk P w K mg base CX0 1 f fd ["framing"] spListed := by
  refine F.ok scListed (fun vs H Q E h => ?_) (fun cdv A outer s H vs Q E hr h => ?_)
  · obtain ⟨f, fr, last, rfl, _⟩ := h
    rfl
  · obtain ⟨f, fr, last, rfl, fa, fm, q⟩ := h
    refine ⟨_, pss_one (ps_ret (pe_callB (cr_sortedSet rfl) (by rfl) hs (by decide +kernel) (pa_cons (pe_sc2s (g := gTup K 3 (gCons (gName 1) (gCons (gName 2) (gCons (gName 3) gNil)))) (tt := tYes) (wi1 := iTup K (tTup (tCons (tVar 1) (tCons (tVar 3) tNil)))) (g1 := gName 4) (tt1 := tYes) (te := tVar 4) (own := [("start", 1), ("piece", 2), ("goal", 3), ("standing", 4)]) (vs1 := [4]) rfl scListed.nd (pi_tup (pv 0))
      (blkOk_by (N := ["framing", "start", "piece", "goal", "standing"]) (sc := defScope sListed) (by decide +kernel)) (by decide)
      (fun _ _ _ _ _ => pg_tup rfl (pgs_cons (pg_name (i := 1) scListed.nd rfl (Or.inl rfl)) (pgs_cons (pg_name (i := 2) scListed.nd rfl (Or.inl rfl)) (pgs_cons (pg_name (i := 3) scListed.nd rfl (Or.inl rfl)) pgs_nil)))) (fun _ _ _ _ _ => pts_nil)
      (fun _ _ _ _ _ => pi_tup (pe_tup (pa_cons (pv 1) (pa_cons (pv 3) pa_nil)))) (fun _ _ _ _ _ => pg_name (i := 4) scListed.nd rfl (Or.inl rfl)) (fun _ _ _ _ _ => pts_nil) (fun _ _ _ _ _ => pv 4)) pa_nil))), ?_⟩
    obtain ⟨ts, hf, hl, ht⟩ := id fa
    refine ⟨_, rfl, f, rfl, ⟨_, SqT.of hf⟩, fun D hD => ?_⟩
    refine sc_it (walk_tup (xs := ts.map V.ref)) (fun i H' => Same H H' ∧ ∃ (S : Int → Bool) (n : Nat), H' D = some (SetO w D S n) ∧ n ≤ 2 * i ∧ (∀ k, S k = true → 0 ≤ k ∧ k ≤ last ∧ ∃ x ∈ fr, x.1 = k ∨ x.2.2 = k) ∧ ∀ x ∈ fr.take i, S x.1 = true ∧ S x.2.2 = true)
      ⟨same_upd hD, _, _, upd_same, Nat.le_refl _, (fun k z => by cases z), fun x z => by cases z⟩ (fun i H' _ z => SqT.of (z.1 _ _ hf)) ?_ ?_
    · rintro i x H1 H2 hi ⟨sm, S, n, hS, hn, hk, hall⟩ ⟨rfl, hx⟩
      obtain ⟨t, y, hy, rfl, e3⟩ := at_step (i := i) hl ht hx
      have e4 : H2 t = _ := sm _ _ e3
      obtain ⟨b1, b5, b3, b6⟩ := fm.lo y (List.mem_of_getElem? hy)
      refine ⟨t, _, rfl, SqT.of e4, rfl, _, _, rfl, _, _, rfl, _, _, rfl, rfl, rfl, ?_⟩
      refine ⟨_, rfl, _, rfl, (by show 2 ≤ sizeLine; decide), fun p hp => ⟨p, rfl, ⟨_, SqT.of upd_same⟩, ?_⟩⟩
      refine sc_it (walk_tup (xs := [V.int y.1, V.int y.2.2])) (fun j H' => Same H H' ∧ H' p = some (.tup [V.int y.1, V.int y.2.2]) ∧ ∃ (S : Int → Bool) (n : Nat), H' D = some (SetO w D S n) ∧ n ≤ 2 * i + j ∧ (∀ k, S k = true → 0 ≤ k ∧ k ≤ last ∧ ∃ x ∈ fr, x.1 = k ∨ x.2.2 = k) ∧ (∀ x ∈ fr.take i, S x.1 = true ∧ S x.2.2 = true) ∧ (0 < j → S y.1 = true) ∧ (1 < j → S y.2.2 = true))
        ⟨fun b u e => same_upd hp _ _ (sm _ _ e), upd_same, S, n, by rw [upd_ne (ne_of_none hS hp)]; exact hS, hn, hk, hall, (fun z => absurd z (by omega)), fun z => absurd z (by omega)⟩ (fun j H' _ z => SqT.of z.2.1) ?_ ?_
      · rintro j x H2 H3 hj ⟨sm2, hp2, S2, n2, hS2, hn2, hk2, ha2, hy1, hy2⟩ ⟨rfl, hx2⟩
        have hj2 : j < 2 := hj
        obtain ⟨k, rfl, k0, k1, kj0, kj1⟩ : ∃ k : Int, x = .int k ∧ 0 ≤ k ∧ k ≤ last ∧ (j = 0 → k = y.1) ∧ (j = 1 → k = y.2.2) := by
          match j, hj2 with
          | 0, _ => exact ⟨y.1, (Option.some.inj hx2).symm, b1, b5, fun _ => rfl, fun z => by cases z⟩
          | 1, _ => exact ⟨y.2.2, (Option.some.inj hx2).symm, b3, b6, (fun z => by cases z), fun _ => rfl⟩
        have sc := scan64
        have l1 := fm.l1
        have hi2 : i < fr.length := (List.getElem?_eq_some_iff.mp hy).1
        refine ⟨rfl, _, rfl, k, S2, n2, rfl, hS2, by omega, same_set hD sm2, ?_, _, _, upd_same, ?_, (fun k2 z => ?_), (fun x2 z2 => ?_), (fun z2 => ?_), fun z2 => ?_⟩
        · rw [upd_ne (ne_of hp2 hS2 (fun z => by cases z))]
          exact hp2
        · split <;> omega
        · rw [Bool.or_eq_true] at z
          rcases z with z | z
          · exact hk2 k2 z
          · have e5 : k2 = k := of_decide_eq_true z
            rw [e5]
            exact ⟨k0, k1, y, List.mem_of_getElem? hy, by
              rcases (show j = 0 ∨ j = 1 by omega) with c | c
              · exact .inl (kj0 c).symm
              · exact .inr (kj1 c).symm⟩
        · obtain ⟨c1, c2⟩ := ha2 x2 z2
          exact ⟨by rw [c1, Bool.true_or], by rw [c2, Bool.true_or]⟩
        · by_cases c : j = 0
          · rw [kj0 c, decide_eq_true rfl, Bool.or_true]
          · rw [hy1 (by omega), Bool.true_or]
        · have c : j = 1 := by omega
          rw [kj1 c, decide_eq_true rfl, Bool.or_true]
      · rintro H2 ⟨sm2, hp2, S2, n2, hS2, hn2, hk2, ha2, hy1, hy2⟩
        refine ⟨sm2, S2, n2, hS2, ?_, hk2, fun x2 z2 => ?_⟩
        · have hn3 : n2 ≤ 2 * i + 2 := hn2
          omega
        · have il := (List.getElem?_eq_some_iff.mp hy).1
          rw [List.take_succ, hy] at z2
          rcases List.mem_append.mp z2 with z2 | z2
          · exact ha2 x2 z2
          · have e9 : x2 = y := by simpa using z2
            rw [e9]
            exact ⟨hy1 (by simp), hy2 (by simp)⟩
    · rintro H1 ⟨sm, S, n, hS, hn, hk, hall⟩
      refine ⟨D, S, n, rfl, hS, ?_, fun ns p _ h2 h3 h4 => ?_⟩
      · have := fm.l1
        simp only [List.length_map] at hn
        omega
      · refine q _ p ns ?_ ?_ upd_same ?_ ?_ ?_ ?_
        · exact fun b u e => by
            rw [upd_ne (ne_of_none (sm _ _ e) h4)]
            exact sm _ _ e
        · exact sm.free h4
        · have := fm.l1
          simp only [List.length_map] at hn
          omega
        · exact fun k z => ⟨(hk k ((h2 k).mp z)).1, (hk k ((h2 k).mp z)).2.1⟩
        · intro x hx
          have e9 : fr.take (ts.map V.ref).length = fr := by rw [List.length_map, hl, List.take_length]
          rw [e9] at hall
          exact ⟨(h2 _).mpr (hall x hx).1, (h2 _).mpr (hall x hx).2⟩
        · exact fun k z => (hk k ((h2 k).mp z)).2.2
end
end K45

set_option Elab.async false
set_option linter.all false
set_option maxRecDepth 100000
set_option maxHeartbeats 4000000
/-! ways_from: all standings are found. -/
namespace K45
open PySem L2 L2.EV
abbrev sWays : Stmt := top 16
abbrev has (kvs : List (Key × V)) (g : Int) : Bool := (valV kvs (Sum.inl g : Key)).isSome
/-- ways_from(framing, b): a new dict that has all standings -/
def spWays : Sp := fun vs H Q _ => ∃ (f : Addr) (fr : List T3) (last b : Nat) (S : Int → Prop), vs = [.ref f, .int b] ∧ FrA H f fr ∧ Fb fr last ∧ b ≤ last ∧ (∀ x ∈ fr, x.1 = (b : Int) → S x.2.2) ∧ (∀ x ∈ fr, S x.1 → S x.2.2) ∧
  ∀ (H' : Hp) (d : Addr) (kvs : List (Key × V)), Same H H' → H d = none → H' d = some (.dK kvs) → (∀ x ∈ fr, (x.1 = (b : Int) ∨ has kvs x.1 = true) → has kvs x.2.2 = true) → (∀ g : Int, has kvs g = true → S g) → Q (.ref d) H'
/-- the standings up to last that are not found -/
def miss (last : Nat) (kvs : List (Key × V)) : Nat := ((List.range (last + 1)).filter fun k : Nat => !has kvs k).length
theorem miss_le {last : Nat} {kvs : List (Key × V)} : miss last kvs ≤ last + 1 := by
  have := List.length_filter_le (fun k : Nat => !has kvs k) (List.range (last + 1))
  rw [List.length_range] at this
  exact this
theorem filt_lt {α : Type} {p q : α → Bool} : ∀ {l : List α} {a : α}, a ∈ l → p a = true → q a = false → (∀ x, q x = true → p x = true) → (l.filter q).length < (l.filter p).length
  | x :: l, a, hm, hp, hq, h => by
    have le : ∀ m : List α, (m.filter q).length ≤ (m.filter p).length := fun m => by
      induction m with
      | nil => exact Nat.le_refl _
      | cons y m ih =>
        rw [List.filter_cons, List.filter_cons]
        by_cases z : q y = true
        · rw [if_pos z, if_pos (h y z), List.length_cons, List.length_cons]
          omega
        · rw [if_neg z]
          split
          · rw [List.length_cons]
            omega
          · exact ih
    rw [List.filter_cons, List.filter_cons]
    rcases List.mem_cons.mp hm with z | z
    · subst z
      rw [if_pos hp, if_neg (by rw [hq]; simp), List.length_cons]
      have := le l
      omega
    · have ih := filt_lt z hp hq h
      by_cases y : q x = true
      · rw [if_pos y, if_pos (h x y), List.length_cons, List.length_cons]
        omega
      · rw [if_neg y]
        split
        · rw [List.length_cons]
          omega
        · exact ih
theorem has_put {kvs : List (Key × V)} {g k : Int} {v : V} : has (putK kvs (Sum.inl g) v) k = (decide (k = g) || has kvs k) := by
  unfold has
  rw [valV_put]
  by_cases e : k = g
  · subst e
    rw [if_pos rfl, decide_eq_true rfl]
    rfl
  · rw [if_neg (fun z => e (Sum.inl.inj z)), decide_eq_false e, Bool.false_or]
theorem miss_put {last : Nat} {kvs : List (Key × V)} {g : Int} {v : V} (h0 : 0 ≤ g) (h1 : g ≤ last) (n : has kvs g = false) : miss last (putK kvs (Sum.inl g) v) < miss last kvs := by
  obtain ⟨a, rfl⟩ := Int.eq_ofNat_of_zero_le h0
  refine filt_lt (a := a) (List.mem_range.mpr (by omega)) (by simp only [n, Bool.not_false]) ?_ ?_
  · rw [has_put, decide_eq_true rfl]
    rfl
  · intro x hx
    rw [has_put] at hx
    cases z : has kvs x with
    | false => rfl
    | true =>
      rw [z] at hx
      simp at hx
/-- the rows: tuples of a way and a standing -/
def Rows (H : Hp) (last n : Nat) (ps : List (Addr × Int)) : Prop := ∀ q ∈ ps, 0 ≤ q.2 ∧ q.2 ≤ last ∧ ∃ (wy : Addr) (xs : List V), H q.1 = some (.tup [.ref wy, .int q.2]) ∧ H wy = some (.tup xs) ∧ xs.length ≤ n
def KeepT (H H' : Hp) : Prop := ∀ a xs, H a = some (.tup xs) → H' a = some (.tup xs)
theorem Rows.keep {H H' : Hp} {last n m : Nat} {ps : List (Addr × Int)} (h : Rows H last n ps) (k : KeepT H H') (l : n ≤ m) : Rows H' last m ps := fun q hq => by
  obtain ⟨h0, h1, wy, xs, e1, e2, e3⟩ := h q hq
  exact ⟨h0, h1, wy, xs, k _ _ e1, k _ _ e2, Nat.le_trans e3 l⟩
theorem Same.keepT {H H' : Hp} (s : Same H H') : KeepT H H' := fun a xs e => s _ _ e
theorem KeepT.trans {H H' H2 : Hp} (a : KeepT H H') (b : KeepT H' H2) : KeepT H H2 := fun x xs e => b _ _ (a _ _ e)
theorem keepT_upd {H : Hp} {d : Addr} {o : HO} {o' : HO} (e : H d = some o') (n : ∀ xs, o' ≠ .tup xs) : KeepT H (upd H d o) := fun a xs h => by
  by_cases z : a = d
  · subst z
    rw [e] at h
    exact absurd (Option.some.inj h) (n xs)
  · rw [upd_ne z]
    exact h
/-- t + u, u not empty: the result is somewhere, all else stays -/
def rCatS (K : PySem.W.Frag) : R2 := fun x y H Q => ∃ a b xs ys, x = .ref a ∧ y = .ref b ∧ SqT K H a xs ∧ H b = some (.tup ys) ∧ ys ≠ [] ∧ xs.length + ys.length ≤ sizeLine ∧ ∀ p H', Same H H' → H' p = some (.tup (xs ++ ys)) → Q (.ref p) H'
theorem op_catS {X : Cx} : OpR X (binaryOp .Add) (rCatS X.K) := by
  intro pins s σ H x y v u Q I rx ry h
  obtain ⟨a, b, xs, ys, rfl, rfl, ha, hb, hn, hz, q⟩ := h
  refine op_catA pins s σ H _ _ v u Q I rx ry ⟨a, b, xs, ys, rfl, rfl, ha, SqT.of hb, hz, fun z => ?_, fun _ z => absurd z hn, fun _ _ p hp => q p _ (same_upd hp) upd_same⟩
  subst z
  exact q b H (fun _ _ e => e) (by rw [hb]; rfl)
structure Co (H0 H : Hp) (d r u : Addr) (last m0 : Nat) (ps qs : List (Addr × Int)) (kvs : List (Key × V)) : Prop where
  sm : Same H0 H
  hd : H d = some (.dK kvs)
  hr : H r = some (.lst (ps.map fun q => V.ref q.1))
  hu : H u = some (.lst (qs.map fun q => V.ref q.1))
  rp : Rows H last kvs.length ps
  rq : Rows H last kvs.length qs
  cnt : kvs.length + miss last kvs ≤ last + 1
  me : (qs = [] ∧ miss last kvs ≤ m0) ∨ miss last kvs < m0
  ql : qs.length ≤ kvs.length
theorem Co.same {H0 H H' : Hp} {d r u : Addr} {last m0 : Nat} {ps qs : List (Addr × Int)} {kvs : List (Key × V)} (C : Co H0 H d r u last m0 ps qs kvs) (s : Same H H') : Co H0 H' d r u last m0 ps qs kvs :=
  ⟨C.sm.trans s, s _ _ C.hd, s _ _ C.hr, s _ _ C.hu, C.rp.keep (Same.keepT s) (Nat.le_refl _), C.rq.keep (Same.keepT s) (Nat.le_refl _), C.cnt, C.me, C.ql⟩
/-- what is reached from a standing that stands in the rows, or is found -/
def Clo (fr : List T3) (b : Nat) (kvs : List (Key × V)) (open_ : Int → T3 → Prop) : Prop := ∀ x ∈ fr, (x.1 = (b : Int) ∨ has kvs x.1 = true) → open_ x.1 x ∨ has kvs x.2.2 = true
def Sd (S : Int → Prop) (b : Nat) (ps : List (Addr × Int)) : Prop := ∀ q ∈ ps, q.2 = (b : Int) ∨ S q.2
def Sk (S : Int → Prop) (kvs : List (Key × V)) : Prop := ∀ g : Int, has kvs g = true → S g
section
variable {P : Program} {w : World} {K : PySem.W.Frag} {mg : Str → Option Value} {base : Heap}
theorem scWays : FnScope ["framing", "begin", "found", "rows", "further", "way", "standing", "number", "start", "piece", "goal"] ["framing", "begin"] (defScope sWays) := ⟨rfl, rfl, rfl, by decide +kernel, rfl, by decide +kernel, by decide +kernel⟩
theorem ok_ways {f : Addr} {fd : FuncData} (F : Fun K "ways_from" "ways_from" sWays f fd) (he : mg "enumerate" = none) : FnOk P w K mg base CX0 1 f fd ["framing", "begin"] spWays := by
  refine F.ok scWays (fun vs H Q E h => ?_) (fun cdv A outer s H vs Q E hr h => ?_)
  · obtain ⟨f, fr, last, b, S, rfl, _⟩ := h
    rfl
  · obtain ⟨f, fr, last, b, S, rfl, fa, fm, hb, cl0, cl1, q⟩ := h
    have hu := hu_of hr
    refine ⟨_, pss_cons (ps_set (i := 2) scWays.nd rfl (Or.inl rfl) pe_dnewK)
      (pss_cons (ps_set (i := 3) scWays.nd rfl (Or.inl rfl) (pe_lst (pa_cons (pe_tup (pa_cons (pe_tup pa_nil) (pa_cons (pv 1) pa_nil))) pa_nil)))
      (pss_cons (ps_while PassesOwn.never (pt_truth (pv 3) (fun _ => rfl))
        (pss_cons (ps_set (i := 4) scWays.nd rfl (Or.inl rfl) (pe_lst pa_nil))
        (pss_cons (ps_for PassesOwn.never rfl (pi_list (pv 3)) (pg_tup rfl (pgs_cons (pg_name (i := 5) scWays.nd rfl (Or.inl rfl)) (pgs_cons (pg_name (i := 6) scWays.nd rfl (Or.inl rfl)) pgs_nil)))
          (pss_one (ps_for PassesOwn.never rfl (pi_enumT (by rfl) he (pa_cons (pv 0) pa_nil)) (pg_tup rfl (pgs_cons (pg_name (i := 7) scWays.nd rfl (Or.inl rfl)) (pgs_cons (pg_tup rfl (pgs_cons (pg_name (i := 8) scWays.nd rfl (Or.inl rfl)) (pgs_cons (pg_name (i := 9) scWays.nd rfl (Or.inl rfl)) (pgs_cons (pg_name (i := 10) scWays.nd rfl (Or.inl rfl)) pgs_nil)))) pgs_nil)))
            (pss_one (ps_if (pw_and (pt_cmpR op_eq (pv 8) (pv 6) (nomark _)) (pw_and1 (pt_cmp (pc_dnotin hu (pv 10) (pv 2)) (by rfl)))).pt
              (pss_cons (ps_dput hu (pv 2) (pv 10) (pe_op op_catS (pv 5) (pe_tup (pa_cons (pv 7) pa_nil))) rfl)
                (pss_one (ps_expr (pe_bm PySem.F.plainAttrs_list PySem.F.slot_list_append PySem.F.type_list_append mt_append (pv 4) (pa_cons (pe_tup (pa_cons (pe_dget hu (pv 2) (pv 10) (fun _ _ => rfl)) (pa_cons (pv 10) pa_nil))) pa_nil)))))
              pss_nil)))))
        (pss_one (ps_set (i := 3) scWays.nd rfl (Or.inl rfl) (pv 4))))))
      (pss_one (ps_ret (pv 2))))), ?_⟩
    intro d hd0
    have sd := same_upd (o := HO.dK []) hd0
    refine ⟨by decide, fun e0 he0 => ⟨_, rfl, (by show 2 ≤ sizeLine; decide), fun p0 hp0 => ⟨(by show 1 ≤ sizeLine; decide), fun r hr0 => ?_⟩⟩⟩
    have s1 := same_upd (o := HO.tup []) he0
    have s2 := same_upd (o := HO.tup [V.ref e0, V.int (b : Int)]) hp0
    have s3 := same_upd (o := HO.lst [V.ref p0]) hr0
    refine ⟨fun j σ H' => ∃ (r : Addr) (kvs : List (Key × V)) (ps : List (Addr × Int)) (v4 v5 v6 v7 v8 v9 v10 : Option V), σ = [some (.ref f), some (.int b), some (.ref d), some (.ref r), v4, v5, v6, v7, v8, v9, v10] ∧
      Same H H' ∧ H' d = some (.dK kvs) ∧ H' r = some (.lst (ps.map fun q => V.ref q.1)) ∧ Rows H' last kvs.length ps ∧ kvs.length + miss last kvs ≤ last + 1 ∧ Clo fr b kvs (fun g _ => ∃ q ∈ ps, q.2 = g) ∧ Sd S b ps ∧ Sk S kvs ∧ j = 2 * miss last kvs + (if ps = [] then 0 else 1), ⟨_, r, [], [(p0, (b : Int))], none, none, none, none, none, none, none, rfl, ?_, ?_, ?_, ?_, ?_, ?_, (fun q hq => .inl (by rw [List.mem_singleton.mp hq])), (fun g z => by cases z), rfl⟩, ?_⟩
    · exact sd.trans (s1.trans (s2.trans s3))
    · exact s3 _ _ (s2 _ _ (s1 _ _ upd_same))
    · exact upd_same
    · intro q hq
      have e : q = (p0, (b : Int)) := by simpa using hq
      subst e
      refine ⟨by show (0 : Int) ≤ (b : Int); omega, by show (b : Int) ≤ last; omega, e0, [], s3 _ _ upd_same, s3 _ _ (s2 _ _ upd_same), Nat.le_refl _⟩
    · have := miss_le (last := last) (kvs := [])
      simp only [List.length_nil]
      omega
    · intro x hx h
      rcases h with h | h
      · exact .inl ⟨_, List.mem_singleton.mpr rfl, h.symm⟩
      · cases h
    · rintro j σ H1 ⟨r, kvs, ps, v4, v5, v6, v7, v8, v9, v10, rfl, sm, hd, hr, rp, cnt, clo, sd0, sk0, rfl⟩
      refine ⟨_, rfl, _, .inl ⟨_, SqL.of hr, rfl⟩, ?_⟩
      by_cases hps : ps = []
      · subst hps
        refine iteF' rfl ?_
        refine ⟨_, rfl, q H1 d kvs sm hd0 hd ?_ sk0⟩
        have c2 : ∀ x ∈ fr, (x.1 = (b : Int) ∨ has kvs x.1 = true) → has kvs x.2.2 = true := fun x hx h => by
          rcases clo x hx h with ⟨_, z, _⟩ | z
          · cases z
          · exact z
        exact c2
      · refine iteT' (by cases ps; exact absurd rfl hps; rfl) ?_
        refine ⟨_, fun _ _ z => z, ?_⟩
        refine ⟨by decide, fun u hu0 => ?_⟩
        have su := same_upd (o := HO.lst []) hu0
        have hur : u ≠ r := (ne_of_none hr hu0).symm
        have hu00 : H u = none := sm.free hu0
        refine ⟨_, rfl, r, rfl, ⟨_, SqL.of (su _ _ hr)⟩, for_it (walk_list (xs := ps.map fun q => V.ref q.1)) (fun i σ H' => ∃ (kvs2 : List (Key × V)) (qs : List (Addr × Int)) (v5 v6 v7 v8 v9 v10 : Option V), σ = [some (.ref f), some (.int b), some (.ref d), some (.ref r), some (.ref u), v5, v6, v7, v8, v9, v10] ∧
          Co H H' d r u last (miss last kvs) ps qs kvs2 ∧ Clo fr b kvs2 (fun g _ => (∃ q ∈ ps.drop i, q.2 = g) ∨ ∃ q ∈ qs, q.2 = g) ∧ Sd S b qs ∧ Sk S kvs2)
          ⟨kvs, [], v5, v6, v7, v8, v9, v10, rfl, ⟨sm.trans su, su _ _ hd, su _ _ hr, upd_same, rp.keep (Same.keepT su) (Nat.le_refl _), (fun q hq => by cases hq), cnt, .inl ⟨rfl, Nat.le_refl _⟩, Nat.zero_le _⟩, (fun x hx h => (clo x hx h).imp (fun z => .inl z) id), (fun q hq => by cases hq), sk0⟩
          (fun i σ H' _ ⟨_, _, _, _, _, _, _, _, _, C, _⟩ => SqL.of C.hr) ?_ ?_⟩
        · rintro i v σ H2 H3 hi ⟨kvs2, qs, v5, v6, v7, v8, v9, v10, rfl, C, cl, sd2, sk2⟩ ⟨rfl, hv⟩
          obtain ⟨q1, hq1, rfl⟩ : ∃ q1, ps[i]? = some q1 ∧ v = V.ref q1.1 := by
            rw [List.getElem?_map] at hv
            cases e : ps[i]? with
            | none =>
              rw [e] at hv
              cases hv
            | some q1 =>
              rw [e] at hv
              exact ⟨q1, rfl, (Option.some.inj hv).symm⟩
          obtain ⟨g0, g1, wy, xs, e1, e2, e3⟩ := C.rp q1 (List.mem_of_getElem? hq1)
          have dq : ps.drop i = q1 :: ps.drop (i + 1) := by
            have il := (List.getElem?_eq_some_iff.mp hq1).1
            rw [List.drop_eq_getElem_cons il]
            have := (List.getElem?_eq_some_iff.mp hq1).2
            rw [this]
          obtain ⟨ts, hf, hl, ht⟩ := id fa
          refine ⟨_, _, rfl, SqT.of e1, rfl, _, _, rfl, _, _, rfl, rfl, ?_⟩
          refine ⟨_, rfl, f, _, rfl, SqT.of (C.sm _ _ hf), for_it (walk_enumT (xs := ts.map V.ref)) (fun k σ H' => ∃ (kvs3 : List (Key × V)) (qs3 : List (Addr × Int)) (v7 v8 v9 v10 : Option V), σ = [some (.ref f), some (.int b), some (.ref d), some (.ref r), some (.ref u), some (.ref wy), some (.int q1.2), v7, v8, v9, v10] ∧
            Co H H' d r u last (miss last kvs) ps qs3 kvs3 ∧ H' wy = some (.tup xs) ∧ xs.length ≤ kvs3.length ∧ Clo fr b kvs3 (fun g x => ((∃ q ∈ ps.drop (i + 1), q.2 = g) ∨ ∃ q ∈ qs3, q.2 = g) ∨ (g = q1.2 ∧ x ∈ fr.drop k)) ∧ Sd S b qs3 ∧ Sk S kvs3)
            ⟨kvs2, qs, v7, v8, v9, v10, rfl, C, e2, e3, (fun x hx h => ?_), sd2, sk2⟩
            (fun k σ H' _ ⟨_, _, _, _, _, _, _, C', _⟩ => SqT.of (C'.sm _ _ hf)) ?_ ?_⟩
          · rcases cl x hx h with (⟨q, z, e⟩ | z) | z
            · rw [dq] at z
              rcases List.mem_cons.mp z with z | z
              · subst z
                exact .inl (.inr ⟨e.symm, by simpa using hx⟩)
              · exact .inl (.inl (.inl ⟨q, z, e⟩))
            · exact .inl (.inl (.inr z))
            · exact .inr z
          · rintro k x σ H3 H4 hk ⟨kvs3, qs3, v7, v8, v9, v10, rfl, C3, w3, wl, cl3, sd3, sk3⟩ ⟨T, xi, xo, rfl, nT, rfl, h1, h2⟩
            cases h1
            obtain ⟨t, y, hy, rfl, e4⟩ := at_step (i := k) hl ht h2
            have uT := same_upd (o := HO.tup [V.int (k : Nat), V.ref t]) nT
            have C4 := C3.same uT
            have t4 := uT _ _ (C3.sm _ _ e4)
            have w4 := uT _ _ w3
            have hym : y ∈ fr := List.mem_of_getElem? hy
            obtain ⟨b1, b5, b3, b6⟩ := fm.lo y hym
            have dk : fr.drop k = y :: fr.drop (k + 1) := by
              have il := (List.getElem?_eq_some_iff.mp hy).1
              rw [List.drop_eq_getElem_cons il]
              have := (List.getElem?_eq_some_iff.mp hy).2
              rw [this]
            -- the step is done with
            have go : ∀ (kvs4 : List (Key × V)) (qs4 : List (Addr × Int)), (∀ g : Int, has kvs4 g = true → has kvs3 g = true ∨ ∃ q ∈ qs4, q.2 = g) → (∀ g : Int, has kvs3 g = true → has kvs4 g = true) → (∀ q ∈ qs3, q ∈ qs4) → (y.1 = q1.2 → has kvs4 y.2.2 = true) →
                Clo fr b kvs4 (fun g x => ((∃ q ∈ ps.drop (i + 1), q.2 = g) ∨ ∃ q ∈ qs4, q.2 = g) ∨ (g = q1.2 ∧ x ∈ fr.drop (k + 1))) := fun kvs4 qs4 n1 n2 n3 n4 x hx h => by
              have old : x.1 = (b : Int) ∨ has kvs3 x.1 = true → ((((∃ q ∈ ps.drop (i + 1), q.2 = x.1) ∨ ∃ q ∈ qs4, q.2 = x.1) ∨ (x.1 = q1.2 ∧ x ∈ fr.drop (k + 1))) ∨ has kvs4 x.2.2 = true) := fun h => by
                rcases cl3 x hx h with ((z | ⟨q, z, e⟩) | ⟨z1, z2⟩) | z
                · exact .inl (.inl (.inl z))
                · exact .inl (.inl (.inr ⟨q, n3 q z, e⟩))
                · rw [dk] at z2
                  rcases List.mem_cons.mp z2 with z2 | z2
                  · subst z2
                    exact .inr (n4 z1)
                  · exact .inl (.inr ⟨z1, z2⟩)
                · exact .inr (n2 _ z)
              rcases h with h | h
              · exact old (.inl h)
              · rcases n1 _ h with z | z
                · exact old (.inr z)
                · exact .inl (.inl (.inr z))
            refine ⟨T, _, rfl, SqT.of upd_same, rfl, _, _, rfl, _, _, rfl, ⟨t, _, rfl, SqT.of t4, rfl, _, _, rfl, _, _, rfl, _, _, rfl, rfl, rfl, ?_⟩⟩
            refine ⟨_, rfl, _, rfl, rfl, _, rfl, ?_⟩
            refine ite2 (fun z => ?_) (fun z => ?_)
            · have z1 : y.1 = q1.2 := V.int.inj (of_decide_eq_true z)
              refine ⟨_, rfl, _, rfl, d, _, rfl, DGet.k (k := Sum.inl y.2.2) C4.hd, _, rfl, ?_⟩
              refine ite2 (fun y1 => ?_) (fun y1 => ?_)
              · have no : has kvs3 y.2.2 = false := by
                  cases e : has kvs3 y.2.2 with
                  | false => rfl
                  | true =>
                    have e' : (valV kvs3 (Sum.inl y.2.2 : Key)).isSome = true := e
                    rw [e'] at y1
                    cases y1
                have mp := miss_put (v := V.non) b3 b6 no
                have l5 := fm.l5
                have c3 := C3.cnt
                refine ⟨_, rfl, ⟨_, rfl, (by show 1 ≤ sizeLine; decide), fun p hp => ⟨wy, p, xs, [V.int (k : Nat)], rfl, rfl, SqT.of (same_upd hp _ _ w4), upd_same, (fun z => by cases z), ?_, fun nw H5 s5 n5 => ?_⟩⟩⟩
                · rw [sizeLine_eq]
                  simp only [List.length_cons, List.length_nil]
                  omega
                have C5 := (C4.same (same_upd (o := HO.tup [V.int (k : Nat)]) hp)).same s5
                have hdu : d ≠ u := ne_of C5.hd C5.hu (fun z => by cases z)
                have hdr : d ≠ r := ne_of C5.hd C5.hr (fun z => by cases z)
                refine ⟨_, rfl, _, rfl, d, _, rfl, DPut.k (k := Sum.inl y.2.2) C5.hd (by rw [sizeLine_eq]; omega), ?_⟩
                have hn : valV kvs3 (Sum.inl y.2.2 : Key) = none := by
                  cases e : valV kvs3 (Sum.inl y.2.2 : Key) with
                  | none => rfl
                  | some v =>
                    have e' : has kvs3 y.2.2 = true := by
                      show (valV kvs3 (Sum.inl y.2.2 : Key)).isSome = true
                      rw [e]
                      rfl
                    rw [e'] at no
                    cases no
                generalize hH6 : upd H5 d (.dK (putK kvs3 (Sum.inl y.2.2) (.ref nw))) = H6
                have k6 : KeepT H5 H6 := by
                  rw [← hH6]
                  exact keepT_upd C5.hd (fun xs z => by cases z)
                have d6 : H6 d = some (.dK (putK kvs3 (Sum.inl y.2.2) (.ref nw))) := by
                  rw [← hH6]
                  exact upd_same
                have u6 : H6 u = some (.lst (qs3.map fun q => V.ref q.1)) := by
                  rw [← hH6, upd_ne hdu.symm]
                  exact C5.hu
                have r6 : H6 r = some (.lst (ps.map fun q => V.ref q.1)) := by
                  rw [← hH6, upd_ne hdr.symm]
                  exact C5.hr
                have m6 : Same H H6 := by
                  rw [← hH6]
                  exact same_set hd0 C5.sm
                have g6 : valV (putK kvs3 (Sum.inl y.2.2) (V.ref nw)) (Sum.inl y.2.2 : Key) = some (.ref nw) := by
                  rw [valV_put, if_pos rfl]
                have n6 := k6 _ _ n5
                have ml := miss_le (last := last) (kvs := kvs3)
                have mp2 := miss_put (v := V.ref nw) b3 b6 no
                have pe : (putK kvs3 (Sum.inl y.2.2 : Key) (V.ref nw)).length = kvs3.length + 1 := by
                  rw [putK_new _ hn, List.length_append]
                  rfl
                have ql := C3.ql
                have sy : S y.2.2 := by
                  rcases sd0 q1 (List.mem_of_getElem? hq1) with z | z
                  · exact cl0 y hym (by rw [z1, z])
                  · exact cl1 y hym (by rw [z1]; exact z)
                have sd4 : ∀ p7 : Addr, Sd S b (qs3 ++ [(p7, y.2.2)]) := fun p7 q hq => by
                  rcases List.mem_append.mp hq with hq | hq
                  · exact sd3 q hq
                  · rw [List.mem_singleton.mp hq]
                    exact .inr sy
                have sk4 : Sk S (putK kvs3 (Sum.inl y.2.2) (V.ref nw)) := fun g h => by
                  rw [has_put] at h
                  rcases (Bool.or_eq_true _ _).mp h with h | h
                  · rw [of_decide_eq_true h]
                    exact sy
                  · exact sk3 g h
                refine ⟨_, rfl, ?_, _, rfl, _, rfl, ⟨d, _, rfl, by rw [← g6]; exact DGet.k (k := Sum.inl y.2.2) d6, _, rfl, (by show 2 ≤ sizeLine; decide), fun p7 hp7 => ⟨u, qs3.map (fun q => V.ref q.1), _, rfl, rfl, same_upd hp7 _ _ u6, by rw [sizeLine_eq, List.length_map]; omega, ?_⟩⟩⟩
                · exact .inl ⟨rfl, _, SqL.of u6⟩
                have k7 := Same.keepT (same_upd (o := HO.tup [V.ref nw, V.int y.2.2]) hp7)
                have hd7 := same_upd (o := HO.tup [V.ref nw, V.int y.2.2]) hp7 _ _ d6
                have hu7 := same_upd (o := HO.tup [V.ref nw, V.int y.2.2]) hp7 _ _ u6
                have hr7 := same_upd (o := HO.tup [V.ref nw, V.int y.2.2]) hp7 _ _ r6
                have k8 := keepT_upd (o := .lst (qs3.map (fun q => V.ref q.1) ++ [V.ref p7])) hu7 (fun xs z => by cases z)
                have kk : KeepT H5 _ := (k6.trans k7).trans k8
                refine ⟨putK kvs3 (Sum.inl y.2.2) (.ref nw), qs3 ++ [(p7, y.2.2)], _, _, _, _, rfl, ⟨same_set hu00 (m6.trans (same_upd hp7)), ?_, ?_, ?_, ?_, ?_, by rw [pe]; omega, .inr ?_, by rw [pe, List.length_append]; simp only [List.length_cons, List.length_nil]; omega⟩, ?_, by rw [pe]; omega, ?_⟩
                · rw [upd_ne hdu]
                  exact hd7
                · rw [upd_ne hur.symm]
                  exact hr7
                · rw [List.map_append]
                  exact upd_same
                · exact C5.rp.keep kk (by rw [pe]; omega)
                · intro q hq
                  rcases List.mem_append.mp hq with hq | hq
                  · exact C5.rq.keep kk (by rw [pe]; omega) q hq
                  · have e : q = (p7, y.2.2) := by simpa using hq
                    subst e
                    refine ⟨b3, b6, nw, xs ++ [V.int (k : Nat)], k8 _ _ upd_same, k8 _ _ (k7 _ _ n6), ?_⟩
                    rw [pe, List.length_append]
                    simp only [List.length_cons, List.length_nil]
                    omega
                · rcases C3.me with ⟨_, z⟩ | z <;> omega
                · exact kk _ _ ((same_upd (o := HO.tup [V.int (k : Nat)]) hp |>.trans s5) _ _ w4)
                · refine ⟨go _ _ (fun g h => ?_) (fun g h => ?_) (fun q h => List.mem_append_left _ h) (fun _ => ?_), sd4 _, sk4⟩
                  · rw [has_put] at h
                    rcases (Bool.or_eq_true _ _).mp h with h | h
                    · exact .inr ⟨_, List.mem_append_right _ (List.mem_singleton.mpr rfl), (of_decide_eq_true h).symm⟩
                    · exact .inl h
                  · rw [has_put, h, Bool.or_true]
                  · rw [has_put, decide_eq_true rfl]
                    rfl
              · have yes : has kvs3 y.2.2 = true := by
                  cases e : has kvs3 y.2.2 with
                  | true => rfl
                  | false =>
                    have e' : (valV kvs3 (Sum.inl y.2.2 : Key)).isSome = false := e
                    rw [e'] at y1
                    exact absurd rfl y1
                exact ⟨kvs3, qs3, _, _, _, _, rfl, C4, w4, wl, go kvs3 qs3 (fun g h => .inl h) (fun g h => h) (fun q h => h) (fun _ => yes), sd3, sk3⟩
            · have z1 : ¬ y.1 = q1.2 := fun e => z (decide_eq_true (congrArg V.int e))
              refine iteF ?_
              exact ⟨kvs3, qs3, _, _, _, _, rfl, C4, w4, wl, go kvs3 qs3 (fun g h => .inl h) (fun g h => h) (fun q h => h) (fun e => absurd e z1), sd3, sk3⟩
          · rintro σ H3 ⟨kvs3, qs3, v7, v8, v9, v10, rfl, C3, w3, wl, cl3, sd3, sk3⟩
            refine ⟨kvs3, qs3, _, _, v7, v8, v9, v10, rfl, C3, (fun x hx h => ?_), sd3, sk3⟩
            rcases cl3 x hx h with (z | ⟨_, z⟩) | z
            · exact .inl z
            · rw [show (ts.map V.ref).length = fr.length by simp [hl], List.drop_length] at z
              cases z
            · exact .inr z
        · rintro σ H2 ⟨kvs2, qs, v5, v6, v7, v8, v9, v10, rfl, C, cl, sd2, sk2⟩
          refine ⟨_, rfl, _, ?_, u, kvs2, qs, some (.ref u), v5, v6, v7, v8, v9, v10, rfl, C.sm, C.hd, C.hu, C.rq, C.cnt, (fun x hx h => ?_), sd2, sk2, rfl⟩
          · rw [if_neg hps]
            rcases C.me with ⟨z, y⟩ | z
            · rw [if_pos z]
              omega
            · split <;> omega
          · rcases cl x hx h with (z | z) | z
            · rw [List.length_map, List.drop_length] at z
              obtain ⟨_, z, _⟩ := z
              cases z
            · exact .inl z
            · exact .inr z
end
end K45

set_option Elab.async false
set_option linter.all false
set_option maxRecDepth 100000
set_option maxHeartbeats 4000000
/-! try: .. except (A, B, ..) as e: the caught error is kept as a value behind the suite. Raising an own exception that was made by its own __init__. -/
namespace L2
namespace EV
open PySem PySem.Spec PyProof.Rows _root_.EV
/-- an exception that was caught, at a -/
def exh (cls : Value) (d : Option Addr) (a : Addr) : HO := .ext fun h => ∃ (oe : Obj) (vs : Array Value), h.get? a = some oe ∧ Zc cls d oe ∧ oe.data = .fields vs
theorem exh_ok {P : Program} {w : World} {H : Hp} {h : Heap} {a : Addr} {cls : Value} {d : Option Addr} {oe : Obj} {vs : Array Value} (e : h.get? a = some oe) (z : Zc cls d oe) (hd : oe.data = .fields vs) : ObjOk P w H h a (exh cls d a) :=
  ⟨⟨oe, vs, e, z, hd⟩, ⟨oe, e⟩, fun _ _ ⟨o, v, q, r⟩ k => ⟨o, v, k o q, r⟩⟩
theorem exh_at {P : Program} {w : World} {H : Hp} {h : Heap} {a : Addr} {cls : Value} {d : Option Addr} (hok : HOk P w H h) (e : H a = some (exh cls d a)) : ∃ (oe : Obj) (vs : Array Value), h.get? a = some oe ∧ Zc cls d oe ∧ oe.data = .fields vs := by
  have q : ObjOk P w H h a (.ext fun h => ∃ (oe : Obj) (vs : Array Value), h.get? a = some oe ∧ Zc cls d oe ∧ oe.data = .fields vs) := hok a _ e
  exact q.1
theorem flies_keeps {B : Heap} {l : List Env} {a : Addr} {Z : Obj → Prop} {h h' : Heap} (f : HandSPX.FlyingZ B l a Z h) (k : ∀ b o, h.get? b = some o → h'.get? b = some o) : HandSPX.FlyingZ B l a Z h' := by
  obtain ⟨f1, f2, f3, oe, vs, T, oT, ts, e1, e2, e3, e4, e5, e6, e7, e8, e9⟩ := f
  exact ⟨fun b o q => k b o (f1 b o q), f2, f3.of_keeps fun b o q _ => ⟨o, k b o q, rfl⟩, oe, vs, T, oT, ts, k _ _ e1, e2, e3, e4, e5, e6, k _ _ e7, e8, e9⟩
/-! ### does one of several classes match -/
section
variable {M : Model} {K : PySem.W.Frag} {h : Heap} {cls : Value}
theorem all_cls : ∀ {cs : List Value} {b : Bool}, PySem.W.exmAny K cls cs = some b → ∀ c ∈ cs, ∃ v, PySem.W.exmOne K cls c = some v
  | c :: r, b, e, x, hx => by
    obtain ⟨b1, d1, h1, h2, _⟩ := PySem.W.exmAny_cons e
    rcases List.mem_cons.mp hx with rfl | hx
    · exact ⟨_, h1⟩
    · exact all_cls h2 x hx
section
variable {A : Around} {E : Value → Shared → Prop} {s : Shared}
theorem loop_exc (X : K.In h) (k0 : ∀ b o, h.get? b = some o → s.heap.get? b = some o) {R : PUnit → Shared → Prop} (r : R ⟨⟩ s) : ∀ l : List Value, (∀ c ∈ l, ∃ v, PySem.W.exmOne K cls c = some v) →
    wpAny M A (forIn l PUnit.unit fun c _ => do
        if (!(← isExcClass c)) = true then do
          rule "try.except-non-exception-class"
          raiseErrorWords "TypeError" "catching classes that do not inherit from BaseException is not allowed"
          pure (ForInStep.yield PUnit.unit)
        else pure (ForInStep.yield PUnit.unit)) R E s := by
  intro l
  induction l with
  | nil => exact fun _ => wpAny_pure r
  | cons c l ih =>
    intro hl
    obtain ⟨v, hv⟩ := hl c (List.mem_cons_self ..)
    obtain ⟨i1, _⟩ := PySem.W.exm_cls (M := M) X hv
    rw [List.forIn_cons]
    refine wpAny_bind (wpAny_bind ((i1.keeps k0).here ?_))
    simp only [Bool.not_true, Bool.false_eq_true, if_false]
    exact wpAny_pure (ih fun x hx => hl x (List.mem_cons_of_mem _ hx))
theorem loop_sub (X : K.In h) (k0 : ∀ b o, h.get? b = some o → s.heap.get? b = some o) {R : Option Bool × Unit → Shared → Prop} : ∀ (l : List Value) (b : Bool), PySem.W.exmAny K cls l = some b → R (if b = true then (some true, ()) else (none, ())) s →
    wpAny M A (forIn l ((none, ()) : Option Bool × Unit) fun c _ => do
        if (← isSubtype cls c) = true then pure (ForInStep.done (some true, ())) else pure (ForInStep.yield (none, ()))) R E s := by
  intro l
  induction l with
  | nil =>
    intro b e r
    have : some false = some b := e
    cases this
    exact wpAny_pure r
  | cons c l ih =>
    intro b e r
    obtain ⟨b1, d1, h1, h2, rfl⟩ := PySem.W.exmAny_cons e
    obtain ⟨_, S1⟩ := PySem.W.exm_cls (M := M) X h1
    rw [List.forIn_cons]
    refine wpAny_bind (wpAny_bind ((S1.keeps k0).here ?_))
    cases b1 with
    | true =>
      rw [Bool.true_or] at r
      simp only [if_true]
      exact wpAny_pure (wpAny_pure r)
    | false =>
      rw [Bool.false_or] at r
      simp only [Bool.false_eq_true, if_false]
      exact wpAny_pure (ih _ h2 r)
end
theorem match_list {cs : List Value} {b : Bool} {tp e : Addr} (X : K.In h) (LT : PySem.W.Looks M h (typeOf (.ref e)) cls) (hp : h.get? tp = some { cls := .type "tuple", data := .seq cs.toArray }) (hx : PySem.W.exmAny K cls cs = some b) :
    PySem.W.Looks M h (excMatches (.ref e) (.ref tp)) b := by
  intro A Q E s k0 q
  have L0 : PySem.W.Looks M h (isInstance (.ref tp) (.type "tuple")) true := ((PySem.W.Looks.ld hp).andThen .now).andThen (PySem.W.Looks.of_pure isSubtype_tuple_tuple)
  have hp' := k0 _ _ hp
  unfold excMatches
  refine wpAny_bind ((L0.keeps k0).here ?_)
  rw [if_pos rfl]
  have ec : ((some cs.toArray).getD #[]).toList = cs := by simp
  refine wpAny_bind ?_
  refine wpAny_seqItems hp' rfl ?_
  refine wpAny_bind (wpAny_pure ?_)
  show wpAny _ _ (do
      forIn ((some cs.toArray).getD #[]).toList PUnit.unit _
      _) _ _ _
  rw [ec]
  refine wpAny_bind (loop_exc X k0 ?_ cs (all_cls hx))
  refine wpAny_bind ((LT.keeps k0).here ?_)
  refine wpAny_bind (loop_sub X k0 cs b hx ?_)
  cases b with
  | true => exact wpAny_pure q
  | false => exact wpAny_pure q
end
/-! ### the rule -/
/-- classes by their names -/
inductive ClsL (X : Cx) : List Expr → List Value → Prop
  | nil : ClsL X [] []
  | cons {x : Str} {c : Value} {p : Pos} {es : List Expr} {cs : List Value} : Names X x c → ClsL X es cs → ClsL X (.Name x p :: es) (c :: cs)
theorem ClsL.suite {X : Cx} {a : Addr} {pn : List (Addr × Obj)} : ∀ {es : List Expr} {cs : List Value}, ClsL X es cs → ClsL (X.suite a pn) es cs
  | _, _, .nil => .nil
  | _, _, .cons hc r => .cons (X := X.suite a pn) hc r.suite
theorem cls_read {Y : Cx} {pins : List (Addr × Obj)} {σ : St} {H : Hp} {s : Shared} (I : Inv Y pins σ H s) {pos : Pos} {E : Value → Shared → Prop} : ∀ {es : List Expr} {cs : List Value} {Q : List Value → Shared → Prop}, ClsL Y es cs → Q cs s →
    wpAny (model Y.prog Y.w) Y.A (spliced (backTo pos (starEach es Y.env))) Q E s
  | _, _, _, .nil, q => wpAny_items_nil q
  | _, _, Q, .cons (c := c) (es := es) (cs := cs) hc r, q => wpAny_items_cons (by
      have rest : wpAny (model Y.prog Y.w) Y.A (spliced (backTo pos (starEach es Y.env))) (fun vs s2 => Q (c :: vs) s2) E s := cls_read I r q
      obtain ⟨hg, hd, hm | ⟨hm, hv, hn⟩⟩ := hc
      · exact ld_glob I hg hm rest hd
      · exact ld_blt I hg hm hv rest hn hd)
theorem ClsL.len {X : Cx} : ∀ {es : List Expr} {cs : List Value}, ClsL X es cs → cs.length = es.length
  | _, _, .nil => rfl
  | _, _, .cons _ r => by rw [List.length_cons, List.length_cons, r.len]
/-- what is pinned is tracked from now on -/
theorem inv_hold {X : Cx} {pins : List (Addr × Obj)} {σ : St} {H : Hp} {s : Shared} {a : Addr} {oe : Obj} {vs : Array Value} {cls : Value} {d : Option Addr} (I : Inv X ((a, oe) :: pins) σ H s) (hm : ∀ p, p ∈ (a, oe) :: (X.pn ++ pins) → p ∈ X.pn ++ ((a, oe) :: pins)) (z : Zc cls d oe) (hd : oe.data = .fields vs)
    (n0 : X.s_0.heap.get? a = none) (np : ∀ p ∈ X.pn ++ pins, p.1 ≠ a) : Inv X pins σ (upd H a (exh cls d a)) s := by
  obtain ⟨e, n, ne, nf, dc⟩ := I.pin (a, oe) (hm _ (List.mem_cons_self ..))
  have ne : a ≠ X.env.locals := ne
  have n : H a = none := n
  have old : ∀ b o, X.s_0.heap.get? b = some o → b ≠ a := fun b o q z => by
    rw [z, n0] at q
    cases q
  refine ⟨I.ok, I.os, I.bare, ⟨I.base.keep, I.base.slot, fun b o q m hx => ?_, I.base.there, fun b xs q => ?_, fun b o u q => ?_, fun b ps q => ?_⟩, I.loc, I.cell, ?_, fun x c q => ?_, fun p hp => ?_, ?_, I.len⟩
  · rw [upd_ne (old b o q)]
    exact I.base.free b o q m hx
  · have z := I.base.tups b xs q
    rw [upd_ne (ne_of_none z n)]
    exact z
  · have z := I.base.frzs b o u q
    rw [upd_ne (ne_of_none z n)]
    exact z
  · obtain ⟨m, z⟩ := I.base.tbls b ps q
    exact ⟨m, by rw [upd_ne (ne_of_none z n)]; exact z⟩
  · rw [upd_ne ne.symm]
    exact I.free
  · have nc : c ≠ a := fun z => by
      obtain ⟨v, o, q1, q2⟩ := I.cell x c q
      rw [z] at q1
      have e' : s.heap.get? a = some oe := e
      rw [e'] at q1
      cases q1
      rw [hd] at q2
      cases q2
    rw [upd_ne nc]
    exact I.freeC x c q
  · obtain ⟨e1, e2, e3, e4, e5⟩ := I.pin p (hm p (List.mem_cons_of_mem _ hp))
    exact ⟨e1, by rw [upd_ne (np p hp)]; exact e2, e3, e4, e5⟩
  · exact I.hok.laidN (fun _ _ q => q) n (exh_ok e z hd)
/-- what the clause wishes of an exception of the body: it is of one of the classes; behind the suite it stands at a -/
def wKeep (K : PySem.W.Frag) (n : Nat) (cs : List Value) (i : Nat) (ts : Addr → Value → Option Addr → TS) (D : Ends) : WX := fun cls d σ H => σ.length = n → PySem.W.exmAny K cls cs = some true ∧
  ∀ a, H a = none → ts a cls d { nx := fun σ' H' => D.nx (σ'.set i none) (upd H' a (exh cls d a)), rt := fun _ _ => False } (σ.set i (some (.ref a))) H
section
variable {X : Cx} {n : Str} {cs : List Value} {es : List Expr} {kx i : Nat} {body suite : List Stmt} {b0 : Stmt} {tpos pos hpos : Pos} {tb : WX → TS} {ts : Addr → Value → Option Addr → TS}
theorem ps_try_keep (hs : X.stack = X.env :: X.outer) (hf : X.env.frame = some X.env.locals) (hex : X.ex = []) (hN : X.N.Nodup) (hi : X.N[i]? = some n) (hln : X.env.kindOf n = some .local) (hc : ClsL X es cs) (hl : es.length ≤ 1000)
    (hb : ∀ (W : WX) (pn : List (Addr × Obj)) (xe : Value → Shared → Prop), Takes (X.tr pn xe) W → PassesOwn (model X.prog X.w) X.A X.env xe → PSs (X.tr pn xe) body (tb W))
    (hsu : ∀ (a : Addr) (oe : Obj) (cls : Value) (d : Option Addr) (pn : List (Addr × Obj)), Zc cls d oe → (∃ vs, oe.data = .fields vs) → PSs (X.suite a ((a, oe) :: pn)) (b0 :: suite) (ts a cls d)) :
    PS X (.Try body [.ExceptHandler (some (.Tuple es kx tpos)) (some n) (b0 :: suite) hpos] [] [] pos) (fun D σ H => tb (wKeep X.K X.N.length cs i ts D) D σ H) := by
  refine ⟨fun pins s σ H D I h => ?_⟩
  have ok := I.ok
  have hfr : X.A.frames = some (X.env :: X.outer) := by rw [ok.frames, hs]
  have loc : Loc X.env.scope n := .inl hln
  have B0 := hb (wKeep X.K X.N.length cs i ts D) (X.pn ++ pins) (fun e s1 => wpAny (model X.prog X.w) X.A (noteFrame e X.env) (fun _ s2 => wpAny (model X.prog X.w) X.A (setFlight e none) (fun _ s3 =>
    wpAny (model X.prog X.w) X.A (handleBy e X.env [.ExceptHandler (some (.Tuple es kx tpos)) (some n) (b0 :: suite) hpos]) (SP X pins D) X.xe s3) X.xe s2) X.xe s1)
  refine wpAny_Try_except (wpAny_mono ((B0 (fun u s' caught => ?_) PassesOwn.looking).run [] s σ H D (I.toTry _) h) (fun f s1 went => ?_) fun _ _ z => z)
  · obtain ⟨a, B, sI, pins', σ', H', cls, d, rfl, J', nb, up, sky, na, os, ag, hW⟩ := caught
    obtain ⟨hit, hyes⟩ := hW J'.len
    have J : Inv X pins σ' H' sI := J'.ofTry ok
    show wpAny (model X.prog X.w) X.A (noteFrame (.ref a) X.env) _ _ _
    refine Sky.land Zc.steady hfr hf (by rw [← hs]; exact sky) fun h3 fl3 up3 => ?_
    have J3 : Inv X pins σ' H' { s' with heap := h3 } := J.landed nb fl3.1 (up.trans up3) os ag
    obtain ⟨oe3, vs3, he3, hz3, hd3⟩ := fl3.there
    have nfr : a ∉ frs (X.env :: X.outer) := fun hm => by
      obtain ⟨_, o, q, nd⟩ := fl3.2.2.1.mem hm
      rw [he3] at q
      cases q
      exact nd _ hd3
    have nL : a ≠ X.env.locals := fun z => nfr (List.mem_filterMap.mpr ⟨X.env, List.mem_cons_self, by rw [hf, z]⟩)
    have nF : a ∉ X.fs := fun hm => by
      obtain ⟨e, he, q⟩ := List.mem_filterMap.mp hm
      exact nfr (List.mem_filterMap.mpr ⟨e, List.mem_cons_of_mem _ he, q⟩)
    have nI : sI.heap.get? a = none := by
      cases q : sI.heap.get? a with
      | none => rfl
      | some o =>
        have z := nb a o q (by rw [hs]; exact nfr)
        rw [fl3.2.1] at z
        cases z
    have n0 : X.s_0.heap.get? a = none := by
      cases q : X.s_0.heap.get? a with
      | none => rfl
      | some o =>
        obtain ⟨o', z⟩ := J.base.there a o q (by rw [hex]; exact fun z => nomatch z)
        rw [nI] at z
        cases z
    have np : ∀ p ∈ X.pn ++ pins, p.1 ≠ a := fun p hp z => by
      have q := (J.pin p hp).1
      rw [z, nI] at q
      cases q
    have S3 := J3.suite he3 hd3 na nL nF
    refine wpAny_handleBy_cons (codeAny_handlers_test ?_) (by intro q; cases q)
    refine wpAny_Tuple (cls_read S3 hc.suite ⟨by rw [hc.len, sizeLine_eq]; omega, ?_⟩)
    have k5 : ∀ b o, h3.get? b = some o → (h3.push { cls := .type "tuple", data := .seq cs.toArray }).get? b = some o := fun _ _ z => Heap.get?_push_of_some _ z
    have LT : PySem.W.Looks (model X.prog X.w) (h3.push { cls := .type "tuple", data := .seq cs.toArray }) (typeOf (.ref a)) cls := fun A Q E s k q => wpAny_typeOf_ref (k _ _ (k5 _ _ he3)) (by rw [hz3.1]; exact q)
    refine (match_list (M := model X.prog X.w) (J3.kIn.keeps k5) LT (Heap.get?_push_size h3 rfl) hit).here ?_
    refine codeAny_handlers_suite_as ?_
    refine HandSPX.lands_againZ (flies_keeps fl3 k5) fun h4 fl4 up4 => ?_
    have J4 : Inv X pins σ' H' { s' with heap := h4 } := J.landed nb fl4.1 (((up.trans up3).trans (Heap.UpToSlots.of_keeps k5)).trans up4) os ag
    obtain ⟨oe4, vs4, he4, hz4, hd4⟩ := fl4.there
    have S4 := J4.suite he4 hd4 na nL nF
    refine store_ok (X := X.suite a ((a, oe4) :: (X.pn ++ pins))) (v := .ref a) S4 hN hi loc rfl (fun s5 S5 => ?_) (.inr hln)
    refine wpAny_mono ((hsu a oe4 cls d (X.pn ++ pins) hz4 ⟨_, hd4⟩).run [] s5 _ H' _ S5 (hyes a na)) (fun f s6 hsp => ?_) (fun _ _ z => False.elim z)
    cases f with
    | next =>
      obtain ⟨σ6, H6, S6, q6⟩ := hsp
      have K6 : Inv X ((a, oe4) :: pins) σ6 H6 s6 := ⟨ok, S6.os, S6.bare, S6.base, S6.loc, S6.cell, S6.free, S6.freeC, fun p hp => S6.pin p (by
        show p ∈ ((a, oe4) :: (X.pn ++ pins)) ++ []
        rw [List.append_nil]
        rcases List.mem_append.mp hp with z | z
        · exact List.mem_cons_of_mem _ (List.mem_append_left _ z)
        · rcases List.mem_cons.mp z with z | z
          · rw [z]
            exact List.mem_cons_self ..
          · exact List.mem_cons_of_mem _ (List.mem_append_right _ z)), S6.hok, S6.len⟩
      refine gone_ok K6 hN hi hln fun s7 J7 => ⟨_, _, inv_hold J7 (fun p hp => ?_) hz4 hd4 n0 np, q6⟩
      rcases List.mem_cons.mp hp with z | z
      · rw [z]
        exact List.mem_append_right _ (List.mem_cons_self ..)
      · rcases List.mem_append.mp z with z | z
        · exact List.mem_append_left _ z
        · exact List.mem_append_right _ (List.mem_cons_of_mem _ z)
    | brk =>
      obtain ⟨_, _, _, z⟩ := hsp
      exact False.elim z
    | cont =>
      obtain ⟨_, _, _, z⟩ := hsp
      exact False.elim z
    | ret u =>
      obtain ⟨_, _, _, _, _, z⟩ := hsp
      exact False.elim z
  · cases f with
    | next =>
      obtain ⟨σ', H', J', q⟩ := went
      exact wpAny_execs_nil ⟨σ', H', J'.ofTry ok, q⟩
    | brk =>
      obtain ⟨σ', H', J', q⟩ := went
      exact ⟨σ', H', J'.ofTry ok, q⟩
    | cont =>
      obtain ⟨σ', H', J', q⟩ := went
      exact ⟨σ', H', J'.ofTry ok, q⟩
    | ret u =>
      obtain ⟨v, σ', H', J', r, q⟩ := went
      exact ⟨v, σ', H', J'.ofTry ok, r, q⟩
end
/-! ### raise C(..), C with its own __init__ -/
theorem pmk_own2 {X : Cx} {e : Expr} {te : TE} (hx : X.ex = []) (he : PE X e te) :
    PMk X e (fun σ H Q => te σ H fun x H1 => ∃ (a C : Addr) (od : Option Addr), x = .ref a ∧ H1 a = some (exo a C od) ∧ Fr0 X.H_0 a ∧ Raises X (.ref C) ∧ Q (.ref C) od (delH H1 a)) := by
  intro pins s σ H Q I h
  refine wpAny_mono (he.run pins s σ H _ I h) (fun u s1 hu => ?_) fun _ _ x => x
  obtain ⟨v, H1, I1, r1, a, C, od, rfl, ha, h0, hr, q⟩ := hu
  cases r1
  obtain ⟨t1, ho⟩ := exo_at I1.hok ha
  obtain ⟨G, gs, ga, J⟩ := I1.untrack ha h0 hx
  exact ⟨a, _, _, { s1 with heap := G }, delH H1 a, .ref C, od, rfl, J, gs, ga, ho, ⟨rfl, rfl⟩, rfl, rfl, delH_same, rfl, I1.bare, hr, q⟩
/-! ### isinstance of a caught one -/
def rIsC (K : PySem.W.Frag) : List V → Hp → VK → Prop := fun xs H Q => ∃ (a C : Addr) (B newId initId : String) (bm : List Value) (c : V) (u : Value) (b : Bool),
  xs = [.ref a, c] ∧ ClsV c u ∧ OxC K C B newId initId bm ∧ H a = some (exh (.ref C) none a) ∧ PySem.W.kitOne K (.ref C) u = some b ∧ Q (.bl b) H
theorem call_isC {X : Cx} : CallR X (.builtin "isinstance") (rIsC X.K) := by
  intro pins s σ H xs us Q I r h
  obtain ⟨a, C, B, newId, initId, bm, c, u, b, rfl, k, T, ea, e, q⟩ := h
  obtain ⟨u1, u2, rfl, r1, r2⟩ := vals2 r
  have e2 := k.eq r2
  subst e2
  obtain rfl : u1 = Value.ref a := r1
  obtain ⟨oe, vs, ho, hz, hd⟩ := exh_at I.hok ea
  obtain ⟨cd, hcl, _⟩ := T.data
  have some_ : (PySem.W.clsIn X.K C).isSome = true := by rw [hcl]; rfl
  have J : PySem.W.InstAt s.heap a oe C none := ⟨ho, hz.1, by unfold PySem.W.notCls; rw [hd], by rw [hz.2]; exact trivial⟩
  exact PySem.W.kia_one (PySem.W.kitx_exc some_ T.ga T.gg T.exC T.ca T.cn T.ct T.om) I.kIn J e (fun z => nomatch z) fun tk => ⟨.bl b, H, I.tok tk, rfl, q⟩
end EV
end L2

set_option Elab.async false
set_option linter.all false
set_option maxRecDepth 100000
set_option maxHeartbeats 4000000
/-! Data of any form; is_number of it. -/
namespace K45
open PySem L2 L2.EV
mutual
/-- v stands for d, all of its lists and tuples tracked -/
inductive Da (H : Hp) : V → PyData → Prop
  | non : Da H .non .none
  | bl (b : Bool) : Da H (.bl b) (.bool b)
  | int (i : Int) : Da H (.int i) (.int i)
  | str (x : Str) : Da H (.str x) (.str x)
  | lst {a : Addr} {xs : List V} {ds : List PyData} : H a = some (.lst xs) → DaAll H xs ds → Da H (.ref a) (.list ds)
  | tup {a : Addr} {xs : List V} {ds : List PyData} : H a = some (.tup xs) → DaAll H xs ds → Da H (.ref a) (.tuple ds)
inductive DaAll (H : Hp) : List V → List PyData → Prop
  | nil : DaAll H [] []
  | cons {v : V} {vs : List V} {d : PyData} {ds : List PyData} : Da H v d → DaAll H vs ds → DaAll H (v :: vs) (d :: ds)
end
mutual
theorem Da.same {H H' : Hp} (s : Same H H') : ∀ (d : PyData) (v : V), Da H v d → Da H' v d
  | .none, _, h => by cases h; exact .non
  | .bool b, _, h => by cases h; exact .bl b
  | .int i, _, h => by cases h; exact .int i
  | .str x, _, h => by cases h; exact .str x
  | .list ds, _, h => by
    cases h with
    | lst e ha => exact .lst (s _ _ e) (DaAll.same s ds _ ha)
  | .tuple ds, _, h => by
    cases h with
    | tup e ha => exact .tup (s _ _ e) (DaAll.same s ds _ ha)
  | .dict _, _, h => by cases h
theorem DaAll.same {H H' : Hp} (s : Same H H') : ∀ (ds : List PyData) (vs : List V), DaAll H vs ds → DaAll H' vs ds
  | [], _, h => by cases h; exact .nil
  | d :: ds, _, h => by
    cases h with
    | cons h1 h2 => exact .cons (Da.same s d _ h1) (DaAll.same s ds _ h2)
end
mutual
theorem Da.dp {K : PySem.W.Frag} {H : Hp} : ∀ (d : PyData) (v : V), Da H v d → Dp K H v d
  | .none, _, h => by cases h; exact .non
  | .bool b, _, h => by cases h; exact .bl b
  | .int i, _, h => by cases h; exact .int i
  | .str x, _, h => by cases h; exact .str x
  | .list ds, _, h => by
    cases h with
    | lst e ha => exact .lst (SqL.of e) (DaAll.dp ds _ ha)
  | .tuple ds, _, h => by
    cases h with
    | tup e ha => exact .tup (SqT.of e) (DaAll.dp ds _ ha)
  | .dict _, _, h => by cases h
theorem DaAll.dp {K : PySem.W.Frag} {H : Hp} : ∀ (ds : List PyData) (vs : List V), DaAll H vs ds → DpAll K H vs ds
  | [], _, h => by cases h; exact .nil
  | d :: ds, _, h => by
    cases h with
    | cons h1 h2 => exact .cons (Da.dp d _ h1) (DaAll.dp ds _ h2)
end
theorem DaAll.len {H : Hp} : ∀ {vs : List V} {ds : List PyData}, DaAll H vs ds → vs.length = ds.length
  | _, _, .nil => rfl
  | _, _, .cons _ t => by rw [List.length_cons, List.length_cons, t.len]
theorem DaAll.at_ {H : Hp} : ∀ {vs : List V} {ds : List PyData} {i : Nat} {v : V}, DaAll H vs ds → vs[i]? = some v → ∃ d, ds[i]? = some d ∧ Da H v d
  | _, _, 0, _, .cons h _, e => by
    cases e
    exact ⟨_, rfl, h⟩
  | _, _, i + 1, _, .cons _ t, e => t.at_ (i := i) (by simpa using e)
  | _, _, _, _, .nil, e => by simp at e
theorem DaAll.at' {H : Hp} : ∀ {vs : List V} {ds : List PyData} {i : Nat} {d : PyData}, DaAll H vs ds → ds[i]? = some d → ∃ v, vs[i]? = some v ∧ Da H v d
  | _, _, 0, _, .cons h _, e => by
    cases e
    exact ⟨_, rfl, h⟩
  | _, _, i + 1, _, .cons _ t, e => t.at' (i := i) (by simpa using e)
  | _, _, _, _, .nil, e => by simp at e
theorem DaAll.app {H : Hp} : ∀ {vs ws : List V} {ds es : List PyData}, DaAll H vs ds → DaAll H ws es → DaAll H (vs ++ ws) (ds ++ es)
  | _, _, _, _, .nil, q => q
  | _, _, _, _, .cons h t, q => .cons h (t.app q)
theorem DaAll.drop {H : Hp} : ∀ {vs : List V} {ds : List PyData} (n : Nat), DaAll H vs ds → DaAll H (vs.drop n) (ds.drop n)
  | _, _, 0, h => h
  | _, _, n + 1, .nil => .nil
  | _, _, n + 1, .cons _ t => t.drop n
theorem DaAll.take {H : Hp} : ∀ {vs : List V} {ds : List PyData} (n : Nat), DaAll H vs ds → DaAll H (vs.take n) (ds.take n)
  | _, _, 0, h => .nil
  | _, _, n + 1, .nil => .nil
  | _, _, n + 1, .cons h t => .cons h (t.take n)
theorem DaAll.rev {H : Hp} : ∀ {vs : List V} {ds : List PyData}, DaAll H vs ds → DaAll H vs.reverse ds.reverse
  | _, _, .nil => .nil
  | _, _, .cons h t => by
    rw [List.reverse_cons, List.reverse_cons]
    exact t.rev.app (.cons h .nil)
/-! ### of which type -/
def isTup : PyData → Bool
  | .tuple _ => true
  | _ => false
def isInt : PyData → Bool
  | .int _ => true
  | .bool _ => true
  | _ => false
def isBl : PyData → Bool
  | .bool _ => true
  | _ => false
theorem Da.ty {K : PySem.W.Frag} {H : Hp} {v : V} {d : PyData} (h : Da H v d) : ∃ t : Value, TyX K H v t ∧ PySem.W.kitOne K t (.type "tuple") = some (isTup d) ∧ PySem.W.kitOne K t (.type "int") = some (isInt d) ∧ PySem.W.kitOne K t (.type "bool") = some (isBl d) := by
  cases h with
  | non => exact ⟨_, .base .non, kit_ty (r := false) (by decide +kernel), kit_ty (r := false) (by decide +kernel), kit_ty (r := false) (by decide +kernel)⟩
  | bl b => exact ⟨_, .base (.bl b), kit_ty (r := false) (by decide +kernel), kit_ty (r := true) (by decide +kernel), kit_ty (r := true) (by decide +kernel)⟩
  | int i => exact ⟨_, .base (.int i), kit_ty (r := false) (by decide +kernel), kit_ty (r := true) (by decide +kernel), kit_ty (r := false) (by decide +kernel)⟩
  | str x => exact ⟨_, .base (.str x), kit_ty (r := false) (by decide +kernel), kit_ty (r := false) (by decide +kernel), kit_ty (r := false) (by decide +kernel)⟩
  | lst e _ => exact ⟨_, .base (.lst e), kit_ty (r := false) (by decide +kernel), kit_ty (r := false) (by decide +kernel), kit_ty (r := false) (by decide +kernel)⟩
  | tup e _ => exact ⟨_, .base (.tup e), kit_ty (r := true) (by decide +kernel), kit_ty (r := false) (by decide +kernel), kit_ty (r := false) (by decide +kernel)⟩
def isSt : PyData → Bool
  | .str _ => true
  | _ => false
theorem Da.tyS {K : PySem.W.Frag} {H : Hp} {v : V} {d : PyData} (h : Da H v d) : ∃ t : Value, TyX K H v t ∧ PySem.W.kitOne K t (.type "str") = some (isSt d) := by
  cases h with
  | non => exact ⟨_, .base .non, kit_ty (r := false) (by decide +kernel)⟩
  | bl b => exact ⟨_, .base (.bl b), kit_ty (r := false) (by decide +kernel)⟩
  | int i => exact ⟨_, .base (.int i), kit_ty (r := false) (by decide +kernel)⟩
  | str x => exact ⟨_, .base (.str x), kit_ty (r := true) (by decide +kernel)⟩
  | lst e _ => exact ⟨_, .base (.lst e), kit_ty (r := false) (by decide +kernel)⟩
  | tup e _ => exact ⟨_, .base (.tup e), kit_ty (r := false) (by decide +kernel)⟩
/-! ### numbers -/
def numD (m : Int) : PyData → Option Int
  | .int i => if 0 ≤ i ∧ i < m then some i else none
  | _ => none
theorem numD_some {m i : Int} {d : PyData} (h : numD m d = some i) : d = .int i ∧ 0 ≤ i ∧ i < m := by
  cases d with
  | int j =>
    have h : (if 0 ≤ j ∧ j < m then some j else none) = some i := h
    by_cases c : 0 ≤ j ∧ j < m
    · rw [if_pos c] at h
      cases h
      exact ⟨rfl, c⟩
    · rw [if_neg c] at h
      cases h
  | _ => cases h
def spNumD : Sp := fun vs H Q _ => ∃ (v : V) (d : PyData) (m : Int), vs = [v, .int m] ∧ Da H v d ∧ Q (.bl (numD m d).isSome) H
section
variable {P : Program} {w : World} {K : PySem.W.Frag} {mg : Str → Option Value} {base : Heap}
end
end K45

set_option Elab.async false
set_option linter.all false
set_option maxRecDepth 100000
set_option maxHeartbeats 4000000
/-! is_piece and is_step of any data. -/
namespace K45
open PySem L2 L2.EV
/-- is_piece of a text -/
def pcS (p : Str) : Bool := decide (1 ≤ p.length) && decide (p.length ≤ 8) && (sl (Txt.removesuffix p ";")).all fun c => decide (c ∈ sgs)
def pcD : PyData → Bool
  | .str p => pcS p
  | _ => false
/-- a step by itself -/
def stpD : PyData → Option T3
  | .tuple [a, .str p, b] => match numD 6 a, numD 6 b with
    | some i, some j => if pcS p = true ∧ Txt.endswith p ";" = decide (j = 0) then some (i, p, j) else none
    | _, _ => none
  | _ => none
theorem stpD_some {d : PyData} {x : T3} (h : stpD d = some x) : d = .tuple [.int x.1, .str x.2.1, .int x.2.2] ∧ 0 ≤ x.1 ∧ x.1 < 6 ∧ 0 ≤ x.2.2 ∧ x.2.2 < 6 := by
  match d, h with
  | .tuple [a, .str p, b], h =>
    have h : (match numD 6 a, numD 6 b with
      | some i, some j => if pcS p = true ∧ Txt.endswith p ";" = decide (j = 0) then some (i, p, j) else none
      | _, _ => none) = some x := h
    cases ea : numD 6 a with
    | none =>
      rw [ea] at h
      cases h
    | some i =>
      cases eb : numD 6 b with
      | none =>
        rw [ea, eb] at h
        cases h
      | some j =>
        rw [ea, eb] at h
        have h : (if pcS p = true ∧ Txt.endswith p ";" = decide (j = 0) then some (i, p, j) else none) = some x := h
        by_cases c : pcS p = true ∧ Txt.endswith p ";" = decide (j = 0)
        · rw [if_pos c] at h
          cases h
          obtain ⟨rfl, a1, a2⟩ := numD_some ea
          obtain ⟨rfl, b1, b2⟩ := numD_some eb
          exact ⟨rfl, a1, a2, b1, b2⟩
        · rw [if_neg c] at h
          cases h
/-- texts that are no long ones -/
def szT (d : PyData) : Prop := ∀ s, d = .str s → s.length ≤ 6000
/-- a step's text is no long one -/
def szS (d : PyData) : Prop := ∀ a x b, d = .tuple [a, x, b] → szT x
def spPcD : Sp := fun vs H Q _ => ∃ (v : V) (d : PyData), vs = [v] ∧ Da H v d ∧ szT d ∧ ∀ H', Same H H' → Q (.bl (pcD d)) H'
def spStpD : Sp := fun vs H Q _ => ∃ (v : V) (d : PyData), vs = [v] ∧ Da H v d ∧ szS d ∧ ∀ H', Same H H' → Q (.bl (stpD d).isSome) H'
section
variable {P : Program} {w : World} {K : PySem.W.Frag} {mg : Str → Option Value} {base : Heap}
theorem ok_pcD {f : Addr} {fd : FuncData} (F : Fun K "is_piece" "is_piece" sPc f fd) (T : TxtF mg) : FnOk P w K mg base CX0 1 f fd ["thing"] spPcD := by
  refine F.ok scPc (fun vs H Q E h => ?_) (fun cdv A outer s H vs Q E hr h => ?_)
  · obtain ⟨v, d, rfl, _⟩ := h
    rfl
  · obtain ⟨v, d, rfl, da, sz, q⟩ := h
    obtain ⟨ts, eS⟩ := T.signs
    obtain ⟨tm, eM⟩ := T.mSigns
    refine ⟨_, pss_cons (ps_if (pw_or (pt_not (pt_val (pe_callB call_isi (by rfl) T.isi PyProof.Rows.boot_isinstance (pa_cons (pv 0) (pa_cons (pe_bltn (v := .ty "str") (by rfl) T.str (by decide +kernel) rfl) pa_nil)))))
        (pw_or1 (pt_not (pt_chain op_le op_le pe_int (pe_callB call_len_str (by rfl) T.len PySem.boot_len (pa_cons (pv 0) pa_nil)) (pe_glob (v := .int 8) (by rfl) eM ⟨_, rfl⟩))))).pt
        (pss_one (ps_ret pe_bl)) pss_nil)
      (pss_one (ps_ret (pe_callB (cr_all rfl) (by rfl) T.all (by decide +kernel) (pa_cons (pe_lc (own := [("sign", 1)]) (g := gName 1) rfl scPc.nd
        (pi_str (pe_m1 PySem.F.slot_str_removesuffix PySem.F.type_str_removesuffix mt_removesuffix (pv 0) pe_str)) (blkOk_by (N := ["thing", "sign"]) (sc := defScope sPc) (by decide +kernel))
        (fun _ _ _ _ _ => pg_name (i := 1) scPc.nd rfl (Or.inl rfl)) (fun _ _ _ _ _ => pts_nil) (fun _ _ _ _ _ => pe_cmpR op_in_sign (pv 1) (pe_glob (v := .str "abcdefghijklmnopqrstuvwxyz0123456789@") (by rfl) eS ⟨_, rfl⟩) (by rfl))) pa_nil)))), ?_⟩
    obtain ⟨t, ty, kt⟩ := da.tyS (K := K)
    refine ⟨_, rfl, v, .ty "str", t, .type "str", isSt d, rfl, .ty "str", ty, kt, isSt d, rfl, ?_⟩
    cases da with
    | str p =>
      refine iteF ?_
      have szp := sz p rfl
      have q : ∀ H', Same H H' → Q (.bl (pcS p)) H' := q
      refine ⟨.str p, rfl, p, rfl, by rw [sizeLine_eq]; omega, 1, p.length, rfl, rfl, _, rfl, ?_⟩
      by_cases c1 : 1 ≤ p.length
      · refine iteT' (decide_eq_true (by omega)) ⟨p.length, 8, rfl, rfl, _, rfl, ?_⟩
        by_cases c2 : p.length ≤ 8
        · refine iteF' (by rw [decide_eq_true (by omega)]; rfl) ?_
          refine ⟨_, rfl, ⟨p, rfl⟩, p, ";", rfl, rfl, by rw [sizeLine_eq]; omega, _, rfl, fun D hD => ?_⟩
          refine lc_it walk_str (fun i H' => H' D = some (.lst ((((sl (Txt.removesuffix p ";")).take i).map fun c => decide (c ∈ sgs)).map V.bl)) ∧ ∀ b o, H b = some o → H' b = some o) ⟨upd_same, fun b o z => same_upd hD b o z⟩ (fun _ _ _ _ => trivial) ?_ ?_
          · rintro i x H1 H2 hi ⟨hl, kp⟩ ⟨rfl, c, hc, rfl⟩
            refine ⟨rfl, ⟨_, rfl, c, _, rfl, rfl, ?_⟩⟩
            have hc' : (sl (Txt.removesuffix p ";"))[i]? = some c := by simpa using hc
            refine ⟨_, hl, ?_, ?_, fun b o z => ?_⟩
            · rw [List.length_map, List.length_map, List.length_take, sizeLine_eq]
              have l1 := PyProof.Rows.len_removesuffix p ";"
              have l2 : (Txt.removesuffix p ";").cps.size = (Txt.removesuffix p ";").length := rfl
              omega
            · rw [List.take_succ, hc', List.map_append, List.map_append]
              exact upd_same
            · rw [upd_ne (ne_of_none z hD)]
              exact kp b o z
          · rintro H1 ⟨hl, kp⟩
            refine ⟨D, _, rfl, SqL.of hl, ?_⟩
            have z := q H1 kp
            unfold pcS at z
            rw [decide_eq_true c1, decide_eq_true c2, Bool.true_and, Bool.true_and] at z
            have e9 : (sl (Txt.removesuffix p ";")).take (Txt.removesuffix p ";").cps.size = sl (Txt.removesuffix p ";") := by
              have e : (Txt.removesuffix p ";").cps.size = (sl (Txt.removesuffix p ";")).length := by show _ = (Txt.removesuffix p ";").cps.toList.length; simp
              rw [e, List.take_length]
            rw [e9, List.all_map]
            exact z
        · refine iteT' (by rw [decide_eq_false (by omega)]; rfl) ?_
          have z := q H (Same.refl H)
          unfold pcS at z
          rw [decide_eq_false c2, Bool.and_false, Bool.false_and] at z
          exact z
      · refine iteF' (decide_eq_false (by omega)) ⟨_, rfl, iteT ?_⟩
        have z := q H (Same.refl H)
        unfold pcS at z
        rw [decide_eq_false c1, Bool.false_and, Bool.false_and] at z
        exact z
    | bl b => exact iteT (q H (Same.refl H))
    | non => exact iteT (q H (Same.refl H))
    | int i => exact iteT (q H (Same.refl H))
    | lst e h => exact iteT (q H (Same.refl H))
    | tup e h => exact iteT (q H (Same.refl H))
end
end K45

set_option Elab.async false
set_option linter.all false
set_option maxRecDepth 100000
set_option maxHeartbeats 4000000
/-! A caught error that has fields: isinstance, its fields. -/
namespace L2
namespace EV
open PySem PySem.Spec PyProof.Rows _root_.EV
/-- isinstance of a caught one with fields -/
def rIsF (K : PySem.W.Frag) : List V → Hp → VK → Prop := fun xs H Q => ∃ (a C d : Addr) (fs : List (Str × V)) (B newId initId : String) (bm : List Value) (c : V) (u : Value) (b : Bool),
  xs = [.ref a, c] ∧ ClsV c u ∧ OxC K C B newId initId bm ∧ H a = some (exh (.ref C) (some d) a) ∧ H d = some (.xd fs) ∧ PySem.W.kitOne K (.ref C) u = some b ∧ Q (.bl b) H
theorem call_isF {X : Cx} : CallR X (.builtin "isinstance") (rIsF X.K) := by
  intro pins s σ H xs us Q I r h
  obtain ⟨a, C, d, fs, B, newId, initId, bm, c, u, b, rfl, k, T, ea, ed, e, q⟩ := h
  obtain ⟨u1, u2, rfl, r1, r2⟩ := vals2 r
  have e2 := k.eq r2
  subst e2
  obtain rfl : u1 = Value.ref a := r1
  obtain ⟨oe, vs, ho, hz, hd⟩ := exh_at I.hok ea
  have hx : ObjOk X.prog X.w H s.heap d (.xd fs) := I.hok d _ ed
  obtain ⟨mA, hns, hr⟩ := hx
  obtain ⟨od, hod, hl⟩ := lookIn_ns hns
  obtain ⟨cd, hcl, _⟩ := T.data
  have some_ : (PySem.W.clsIn X.K C).isSome = true := by rw [hcl]; rfl
  have J : PySem.W.InstAt s.heap a oe C (some od) := ⟨ho, hz.1, by unfold PySem.W.notCls; rw [hd], by rw [hz.2]; exact hod⟩
  exact PySem.W.kia_one (PySem.W.kitx_exc some_ T.ga T.gg T.exC T.ca T.cn T.ct T.om) I.kIn J e (fun z => nomatch z) fun tk => ⟨.bl b, H, I.tok tk, rfl, q⟩
/-- a caught one's field -/
def tXg (K : PySem.W.Frag) (f : Str) (te : TE) : TE := fun σ H Q => te σ H fun x H1 => ∃ (a C d : Addr) (fs : List (Str × V)) (v : V), x = .ref a ∧ XfC K C ∧ PySem.W.findIn K (.ref C) f = some none ∧ H1 a = some (exh (.ref C) (some d) a) ∧ H1 d = some (.xd fs) ∧ fs.lookup f = some v ∧ Q v H1
theorem pe_xg {X : Cx} {e : Expr} {te : TE} {pos : Pos} {n : Str} (he : PE X e te) (hb : attributeBase e n X.env (eval e X.env) = eval e X.env := by rfl) : PE X (.Attribute e n pos) (tXg X.K n te) := by
  refine ⟨fun pins s σ H Q I h => ?_⟩
  refine attr_of hb (thn (he.run pins s σ H _ I h) fun u s1 hh => ?_)
  obtain ⟨x, H1, I1, rx, a, C, d, fs, v, ex, T, hno, ea, ed, l, q⟩ := hh
  subst ex
  obtain rfl : u = Value.ref a := rx
  obtain ⟨oe, vs, ho, hz, hd⟩ := exh_at I1.hok ea
  have hx : ObjOk X.prog X.w H1 s1.heap d (.xd fs) := I1.hok d _ ed
  obtain ⟨mA, hns, hr⟩ := hx
  obtain ⟨od, hod, hl⟩ := lookIn_ns hns
  obtain ⟨u, hu, ru⟩ := RelO.some_of (v := v) (o := mA n) (by rw [← l]; exact hr n)
  have J : PySem.W.InstAt s1.heap a oe C (some od) := ⟨ho, hz.1, by unfold PySem.W.notCls; rw [hd], by rw [hz.2]; exact hod⟩
  exact HandSPX.exc_get I1.kIn J T.ga T.gg T.exC (PySem.W.findObj_own T.hdC hno rfl (by rw [hl, hu])) (handed_of ru) ⟨v, H1, I1.tok _, ru, q⟩
end EV
end L2

set_option Elab.async false
set_option linter.all false
set_option maxRecDepth 100000
set_option maxHeartbeats 4000000
/-! t[::-1] of a tuple. -/
namespace L2
namespace EV
open PySem PySem.Spec PyProof.Rows _root_.EV PySem.Builtin
theorem rev_adjust (n : Nat) : Slice.sliceAdjust none none (-1) (n : Int) = ((n : Int) - 1, -1) := by
  unfold Slice.sliceAdjust
  simp
theorem rev_places (n : Nat) : Slice.slicePlaces ((n : Int) - 1) (-1) (-1) = n := by
  unfold Slice.slicePlaces
  rw [if_neg (by decide)]
  by_cases h : 0 < n
  · rw [if_pos (by omega)]
    simp only [Int.neg_neg, Int.ediv_one]
    omega
  · rw [if_neg (by omega)]
    omega
theorem fm_congr {α β : Type} {f g : α → Option β} : ∀ {l : List α}, (∀ x ∈ l, f x = g x) → l.filterMap f = l.filterMap g
  | [], _ => rfl
  | x :: l, h => by
    rw [List.filterMap_cons, List.filterMap_cons, h x (List.mem_cons_self ..), fm_congr fun y hy => h y (List.mem_cons_of_mem _ hy)]
theorem rev_pick (xs : Array Value) : ((List.range xs.size).filterMap fun (k : Nat) => xs[((xs.size : Int) - 1 + (k : Int) * -1).toNat]?) = xs.toList.reverse := by
  have e : ∀ k ∈ List.range xs.size, xs[((xs.size : Int) - 1 + (k : Int) * -1).toNat]? = xs.toList.reverse[k]? := fun k hk => by
    have hk := List.mem_range.mp hk
    have z : ((xs.size : Int) - 1 + (k : Int) * -1).toNat = xs.size - 1 - k := by omega
    rw [z, List.getElem?_reverse (by simpa using hk)]
    simp
  rw [fm_congr e]
  have g : ∀ l : List Value, (List.range l.length).filterMap (fun k => l[k]?) = l := fun l => by
    have z := PySem.W.krv_all l.toArray
    simpa using z
  have z := g xs.toList.reverse
  simpa using z
section
variable {prog : Program} {w : World} {A : Around} {E : Value → Shared → Prop} {s : Shared}
theorem rev_applied {sl : Addr} {vk : Value} {n : Nat} {Q : Int × Int × Nat → Shared → Prop} (hs : s.heap.IsSliceOf sl .none .none vk) (pk : IsPart vk (some (-1))) (h : Q ((n : Int) - 1, -1, n) s) :
    wpAny (model prog w) A (Slice.sliceApplied (.ref sl) (pure (n : Int))) Q E s := by
  obtain ⟨os, hos, _, hds⟩ := id hs
  unfold Slice.sliceApplied Slice.sliceFields
  refine wpAny_bind (wpAny_bind (wpAny_field hos hds (x := .none) rfl (wpAny_bind (wpAny_field hos hds (x := .none) rfl (wpAny_bind (wpAny_field hos hds (x := vk) rfl (wpAny_pure ?_)))))))
  refine wpAny_bind (HT.slicePart_ pk ?_)
  show wpAny _ _ (if ((-1 : Int) == 0) = true then _ else _) _ _ s
  rw [if_neg (by decide)]
  refine wpAny_bind (slicePart_none (wpAny_bind (slicePart_none (wpAny_bind (wpAny_pure ?_)))))
  show wpAny _ _ (match Slice.sliceAdjust none none (-1) (n : Int) with | (lo, hi) => pure (lo, (-1 : Int), Slice.slicePlaces lo hi (-1))) _ _ s
  rw [rev_adjust]
  show wpAny _ _ (pure ((n : Int) - 1, (-1 : Int), Slice.slicePlaces ((n : Int) - 1) (-1) (-1))) _ _ s
  rw [rev_places]
  exact wpAny_pure h
theorem rev_item {t sl : Addr} {items : Array Value} {vk : Value} {Q : Value → Shared → Prop} (ht : IsTup s.heap t items) (hs : s.heap.IsSliceOf sl .none .none vk) (pk : IsPart vk (some (-1))) (hz : items.size ≤ sizeLine)
    (h : Q (.ref s.heap.objs.size) { s with heap := s.heap.push { cls := .type "tuple", data := .seq items.toList.reverse.toArray } }) : wpAny (model prog w) A (getItem (.ref t) (.ref sl)) Q E s := by
  have ok : sizeOk (.seq items.toList.reverse.toArray) := by
    show items.toList.reverse.toArray.size ≤ sizeLine
    rw [List.size_toArray, List.length_reverse, Array.length_toList]
    exact hz
  obtain ⟨os, hos, hcs, _⟩ := id hs
  have hTs : s.TypeIs (.ref sl) "slice" := ⟨os, hos, hcs⟩
  unfold getItem
  try with_reducible refine wpAny_holding ?_
  first | refine wpAny_bind (wpAny_pure ?_) | skip
  refine wpAny_bind (wpAny_sequenceKey ht.typeIs (by decide) ?_)
  refine wpAny_bind (wpAny_callSpecial?_slot (name := Str.ofString "__getitem__") ht.typeIs PyProof.Rows.slot_tuple_getitem (wpAny_call_entry PyProof.Rows.slot_tuple_getitem ht.typeIs entry_tuple_getitem ?_ (args_tuple_getitem _ _)))
  show wpAny _ _ (Tuple.tupleItemsOf (.ref t) >>= _) _ _ s
  refine wpAny_bind (tupleItemsOf_ ht (wpAny_bind (wpAny_typeOf hTs ?_)))
  rw [if_pos (by decide)]
  refine wpAny_bind (rev_applied hs pk ?_)
  show wpAny _ _ (if ((((items.size : Nat) : Int) - 1) == 0 && (-1 : Int) == 1 && items.size == items.size) = true then _ else _) _ _ s
  rw [if_neg (by simp), rev_pick]
  first
    | exact wpAny_bind (m := Tuple.tupleExact _) (wpAny_newObj_type (wpAny_pure ⟨_, rfl, wpAny_pure h⟩) ok)
    | exact wpAny_bind (m := Tuple.tupleExact _) (wpAny_newObj_type (wpAny_bind (wpAny_pure (wpAny_pure ⟨_, rfl, wpAny_pure h⟩))) ok)
    | exact wpAny_bind (wpAny_bind (m := Tuple.tupleExact _) (wpAny_newObj_type (wpAny_pure (wpAny_pure ⟨_, rfl, wpAny_pure h⟩)) ok))
    | exact wpAny_bind (wpAny_bind (m := Tuple.tupleExact _) (wpAny_newObj_type (wpAny_pure ⟨_, rfl, wpAny_pure h⟩) ok))
end
def tRevT (K : PySem.W.Frag) (te tk : TE) : TE := fun σ H Q => te σ H fun x H1 => tPart tk σ H1 fun o H2 => o = some (-1) ∧ ∃ a xs, x = .ref a ∧ H2 a = some (.tup xs) ∧ ∀ p, H2 p = none → Q (.ref p) (upd H2 p (.tup xs.reverse))
theorem vals_revs : ∀ {zs : List V} {ws : List Value}, Vals zs ws → Vals zs.reverse ws.reverse
  | _, _, .nil => .nil
  | _, _, .cons r t => by
    rw [List.reverse_cons, List.reverse_cons]
    exact (vals_revs t).append (.cons r .nil)
section
variable {X : Cx} {e k : Expr} {te tk : TE} {pos p2 : Pos}
theorem pe_revT {ops : Value → Value → List Value} (he : PE X e te) (hk : PE X k tk) (hs : ∀ o i : Value, subscripted (.Slice none none (some k) p2) false o i = operate (ops o i) (getItem o i)) : PE X (.Subscript e (.Slice none none (some k) p2) pos) (tRevT X.K te tk) := by
  refine ⟨fun pins s σ H Q I h => ?_⟩
  refine Subscript_ (thn (he.run pins s σ H _ I h) fun v s1 ⟨x, H1, I1, r1, q1⟩ => ?_)
  refine wpAny_Slice (thn (po_none.run pins s1 σ H1 (fun o H' => o = none ∧ H' = H1) I1 ⟨rfl, rfl⟩) fun vl s2 ⟨l, H2, I2, pl, q2⟩ => thn (po_none.run pins s2 σ H2 (fun o H' => o = none ∧ H' = H2) I2 ⟨rfl, rfl⟩) fun vu s3 ⟨u, H3, I3, pu, q3⟩ => ?_)
  obtain ⟨rfl, rfl⟩ := q2
  obtain ⟨rfl, rfl⟩ := q3
  cases pl
  cases pu
  refine thn ((po_some hk).run pins s3 σ _ _ I3 q1) fun vk s4 ⟨o, H4, I4, pk, ho, a, xs, ex, ea, q4⟩ => ?_
  subst ex ho
  obtain rfl : v = Value.ref a := r1
  have I5 : Inv X pins σ H4 { s4 with heap := s4.heap.push { cls := .type "slice", data := .fields #[.none, .none, vk] } } := I4.kept (t' := s4.toks) fun b ob q => Heap.get?_push_of_some _ q
  obtain ⟨its, r, ht, hz⟩ := I5.tuple (SqT.of ea)
  have hg := rev_item (prog := X.prog) (w := X.w) (A := X.A) (E := X.xe) (Q := EP X pins σ Q) (s := { s4 with heap := s4.heap.push { cls := .type "slice", data := .fields #[.none, .none, vk] } }) ht (Heap.IsSliceOf.new ..) pk (by rw [List.size_toArray, ← r.length]; exact hz) ?_
  · exact tail_any ht.typeIs PyProof.Rows.slot_tuple_getitem.lookup hg (hs _ _)
  · rw [List.toList_toArray]
    have fr : H4 (s4.heap.push { cls := .type "slice", data := .fields #[.none, .none, vk] }).objs.size = none := I5.hok.fresh (Nat.le_refl _)
    refine ⟨.ref (s4.heap.push { cls := .type "slice", data := .fields #[.none, .none, vk] }).objs.size, _, I5.laid (t' := s4.toks) (a := (s4.heap.push { cls := .type "slice", data := .fields #[.none, .none, vk] }).objs.size) (o := .tup xs.reverse)
      (h' := (s4.heap.push { cls := .type "slice", data := .fields #[.none, .none, vk] }).push { cls := .type "tuple", data := .seq its.reverse.toArray }) (fun b o q => Heap.get?_push_of_some _ q) (Nat.le_refl _) ?_, rfl, q4 _ fr⟩
    exact ⟨by rw [List.length_reverse]; exact hz, its.reverse, vals_revs r, ⟨_, Heap.get?_push_size _ rfl, rfl, 0, rfl⟩⟩
end
end EV
end L2

set_option Elab.async false
set_option linter.all false
set_option maxRecDepth 100000
set_option maxHeartbeats 4000000
/-! Pairs of an int and a text: <, <=. Raising an own exception whose __init__ has put fields. -/
namespace L2
open PySem PySem.Spec PyProof.Rows
abbrev IS : Type := Int × Str
def ltIS (a b : IS) : Bool := if a.1 = b.1 then decide (sl a.2 < sl b.2) else decide (a.1 < b.1)
def tIS (a : IS) : HO := .tup [.int a.1, .str a.2]
def rLtIS : R2 := fun x y H Q => ∃ (a b : Addr) (m n : IS), x = .ref a ∧ y = .ref b ∧ H a = some (tIS m) ∧ H b = some (tIS n) ∧ Q (.bl (ltIS m n)) H
def rLeIS : R2 := fun x y H Q => ∃ (a b : Addr) (m n : IS), x = .ref a ∧ y = .ref b ∧ H a = some (tIS m) ∧ H b = some (tIS n) ∧ Q (.bl (!ltIS n m)) H
theorem lexP_lt (m n : IS) : Ob.lexAt (fun j => if j = 0 then m.1 == n.1 else m.2 == n.2) (fun j => if j = 0 then decide (m.1 < n.1) else decide (sl m.2 < sl n.2)) false 0 2 = ltIS m n := by
  obtain ⟨m1, m2⟩ := m
  obtain ⟨n1, n2⟩ := n
  simp only [Ob.lexAt, ltIS]
  by_cases e1 : m1 = n1
  · subst e1
    by_cases e2 : m2 = n2
    · subst e2
      have z : ¬ sl m2 < sl m2 := List.lt_irrefl _
      simp
    · simp [e2]
  · simp [e1]
theorem lexP_le (m n : IS) : Ob.lexAt (fun j => if j = 0 then m.1 == n.1 else m.2 == n.2) (fun j => if j = 0 then decide (m.1 ≤ n.1) else decide (sl m.2 ≤ sl n.2)) true 0 2 = !ltIS n m := by
  obtain ⟨m1, m2⟩ := m
  obtain ⟨n1, n2⟩ := n
  simp only [Ob.lexAt, ltIS]
  by_cases e1 : m1 = n1
  · subst e1
    by_cases e2 : m2 = n2
    · subst e2
      have z : ¬ sl m2 < sl m2 := List.lt_irrefl _
      simp
    · have e2' : ¬ n2 = m2 := fun z => e2 z.symm
      simp only [beq_self_eq_true, if_true, Nat.zero_add, Nat.one_ne_zero, if_false, beq_iff_eq, e2]
      by_cases z : sl m2 ≤ sl n2
      · rw [decide_eq_true z, decide_eq_false (List.not_lt.mpr z)]
        rfl
      · rw [decide_eq_false z, decide_eq_true (List.not_le.mp z)]
        rfl
  · have e1' : ¬ n1 = m1 := fun z => e1 z.symm
    simp only [if_true, beq_iff_eq, e1, e1', if_false]
    by_cases z : m1 ≤ n1
    · rw [decide_eq_true z, decide_eq_false (by omega)]
      rfl
    · rw [decide_eq_false z, decide_eq_true (by omega)]
      rfl
theorem lt_strR {A : Around} {s : Shared} (a b : Str) (t u : Tok) : Ob.RcOp .Lt A s (.str a t) (.str b u) (decide (sl a < sl b)) := fun _ _ _ _ h => PyProof.Rows.lt_str h
section
variable {X : Cx}
theorem vals_2 {x y : V} {us : List Value} (r : Vals [x, y] us) : ∃ u w', us = [u, w'] ∧ RelV x u ∧ RelV y w' := by
  cases r with
  | cons r1 r =>
    cases r with
    | cons r2 r =>
      cases r
      exact ⟨_, _, rfl, r1, r2⟩
theorem op_ltIS (hu : X.A.units < cLine) : OpR X (compareOp .Lt) rLtIS := by
  intro pins s σ H x y v u Q I rx ry h
  obtain ⟨a, b, m, n, rfl, rfl, ha, hb, q⟩ := h
  cases rx
  cases ry
  obtain ⟨its, r1, p1, _⟩ := I.tuple (SqT.of ha)
  obtain ⟨its2, r2, p2, _⟩ := I.tuple (SqT.of hb)
  obtain ⟨u1, u2, rfl, ⟨t1, rfl⟩, ⟨t2, rfl⟩⟩ := vals_2 r1
  obtain ⟨v1, v2, rfl, ⟨w1, rfl⟩, ⟨w2, rfl⟩⟩ := vals_2 r2
  have R := Ob.RcOp.tuples_lt (A := X.A) (s := s) (e := fun j => if j = 0 then m.1 == n.1 else m.2 == n.2) (r := fun j => if j = 0 then decide (m.1 < n.1) else decide (sl m.2 < sl n.2)) p1 p2 hu
    (fun j h1 h2 => by
      match j, h1 with
      | 0, _ => exact SeqAt.EqAt.int_int _ _ _ _
      | 1, _ => exact SeqAt.EqAt.str_str _ _ _ _)
    (fun j h1 h2 _ => by
      match j, h1 with
      | 0, _ => exact Ob.RcOp.lt_int _ _ _ _
      | 1, _ => exact lt_strR _ _ _ _)
  have e3 : Ob.lexAt (fun j => if j = 0 then m.1 == n.1 else m.2 == n.2) (fun j => if j = 0 then decide (m.1 < n.1) else decide (sl m.2 < sl n.2)) (decide (2 < 2)) 0 (min 2 2) = ltIS m n := lexP_lt m n
  have z : wpAny (model X.prog X.w) X.A (compareOp .Lt (.ref a) (.ref b)) (EP X pins σ Q) X.xe s := R X.prog X.w X.xe (EP X pins σ Q) ⟨.bl _, H, I, rfl, by
    rw [← e3] at q
    exact q⟩
  exact z
theorem op_leIS (hu : X.A.units < cLine) : OpR X (compareOp .LtE) rLeIS := by
  intro pins s σ H x y v u Q I rx ry h
  obtain ⟨a, b, m, n, rfl, rfl, ha, hb, q⟩ := h
  cases rx
  cases ry
  obtain ⟨its, r1, p1, _⟩ := I.tuple (SqT.of ha)
  obtain ⟨its2, r2, p2, _⟩ := I.tuple (SqT.of hb)
  obtain ⟨u1, u2, rfl, ⟨t1, rfl⟩, ⟨t2, rfl⟩⟩ := vals_2 r1
  obtain ⟨v1, v2, rfl, ⟨w1, rfl⟩, ⟨w2, rfl⟩⟩ := vals_2 r2
  have R := Ob.RcOp.tuples_le (A := X.A) (s := s) (e := fun j => if j = 0 then m.1 == n.1 else m.2 == n.2) (r := fun j => if j = 0 then decide (m.1 ≤ n.1) else decide (sl m.2 ≤ sl n.2)) p1 p2 hu
    (fun j h1 h2 => by
      match j, h1 with
      | 0, _ => exact SeqAt.EqAt.int_int _ _ _ _
      | 1, _ => exact SeqAt.EqAt.str_str _ _ _ _)
    (fun j h1 h2 _ => by
      match j, h1 with
      | 0, _ => exact Ob.RcOp.le_int _ _ _ _
      | 1, _ => exact RcOp.le_str _ _ _ _)
  have e3 : Ob.lexAt (fun j => if j = 0 then m.1 == n.1 else m.2 == n.2) (fun j => if j = 0 then decide (m.1 ≤ n.1) else decide (sl m.2 ≤ sl n.2)) (decide (2 ≤ 2)) 0 (min 2 2) = !ltIS n m := lexP_le m n
  have z : wpAny (model X.prog X.w) X.A (compareOp .LtE (.ref a) (.ref b)) (EP X pins σ Q) X.xe s := R X.prog X.w X.xe (EP X pins σ Q) ⟨.bl _, H, I, rfl, by
    rw [← e3] at q
    exact q⟩
  exact z
end
namespace EV
/-- an exception's fields, told as those of one that flies -/
theorem exd_told {X : Cx} {pins : List (Addr × Obj)} {σ : L2.St} {H : Hp} {s : Shared} {d : Addr} {fs : List (Str × V)} (I : Inv X pins σ H s) (e : H d = some (exd d fs)) : Inv X pins σ (upd H d (.xd fs)) s := by
  obtain ⟨mA, hns, rel⟩ := exd_at I.hok e
  obtain ⟨od, ho, _⟩ := lookIn_ns hns
  exact I.write (h' := s.heap) (t' := s.toks) (x := d) (e := d) (o := .xd fs) (by rw [e]; exact True.intro) (.inl rfl) (fun b u _ q => q) (by
    obtain ⟨o, es, ep, e1, _⟩ := hns
    exact ⟨_, e1⟩) ⟨mA, hns, rel⟩
theorem pmk_own3 {X : Cx} {e : Expr} {te : TE} (hx : X.ex = []) (he : PE X e te) :
    PMk X e (fun σ H Q => te σ H fun x H1 => ∃ (a C d : Addr) (fs : List (Str × V)), x = .ref a ∧ H1 a = some (exo a C (some d)) ∧ d ≠ a ∧ H1 d = some (exd d fs) ∧ Fr0 X.H_0 a ∧ Raises X (.ref C) ∧ Q (.ref C) (some d) (upd (delH H1 a) d (.xd fs))) := by
  intro pins s σ H Q I h
  refine wpAny_mono (he.run pins s σ H _ I h) (fun u s1 hu => ?_) fun _ _ x => x
  obtain ⟨v, H1, I1, r1, a, C, d, fs, rfl, ha, nda, hd, h0, hr, q⟩ := hu
  cases r1
  obtain ⟨t1, ho⟩ := exo_at I1.hok ha
  obtain ⟨G, gs, ga, J⟩ := I1.untrack ha h0 hx
  have hd' : delH H1 a d = some (exd d fs) := by
    rw [delH_ne nda]
    exact hd
  have J2 := exd_told J hd'
  have na : upd (delH H1 a) d (.xd fs) a = none := by
    rw [upd_ne nda.symm]
    exact delH_same
  exact ⟨a, _, _, { s1 with heap := G }, _, .ref C, some d, rfl, J2, gs, ga, ho, ⟨rfl, rfl⟩, rfl, rfl, na, rfl, I1.bare, hr, q⟩
end EV
end L2

set_option Elab.async false
set_option linter.all false
set_option maxRecDepth 100000
set_option maxHeartbeats 4000000
/-! BadFraming; is_joined of what isn't; need_framing of what is no framing. -/
namespace K45
open PySem L2 L2.EV
abbrev sJoined : Stmt := top 17
def spOne (C : Addr) (f : Str) : Sp := fun vs H Q _ => ∃ (a : Addr) (x : V), vs = [.ref a, x] ∧ H a = some (exo a C none) ∧
  ∀ dx, H dx = none → dx ≠ a → Q .non (upd (upd H dx (exd dx [(f, x)])) a (exo a C (some dx)))
/-- what is asked of a built-in base, for B.__init__(self, ..) -/
structure BI (K : PySem.W.Frag) (mg : Str → Option Value) (nB : Str) (B initId : String) : Prop where
  mg : mg nB = none
  bt : bootBuiltins nB = some (.type B)
  ty : typeOf (.type B) = pure (.type "type")
  vV : PySem.W.findCls K (.type B) (.type "type") "__init__" = some (.val (.builtin initId))
  st : Manifest.isStub B = false
def gP : List Value → List Value → List Value := fun us _ => us
def vP : List V → List V → List V := fun vs _ => vs
theorem kb_pos {K : PySem.W.Frag} {fd : FuncData} {ps : List Str} {n : Nat} (b : Binds K fd ps []) (hn : ps.length = n) : KBn K fd ps n [] gP vP := by
  refine ⟨fun s us ws X l1 l2 => ?_, fun r _ => r⟩
  have z := b s us X (by rw [List.append_nil, l1, hn])
  rw [List.append_nil] at z
  exact z
abbrev bmVE : List Value := [.type "ValueError", .type "Exception", .type "BaseException", .type "object"]
theorem same_none {H H' : Hp} {a : Addr} (s : Same H H') (n : H' a = none) : H a = none := by
  cases e : H a with
  | none => rfl
  | some o =>
    rw [s _ _ e] at n
    cases n
theorem drop_at {α : Type} {l : List α} {i : Nat} {x : α} (h : l[i]? = some x) : l.drop i = x :: l.drop (i + 1) := by
  obtain ⟨hi, e⟩ := List.getElem?_eq_some_iff.mp h
  rw [List.drop_eq_getElem_cons hi, e]
def JF (H : Hp) (f : Addr) : Prop := ∃ (fr : List T3) (last : Nat) (S : Int → Prop) (k : Int), FrA H f fr ∧ Fb fr last ∧ (∀ x ∈ fr, x.1 = ((0 : Nat) : Int) → S x.2.2) ∧ (∀ x ∈ fr, S x.1 → S x.2.2) ∧ (∃ x ∈ fr, x.1 = k ∨ x.2.2 = k) ∧ ¬ S k
theorem JF.same {H H' : Hp} {f : Addr} (h : JF H f) (s : Same H H') : JF H' f := by
  obtain ⟨fr, last, S, k, fa, r⟩ := h
  exact ⟨fr, last, S, k, fa.same s, r⟩
def spJF : Sp := fun vs H Q _ => ∃ (f : Addr), vs = [.ref f] ∧ JF H f ∧ ∀ H', Same H H' → Q (.bl false) H'
def lb3 : Option T3 → T3 → Bool
  | none, _ => false
  | some p, t => !lt3 p t
/-- the number of the first thing that is no step, or not greater than the one ahead -/
def wrgF : List PyData → Option T3 → Nat → Option Nat
  | [], _, _ => none
  | d :: ds, last, k => match stpD d with
    | none => some k
    | some t => if lb3 last t = true then some k else wrgF ds (some t) (k + 1)
theorem wrgF_none {d : PyData} {ds : List PyData} {last : Option T3} {k : Nat} (h : stpD d = none) : wrgF (d :: ds) last k = some k := by
  rw [wrgF, h]
theorem wrgF_some {d : PyData} {ds : List PyData} {last : Option T3} {k : Nat} {t : T3} (h : stpD d = some t) : wrgF (d :: ds) last k = if lb3 last t = true then some k else wrgF ds (some t) (k + 1) := by
  rw [wrgF, h]
theorem stp_at {H : Hp} {v : V} {d : PyData} {t : T3} (h : Da H v d) (e : stpD d = some t) : ∃ a, v = .ref a ∧ S3 H a t := by
  obtain ⟨rfl, _⟩ := stpD_some e
  cases h with
  | tup e all =>
    match all with
    | .cons (.int _) (.cons (.str _) (.cons (.int _) .nil)) => exact ⟨_, rfl, e⟩
/-- the defs that is_joined calls -/
structure Fs (K : PySem.W.Frag) (mg : Str → Option Value) where
  fP : Addr
  fL : Addr
  fW : Addr
  fJ : Addr
  dP : FuncData
  dL : FuncData
  dW : FuncData
  dJ : FuncData
  P : Fun K "is_piece" "is_piece" sPc fP dP
  L : Fun K "listed_standings" "listed_standings" sListed fL dL
  W : Fun K "ways_from" "ways_from" sWays fW dW
  J : Fun K "is_joined" "is_joined" sJoined fJ dJ
  bP : Binds K dP ["thing"] []
  bL : Binds K dL ["framing"] []
  bW : Binds K dW ["framing", "begin"] []
  bJ : Binds K dJ ["framing"] []
  mP : mg "is_piece" = some (.ref fP)
  mL : mg "listed_standings" = some (.ref fL)
  mW : mg "ways_from" = some (.ref fW)
  mJ : mg "is_joined" = some (.ref fJ)
  T : TxtF mg
  so : mg "sorted" = none
  en : mg "enumerate" = none
  ms : ∃ t, mg "MOST_STEPS" = some (.int 16 t)
section
variable {P : Program} {w : World} {K : PySem.W.Frag} {mg : Str → Option Value} {base : Heap}
theorem scJoined : FnScope ["framing", "reached", "standing"] ["framing"] (defScope sJoined) := ⟨rfl, rfl, rfl, by decide +kernel, rfl, by decide +kernel, by decide +kernel⟩
theorem ok_JF (Z : Fs K mg) : FnOk P w K mg base CX0 2 Z.fJ Z.dJ ["framing"] spJF := by
  have GL : FnOk P w K mg base CX0 1 Z.fL Z.dL ["framing"] spListed := ok_listed Z.L Z.so
  have GW : FnOk P w K mg base CX0 1 Z.fW Z.dW ["framing", "begin"] spWays := ok_ways Z.W Z.en
  refine Z.J.ok scJoined (fun vs H Q E h => ?_) (fun cdv A outer s H vs Q E hr h => ?_)
  · obtain ⟨f, rfl, _⟩ := h
    rfl
  · obtain ⟨f, rfl, ⟨fr, last, S, kk, fa, fm, c0, c1, hk, nk⟩, q⟩ := h
    have hu := hu_of hr
    refine ⟨_, pss_cons (ps_set (i := 1) scJoined.nd rfl (Or.inl rfl) (pe_call GW hr (by rfl) Z.mW Z.W.kp Z.bW .nil pass0 (pa_cons (pv 0) (pa_cons pe_int pa_nil))))
      (pss_cons (ps_for PassesOwn.never rfl (pi_list (pe_call GL hr (by rfl) Z.mL Z.L.kp Z.bL .nil pass0 (pa_cons (pv 0) pa_nil))) (pg_name (i := 2) scJoined.nd rfl (Or.inl rfl))
        (pss_one (ps_if (pw_or (pt_cmp (pc_dnotin hu (pv 2) (pv 1)) (by rfl)) (pw_or1 (pt_cmp (pc_dnotin hu pe_int (pe_call GW hr (by rfl) Z.mW Z.W.kp Z.bW .nil pass0 (pa_cons (pv 0) (pa_cons (pv 2) pa_nil)))) (by rfl)))).pt
          (pss_one (ps_ret pe_bl)) pss_nil)))
      (pss_one (ps_ret pe_bl))), ?_⟩
    refine ⟨_, rfl, f, fr, last, 0, S, rfl, fa, fm, Nat.zero_le _, c0, c1, fun H1 d kvs s1 n1 e1 h1 k1 => ?_⟩
    refine ⟨_, rfl, f, fr, last, rfl, fa.same s1, fm, fun H2 p ns s2 n2 e2 l2 k2 a2 _ => ⟨p, rfl, ⟨_, SqL.of e2⟩, for_it (walk_list (xs := ns.map V.int)) (fun i σ H' => ∃ v2 : Option V, σ = [some (.ref f), some (.ref d), v2] ∧ Same H2 H' ∧ ∀ g ∈ ns.take i, g ≠ kk)
      ⟨none, rfl, (fun _ _ e => e), fun g z => by cases z⟩ (fun i σ H' _ ⟨_, _, z, _⟩ => SqL.of (z _ _ e2)) ?_ ?_⟩⟩
    · rintro i x σ H3 H4 hi ⟨v2, rfl, s3, al⟩ ⟨rfl, hx⟩
      obtain ⟨k, hk, hki, rfl⟩ : ∃ k : Int, k ∈ ns ∧ ns[i]? = some k ∧ x = .int k := by
        rw [List.getElem?_map] at hx
        cases e : ns[i]? with
        | none =>
          rw [e] at hx
          cases hx
        | some k =>
          rw [e] at hx
          exact ⟨k, List.mem_of_getElem? e, rfl, (Option.some.inj hx).symm⟩
      obtain ⟨k0, k1'⟩ := k2 k hk
      obtain ⟨b, rfl⟩ := Int.eq_ofNat_of_zero_le k0
      have hb : b ≤ last := by omega
      refine ⟨_, rfl, _, rfl, d, _, rfl, DGet.k (k := Sum.inl (b : Int)) (s3 _ _ (s2 _ _ e1)), _, rfl, ?_⟩
      cases hh : (valV kvs (Sum.inl (b : Int) : Key)).isSome with
      | false => exact iteT (q _ (s1.trans (s2.trans s3)))
      | true =>
        refine iteF ?_
        refine ⟨_, rfl, _, rfl, f, fr, last, b, (fun _ => True), rfl, (fa.same s1).same (s2.trans s3), fm, hb, (fun _ _ _ => trivial), (fun _ _ _ => trivial), fun H5 d5 kvs5 s5 n5 e5 _ _ => ?_⟩
        refine ⟨d5, _, rfl, DGet.k (k := Sum.inl (0 : Int)) e5, _, rfl, ?_⟩
        cases h5 : (valV kvs5 (Sum.inl (0 : Int) : Key)).isSome with
        | false => exact iteT (q _ (s1.trans (s2.trans (s3.trans s5))))
        | true =>
          refine iteF ⟨_, rfl, s3.trans s5, fun g hg => ?_⟩
          rw [List.take_succ, hki] at hg
          rcases List.mem_append.mp hg with hg | hg
          · exact al g hg
          · have e9 : g = (b : Int) := by simpa using hg
            rw [e9]
            exact fun z => nk (z ▸ k1 _ hh)
    · rintro σ H3 ⟨v2, rfl, s3, al⟩
      have e9 : ns.take (ns.map V.int).length = ns := by rw [List.length_map, List.take_length]
      rw [e9] at al
      obtain ⟨x, hx, e⟩ := hk
      obtain ⟨y1, y2⟩ := a2 x hx
      rcases e with e | e
      · exact absurd e (al _ y1)
      · exact absurd e (al _ y2)
end
end K45

set_option Elab.async false
set_option linter.all false
set_option maxRecDepth 100000
set_option maxHeartbeats 4000000
/-! is_joined, need_framing. -/
namespace K45
open PySem L2 L2.EV
def spJoined : Sp := fun vs H Q _ => ∃ (f : Addr) (fr : List T3) (last : Nat), vs = [.ref f] ∧ FrA H f fr ∧ Frm fr last ∧ ∀ H', Same H H' → Q (.bl true) H'
def spNeedF : Sp := fun vs H Q _ => ∃ (f : Addr) (fr : List T3) (last : Nat), vs = [.ref f] ∧ FrA H f fr ∧ Frm fr last ∧ ∀ H', Same H H' → Q (.ref f) H'
theorem Frm.fb {fr : List T3} {last : Nat} (fm : Frm fr last) : Fb fr last := ⟨fm.l1, fun x hx => by
  obtain ⟨b1, _, _, b3, _⟩ := fm.stp x hx
  obtain ⟨b5, b6⟩ := fm.lo x hx
  exact ⟨b1, b5, b3, b6⟩, fm.l5⟩
section
variable {P : Program} {w : World} {K : PySem.W.Frag} {mg : Str → Option Value} {base : Heap}
theorem ok_joined (Z : Fs K mg) : FnOk P w K mg base CX0 2 Z.fJ Z.dJ ["framing"] spJoined := by
  have GL : FnOk P w K mg base CX0 1 Z.fL Z.dL ["framing"] spListed := ok_listed Z.L Z.so
  have GW : FnOk P w K mg base CX0 1 Z.fW Z.dW ["framing", "begin"] spWays := ok_ways Z.W Z.en
  refine Z.J.ok scJoined (fun vs H Q E h => ?_) (fun cdv A outer s H vs Q E hr h => ?_)
  · obtain ⟨f, fr, last, rfl, _⟩ := h
    rfl
  · obtain ⟨f, fr, last, rfl, fa, fm, q⟩ := h
    have hu := hu_of hr
    refine ⟨_, pss_cons (ps_set (i := 1) scJoined.nd rfl (Or.inl rfl) (pe_call GW hr (by rfl) Z.mW Z.W.kp Z.bW .nil pass0 (pa_cons (pv 0) (pa_cons pe_int pa_nil))))
      (pss_cons (ps_for PassesOwn.never rfl (pi_list (pe_call GL hr (by rfl) Z.mL Z.L.kp Z.bL .nil pass0 (pa_cons (pv 0) pa_nil))) (pg_name (i := 2) scJoined.nd rfl (Or.inl rfl))
        (pss_one (ps_if (pw_or (pt_cmp (pc_dnotin hu (pv 2) (pv 1)) (by rfl)) (pw_or1 (pt_cmp (pc_dnotin hu pe_int (pe_call GW hr (by rfl) Z.mW Z.W.kp Z.bW .nil pass0 (pa_cons (pv 0) (pa_cons (pv 2) pa_nil)))) (by rfl)))).pt
          (pss_one (ps_ret pe_bl)) pss_nil)))
      (pss_one (ps_ret pe_bl))), ?_⟩
    refine ⟨_, rfl, f, fr, last, 0, (fun _ => True), rfl, fa, fm.fb, Nat.zero_le _, (fun _ _ _ => trivial), (fun _ _ _ => trivial), fun H1 d kvs s1 n1 e1 c1 _ => ?_⟩
    have h1 : ∀ k : Nat, k ≤ last → has kvs k = true := fun k hk => fm.all (S := fun g => has kvs g = true) (Nat.zero_le _) (fun x hx e => c1 x hx (.inl e)) (fun x hx e => c1 x hx (.inr e)) k hk
    refine ⟨_, rfl, f, fr, last, rfl, fa.same s1, fm.fb, fun H2 p ns s2 n2 e2 l2 k2 _ _ => ⟨p, rfl, ⟨_, SqL.of e2⟩, for_it (walk_list (xs := ns.map V.int)) (fun i σ H' => ∃ v2 : Option V, σ = [some (.ref f), some (.ref d), v2] ∧ Same H2 H')
      ⟨none, rfl, fun _ _ e => e⟩ (fun i σ H' _ ⟨_, _, z⟩ => SqL.of (z _ _ e2)) ?_ ?_⟩⟩
    · rintro i x σ H3 H4 hi ⟨v2, rfl, s3⟩ ⟨rfl, hx⟩
      obtain ⟨k, hk, rfl⟩ : ∃ k : Int, k ∈ ns ∧ x = .int k := by
        rw [List.getElem?_map] at hx
        cases e : ns[i]? with
        | none =>
          rw [e] at hx
          cases hx
        | some k =>
          rw [e] at hx
          exact ⟨k, List.mem_of_getElem? e, (Option.some.inj hx).symm⟩
      obtain ⟨k0, k1⟩ := k2 k hk
      obtain ⟨b, rfl⟩ := Int.eq_ofNat_of_zero_le k0
      have hb : b ≤ last := by omega
      have hb' : (valV kvs (Sum.inl (b : Int) : Key)).isSome = true := h1 b hb
      refine ⟨_, rfl, _, rfl, d, _, rfl, DGet.k (k := Sum.inl (b : Int)) (s3 _ _ (s2 _ _ e1)), _, rfl, iteF' (by rw [hb']; rfl) ?_⟩
      refine ⟨_, rfl, _, rfl, f, fr, last, b, (fun _ => True), rfl, (fa.same s1).same (s2.trans s3), fm.fb, hb, (fun _ _ _ => trivial), (fun _ _ _ => trivial), fun H5 d5 kvs5 s5 n5 e5 c5 _ => ?_⟩
      have h5 : ∀ k : Nat, k ≤ last → has kvs5 k = true := fun k hk => fm.all (S := fun g => has kvs5 g = true) hb (fun x hx e => c5 x hx (.inl e)) (fun x hx e => c5 x hx (.inr e)) k hk
      have h0' : (valV kvs5 (Sum.inl (0 : Int) : Key)).isSome = true := h5 0 (Nat.zero_le _)
      refine ⟨d5, _, rfl, DGet.k (k := Sum.inl (0 : Int)) e5, _, rfl, iteF' (by rw [h0']; rfl) ?_⟩
      exact ⟨_, rfl, s3.trans s5⟩
    · rintro σ H3 ⟨v2, rfl, s3⟩
      exact q H3 (s1.trans (s2.trans s3))
end
end K45

set_option Elab.async false
set_option linter.all false
set_option maxRecDepth 100000
set_option maxHeartbeats 4000000
/-! file_of, read_lines, rest_of, stands. -/
namespace L2
open PySem PySem.Spec PyProof.Rows
/-- t[lo:hi]: somewhere, all else stays -/
def rSlW (K : PySem.W.Frag) : V → Option Int → Option Int → Hp → VK → Prop := fun x lo hi H Q => ∃ a xs, x = .ref a ∧ H a = some (.tup xs) ∧ ∀ p H', Same H H' → H' p = some (.tup (cutV xs lo hi)) → Q (.ref p) H'
theorem sl_tupS {X : Cx} : SlR X (rSlW X.K) := by
  intro pins s σ H x v vl vu lo hi sl Q I rx hs pl pu h
  obtain ⟨a, xs, rfl, ha, q⟩ := h
  refine sl_tupA pins s σ H _ v vl vu lo hi sl Q I rx hs pl pu ⟨a, xs, rfl, SqT.of ha, fun z => ?_, fun _ p hp => q p _ (K45.same_upd hp) upd_same⟩
  refine q a H (fun _ _ e => e) ?_
  rw [ha]
  unfold cutV
  rw [z.1, z.2]
  simp
end L2

set_option Elab.async false
set_option linter.all false
set_option maxRecDepth 100000
set_option maxHeartbeats 4000000
/-! Drawn pieces. -/
namespace K45
open PySem L2 L2.EV
abbrev sPiece : Stmt := top 31
/-- the draws have gone on from H0, where they were at k0 with the list l0: all other things are as they were -/
structure Dr (H0 H : Hp) (m c l0 l : Addr) (k : Int) : Prop where
  at_ : MAt H m c l k
  hl : l = l0 ∨ H0 l = none
  kp : ∀ b o, H0 b = some o → b ≠ m → b ≠ l0 → H b = some o
theorem Dr.refl {H : Hp} {m c l : Addr} {k : Int} (M : MAt H m c l k) : Dr H H m c l l k := ⟨M, .inl rfl, fun b o e _ _ => e⟩
theorem Dr.same {H0 H H' : Hp} {m c l0 l : Addr} {k : Int} (d : Dr H0 H m c l0 l k) (s : Same H H') : Dr H0 H' m c l0 l k :=
  ⟨d.at_.same s, d.hl, fun b o e h1 h2 => s _ _ (d.kp b o e h1 h2)⟩
/-- one part behind another -/
theorem Dr.trans {H0 H H' : Hp} {m c l0 l l' : Addr} {k k' : Int} (d : Dr H0 H m c l0 l k) (e : Dr H H' m c l l' k') : Dr H0 H' m c l0 l' k' := by
  refine ⟨e.at_, ?_, fun b o e1 h1 h2 => e.kp b o (d.kp b o e1 h1 h2) h1 ?_⟩
  · rcases e.hl with h | h
    · rw [h]
      exact d.hl
    · by_cases z : l' = l0
      · exact .inl z
      · refine .inr ?_
        cases q : H0 l' with
        | none => rfl
        | some o =>
          have ne : l' ≠ m := (ne_of_none d.at_.hm h).symm
          rw [d.kp l' o q ne z] at h
          cases h
  · rcases d.hl with hl | hl
    · rw [hl]
      exact h2
    · exact ne_of_none e1 hl
/-- a thing of another kind than the draws' own stays -/
theorem Dr.tup {H0 H : Hp} {m c l0 l : Addr} {k k0 : Int} {a : Addr} {xs : List V} (d : Dr H0 H m c l0 l k) (M : MAt H0 m c l0 k0) (e : H0 a = some (.tup xs)) : H a = some (.tup xs) := by
  obtain ⟨ls, hl, _⟩ := M.hl
  exact d.kp a _ e (ne_of e M.hm (fun z => by cases z)) (ne_of e hl (fun z => by cases z))
theorem Dr.fr {H0 H : Hp} {m c l0 l : Addr} {k k0 : Int} {f : Addr} {fr : List T3} (d : Dr H0 H m c l0 l k) (M : MAt H0 m c l0 k0) (h : FrA H0 f fr) : FrA H f fr := by
  obtain ⟨ts, e, l, cc⟩ := h
  exact ⟨ts, d.tup M e, l, fun i t x h1 h2 => d.tup M (cc i t x h1 h2)⟩
/-- another list stays, and is none of the draws' own -/
theorem Dr.lst {H H' : Hp} {m c l l' : Addr} {k k0 : Int} {a : Addr} {xs : List V} (d : Dr H H' m c l l' k) (M : MAt H m c l k0) (e : H a = some (.lst xs)) (ne : a ≠ l) : H' a = some (.lst xs) ∧ a ≠ l' := by
  refine ⟨d.kp a _ e (ne_of e M.hm (fun z => by cases z)) ne, ?_⟩
  rcases d.hl with z | z
  · rw [z]
    exact ne
  · exact ne_of_none e z
/-- a draw, as spNext wants it -/
theorem dr_next {H : Hp} {m c l : Addr} {k n : Int} {Q : VK} {E : XK} (M : MAt H m c l k) (hn : 0 < n) (hn1 : n < 1000000) (hk : k < 900000)
    (q : ∀ (r : Int) (H' : Hp) (l' : Addr) (k' : Int), 0 ≤ r → r < n → k' ≤ k + 1 → Dr H H' m c l l' k' → Q (.int r) H') : spNext [.ref m, .int n] H Q E :=
  ⟨m, c, l, k, n, rfl, M, hn, hn1, by omega, fun r H' l' k' r0 r1 kk M' fl kp => q r H' l' k' r0 r1 kk ⟨M', fl, kp⟩⟩
theorem MAt.l_some {H : Hp} {m c l : Addr} {k : Int} (M : MAt H m c l k) {a : Addr} (h : H a = none) : a ≠ l := by
  obtain ⟨ls, hl, _⟩ := M.hl
  exact (ne_of_none hl h).symm
theorem sl_app (a b : Str) : sl (a ++ b) = sl a ++ sl b := by
  show (Str.append a b).cps.toList = _
  simp [Str.append]
theorem sl_empty : sl ("" : Str) = [] := by decide +kernel
theorem sl_join : ∀ ys : List Str, sl (Str.join "" ys) = (ys.map sl).flatten
  | [] => rfl
  | [x] => by
    show sl x = _
    simp
  | x :: y :: r => by
    show sl (x ++ "" ++ Str.join "" (y :: r)) = _
    rw [sl_app, sl_app, sl_empty, sl_join (y :: r)]
    simp
theorem txt_join (ys : List Str) : sl (Txt.join "" ys) = (ys.map sl).flatten := by
  have z := PyProof.Rows.join_plain_closes "" ys
  rw [eq_of_beq z, sl_join]
theorem flat_one {ys : List Str} (h : ∀ y ∈ ys, ∃ c, y = ⟨#[c]⟩ ∧ c ∈ sgs) : (∀ c, c ∈ (ys.map sl).flatten → c ∈ sgs) ∧ ((ys.map sl).flatten).length = ys.length := by
  induction ys with
  | nil => exact ⟨fun c h => (by cases h), rfl⟩
  | cons y ys ih =>
    obtain ⟨c, e, hc⟩ := h y (List.mem_cons_self ..)
    have e2 : sl y = [c] := by rw [e]
    obtain ⟨h1, h2⟩ := ih fun y hy => h y (List.mem_cons_of_mem _ hy)
    rw [List.map_cons, List.flatten_cons, e2]
    refine ⟨fun d hd => ?_, ?_⟩
    · rcases List.mem_append.mp hd with hd | hd
      · have e : d = c := by simpa using hd
        rw [e]
        exact hc
      · exact h1 d hd
    · rw [List.length_append, h2, List.length_cons, List.length_cons, List.length_nil]
      omega
/-- the five lists of signs -/
def fives : List Str := ["ab", "ab", "abc@", "@", "xyz019@"]
theorem five_ok : ∀ x ∈ fives, 1 ≤ x.length ∧ x.length ≤ 7 ∧ ∀ c ∈ sl x, c ∈ sgs := by decide +kernel
theorem MAt.upd {H : Hp} {m c l D : Addr} {k : Int} {o : HO} (M : MAt H m c l k) (hm : D ≠ m) (hc : D ≠ c) (hl : D ≠ l) : MAt (L2.upd H D o) m c l k := by
  obtain ⟨h1, ⟨cs, h2, h3⟩, ⟨ls0, h4, h5⟩, h6, h7, h8⟩ := M
  exact ⟨by rw [upd_ne hm.symm]; exact h1, ⟨cs, by rw [upd_ne hc.symm]; exact h2, h3⟩, ⟨ls0, by rw [upd_ne hl.symm]; exact h4, h5⟩, h6, h7, h8⟩
theorem MAt.c_some {H : Hp} {m c l : Addr} {k : Int} (M : MAt H m c l k) {a : Addr} (h : H a = none) : a ≠ c := by
  obtain ⟨ls, hl, _⟩ := M.hc
  exact (ne_of_none hl h).symm
def spPiece : Sp := fun vs H Q _ => ∃ (m c l : Addr) (k : Int) (last : Bool), vs = [.ref m, .bl last] ∧ MAt H m c l k ∧ k < 800000 ∧
  ∀ (p : Str) (H' : Hp) (l' : Addr) (k' : Int), Pc p last → k' ≤ k + 20 → Dr H H' m c l l' k' → Q (.str p) H'
section
variable {P : Program} {w : World} {K : PySem.W.Frag} {mg : Str → Option Value} {base : Heap}
structure Ls (K : PySem.W.Frag) (mg : Str → Option Value) where
  f1 : Addr
  d1 : FuncData
  N : Fun K "_law_next" "_law_next" sNext f1 d1
  bN : Binds K d1 ["m", "total"] []
  mN : mg "_law_next" = some (.ref f1)
  T : TxtD mg
  ra : mg "range" = none
  f2 : Addr
  d2 : FuncData
  P : Fun K "_law_piece" "_law_piece" sPiece f2 d2
  bP : Binds K d2 ["m", "last"] []
  mP : mg "_law_piece" = some (.ref f2)
theorem scPiece : FnScope ["m", "last", "total", "signs", "k", "body"] ["m", "last"] (defScope sPiece) := ⟨rfl, rfl, rfl, by decide +kernel, rfl, by decide +kernel, by decide +kernel⟩
theorem ok_piece (L : Ls K mg) : FnOk P w K mg base CX0 2 L.f2 L.d2 ["m", "last"] spPiece := by
  have GX : FnOk P w K mg base CX0 1 L.f1 L.d1 ["m", "total"] spNext := ok_next L.N L.T
  refine L.P.ok scPiece (fun vs H Q E h => ?_) (fun cdv A outer s H vs Q E hr h => ?_)
  · obtain ⟨m, c, l, k, last, rfl, _⟩ := h
    rfl
  · obtain ⟨m, c, l, k, last, rfl, M, hk, q⟩ := h
    refine ⟨_, pss_cons (ps_set (i := 2) scPiece.nd rfl (Or.inl rfl) (pe_ix ix_list (pe_lst (pa_cons pe_int (pa_cons pe_int (pa_cons pe_int (pa_cons pe_int (pa_cons pe_int (pa_cons (pe_op op_add pe_int (pe_call GX hr (by rfl) L.mN L.N.kp L.bN .nil pass0 (pa_cons (pv 0) (pa_cons pe_int pa_nil)))) pa_nil)))))))
        (pe_call GX hr (by rfl) L.mN L.N.kp L.bN .nil pass0 (pa_cons (pv 0) (pa_cons pe_int pa_nil))) (fun _ _ => rfl)))
      (pss_cons (ps_set (i := 3) scPiece.nd rfl (Or.inr rfl) (pe_ix ix_list (pe_lst (pa_cons pe_str (pa_cons pe_str (pa_cons pe_str (pa_cons pe_str (pa_cons pe_str pa_nil)))))) (pe_call GX hr (by rfl) L.mN L.N.kp L.bN .nil pass0 (pa_cons (pv 0) (pa_cons pe_int pa_nil))) (fun _ _ => rfl)))
      (pss_cons (ps_set (i := 5) scPiece.nd rfl (Or.inl rfl) (pe_m1 PySem.F.slot_str_join PySem.F.type_str_join mt_join pe_str (pe_lc (own := [("k", 4)]) (g := gName 4) rfl scPiece.nd (pi_range1 (by rfl) L.ra (pa_cons (pv 2) pa_nil))
        (blkOk_by (N := ["m", "last", "total", "signs", "k", "body"]) (sc := defScope sPiece) (by decide +kernel))
        (fun _ _ _ _ _ => pg_name (i := 4) scPiece.nd rfl (Or.inl rfl)) (fun _ _ _ _ _ => pts_nil)
        (fun _ _ _ _ _ => pe_ix ix_str (pv 3) (pe_call GX hr (by rfl) L.mN L.N.kp L.bN .nil pass0 (pa_cons (pv 0) (pa_cons (pe_callB call_len_str (by rfl) L.T.len PySem.boot_len (pa_cons (pv 3) pa_nil)) pa_nil))) (fun _ _ => rfl)))))
      (pss_cons (ps_if (pt_val (pv 1)) (pss_one (ps_ret (pe_op op_add_str (pe_ix ix_list (pe_lst (pa_cons (pv 5) (pa_cons (pv 5) (pa_cons pe_str pa_nil)))) (pe_call GX hr (by rfl) L.mN L.N.kp L.bN .nil pass0 (pa_cons (pv 0) (pa_cons pe_int pa_nil))) (fun _ _ => rfl)) pe_str))) pss_nil)
      (pss_one (ps_ret (pv 5)))))), ?_⟩
    refine ⟨_, rfl, m, c, l, k, 7, rfl, M, by decide, by decide, by omega, fun r1 H1 l1 k1 a1 b1 g1 N1 f1 q1 => ?_⟩
    have d1 : Dr H H1 m c l l1 k1 := ⟨N1, f1, q1⟩
    refine ⟨1, r1, rfl, rfl, (by show 6 ≤ sizeLine; decide), fun p1 hp1 => ?_⟩
    have M1 := d1.at_.same (same_upd (o := HO.lst [V.int 1, V.int 1, V.int 1, V.int 2, V.int 2, V.int (1 + r1)]) hp1)
    have D1 := d1.same (same_upd (o := HO.lst [V.int 1, V.int 1, V.int 1, V.int 2, V.int 2, V.int (1 + r1)]) hp1)
    refine ⟨_, rfl, m, c, l1, k1, 6, rfl, M1, by decide, by decide, by omega, fun r2 H2 l2 k2 a2 b2 g2 N2 f2 q2 => ?_⟩
    have d2 : Dr _ H2 m c l1 l2 k2 := ⟨N2, f2, q2⟩
    obtain ⟨e2, _⟩ := d2.lst M1 upd_same (d1.at_.l_some hp1)
    have D2 := D1.trans d2
    obtain ⟨T, hT, t1, t7⟩ : ∃ T : Int, atI [V.int 1, V.int 1, V.int 1, V.int 2, V.int 2, V.int (1 + r1)] r2 = some (.int T) ∧ 1 ≤ T ∧ T ≤ 7 := by
      obtain ⟨j, rfl⟩ := Int.eq_ofNat_of_zero_le a2
      have hj : j < 6 := by omega
      match j, hj with
      | 0, _ => exact ⟨1, atI_nat (j := 0) rfl, by decide, by decide⟩
      | 1, _ => exact ⟨1, atI_nat (j := 1) rfl, by decide, by decide⟩
      | 2, _ => exact ⟨1, atI_nat (j := 2) rfl, by decide, by decide⟩
      | 3, _ => exact ⟨2, atI_nat (j := 3) rfl, by decide, by decide⟩
      | 4, _ => exact ⟨2, atI_nat (j := 4) rfl, by decide, by decide⟩
      | 5, _ => exact ⟨1 + r1, atI_nat (j := 5) rfl, by omega, by omega⟩
    refine ⟨p1, _, r2, .int T, rfl, rfl, SqL.of e2, hT, ?_⟩
    refine ⟨(by show 5 ≤ sizeLine; decide), fun p3 hp3 => ?_⟩
    have u3 := same_upd (o := HO.lst (fives.map V.str)) hp3
    have M3 := d2.at_.same u3
    refine ⟨_, rfl, m, c, l2, k2, 5, rfl, M3, by decide, by decide, by omega, fun r3 H3 l3 k3 a3 b3 g3 N3 f3 q3 => ?_⟩
    have d3 : Dr _ H3 m c l2 l3 k3 := ⟨N3, f3, q3⟩
    obtain ⟨e3, _⟩ := d3.lst M3 upd_same (d2.at_.l_some hp3)
    have D3 := (D2.same u3).trans d3
    obtain ⟨sg, hsg, hm⟩ : ∃ sg : Str, atI (fives.map V.str) r3 = some (.str sg) ∧ sg ∈ fives := by
      obtain ⟨j, rfl⟩ := Int.eq_ofNat_of_zero_le a3
      have hj : j < fives.length := by show j < 5; omega
      refine ⟨fives[j], atI_nat ?_, List.getElem_mem hj⟩
      rw [List.getElem?_map, List.getElem?_eq_getElem hj]
      rfl
    obtain ⟨z1, z7, zs⟩ := five_ok sg hm
    refine ⟨p3, _, r3, .str sg, rfl, rfl, SqL.of e3, hsg, ?_⟩
    refine ⟨⟨_, rfl⟩, _, rfl, T, rfl, by omega, by omega, fun D hD => ?_⟩
    have D4 := D3.same (same_upd (o := HO.lst []) hD)
    have nD := D3.at_.l_some hD
    have hD0 : H D = none ∨ True := .inr trivial
    refine lc_it walk_range (fun i H' => ∃ (ys : List Str) (l' : Addr) (k' : Int), H' D = some (.lst (ys.map V.str)) ∧ D ≠ l' ∧ ys.length = i ∧ (∀ y ∈ ys, ∃ c, y = ⟨#[c]⟩ ∧ c ∈ sgs) ∧ k' ≤ k3 + i ∧ MAt H' m c l' k' ∧ (l' = l ∨ H l' = none) ∧ ∀ b o, H b = some o → b ≠ m → b ≠ l → H' b = some o)
      ⟨[], l3, k3, upd_same, nD, rfl, (fun y h => by cases h), by omega, D4.at_, D4.hl, D4.kp⟩ (fun _ _ _ _ => trivial) ?_ ?_
    · rintro i x H4 H5 hi ⟨ys, l4, k4, hl, nl, ly, hy, kk, M4, f4, q4⟩ ⟨rfl, rfl⟩
      have d0 : Dr H H5 m c l l4 k4 := ⟨M4, f4, q4⟩
      have hi7 : i < 7 := by omega
      refine ⟨rfl, _, rfl, _, rfl, _, rfl, sg, rfl, by rw [sizeLine_eq]; omega, m, c, l4, k4, _, rfl, M4, by omega, by omega, by omega, fun r5 H6 l6 k6 a6 b6 g6 N6 f6 q6 => ?_⟩
      have d6 : Dr H5 H6 m c l4 l6 k6 := ⟨N6, f6, q6⟩
      obtain ⟨e6, n6⟩ := d6.lst M4 hl nl
      obtain ⟨j, rfl⟩ := Int.eq_ofNat_of_zero_le a6
      have js : j < (sl sg).length := by rw [← len_sl]; omega
      refine ⟨sg, (j : Int), (sl sg)[j], rfl, rfl, by rw [sizeLine_eq]; omega, atI_nat (List.getElem?_eq_getElem js), _, e6, ?_, ?_⟩
      · rw [List.length_map, ly, sizeLine_eq]
        omega
      · have dk := d0.trans d6
        have hDm : D ≠ m := ne_of e6 N6.hm (fun z => by cases z)
        refine ⟨ys ++ [⟨#[(sl sg)[j]]⟩], l6, k6, ?_, n6, by rw [List.length_append, ly]; rfl, fun y h => ?_, by omega, ?_, dk.hl, fun b o z h1 h2 => ?_⟩
        · rw [List.map_append]
          exact upd_same
        · rcases List.mem_append.mp h with h | h
          · exact hy y h
          · exact ⟨_, by simpa using h, zs _ (List.getElem_mem js)⟩
        · exact N6.upd hDm (D3.at_.c_some hD) n6
        · rw [upd_ne (ne_of_none (D3.kp b o z h1 h2) hD)]
          exact dk.kp b o z h1 h2
    · rintro H4 ⟨ys, l4, k4, hl, nl, ly, hy, kk, M4, f4, q4⟩
      have d4 : Dr H H4 m c l l4 k4 := ⟨M4, f4, q4⟩
      obtain ⟨w1, w2⟩ := flat_one hy
      rw [← txt_join] at w1 w2
      have le : ∀ zs : List Str, (∀ y ∈ zs, ∃ c, y = ⟨#[c]⟩ ∧ c ∈ sgs) → (zs.map (·.length)).sum = zs.length := by
        intro zs
        induction zs with
        | nil => exact fun _ => rfl
        | cons y zs ih =>
          intro h
          obtain ⟨c, e, _⟩ := h y (List.mem_cons_self ..)
          have e2 : y.length = 1 := by rw [e]; rfl
          rw [List.map_cons, List.sum_cons, e2, ih fun y hy => h y (List.mem_cons_of_mem _ hy), List.length_cons]
          omega
      have z0 : ("" : Str).length = 0 := by decide +kernel
      refine ⟨"", D, ys, rfl, rfl, .inl (SqL.of hl), by rw [le ys hy, z0]; omega, ?_⟩
      generalize hbd : Txt.join "" ys = body at w1 w2 ⊢
      have pc0 : Pc body false := ⟨sl body, by rw [if_neg (by simp), List.append_nil], by rw [w2, if_neg (by simp)]; omega, w1, fun _ e => by rw [e] at w2; simp at w2; omega⟩
      have pc1 : ∀ b2 : Str, (b2 = body ∨ b2 = "") → Pc (b2 ++ ";") true := fun b2 h => by
        refine ⟨sl b2, by rw [sl_app, semi, if_pos rfl], ?_, ?_, fun e => by cases e⟩
        · rcases h with h | h
          · rw [h, w2, if_pos rfl]
            omega
          · rw [h, sl_empty, if_pos rfl]
            decide
        · rcases h with h | h
          · rw [h]
            exact w1
          · rw [h, sl_empty]
            exact fun c h => by cases h
      refine ⟨_, rfl, _, rfl, ?_⟩
      cases last with
      | false =>
        refine iteF ⟨_, rfl, ?_⟩
        exact q body H4 l4 k4 pc0 (by omega) d4
      | true =>
        refine iteT ?_
        refine ⟨_, rfl, _, rfl, (by show 3 ≤ sizeLine; decide), fun p5 hp5 => ?_⟩
        have u5 := same_upd (o := HO.lst [V.str body, V.str body, V.str ""]) hp5
        have M5 := M4.same u5
        refine ⟨_, rfl, m, c, l4, k4, 3, rfl, M5, by decide, by decide, by omega, fun r7 H7 l7 k7 a7 b7 g7 N7 f7 q7 => ?_⟩
        have d7 : Dr _ H7 m c l4 l7 k7 := ⟨N7, f7, q7⟩
        obtain ⟨e7, _⟩ := d7.lst M5 upd_same (M4.l_some hp5)
        obtain ⟨b2, hb2, hor⟩ : ∃ b2 : Str, atI [V.str body, V.str body, V.str ""] r7 = some (.str b2) ∧ (b2 = body ∨ b2 = "") := by
          obtain ⟨j, rfl⟩ := Int.eq_ofNat_of_zero_le a7
          have hj : j < 3 := by omega
          match j, hj with
          | 0, _ => exact ⟨body, atI_nat (j := 0) rfl, .inl rfl⟩
          | 1, _ => exact ⟨body, atI_nat (j := 1) rfl, .inl rfl⟩
          | 2, _ => exact ⟨"", atI_nat (j := 2) rfl, .inr rfl⟩
        have pcz := pc1 b2 hor
        have lz := (pc_len pcz).2
        refine ⟨p5, _, r7, .str b2, rfl, rfl, SqL.of e7, hb2, b2, ";", rfl, rfl, ?_, ?_⟩
        · rw [semi1, sizeLine_eq, len_sl]
          rw [len_sl, sl_app, List.length_append] at lz
          omega
        · exact q (b2 ++ ";") H7 l7 k7 pcz (by omega) ((d4.same u5).trans d7)
end
end K45

set_option Elab.async false
set_option linter.all false
set_option maxRecDepth 100000
set_option maxHeartbeats 4000000
/-! Drawn framings. -/
namespace K45
open PySem L2 L2.EV
abbrev sFraming : Stmt := top 32
def d3 (x : T3) : PyData := .tuple [.int x.1, .str x.2.1, .int x.2.2]
theorem d3_eq (x y : T3) : PyData.eqv (d3 x) (d3 y) = decide (x = y) := by
  unfold d3
  simp only [PyData.eqv, PyData.eqvAll, Bool.and_true]
  by_cases e : x = y
  · subst e
    simp
  · rw [decide_eq_false e]
    cases h1 : (x.1 == y.1) with
    | false => rfl
    | true =>
      cases h2 : (x.2.1 == y.2.1) with
      | false => rfl
      | true =>
        cases h3 : (x.2.2 == y.2.2) with
        | false => rfl
        | true => exact absurd (Prod.ext (eq_of_beq h1) (Prod.ext (eq_of_beq h2) (eq_of_beq h3))) e
theorem sgs_low : ∀ c ∈ sgs, c < 0x110000 := by decide +kernel
theorem pc_ok {p : Str} {l : Bool} (h : Pc p l) : PyData.strOk p = true := by
  obtain ⟨b, e, _, hb, _⟩ := h
  unfold PyData.strOk
  rw [← Array.all_toList, show p.cps.toList = sl p from rfl, e, List.all_eq_true]
  intro c hc
  refine decide_eq_true ?_
  rcases List.mem_append.mp hc with hc | hc
  · exact sgs_low c (hb c hc)
  · cases l with
    | false => cases hc
    | true =>
      have z : c = 59 := by simpa using hc
      omega
theorem d3_lay {x : T3} (h : PyData.strOk x.2.1 = true) : PyData.canLay0 (d3 x) = true := by
  unfold d3
  simp only [PyData.canLay0, PyData.canLayAll0, Bool.and_true, Bool.and_self, h]
theorem d3_depth (x : T3) : (d3 x).depth ≤ 1 := by
  unfold d3
  simp only [PyData.depth, PyData.depthAll]
  omega
theorem d3_shaped {x : T3} (h : PyData.strOk x.2.1 = true) : SeqAt.shaped (d3 x) = true := by
  show (PyData.canLay0 (d3 x) && decide (PyData.depth (d3 x) ≤ 64)) = true
  rw [d3_lay h, decide_eq_true (Nat.le_trans (d3_depth x) (by decide))]
  rfl
theorem d3s_lay : ∀ xs : List T3, (∀ x ∈ xs, PyData.strOk x.2.1 = true) → PyData.canLayAll0 (xs.map d3) = true
  | [], _ => by simp [PyData.canLayAll0]
  | x :: xs, h => by
    rw [List.map_cons]
    simp only [PyData.canLayAll0, d3_lay (h x (List.mem_cons_self ..)), d3s_lay xs (fun y hy => h y (List.mem_cons_of_mem _ hy)), Bool.and_self]
theorem d3s_depth : ∀ xs : List T3, PyData.depthAll (xs.map d3) ≤ 1
  | [] => by simp [PyData.depthAll]
  | x :: xs => by
    rw [List.map_cons]
    simp only [PyData.depthAll]
    have h1 := d3_depth x
    have h2 := d3s_depth xs
    omega
theorem d3s_shaped {xs : List T3} (hx : ∀ x ∈ xs, PyData.strOk x.2.1 = true) : SeqAt.shaped (.list (xs.map d3)) = true := by
  show (PyData.canLay0 (.list (xs.map d3)) && decide (PyData.depth (.list (xs.map d3)) ≤ 64)) = true
  have h := d3s_depth xs
  have h1 : PyData.canLay0 (.list (xs.map d3)) = true := by simp only [PyData.canLay0]; exact d3s_lay xs hx
  have h2 : PyData.depth (.list (xs.map d3)) ≤ 64 := by simp only [PyData.depth]; omega
  rw [h1, decide_eq_true h2]
  rfl
/-- steps at ts -/
def At3 (H : Hp) (ts : List Addr) (xs : List T3) : Prop := ts.length = xs.length ∧ ∀ (i : Nat) t x, ts[i]? = some t → xs[i]? = some x → S3 H t x
theorem dp3 {K : PySem.W.Frag} {H : Hp} {t : Addr} {x : T3} (h : S3 H t x) : Dp K H (.ref t) (d3 x) := .tup (SqT.of h) (.cons (.int _) (.cons (.str _) (.cons (.int _) .nil)))
theorem dp3s {K : PySem.W.Frag} {H : Hp} : ∀ {ts : List Addr} {xs : List T3}, At3 H ts xs → DpAll K H (ts.map V.ref) (xs.map d3)
  | [], [], _ => .nil
  | [], _ :: _, h => by cases h.1
  | _ :: _, [], h => by cases h.1
  | t :: ts, x :: xs, h => .cons (dp3 (h.2 0 t x rfl rfl)) (dp3s ⟨by have := h.1; simpa using this, fun i t x h1 h2 => h.2 (i + 1) t x (by simpa using h1) (by simpa using h2)⟩)
theorem At3.same {H H' : Hp} {ts : List Addr} {xs : List T3} (h : At3 H ts xs) (s : KeepT H H') : At3 H' ts xs := ⟨h.1, fun i t x h1 h2 => s _ _ (h.2 i t x h1 h2)⟩
theorem At3.snoc {H : Hp} {ts : List Addr} {xs : List T3} {t : Addr} {x : T3} (h : At3 H ts xs) (hx : S3 H t x) : At3 H (ts ++ [t]) (xs ++ [x]) := by
  refine ⟨by rw [List.length_append, List.length_append, h.1]; rfl, fun i u y h1 h2 => ?_⟩
  by_cases e : i < ts.length
  · rw [List.getElem?_append_left e] at h1
    rw [List.getElem?_append_left (by rw [← h.1]; exact e)] at h2
    exact h.2 i u y h1 h2
  · have i1 := (List.getElem?_eq_some_iff.mp h1).1
    rw [List.length_append] at i1
    have e2 : i = ts.length := by simp only [List.length_cons, List.length_nil] at i1; omega
    subst e2
    rw [List.getElem?_append_right (Nat.le_refl _), Nat.sub_self] at h1
    rw [h.1, List.getElem?_append_right (Nat.le_refl _), Nat.sub_self] at h2
    have e3 : t = u := Option.some.inj h1
    have e4 : x = y := Option.some.inj h2
    rw [← e3, ← e4]
    exact hx
theorem At3.take {H : Hp} {ts : List Addr} {xs : List T3} (h : At3 H ts xs) (n : Nat) : At3 H (ts.take n) (xs.take n) := by
  refine ⟨by rw [List.length_take, List.length_take, h.1], fun i t x h1 h2 => ?_⟩
  rw [List.getElem?_take] at h1 h2
  by_cases e : i < n
  · rw [if_pos e] at h1 h2
    exact h.2 i t x h1 h2
  · rw [if_neg e] at h1
    cases h1
theorem lt3_tri {x y : T3} (h1 : lt3 x y = false) (h2 : lt3 y x = false) : x = y := by
  have a := lt3_no.mp h1
  have b := lt3_no.mp h2
  have e1 : x.1 = y.1 := by
    have a1 : ¬ x.1 < y.1 := fun q => a (.inl q)
    have b1 : ¬ y.1 < x.1 := fun q => b (.inl q)
    omega
  have a2 : ¬ sl x.2.1 < sl y.2.1 := fun q => a (.inr ⟨e1, .inl q⟩)
  have b2 : ¬ sl y.2.1 < sl x.2.1 := fun q => b (.inr ⟨e1.symm, .inl q⟩)
  have e2 : x.2.1 = y.2.1 := sl_inj (List.le_antisymm (List.not_lt.mp b2) (List.not_lt.mp a2))
  have a3 : ¬ x.2.2 < y.2.2 := fun q => a (.inr ⟨e1, .inr ⟨e2, q⟩⟩)
  have b3 : ¬ y.2.2 < x.2.2 := fun q => b (.inr ⟨e1.symm, .inr ⟨e2.symm, q⟩⟩)
  exact Prod.ext e1 (Prod.ext e2 (by omega))
def spFraming : Sp := fun vs H Q _ => ∃ (m c l : Addr) (k : Int), vs = [.ref m, .int 5] ∧ MAt H m c l k ∧ k < 700000 ∧
  ∀ (f : Addr) (fr : List T3) (last : Nat) (H' : Hp) (l' : Addr) (k' : Int), FrA H' f fr → Frm fr last → fr.length ≤ 12 → k' ≤ k + 400 → Dr H H' m c l l' k' → Q (.ref f) H'
/-- the found steps at F -/
structure FS (H H' : Hp) (m c l F : Addr) (kb : Int) (last : Nat) (xs : List T3) : Prop where
  ex : ∃ (ts : List Addr) (l' : Addr) (k' : Int), H' F = some (.lst (ts.map V.ref)) ∧ At3 H' ts xs ∧ F ≠ l' ∧ F ≠ m ∧ F ≠ c ∧ k' ≤ kb ∧ Dr H H' m c l l' k'
  ok : ∀ x ∈ xs, Stp x ∧ x.1 ≤ last ∧ x.2.2 ≤ last
  hF : ∀ b o, H b = some o → b ≠ m → b ≠ l → b ≠ F
theorem bl_eq (t : Int) : decide (V.int t = V.int 0) = decide (t = 0) := by
  rw [dec_int]
  by_cases z : t = 0
  · rw [z]
    rfl
  · rw [decide_eq_false z]
    exact beq_eq_false_iff_ne.mpr z
theorem Dr.keepT {H0 H : Hp} {m c l0 l : Addr} {k k0 : Int} (d : Dr H0 H m c l0 l k) (M : MAt H0 m c l0 k0) : KeepT H0 H := fun a xs e => d.tup M e
/-- one step more -/
theorem FS.push {H H1 H2 H3 : Hp} {m c l F l1 l2 t : Addr} {k1 k2 kb : Int} {last : Nat} {xs : List T3} {ts : List Addr} {x : T3} (hF : H1 F = some (.lst (ts.map V.ref))) (ha : At3 H1 ts xs) (n1 : F ≠ l1) (n2 : F ≠ m) (n3 : F ≠ c) (d1 : Dr H H1 m c l l1 k1)
    (d2 : Dr H1 H2 m c l1 l2 k2) (ht : H2 t = none) (e3 : H3 = upd (upd H2 t (.tup [.int x.1, .str x.2.1, .int x.2.2])) F (.lst (ts.map V.ref ++ [.ref t]))) (hk : k2 ≤ kb)
    (ok : ∀ y ∈ xs, Stp y ∧ y.1 ≤ last ∧ y.2.2 ≤ last) (okx : Stp x ∧ x.1 ≤ last ∧ x.2.2 ≤ last) (hF0 : ∀ b o, H b = some o → b ≠ m → b ≠ l → b ≠ F) : FS H H3 m c l F kb last (xs ++ [x]) := by
  obtain ⟨hF2, n4⟩ := d2.lst d1.at_ hF n1
  have u := same_upd (o := HO.tup [.int x.1, .str x.2.1, .int x.2.2]) ht
  have hF2' := u _ _ hF2
  have kt := keepT_upd (o := .lst (ts.map V.ref ++ [.ref t])) hF2' (fun xs z => by cases z)
  have D2 := (d1.trans d2).same u
  subst e3
  refine ⟨⟨ts ++ [t], l2, k2, by rw [List.map_append]; exact upd_same, ?_, n4, n2, n3, hk, ⟨D2.at_.upd n2 n3 n4, D2.hl, fun b o z h1 h2 => ?_⟩⟩, fun y hy => ?_, hF0⟩
  · refine At3.snoc (ha.same ?_) (kt _ _ upd_same)
    exact ((d2.keepT d1.at_).trans (Same.keepT u)).trans kt
  · rw [upd_ne (hF0 b o z h1 h2)]
    exact D2.kp b o z h1 h2
  · rcases List.mem_append.mp hy with h | h
    · exact ok y h
    · have e : y = x := by simpa using h
      rw [e]
      exact okx
def dd (xs : List T3) : List T3 := xs.foldl (fun acc x => if x ∈ acc then acc else acc ++ [x]) []
theorem dd_snoc (xs : List T3) (x : T3) : dd (xs ++ [x]) = if x ∈ dd xs then dd xs else dd xs ++ [x] := by
  unfold dd
  rw [List.foldl_append]
  rfl
theorem snoc_ind {α : Type} {p : List α → Prop} (h0 : p []) (h1 : ∀ l x, p l → p (l ++ [x])) (l : List α) : p l := by
  have z : ∀ n (l : List α), l.length = n → p l := by
    intro n
    induction n with
    | zero => exact fun l h => by rw [List.length_eq_zero_iff.mp h]; exact h0
    | succ n ih =>
      intro l h
      obtain ⟨M, y, rfl⟩ := SrtO.snoc_of (l := l) (by omega)
      exact h1 M y (ih M (by rw [List.length_append] at h; simp only [List.length_cons, List.length_nil] at h; omega))
  exact z _ l rfl
theorem dd_mem (y : T3) (xs : List T3) : y ∈ dd xs ↔ y ∈ xs := by
  refine snoc_ind (p := fun xs => y ∈ dd xs ↔ y ∈ xs) Iff.rfl (fun l x ih => ?_) xs
  rw [dd_snoc]
  by_cases e : x ∈ dd l
  · rw [if_pos e, ih, List.mem_append, List.mem_singleton]
    refine ⟨.inl, fun h => h.elim id fun z => ?_⟩
    rw [z]
    rw [z] at ih
    exact ih.mp e
  · rw [if_neg e, List.mem_append, ih, List.mem_append]
theorem dd_nodup (xs : List T3) : (dd xs).Nodup := by
  refine snoc_ind (p := fun xs => (dd xs).Nodup) List.nodup_nil (fun l x ih => ?_) xs
  rw [dd_snoc]
  by_cases e : x ∈ dd l
  · rw [if_pos e]
    exact ih
  · rw [if_neg e]
    refine List.nodup_append.mpr ⟨ih, by simp, fun a ha b hb => ?_⟩
    have e2 : b = x := by simpa using hb
    rw [e2]
    exact fun z => e (z ▸ ha)
theorem dd_len (xs : List T3) : (dd xs).length ≤ xs.length := by
  refine snoc_ind (p := fun xs => (dd xs).length ≤ xs.length) (Nat.le_refl _) (fun l x ih => ?_) xs
  rw [dd_snoc, List.length_append]
  split
  · omega
  · rw [List.length_append]
    omega
/-- the step that stands at an address -/
def stepAt (H : Hp) : V → T3
  | .ref t => match H t with
    | some (.tup [.int a, .str b, .int c]) => (a, b, c)
    | _ => (0, "", 0)
  | _ => (0, "", 0)
theorem stepAt_of {H : Hp} {t : Addr} {x : T3} (h : S3 H t x) : stepAt H (.ref t) = x := by
  unfold stepAt
  dsimp only
  rw [h]
theorem map_stepAt {H : Hp} {ts : List Addr} {xs : List T3} (h : At3 H ts xs) : (ts.map V.ref).map (stepAt H) = xs := by
  refine List.ext_getElem? fun i => ?_
  rw [List.getElem?_map, List.getElem?_map]
  by_cases hi : i < ts.length
  · have hx : i < xs.length := by rw [← h.1]; exact hi
    rw [List.getElem?_eq_getElem hi, List.getElem?_eq_getElem hx]
    show some (stepAt H (.ref ts[i])) = _
    rw [stepAt_of (h.2 i _ _ (List.getElem?_eq_getElem hi) (List.getElem?_eq_getElem hx))]
  · rw [List.getElem?_eq_none (by omega), List.getElem?_eq_none (by rw [← h.1]; omega)]
    rfl
/-- sorted: a framing -/
theorem frm_of {H : Hp} {ts : List Addr} {xs ys : List T3} {vs : List V} {last : Nat} (h : At3 H ts ys) (hy : ys = dd xs) (sr : SrtO.Srtd (fun x y => lt3 (stepAt H x) (stepAt H y)) vs) (pm : vs.Perm (ts.map V.ref)) (l1 : xs.length ≤ 16) (l5 : last ≤ 5)
    (ok : ∀ x ∈ xs, Stp x ∧ x.1 ≤ last ∧ x.2.2 ≤ last) (ring : ∀ k : Nat, k ≤ last → ∃ x ∈ xs, x.1 = (k : Int) ∧ x.2.2 = (if k < last then (k : Int) + 1 else 0)) : Frm (vs.map (stepAt H)) last ∧ ∃ us : List Addr, vs = us.map V.ref ∧ At3 H us (vs.map (stepAt H)) := by
  have pm2 : (vs.map (stepAt H)).Perm ys := by
    have z := pm.map (stepAt H)
    rw [map_stepAt h] at z
    exact z
  have mem : ∀ x, x ∈ vs.map (stepAt H) ↔ x ∈ xs := fun x => by rw [pm2.mem_iff, hy, dd_mem]
  have nd : (vs.map (stepAt H)).Nodup := by
    rw [pm2.nodup_iff, hy]
    exact dd_nodup xs
  have len : (vs.map (stepAt H)).length ≤ 16 := by
    rw [pm2.length_eq, hy]
    exact Nat.le_trans (dd_len xs) l1
  refine ⟨⟨?_, len, fun x hx => (ok x ((mem x).mp hx)).1, ?_, fun k hk => ?_, fun x hx => (ok x ((mem x).mp hx)).2, l5⟩, ?_⟩
  · obtain ⟨x, hx, _⟩ := ring 0 (Nat.zero_le _)
    have := (mem x).mpr hx
    exact List.length_pos_of_mem this
  · have s2 : (vs.map (stepAt H)).Pairwise fun x y => lt3 y x = false := List.pairwise_map.mpr sr
    refine (s2.and nd).imp fun {x y} z => ?_
    cases e : lt3 x y with
    | true => rfl
    | false => exact absurd (lt3_tri e z.1) z.2
  · obtain ⟨x, hx, e⟩ := ring k hk
    exact ⟨x, (mem x).mpr hx, e⟩
  · have rf : ∀ v ∈ vs, ∃ t x, v = V.ref t ∧ S3 H t x := fun v hv => by
      obtain ⟨t, ht, rfl⟩ := List.mem_map.mp (pm.mem_iff.mp hv)
      obtain ⟨i, hi, e⟩ := List.getElem_of_mem ht
      have hx : i < ys.length := by rw [← h.1]; exact hi
      exact ⟨t, ys[i], rfl, h.2 i t _ (by rw [List.getElem?_eq_getElem hi, e]) (List.getElem?_eq_getElem hx)⟩
    have go : ∀ ws : List V, (∀ v ∈ ws, ∃ t x, v = V.ref t ∧ S3 H t x) → ∃ us : List Addr, ws = us.map V.ref ∧ At3 H us (ws.map (stepAt H)) := by
      intro ws
      induction ws with
      | nil => exact fun _ => ⟨[], rfl, rfl, fun i t x h => by cases h⟩
      | cons v ws ih =>
        intro hw
        obtain ⟨t, x, rfl, hx⟩ := hw v (List.mem_cons_self ..)
        obtain ⟨us, e1, e2⟩ := ih fun v hv => hw v (List.mem_cons_of_mem _ hv)
        refine ⟨t :: us, by rw [e1]; rfl, by rw [List.length_cons, e2.1]; rfl, fun i u y h1 h2 => ?_⟩
        cases i with
        | zero =>
          have e3 : t = u := Option.some.inj h1
          have e4 : stepAt H (.ref t) = y := Option.some.inj h2
          rw [← e3, ← e4, stepAt_of hx]
          exact hx
        | succ i => exact e2.2 i u y (by simpa using h1) (by simpa using h2)
    exact go vs rf
end K45

set_option Elab.async false
set_option linter.all false
set_option maxRecDepth 100000
set_option maxHeartbeats 4000000
/-! Drawn framings: the def. -/
namespace K45
open PySem L2 L2.EV
theorem take_one {α : Type} {es : List α} {i : Nat} {e : α} (h : es[i]? = some e) : es.take (i + 1) = es.take i ++ [e] := by
  have il := (List.getElem?_eq_some_iff.mp h).1
  rw [List.take_succ, h]
  rfl
theorem cut_to {ts : List Addr} {i : Nat} : cutV (ts.map V.ref) none (some (i : Int)) = (ts.take i).map V.ref := by
  unfold cutV
  rw [HT.sIx_nat, HT.sIx_none, List.length_map, List.drop_zero, Nat.sub_zero, ← List.map_take]
  congr 1
  by_cases h : i ≤ ts.length
  · rw [Nat.min_eq_left h]
  · rw [Nat.min_eq_right (by omega), List.take_length, List.take_of_length_le (by omega)]
theorem any_d3 (y : T3) : ∀ xs : List T3, ((xs.map d3).any fun z => PyData.eqv z (d3 y)) = decide (y ∈ xs)
  | [] => by simp
  | x :: xs => by
    rw [List.map_cons, List.any_cons, any_d3 y xs, d3_eq]
    by_cases e : x = y
    · subst e
      simp
    · have e' : ¬ y = x := fun z => e z.symm
      rw [decide_eq_false e, Bool.false_or]
      by_cases m : y ∈ xs
      · rw [decide_eq_true m, decide_eq_true (List.mem_cons_of_mem _ m)]
      · rw [decide_eq_false m, decide_eq_false (fun z => (List.mem_cons.mp z).elim e' m)]
section
variable {P : Program} {w : World} {K : PySem.W.Frag} {mg : Str → Option Value} {base : Heap}
structure Lf (K : PySem.W.Frag) (mg : Str → Option Value) where
  L : Ls K mg
  f : Addr
  d : FuncData
  F : Fun K "_law_framing" "_law_framing" sFraming f d
  b : Binds K d ["m", "most"] []
  g : mg "_law_framing" = some (.ref f)
  so : mg "sorted" = none
  tu : mg "tuple" = none
  en : mg "enumerate" = none
theorem scFraming : FnScope ["m", "most", "last", "found", "here", "to", "again", "k", "step"] ["m", "most"] (defScope sFraming) := ⟨rfl, rfl, rfl, by decide +kernel, rfl, by decide +kernel, by decide +kernel⟩
theorem ok_framing (G : Lf K mg) : FnOk P w K mg base CX0 3 G.f G.d ["m", "most"] spFraming := by
  have GX : FnOk P w K mg base CX0 1 G.L.f1 G.L.d1 ["m", "total"] spNext := ok_next G.L.N G.L.T
  have GP : FnOk P w K mg base CX0 2 G.L.f2 G.L.d2 ["m", "last"] spPiece := ok_piece G.L
  refine G.F.ok scFraming (fun vs H Q E h => ?_) (fun cdv A outer s H vs Q E hr h => ?_)
  · obtain ⟨m, c, l, k, rfl, _⟩ := h
    rfl
  · obtain ⟨m, c, l, k, rfl, M, hk, q⟩ := h
    have hr1 := hr.mono (j := 1) (by omega)
    have hu65 : (A.deeper (PyProof.Rows.envOfC "_law_framing" (defScope sFraming) s.heap.objs.size G.f cdv)).units + 65 < cLine := by have := hr.un; omega
    refine ⟨_, pss_cons (ps_asg (pe_tup (pa_cons (pe_call GX hr1 (by rfl) G.L.mN G.L.N.kp G.L.bN .nil pass0 (pa_cons (pv 0) (pa_cons (pe_op op_add (pv 1) pe_int) pa_nil))) (pa_cons (pe_lst pa_nil) pa_nil))) (pg_tup rfl (pgs_cons (pg_name (i := 2) scFraming.nd rfl (Or.inl rfl)) (pgs_cons (pg_name (i := 3) scFraming.nd rfl (Or.inr rfl)) pgs_nil))))
      (pss_cons (ps_for PassesOwn.never rfl (pi_range1 (by rfl) G.L.ra (pa_cons (pe_op op_add (pv 2) pe_int) pa_nil)) (pg_name (i := 4) scFraming.nd rfl (Or.inl rfl))
        (pss_cons (ps_set (i := 5) scFraming.nd rfl (Or.inl rfl) (pe_ifExp (pt_cmpR op_lt (pv 4) (pv 2) (nomark _)) (pe_op op_add (pv 4) pe_int) pe_int))
        (pss_one (ps_expr (pe_bm PySem.F.plainAttrs_list PySem.F.slot_list_append PySem.F.type_list_append mt_append (pv 3) (pa_cons (pe_tup (pa_cons (pv 4) (pa_cons (pe_call GP hr (by rfl) G.L.mP G.L.P.kp G.L.bP .nil pass0 (pa_cons (pv 0) (pa_cons (pe_cmpR op_eq (pv 5) pe_int (nomark _)) pa_nil))) (pa_cons (pv 5) pa_nil)))) pa_nil))))))
      (pss_cons (ps_for PassesOwn.never rfl (pi_range1 (by rfl) G.L.ra (pa_cons (pe_call GX hr1 (by rfl) G.L.mN G.L.N.kp G.L.bN .nil pass0 (pa_cons (pv 0) (pa_cons pe_int pa_nil))) pa_nil)) (pg_name (i := 6) scFraming.nd rfl (Or.inl rfl))
        (pss_cons (ps_par (i := 4) (j := 5) (x := "here") (y := "to") rfl scFraming.nd rfl rfl (by decide) rfl rfl (pa_cons (pe_call GX hr1 (by rfl) G.L.mN G.L.N.kp G.L.bN .nil pass0 (pa_cons (pv 0) (pa_cons (pe_op op_add (pv 2) pe_int) pa_nil))) (pa_cons (pe_call GX hr1 (by rfl) G.L.mN G.L.N.kp G.L.bN .nil pass0 (pa_cons (pv 0) (pa_cons (pe_op op_add (pv 2) pe_int) pa_nil))) pa_nil)) (by rfl))
        (pss_one (ps_expr (pe_bm PySem.F.plainAttrs_list PySem.F.slot_list_append PySem.F.type_list_append mt_append (pv 3) (pa_cons (pe_tup (pa_cons (pv 4) (pa_cons (pe_call GP hr (by rfl) G.L.mP G.L.P.kp G.L.bP .nil pass0 (pa_cons (pv 0) (pa_cons (pe_cmpR op_eq (pv 5) pe_int (nomark _)) pa_nil))) (pa_cons (pv 5) pa_nil)))) pa_nil))))))
      (pss_one (ps_ret (pe_callTy call_tuple_of (by rfl) G.tu (by decide +kernel) (pa_cons (pe_callB cr_sorted3 (by rfl) G.so (by decide +kernel) (pa_cons (pe_lc (own := [("k", 7), ("step", 8)]) (g := gTup K 2 (gCons (gName 7) (gCons (gName 8) gNil))) (tt := tTest (tOp (rNotInD K) (tVar 8) (tSl (rSlL K) (tVar 3) tNoPart (tPart (tVar 7))))) (te := tVar 8) rfl scFraming.nd
        (pi_enum (by rfl) G.en (pa_cons (pv 3) pa_nil)) (blkOk_by (N := ["m", "most", "last", "found", "here", "to", "again", "k", "step"]) (sc := defScope sFraming) (by decide +kernel))
        (fun _ _ _ _ _ => pg_tup rfl (pgs_cons (pg_name (i := 7) scFraming.nd rfl (Or.inl rfl)) (pgs_cons (pg_name (i := 8) scFraming.nd rfl (Or.inl rfl)) pgs_nil)))
        (fun _ _ _ _ _ => pts_one (pt_cmpR (op_notInD hu65) (pv 8) (pe_slice sl_list (pv 3) po_none (po_some (pv 7))) (by rfl))) (fun _ _ _ _ _ => pv 8)) pa_nil)) pa_nil)))))), ?_⟩
    refine ⟨_, rfl, _, rfl, 5, 1, rfl, rfl, m, c, l, k, _, rfl, M, by decide, by decide, by omega, fun r0 H1 l1 k1 a1 b1 g1 N1 f1 q1 => ?_⟩
    have d1 : Dr H H1 m c l l1 k1 := ⟨N1, f1, q1⟩
    obtain ⟨last, rfl⟩ := Int.eq_ofNat_of_zero_le a1
    have l5 : last ≤ 5 := by omega
    refine ⟨by decide, fun F hF => ⟨(by show 2 ≤ sizeLine; decide), fun p hp => ?_⟩⟩
    have u1 := same_upd (o := HO.lst []) hF
    have u2 := same_upd (o := HO.tup [V.int (last : Int), V.ref F]) hp
    refine ⟨p, _, rfl, SqT.of upd_same, rfl, _, _, rfl, _, _, rfl, rfl, ?_⟩
    have D1 := d1.same (u1.trans u2)
    have fs0 : FS H _ m c l F k1 last [] := ⟨⟨[], l1, k1, u2 _ _ upd_same, ⟨rfl, fun i t x h => by cases h⟩, N1.l_some hF, (ne_of_none N1.hm hF).symm, N1.c_some hF, Int.le_refl _, D1⟩, (fun x h => by cases h), fun b o z h1 h2 => ne_of_none (d1.kp b o z h1 h2) hF⟩
    have hn : ((last : Int) + 1).toNat = last + 1 := by omega
    refine ⟨_, rfl, last, 1, rfl, rfl, _, rfl, by omega, by omega, for_it walk_range (fun i σ H' => ∃ (v4 v5 : Option V) (xs : List T3), σ = [some (.ref m), some (.int 5), some (.int (last : Int)), some (.ref F), v4, v5, none, none, none] ∧
      FS H H' m c l F (k1 + 21 * i) last xs ∧ xs.length = i ∧ ∀ j : Nat, j < i → ∃ x ∈ xs, x.1 = (j : Int) ∧ x.2.2 = (if j < last then (j : Int) + 1 else 0))
      ⟨none, none, [], rfl, by simpa using fs0, rfl, fun j h => absurd h (by omega)⟩ (fun _ _ _ _ _ => trivial) ?_ ?_⟩
    · rintro i x σ H2 H3 hi ⟨v4, v5, xs, rfl, fs, lx, rg⟩ ⟨rfl, rfl⟩
      have hil : i ≤ last := by omega
      obtain ⟨ts, l3, k3, hF3, ha3, n3, nm, nc, kk3, D3⟩ := fs.ex
      have M3 := D3.at_
      refine ⟨_, rfl, _, rfl, _, _, rfl, rfl, _, rfl, ?_⟩
      have fin : ∀ (t : Int) (pp : Str) (H' : Hp), t = (if i < last then (i : Int) + 1 else 0) → FS H H' m c l F (k1 + 21 * ((i + 1 : Nat) : Int)) last (xs ++ [(0 + (i : Int), pp, t)]) → (xs ++ [(0 + (i : Int), pp, t)]).length = i + 1 ∧ ∀ j : Nat, j < i + 1 → ∃ x ∈ xs ++ [(0 + (i : Int), pp, t)], x.1 = (j : Int) ∧ x.2.2 = (if j < last then (j : Int) + 1 else 0) := fun t pp H' et _ => by
        refine ⟨by rw [List.length_append, lx]; rfl, fun j hj => ?_⟩
        by_cases e : j = i
        · subst e
          exact ⟨_, List.mem_append_right _ (List.mem_singleton.mpr rfl), Int.zero_add _, et⟩
        · obtain ⟨x, hx, e2⟩ := rg j (by omega)
          exact ⟨x, List.mem_append_left _ hx, e2⟩
      refine ite2 (fun z => ?_) (fun z => ?_)
      · have z1 : 0 + (i : Int) < last := of_decide_eq_true z
        refine ⟨_, rfl, _, 1, rfl, rfl, ?_⟩
        refine ⟨_, rfl, .inl ⟨rfl, _, SqL.of hF3⟩, _, rfl, _, rfl, _, rfl, rfl, m, c, l3, k3, decide (V.int (0 + (i : Int) + 1) = V.int 0), rfl, M3, by omega, fun pp H4 l4 k4 hp kk4 d4 => ?_⟩
        rw [bl_eq] at hp
        refine ⟨_, rfl, (by show 3 ≤ sizeLine; decide), fun tp htp => ?_⟩
        obtain ⟨hF4, n4⟩ := d4.lst M3 hF3 n3
        refine ⟨F, ts.map V.ref, _, rfl, rfl, same_upd htp _ _ hF4, by rw [List.length_map, ha3.1, sizeLine_eq]; omega, ?_⟩
        have okx : Stp ((0 + (i : Int), pp, 0 + (i : Int) + 1) : T3) ∧ (0 + (i : Int) : Int) ≤ last ∧ (0 + (i : Int) + 1 : Int) ≤ last := ⟨⟨by show (0 : Int) ≤ 0 + i; omega, by show (0 + (i : Int)) < 6; omega, hp, by show (0 : Int) ≤ 0 + i + 1; omega, by show (0 + (i : Int) + 1) < 6; omega⟩, by omega, by omega⟩
        have fs' := FS.push (x := (0 + (i : Int), pp, 0 + (i : Int) + 1)) hF3 ha3 n3 nm nc D3 d4 htp rfl (kb := k1 + 21 * ((i + 1 : Nat) : Int)) (by omega) fs.ok okx fs.hF
        
        have et : 0 + (i : Int) + 1 = (if i < last then (i : Int) + 1 else 0) := by rw [if_pos (by omega)]; omega
        obtain ⟨w1, w2⟩ := fin _ pp _ et fs'
        exact ⟨_, _, _, rfl, fs', w1, w2⟩
      · have z1 : ¬ 0 + (i : Int) < last := fun y => z (decide_eq_true y)
        refine ⟨_, rfl, .inl ⟨rfl, _, SqL.of hF3⟩, _, rfl, _, rfl, _, rfl, rfl, m, c, l3, k3, decide (V.int (0) = V.int 0), rfl, M3, by omega, fun pp H4 l4 k4 hp kk4 d4 => ?_⟩
        rw [bl_eq] at hp
        refine ⟨_, rfl, (by show 3 ≤ sizeLine; decide), fun tp htp => ?_⟩
        obtain ⟨hF4, n4⟩ := d4.lst M3 hF3 n3
        refine ⟨F, ts.map V.ref, _, rfl, rfl, same_upd htp _ _ hF4, by rw [List.length_map, ha3.1, sizeLine_eq]; omega, ?_⟩
        have okx : Stp ((0 + (i : Int), pp, 0) : T3) ∧ (0 + (i : Int) : Int) ≤ last ∧ (0 : Int) ≤ last := ⟨⟨by show (0 : Int) ≤ 0 + i; omega, by show (0 + (i : Int)) < 6; omega, hp, Int.le_refl _, (by show (0 : Int) < 6; decide)⟩, by omega, by omega⟩
        have fs' := FS.push (x := (0 + (i : Int), pp, 0)) hF3 ha3 n3 nm nc D3 d4 htp rfl (kb := k1 + 21 * ((i + 1 : Nat) : Int)) (by omega) fs.ok okx fs.hF
        
        have et : (0 : Int) = (if i < last then (i : Int) + 1 else 0) := by rw [if_neg (by omega)]
        obtain ⟨w1, w2⟩ := fin _ pp _ et fs'
        exact ⟨_, _, _, rfl, fs', w1, w2⟩
    · rintro σ H2 ⟨v4, v5, xs, rfl, fs, lx, rg⟩
      rw [hn] at fs lx rg
      obtain ⟨ts, l3, k3, hF3, ha3, n3, nm, nc, kk3, D3⟩ := fs.ex
      refine ⟨_, rfl, m, c, l3, k3, 7, rfl, D3.at_, by decide, by decide, by omega, fun r2 H3 l4 k4 a4 b4 g4 N4 f4 q4 => ?_⟩
      have d4 : Dr H2 H3 m c l3 l4 k4 := ⟨N4, f4, q4⟩
      obtain ⟨hF4, n4⟩ := d4.lst D3.at_ hF3 n3
      have fs4 : FS H H3 m c l F (k1 + 127) last xs := ⟨⟨ts, l4, k4, hF4, ha3.same (d4.keepT D3.at_), n4, nm, nc, by omega, D3.trans d4⟩, fs.ok, fs.hF⟩
      refine ⟨r2, rfl, by omega, by omega, for_it walk_range (fun i σ H' => ∃ (v4 v5 v6 : Option V) (xs : List T3), σ = [some (.ref m), some (.int 5), some (.int (last : Int)), some (.ref F), v4, v5, v6, none, none] ∧
        FS H H' m c l F (k1 + 127 + 23 * i) last xs ∧ xs.length = last + 1 + i ∧ ∀ j : Nat, j < last + 1 → ∃ x ∈ xs, x.1 = (j : Int) ∧ x.2.2 = (if j < last then (j : Int) + 1 else 0))
        ⟨v4, v5, none, xs, rfl, by simpa using fs4, lx, rg⟩ (fun _ _ _ _ _ => trivial) ?_ ?_⟩
      · rintro i x σ H5 H6 hi ⟨v4, v5, v6, xs, rfl, fs, lx, rg⟩ ⟨rfl, rfl⟩
        have hi6 : i < 7 := by omega
        obtain ⟨ts, l5', k5, hF5, ha5, n5, nm, nc, kk5, D5⟩ := fs.ex
        refine ⟨_, rfl, _, rfl, last, 1, rfl, rfl, m, c, l5', k5, _, rfl, D5.at_, by omega, by omega, by omega, fun rh H7 l7 k7 a7 b7 g7 N7 f7 q7 => ?_⟩
        have d7 : Dr _ H7 m c l5' l7 k7 := ⟨N7, f7, q7⟩
        refine ⟨_, rfl, _, rfl, last, 1, rfl, rfl, m, c, l7, k7, _, rfl, N7, by omega, by omega, by omega, fun rt H8 l8 k8 a8 b8 g8 N8 f8 q8 => ?_⟩
        have d8 : Dr _ H8 m c l7 l8 k8 := ⟨N8, f8, q8⟩
        have D3 := D5.trans (d7.trans d8)
        have M3 := D3.at_
        obtain ⟨hF3, n3⟩ := (d7.trans d8).lst D5.at_ hF5 n5
        have ha3 := ha5.same ((d7.trans d8).keepT D5.at_)
        refine ⟨_, _, rfl, ?_⟩
        refine ⟨_, rfl, .inl ⟨rfl, _, SqL.of hF3⟩, _, rfl, _, rfl, _, rfl, rfl, m, c, l8, k8, decide (V.int (rt) = V.int 0), rfl, M3, by omega, fun pp H4 l4 k4 hp kk4 d4 => ?_⟩
        rw [bl_eq] at hp
        refine ⟨_, rfl, (by show 3 ≤ sizeLine; decide), fun tp htp => ?_⟩
        obtain ⟨hF4, n4⟩ := d4.lst M3 hF3 n3
        refine ⟨F, ts.map V.ref, _, rfl, rfl, same_upd htp _ _ hF4, by rw [List.length_map, ha3.1, sizeLine_eq]; omega, ?_⟩
        have okx : Stp ((rh, pp, rt) : T3) ∧ (rh : Int) ≤ last ∧ (rt : Int) ≤ last := ⟨⟨a7, by show rh < 6; omega, hp, a8, by show rt < 6; omega⟩, by omega, by omega⟩
        have fs' := FS.push (x := (rh, pp, rt)) hF3 ha3 n3 nm nc D3 d4 htp rfl (kb := k1 + 127 + 23 * ((i + 1 : Nat) : Int)) (by omega) fs.ok okx fs.hF
        
        exact ⟨_, _, _, _, rfl, fs', by rw [List.length_append, lx]; rfl, fun j hj => by
          obtain ⟨x, hx, e2⟩ := rg j hj
          exact ⟨x, List.mem_append_left _ hx, e2⟩⟩
      · rintro σ H5 ⟨v4, v5, v6, xs, rfl, fs, lx, rg⟩
        obtain ⟨ts, l6, k6, hF6, ha6, n6, nm, nc, kk6, D6⟩ := fs.ex
        have hr2 : r2.toNat ≤ 6 := by omega
        have l16 : xs.length ≤ 16 := by omega
        have sok : ∀ x ∈ xs, PyData.strOk x.2.1 = true := fun x hx => pc_ok (fs.ok x hx).1.2.2.1
        refine ⟨_, rfl, F, _, rfl, SqL.of hF6, fun D hD => ?_⟩
        have nFD : F ≠ D := ne_of_none hF6 hD
        refine lc_it (walk_enum (xs := ts.map V.ref)) (fun i H' => ∃ ks : List Addr, H' D = some (.lst (ks.map V.ref)) ∧ At3 H' ks (dd (xs.take i)) ∧ ∀ b o, H5 b = some o → H' b = some o)
          ⟨[], upd_same, ⟨rfl, fun i t x h => by cases h⟩, fun b o z => same_upd hD b o z⟩ (fun i H' _ ⟨_, _, _, z⟩ => SqL.of (z _ _ hF6)) ?_ ?_
        · rintro i x H6 H7 hi ⟨ks, hk, hka, kp⟩ ⟨T, xi, xo, rfl, nT, rfl, h1, h2⟩
          cases h1
          obtain ⟨t, y, hy, rfl, e4⟩ := at_step (i := i) ha6.1 ha6.2 h2
          have uT := same_upd (o := HO.tup [V.int (i : Nat), V.ref t]) nT
          have il : i < xs.length := (List.getElem?_eq_some_iff.mp hy).1
          refine ⟨T, _, rfl, SqT.of upd_same, rfl, _, _, rfl, _, _, rfl, rfl, rfl, ?_⟩
          refine ⟨_, rfl, _, rfl, _, rfl, _, rfl, F, _, rfl, SqL.of (uT _ _ (kp _ _ hF6)), fun p5 hp5 => ?_⟩
          have u5 := same_upd (o := HO.lst (cutV (ts.map V.ref) none (some ((i : Nat) : Int)))) hp5
          have s5 : Same H5 _ := (show Same H5 H6 from kp).trans (uT.trans u5)
          have t5 := s5 _ _ e4
          refine ⟨d3 y, (xs.take i).map d3, dp3 t5, .lst (SqL.of upd_same) ?_, d3_shaped (sok y (List.mem_of_getElem? hy)), d3s_shaped (fun x hx => sok x (List.mem_of_mem_take hx)), _, rfl, ?_⟩
          · rw [cut_to] at s5 ⊢
            exact dp3s ((ha6.take i).same (Same.keepT s5))
          · rw [any_d3]
            have kk := uT.trans u5
            refine ite2 (fun z => ?_) (fun z => ?_)
            · have nm2 : ¬ y ∈ dd (xs.take i) := fun w => by
                rw [decide_eq_true ((dd_mem _ _).mp w)] at z
                cases z
              have hk5 := kk _ _ hk
              have kt := keepT_upd (o := .lst (ks.map V.ref ++ [.ref t])) hk5 (fun xs z => by cases z)
              refine ⟨_, rfl, _, hk5, ?_, ks ++ [t], ?_, ?_, fun b o w => ?_⟩
              · have := dd_len (xs.take i)
                rw [List.length_take] at this
                rw [List.length_map, hka.1, sizeLine_eq]
                omega
              · rw [List.map_append]
                exact upd_same
              · rw [take_one hy, dd_snoc, if_neg nm2]
                exact (hka.same ((Same.keepT kk).trans kt)).snoc (kt _ _ t5)
              · rw [upd_ne (ne_of_none w hD)]
                exact s5 _ _ w
            · have nm2 : y ∈ dd (xs.take i) := (dd_mem _ _).mpr (by
                by_cases w : y ∈ xs.take i
                · exact w
                · rw [decide_eq_false w] at z
                  exact absurd rfl z)
              refine ⟨ks, kk _ _ hk, ?_, fun b o w => s5 _ _ w⟩
              rw [take_one hy, dd_snoc, if_pos nm2]
              exact hka.same (Same.keepT kk)
        · rintro H6 ⟨ks, hk, hka, kp⟩
          rw [List.length_map, ha6.1, List.take_length] at hka
          have hkm := map_stepAt hka
          refine ⟨D, _, stepAt H6, rfl, SqL.of hk, fun x hx => ?_, fun ys p5 sr pm hp5 => ?_⟩
          · obtain ⟨t, ht, rfl⟩ := List.mem_map.mp hx
            obtain ⟨j, hj, e⟩ := List.getElem_of_mem ht
            have hx2 : j < (dd xs).length := by rw [← hka.1]; exact hj
            have s3 := hka.2 j t _ (by rw [List.getElem?_eq_getElem hj, e]) (List.getElem?_eq_getElem hx2)
            refine ⟨t, rfl, ?_⟩
            rw [stepAt_of s3]
            exact s3
          · obtain ⟨fm, us, eu, hu⟩ := frm_of hka rfl sr pm l16 l5 fs.ok (fun k hk => rg k (by omega))
            have u5 := same_upd (o := HO.lst ys) hp5
            refine ⟨p5, _, rfl, .inl ⟨SqL.of upd_same, fun p6 hp6 => ?_⟩⟩
            have u6 := same_upd (o := HO.tup ys) hp6
            have l12f : (ys.map (stepAt H6)).length ≤ 12 := by
              have a1 := pm.length_eq
              have a2 := dd_len xs
              have a3 := hka.1
              rw [List.length_map] at a1
              rw [List.length_map]
              omega
            have k5 : Same H5 _ := (show Same H5 H6 from kp).trans (u5.trans u6)
            refine q p6 (ys.map (stepAt H6)) last _ l6 k6 ⟨us, by rw [← eu]; exact upd_same, hu.1, fun i t x h1 h2 => (u5.trans u6) _ _ (hu.2 i t x h1 h2)⟩ fm l12f (by omega) (D6.same k5)
end
end K45

set_option Elab.async false
set_option linter.all false
set_option maxRecDepth 100000
set_option maxHeartbeats 4000000
/-! repr of data, of any size. -/
namespace L2
namespace EV
open PySem PySem.Spec PyProof.Rows _root_.EV
/-- repr of data -/
def rShowV (K : PySem.W.Frag) : List V → Hp → VK → Prop := fun xs H Q => ∃ (v : V) (d : PyData), xs = [v] ∧ Dp K H v d ∧ d.showable = true ∧ d.hasDict = false ∧ d.shown.length ≤ sizeLine ∧ d.depth ≤ 5 ∧ Q (.str d.shown) H
theorem call_showV {X : Cx} (hgd : X.A.guards = some []) (hu : X.A.units + 64 < cLine) : CallR X (.builtin "repr") (rShowV X.K) := by
  intro pins s σ H xs us Q I r h
  obtain ⟨v, d, rfl, hd, sh, nd, sz, dp, q⟩ := h
  obtain ⟨u, rfl, ru⟩ := vals1 r
  obtain ⟨as, rd⟩ := Dp.reads I d v u hd ru
  have at_ : ∀ a : Addr, u = .ref a → wpAny (model X.prog X.w) X.A (call (.builtin "repr") [u]) (EP X pins σ Q) X.xe s := fun a e => by
    subst e
    exact repr_of_reads' rd sh (fun z => by rw [nd] at z; cases z) hgd (by omega) (fun _ _ e => e) (fun h' t tk hk => ⟨.str _, H, I.kept (t' := tk) hk, ⟨_, rfl⟩, q⟩) sz
  cases hd with
  | non =>
    obtain rfl : u = Value.none := ru
    simp only [PyData.shown] at q
    exact PySem.P.repr_of_none ⟨.str _, H, I.tok _, ⟨_, rfl⟩, q⟩
  | bl b =>
    obtain rfl : u = Value.bool b := ru
    simp only [PyData.shown] at q
    exact PySem.P.repr_of_bool ⟨.str _, H, I.tok _, ⟨_, rfl⟩, q⟩
  | int i =>
    obtain ⟨t, rfl⟩ := (show ∃ t, u = Value.int i t from ru)
    simp only [PyData.shown] at q
    simp only [PyData.showable, decide_eq_true_eq] at sh
    exact PySem.P.repr_of_int sh ⟨.str _, H, I.tok _, ⟨_, rfl⟩, q⟩
  | str x =>
    obtain ⟨t, rfl⟩ := (show ∃ t, u = Value.str x t from ru)
    simp only [PyData.shown] at q sz
    exact PySem.P.repr_of_str ⟨.str _, H, I.tok _, ⟨_, rfl⟩, q⟩ sz
  | @lst a xs ds h1 h2 => exact at_ a ru
  | @tup a xs ds h1 h2 => exact at_ a ru
end EV
end L2
namespace K45
open PySem L2 L2.EV
structure Okd (d : PyData) (n dp : Nat) : Prop where
  sh : d.showable = true
  nd : d.hasDict = false
  sz : d.shown.length ≤ n
  dp : d.depth ≤ dp
  lay : d.canLay0 = true
theorem Okd.le {d : PyData} {n m dp dq : Nat} (h : Okd d n dp) (a : n ≤ m) (b : dp ≤ dq) : Okd d m dq := ⟨h.sh, h.nd, Nat.le_trans h.sz a, Nat.le_trans h.dp b, h.lay⟩
theorem okd_int {i : Int} (h0 : 0 ≤ i) (h1 : i < 64) : Okd (.int i) 10 0 := by
  obtain ⟨k, rfl⟩ := Int.eq_ofNat_of_zero_le h0
  have hk : k < 64 := by omega
  have z : ∀ k : Fin 64, (PyData.int ((k.val : Nat) : Int)).showable = true ∧ (PyData.int ((k.val : Nat) : Int)).shown.length ≤ 10 := by decide +kernel
  obtain ⟨z1, z2⟩ := z ⟨k, hk⟩
  exact ⟨z1, by simp only [PyData.hasDict], z2, by simp only [PyData.depth]; omega, by simp only [PyData.canLay0]⟩
theorem okd_str {x : Str} {m : Nat} (hs : PyData.strOk x = true) (hl : x.length ≤ m) : Okd (.str x) (10 * m + 2) 0 := by
  refine ⟨by simp only [PyData.showable], by simp only [PyData.hasDict], ?_, by simp only [PyData.depth]; omega, by simp only [PyData.canLay0]; exact hs⟩
  simp only [PyData.shown]
  have z := PySem.StrLaws.reprText_len x (fun c hc => by
    unfold PyData.strOk at hs
    rw [← Array.all_toList, List.all_eq_true] at hs
    have := of_decide_eq_true (hs c hc)
    exact Nat.lt_trans this (by decide))
  omega
theorem okd_all {n dp : Nat} : ∀ {ds : List PyData}, (∀ d ∈ ds, Okd d n dp) → PyData.showableAll ds = true ∧ PyData.hasDictAll ds = false ∧ ((PyData.shownAll ds).map (·.length)).sum ≤ n * ds.length ∧ (PyData.shownAll ds).length = ds.length ∧ PyData.depthAll ds ≤ dp ∧ PyData.canLayAll0 ds = true
  | [], _ => ⟨by simp [PyData.showableAll], by simp [PyData.hasDictAll], by simp [PyData.shownAll], by simp [PyData.shownAll], by simp [PyData.depthAll], by simp [PyData.canLayAll0]⟩
  | d :: ds, h => by
    have h1 := h d (List.mem_cons_self ..)
    obtain ⟨a, b, c, e, f, g⟩ := okd_all (ds := ds) fun d hd => h d (List.mem_cons_of_mem _ hd)
    have h2 := h1.sz
    have h3 := h1.dp
    refine ⟨by simp only [PyData.showableAll, h1.sh, a, Bool.and_self], by simp only [PyData.hasDictAll, h1.nd, b, Bool.or_self], ?_, by simp only [PyData.shownAll, List.length_cons, e], by simp only [PyData.depthAll]; omega, by simp only [PyData.canLayAll0, h1.lay, g, Bool.and_self]⟩
    simp only [PyData.shownAll, List.map_cons, List.sum_cons, List.length_cons, Nat.mul_add, Nat.mul_one]
    omega
theorem okd_list {n dp m : Nat} {ds : List PyData} (h : ∀ d ∈ ds, Okd d n dp) (hl : ds.length ≤ m) : Okd (.list ds) (m * (n + 2) + 3) (dp + 1) := by
  obtain ⟨a, b, c, e, f, g⟩ := okd_all h
  refine ⟨by simp only [PyData.showable, a], by simp only [PyData.hasDict, b], ?_, by simp only [PyData.depth]; omega, by simp only [PyData.canLay0, g]⟩
  simp only [PyData.shown]
  have z := listText_len_le (PyData.shownAll ds)
  rw [e] at z
  have y : n * ds.length ≤ n * m := Nat.mul_le_mul_left _ hl
  rw [Nat.mul_add, Nat.mul_comm m n]
  omega
theorem okd_tuple {n dp m : Nat} {ds : List PyData} (h : ∀ d ∈ ds, Okd d n dp) (hl : ds.length ≤ m) : Okd (.tuple ds) (m * (n + 2) + 3) (dp + 1) := by
  obtain ⟨a, b, c, e, f, g⟩ := okd_all h
  refine ⟨by simp only [PyData.showable, a], by simp only [PyData.hasDict, b], ?_, by simp only [PyData.depth]; omega, by simp only [PyData.canLay0, g]⟩
  simp only [PyData.shown]
  have z := tupleText_len_le (PyData.shownAll ds)
  rw [e] at z
  have y : n * ds.length ≤ n * m := Nat.mul_le_mul_left _ hl
  rw [Nat.mul_add, Nat.mul_comm m n]
  omega
end K45

set_option Elab.async false
set_option linter.all false
set_option maxRecDepth 100000
set_option maxHeartbeats 4000000
/-! Texts of framings: joined, split. -/
namespace K45
open PySem L2 L2.EV
/-- lists with a sign between -/
def inter (c : Nat) : List (List Nat) → List Nat
  | [] => []
  | [a] => a
  | a :: b :: r => a ++ c :: inter c (b :: r)
theorem sl_inter (c : Nat) : ∀ ys : List Str, sl (Str.join ⟨#[c]⟩ ys) = inter c (ys.map sl)
  | [] => rfl
  | [x] => rfl
  | x :: y :: r => by
    show sl (x ++ ⟨#[c]⟩ ++ Str.join ⟨#[c]⟩ (y :: r)) = _
    rw [sl_app, sl_app, sl_inter c (y :: r)]
    show sl x ++ [c] ++ _ = sl x ++ c :: inter c (sl y :: r.map sl)
    simp
theorem cut_at {c : Nat} : ∀ {a b u v : List Nat}, c ∉ a → c ∉ b → a ++ c :: u = b ++ c :: v → a = b ∧ u = v
  | [], [], _, _, _, _, e => ⟨rfl, (List.cons.inj e).2⟩
  | [], y :: b, _, _, _, h, e => by
    have z := (List.cons.inj e).1
    exact absurd (z ▸ List.mem_cons_self ..) h
  | x :: a, [], _, _, h, _, e => by
    have z := (List.cons.inj e).1
    exact absurd (z ▸ List.mem_cons_self ..) h
  | x :: a, y :: b, _, _, h1, h2, e => by
    obtain ⟨e1, e2⟩ := List.cons.inj e
    obtain ⟨i, j⟩ := cut_at (fun z => h1 (List.mem_cons_of_mem _ z)) (fun z => h2 (List.mem_cons_of_mem _ z)) e2
    exact ⟨by rw [e1, i], j⟩
theorem inter_one {c : Nat} {a b d : List Nat} {r : List (List Nat)} (h : c ∉ a) (e : a = b ++ c :: inter c (d :: r)) : False := h (by rw [e]; exact List.mem_append_right _ (List.mem_cons_self ..))
theorem inter_inj {c : Nat} : ∀ {as bs : List (List Nat)}, as ≠ [] → bs ≠ [] → (∀ a ∈ as, c ∉ a) → (∀ b ∈ bs, c ∉ b) → inter c as = inter c bs → as = bs
  | [], _, n, _, _, _, _ => absurd rfl n
  | _, [], _, n, _, _, _ => absurd rfl n
  | [a], [b], _, _, _, _, e => by
    have e : a = b := e
    rw [e]
  | [a], b :: d :: r, _, _, h, _, e => (inter_one (h a (List.mem_cons_self ..)) e).elim
  | a :: d :: r, [b], _, _, _, h, e => (inter_one (h b (List.mem_cons_self ..)) e.symm).elim
  | a :: d :: r, b :: d' :: r', _, _, h1, h2, e => by
    obtain ⟨i, j⟩ := cut_at (h1 a (List.mem_cons_self ..)) (h2 b (List.mem_cons_self ..)) e
    have k := inter_inj (as := d :: r) (bs := d' :: r') (fun z => by cases z) (fun z => by cases z) (fun x hx => h1 x (List.mem_cons_of_mem _ hx)) (fun x hx => h2 x (List.mem_cons_of_mem _ hx)) j
    rw [i, k]
theorem sl_inj {a b : Str} (h : sl a = sl b) : a = b := by
  apply Str.ext'
  exact Array.toList_inj.mp h
theorem split_of {c : Nat} {ys : List Str} (n : ys ≠ []) (h : ∀ y ∈ ys, c ∉ sl y) : Txt.split (Str.join ⟨#[c]⟩ ys) ⟨#[c]⟩ = ys := by
  have e := congrArg sl (StrLaws.join_split (Str.join ⟨#[c]⟩ ys) ⟨#[c]⟩)
  rw [sl_inter, sl_inter] at e
  have f := StrLaws.split_free (Str.join ⟨#[c]⟩ ys) c
  have n2 : Txt.split (Str.join ⟨#[c]⟩ ys) ⟨#[c]⟩ ≠ [] := fun z => by
    have := PyProof.Rows.split_pos (Str.join ⟨#[c]⟩ ys) ⟨#[c]⟩
    rw [z] at this
    exact absurd this (by decide)
  have k := inter_inj (c := c) (fun z => n2 (List.map_eq_nil_iff.mp z)) (fun z => n (List.map_eq_nil_iff.mp z)) (fun a ha => by
    obtain ⟨p, hp, rfl⟩ := List.mem_map.mp ha
    exact f p hp) (fun a ha => by
    obtain ⟨p, hp, rfl⟩ := List.mem_map.mp ha
    exact h p hp) e
  have inj : ∀ {xs ys : List Str}, xs.map sl = ys.map sl → xs = ys := by
    intro xs
    induction xs with
    | nil =>
      intro ys e
      cases ys with
      | nil => rfl
      | cons y ys => cases e
    | cons x xs ih =>
      intro ys e
      cases ys with
      | nil => cases e
      | cons y ys =>
        obtain ⟨e1, e2⟩ := List.cons.inj e
        rw [sl_inj e1, ih e2]
  exact inj k
/-- a step's words, its line -/
def dig (i : Int) : Str := toString i
def words (x : T3) : List Str := [dig x.1, x.2.1, dig x.2.2]
def line3 (x : T3) : Str := dig x.1 ++ " " ++ x.2.1 ++ " " ++ dig x.2.2
def textF (fr : List T3) : Str := Str.join "\n" (fr.map line3)
theorem dig_ok {i : Int} (h0 : 0 ≤ i) (h1 : i ≤ 5) : dig i ∈ (["0", "1", "2", "3", "4", "5"] : List Str) ∧ PySem.intText? (dig i) = some i ∧ (dig i).length = 1 ∧ (32 ∉ sl (dig i)) ∧ (10 ∉ sl (dig i)) := by
  obtain ⟨n, rfl⟩ := Int.eq_ofNat_of_zero_le h0
  have : n = 0 ∨ n = 1 ∨ n = 2 ∨ n = 3 ∨ n = 4 ∨ n = 5 := by omega
  rcases this with rfl | rfl | rfl | rfl | rfl | rfl <;> exact ⟨by decide +kernel, by decide +kernel, by decide +kernel, by decide +kernel, by decide +kernel⟩
theorem line_join (x : T3) : line3 x = Str.join " " (words x) := by
  apply sl_inj
  unfold line3
  have e : (" " : Str) = ⟨#[32]⟩ := by decide +kernel
  rw [e, sl_inter, sl_app, sl_app, sl_app, sl_app]
  show sl (dig x.1) ++ [32] ++ sl x.2.1 ++ [32] ++ sl (dig x.2.2) = sl (dig x.1) ++ 32 :: (sl x.2.1 ++ 32 :: sl (dig x.2.2))
  simp
end K45

set_option Elab.async false
set_option linter.all false
set_option maxRecDepth 100000
set_option maxHeartbeats 4000000
/-! The words of a step: can_stand, wrong_word, told_step. -/
namespace K45
open PySem L2 L2.EV
abbrev sCan : Stmt := top 21
abbrev sWrongW : Stmt := top 22
abbrev sTold : Stmt := top 23
theorem pc_free {p : Str} {l : Bool} (h : Pc p l) : 32 ∉ sl p ∧ 10 ∉ sl p := by
  obtain ⟨b, e, h1, hb, h2⟩ := h
  have e : sl p = b ++ (if l = true then [59] else []) := e
  have key : ∀ c, c ∉ sgs → c ≠ 59 → c ∉ sl p := fun c n1 n2 hc => by
    rw [e] at hc
    rcases List.mem_append.mp hc with z | z
    · exact n1 (hb c z)
    · split at z
      · exact n2 (by simpa using z)
      · cases z
  exact ⟨key 32 (by decide +kernel) (by decide), key 10 (by decide +kernel) (by decide)⟩
abbrev words6 : List V := [.str "0", .str "1", .str "2", .str "3", .str "4", .str "5"]
def in6S (s : Str) : Bool := inV (.str s) words6
/-- whether a word can stand there, those ahead being right -/
def canW (ws : List Str) : Nat → Bool
  | 0 => in6S (ws.getD 0 "")
  | 1 => pcS (ws.getD 1 "")
  | _ => in6S (ws.getD 2 "") && (decide (ws.getD 2 "" = "0") == Txt.endswith (ws.getD 1 "") ";")
/-- the number of the first word that can't stand there -/
def wrongW (ws : List Str) : Option Nat :=
  if ws.length ≤ 0 ∨ canW ws 0 = false then some 1 else if ws.length ≤ 1 ∨ canW ws 1 = false then some 2 else if ws.length ≤ 2 ∨ canW ws 2 = false then some 3 else if ws.length = 3 then none else some 4
def wN : Option Nat → V
  | none => .non
  | some n => .int (n : Int)
def WsA (K : PySem.W.Frag) (H : Hp) (w : Addr) (ws : List Str) : Prop := SqL K H w (ws.map V.str) ∧ (∀ s ∈ ws, s.length ≤ 6000) ∧ ws.length ≤ 100000
def spCan (K : PySem.W.Frag) : Sp := fun vs H Q _ => ∃ (w : Addr) (ws : List Str) (n : Nat), vs = [.ref w, .int n] ∧ WsA K H w ws ∧ n < 3 ∧ n < ws.length ∧ ∀ H', Same H H' → Q (.bl (canW ws n)) H'
def spWrongW (K : PySem.W.Frag) : Sp := fun vs H Q _ => ∃ (w : Addr) (ws : List Str), vs = [.ref w] ∧ WsA K H w ws ∧ ∀ H', Same H H' → Q (wN (wrongW ws)) H'
def WdA (K : PySem.W.Frag) (H : Hp) (w : Addr) (x : T3) : Prop := SqL K H w ((words x).map V.str) ∧ Stp x
def spTold (K : PySem.W.Frag) : Sp := fun vs H Q _ => ∃ (w : Addr) (x : T3), vs = [.ref w] ∧ WdA K H w x ∧ ∀ H' p, Same H H' → H p = none → S3 H' p x → Q (.ref p) H'
structure Tw (K : PySem.W.Frag) (mg : Str → Option Value) where
  Z : Fs K mg
  fC : Addr
  fW : Addr
  fT : Addr
  dC : FuncData
  dW : FuncData
  dT : FuncData
  C : Fun K "can_stand" "can_stand" sCan fC dC
  W : Fun K "wrong_word" "wrong_word" sWrongW fW dW
  T : Fun K "told_step" "told_step" sTold fT dT
  bC : Binds K dC ["words", "at"] []
  bW : Binds K dW ["words"] []
  bT : Binds K dT ["words"] []
  mC : mg "can_stand" = some (.ref fC)
  mW : mg "wrong_word" = some (.ref fW)
  mT : mg "told_step" = some (.ref fT)
  g : Addr
  mg_ : mg "STANDING_WORDS" = some (.ref g)
  sq : ∀ H, SqT K H g words6
  many : ∃ t, mg "MANY_WORDS" = some (.int 3 t)
  ra : mg "range" = none
section
variable {P : Program} {w : World} {K : PySem.W.Frag} {mg : Str → Option Value} {base : Heap}
theorem scCan : FnScope ["words", "at"] ["words", "at"] (defScope sCan) := ⟨rfl, rfl, rfl, by decide +kernel, rfl, by decide +kernel, by decide +kernel⟩
theorem ok_can (W : Tw K mg) : FnOk P w K mg base CX0 2 W.fC W.dC ["words", "at"] (spCan K) := by
  have GP : FnOk P w K mg base CX0 1 W.Z.fP W.Z.dP ["thing"] spPcD := ok_pcD W.Z.P W.Z.T
  refine W.C.ok scCan (fun vs H Q E h => ?_) (fun cdv A outer s H vs Q E hr h => ?_)
  · obtain ⟨w, ws, n, rfl, _⟩ := h
    rfl
  · obtain ⟨w, ws, n, rfl, ⟨hw, sz, lz⟩, n3, nl, q⟩ := h
    refine ⟨_, pss_cons (ps_if (pt_cmpR op_eq (pv 1) pe_int (nomark _)) (pss_one (ps_ret (pe_call GP hr (by rfl) W.Z.mP W.Z.P.kp W.Z.bP .nil pass0 (pa_cons (pe_ix ix_list (pv 0) (pv 1) (fun _ _ => rfl)) pa_nil)))) pss_nil)
      (pss_cons (ps_if (pt_cmpR op_notIn_seq (pe_ix ix_list (pv 0) (pv 1) (fun _ _ => rfl)) (pe_glob (v := .ref W.g) (by rfl) W.mg_ rfl) (by rfl)) (pss_one (ps_ret pe_bl)) pss_nil)
      (pss_one (ps_ret (pe_or (pe_cmpR op_eq (pv 1) pe_int (nomark _)) (pe_one (pe_cmpR op_eq (pe_cmpR op_eq (pe_ix ix_list (pv 0) (pv 1) (fun _ _ => rfl)) pe_str (nomark _)) (pe_m1 PySem.F.slot_str_endswith PySem.F.type_str_endswith mt_endswith (pe_ix ix_list (pv 0) pe_int (fun _ _ => rfl)) pe_str) (by rfl))))))), ?_⟩
    refine ⟨_, rfl, rfl, _, rfl, ?_⟩
    have at1 : ∀ {k : Nat}, k < ws.length → atI (ws.map V.str) (k : Int) = some (.str (ws.getD k "")) := fun {k} e => atI_nat (by rw [List.getElem?_map, List.getElem?_eq_getElem e, List.getD_eq_getElem?_getD, List.getElem?_eq_getElem e]; rfl)
    rcases (show n = 0 ∨ n = 1 ∨ n = 2 by omega) with rfl | rfl | rfl
    · refine iteF' (by decide) ?_
      refine ⟨_, rfl, _, rfl, w, _, (0 : Nat), .str (ws.getD 0 ""), rfl, rfl, hw, at1 nl, W.g, words6, rfl, .inr (W.sq _), rfl, rfl, _, rfl, ?_⟩
      have q : Q (.bl (in6S (ws.getD 0 ""))) H := q H (Same.refl H)
      cases e : in6S (ws.getD 0 "") with
      | false =>
        rw [e] at q
        refine iteT' (by unfold in6S at e; rw [e]; rfl) q
      | true =>
        rw [e] at q
        refine iteF' (by unfold in6S at e; rw [e]; rfl) ?_
        exact ⟨_, rfl, rfl, _, rfl, iteT' (by decide) q⟩
    · refine iteT' (by decide) ?_
      refine ⟨_, rfl, _, rfl, w, _, (1 : Nat), .str (ws.getD 1 ""), rfl, rfl, hw, at1 nl, .str (ws.getD 1 ""), .str (ws.getD 1 ""), rfl, .str _, (fun s e => by
        cases e
        rw [List.getD_eq_getElem?_getD, List.getElem?_eq_getElem nl]
        exact sz _ (List.getElem_mem nl)), q⟩
    · refine iteF' (by decide) ?_
      refine ⟨_, rfl, _, rfl, w, _, (2 : Nat), .str (ws.getD 2 ""), rfl, rfl, hw, at1 nl, W.g, words6, rfl, .inr (W.sq _), rfl, rfl, _, rfl, ?_⟩
      have q : Q (.bl (in6S (ws.getD 2 "") && (decide (ws.getD 2 "" = "0") == Txt.endswith (ws.getD 1 "") ";"))) H := q H (Same.refl H)
      cases e : in6S (ws.getD 2 "") with
      | false =>
        rw [e, Bool.false_and] at q
        refine iteT' (by unfold in6S at e; rw [e]; rfl) q
      | true =>
        rw [e, Bool.true_and] at q
        refine iteF' (by unfold in6S at e; rw [e]; rfl) ?_
        refine ⟨_, rfl, rfl, _, rfl, iteF' (by decide) ?_⟩
        refine ⟨_, rfl, _, rfl, w, _, (2 : Nat), .str (ws.getD 2 ""), rfl, rfl, hw, at1 nl, rfl, _, rfl, w, _, 1, .str (ws.getD 1 ""), rfl, rfl, hw, at1 (k := 1) (by omega), ⟨_, rfl⟩, ws.getD 1 "", _, rfl, rfl, rfl, ?_⟩
        have e1 : decide (V.str (ws.getD 2 "") = V.str "0") = decide (ws.getD 2 "" = "0") := by
          by_cases z : ws.getD 2 "" = "0"
          · rw [decide_eq_true z, decide_eq_true (congrArg V.str z)]
          · rw [decide_eq_false z, decide_eq_false (fun k => z (V.str.inj k))]
        have e2 : ∀ a b : Bool, decide (V.bl a = V.bl b) = (a == b) := fun a b => by cases a <;> cases b <;> simp
        rw [e1, e2]
        exact q
theorem scWrongW : FnScope ["words", "at"] ["words"] (defScope sWrongW) := ⟨rfl, rfl, rfl, by decide +kernel, rfl, by decide +kernel, by decide +kernel⟩
theorem ok_wrongW (W : Tw K mg) : FnOk P w K mg base CX0 3 W.fW W.dW ["words"] (spWrongW K) := by
  have GC : FnOk P w K mg base CX0 2 W.fC W.dC ["words", "at"] (spCan K) := ok_can W
  refine W.W.ok scWrongW (fun vs H Q E h => ?_) (fun cdv A outer s H vs Q E hr h => ?_)
  · obtain ⟨w, ws, rfl, _⟩ := h
    rfl
  · obtain ⟨w, ws, rfl, ⟨hw, sz, lz⟩, q⟩ := h
    obtain ⟨tm, eM⟩ := W.many
    refine ⟨_, pss_cons (ps_for PassesOwn.never rfl (pi_range1 (by rfl) W.ra (pa_cons (pe_glob (v := .int 3) (by rfl) eM ⟨_, rfl⟩) pa_nil)) (pg_name (i := 1) scWrongW.nd rfl (Or.inl rfl))
        (pss_one (ps_if (pw_or (pt_cmpR op_ge (pv 1) (pe_callB call_len_seq (by rfl) W.Z.T.len PySem.boot_len (pa_cons (pv 0) pa_nil)) (nomark _))
          (pw_or1 (pt_not (pt_val (pe_call GC hr (by rfl) W.mC W.C.kp W.bC .nil pass0 (pa_cons (pv 0) (pa_cons (pv 1) pa_nil))))))).pt (pss_one (ps_ret (pe_op op_add (pv 1) pe_int))) pss_nil)))
      (pss_one (ps_ret (pe_ifExp (pt_cmpR op_eq (pe_callB call_len_seq (by rfl) W.Z.T.len PySem.boot_len (pa_cons (pv 0) pa_nil)) (pe_glob (v := .int 3) (by rfl) eM ⟨_, rfl⟩) (nomark _)) pe_non (pe_op op_add (pe_glob (v := .int 3) (by rfl) eM ⟨_, rfl⟩) pe_int)))), ?_⟩
    -- what is told where all ahead were right
    have told : ∀ i : Nat, i < 3 → (∀ j, j < i → j < ws.length ∧ canW ws j = true) → (ws.length ≤ i ∨ canW ws i = false) → wrongW ws = some (i + 1) := fun i hi al h => by
      unfold wrongW
      have neg : ∀ j, j < i → ¬ (ws.length ≤ j ∨ canW ws j = false) := fun j hj k => by
        obtain ⟨a, b⟩ := al j hj
        rcases k with k | k
        · omega
        · rw [b] at k
          cases k
      rcases (show i = 0 ∨ i = 1 ∨ i = 2 by omega) with rfl | rfl | rfl
      · rw [if_pos h]
      · rw [if_neg (neg 0 (by omega)), if_pos h]
      · rw [if_neg (neg 0 (by omega)), if_neg (neg 1 (by omega)), if_pos h]
    refine ⟨3, rfl, by decide, by decide, for_it walk_range (fun i σ H' => ∃ v1 : Option V, σ = [some (.ref w), v1] ∧ Same H H' ∧ ∀ j, j < i → j < ws.length ∧ canW ws j = true) ⟨none, rfl, Same.refl H, fun j z => absurd z (Nat.not_lt_zero j)⟩ (fun _ _ _ _ _ => trivial) ?_ ?_⟩
    · rintro i z σ H1 H2 hi ⟨v1, rfl, s1, al⟩ ⟨rfl, rfl⟩
      have hi3 : i < 3 := hi
      have hw1 := s1.seq hw
      have n1 : V.int (0 + (i : Int) + 1) = wN (some (i + 1)) := by
        show V.int _ = V.int _
        congr 1
        push_cast
        omega
      refine ⟨_, rfl, _, rfl, w, _, rfl, .inl hw1, 0 + (i : Int), (ws.length : Int), rfl, by rw [List.length_map], _, rfl, ?_⟩
      by_cases c : ws.length ≤ i
      · refine iteT' (decide_eq_true (by omega)) ?_
        refine ⟨_, rfl, _, 1, rfl, rfl, ?_⟩
        have z := q _ s1
        rw [told i hi3 al (.inl c), ← n1] at z
        exact z
      · refine iteF' (decide_eq_false (by omega)) ?_
        refine ⟨_, rfl, _, rfl, w, ws, i, (by show [V.ref w, V.int (0 + (i : Int))] = [V.ref w, V.int (i : Int)]; rw [Int.zero_add]), ⟨hw1, sz, lz⟩, hi3, by omega, fun H3 s3 => ⟨_, rfl, ?_⟩⟩
        cases e : canW ws i with
        | true =>
          refine iteF' rfl ⟨_, rfl, s1.trans s3, fun j hj => ?_⟩
          by_cases k : j = i
          · rw [k]
            exact ⟨by omega, e⟩
          · exact al j (by omega)
        | false =>
          refine iteT' rfl ?_
          refine ⟨_, rfl, _, 1, rfl, rfl, ?_⟩
          have z := q _ (s1.trans s3)
          rw [told i hi3 al (.inr e), ← n1] at z
          exact z
    · rintro σ H1 ⟨v1, rfl, s1, al⟩
      have z := q _ s1
      have neg : ∀ j, j < 3 → ¬ (ws.length ≤ j ∨ canW ws j = false) := fun j hj k => by
        obtain ⟨a, b⟩ := al j hj
        rcases k with k | k
        · omega
        · rw [b] at k
          cases k
      unfold wrongW at z
      rw [if_neg (neg 0 (by omega)), if_neg (neg 1 (by omega)), if_neg (neg 2 (by omega))] at z
      refine ⟨_, rfl, w, _, rfl, .inl (s1.seq hw), rfl, _, rfl, ?_⟩
      by_cases c : ws.length = 3
      · rw [if_pos c] at z
        refine iteT' (decide_eq_true (by rw [List.length_map, c]; rfl)) z
      · rw [if_neg c] at z
        refine iteF' (decide_eq_false (fun k => c (by
          have k2 := V.int.inj k
          rw [List.length_map] at k2
          omega))) ?_
        exact ⟨3, 1, rfl, rfl, z⟩
theorem scTold : FnScope ["words"] ["words"] (defScope sTold) := ⟨rfl, rfl, rfl, by decide +kernel, rfl, by decide +kernel, by decide +kernel⟩
theorem ok_told (W : Tw K mg) : FnOk P w K mg base CX0 1 W.fT W.dT ["words"] (spTold K) := by
  refine W.T.ok scTold (fun vs H Q E h => ?_) (fun cdv A outer s H vs Q E hr h => ?_)
  · obtain ⟨w, x, rfl, _⟩ := h
    rfl
  · obtain ⟨w, x, rfl, ⟨hw, sx⟩, q⟩ := h
    obtain ⟨h0, h6, hp, g0, g6⟩ := sx
    refine ⟨_, pss_one (ps_ret (pe_tup (pa_cons (pe_callTy call_int_str (by rfl) W.Z.T.int (by decide +kernel) (pa_cons (pe_ix ix_list (pv 0) pe_int (fun _ _ => rfl)) pa_nil)) (pa_cons (pe_ix ix_list (pv 0) pe_int (fun _ _ => rfl)) (pa_cons (pe_callTy call_int_str (by rfl) W.Z.T.int (by decide +kernel) (pa_cons (pe_ix ix_list (pv 0) pe_int (fun _ _ => rfl)) pa_nil)) pa_nil))))), ?_⟩
    obtain ⟨_, d1, d2, _, _⟩ := dig_ok h0 (by omega)
    obtain ⟨_, e1, e2, _, _⟩ := dig_ok g0 (by omega)
    have at1 : ∀ {k : Nat} {y : Str}, (words x)[k]? = some y → atI ((words x).map V.str) (k : Int) = some (.str y) := fun {k y} e => atI_nat (by rw [List.getElem?_map, e]; rfl)
    refine ⟨_, rfl, w, _, 0, .str (dig x.1), rfl, rfl, hw, at1 (k := 0) rfl, _, _, rfl, d1, by omega, ?_⟩
    refine ⟨_, rfl, w, _, 1, .str x.2.1, rfl, rfl, hw, at1 (k := 1) rfl, ?_⟩
    refine ⟨_, rfl, w, _, 2, .str (dig x.2.2), rfl, rfl, hw, at1 (k := 2) rfl, _, _, rfl, e1, by omega, ?_⟩
    exact ⟨(by show 3 ≤ sizeLine; decide), fun p hp => q _ p (same_upd hp) hp upd_same⟩
end
end K45

set_option Elab.async false
set_option linter.all false
set_option maxRecDepth 100000
set_option maxHeartbeats 4000000
/-! The law's own look at a word: _law_is_piece. -/
namespace K45
open PySem L2 L2.EV
abbrev sLP : Stmt := top 34
def spLP : Sp := fun vs H Q _ => ∃ (p : Str), vs = [.str p] ∧ p.length ≤ 6000 ∧ PyData.strOk p = true ∧ ∀ H', Same H H' → Q (.bl (pcS p)) H'
theorem suf_eq {p : Str} {M : List Nat} {y : Nat} (e : sl p = M ++ [y]) : sl (Txt.removesuffix p ";") = if y = 59 then M else M ++ [y] := by
  rw [StrLaws.removesuffix_eq, at_end]
  have ln : p.length = M.length + 1 := by rw [len_sl, e]; simp
  have d : decide (0 + (";" : Str).length ≤ p.length) = true := decide_eq_true (by rw [semi1]; omega)
  rw [d, Bool.true_and, e]
  by_cases h : y = 59
  · subst h
    simp only [List.length_append, List.length_cons, List.length_nil, if_pos]
    rw [if_pos (by simp)]
    show ((sl p).drop 0).take (p.length - (";" : Str).length - 0) = M
    rw [e, semi1, ln]
    simp
  · rw [if_neg h, if_neg (by simp [h])]
    exact e
section
variable {P : Program} {w : World} {K : PySem.W.Frag} {mg : Str → Option Value} {base : Heap}
theorem scLP : FnScope ["word", "body", "sign"] ["word"] (defScope sLP) := ⟨rfl, rfl, rfl, by decide +kernel, rfl, by decide +kernel, by decide +kernel⟩
theorem same_push {H H' : Hp} {D : Addr} {o : HO} (hD : H D = none) (s : Same H H') : Same H (upd H' D o) := fun b x z => by
  rw [upd_ne (ne_of_none z hD)]
  exact s _ _ z
theorem eqv_nilD (ds : List PyData) : PyData.eqv (.list ds) (.list []) = ds.isEmpty := by
  cases ds <;> simp [PyData.eqv, PyData.eqvAll]
theorem da_strs {H : Hp} : ∀ l : List Nat, DaAll H (l.map fun c => V.str ⟨#[c]⟩) (l.map fun c => PyData.str ⟨#[c]⟩)
  | [] => .nil
  | _ :: l => .cons (.str _) (da_strs l)
theorem shaped_strs (l : List Nat) (h : ∀ c ∈ l, c < 0x110000) : SeqAt.shaped (.list (l.map fun c => PyData.str ⟨#[c]⟩)) = true := by
  have all : ∀ l : List Nat, (∀ c ∈ l, c < 0x110000) → PyData.canLayAll0 (l.map fun c => PyData.str ⟨#[c]⟩) = true ∧ PyData.depthAll (l.map fun c => PyData.str ⟨#[c]⟩) = 0 := by
    intro l
    induction l with
    | nil => exact fun _ => ⟨by simp [PyData.canLayAll0], by simp [PyData.depthAll]⟩
    | cons x l ih =>
      intro h
      obtain ⟨a, b⟩ := ih fun c hc => h c (List.mem_cons_of_mem _ hc)
      have so : PyData.strOk ⟨#[x]⟩ = true := by
        unfold PyData.strOk
        rw [← Array.all_toList, List.all_eq_true]
        intro c hc
        have : c = x := by simpa using hc
        rw [this]
        exact decide_eq_true (h x (List.mem_cons_self ..))
      refine ⟨by simp only [List.map_cons, PyData.canLayAll0, PyData.canLay0, a, so, Bool.and_self], ?_⟩
      simp only [List.map_cons, PyData.depthAll, PyData.depth, b]
      omega
  obtain ⟨a, b⟩ := all l h
  show (PyData.canLay0 (.list _) && decide (PyData.depth (.list _) ≤ 64)) = true
  have h1 : PyData.canLay0 (.list (l.map fun c => PyData.str ⟨#[c]⟩)) = true := by
    simp only [PyData.canLay0]
    exact a
  have h2 : PyData.depth (.list (l.map fun c => PyData.str ⟨#[c]⟩)) ≤ 64 := by
    simp only [PyData.depth, b]
    omega
  rw [h1, decide_eq_true h2]
  rfl
theorem all_filt (l : List Nat) : (l.filter fun c => !decide (c ∈ sgs)).isEmpty = l.all (fun c => decide (c ∈ sgs)) := by
  induction l with
  | nil => rfl
  | cons x l ih =>
    rw [List.filter_cons, List.all_cons, ← ih]
    cases decide (x ∈ sgs) <;> rfl
theorem ok_lp {f : Addr} {fd : FuncData} (F : Fun K "_law_is_piece" "_law_is_piece" sLP f fd) (T : TxtF mg) : FnOk P w K mg base CX0 1 f fd ["word"] spLP := by
  refine F.ok scLP (fun vs H Q E h => ?_) (fun cdv A outer s H vs Q E hr h => ?_)
  · obtain ⟨p, rfl, _⟩ := h
    rfl
  · obtain ⟨p, rfl, lp, so, q⟩ := h
    have hu64 := hr.units
    refine ⟨_, pss_cons (ps_if (pt_not (pt_chain op_lt op_lt pe_int (pe_callB call_len_str (by rfl) T.len PySem.boot_len (pa_cons (pv 0) pa_nil)) pe_int)) (pss_one (ps_ret pe_bl)) pss_nil)
      (pss_cons (ps_set (i := 1) scLP.nd rfl (Or.inl rfl) (pe_ifExp (pt_cmpR op_eq (pe_ix ix_str (pv 0) (pe_un un_neg pe_int) (fun _ _ => rfl)) pe_str (nomark _)) (pe_slice sl_str (pv 0) po_none (po_some (pe_un un_neg pe_int))) (pv 0)))
      (pss_one (ps_ret (pe_cmpR (op_eqD hu64) (pe_lc (own := [("sign", 2)]) (g := gName 2) (te := tVar 2) rfl scLP.nd (pi_str (pv 1))
        (blkOk_by (N := ["word", "body", "sign"]) (sc := defScope sLP) (by decide +kernel))
        (fun _ _ _ _ _ => pg_name (i := 2) scLP.nd rfl (Or.inl rfl)) (fun _ _ _ _ _ => pts_one (pt_cmpR op_notIn_sign (pv 2) pe_str (by rfl))) (fun _ _ _ _ _ => pv 2)) (pe_lst pa_nil) (nomark _))))), ?_⟩
    refine ⟨_, rfl, p, rfl, by rw [sizeLine_eq]; omega, 0, p.length, rfl, rfl, _, rfl, ?_⟩
    have bad : ¬ (1 ≤ p.length ∧ p.length ≤ 8) → pcS p = false := fun h => by
      unfold pcS
      by_cases a : 1 ≤ p.length
      · have b : ¬ p.length ≤ 8 := fun b => h ⟨a, b⟩
        rw [decide_eq_false b, Bool.and_false, Bool.false_and]
      · rw [decide_eq_false a, Bool.false_and, Bool.false_and]
    have q0 := q H (Same.refl H)
    by_cases a : 1 ≤ p.length
    · refine iteT' (decide_eq_true (by omega)) ⟨p.length, 9, rfl, rfl, _, rfl, ?_⟩
      by_cases b : p.length ≤ 8
      · refine iteF' (by rw [decide_eq_true (by omega)]; rfl) ?_
        have ne : sl p ≠ [] := fun z => by
          rw [len_sl, z] at a
          exact absurd a (by decide)
        obtain ⟨M, y, e⟩ := SrtO.snoc_of (l := sl p) (List.length_pos_iff.mpr ne)
        have se := suf_eq e
        have ln : p.length = M.length + 1 := by rw [len_sl, e]; simp
        have ai : atI p.cps.toList (-1) = some y := by
          show atI (sl p) (-1) = some y
          have ix : ixN (M ++ [y]).length (-1) = some M.length := by
            have l : (M ++ [y]).length = M.length + 1 := by simp
            rw [l]
            unfold ixN
            rw [if_neg (by decide), if_pos (by omega)]
            congr 1
            omega
          rw [e]
          unfold atI
          rw [ix]
          simp
        refine ⟨_, rfl, 1, rfl, p, -1, y, rfl, rfl, by rw [sizeLine_eq]; omega, ai, rfl, _, rfl, ?_⟩
        have sgE : (V.str ⟨#[y]⟩ = V.str ";") ↔ y = 59 := by
          have e1 : (";" : Str) = ⟨#[59]⟩ := by decide +kernel
          rw [e1]
          constructor
          · intro h
            have h2 := congrArg sl (V.str.inj h)
            simpa using h2
          · intro h
            rw [h]
        have val : ∀ bd : Str, sl bd = sl (Txt.removesuffix p ";") → pcS p = (sl bd).all (fun c => decide (c ∈ sgs)) := fun bd h => by
          unfold pcS
          rw [decide_eq_true a, decide_eq_true b, h]
          rfl
        have sub : ∀ c ∈ sl (Txt.removesuffix p ";"), c < 0x110000 := fun c hc => by
          have hs := so
          unfold PyData.strOk at hs
          rw [← Array.all_toList, List.all_eq_true] at hs
          refine of_decide_eq_true (hs c ?_)
          show c ∈ sl p
          rw [e]
          rw [se] at hc
          split at hc
          · exact List.mem_append_left _ hc
          · exact hc
        by_cases hy : y = 59
        · refine iteT' (decide_eq_true (sgE.mpr hy)) ?_
          have hb : sl (cutS p none (some (-1))) = sl (Txt.removesuffix p ";") := by
            rw [se, if_pos hy]
            unfold cutS
            show ((sl p).drop _).take _ = M
            have i1 : HT.sIx p.length 0 none = 0 := rfl
            have i2 : HT.sIx p.length p.length (some (-1)) = M.length := by
              show (if (-1 : Int) < 0 then ((-1 : Int) + (p.length : Int)).toNat else min (-1 : Int).toNat p.length) = M.length
              rw [if_pos (by decide), ln]
              omega
            rw [i1, i2, e]
            simp
          have lb : (cutS p none (some (-1))).length ≤ 6000 := by
            rw [len_sl, hb, se, if_pos hy]
            omega
          refine ⟨_, rfl, 1, rfl, -1, rfl, p, rfl, by rw [sizeLine_eq]; omega, ?_⟩
          generalize cutS p none (some (-1)) = bd at hb lb ⊢
          have vp := val bd hb
          refine ⟨_, rfl, _, rfl, fun D hD => ?_⟩
          refine lc_it walk_str (fun i H' => H' D = some (.lst ((((sl bd).take i).filter fun c => !decide (c ∈ sgs)).map fun c => V.str ⟨#[c]⟩)) ∧ Same H H') ⟨upd_same, same_upd hD⟩ (fun _ _ _ _ => trivial) ?_ ?_
          · rintro i x H1 H2 hi ⟨hl, kp⟩ ⟨rfl, c, hc, rfl⟩
            have hc : (sl bd)[i]? = some c := by simpa using hc
            refine ⟨rfl, _, rfl, c, _, rfl, rfl, _, rfl, ?_⟩
            have tk : ((sl bd).take (i + 1)) = ((sl bd).take i) ++ [c] := take_one hc
            rw [tk, List.filter_append]
            by_cases m : c ∈ sgs
            · refine iteF' (by show (!decide (c ∈ sgs)) = false; rw [decide_eq_true m]; rfl) ⟨?_, kp⟩
              rw [show [c].filter (fun c => !decide (c ∈ sgs)) = [] by simp [m], List.append_nil]
              exact hl
            · refine iteT' (by show (!decide (c ∈ sgs)) = true; rw [decide_eq_false m]; rfl) ⟨_, rfl, _, hl, ?_, ?_, same_push hD kp⟩
              · have f1 := List.length_filter_le (fun c => !decide (c ∈ sgs)) ((sl bd).take i)
                rw [List.length_take] at f1
                rw [List.length_map, sizeLine_eq]
                have : (sl bd).length ≤ 6000 := by rw [← len_sl]; exact lb
                omega
              · rw [show [c].filter (fun c => !decide (c ∈ sgs)) = [c] by simp [m], List.map_append]
                exact upd_same
          · rintro H1 ⟨hl, kp⟩
            have tl : (sl bd).take (bd).cps.size = sl bd := List.take_of_length_le (by show _ ≤ (bd).length; rw [len_sl]; exact Nat.le_refl _)
            rw [tl] at hl
            refine ⟨(by decide), fun p9 h9 => ?_⟩
            have u9 := same_upd (o := HO.lst []) h9
            have ok : ∀ c ∈ (sl bd).filter (fun c => !decide (c ∈ sgs)), c < 0x110000 := fun c hc => sub c (by rw [← hb]; exact (List.mem_filter.mp hc).1)
            refine ⟨.list (((sl bd).filter fun c => !decide (c ∈ sgs)).map fun c => .str ⟨#[c]⟩), .list [], Da.dp _ _ (.lst (u9 _ _ hl) (da_strs _)), Da.dp _ _ (.lst upd_same .nil), shaped_strs _ ok, (by decide +kernel), ?_⟩
            have z := q _ (kp.trans u9)
            rw [vp, ← all_filt] at z
            rw [eqv_nilD, List.isEmpty_map]
            exact z
        · refine iteF' (decide_eq_false (fun h => hy (sgE.mp h))) ⟨_, rfl, ?_⟩
          have hb : sl p = sl (Txt.removesuffix p ";") := by rw [se, if_neg hy, e]
          have lb : p.length ≤ 6000 := lp
          have vp := val p hb
          refine ⟨_, rfl, _, rfl, fun D hD => ?_⟩
          refine lc_it walk_str (fun i H' => H' D = some (.lst ((((sl p).take i).filter fun c => !decide (c ∈ sgs)).map fun c => V.str ⟨#[c]⟩)) ∧ Same H H') ⟨upd_same, same_upd hD⟩ (fun _ _ _ _ => trivial) ?_ ?_
          · rintro i x H1 H2 hi ⟨hl, kp⟩ ⟨rfl, c, hc, rfl⟩
            have hc : (sl p)[i]? = some c := by simpa using hc
            refine ⟨rfl, _, rfl, c, _, rfl, rfl, _, rfl, ?_⟩
            have tk : ((sl p).take (i + 1)) = ((sl p).take i) ++ [c] := take_one hc
            rw [tk, List.filter_append]
            by_cases m : c ∈ sgs
            · refine iteF' (by show (!decide (c ∈ sgs)) = false; rw [decide_eq_true m]; rfl) ⟨?_, kp⟩
              rw [show [c].filter (fun c => !decide (c ∈ sgs)) = [] by simp [m], List.append_nil]
              exact hl
            · refine iteT' (by show (!decide (c ∈ sgs)) = true; rw [decide_eq_false m]; rfl) ⟨_, rfl, _, hl, ?_, ?_, same_push hD kp⟩
              · have f1 := List.length_filter_le (fun c => !decide (c ∈ sgs)) ((sl p).take i)
                rw [List.length_take] at f1
                rw [List.length_map, sizeLine_eq]
                have : (sl p).length ≤ 6000 := by rw [← len_sl]; exact lb
                omega
              · rw [show [c].filter (fun c => !decide (c ∈ sgs)) = [c] by simp [m], List.map_append]
                exact upd_same
          · rintro H1 ⟨hl, kp⟩
            have tl : (sl p).take (p).cps.size = sl p := List.take_of_length_le (by show _ ≤ (p).length; rw [len_sl]; exact Nat.le_refl _)
            rw [tl] at hl
            refine ⟨(by decide), fun p9 h9 => ?_⟩
            have u9 := same_upd (o := HO.lst []) h9
            have ok : ∀ c ∈ (sl p).filter (fun c => !decide (c ∈ sgs)), c < 0x110000 := fun c hc => sub c (by rw [← hb]; exact (List.mem_filter.mp hc).1)
            refine ⟨.list (((sl p).filter fun c => !decide (c ∈ sgs)).map fun c => .str ⟨#[c]⟩), .list [], Da.dp _ _ (.lst (u9 _ _ hl) (da_strs _)), Da.dp _ _ (.lst upd_same .nil), shaped_strs _ ok, (by decide +kernel), ?_⟩
            have z := q _ (kp.trans u9)
            rw [vp, ← all_filt] at z
            rw [eqv_nilD, List.isEmpty_map]
            exact z
      · refine iteT' (by rw [decide_eq_false (by omega)]; rfl) ?_
        rw [bad (fun k => b k.2)] at q0
        exact q0
    · refine iteF' (decide_eq_false (by omega)) ?_
      rw [bad (fun k => a k.1)] at q0
      exact ⟨_, rfl, iteT' rfl q0⟩
end
end K45

set_option Elab.async false
set_option linter.all false
set_option maxRecDepth 100000
set_option maxHeartbeats 4000000
/-! The law's own look at a line's words: _law_line_word. -/
namespace K45
open PySem L2 L2.EV
abbrev sLW : Stmt := top 35
def wI : Option Nat → Int
  | none => 0
  | some n => n
def spLW (K : PySem.W.Frag) : Sp := fun vs H Q _ => ∃ (w : Addr) (ws : List Str), vs = [.ref w] ∧ WsA K H w ws ∧ (∀ s ∈ ws, PyData.strOk s = true) ∧ ws ≠ [] ∧ ∀ H', Same H H' → Q (.int (wI (wrongW ws))) H'
structure Lp (K : PySem.W.Frag) (mg : Str → Option Value) where
  T : TxtF mg
  f1 : Addr
  f2 : Addr
  d1 : FuncData
  d2 : FuncData
  P : Fun K "_law_is_piece" "_law_is_piece" sLP f1 d1
  L : Fun K "_law_line_word" "_law_line_word" sLW f2 d2
  b1 : Binds K d1 ["word"] []
  b2 : Binds K d2 ["words"] []
  m1 : mg "_law_is_piece" = some (.ref f1)
  m2 : mg "_law_line_word" = some (.ref f2)
theorem ends_last {p : Str} {M : List Nat} {y : Nat} (e : sl p = M ++ [y]) : Txt.endswith p ";" = decide (y = 59) := by
  show (decide (0 + (";" : Str).length ≤ p.length) && Builtin.Str.subAt p ";" (p.length - (";" : Str).length)) = _
  have ln : p.length = M.length + 1 := by rw [len_sl, e]; simp
  have d : decide (0 + (";" : Str).length ≤ p.length) = true := decide_eq_true (by rw [semi1]; omega)
  rw [at_end, d, Bool.true_and, e]
  by_cases h : y = 59
  · subst h
    simp
  · rw [decide_eq_false h]
    simp [h]
theorem pcS_len {p : Str} (h : pcS p = true) : 1 ≤ p.length ∧ p.length ≤ 8 := by
  unfold pcS at h
  rw [Bool.and_eq_true, Bool.and_eq_true] at h
  exact ⟨of_decide_eq_true h.1.1, of_decide_eq_true h.1.2⟩
section
variable {P : Program} {w : World} {K : PySem.W.Frag} {mg : Str → Option Value} {base : Heap}
theorem scLW : FnScope ["words"] ["words"] (defScope sLW) := ⟨rfl, rfl, rfl, by decide +kernel, rfl, by decide +kernel, by decide +kernel⟩
theorem ok_lw (L : Lp K mg) : FnOk P w K mg base CX0 2 L.f2 L.d2 ["words"] (spLW K) := by
  have GP : FnOk P w K mg base CX0 1 L.f1 L.d1 ["word"] spLP := ok_lp L.P L.T
  have T := L.T
  refine L.L.ok scLW (fun vs H Q E h => ?_) (fun cdv A outer s H vs Q E hr h => ?_)
  · obtain ⟨w, ws, rfl, _⟩ := h
    rfl
  · obtain ⟨w, ws, rfl, ⟨hw, sz, lz⟩, so, ne, q⟩ := h
    refine ⟨_, pss_cons (ps_if (pt_cmpR op_notIn_seq (pe_ix ix_list (pv 0) pe_int (fun _ _ => rfl)) (pe_lst (pa_cons pe_str (pa_cons pe_str (pa_cons pe_str (pa_cons pe_str (pa_cons pe_str (pa_cons pe_str pa_nil))))))) (by rfl)) (pss_one (ps_ret pe_int)) pss_nil)
      (pss_cons (ps_if (pw_or (pt_cmpR op_lt (pe_callB call_len_seq (by rfl) T.len PySem.boot_len (pa_cons (pv 0) pa_nil)) pe_int (nomark _)) (pw_or1 (pt_not (pt_val (pe_call GP hr (by rfl) L.m1 L.P.kp L.b1 .nil pass0 (pa_cons (pe_ix ix_list (pv 0) pe_int (fun _ _ => rfl)) pa_nil)))))).pt (pss_one (ps_ret pe_int)) pss_nil)
      (pss_cons (ps_if (pw_or (pt_cmpR op_lt (pe_callB call_len_seq (by rfl) T.len PySem.boot_len (pa_cons (pv 0) pa_nil)) pe_int (nomark _)) (pw_or1 (pt_cmpR op_notIn_seq (pe_ix ix_list (pv 0) pe_int (fun _ _ => rfl)) (pe_lst (pa_cons pe_str (pa_cons pe_str (pa_cons pe_str (pa_cons pe_str (pa_cons pe_str (pa_cons pe_str pa_nil))))))) (by rfl)))).pt (pss_one (ps_ret pe_int)) pss_nil)
      (pss_cons (ps_if (pt_cmpR op_ne (pe_cmpR op_eq (pe_ix ix_list (pv 0) pe_int (fun _ _ => rfl)) pe_str (nomark _)) (pe_cmpR op_eq (pe_ix ix_str (pe_ix ix_list (pv 0) pe_int (fun _ _ => rfl)) (pe_un un_neg pe_int) (fun _ _ => rfl)) pe_str (nomark _)) (nomark _)) (pss_one (ps_ret pe_int)) pss_nil)
      (pss_one (ps_ret (pe_ifExp (pt_cmpR op_gt (pe_callB call_len_seq (by rfl) T.len PySem.boot_len (pa_cons (pv 0) pa_nil)) pe_int (nomark _)) pe_int pe_int)))))), ?_⟩
    have at1 : ∀ {k : Nat}, k < ws.length → atI (ws.map V.str) (k : Int) = some (.str (ws.getD k "")) := fun {k} e => atI_nat (by rw [List.getElem?_map, List.getElem?_eq_getElem e, List.getD_eq_getElem?_getD, List.getElem?_eq_getElem e]; rfl)
    have l0 : 0 < ws.length := List.length_pos_iff.mpr ne
    have mem : ∀ {k : Nat}, k < ws.length → ws.getD k "" ∈ ws := fun {k} e => by
      rw [List.getD_eq_getElem?_getD, List.getElem?_eq_getElem e]
      exact List.getElem_mem e
    refine ⟨_, rfl, w, _, 0, .str (ws.getD 0 ""), rfl, rfl, hw, at1 (k := 0) l0, (by show 6 ≤ sizeLine; decide), fun p1 h1 => ⟨p1, words6, rfl, .inl (SqL.of upd_same), rfl, rfl, _, rfl, ?_⟩⟩
    have s1 := same_upd (o := HO.lst words6) h1
    cases e0 : in6S (ws.getD 0 "") with
    | false =>
      refine iteT' (by unfold in6S at e0; rw [e0]; rfl) ?_
      have z := q _ s1
      have v : wrongW ws = some 1 := if_pos (.inr e0)
      rw [v] at z
      exact z
    | true =>
      refine iteF' (by unfold in6S at e0; rw [e0]; rfl) ?_
      have n0 : ¬ (ws.length ≤ 0 ∨ canW ws 0 = false) := fun k => by
        rcases k with k | k
        · omega
        · rw [show canW ws 0 = in6S (ws.getD 0 "") from rfl, e0] at k
          cases k
      have hw1 := s1.seq hw
      refine ⟨_, rfl, w, _, rfl, .inl hw1, _, 2, rfl, rfl, _, rfl, ?_⟩
      by_cases c1 : ws.length ≤ 1
      · refine iteT' (decide_eq_true (by rw [List.length_map]; omega)) ?_
        have z := q _ s1
        have v : wrongW ws = some 2 := by
          unfold wrongW
          rw [if_neg n0, if_pos (.inl c1)]
        rw [v] at z
        exact z
      refine iteF' (decide_eq_false (by rw [List.length_map]; omega)) ?_
      refine ⟨_, rfl, w, _, 1, .str (ws.getD 1 ""), rfl, rfl, hw1, at1 (k := 1) (by omega), ws.getD 1 "", rfl, sz _ (mem (by omega)), so _ (mem (by omega)), fun H2 s2 => ⟨_, rfl, ?_⟩⟩
      have s12 := s1.trans s2
      cases e1 : pcS (ws.getD 1 "") with
      | false =>
        refine iteT' rfl ?_
        have z := q _ s12
        have v : wrongW ws = some 2 := by
          unfold wrongW
          rw [if_neg n0, if_pos (.inr e1)]
        rw [v] at z
        exact z
      | true =>
        refine iteF' rfl ?_
        have n1 : ¬ (ws.length ≤ 1 ∨ canW ws 1 = false) := fun k => by
          rcases k with k | k
          · exact c1 k
          · rw [show canW ws 1 = pcS (ws.getD 1 "") from rfl, e1] at k
            cases k
        have hw2 := s12.seq hw
        refine ⟨_, rfl, w, _, rfl, .inl hw2, _, 3, rfl, rfl, _, rfl, ?_⟩
        by_cases c2 : ws.length ≤ 2
        · refine iteT' (decide_eq_true (by rw [List.length_map]; omega)) ?_
          have z := q _ s12
          have v : wrongW ws = some 3 := by
            unfold wrongW
            rw [if_neg n0, if_neg n1, if_pos (.inl c2)]
          rw [v] at z
          exact z
        refine iteF' (decide_eq_false (by rw [List.length_map]; omega)) ?_
        refine ⟨_, rfl, w, _, 2, .str (ws.getD 2 ""), rfl, rfl, hw2, at1 (k := 2) (by omega), (by show 6 ≤ sizeLine; decide), fun p3 h3 => ⟨p3, words6, rfl, .inl (SqL.of upd_same), rfl, rfl, _, rfl, ?_⟩⟩
        have s3 := s12.trans (same_upd (o := HO.lst words6) h3)
        have c2v : canW ws 2 = (in6S (ws.getD 2 "") && (decide (ws.getD 2 "" = "0") == Txt.endswith (ws.getD 1 "") ";")) := rfl
        cases e2 : in6S (ws.getD 2 "") with
        | false =>
          refine iteT' (by unfold in6S at e2; rw [e2]; rfl) ?_
          have z := q _ s3
          have v : wrongW ws = some 3 := by
            unfold wrongW
            rw [if_neg n0, if_neg n1, if_pos (.inr (by rw [c2v, e2]; rfl))]
          rw [v] at z
          exact z
        | true =>
          refine iteF' (by unfold in6S at e2; rw [e2]; rfl) ?_
          have hw3 := s3.seq hw
          obtain ⟨a1, b1⟩ := pcS_len e1
          have nel : sl (ws.getD 1 "") ≠ [] := fun z => by
            rw [len_sl, z] at a1
            exact absurd a1 (by decide)
          obtain ⟨M, y, e⟩ := SrtO.snoc_of (l := sl (ws.getD 1 "")) (List.length_pos_iff.mpr nel)
          have ends := ends_last e
          have ai : atI (ws.getD 1 "").cps.toList (-1) = some y := by
            show atI (sl (ws.getD 1 "")) (-1) = some y
            have ix : ixN (M ++ [y]).length (-1) = some M.length := by
              have l : (M ++ [y]).length = M.length + 1 := by simp
              rw [l]
              unfold ixN
              rw [if_neg (by decide), if_pos (by omega)]
              congr 1
              omega
            rw [e]
            unfold atI
            rw [ix]
            simp
          refine ⟨_, rfl, w, _, 2, .str (ws.getD 2 ""), rfl, rfl, hw3, at1 (k := 2) (by omega), rfl, _, rfl, w, _, 1, .str (ws.getD 1 ""), rfl, rfl, hw3, at1 (k := 1) (by omega), 1, rfl, ws.getD 1 "", -1, y, rfl, rfl, by rw [sizeLine_eq]; omega, ai, rfl, rfl, _, rfl, ?_⟩
          have sgE : decide (V.str ⟨#[y]⟩ = V.str ";") = decide (y = 59) := by
            have e1 : (";" : Str) = ⟨#[59]⟩ := by decide +kernel
            rw [e1]
            by_cases h : y = 59
            · rw [h, decide_eq_true rfl, decide_eq_true rfl]
            · rw [decide_eq_false h, decide_eq_false (fun k => h (by
                have h2 := congrArg sl (V.str.inj k)
                simpa using h2))]
          have e1' : decide (V.str (ws.getD 2 "") = V.str "0") = decide (ws.getD 2 "" = "0") := by
            by_cases z : ws.getD 2 "" = "0"
            · rw [decide_eq_true z, decide_eq_true (congrArg V.str z)]
            · rw [decide_eq_false z, decide_eq_false (fun k => z (V.str.inj k))]
          have e2' : ∀ a b : Bool, decide (V.bl a = V.bl b) = (a == b) := fun a b => by cases a <;> cases b <;> simp
          have cond : (!decide (V.bl (decide (V.str (ws.getD 2 "") = V.str "0")) = V.bl (decide (V.str ⟨#[y]⟩ = V.str ";")))) = !(decide (ws.getD 2 "" = "0") == Txt.endswith (ws.getD 1 "") ";") := by
            rw [e2', e1', sgE, ends]
          cases ev : (decide (ws.getD 2 "" = "0") == Txt.endswith (ws.getD 1 "") ";") with
          | false =>
            refine iteT' (by rw [cond, ev]; rfl) ?_
            have z := q _ s3
            have v : wrongW ws = some 3 := by
              unfold wrongW
              rw [if_neg n0, if_neg n1, if_pos (.inr (by rw [c2v, e2, ev]; rfl))]
            rw [v] at z
            exact z
          | true =>
            refine iteF' (by rw [cond, ev]; rfl) ?_
            have n2 : ¬ (ws.length ≤ 2 ∨ canW ws 2 = false) := fun k => by
              rcases k with k | k
              · exact c2 k
              · rw [c2v, e2, ev] at k
                cases k
            have z := q _ s3
            unfold wrongW at z
            rw [if_neg n0, if_neg n1, if_neg n2] at z
            refine ⟨_, rfl, w, _, rfl, .inl hw3, _, 3, rfl, rfl, _, rfl, ?_⟩
            by_cases c3 : ws.length = 3
            · rw [if_pos c3] at z
              refine iteF' (decide_eq_false (by rw [List.length_map]; omega)) z
            · rw [if_neg c3] at z
              exact iteT' (decide_eq_true (by rw [List.length_map]; omega)) z
end
end K45

set_option Elab.async false
set_option linter.all false
set_option maxRecDepth 100000
set_option maxHeartbeats 4000000
/-! BadText. -/
namespace K45
open PySem L2 L2.EV
def spTwo (C : Addr) (f g : Str) : Sp := fun vs H Q _ => ∃ (a : Addr) (x y : V), vs = [.ref a, x, y] ∧ H a = some (exo a C none) ∧
  ∀ dx, H dx = none → dx ≠ a → Q .non (upd (upd (upd H dx (exd dx [(f, x)])) a (exo a C (some dx))) dx (exd dx [(g, y), (f, x)]))
section
variable {P : Program} {w : World} {K : PySem.W.Frag} {mg : Str → Option Value} {base : Heap}
abbrev sBadText : Stmt := inClass (top 5) 0
theorem scBadText : FnScope ["self", "line", "word"] ["self", "line", "word"] (defScope sBadText) := ⟨rfl, rfl, rfl, by decide +kernel, rfl, by decide +kernel, by decide +kernel⟩
theorem ok_BadText {f C : Addr} {fd : FuncData} (F : Fun K "__init__" "BadText.__init__" sBadText f fd) (T : OxC K C "ValueError" "ValueError.__new__" "ValueError.__init__" [.type "ValueError", .type "Exception", .type "BaseException", .type "object"]) (I : BI K mg "ValueError" "ValueError" "ValueError.__init__")
    (n0 : PySem.W.findIn K (.ref C) "line" = some none) (n1 : PySem.W.findIn K (.ref C) "word" = some none) : FnOk P w K mg base CX0 1 f fd ["self", "line", "word"] (spTwo C "line" "word") := by
  refine F.ok scBadText (fun vs H Q E h => ?_) (fun cdv A outer s H vs Q E hr h => ?_)
  · obtain ⟨a, x, y, rfl, _⟩ := h
    rfl
  · obtain ⟨a, x, y, rfl, e, q⟩ := h
    refine ⟨_, pss_cons (ps_expr (pe_bin (newId := "ValueError.__new__") (bm := [.type "ValueError", .type "Exception", .type "BaseException", .type "object"]) (by rfl) I.mg I.bt I.ty I.vV I.st (pa_cons (pv 0) (pa_cons pe_str pa_nil)) rfl)) (pss_cons (ps_put (B := "ValueError") (newId := "ValueError.__new__") (initId := "ValueError.__init__") (bm := [.type "ValueError", .type "Exception", .type "BaseException", .type "object"]) (pv 0) (pv 1) rfl) (pss_one (ps_put (B := "ValueError") (newId := "ValueError.__new__") (initId := "ValueError.__init__") (bm := [.type "ValueError", .type "Exception", .type "BaseException", .type "object"]) (pv 0) (pv 2) rfl))), ?_⟩
    exact ⟨_, rfl, a, C, _, rfl, by decide, T, e, _, rfl, _, rfl, a, C, rfl, T, n0, .inl ⟨e, fun dx hn ne => ⟨_, rfl, _, rfl, a, C, rfl, T, n1, .inr ⟨dx, _, upd_same, by rw [upd_ne ne]; exact upd_same, by show 1 ≤ 900; decide, q dx hn ne⟩⟩⟩⟩
end
/-- what is known of BadText -/
structure Btx (K : PySem.W.Frag) (mg : Str → Option Value) where
  C : Addr
  f : Addr
  d : FuncData
  T : OxC K C "ValueError" "ValueError.__new__" "ValueError.__init__" bmVE
  I : BI K mg "ValueError" "ValueError" "ValueError.__init__"
  F : Fun K "__init__" "BadText.__init__" sBadText f d
  b : Binds K d ["self", "line", "word"] []
  m : mg "BadText" = some (.ref C)
  iC : PySem.W.findIn K (.ref C) "__init__" = some (some (.ref f))
  tI : PySem.W.typeIn K (.ref f) = some (.type "function")
  n0 : PySem.W.findIn K (.ref C) "line" = some none
  n1 : PySem.W.findIn K (.ref C) "word" = some none
  su : PySem.W.subIn K (.ref C) (.type "BaseException") = some true
  ty : PySem.W.typeIn K (.ref C) = some (.type "type")
  own : PySem.W.subIn K (.ref C) (.ref C) = some true
theorem bad_heap {H : Hp} {C a dx : Addr} {x y : V} (na : H a = none) (hn : upd H a (exo a C none) dx = none) (ne : dx ≠ a) :
    (upd (upd (upd (upd H a (exo a C none)) dx (exd dx [("line", x)])) a (exo a C (some dx))) dx (exd dx [("word", y), ("line", x)])) a = some (exo a C (some dx)) ∧
    Same H (upd (delH (upd (upd (upd (upd H a (exo a C none)) dx (exd dx [("line", x)])) a (exo a C (some dx))) dx (exd dx [("word", y), ("line", x)])) a) dx (.xd [("word", y), ("line", x)])) := by
  have hd : H dx = none := by
    rw [upd_ne ne] at hn
    exact hn
  refine ⟨?_, fun b o e => ?_⟩
  · rw [upd_ne ne.symm]
    exact upd_same
  · have h1 := ne_of_none e na
    have h2 := ne_of_none e hd
    rw [upd_ne h2, delH_ne h1, upd_ne h2, upd_ne h1, upd_ne h2, upd_ne h1]
    exact e
/-- the error is told with these fields -/
def Eb (C : Addr) (E : XK) (H : Hp) (x y : V) : Prop := ∀ (H' : Hp) (dx : Addr), Same H H' → H' dx = some (.xd [("word", y), ("line", x)]) → E (.ref C) (some dx) H'
theorem Eb.same {C : Addr} {E : XK} {H H' : Hp} {x y : V} (h : Eb C E H x y) (s : Same H H') : Eb C E H' x y := fun H2 dx s2 e => h H2 dx (s.trans s2) e
end K45

set_option Elab.async false
set_option linter.all false
set_option maxRecDepth 100000
set_option maxHeartbeats 4000000
/-! Words that are right ones are a step's. -/
namespace K45
open PySem L2 L2.EV
theorem in6_dig {s : Str} (h : in6S s = true) : ∃ i : Int, 0 ≤ i ∧ i < 6 ∧ s = dig i := by
  have cs : s = "0" ∨ s = "1" ∨ s = "2" ∨ s = "3" ∨ s = "4" ∨ s = "5" := by
    have h : inV (.str s) words6 = true := h
    simp [inV, words6, eqV] at h
    rcases h with h | h | h | h | h | h
    · exact .inl h.symm
    · exact .inr (.inl h.symm)
    · exact .inr (.inr (.inl h.symm))
    · exact .inr (.inr (.inr (.inl h.symm)))
    · exact .inr (.inr (.inr (.inr (.inl h.symm))))
    · exact .inr (.inr (.inr (.inr (.inr h.symm))))
  rcases cs with rfl | rfl | rfl | rfl | rfl | rfl
  · exact ⟨0, by decide, by decide, by decide +kernel⟩
  · exact ⟨1, by decide, by decide, by decide +kernel⟩
  · exact ⟨2, by decide, by decide, by decide +kernel⟩
  · exact ⟨3, by decide, by decide, by decide +kernel⟩
  · exact ⟨4, by decide, by decide, by decide +kernel⟩
  · exact ⟨5, by decide, by decide, by decide +kernel⟩
theorem dig_zero {i : Int} (h0 : 0 ≤ i) (h1 : i < 6) : decide (dig i = "0") = decide (i = 0) := by
  obtain ⟨n, rfl⟩ := Int.eq_ofNat_of_zero_le h0
  have : n = 0 ∨ n = 1 ∨ n = 2 ∨ n = 3 ∨ n = 4 ∨ n = 5 := by omega
  rcases this with rfl | rfl | rfl | rfl | rfl | rfl <;> decide +kernel
theorem pc_of {p : Str} (h : pcS p = true) : Pc p (Txt.endswith p ";") := by
  obtain ⟨a, b⟩ := pcS_len h
  have ne : sl p ≠ [] := fun z => by
    rw [len_sl, z] at a
    exact absurd a (by decide)
  obtain ⟨M, y, e⟩ := SrtO.snoc_of (l := sl p) (List.length_pos_iff.mpr ne)
  have se := suf_eq e
  have ln : p.length = M.length + 1 := by rw [len_sl, e]; simp
  have al : ∀ c ∈ sl (Txt.removesuffix p ";"), c ∈ sgs := by
    unfold pcS at h
    rw [Bool.and_eq_true] at h
    exact fun c hc => of_decide_eq_true (List.all_eq_true.mp h.2 c hc)
  rw [ends_last e]
  rw [se] at al
  by_cases hy : y = 59
  · rw [if_pos hy] at al
    refine ⟨M, by rw [decide_eq_true hy, if_pos rfl, e, hy], by rw [decide_eq_true hy, if_pos rfl]; omega, al, fun z => ?_⟩
    rw [decide_eq_true hy] at z
    cases z
  · rw [if_neg hy] at al
    refine ⟨M ++ [y], by rw [decide_eq_false hy, if_neg (by simp), List.append_nil, e], by rw [decide_eq_false hy, if_neg (by simp), List.length_append]; simp only [List.length_cons, List.length_nil]; omega, al, fun _ z => by simp at z⟩
/-- words without a wrong one are those of a step -/
theorem right_words {ws : List Str} (h : wrongW ws = none) : ∃ x : T3, ws = words x ∧ Stp x := by
  unfold wrongW at h
  by_cases n0 : ws.length ≤ 0 ∨ canW ws 0 = false
  · rw [if_pos n0] at h
    cases h
  rw [if_neg n0] at h
  by_cases n1 : ws.length ≤ 1 ∨ canW ws 1 = false
  · rw [if_pos n1] at h
    cases h
  rw [if_neg n1] at h
  by_cases n2 : ws.length ≤ 2 ∨ canW ws 2 = false
  · rw [if_pos n2] at h
    cases h
  rw [if_neg n2] at h
  by_cases c3 : ws.length = 3
  · have t0 : canW ws 0 = true := by
      cases e : canW ws 0 with
      | true => rfl
      | false => exact absurd (.inr e) n0
    have t1 : canW ws 1 = true := by
      cases e : canW ws 1 with
      | true => rfl
      | false => exact absurd (.inr e) n1
    have t2 : canW ws 2 = true := by
      cases e : canW ws 2 with
      | true => rfl
      | false => exact absurd (.inr e) n2
    match ws, c3, t0, t1, t2 with
    | [a, b, c], _, t0, t1, t2 =>
      have t0 : in6S a = true := t0
      have t1 : pcS b = true := t1
      have t2 : (in6S c && (decide (c = "0") == Txt.endswith b ";")) = true := t2
      obtain ⟨t21, t22⟩ := (Bool.and_eq_true _ _).mp t2
      obtain ⟨i, i0, i1, rfl⟩ := in6_dig t0
      obtain ⟨j, j0, j1, rfl⟩ := in6_dig t21
      have e := eq_of_beq t22
      rw [dig_zero j0 j1] at e
      have pc : Pc b (Txt.endswith b ";") := pc_of t1
      rw [← e] at pc
      exact ⟨(i, b, j), rfl, i0, i1, pc, j0, j1⟩
  · rw [if_neg c3] at h
    cases h
end K45

set_option Elab.async false
set_option linter.all false
set_option maxRecDepth 100000
set_option maxHeartbeats 4000000
/-! read_steps of any text. -/
namespace K45
open PySem L2 L2.EV
abbrev sRS : Stmt := top 24
def rowsF (t : Str) : List (List Str) := (Txt.split t "\n").map fun l => Txt.split l " "
/-- the first row with a wrong word, and the word -/
def firstW : List (List Str) → Nat → Option (Nat × Nat)
  | [], _ => none
  | ws :: r, i => match wrongW ws with
    | some n => some (i, n)
    | none => firstW r (i + 1)
theorem firstW_some {ws : List Str} {r : List (List Str)} {i n : Nat} (h : wrongW ws = some n) : firstW (ws :: r) i = some (i, n) := by
  rw [firstW, h]
theorem firstW_none {ws : List Str} {r : List (List Str)} {i : Nat} (h : wrongW ws = none) : firstW (ws :: r) i = firstW r (i + 1) := by
  rw [firstW, h]
theorem sum_mem {l : List Nat} {x : Nat} (h : x ∈ l) : x ≤ l.sum := by
  induction l with
  | nil => cases h
  | cons y l ih =>
    rw [List.sum_cons]
    rcases List.mem_cons.mp h with rfl | h
    · omega
    · have := ih h
      omega
theorem split_len {t s : Str} (hs : 1 ≤ s.length) : (∀ x ∈ Txt.split t s, x.length ≤ t.length) ∧ (Txt.split t s).length ≤ t.length + 1 := by
  have z := PyProof.Rows.split_weight t s hs
  refine ⟨fun x hx => ?_, by omega⟩
  have a := sum_mem (List.mem_map.mpr ⟨x, hx, rfl⟩ : x.length ∈ (Txt.split t s).map (·.length))
  have b := PyProof.Rows.split_pos t s
  omega
def spRSG (C : Addr) : Sp := fun vs H Q E => ∃ t : Str, vs = [.str t] ∧ t.length ≤ 6000 ∧ match firstW (rowsF t) 0 with
  | some (i, n) => Eb C E H (.int ((i : Int) + 1)) (.int (n : Int))
  | none => ∀ H' p fr, Same H H' → H p = none → FrA H' p fr → rowsF t = fr.map words → (∀ x ∈ fr, Stp x) → Q (.ref p) H'
structure Tr (K : PySem.W.Frag) (mg : Str → Option Value) where
  W : Tw K mg
  B : Btx K mg
  f1 : Addr
  d1 : FuncData
  S : Fun K "read_steps" "read_steps" sRS f1 d1
  b1 : Binds K d1 ["text"] []
  m1 : mg "read_steps" = some (.ref f1)
  tu : mg "tuple" = none
def RwG (H : Hp) (rs : List Addr) (xs : List (List Str)) : Prop := rs.length = xs.length ∧ ∀ (i : Nat) r x, rs[i]? = some r → xs[i]? = some x → H r = some (.lst (x.map V.str))
theorem RwG.same {H H' : Hp} {rs : List Addr} {xs : List (List Str)} (h : RwG H rs xs) (s : Same H H') : RwG H' rs xs := ⟨h.1, fun i r x a b => s _ _ (h.2 i r x a b)⟩
theorem RwG.snoc {H : Hp} {rs : List Addr} {xs : List (List Str)} {r : Addr} {x : List Str} (h : RwG H rs xs) (hx : H r = some (.lst (x.map V.str))) : RwG H (rs ++ [r]) (xs ++ [x]) := by
  refine ⟨by rw [List.length_append, List.length_append, h.1]; rfl, fun i u y h1 h2 => ?_⟩
  by_cases e : i < rs.length
  · rw [List.getElem?_append_left e] at h1
    rw [List.getElem?_append_left (by rw [← h.1]; exact e)] at h2
    exact h.2 i u y h1 h2
  · have i1 := (List.getElem?_eq_some_iff.mp h1).1
    rw [List.length_append] at i1
    have e2 : i = rs.length := by simp only [List.length_cons, List.length_nil] at i1; omega
    subst e2
    rw [List.getElem?_append_right (Nat.le_refl _), Nat.sub_self] at h1
    rw [h.1, List.getElem?_append_right (Nat.le_refl _), Nat.sub_self] at h2
    have e3 : r = u := Option.some.inj h1
    have e4 : x = y := Option.some.inj h2
    rw [← e3, ← e4]
    exact hx
theorem RwG.at_ {H : Hp} {rs : List Addr} {xs : List (List Str)} (h : RwG H rs xs) {i : Nat} {v : V} (e : (rs.map V.ref)[i]? = some v) : ∃ r x, rs[i]? = some r ∧ xs[i]? = some x ∧ v = .ref r ∧ H r = some (.lst (x.map V.str)) := by
  rw [List.getElem?_map] at e
  cases er : rs[i]? with
  | none =>
    rw [er] at e
    cases e
  | some r =>
    rw [er] at e
    have il : i < xs.length := by
      have := (List.getElem?_eq_some_iff.mp er).1
      rw [← h.1]
      exact this
    exact ⟨r, xs[i], rfl, List.getElem?_eq_getElem il, (Option.some.inj e).symm, h.2 i r _ er (List.getElem?_eq_getElem il)⟩
theorem rows_ok {t : Str} (lt : t.length ≤ 6000) {ws : List Str} (h : ws ∈ rowsF t) : (∀ s ∈ ws, s.length ≤ 6000) ∧ ws.length ≤ 100000 := by
  obtain ⟨l, hl, rfl⟩ := List.mem_map.mp h
  have e1 : (1 : Nat) ≤ ("\n" : Str).length := by decide +kernel
  have e2 : (1 : Nat) ≤ (" " : Str).length := by decide +kernel
  have a := (split_len (t := t) e1).1 l hl
  obtain ⟨b, c⟩ := split_len (t := l) e2
  exact ⟨fun s hs => by
    have := b s hs
    omega, by omega⟩
end K45

set_option Elab.async false
set_option linter.all false
set_option maxRecDepth 100000
set_option maxHeartbeats 4000000
/-! read_steps of any text: the def. -/
namespace K45
open PySem L2 L2.EV
theorem all_right : ∀ {rows : List (List Str)}, (∀ ws ∈ rows, wrongW ws = none) → ∃ fr : List T3, rows = fr.map words ∧ ∀ x ∈ fr, Stp x
  | [], _ => ⟨[], rfl, fun x h => by cases h⟩
  | ws :: r, h => by
    obtain ⟨x, rfl, sx⟩ := right_words (h ws (List.mem_cons_self ..))
    obtain ⟨fr, e, s⟩ := all_right (rows := r) fun y hy => h y (List.mem_cons_of_mem _ hy)
    refine ⟨x :: fr, by rw [List.map_cons, ← e], fun y hy => ?_⟩
    rcases List.mem_cons.mp hy with rfl | hy
    · exact sx
    · exact s y hy
theorem same_push2 {H H' : Hp} {D : Addr} {o : HO} (hD : H D = none) (s : Same H H') : Same H (upd H' D o) := same_push hD s
section
variable {P : Program} {w : World} {K : PySem.W.Frag} {mg : Str → Option Value} {base : Heap}
theorem scRS : FnScope ["text", "line", "rows", "number", "words", "wrong"] ["text"] (defScope sRS) := ⟨rfl, rfl, rfl, by decide +kernel, rfl, by decide +kernel, by decide +kernel⟩
theorem ok_rsG (R : Tr K mg) : FnOk P w K mg base (L2.CX P w) 4 R.f1 R.d1 ["text"] (spRSG R.B.C) := by
  have GW : FnOk P w K mg base CX0 3 R.W.fW R.W.dW ["words"] (spWrongW K) := ok_wrongW R.W
  have GT : FnOk P w K mg base CX0 1 R.W.fT R.W.dT ["words"] (spTold K) := ok_told R.W
  have GB : FnOk P w K mg base CX0 1 R.B.f R.B.d ["self", "line", "word"] (spTwo R.B.C "line" "word") := ok_BadText R.B.F R.B.T R.B.I R.B.n0 R.B.n1
  refine R.S.okX scRS (fun vs H Q E h => ?_) (fun cdv A outer s H vs Q E hr h => ?_)
  · obtain ⟨t, rfl, _⟩ := h
    rfl
  · obtain ⟨t, rfl, lt, q⟩ := h
    have r1 := hr.mono (j := 1) (by omega)
    refine ⟨_, pss_cons (ps_setLc (i := 2) (y := "rows") (own := [("line", 1)]) (g := gName 1) rfl scRS.nd rfl rfl (by rfl) (pi_list (pe_m1 PySem.F.slot_str_split PySem.F.type_str_split mt_split (pv 0) pe_str))
        (blkOk_by (N := ["text", "line", "rows", "number", "words", "wrong"]) (sc := defScope sRS) (by decide +kernel))
        (fun _ _ _ _ _ => pg_name (i := 1) scRS.nd rfl (Or.inl rfl)) (fun _ _ _ _ _ => pts_nil) (fun _ _ _ _ _ => pe_m1 PySem.F.slot_str_split PySem.F.type_str_split mt_split (pv 1) pe_str))
      (pss_cons (ps_for (passes_of rfl) rfl (pi_enum (by rfl) R.W.Z.en (pa_cons (pv 2) pa_nil)) (pg_tup rfl (pgs_cons (pg_name (i := 3) scRS.nd rfl (Or.inl rfl)) (pgs_cons (pg_name (i := 4) scRS.nd rfl (Or.inl rfl)) pgs_nil)))
        (pss_cons (ps_set (i := 5) scRS.nd rfl (Or.inl rfl) (pe_call GW hr (by rfl) R.W.mW R.W.W.kp R.W.bW .nil pass0 (pa_cons (pv 4) pa_nil)))
        (pss_one (ps_if (pt_cmpR op_notN (pv 5) pe_non (nomark _)) (pss_one (ps_raise rfl (takes_of rfl rfl rfl rfl) (pmk_own3 rfl (pe_new R.B.T R.B.iC R.B.tI GB (hr.mono (by omega)) (kb_pos R.B.b rfl) pass0 (by rfl) R.B.m (pa_cons (pe_op op_add (pv 3) pe_int) (pa_cons (pv 5) pa_nil)))))) pss_nil))))
      (pss_one (ps_ret (pe_callTy call_tuple_of (by rfl) R.tu (by decide +kernel) (pa_cons (pe_lc (own := [("words", 4)]) (g := gName 4) (te := tCall (spTold K) [] E0 (tCons (tVar 4) tNil)) rfl scRS.nd (pi_list (pv 2))
        (blkOk_by (N := ["text", "line", "rows", "number", "words", "wrong"]) (sc := defScope sRS) (by decide +kernel))
        (fun _ _ _ _ _ => pg_name (i := 4) scRS.nd rfl (Or.inl rfl)) (fun _ _ _ _ _ => pts_nil) (fun _ _ _ _ _ => pe_call GT r1 (by rfl) R.W.mT R.W.T.kp R.W.bT .nil pass0 (pa_cons (pv 4) pa_nil))) pa_nil))))), ?_⟩
    have fin : ∀ {H1 : Hp} {a : Addr} {x y : V} (s1 : Same H H1) (na : H1 a = none) (qe : Eb R.B.C E H x y) (dx : Addr), upd H1 a (exo a R.B.C none) dx = none → dx ≠ a →
        ∃ (a0 C d : Addr) (fs : List (Str × V)), V.ref a = .ref a0 ∧ (upd (upd (upd (upd H1 a (exo a R.B.C none)) dx (exd dx [("line", x)])) a (exo a R.B.C (some dx))) dx (exd dx [("word", y), ("line", x)])) a0 = some (exo a0 C (some d)) ∧ d ≠ a0 ∧
          (upd (upd (upd (upd H1 a (exo a R.B.C none)) dx (exd dx [("line", x)])) a (exo a R.B.C (some dx))) dx (exd dx [("word", y), ("line", x)])) d = some (exd d fs) ∧ Fr0 H a0 ∧
          Raises (cxOf (L2.CX P w) P w K mg base ["text", "line", "rows", "number", "words", "wrong"] "read_steps" (defScope sRS) R.f1 cdv A outer s H E) (.ref C) ∧
          E (.ref C) (some d) (upd (delH (upd (upd (upd (upd H1 a (exo a R.B.C none)) dx (exd dx [("line", x)])) a (exo a R.B.C (some dx))) dx (exd dx [("word", y), ("line", x)])) a0) d (.xd fs)) := by
      intro H1 a x y s1 na qe dx hn ne
      obtain ⟨b1, b2⟩ := bad_heap (x := x) (y := y) na hn ne
      exact ⟨a, R.B.C, dx, _, rfl, b1, ne, upd_same, fr0_none (same_none s1 na), raises_own R.B.su R.B.ty, qe _ dx (s1.trans b2) upd_same⟩
    have e1 : (1 : Nat) ≤ ("\n" : Str).length := by decide +kernel
    have e2 : (1 : Nat) ≤ (" " : Str).length := by decide +kernel
    obtain ⟨la, lb⟩ := split_len (t := t) e1
    refine ⟨_, rfl, ⟨_, rfl⟩, t, "\n", rfl, rfl, by decide +kernel, by rw [sizeLine_eq]; omega, fun p1 h1 => ?_⟩
    have u1 := same_upd (o := HO.lst ((Txt.split t "\n").map V.str)) h1
    refine ⟨p1, rfl, ⟨_, SqL.of upd_same⟩, fun D hD => ?_⟩
    refine lc_it (walk_list (xs := (Txt.split t "\n").map V.str)) (fun i H' => ∃ rs : List Addr, H' D = some (.lst (rs.map V.ref)) ∧ RwG H' rs ((rowsF t).take i) ∧ (∀ r ∈ rs, r ≠ D) ∧ Same (upd H p1 (.lst ((Txt.split t "\n").map V.str))) H')
      ⟨[], upd_same, ⟨rfl, fun i r x h => by cases h⟩, (fun r h => by cases h), same_upd hD⟩ (fun i H' _ ⟨_, _, _, _, z⟩ => SqL.of (z _ _ upd_same)) ?_ ?_
    · rintro i x H2 H3 hi ⟨rs, hd, rw_, nd, s2⟩ ⟨rfl, hx⟩
      have il : i < (Txt.split t "\n").length := by rw [List.length_map] at hi; exact hi
      have hy : (Txt.split t "\n")[i]? = some (Txt.split t "\n")[i] := List.getElem?_eq_getElem il
      have hy2 : (rowsF t)[i]? = some (Txt.split (Txt.split t "\n")[i] " ") := by
        unfold rowsF
        rw [List.getElem?_map, hy]
        rfl
      rw [List.getElem?_map, hy] at hx
      obtain rfl : V.str (Txt.split t "\n")[i] = x := Option.some.inj hx
      have ll := la _ (List.getElem_mem il)
      refine ⟨rfl, _, rfl, ⟨_, rfl⟩, (Txt.split t "\n")[i], " ", rfl, rfl, by decide +kernel, by rw [sizeLine_eq]; omega, fun r hr2 => ?_⟩
      have ur := same_upd (o := HO.lst ((Txt.split (Txt.split t "\n")[i] " ").map V.str)) hr2
      have nrd : r ≠ D := fun z => by
        rw [z, hd] at hr2
        cases hr2
      refine ⟨_, ur _ _ hd, by rw [List.length_map, rw_.1, List.length_take, sizeLine_eq]; omega, rs ++ [r], by rw [List.map_append]; exact upd_same, ?_, fun q hq => ?_, same_push hD (s2.trans ur)⟩
      · rw [take_one hy2]
        have w1 := (rw_.same ur).snoc (r := r) (x := Txt.split (Txt.split t "\n")[i] " ") upd_same
        have nd2 : ∀ q ∈ rs ++ [r], q ≠ D := fun q hq => by
          rcases List.mem_append.mp hq with h | h
          · exact nd q h
          · rw [List.mem_singleton.mp h]
            exact nrd
        exact ⟨w1.1, fun k q y a b => by
          rw [upd_ne (nd2 q (List.mem_of_getElem? a))]
          exact w1.2 k q y a b⟩
      · rcases List.mem_append.mp hq with h | h
        · exact nd q h
        · rw [List.mem_singleton.mp h]
          exact nrd
    · rintro H2 ⟨rs, hd, rw_, nd, s2⟩
      have lr : (rowsF t).length = (Txt.split t "\n").length := by unfold rowsF; rw [List.length_map]
      rw [List.length_map, ← lr, List.take_length] at rw_
      have sA := u1.trans s2
      refine ⟨_, rfl, D, _, rfl, SqL.of hd, for_it (walk_enum (xs := rs.map V.ref)) (fun i σ H' => ∃ v3 v4 v5 : Option V, σ = [some (.str t), none, some (.ref D), v3, v4, v5] ∧ Same H2 H' ∧ firstW (rowsF t) 0 = firstW ((rowsF t).drop i) i ∧ ∀ ws ∈ (rowsF t).take i, wrongW ws = none)
        ⟨none, none, none, rfl, Same.refl _, rfl, fun ws h => by cases h⟩ (fun i σ H' _ ⟨_, _, _, _, z, _⟩ => SqL.of (z _ _ hd)) ?_ ?_⟩
      · rintro i x σ H3 H4 hi ⟨v3, v4, v5, rfl, s3, inv, al⟩ ⟨T, xi, xo, rfl, nT, rfl, h1', h2'⟩
        cases h1'
        obtain ⟨r, ws, hr1, hy, rfl, e4⟩ := rw_.at_ h2'
        have s4 := s3.trans (same_upd (o := HO.tup [V.int (i : Nat), V.ref r]) nT)
        obtain ⟨sz, lz⟩ := rows_ok lt (List.mem_of_getElem? hy)
        have dr : (rowsF t).drop i = ws :: (rowsF t).drop (i + 1) := by
          obtain ⟨hi2, e⟩ := List.getElem?_eq_some_iff.mp hy
          rw [List.drop_eq_getElem_cons hi2, e]
        rw [dr] at inv
        refine ⟨T, _, rfl, SqT.of upd_same, rfl, _, _, rfl, _, _, rfl, rfl, ?_⟩
        refine ⟨_, rfl, r, ws, rfl, ⟨SqL.of (s4 _ _ e4), sz, lz⟩, fun H5 s5 => ?_⟩
        have s05 := sA.trans (s4.trans s5)
        cases ew : wrongW ws with
        | some n =>
          rw [firstW_some ew] at inv
          rw [inv] at q
          refine ⟨_, rfl, rfl, _, rfl, iteT' (by simp [wN]) ?_⟩
          exact ⟨_, rfl, (i : Nat), 1, rfl, rfl, _, rfl, rfl, rfl, (by show 2 ≤ 1000; decide), fun a na => ⟨a, .int ((i : Int) + 1), .int (n : Int), rfl, upd_same, fun dx hn ne => ⟨rfl, fin s05 na q dx hn ne⟩⟩⟩
        | none =>
          rw [firstW_none ew] at inv
          refine ⟨_, rfl, rfl, _, rfl, iteF' (by simp [wN]) ?_⟩
          refine ⟨_, _, _, rfl, s4.trans s5, inv, fun y hy2 => ?_⟩
          rw [take_one hy] at hy2
          rcases List.mem_append.mp hy2 with h | h
          · exact al y h
          · rw [List.mem_singleton.mp h]
            exact ew
      · rintro σ H3 ⟨v3, v4, v5, rfl, s3, inv, al⟩
        have e9 : (rs.map V.ref).length = (rowsF t).length := by rw [List.length_map, rw_.1]
        rw [e9, List.drop_length] at inv
        rw [e9, List.take_length] at al
        have inv : firstW (rowsF t) 0 = none := inv
        rw [inv] at q
        obtain ⟨fr, efr, stp⟩ := all_right al
        have lf : (rowsF t).length = fr.length := by rw [efr, List.length_map]
        refine ⟨_, rfl, D, rfl, ⟨_, SqL.of (s3 _ _ hd)⟩, fun D2 hD2 => ?_⟩
        refine lc_it (walk_list (xs := rs.map V.ref)) (fun i H' => ∃ ts : List Addr, H' D2 = some (.lst (ts.map V.ref)) ∧ At3 H' ts (fr.take i) ∧ Same H3 H')
          ⟨[], upd_same, ⟨rfl, fun i r x h => by cases h⟩, same_upd hD2⟩ (fun i H' _ ⟨_, _, _, z⟩ => SqL.of (z _ _ (s3 _ _ hd))) ?_ ?_
        · rintro i x H4 H5 hi ⟨ts, ht, at3, s4⟩ ⟨rfl, hx⟩
          obtain ⟨r, ws, hr1, hws, rfl, e4⟩ := rw_.at_ hx
          have il : i < fr.length := by
            have := (List.getElem?_eq_some_iff.mp hws).1
            omega
          have hy : fr[i]? = some fr[i] := List.getElem?_eq_getElem il
          have ewx : ws = words fr[i] := by
            have z := hws
            rw [efr, List.getElem?_map, hy] at z
            exact (Option.some.inj z).symm
          rw [ewx] at e4
          refine ⟨rfl, _, rfl, r, fr[i], rfl, ⟨SqL.of (s4 _ _ (s3 _ _ e4)), stp _ (List.getElem_mem il)⟩, fun H6 p s6 np e6 => ?_⟩
          refine ⟨_, s6 _ _ ht, by rw [List.length_map, at3.1, List.length_take, sizeLine_eq]; omega, ts ++ [p], by rw [List.map_append]; exact upd_same, ?_, same_push hD2 (s4.trans s6)⟩
          rw [take_one hy]
          have w1 := (at3.same (Same.keepT s6)).snoc (t := p) (x := fr[i]) e6
          exact w1.same (keepT_upd (s6 _ _ ht) (fun xs z => by cases z))
        · rintro H4 ⟨ts, ht, at3, s4⟩
          rw [List.length_map, rw_.1, lf, List.take_length] at at3
          refine ⟨D2, _, rfl, .inl ⟨SqL.of ht, fun p hp => ?_⟩⟩
          have sp := same_upd (o := HO.tup (ts.map V.ref)) hp
          have s0 := sA.trans (s3.trans s4)
          exact q _ p fr (s0.trans sp) (same_none s0 hp) ⟨ts, upd_same, at3.1, fun i t x a b => sp _ _ (at3.2 i t x a b)⟩ efr stp
end
end K45

set_option Elab.async false
set_option linter.all false
set_option maxRecDepth 100000
set_option maxHeartbeats 4000000
/-! is_joined of any steps. -/
namespace K45
open PySem L2 L2.EV
/-- g can be reached from b, by one step or more -/
def Rch (fr : List T3) (b g : Int) : Prop := ∀ S : Int → Prop, (∀ x ∈ fr, x.1 = b → S x.2.2) → (∀ x ∈ fr, S x.1 → S x.2.2) → S g
/-- all standings can be reached from 0, and 0 from them -/
def Jnd (fr : List T3) : Prop := ∀ x ∈ fr, (Rch fr 0 x.1 ∧ Rch fr x.1 0) ∧ (Rch fr 0 x.2.2 ∧ Rch fr x.2.2 0)
theorem rch_step {fr : List T3} {b : Int} {x : T3} (hx : x ∈ fr) (h : x.1 = b) : Rch fr b x.2.2 := fun S c0 _ => c0 x hx h
theorem rch_go {fr : List T3} {b : Int} {x : T3} (hx : x ∈ fr) (h : Rch fr b x.1) : Rch fr b x.2.2 := fun S c0 c1 => c1 x hx (h S c0 c1)
/-- what is closed and lies in every closed set is what can be reached -/
theorem rch_iff {fr : List T3} {b : Int} {kvs : List (Key × V)} (c : ∀ x ∈ fr, (x.1 = b ∨ has kvs x.1 = true) → has kvs x.2.2 = true) (s : ∀ g : Int, has kvs g = true → Rch fr b g) (g : Int) : has kvs g = true ↔ Rch fr b g :=
  ⟨s g, fun h => h (fun g => has kvs g = true) (fun x hx e => c x hx (.inl e)) (fun x hx e => c x hx (.inr e))⟩
def spJoinG : Sp := fun vs H Q _ => ∃ (f : Addr) (fr : List T3) (last : Nat), vs = [.ref f] ∧ FrA H f fr ∧ Fb fr last ∧ ∀ (b : Bool) H', Same H H' → (b = true ↔ Jnd fr) → Q (.bl b) H'
section
variable {P : Program} {w : World} {K : PySem.W.Frag} {mg : Str → Option Value} {base : Heap}
theorem ok_joinG (Z : Fs K mg) : FnOk P w K mg base CX0 2 Z.fJ Z.dJ ["framing"] spJoinG := by
  have GL : FnOk P w K mg base CX0 1 Z.fL Z.dL ["framing"] spListed := ok_listed Z.L Z.so
  have GW : FnOk P w K mg base CX0 1 Z.fW Z.dW ["framing", "begin"] spWays := ok_ways Z.W Z.en
  refine Z.J.ok scJoined (fun vs H Q E h => ?_) (fun cdv A outer s H vs Q E hr h => ?_)
  · obtain ⟨f, fr, last, rfl, _⟩ := h
    rfl
  · obtain ⟨f, fr, last, rfl, fa, fm, q⟩ := h
    have hu := hu_of hr
    refine ⟨_, pss_cons (ps_set (i := 1) scJoined.nd rfl (Or.inl rfl) (pe_call GW hr (by rfl) Z.mW Z.W.kp Z.bW .nil pass0 (pa_cons (pv 0) (pa_cons pe_int pa_nil))))
      (pss_cons (ps_for PassesOwn.never rfl (pi_list (pe_call GL hr (by rfl) Z.mL Z.L.kp Z.bL .nil pass0 (pa_cons (pv 0) pa_nil))) (pg_name (i := 2) scJoined.nd rfl (Or.inl rfl))
        (pss_one (ps_if (pw_or (pt_cmp (pc_dnotin hu (pv 2) (pv 1)) (by rfl)) (pw_or1 (pt_cmp (pc_dnotin hu pe_int (pe_call GW hr (by rfl) Z.mW Z.W.kp Z.bW .nil pass0 (pa_cons (pv 0) (pa_cons (pv 2) pa_nil)))) (by rfl)))).pt
          (pss_one (ps_ret pe_bl)) pss_nil)))
      (pss_one (ps_ret pe_bl))), ?_⟩
    refine ⟨_, rfl, f, fr, last, 0, Rch fr ((0 : Nat) : Int), rfl, fa, fm, Nat.zero_le _, (fun x hx e => rch_step hx e), (fun x hx h => rch_go hx h), fun H1 d kvs s1 n1 e1 h1 k1 => ?_⟩
    have R0 := rch_iff h1 k1
    refine ⟨_, rfl, f, fr, last, rfl, fa.same s1, fm, fun H2 p ns s2 n2 e2 l2 k2 a2 b2 => ⟨p, rfl, ⟨_, SqL.of e2⟩, for_it (walk_list (xs := ns.map V.int)) (fun i σ H' => ∃ v2 : Option V, σ = [some (.ref f), some (.ref d), v2] ∧ Same H2 H' ∧ ∀ g ∈ ns.take i, Rch fr 0 g ∧ Rch fr g 0)
      ⟨none, rfl, (fun _ _ e => e), fun g z => by cases z⟩ (fun i σ H' _ ⟨_, _, z, _⟩ => SqL.of (z _ _ e2)) ?_ ?_⟩⟩
    · rintro i x σ H3 H4 hi ⟨v2, rfl, s3, al⟩ ⟨rfl, hx⟩
      obtain ⟨k, hk, hki, rfl⟩ : ∃ k : Int, k ∈ ns ∧ ns[i]? = some k ∧ x = .int k := by
        rw [List.getElem?_map] at hx
        cases e : ns[i]? with
        | none =>
          rw [e] at hx
          cases hx
        | some k =>
          rw [e] at hx
          exact ⟨k, List.mem_of_getElem? e, rfl, (Option.some.inj hx).symm⟩
      obtain ⟨k0, k1'⟩ := k2 k hk
      obtain ⟨b, rfl⟩ := Int.eq_ofNat_of_zero_le k0
      have hb : b ≤ last := by omega
      refine ⟨_, rfl, _, rfl, d, _, rfl, DGet.k (k := Sum.inl (b : Int)) (s3 _ _ (s2 _ _ e1)), _, rfl, ?_⟩
      obtain ⟨y, hy, ek⟩ := b2 _ hk
      have no : ¬ (Rch fr 0 (b : Int) ∧ Rch fr (b : Int) 0) → ¬ Jnd fr := fun n j => n (by
        obtain ⟨j1, j2⟩ := j y hy
        rcases ek with e | e
        · rw [e] at j1
          exact j1
        · rw [e] at j2
          exact j2)
      cases hh : (valV kvs (Sum.inl (b : Int) : Key)).isSome with
      | false =>
        refine iteT (q false _ (s1.trans (s2.trans s3)) ⟨fun z => (nomatch z), fun j => absurd j (no fun k => ?_)⟩)
        have z : has kvs (b : Int) = true := (R0 _).mpr k.1
        have z2 : (valV kvs (Sum.inl (b : Int) : Key)).isSome = true := z
        rw [hh] at z2
        cases z2
      | true =>
        refine iteF ?_
        refine ⟨_, rfl, _, rfl, f, fr, last, b, Rch fr (b : Int), rfl, (fa.same s1).same (s2.trans s3), fm, hb, (fun x hx e => rch_step hx e), (fun x hx h => rch_go hx h), fun H5 d5 kvs5 s5 n5 e5 h5 k5 => ?_⟩
        have R5 := rch_iff h5 k5
        refine ⟨d5, _, rfl, DGet.k (k := Sum.inl (0 : Int)) e5, _, rfl, ?_⟩
        cases h6 : (valV kvs5 (Sum.inl (0 : Int) : Key)).isSome with
        | false =>
          refine iteT (q false _ (s1.trans (s2.trans (s3.trans s5))) ⟨fun z => (nomatch z), fun j => absurd j (no fun k => ?_)⟩)
          have z : has kvs5 0 = true := (R5 _).mpr k.2
          have z2 : (valV kvs5 (Sum.inl (0 : Int) : Key)).isSome = true := z
          rw [h6] at z2
          cases z2
        | true =>
          refine iteF ⟨_, rfl, s3.trans s5, fun g hg => ?_⟩
          rw [List.take_succ, hki] at hg
          rcases List.mem_append.mp hg with hg | hg
          · exact al g hg
          · have e9 : g = (b : Int) := by simpa using hg
            rw [e9]
            exact ⟨(R0 _).mp hh, (R5 _).mp h6⟩
    · rintro σ H3 ⟨v2, rfl, s3, al⟩
      have e9 : ns.take (ns.map V.int).length = ns := by rw [List.length_map, List.take_length]
      rw [e9] at al
      exact q true _ (s1.trans (s2.trans s3)) ⟨fun _ x hx => ⟨al _ (a2 x hx).1, al _ (a2 x hx).2⟩, fun _ => rfl⟩
end
end K45

set_option Elab.async false
set_option linter.all false
set_option maxRecDepth 100000
set_option maxHeartbeats 4000000
/-! What a text is due. -/
namespace K45
open PySem L2 L2.EV
/-- the step that three words tell -/
def stepOf (ws : List Str) : T3 := ((PySem.intText? (ws.getD 0 "")).getD 0, ws.getD 1 "", (PySem.intText? (ws.getD 2 "")).getD 0)
theorem step_words {x : T3} (h : Stp x) : stepOf (words x) = x := by
  obtain ⟨h0, h6, _, g0, g6⟩ := h
  obtain ⟨_, a, _⟩ := dig_ok h0 (by omega)
  obtain ⟨_, b, _⟩ := dig_ok g0 (by omega)
  show ((PySem.intText? (dig x.1)).getD 0, x.2.1, (PySem.intText? (dig x.2.2)).getD 0) = x
  rw [a, b]
  rfl
def frOf (t : Str) : List T3 := (rowsF t).map stepOf
theorem map_step : ∀ {fr : List T3}, (∀ x ∈ fr, Stp x) → (fr.map words).map stepOf = fr
  | [], _ => rfl
  | x :: r, h => by
    rw [List.map_cons, List.map_cons, step_words (h x (List.mem_cons_self ..)), map_step fun y hy => h y (List.mem_cons_of_mem _ hy)]
theorem frOf_eq {t : Str} {fr : List T3} (e : rowsF t = fr.map words) (s : ∀ x ∈ fr, Stp x) : frOf t = fr := by
  unfold frOf
  rw [e, map_step s]
/-- the first place whose step is not greater than the one before it -/
def ordW : List T3 → Nat → Option Nat
  | [], _ => none
  | x :: r, i => match r with
    | [] => none
    | y :: _ => if lt3 x y = true then ordW r (i + 1) else some i
theorem ordW_one (x : T3) (i : Nat) : ordW [x] i = none := rfl
theorem ordW_lt {x y : T3} {r : List T3} {i : Nat} (h : lt3 x y = true) : ordW (x :: y :: r) i = ordW (y :: r) (i + 1) := by
  rw [ordW]
  simp only [h, if_true]
theorem ordW_ge {x y : T3} {r : List T3} {i : Nat} (h : lt3 x y = false) : ordW (x :: y :: r) i = some i := by
  rw [ordW]
  simp [h]
theorem drop_two {fr : List T3} {i : Nat} (h : i + 1 < fr.length) : fr.drop i = fr[i] :: fr[i + 1] :: fr.drop (i + 2) := by
  rw [List.drop_eq_getElem_cons (by omega), List.drop_eq_getElem_cons h]
theorem drop_last {fr : List T3} {n : Nat} (h : n + 1 = fr.length) : fr.drop n = [fr[n]] := by
  rw [List.drop_eq_getElem_cons (by omega), List.drop_eq_nil_of_le (by omega)]
open Classical in
noncomputable def restW (fr : List T3) : Option (Int × Int) :=
  match ordW fr 1 with
  | some i => some ((i : Int) + 1, 0)
  | none => if fr.length > 16 then some (17, 0) else if Jnd fr then none else some ((fr.length : Int) + 1, 0)
/-- the line and the word that are told of a text; none of a right one -/
noncomputable def dueT (t : Str) : Option (Int × Int) :=
  match firstW (rowsF t) 0 with
  | some (i, n) => some ((i : Int) + 1, (n : Int))
  | none => restW (frOf t)
theorem due_word {t : Str} {i n : Nat} (h : firstW (rowsF t) 0 = some (i, n)) : dueT t = some ((i : Int) + 1, (n : Int)) := by
  unfold dueT
  rw [h]
theorem due_rest {t : Str} (h : firstW (rowsF t) 0 = none) : dueT t = restW (frOf t) := by
  unfold dueT
  rw [h]
theorem rest_ord {fr : List T3} {i : Nat} (h : ordW fr 1 = some i) : restW fr = some ((i : Int) + 1, 0) := by
  unfold restW
  rw [h]
theorem rest_many {fr : List T3} (h : ordW fr 1 = none) (m : fr.length > 16) : restW fr = some (17, 0) := by
  unfold restW
  rw [h]
  exact if_pos m
theorem rest_jnd {fr : List T3} (h : ordW fr 1 = none) (m : ¬ fr.length > 16) (j : Jnd fr) : restW fr = none := by
  unfold restW
  rw [h]
  exact (if_neg m).trans (if_pos j)
theorem rest_apart {fr : List T3} (h : ordW fr 1 = none) (m : ¬ fr.length > 16) (j : ¬ Jnd fr) : restW fr = some ((fr.length : Int) + 1, 0) := by
  unfold restW
  rw [h]
  exact (if_neg m).trans (if_neg j)
theorem rest_none {fr : List T3} (h : restW fr = none) : fr.length ≤ 16 := by
  unfold restW at h
  cases e : ordW fr 1 with
  | some i =>
    rw [e] at h
    cases h
  | none =>
    rw [e] at h
    by_cases m : fr.length > 16
    · have h : (if fr.length > 16 then some (17, 0) else _) = (none : Option (Int × Int)) := h
      rw [if_pos m] at h
      cases h
    · omega
theorem fb_of {fr : List T3} (l : fr.length ≤ 16) (h : ∀ x ∈ fr, Stp x) : Fb fr 5 := ⟨l, fun x hx => by
  obtain ⟨a, b, _, c, d⟩ := h x hx
  omega, Nat.le_refl 5⟩
/-- a right text's steps -/
theorem steps_of : ∀ {rows : List (List Str)} {i : Nat}, firstW rows i = none → ∀ x ∈ rows.map stepOf, Stp x
  | [], _, _, x, h => by cases h
  | ws :: r, i, h, x, hx => by
    cases ew : wrongW ws with
    | some n =>
      rw [firstW_some ew] at h
      cases h
    | none =>
      rw [firstW_none ew] at h
      obtain ⟨y, rfl, sy⟩ := right_words ew
      rw [List.map_cons, step_words sy] at hx
      rcases List.mem_cons.mp hx with rfl | hx
      · exact sy
      · exact steps_of h x hx
theorem due_none {t : Str} (h : dueT t = none) : (∀ x ∈ frOf t, Stp x) ∧ (frOf t).length ≤ 16 := by
  cases e : firstW (rowsF t) 0 with
  | some p =>
    rw [due_word (i := p.1) (n := p.2) e] at h
    cases h
  | none =>
    rw [due_rest e] at h
    exact ⟨steps_of e, rest_none h⟩
end K45

set_option Elab.async false
set_option linter.all false
set_option maxRecDepth 100000
set_option maxHeartbeats 4000000
/-! read_framing of anything. -/
namespace K45
open PySem L2 L2.EV
abbrev sRF : Stmt := top 25
/-- a thing that is no text -/
def NoStr (K : PySem.W.Frag) (H : Hp) (v : V) : Prop := ∃ t : Value, TyX K H v t ∧ PySem.W.kitOne K t (.type "str") = some false
def spRFG (K : PySem.W.Frag) (C : Addr) : Sp := fun vs H Q E => (∃ t : Str, vs = [.str t] ∧ t.length ≤ 6000 ∧ match dueT t with
    | some (x, y) => Eb C E H (.int x) (.int y)
    | none => ∀ H' p, Same H H' → H p = none → FrA H' p (frOf t) → Q (.ref p) H') ∨
  (∃ v : V, vs = [v] ∧ NoStr K H v ∧ Eb C E H (.int 0) (.int 0))
structure Tq (K : PySem.W.Frag) (mg : Str → Option Value) where
  R : Tr K mg
  f2 : Addr
  d2 : FuncData
  F : Fun K "read_framing" "read_framing" sRF f2 d2
  b2 : Binds K d2 ["text"] []
  m2 : mg "read_framing" = some (.ref f2)
section
variable {P : Program} {w : World} {K : PySem.W.Frag} {mg : Str → Option Value} {base : Heap}
theorem scRF : FnScope ["text", "steps", "number"] ["text"] (defScope sRF) := ⟨rfl, rfl, rfl, by decide +kernel, rfl, by decide +kernel, by decide +kernel⟩
theorem ok_rfG (R : Tq K mg) : FnOk P w K mg base (L2.CX P w) 5 R.f2 R.d2 ["text"] (spRFG K R.R.B.C) := by
  have GS : FnOk P w K mg base (L2.CX P w) 4 R.R.f1 R.R.d1 ["text"] (spRSG R.R.B.C) := ok_rsG R.R
  have GJ : FnOk P w K mg base CX0 2 R.R.W.Z.fJ R.R.W.Z.dJ ["framing"] spJoinG := ok_joinG R.R.W.Z
  have GB : FnOk P w K mg base CX0 1 R.R.B.f R.R.B.d ["self", "line", "word"] (spTwo R.R.B.C "line" "word") := ok_BadText R.R.B.F R.R.B.T R.R.B.I R.R.B.n0 R.R.B.n1
  refine R.F.okX scRF (fun vs H Q E h => ?_) (fun cdv A outer s H vs Q E hr h => ?_)
  · rcases h with ⟨t, rfl, _⟩ | ⟨v, rfl, _⟩ <;> rfl
  · obtain ⟨v, rfl, hh⟩ : ∃ v, vs = [v] ∧ ((∃ t : Str, v = .str t ∧ t.length ≤ 6000 ∧ match dueT t with
        | some (x, y) => Eb R.R.B.C E H (.int x) (.int y)
        | none => ∀ H' p, Same H H' → H p = none → FrA H' p (frOf t) → Q (.ref p) H') ∨ (NoStr K H v ∧ Eb R.R.B.C E H (.int 0) (.int 0))) := by
      rcases h with ⟨t, rfl, h⟩ | ⟨v, rfl, h⟩
      · exact ⟨_, rfl, .inl ⟨t, rfl, h⟩⟩
      · exact ⟨_, rfl, .inr h⟩
    have hu := hu_of hr
    have hu0 : (A.deeper (PyProof.Rows.envOfC "read_framing" (defScope sRF) s.heap.objs.size R.f2 cdv)).units < cLine := by omega
    have r2 := hr.mono (j := 2) (by omega)
    have r1 := hr.mono (j := 1) (by omega)
    obtain ⟨tm, eM⟩ := R.R.W.Z.ms
    have fin : ∀ {H1 : Hp} {a : Addr} {x y : V} (s1 : Same H H1) (na : H1 a = none) (qe : Eb R.R.B.C E H x y) (dx : Addr), upd H1 a (exo a R.R.B.C none) dx = none → dx ≠ a →
        ∃ (a0 C d : Addr) (fs : List (Str × V)), V.ref a = .ref a0 ∧ (upd (upd (upd (upd H1 a (exo a R.R.B.C none)) dx (exd dx [("line", x)])) a (exo a R.R.B.C (some dx))) dx (exd dx [("word", y), ("line", x)])) a0 = some (exo a0 C (some d)) ∧ d ≠ a0 ∧
          (upd (upd (upd (upd H1 a (exo a R.R.B.C none)) dx (exd dx [("line", x)])) a (exo a R.R.B.C (some dx))) dx (exd dx [("word", y), ("line", x)])) d = some (exd d fs) ∧ Fr0 H a0 ∧
          Raises (cxOf (L2.CX P w) P w K mg base ["text", "steps", "number"] "read_framing" (defScope sRF) R.f2 cdv A outer s H E) (.ref C) ∧
          E (.ref C) (some d) (upd (delH (upd (upd (upd (upd H1 a (exo a R.R.B.C none)) dx (exd dx [("line", x)])) a (exo a R.R.B.C (some dx))) dx (exd dx [("word", y), ("line", x)])) a0) d (.xd fs)) := by
      intro H1 a x y s1 na qe dx hn ne
      obtain ⟨b1, b2⟩ := bad_heap (x := x) (y := y) na hn ne
      exact ⟨a, R.R.B.C, dx, _, rfl, b1, ne, upd_same, fr0_none (same_none s1 na), raises_own R.R.B.su R.R.B.ty, qe _ dx (s1.trans b2) upd_same⟩
    refine ⟨_, pss_cons (ps_if (pt_not (pt_val (pe_callB call_isi (by rfl) R.R.W.Z.T.isi PyProof.Rows.boot_isinstance (pa_cons (pv 0) (pa_cons (pe_bltn (v := .ty "str") (by rfl) R.R.W.Z.T.str (by decide +kernel) rfl) pa_nil)))))
        (pss_one (ps_raise rfl (takes_of rfl rfl rfl rfl) (pmk_own3 rfl (pe_new R.R.B.T R.R.B.iC R.R.B.tI GB r2 (kb_pos R.R.B.b rfl) pass0 (by rfl) R.R.B.m (pa_cons pe_int (pa_cons pe_int pa_nil)))))) pss_nil)
      (pss_cons (ps_set (i := 1) scRF.nd rfl (Or.inl rfl) (pe_call GS hr (by rfl) R.R.m1 R.R.S.kp R.R.b1 .nil (passes_call (E := E) (takes_of rfl rfl rfl rfl) fun _ _ _ _ h => h) (pa_cons (pv 0) pa_nil)))
      (pss_cons (ps_for (passes_of rfl) rfl (pi_range2 (by rfl) R.R.W.ra (pa_cons pe_int (pa_cons (pe_callB call_len_seq (by rfl) R.R.W.Z.T.len PySem.boot_len (pa_cons (pv 1) pa_nil)) pa_nil))) (pg_name (i := 2) scRF.nd rfl (Or.inl rfl))
        (pss_one (ps_if (pt_cmpR (op_le3 hu0) (pe_ix ix_tup (pv 1) (pv 2) (fun _ _ => rfl)) (pe_ix ix_tup (pv 1) (pe_op op_sub (pv 2) pe_int) (fun _ _ => rfl)) (nomark _))
          (pss_one (ps_raise rfl (takes_of rfl rfl rfl rfl) (pmk_own3 rfl (pe_new R.R.B.T R.R.B.iC R.R.B.tI GB r2 (kb_pos R.R.B.b rfl) pass0 (by rfl) R.R.B.m (pa_cons (pe_op op_add (pv 2) pe_int) (pa_cons pe_int pa_nil)))))) pss_nil)))
      (pss_cons (ps_if (pt_cmpR op_gt (pe_callB call_len_seq (by rfl) R.R.W.Z.T.len PySem.boot_len (pa_cons (pv 1) pa_nil)) (pe_glob (v := .int 16) (by rfl) eM ⟨_, rfl⟩) (nomark _))
        (pss_one (ps_raise rfl (takes_of rfl rfl rfl rfl) (pmk_own3 rfl (pe_new R.R.B.T R.R.B.iC R.R.B.tI GB r2 (kb_pos R.R.B.b rfl) pass0 (by rfl) R.R.B.m (pa_cons (pe_op op_add (pe_glob (v := .int 16) (by rfl) eM ⟨_, rfl⟩) pe_int) (pa_cons pe_int pa_nil)))))) pss_nil)
      (pss_cons (ps_if (pt_not (pt_val (pe_call GJ r2 (by rfl) R.R.W.Z.mJ R.R.W.Z.J.kp R.R.W.Z.bJ .nil pass0 (pa_cons (pv 1) pa_nil))))
        (pss_one (ps_raise rfl (takes_of rfl rfl rfl rfl) (pmk_own3 rfl (pe_new R.R.B.T R.R.B.iC R.R.B.tI GB r2 (kb_pos R.R.B.b rfl) pass0 (by rfl) R.R.B.m (pa_cons (pe_op op_add (pe_callB call_len_seq (by rfl) R.R.W.Z.T.len PySem.boot_len (pa_cons (pv 1) pa_nil)) pe_int) (pa_cons pe_int pa_nil)))))) pss_nil)
      (pss_one (ps_ret (pv 1))))))), ?_⟩
    clear h
    rcases hh with ⟨t, rfl, lt, q⟩ | ⟨⟨tv, ty, kt⟩, qe⟩
    case inr =>
      refine ⟨_, rfl, v, .ty "str", tv, .type "str", false, rfl, .ty "str", ty, kt, false, rfl, iteT ?_⟩
      exact ⟨rfl, rfl, (by show 2 ≤ 1000; decide), fun a na => ⟨a, .int 0, .int 0, rfl, upd_same, fun dx hn ne => ⟨rfl, fin (Same.refl _) na qe dx hn ne⟩⟩⟩
    refine ⟨_, rfl, .str t, .ty "str", .type "str", .type "str", true, rfl, .ty "str", .base (.str _), kit_ty (by decide +kernel), true, rfl, iteF ?_⟩
    refine ⟨_, rfl, t, rfl, lt, ?_⟩
    cases ef : firstW (rowsF t) 0 with
    | some p =>
      obtain ⟨i, n⟩ := p
      rw [due_word ef] at q
      exact q
    | none =>
      rw [due_rest ef] at q
      intro H1 p fr s1 np fa er stp
      rw [frOf_eq er stp] at q
      obtain ⟨ts, hf, hl, ht⟩ := id fa
      have lr : fr.length ≤ 6001 := by
        have e1 : (1 : Nat) ≤ ("\n" : Str).length := by decide +kernel
        have a := (split_len (t := t) e1).2
        have b : (rowsF t).length = (Txt.split t "\n").length := by unfold rowsF; rw [List.length_map]
        rw [er, List.length_map] at b
        omega
      have lp : 1 ≤ fr.length := by
        have a := PyProof.Rows.split_pos t "\n"
        have b : (rowsF t).length = (Txt.split t "\n").length := by unfold rowsF; rw [List.length_map]
        rw [er, List.length_map] at b
        omega
      refine ⟨_, rfl, p, _, rfl, .inr (SqT.of hf), 1, _, rfl, ⟨by decide, by decide, by rw [List.length_map]; omega, by rw [List.length_map]; omega⟩, for_it walk_range (fun i σ H' => ∃ v2 : Option V, σ = [some (.str t), some (.ref p), v2] ∧ Same H1 H' ∧ ordW fr 1 = ordW (fr.drop i) (i + 1)) ⟨none, rfl, Same.refl _, rfl⟩ (fun _ _ _ _ _ => trivial) ?_ ?_⟩
      · rintro i x σ H2 H3 hi ⟨v2, rfl, s2, inv⟩ ⟨rfl, rfl⟩
        rw [List.length_map] at hi
        have i1 : i + 1 < fr.length := by omega
        have i0 : i < fr.length := by omega
        have t1 : i + 1 < ts.length := by omega
        have t0 : i < ts.length := by omega
        have e1 := ht (i + 1) ts[i + 1] fr[i + 1] (List.getElem?_eq_getElem t1) (List.getElem?_eq_getElem i1)
        have e0 := ht i ts[i] fr[i] (List.getElem?_eq_getElem t0) (List.getElem?_eq_getElem i0)
        have c1 : (1 : Int) + (i : Int) = ((i + 1 : Nat) : Int) := by omega
        rw [drop_two i1] at inv
        refine ⟨_, rfl, _, rfl, p, _, 1 + (i : Int), V.ref ts[i + 1], rfl, rfl, SqT.of (s2 _ _ hf), ?_, _, rfl, _, rfl, _, _, rfl, rfl, p, _, (i : Int), V.ref ts[i], rfl, ?_, SqT.of (s2 _ _ hf), atI_nat ?_, ts[i + 1], ts[i], fr[i + 1], fr[i], rfl, rfl, s2 _ _ e1, s2 _ _ e0, _, rfl, ?_⟩
        · rw [c1]
          refine atI_nat ?_
          rw [List.getElem?_map, List.getElem?_eq_getElem t1]
          rfl
        · show V.int (1 + (i : Int) - 1) = V.int (i : Int)
          congr 1
          omega
        · rw [List.getElem?_map, List.getElem?_eq_getElem t0]
          rfl
        · cases lt' : lt3 fr[i] fr[i + 1] with
          | true =>
            rw [ordW_lt lt'] at inv
            refine iteF' (by rfl) ⟨_, rfl, s2, ?_⟩
            rw [inv, List.drop_eq_getElem_cons i1]
          | false =>
            rw [ordW_ge lt'] at inv
            rw [rest_ord inv] at q
            refine iteT' (by rfl) ?_
            have q : Eb R.R.B.C E H (.int (1 + (i : Int) + 1)) (.int 0) := by
              have e : (1 + (i : Int) + 1) = ((i + 1 : Nat) : Int) + 1 := by omega
              rw [e]
              exact q
            exact ⟨_, rfl, 1 + (i : Int), 1, rfl, rfl, rfl, rfl, (by show 2 ≤ 1000; decide), fun a na => ⟨a, .int (1 + (i : Int) + 1), .int 0, rfl, upd_same, fun dx hn ne => ⟨rfl, fin (s1.trans s2) na q dx hn ne⟩⟩⟩
      · rintro σ H2 ⟨v2, rfl, s2, inv⟩
        have inv : ordW fr 1 = none := by
          rw [inv]
          have e9 : fr.drop (((ts.map V.ref).length : Int) - 1).toNat = [fr[fr.length - 1]] := by
            have e8 : (((ts.map V.ref).length : Int) - 1).toNat = fr.length - 1 := by rw [List.length_map]; omega
            rw [e8]
            exact drop_last (by omega)
          rw [e9]
          rfl
        refine ⟨_, rfl, p, _, rfl, .inr (SqT.of (s2 _ _ hf)), _, 16, rfl, rfl, _, rfl, ?_⟩
        by_cases m : fr.length > 16
        · rw [rest_many inv m] at q
          refine iteT' (decide_eq_true (by rw [List.length_map]; omega)) ?_
          exact ⟨16, 1, rfl, rfl, rfl, rfl, (by show 2 ≤ 1000; decide), fun a na => ⟨a, .int 17, .int 0, rfl, upd_same, fun dx hn ne => ⟨rfl, fin (s1.trans s2) na q dx hn ne⟩⟩⟩
        · refine iteF' (decide_eq_false (by rw [List.length_map]; omega)) ?_
          refine ⟨_, rfl, p, fr, 5, rfl, fa.same s2, fb_of (by omega) stp, fun b H3 s3 jb => ⟨_, rfl, ?_⟩⟩
          cases b with
          | true =>
            rw [rest_jnd inv m (jb.mp rfl)] at q
            refine iteF' rfl ⟨_, rfl, ?_⟩
            exact q _ p (s1.trans (s2.trans s3)) np (fa.same (s2.trans s3))
          | false =>
            rw [rest_apart inv m (fun j => nomatch jb.mpr j)] at q
            refine iteT' rfl ?_
            have q : Eb R.R.B.C E H (.int (((ts.map V.ref).length : Int) + 1)) (.int 0) := by
              rw [List.length_map, hl]
              exact q
            exact ⟨_, rfl, p, _, rfl, .inr (SqT.of (s3 _ _ (s2 _ _ hf))), _, 1, rfl, rfl, rfl, rfl, (by show 2 ≤ 1000; decide), fun a na => ⟨a, .int (((ts.map V.ref).length : Int) + 1), .int 0, rfl, upd_same, fun dx hn ne => ⟨rfl, fin (s1.trans (s2.trans s3)) na q dx hn ne⟩⟩⟩
end
end K45

set_option Elab.async false
set_option linter.all false
set_option maxRecDepth 100000
set_option maxHeartbeats 4000000
/-! The law's own is_joined. -/
namespace K45
open PySem L2 L2.EV
abbrev sJL : Stmt := top 36
theorem inV_ints (g : Int) (l : List Int) : inV (.int g) (l.map V.int) = decide (g ∈ l) := by
  unfold inV
  rw [List.any_map]
  by_cases h : g ∈ l
  · rw [decide_eq_true h, List.any_eq_true]
    exact ⟨g, h, by simp [eqV]⟩
  · rw [decide_eq_false h, List.any_eq_false]
    intro y hy z
    have z : eqV (.int y) (.int g) = true := z
    have e : y = g := by simpa [eqV] using z
    exact h (e ▸ hy)
theorem flat_ints (l : List Int) : (l.map V.int).all flatV = true := by
  rw [List.all_eq_true]
  intro x hx
  obtain ⟨y, _, rfl⟩ := List.mem_map.mp hx
  rfl
def selA (a : List Int) (x : T3) : Bool := decide (x.1 ∈ a) && !decide (x.2.2 ∈ a)
def selB (a : List Int) (x : T3) : Bool := decide (x.2.2 ∈ a) && !decide (x.1 ∈ a)
def turnA (fr : List T3) (a : List Int) : List Int := a ++ (fr.filter (selA a)).map fun x => x.2.2
def turnB (fr : List T3) (a : List Int) : List Int := a ++ (fr.filter (selB a)).map fun x => x.1
def flip3 (x : T3) : T3 := (x.2.2, x.2.1, x.1)
theorem turnB_eq (fr : List T3) (a : List Int) : turnB fr a = turnA (fr.map flip3) a := by
  unfold turnB turnA
  rw [List.filter_map, List.map_map]
  rfl
def its (f : List Int → List Int) : Nat → List Int
  | 0 => [0]
  | n + 1 => f (its f n)
theorem its_len {fr : List T3} {f : List Int → List Int} (h : ∀ a, (f a).length ≤ a.length + fr.length) : ∀ n, (its f n).length ≤ 1 + fr.length * n
  | 0 => by rw [its]; simp
  | n + 1 => by
    have a := its_len h n
    have b := h (its f n)
    rw [its, Nat.mul_succ]
    omega
theorem turnA_len (fr : List T3) (a : List Int) : (turnA fr a).length ≤ a.length + fr.length := by
  unfold turnA
  rw [List.length_append, List.length_map]
  have := List.length_filter_le (selA a) fr
  omega
theorem turnB_len (fr : List T3) (a : List Int) : (turnB fr a).length ≤ a.length + fr.length := by
  unfold turnB
  rw [List.length_append, List.length_map]
  have := List.length_filter_le (selB a) fr
  omega
def b2n (a : List Int) (k : Int) : Nat := if k ∈ a then 1 else 0
def cnt (a : List Int) : Nat := b2n a 0 + b2n a 1 + b2n a 2 + b2n a 3 + b2n a 4 + b2n a 5
theorem b2n_le (a : List Int) (k : Int) : b2n a k ≤ 1 := by
  unfold b2n
  split <;> omega
theorem b2n_mono {a b : List Int} (h : ∀ x ∈ a, x ∈ b) (k : Int) : b2n a k ≤ b2n b k := by
  unfold b2n
  by_cases e : k ∈ a
  · rw [if_pos e, if_pos (h k e)]
    exact Nat.le_refl _
  · rw [if_neg e]
    exact Nat.zero_le _
theorem b2n_new {a b : List Int} {k : Int} (h : k ∉ a) (g : k ∈ b) : b2n a k + 1 ≤ b2n b k := by
  unfold b2n
  rw [if_neg h, if_pos g]
  exact Nat.le_refl _
theorem cnt_le (a : List Int) : cnt a ≤ 6 := by
  unfold cnt
  have h := b2n_le a
  have := h 0
  have := h 1
  have := h 2
  have := h 3
  have := h 4
  have := h 5
  omega
theorem cnt_lt {a b : List Int} (h : ∀ x ∈ a, x ∈ b) {k : Int} (k0 : 0 ≤ k) (k5 : k ≤ 5) (n : k ∉ a) (g : k ∈ b) : cnt a + 1 ≤ cnt b := by
  have m := b2n_mono h
  have m0 := m 0
  have m1 := m 1
  have m2 := m 2
  have m3 := m 3
  have m4 := m 4
  have m5 := m 5
  have s := b2n_new n g
  unfold cnt
  rcases (show k = 0 ∨ k = 1 ∨ k = 2 ∨ k = 3 ∨ k = 4 ∨ k = 5 by omega) with rfl | rfl | rfl | rfl | rfl | rfl <;> omega
def CloJ (fr : List T3) (a : List Int) : Prop := ∀ x ∈ fr, x.1 ∈ a → x.2.2 ∈ a
theorem sat {fr : List T3} (h : ∀ x ∈ fr, 0 ≤ x.2.2 ∧ x.2.2 ≤ 5) : ∀ n, CloJ fr (its (turnA fr) n) ∨ n + 1 ≤ cnt (its (turnA fr) n)
  | 0 => .inr (by show 0 + 1 ≤ cnt [0]; decide)
  | n + 1 => by
    have ih := sat h n
    rw [its]
    generalize its (turnA fr) n = a at ih ⊢
    by_cases c : CloJ fr a
    · left
      have e : turnA fr a = a := by
        unfold turnA
        have : fr.filter (selA a) = [] := by
          rw [List.filter_eq_nil_iff]
          intro x hx z
          unfold selA at z
          rw [Bool.and_eq_true] at z
          have z2 : ¬ x.2.2 ∈ a := by simpa using z.2
          exact z2 (c x hx (of_decide_eq_true z.1))
        rw [this]
        simp
      rw [e]
      exact c
    · right
      obtain ⟨x, hx⟩ := Classical.not_forall.mp c
      obtain ⟨hx, z⟩ := Classical.not_imp.mp hx
      obtain ⟨h1, h2⟩ := Classical.not_imp.mp z
      obtain ⟨k0, k5⟩ := h x hx
      have l : cnt a + 1 ≤ cnt (turnA fr a) := cnt_lt (fun y hy => List.mem_append_left _ hy) k0 k5 h2 (List.mem_append_right _ (List.mem_map.mpr ⟨x, List.mem_filter.mpr ⟨hx, by unfold selA; rw [decide_eq_true h1, decide_eq_false h2]; rfl⟩, rfl⟩))
      rcases ih with ih | ih
      · exact absurd ih c
      · omega
theorem sound {fr : List T3} : ∀ n, ∀ g ∈ its (turnA fr) n, g = 0 ∨ Rch fr 0 g
  | 0, g, h => .inl (by simpa [its] using h)
  | n + 1, g, h => by
    have ih := sound (fr := fr) n
    rw [its] at h
    generalize its (turnA fr) n = a at ih h
    rcases List.mem_append.mp h with h | h
    · exact ih g h
    · obtain ⟨x, hx, rfl⟩ := List.mem_map.mp h
      obtain ⟨hx, z⟩ := List.mem_filter.mp hx
      unfold selA at z
      rw [Bool.and_eq_true] at z
      right
      rcases ih _ (of_decide_eq_true z.1) with e | e
      · exact rch_step hx e
      · exact rch_go hx e
theorem zero_in {f : List Int → List Int} (h : ∀ a, ∀ x ∈ a, x ∈ f a) : ∀ n, (0 : Int) ∈ its f n
  | 0 => by simp [its]
  | n + 1 => by
    rw [its]
    exact h _ _ (zero_in h n)
theorem its_iff {fr : List T3} (h : ∀ x ∈ fr, 0 ≤ x.2.2 ∧ x.2.2 ≤ 5) (g : Int) : g ∈ its (turnA fr) 7 ↔ g = 0 ∨ Rch fr 0 g := by
  refine ⟨sound 7 g, fun z => ?_⟩
  have c : CloJ fr (its (turnA fr) 7) := by
    rcases sat h 7 with c | c
    · exact c
    · have := cnt_le (its (turnA fr) 7)
      omega
  have z0 : (0 : Int) ∈ its (turnA fr) 7 := zero_in (fun a x hx => List.mem_append_left _ hx) 7
  rcases z with rfl | z
  · exact z0
  · exact z (fun g => g ∈ its (turnA fr) 7) (fun x hx e => c x hx (e ▸ z0)) c
theorem rch_trans {fr : List T3} {a b c : Int} (h1 : Rch fr a b) (h2 : Rch fr b c) : Rch fr a c := fun S c0 c1 => h2 S (fun x hx e => c1 x hx (by rw [e]; exact h1 S c0 c1)) c1
theorem rch_front {fr : List T3} {b g : Int} {y : T3} (hy : y ∈ fr) (e : y.1 = b) (h : Rch fr y.2.2 g) : Rch fr b g := rch_trans (rch_step hy e) h
theorem rch_flip {fr : List T3} {g b : Int} (h : Rch fr g b) : Rch (fr.map flip3) b g :=
  h (fun z => Rch (fr.map flip3) z g) (fun x hx e => rch_step (x := flip3 x) (List.mem_map.mpr ⟨x, hx, rfl⟩) rfl |> fun k => by
      have k : Rch (fr.map flip3) x.2.2 x.1 := k
      rw [e] at k
      exact k)
    (fun x hx k => rch_front (y := flip3 x) (List.mem_map.mpr ⟨x, hx, rfl⟩) rfl k)
theorem flip_flip (fr : List T3) : (fr.map flip3).map flip3 = fr := by
  rw [List.map_map]
  exact List.map_id fr
theorem rch_flip_iff {fr : List T3} {g b : Int} : Rch (fr.map flip3) b g ↔ Rch fr g b := ⟨fun h => by
  have z := rch_flip h
  rw [flip_flip] at z
  exact z, rch_flip⟩
theorem itsB {fr : List T3} : ∀ n, its (turnB fr) n = its (turnA (fr.map flip3)) n
  | 0 => rfl
  | n + 1 => by rw [its, its, itsB n, turnB_eq]
theorem itsB_iff {fr : List T3} (h : ∀ x ∈ fr, 0 ≤ x.1 ∧ x.1 ≤ 5) (g : Int) : g ∈ its (turnB fr) 7 ↔ g = 0 ∨ Rch fr g 0 := by
  rw [itsB, its_iff (fun x hx => by
    obtain ⟨y, hy, rfl⟩ := List.mem_map.mp hx
    exact h y hy), rch_flip_iff]
theorem jnd_iff {fr : List T3} (h : ∀ x ∈ fr, Stp x) : Jnd fr ↔ ∀ x ∈ fr, (x.1 ∈ its (turnA fr) 7 ∧ x.1 ∈ its (turnB fr) 7) ∧ (x.2.2 ∈ its (turnA fr) 7 ∧ x.2.2 ∈ its (turnB fr) 7) := by
  have A := its_iff (fr := fr) (fun x hx => by obtain ⟨_, _, _, a, b⟩ := h x hx; omega)
  have B := itsB_iff (fr := fr) (fun x hx => by obtain ⟨a, b, _⟩ := h x hx; omega)
  constructor
  · intro j x hx
    obtain ⟨⟨a, b⟩, c, d⟩ := j x hx
    exact ⟨⟨(A _).mpr (.inr a), (B _).mpr (.inr b)⟩, (A _).mpr (.inr c), (B _).mpr (.inr d)⟩
  · intro j x hx
    have z : Rch fr 0 0 := by
      obtain ⟨⟨a, b⟩, c, d⟩ := j x hx
      rcases (A _).mp a with e | e
      · have s := rch_step hx e
        rcases (B _).mp d with k | k
        · rw [k] at s
          exact s
        · exact rch_trans s k
      · rcases (B _).mp b with k | k
        · rw [k] at e
          exact e
        · exact rch_trans e k
    obtain ⟨⟨a, b⟩, c, d⟩ := j x hx
    refine ⟨⟨?_, ?_⟩, ?_, ?_⟩
    · rcases (A _).mp a with e | e
      · rw [e]; exact z
      · exact e
    · rcases (B _).mp b with e | e
      · rw [e]; exact z
      · exact e
    · rcases (A _).mp c with e | e
      · rw [e]; exact z
      · exact e
    · rcases (B _).mp d with e | e
      · rw [e]; exact z
      · exact e
def spJL : Sp := fun vs H Q _ => ∃ (a : Addr) (ts : List Addr) (fr : List T3), vs = [.ref a] ∧ H a = some (.lst (ts.map V.ref)) ∧ At3 H ts fr ∧ fr.length ≤ 16 ∧ (∀ x ∈ fr, Stp x) ∧
  ∀ (b : Bool) H', Same H H' → (b = true ↔ Jnd fr) → Q (.bl b) H'
structure Jl (K : PySem.W.Frag) (mg : Str → Option Value) where
  f : Addr
  d : FuncData
  F : Fun K "_law_is_joined" "_law_is_joined" sJL f d
  b : Binds K d ["steps"] []
  m : mg "_law_is_joined" = some (.ref f)
  ra : mg "range" = none
theorem filt_yes {p : T3 → Bool} {f : T3 → Int} {fr : List T3} {i : Nat} {y : T3} (hy : fr[i]? = some y) (h : p y = true) : ((fr.take (i + 1)).filter p).map f = ((fr.take i).filter p).map f ++ [f y] := by
  rw [take_one hy, List.filter_append, List.map_append]
  congr 1
  simp [h]
theorem filt_no {p : T3 → Bool} {f : T3 → Int} {fr : List T3} {i : Nat} {y : T3} (hy : fr[i]? = some y) (h : p y = false) : ((fr.take (i + 1)).filter p).map f = ((fr.take i).filter p).map f := by
  rw [take_one hy, List.filter_append, List.map_append]
  simp [h]
theorem filt_len {p : T3 → Bool} {f : T3 → Int} {fr : List T3} {i : Nat} (l16 : fr.length ≤ 16) : ((((fr.take i).filter p).map f).map V.int).length ≤ 16 := by
  rw [List.length_map, List.length_map]
  have a := List.length_filter_le p (fr.take i)
  rw [List.length_take] at a
  omega
theorem filtO_yes {p : Int → Bool} {l : List Int} {i : Nat} {y : Int} (hy : l[i]? = some y) (h : p y = true) : (l.take (i + 1)).filter p = (l.take i).filter p ++ [y] := by
  rw [take_one hy, List.filter_append]
  congr 1
  simp [h]
theorem filtO_no {p : Int → Bool} {l : List Int} {i : Nat} {y : Int} (hy : l[i]? = some y) (h : p y = false) : (l.take (i + 1)).filter p = (l.take i).filter p := by
  rw [take_one hy, List.filter_append]
  simp [h]
def selO (a b : List Int) (g : Int) : Bool := !decide (g ∈ a) || !decide (g ∈ b)
section
variable {P : Program} {w : World} {K : PySem.W.Frag} {mg : Str → Option Value} {base : Heap}
theorem scJL : FnScope ["steps", "here", "piece", "to", "some", "ahead", "back", "again", "one"] ["steps"] (defScope sJL) := ⟨rfl, rfl, rfl, by decide +kernel, rfl, by decide +kernel, by decide +kernel⟩
theorem ok_jl (R : Jl K mg) : FnOk P w K mg base CX0 1 R.f R.d ["steps"] spJL := by
  refine R.F.ok scJL (fun vs H Q E h => ?_) (fun cdv A outer s H vs Q E hr h => ?_)
  · obtain ⟨a, ts, fr, rfl, _⟩ := h
    rfl
  · obtain ⟨a, ts, fr, rfl, hf, at3, l16, stp, q⟩ := h
    have hu64 := hr.units
    refine ⟨_, pss_cons (ps_set (i := 4) scJL.nd rfl (Or.inl rfl) (pe_op op_cat (pe_lc (own := [("here", 1), ("piece", 2), ("to", 3)]) (g := gTup K 3 (gCons (gName 1) (gCons (gName 2) (gCons (gName 3) gNil)))) (te := tVar 1) rfl scJL.nd (pi_list (pv 0)) (blkOk_by (N := ["steps", "here", "piece", "to", "some", "ahead", "back", "again", "one"]) (sc := defScope sJL) (by decide +kernel))
        (fun _ _ _ _ _ => pg_tup rfl (pgs_cons (pg_name (i := 1) scJL.nd rfl (Or.inl rfl)) (pgs_cons (pg_name (i := 2) scJL.nd rfl (Or.inl rfl)) (pgs_cons (pg_name (i := 3) scJL.nd rfl (Or.inl rfl)) pgs_nil))))
        (fun _ _ _ _ _ => pts_nil) (fun _ _ _ _ _ => pv 1)) (pe_lc (own := [("here", 1), ("piece", 2), ("to", 3)]) (g := gTup K 3 (gCons (gName 1) (gCons (gName 2) (gCons (gName 3) gNil)))) (te := tVar 3) rfl scJL.nd (pi_list (pv 0)) (blkOk_by (N := ["steps", "here", "piece", "to", "some", "ahead", "back", "again", "one"]) (sc := defScope sJL) (by decide +kernel))
        (fun _ _ _ _ _ => pg_tup rfl (pgs_cons (pg_name (i := 1) scJL.nd rfl (Or.inl rfl)) (pgs_cons (pg_name (i := 2) scJL.nd rfl (Or.inl rfl)) (pgs_cons (pg_name (i := 3) scJL.nd rfl (Or.inl rfl)) pgs_nil))))
        (fun _ _ _ _ _ => pts_nil) (fun _ _ _ _ _ => pv 3))))
      (pss_cons (ps_asg (pe_tup (pa_cons (pe_lst (pa_cons pe_int pa_nil)) (pa_cons (pe_lst (pa_cons pe_int pa_nil)) pa_nil))) (pg_tup rfl (pgs_cons (pg_name (i := 5) scJL.nd rfl (Or.inr rfl)) (pgs_cons (pg_name (i := 6) scJL.nd rfl (Or.inr rfl)) pgs_nil))))
      (pss_cons (ps_for PassesOwn.never rfl (pi_range1 (by rfl) R.ra (pa_cons pe_int pa_nil)) (pg_name (i := 7) scJL.nd rfl (Or.inl rfl))
        (pss_cons (ps_set (i := 5) scJL.nd rfl (Or.inr rfl) (pe_op op_cat (pv 5) (pe_lc (own := [("here", 1), ("piece", 2), ("to", 3)]) (g := gTup K 3 (gCons (gName 1) (gCons (gName 2) (gCons (gName 3) gNil)))) (tt := tAnd (tTest (tOp (rIn K false) (tVar 1) (tVar 5))) (tTest (tOp (rIn K true) (tVar 3) (tVar 5)))) (te := tVar 3) rfl scJL.nd (pi_list (pv 0)) (blkOk_by (N := ["steps", "here", "piece", "to", "some", "ahead", "back", "again", "one"]) (sc := defScope sJL) (by decide +kernel))
        (fun _ _ _ _ _ => pg_tup rfl (pgs_cons (pg_name (i := 1) scJL.nd rfl (Or.inl rfl)) (pgs_cons (pg_name (i := 2) scJL.nd rfl (Or.inl rfl)) (pgs_cons (pg_name (i := 3) scJL.nd rfl (Or.inl rfl)) pgs_nil))))
        (fun _ _ _ _ _ => pts_one (pw_and (pt_cmpR op_in_seq (pv 1) (pv 5) (by rfl)) (pw_and1 (pt_cmpR op_notIn_seq (pv 3) (pv 5) (by rfl)))).pt) (fun _ _ _ _ _ => pv 3))))
        (pss_one (ps_set (i := 6) scJL.nd rfl (Or.inr rfl) (pe_op op_cat (pv 6) (pe_lc (own := [("here", 1), ("piece", 2), ("to", 3)]) (g := gTup K 3 (gCons (gName 1) (gCons (gName 2) (gCons (gName 3) gNil)))) (tt := tAnd (tTest (tOp (rIn K false) (tVar 3) (tVar 6))) (tTest (tOp (rIn K true) (tVar 1) (tVar 6)))) (te := tVar 1) rfl scJL.nd (pi_list (pv 0)) (blkOk_by (N := ["steps", "here", "piece", "to", "some", "ahead", "back", "again", "one"]) (sc := defScope sJL) (by decide +kernel))
        (fun _ _ _ _ _ => pg_tup rfl (pgs_cons (pg_name (i := 1) scJL.nd rfl (Or.inl rfl)) (pgs_cons (pg_name (i := 2) scJL.nd rfl (Or.inl rfl)) (pgs_cons (pg_name (i := 3) scJL.nd rfl (Or.inl rfl)) pgs_nil))))
        (fun _ _ _ _ _ => pts_one (pw_and (pt_cmpR op_in_seq (pv 3) (pv 6) (by rfl)) (pw_and1 (pt_cmpR op_notIn_seq (pv 1) (pv 6) (by rfl)))).pt) (fun _ _ _ _ _ => pv 1)))))))
      (pss_one (ps_ret (pe_cmpR (op_eqD hu64) (pe_lc (own := [("one", 8)]) (g := gName 8) (tt := tOr (tTest (tOp (rIn K true) (tVar 8) (tVar 5))) (tTest (tOp (rIn K true) (tVar 8) (tVar 6)))) (te := tVar 8) rfl scJL.nd (pi_list (pv 4)) (blkOk_by (N := ["steps", "here", "piece", "to", "some", "ahead", "back", "again", "one"]) (sc := defScope sJL) (by decide +kernel))
        (fun _ _ _ _ _ => pg_name (i := 8) scJL.nd rfl (Or.inl rfl))
        (fun _ _ _ _ _ => pts_one (pw_or (pt_cmpR op_notIn_seq (pv 8) (pv 5) (by rfl)) (pw_or1 (pt_cmpR op_notIn_seq (pv 8) (pv 6) (by rfl)))).pt) (fun _ _ _ _ _ => pv 8)) (pe_lst pa_nil) (nomark _)))))), ?_⟩
    have tl : (ts.map V.ref).length = fr.length := by rw [List.length_map, at3.1]
    refine ⟨_, rfl, a, rfl, ⟨_, SqL.of hf⟩, fun D1 hD1 => ?_⟩
    have il16 : ∀ {i : Nat} {y : T3}, fr[i]? = some y → i < 16 := fun {i y} e => by
      have := (List.getElem?_eq_some_iff.mp e).1
      omega
    refine lc_it (walk_list (xs := ts.map V.ref)) (fun i H' => H' D1 = some (.lst (((fr.take i).map fun x => x.1).map V.int)) ∧ Same H H') ⟨upd_same, same_upd hD1⟩ (fun i H' _ z => SqL.of (z.2 _ _ hf)) ?_ ?_
    · rintro i x H2 H3 hi ⟨hd, s2⟩ ⟨rfl, hx⟩
      obtain ⟨t, y, hy, rfl, e4⟩ := at_step (i := i) at3.1 at3.2 hx
      have il := il16 hy
      refine ⟨t, _, rfl, SqT.of (s2 _ _ e4), rfl, _, _, rfl, _, _, rfl, _, _, rfl, rfl, rfl, ?_⟩
      refine ⟨_, rfl, _, hd, by rw [List.length_map, List.length_map, List.length_take, sizeLine_eq]; omega, ?_, same_push hD1 s2⟩
      rw [take_one hy, List.map_append, List.map_append]
      exact upd_same
    · rintro H2 ⟨hd, s2⟩
      rw [tl, List.take_length] at hd
      refine ⟨_, rfl, a, rfl, ⟨_, SqL.of (s2 _ _ hf)⟩, fun D2 hD2 => ?_⟩
      refine lc_it (walk_list (xs := ts.map V.ref)) (fun i H' => H' D2 = some (.lst (((fr.take i).map fun x => x.2.2).map V.int)) ∧ Same H2 H') ⟨upd_same, same_upd hD2⟩ (fun i H' _ z => SqL.of (z.2 _ _ (s2 _ _ hf))) ?_ ?_
      · rintro i x H3 H4 hi ⟨hd2, s3⟩ ⟨rfl, hx⟩
        obtain ⟨t, y, hy, rfl, e4⟩ := at_step (i := i) at3.1 at3.2 hx
        have il := il16 hy
        refine ⟨t, _, rfl, SqT.of (s3 _ _ (s2 _ _ e4)), rfl, _, _, rfl, _, _, rfl, _, _, rfl, rfl, rfl, ?_⟩
        refine ⟨_, rfl, _, hd2, by rw [List.length_map, List.length_map, List.length_take, sizeLine_eq]; omega, ?_, same_push hD2 s3⟩
        rw [take_one hy, List.map_append, List.map_append]
        exact upd_same
      · rintro H3 ⟨hd2, s3⟩
        rw [tl, List.take_length] at hd2
        refine ⟨D1, D2, _, _, rfl, rfl, s3 _ _ hd, hd2, by rw [List.length_map, List.length_map, List.length_map, List.length_map, sizeLine_eq]; omega, fun S hS => ?_⟩
        have sS := same_upd (o := HO.lst ((fr.map fun x => x.1).map V.int ++ (fr.map fun x => x.2.2).map V.int)) hS
        have s4 := (s2.trans s3).trans sS
        refine ⟨(by show 1 ≤ sizeLine; decide), fun A0 hA0 => ⟨(by show 1 ≤ sizeLine; decide), fun B0 hB0 => ⟨(by show 2 ≤ sizeLine; decide), fun p0 hp0 => ?_⟩⟩⟩
        have uA := same_upd (o := HO.lst [V.int 0]) hA0
        have uB := same_upd (o := HO.lst [V.int 0]) hB0
        have uP := same_upd (o := HO.tup [V.ref A0, V.ref B0]) hp0
        refine ⟨p0, _, rfl, SqT.of upd_same, rfl, _, _, rfl, _, _, rfl, rfl, ?_⟩
        have hS0 := uP _ _ (uB _ _ (uA _ _ (upd_same (H := H3) (a := S) (o := HO.lst ((fr.map fun x => x.1).map V.int ++ (fr.map fun x => x.2.2).map V.int)))))
        have hA1 := uP _ _ (uB _ _ (upd_same (a := A0) (o := HO.lst [V.int 0])))
        have hB1 := uP _ _ (upd_same (a := B0) (o := HO.lst [V.int 0]))
        have s4 := ((s4.trans uA).trans uB).trans uP

        generalize upd _ p0 _ = H4 at hS0 hA1 hB1 s4 ⊢
        refine ⟨7, rfl, by decide, by decide, for_it walk_range (fun k σ H' => ∃ (A' B' : Addr) (v7 : Option V), σ = [some (.ref a), none, none, none, some (.ref S), some (.ref A'), some (.ref B'), v7, none] ∧ H' A' = some (.lst ((its (turnA fr) k).map V.int)) ∧ H' B' = some (.lst ((its (turnB fr) k).map V.int)) ∧ Same H4 H')
          ⟨A0, B0, none, rfl, hA1, hB1, Same.refl _⟩ (fun _ _ _ _ _ => trivial) ?_ ?_⟩
        · rintro k x σ H5' H5 hk ⟨A', B', v7, rfl, hA', hB', s5⟩ ⟨rfl, rfl⟩
          have hk : k < 7 := hk
          refine ⟨_, rfl, _, rfl, a, rfl, ⟨_, SqL.of ((s4.trans s5) _ _ hf)⟩, fun D5 hD5 => ?_⟩
          refine lc_it (walk_list (xs := ts.map V.ref)) (fun i H' => H' D5 = some (.lst ((((fr.take i).filter (selA (its (turnA fr) k))).map fun x => x.2.2).map V.int)) ∧ Same H5 H') ⟨upd_same, same_upd hD5⟩ (fun i H' _ z => SqL.of (z.2 _ _ ((s4.trans s5) _ _ hf))) ?_ ?_
          · rintro i x H7 H6 hi6 ⟨hd6, s6⟩ ⟨rfl, hx⟩
            obtain ⟨t, y, hy, rfl, e4⟩ := at_step (i := i) at3.1 at3.2 hx
            refine ⟨t, _, rfl, SqT.of (s6 _ _ ((s4.trans s5) _ _ e4)), rfl, _, _, rfl, _, _, rfl, _, _, rfl, rfl, rfl, ?_⟩
            refine ⟨_, rfl, _, rfl, _, _, rfl, .inl (SqL.of (s6 _ _ hA')), rfl, flat_ints _, _, rfl, ?_⟩
            have no : selA (its (turnA fr) k) y = false → H6 D5 = some (.lst ((((fr.take (i + 1)).filter (selA (its (turnA fr) k))).map fun x => x.2.2).map V.int)) ∧ Same H5 H6 := fun e => by
              rw [filt_no hy e]
              exact ⟨hd6, s6⟩
            by_cases m1 : y.1 ∈ (its (turnA fr) k)
            · refine iteT' (by show inV _ _ = true; rw [inV_ints, decide_eq_true m1]) ?_
              refine ⟨_, rfl, _, rfl, _, _, rfl, .inl (SqL.of (s6 _ _ hA')), rfl, flat_ints _, _, rfl, ?_⟩
              by_cases m2 : y.2.2 ∈ (its (turnA fr) k)
              · refine iteF' (by show (!inV _ _) = false; rw [inV_ints, decide_eq_true m2]; rfl) (no (by unfold selA; rw [decide_eq_true m1, decide_eq_true m2]; rfl))
              · refine iteT' (by show (!inV _ _) = true; rw [inV_ints, decide_eq_false m2]; rfl) ⟨_, rfl, _, hd6, by
                  have := filt_len (p := selA (its (turnA fr) k)) (f := fun x => x.2.2) (i := i) l16
                  rw [sizeLine_eq]; omega, ?_, same_push hD5 s6⟩
                rw [filt_yes hy (by unfold selA; rw [decide_eq_true m1, decide_eq_false m2]; rfl), List.map_append]
                exact upd_same
            · refine iteF' (by show inV _ _ = false; rw [inV_ints, decide_eq_false m1]) ?_
              exact iteF' rfl (no (by unfold selA; rw [decide_eq_false m1]; rfl))
          · rintro H6 ⟨hd6, s6⟩
            rw [tl, List.take_length] at hd6
            refine ⟨_, _, _, _, rfl, rfl, s6 _ _ hA', hd6, by
              have z1 := its_len (turnA_len fr) k
              have z2 := Nat.mul_le_mul l16 (show k ≤ 6 by omega)
              have z3 := List.length_filter_le (selA (its (turnA fr) k)) fr
              rw [List.length_map, List.length_map, List.length_map, sizeLine_eq]; omega, fun A2 hA2 => ?_⟩
            have s8 := s5.trans (s6.trans (same_upd (o := HO.lst ((its (turnA fr) k).map V.int ++ ((fr.filter (selA (its (turnA fr) k))).map fun x => x.2.2).map V.int)) hA2))
            have hA8 : (upd H6 A2 (HO.lst ((its (turnA fr) k).map V.int ++ ((fr.filter (selA (its (turnA fr) k))).map fun x => x.2.2).map V.int))) A2 = some (.lst ((its (turnA fr) (k + 1)).map V.int)) := by
              rw [its]
              unfold turnA
              rw [List.map_append]
              exact upd_same
            have hB8 := (same_upd (o := HO.lst ((its (turnA fr) k).map V.int ++ ((fr.filter (selA (its (turnA fr) k))).map fun x => x.2.2).map V.int)) hA2) _ _ (s6 _ _ hB')
            generalize upd H6 A2 (HO.lst ((its (turnA fr) k).map V.int ++ ((fr.filter (selA (its (turnA fr) k))).map fun x => x.2.2).map V.int)) = H8 at s8 hA8 hB8 ⊢
            refine ⟨_, rfl, _, rfl, a, rfl, ⟨_, SqL.of ((s4.trans s8) _ _ hf)⟩, fun D8 hD8 => ?_⟩
            refine lc_it (walk_list (xs := ts.map V.ref)) (fun i H' => H' D8 = some (.lst ((((fr.take i).filter (selB (its (turnB fr) k))).map fun x => x.1).map V.int)) ∧ Same H8 H') ⟨upd_same, same_upd hD8⟩ (fun i H' _ z => SqL.of (z.2 _ _ ((s4.trans s8) _ _ hf))) ?_ ?_
            · rintro i x H7 H6 hi6 ⟨hd6, s6⟩ ⟨rfl, hx⟩
              obtain ⟨t, y, hy, rfl, e4⟩ := at_step (i := i) at3.1 at3.2 hx
              refine ⟨t, _, rfl, SqT.of (s6 _ _ ((s4.trans s8) _ _ e4)), rfl, _, _, rfl, _, _, rfl, _, _, rfl, rfl, rfl, ?_⟩
              refine ⟨_, rfl, _, rfl, _, _, rfl, .inl (SqL.of (s6 _ _ hB8)), rfl, flat_ints _, _, rfl, ?_⟩
              have no : selB (its (turnB fr) k) y = false → H6 D8 = some (.lst ((((fr.take (i + 1)).filter (selB (its (turnB fr) k))).map fun x => x.1).map V.int)) ∧ Same H8 H6 := fun e => by
                rw [filt_no hy e]
                exact ⟨hd6, s6⟩
              by_cases m1 : y.2.2 ∈ (its (turnB fr) k)
              · refine iteT' (by show inV _ _ = true; rw [inV_ints, decide_eq_true m1]) ?_
                refine ⟨_, rfl, _, rfl, _, _, rfl, .inl (SqL.of (s6 _ _ hB8)), rfl, flat_ints _, _, rfl, ?_⟩
                by_cases m2 : y.1 ∈ (its (turnB fr) k)
                · refine iteF' (by show (!inV _ _) = false; rw [inV_ints, decide_eq_true m2]; rfl) (no (by unfold selB; rw [decide_eq_true m1, decide_eq_true m2]; rfl))
                · refine iteT' (by show (!inV _ _) = true; rw [inV_ints, decide_eq_false m2]; rfl) ⟨_, rfl, _, hd6, by
                    have := filt_len (p := selB (its (turnB fr) k)) (f := fun x => x.1) (i := i) l16
                    rw [sizeLine_eq]; omega, ?_, same_push hD8 s6⟩
                  rw [filt_yes hy (by unfold selB; rw [decide_eq_true m1, decide_eq_false m2]; rfl), List.map_append]
                  exact upd_same
              · refine iteF' (by show inV _ _ = false; rw [inV_ints, decide_eq_false m1]) ?_
                exact iteF' rfl (no (by unfold selB; rw [decide_eq_false m1]; rfl))
            · rintro H6 ⟨hd6, s6⟩
              rw [tl, List.take_length] at hd6
              refine ⟨_, _, _, _, rfl, rfl, s6 _ _ hB8, hd6, by
                have z1 := its_len (turnB_len fr) k
                have z2 := Nat.mul_le_mul l16 (show k ≤ 6 by omega)
                have z3 := List.length_filter_le (selB (its (turnB fr) k)) fr
                rw [List.length_map, List.length_map, List.length_map, sizeLine_eq]; omega, fun B2 hB2 => ?_⟩
              have s9 := s8.trans (s6.trans (same_upd (o := HO.lst ((its (turnB fr) k).map V.int ++ ((fr.filter (selB (its (turnB fr) k))).map fun x => x.1).map V.int)) hB2))
              refine ⟨A2, B2, _, rfl, ?_, ?_, s9⟩
              · exact (same_upd hB2) _ _ (s6 _ _ hA8)
              · rw [its]
                unfold turnB
                rw [List.map_append]
                exact upd_same


        · rintro σ H5 ⟨A', B', v7, rfl, hA', hB', s5⟩
          have hA' : H5 A' = some (.lst ((its (turnA fr) 7).map V.int)) := hA'
          have hB' : H5 B' = some (.lst ((its (turnB fr) 7).map V.int)) := hB'
          have e7 := jnd_iff stp
          generalize its (turnA fr) 7 = L1 at hA' e7
          generalize its (turnB fr) 7 = L2 at hB' e7
          rw [← List.map_append] at hS0
          have hS5 := s5 _ _ hS0
          have eJ : (∀ g ∈ fr.map (fun x => x.1) ++ fr.map (fun x => x.2.2), g ∈ L1 ∧ g ∈ L2) ↔ Jnd fr := by
            rw [e7]
            constructor
            · intro h x hx
              exact ⟨h _ (List.mem_append_left _ (List.mem_map.mpr ⟨x, hx, rfl⟩)), h _ (List.mem_append_right _ (List.mem_map.mpr ⟨x, hx, rfl⟩))⟩
            · intro h g hg
              rcases List.mem_append.mp hg with hg | hg
              · obtain ⟨x, hx, rfl⟩ := List.mem_map.mp hg
                exact (h x hx).1
              · obtain ⟨x, hx, rfl⟩ := List.mem_map.mp hg
                exact (h x hx).2
          have lsm : (fr.map (fun x => x.1) ++ fr.map (fun x => x.2.2)).length ≤ 32 := by rw [List.length_append, List.length_map, List.length_map]; omega
          generalize fr.map (fun x => x.1) ++ fr.map (fun x => x.2.2) = sm at hS5 eJ lsm
          refine ⟨_, rfl, S, rfl, ⟨_, SqL.of hS5⟩, fun D9 hD9 => ?_⟩
          refine lc_it (walk_list (xs := sm.map V.int)) (fun i H' => H' D9 = some (.lst (((sm.take i).filter (selO L1 L2)).map V.int)) ∧ Same H5 H') ⟨upd_same, same_upd hD9⟩ (fun i H' _ z => SqL.of (z.2 _ _ hS5)) ?_ ?_
          · rintro i x H7 H6 hi6 ⟨hd6, s6⟩ ⟨rfl, hx⟩
            obtain ⟨g, hy, rfl⟩ : ∃ g, sm[i]? = some g ∧ x = .int g := by
              rw [List.getElem?_map] at hx
              cases e : sm[i]? with
              | none =>
                rw [e] at hx
                cases hx
              | some g =>
                rw [e] at hx
                exact ⟨g, rfl, (Option.some.inj hx).symm⟩
            have yes : selO L1 L2 g = true → ∃ acc, H6 D9 = some (.lst acc) ∧ acc.length < sizeLine ∧ (upd H6 D9 (.lst (acc ++ [V.int g]))) D9 = some (.lst (((sm.take (i + 1)).filter (selO L1 L2)).map V.int)) ∧ Same H5 (upd H6 D9 (.lst (acc ++ [V.int g]))) := fun e => by
              refine ⟨_, hd6, ?_, ?_, same_push hD9 s6⟩
              · have a := List.length_filter_le (selO L1 L2) (sm.take i)
                rw [List.length_take] at a
                rw [List.length_map, sizeLine_eq]
                omega
              · rw [filtO_yes hy e, List.map_append]
                exact upd_same
            refine ⟨rfl, _, rfl, _, rfl, _, _, rfl, .inl (SqL.of (s6 _ _ hA')), rfl, flat_ints _, _, rfl, ?_⟩
            by_cases m1 : g ∈ L1
            · refine iteF' (by show (!inV _ _) = false; rw [inV_ints, decide_eq_true m1]; rfl) ?_
              refine ⟨_, rfl, _, rfl, _, _, rfl, .inl (SqL.of (s6 _ _ hB')), rfl, flat_ints _, _, rfl, ?_⟩
              by_cases m2 : g ∈ L2
              · refine iteF' (by show (!inV _ _) = false; rw [inV_ints, decide_eq_true m2]; rfl) ?_
                rw [filtO_no hy (by unfold selO; rw [decide_eq_true m1, decide_eq_true m2]; rfl)]
                exact ⟨hd6, s6⟩
              · refine iteT' (by show (!inV _ _) = true; rw [inV_ints, decide_eq_false m2]; rfl) ⟨_, rfl, ?_⟩
                exact yes (by unfold selO; rw [decide_eq_false m2]; simp)
            · refine iteT' (by show (!inV _ _) = true; rw [inV_ints, decide_eq_false m1]; rfl) (iteT' rfl ⟨_, rfl, ?_⟩)
              exact yes (by unfold selO; rw [decide_eq_false m1]; rfl)
          · rintro H6 ⟨hd6, s6⟩
            rw [List.length_map, List.take_length] at hd6
            refine ⟨(by decide), fun p9 h9 => ?_⟩
            have u9 := same_upd (o := HO.lst []) h9
            refine ⟨_, .list [], dp_list (u9 _ _ hd6), Da.dp _ _ (.lst upd_same .nil), shaped_ints _, (by decide +kernel), ?_⟩
            rw [eqv_nil]
            refine q _ _ (s4.trans (s5.trans (s6.trans u9))) ?_
            rw [← eJ, List.isEmpty_iff, List.filter_eq_nil_iff]
            constructor
            · intro h g hg
              have z := h g hg
              unfold selO at z
              simpa using z
            · intro h g hg z
              have k := h g hg
              unfold selO at z
              rw [decide_eq_true k.1, decide_eq_true k.2] at z
              cases z
end
end K45

set_option Elab.async false
set_option linter.all false
set_option maxRecDepth 100000
set_option maxHeartbeats 4000000
/-! Texts and their bounds. -/
namespace K45
open PySem L2 L2.EV
/-- a text of signs -/
def OkT (t : Str) : Prop := ∀ c ∈ sl t, c < 0x110000
theorem okT_iff {t : Str} : PyData.strOk t = true ↔ OkT t := by
  unfold PyData.strOk OkT
  rw [← Array.all_toList, List.all_eq_true]
  exact ⟨fun h c hc => of_decide_eq_true (h c hc), fun h c hc => decide_eq_true (h c hc)⟩
theorem app_len (a b : Str) : (a ++ b).length = a.length + b.length := by
  rw [len_sl, len_sl, len_sl, sl_app, List.length_append]
theorem okT_app {a b : Str} (ha : OkT a) (hb : OkT b) : OkT (a ++ b) := fun c hc => by
  rw [sl_app] at hc
  rcases List.mem_append.mp hc with h | h
  · exact ha c h
  · exact hb c h
theorem mem_join {s : Str} {c : Nat} : ∀ {ys : List Str} {y : Str}, y ∈ ys → c ∈ sl y → c ∈ sl (Str.join s ys)
  | [], _, h, _ => by cases h
  | [x], y, h, hc => by
    rw [List.mem_singleton.mp h] at hc
    exact hc
  | x :: z :: r, y, h, hc => by
    show c ∈ sl (x ++ s ++ Str.join s (z :: r))
    rw [sl_app, sl_app]
    rcases List.mem_cons.mp h with rfl | h
    · exact List.mem_append_left _ (List.mem_append_left _ hc)
    · exact List.mem_append_right _ (mem_join h hc)
theorem okT_Join {s : Str} (hs : OkT s) : ∀ {ys : List Str}, (∀ y ∈ ys, OkT y) → OkT (Str.join s ys)
  | [], _ => fun c hc => by cases hc
  | [x], h => h x (List.mem_cons_self ..)
  | x :: z :: r, h => okT_app (okT_app (h x (List.mem_cons_self ..)) hs) (okT_Join hs fun y hy => h y (List.mem_cons_of_mem _ hy))
theorem okT_join {s : Str} (hs : OkT s) {ys : List Str} (h : ∀ y ∈ ys, OkT y) : OkT (Txt.join s ys) := by
  rw [eq_of_beq (PyProof.Rows.join_plain_closes s ys)]
  exact okT_Join hs h
theorem okT_split {t s x : Str} (h : OkT t) (hx : x ∈ Txt.split t s) : OkT x := fun c hc => by
  have z := mem_join (s := s) hx hc
  rw [StrLaws.join_split t s] at z
  exact h c z
theorem okT_cut {t : Str} (h : OkT t) (lo hi : Option Int) : OkT (cutS t lo hi) := fun c hc => by
  have hc : c ∈ ((sl t).drop (HT.sIx t.length 0 lo)).take (HT.sIx t.length t.length hi - HT.sIx t.length 0 lo) := hc
  exact h c (List.mem_of_mem_drop (List.mem_of_mem_take hc))
theorem okT_nl : OkT "\n" := by unfold OkT; decide +kernel
theorem okT_sp : OkT " " := by unfold OkT; decide +kernel
/-- a list of texts with their separators -/
def Wt (ys : List Str) : Nat := (ys.map (·.length)).sum + ys.length
theorem wt_app (a b : List Str) : Wt (a ++ b) = Wt a + Wt b := by
  unfold Wt
  rw [List.map_append, List.sum_append, List.length_append]
  omega
theorem wt_one (x : Str) : Wt [x] = x.length + 1 := by
  unfold Wt
  simp
theorem wt_take (n : Nat) (l : List Str) : Wt (l.take n) ≤ Wt l := by
  have z := wt_app (l.take n) (l.drop n)
  rw [List.take_append_drop] at z
  omega
theorem wt_drop (n : Nat) (l : List Str) : Wt (l.drop n) ≤ Wt l := by
  have z := wt_app (l.take n) (l.drop n)
  rw [List.take_append_drop] at z
  omega
theorem wt_len (l : List Str) : l.length ≤ Wt l := Nat.le_add_left _ _
theorem wt_mem {l : List Str} {x : Str} (h : x ∈ l) : x.length + 1 ≤ Wt l := by
  obtain ⟨a, b, rfl⟩ := List.append_of_mem h
  have e : a ++ x :: b = a ++ ([x] ++ b) := rfl
  rw [e, wt_app, wt_app, wt_one]
  omega
theorem wt_split {t s : Str} (hs : 1 ≤ s.length) : Wt (Txt.split t s) ≤ t.length + 1 := PyProof.Rows.split_weight t s hs
theorem len_join {s : Str} (hs : s.length = 1) (ys : List Str) : (Txt.join s ys).length ≤ Wt ys := by
  rw [eq_of_beq (PyProof.Rows.join_plain_closes s ys)]
  cases ys with
  | nil => exact Nat.zero_le _
  | cons a l =>
    rw [PyProof.Rows.len_join_cons, hs]
    unfold Wt
    rw [List.length_cons]
    omega
/-- what mt_join asks -/
theorem join_asks {s : Str} (hs : s.length = 1) {ys : List Str} (h : Wt ys ≤ 100000) : (ys.map (·.length)).sum + ys.length * s.length ≤ 16777216 := by
  rw [hs]
  unfold Wt at h
  omega
def cutL (ys : List Str) (lo hi : Option Int) : List Str := (ys.drop (HT.sIx ys.length 0 lo)).take (HT.sIx ys.length ys.length hi - HT.sIx ys.length 0 lo)
theorem cutV_strs (ys : List Str) (lo hi : Option Int) : cutV (ys.map V.str) lo hi = (cutL ys lo hi).map V.str := by
  unfold cutV cutL
  rw [List.length_map, List.map_take, List.map_drop]
theorem wt_cut (ys : List Str) (lo hi : Option Int) : Wt (cutL ys lo hi) ≤ Wt ys := Nat.le_trans (wt_take _ _) (wt_drop _ _)
theorem mem_cut {ys : List Str} {lo hi : Option Int} {y : Str} (h : y ∈ cutL ys lo hi) : y ∈ ys := List.mem_of_mem_drop (List.mem_of_mem_take h)
theorem wt_set {l : List Str} {n : Nat} {x : Str} (h : n < l.length) : Wt (l.set n x) ≤ Wt l + x.length + 1 := by
  rw [List.set_eq_take_append_cons_drop, if_pos h]
  have e : l.take n ++ x :: l.drop (n + 1) = l.take n ++ ([x] ++ l.drop (n + 1)) := rfl
  rw [e, wt_app, wt_app, wt_one]
  have z := wt_app (l.take n) (l.drop n)
  rw [List.take_append_drop] at z
  have z2 := wt_drop 1 (l.drop n)
  rw [List.drop_drop] at z2
  omega
theorem mem_set {l : List Str} {n : Nat} {x y : Str} (h : y ∈ l.set n x) : y = x ∨ y ∈ l := by
  rcases List.mem_or_eq_of_mem_set h with h | h
  · exact .inr h
  · exact .inl h
/-! ### "x" * 9 -/
def repS (a : Str) (n : Int) : Str := ⟨(List.replicate n.toNat a.cps).foldl (· ++ ·) #[]⟩
theorem rep_size (a : Array Nat) : ∀ (k : Nat) (acc : Array Nat), ((List.replicate k a).foldl (· ++ ·) acc).size = acc.size + k * a.size
  | 0, acc => by simp
  | k + 1, acc => by
    rw [List.replicate_succ, List.foldl_cons, rep_size a k, Array.size_append, Nat.succ_mul]
    omega
def rMulS : R2 := fun x y H Q => ∃ (a : Str) (n : Int), x = .str a ∧ y = .int n ∧ 2 ≤ n ∧ n ≤ 1000 ∧ 1 ≤ a.length ∧ a.length ≤ 1000 ∧ Q (.str (repS a n)) H
theorem op_mulS {X : Cx} : OpR X (binaryOp .Mult) rMulS := by
  intro pins s σ H x y v u Q I rx ry h
  obtain ⟨a, n, rfl, rfl, h1, h2, h3, h4, q⟩ := h
  obtain ⟨t, rfl⟩ := rx
  obtain ⟨t', rfl⟩ := ry
  obtain ⟨k, rfl⟩ := Int.eq_ofNat_of_zero_le (show 0 ≤ n by omega)
  have ml : a.length * k ≤ 1000 * 1000 := Nat.mul_le_mul h4 (by omega)
  have e0 : (decide ((k : Int) = 1)) = false := decide_eq_false (by omega)
  have e1 : ((k : Int) == 1 || a.length == 0) = false := by
    rw [Bool.or_eq_false_iff]
    exact ⟨by simp; omega, by simp; intro z; rw [z] at h3; simp at h3⟩
  refine P.mul_str (by rw [decide_eq_false (by omega), decide_eq_false (by omega)]; rfl) (fun _ _ => ?_) (fun _ _ => ?_) ?_
  · have z : (1000000 : Int) ≤ (2 ^ 63 - 1) / (k : Int) := by
      refine Int.le_ediv_of_mul_le (by omega) ?_
      omega
    omega
  · show decide (a.length * ((k : Int)).toNat > sizeLine) = false
    rw [sizeLine_eq]
    refine decide_eq_false ?_
    rw [Int.toNat_natCast]
    omega
  · rw [if_neg (by omega), e1, if_neg (by decide)]
    simp only [Made.post]
    refine ⟨?_, .str (repS a (k : Int)), H, I.tok _, ⟨_, rfl⟩, q⟩
    show ((List.replicate ((k : Int)).toNat a.cps).foldl (· ++ ·) #[]).size ≤ sizeLine
    rw [rep_size, Int.toNat_natCast, sizeLine_eq]
    have z : k * a.cps.size ≤ 1000 * 1000 := Nat.mul_le_mul (by omega) h4
    simp only [List.size_toArray, List.length_nil]
    omega
end K45

set_option Elab.async false
set_option linter.all false
set_option maxRecDepth 100000
set_option maxHeartbeats 4000000
/-! The law's own reader: _law_text_due. -/
namespace K45
open PySem L2 L2.EV
abbrev sDT : Stmt := top 37
def spDT : Sp := fun vs H Q _ => ∃ t : Str, vs = [.str t] ∧ t.length ≤ 6000 ∧ OkT t ∧ match dueT t with
  | some (x, y) => ∀ H' p, Same H H' → H p = none → H' p = some (.tup [.str "text", .int x, .int y]) → Q (.ref p) H'
  | none => ∀ H' p f, Same H H' → H p = none → H' p = some (.lst [.ref f]) → FrA H' f (frOf t) → Q (.ref p) H'
theorem wrong_pos {ws : List Str} {n : Nat} (h : wrongW ws = some n) : 1 ≤ n := by
  unfold wrongW at h
  split at h
  · cases h
    decide
  · split at h
    · cases h
      decide
    · split at h
      · cases h
        decide
      · split at h
        · cases h
        · cases h
          decide
structure Dt (K : PySem.W.Frag) (mg : Str → Option Value) where
  J : Jl K mg
  L : Lp K mg
  f : Addr
  d : FuncData
  F : Fun K "_law_text_due" "_law_text_due" sDT f d
  b : Binds K d ["text"] []
  m : mg "_law_text_due" = some (.ref f)
  en : mg "enumerate" = none
  tu : mg "tuple" = none
section
variable {P : Program} {w : World} {K : PySem.W.Frag} {mg : Str → Option Value} {base : Heap}
theorem scDT : FnScope ["text", "steps", "number", "line", "words"] ["text"] (defScope sDT) := ⟨rfl, rfl, rfl, by decide +kernel, rfl, by decide +kernel, by decide +kernel⟩
theorem ok_dt (R : Dt K mg) : FnOk P w K mg base CX0 3 R.f R.d ["text"] spDT := by
  have GJ : FnOk P w K mg base CX0 1 R.J.f R.J.d ["steps"] spJL := ok_jl R.J
  have GW : FnOk P w K mg base CX0 2 R.L.f2 R.L.d2 ["words"] (spLW K) := ok_lw R.L
  have T := R.L.T
  refine R.F.ok scDT (fun vs H Q E h => ?_) (fun cdv A outer s H vs Q E hr h => ?_)
  · obtain ⟨t, rfl, _⟩ := h
    rfl
  · obtain ⟨t, rfl, lt, ot, q⟩ := h
    have hu := hu_of hr
    have hu0 : (A.deeper (PyProof.Rows.envOfC "_law_text_due" (defScope sDT) s.heap.objs.size R.f cdv)).units < cLine := by omega
    have r1 := hr.mono (j := 1) (by omega)
    refine ⟨_, pss_cons (ps_if (pt_not (pt_val (pe_callB call_isi (by rfl) T.isi PyProof.Rows.boot_isinstance (pa_cons (pv 0) (pa_cons (pe_bltn (v := .ty "str") (by rfl) T.str (by decide +kernel) rfl) pa_nil))))) (pss_one ps_never) pss_nil)
      (pss_cons (ps_set (i := 1) scDT.nd rfl (Or.inl rfl) (pe_lst pa_nil))
      (pss_cons (ps_for PassesOwn.never rfl (pi_enum (by rfl) R.en (pa_cons (pe_m1 PySem.F.slot_str_split PySem.F.type_str_split mt_split (pv 0) pe_str) pa_nil)) (pg_tup rfl (pgs_cons (pg_name (i := 2) scDT.nd rfl (Or.inl rfl)) (pgs_cons (pg_name (i := 3) scDT.nd rfl (Or.inl rfl)) pgs_nil)))
        (pss_cons (ps_set (i := 4) scDT.nd rfl (Or.inl rfl) (pe_m1 PySem.F.slot_str_split PySem.F.type_str_split mt_split (pv 3) pe_str))
        (pss_cons (ps_if (pt_cmpR op_ne (pe_call GW hr (by rfl) R.L.m2 R.L.L.kp R.L.b2 .nil pass0 (pa_cons (pv 4) pa_nil)) pe_int (nomark _)) (pss_one (ps_ret (pe_tup (pa_cons pe_str (pa_cons (pe_op op_add (pv 2) pe_int) (pa_cons (pe_call GW hr (by rfl) R.L.m2 R.L.L.kp R.L.b2 .nil pass0 (pa_cons (pv 4) pa_nil)) pa_nil)))))) pss_nil)
        (pss_one (ps_expr (pe_bm PySem.F.plainAttrs_list PySem.F.slot_list_append PySem.F.type_list_append mt_append (pv 1) (pa_cons (pe_tup (pa_cons (pe_callTy call_int_str (by rfl) T.int (by decide +kernel) (pa_cons (pe_ix ix_list (pv 4) pe_int (fun _ _ => rfl)) pa_nil)) (pa_cons (pe_ix ix_list (pv 4) pe_int (fun _ _ => rfl)) (pa_cons (pe_callTy call_int_str (by rfl) T.int (by decide +kernel) (pa_cons (pe_ix ix_list (pv 4) pe_int (fun _ _ => rfl)) pa_nil)) pa_nil)))) pa_nil)))))))
      (pss_cons (ps_for PassesOwn.never rfl (pi_range2 (by rfl) R.J.ra (pa_cons pe_int (pa_cons (pe_callB call_len_seq (by rfl) T.len PySem.boot_len (pa_cons (pv 1) pa_nil)) pa_nil))) (pg_name (i := 2) scDT.nd rfl (Or.inl rfl))
        (pss_one (ps_if (pt_cmpR (op_le3 hu0) (pe_ix ix_list (pv 1) (pv 2) (fun _ _ => rfl)) (pe_ix ix_list (pv 1) (pe_op op_sub (pv 2) pe_int) (fun _ _ => rfl)) (nomark _)) (pss_one (ps_ret (pe_tup (pa_cons pe_str (pa_cons (pe_op op_add (pv 2) pe_int) (pa_cons pe_int pa_nil)))))) pss_nil)))
      (pss_cons (ps_if (pt_cmpR op_gt (pe_callB call_len_seq (by rfl) T.len PySem.boot_len (pa_cons (pv 1) pa_nil)) pe_int (nomark _)) (pss_one (ps_ret (pe_tup (pa_cons pe_str (pa_cons pe_int (pa_cons pe_int pa_nil)))))) pss_nil)
      (pss_one (ps_ret (pe_ifExp (pt_val (pe_call GJ r1 (by rfl) R.J.m R.J.F.kp R.J.b .nil pass0 (pa_cons (pv 1) pa_nil))) (pe_lst (pa_cons (pe_callTy call_tuple_of (by rfl) R.tu (by decide +kernel) (pa_cons (pv 1) pa_nil)) pa_nil)) (pe_tup (pa_cons pe_str (pa_cons (pe_op op_add (pe_callB call_len_seq (by rfl) T.len PySem.boot_len (pa_cons (pv 1) pa_nil)) pe_int) (pa_cons pe_int pa_nil))))))))))), ?_⟩
    have e1 : (1 : Nat) ≤ ("\n" : Str).length := by decide +kernel
    have e2 : (1 : Nat) ≤ (" " : Str).length := by decide +kernel
    obtain ⟨la, lb⟩ := split_len (t := t) e1
    refine ⟨_, rfl, .str t, .ty "str", .type "str", .type "str", true, rfl, .ty "str", .base (.str _), kit_ty (by decide +kernel), true, rfl, iteF ?_⟩
    refine ⟨(by decide), fun D hD => ?_⟩
    have uD := same_upd (o := HO.lst []) hD
    refine ⟨_, rfl, ⟨_, rfl⟩, t, "\n", rfl, rfl, by decide +kernel, by rw [sizeLine_eq]; omega, fun p1 h1 => ?_⟩
    have u1 := same_upd (o := HO.lst ((Txt.split t "\n").map V.str)) h1
    have np : p1 ≠ D := fun z => by
      rw [z, upd_same] at h1
      cases h1
    have h0D := u1 _ _ (upd_same (a := D) (o := HO.lst []) (H := H))
    have h01 := upd_same (H := upd H D (.lst [])) (a := p1) (o := HO.lst ((Txt.split t "\n").map V.str))
    have s0 := uD.trans u1
    generalize upd (upd H D (.lst [])) p1 (.lst ((Txt.split t "\n").map V.str)) = H0 at h0D h01 s0 ⊢
    refine ⟨p1, _, rfl, SqL.of h01, for_it (walk_enum (xs := (Txt.split t "\n").map V.str)) (fun i σ H' => ∃ (v2 v3 v4 : Option V) (ts : List Addr), σ = [some (.str t), some (.ref D), v2, v3, v4] ∧ H' D = some (.lst (ts.map V.ref)) ∧ At3 H' ts (((rowsF t).take i).map stepOf) ∧ H' p1 = some (.lst ((Txt.split t "\n").map V.str)) ∧ Same H H' ∧ firstW (rowsF t) 0 = firstW ((rowsF t).drop i) i)
      ⟨none, none, none, [], rfl, h0D, ⟨rfl, fun i r x h => by cases h⟩, h01, s0, rfl⟩ (fun i σ H' _ ⟨_, _, _, _, _, _, _, z, _⟩ => SqL.of z) ?_ ?_⟩
    · rintro i x σ H3 H4 hi ⟨v2, v3, v4, ts, rfl, hd, at3, hp1, s3, inv⟩ ⟨T', xi, xo, rfl, nT, rfl, h1', h2'⟩
      cases h1'
      have il : i < (Txt.split t "\n").length := by rw [List.length_map] at hi; exact hi
      have hl : (Txt.split t "\n")[i]? = some (Txt.split t "\n")[i] := List.getElem?_eq_getElem il
      have hml := List.getElem_mem il
      generalize (Txt.split t "\n")[i] = l at hl hml
      have hy : (rowsF t)[i]? = some (Txt.split l " ") := by
        unfold rowsF
        rw [List.getElem?_map, hl]
        rfl
      have h2' : ((Txt.split t "\n").map V.str)[i]? = some xo := h2'
      rw [List.getElem?_map, hl] at h2'
      obtain rfl : V.str l = xo := Option.some.inj h2'
      have ll := la _ hml
      have uT := same_upd (o := HO.tup [V.int (i : Nat), V.str l]) nT
      have hd4 := uT _ _ hd
      have hp4 := uT _ _ hp1
      have at4 := at3.same (Same.keepT uT)
      have s4 := s3.trans uT
      obtain ⟨sz, lz⟩ := rows_ok lt (List.mem_of_getElem? hy)
      have dr : (rowsF t).drop i = Txt.split l " " :: (rowsF t).drop (i + 1) := by
        obtain ⟨hi2, e⟩ := List.getElem?_eq_some_iff.mp hy
        rw [List.drop_eq_getElem_cons hi2, e]
      rw [dr] at inv
      have so : ∀ s ∈ Txt.split l " ", PyData.strOk s = true := fun s hs => okT_iff.mpr (okT_split (okT_split ot hml) hs)
      have ne : Txt.split l " " ≠ [] := fun z => by
        have a := PyProof.Rows.split_pos l " "
        rw [z] at a
        exact absurd a (by decide)
      refine ⟨T', _, rfl, SqT.of upd_same, rfl, _, _, rfl, _, _, rfl, rfl, ?_⟩
      generalize upd H3 T' (.tup [V.int (i : Nat), V.str l]) = H5 at hd4 hp4 at4 s4 ⊢
      refine ⟨_, rfl, ⟨_, rfl⟩, l, " ", rfl, rfl, by decide +kernel, by rw [sizeLine_eq]; omega, fun r hr2 => ?_⟩
      have ur := same_upd (o := HO.lst ((Txt.split l " ").map V.str)) hr2
      have hd6 := ur _ _ hd4
      have hp6 := ur _ _ hp4
      have at6 := at4.same (Same.keepT ur)
      have s6 := s4.trans ur
      have hr6 := upd_same (H := H5) (a := r) (o := HO.lst ((Txt.split l " ").map V.str))
      generalize upd H5 r (.lst ((Txt.split l " ").map V.str)) = H6 at hd6 hp6 at6 s6 hr6 ⊢
      refine ⟨_, rfl, r, Txt.split l " ", rfl, ⟨SqL.of hr6, sz, lz⟩, so, ne, fun H7 s7 => ?_⟩
      have z7 := s6.trans s7
      cases ew : wrongW (Txt.split l " ") with
      | some n =>
        rw [firstW_some ew] at inv
        rw [due_word inv] at q
        have n1 := wrong_pos ew
        refine ⟨rfl, _, rfl, iteT' ?_ ?_⟩
        · have z : ¬ (V.int (wI (some n)) = V.int 0) := fun z => by
            have z : (n : Int) = 0 := V.int.inj z
            omega
          rw [decide_eq_false z]
          rfl
        · refine ⟨_, rfl, (i : Nat), 1, rfl, rfl, _, rfl, r, Txt.split l " ", rfl, ⟨SqL.of (s7 _ _ hr6), sz, lz⟩, so, ne, fun H8 s8 => ⟨(by show 3 ≤ sizeLine; decide), fun p hp => ?_⟩⟩
          exact q _ p ((z7.trans s8).trans (same_upd hp)) (same_none (z7.trans s8) hp) (by rw [upd_same, ew]; rfl)
      | none =>
        rw [firstW_none ew] at inv
        obtain ⟨y, ey, sy⟩ := right_words ew
        refine ⟨rfl, _, rfl, iteF' ?_ ?_⟩
        · rfl
        · have hr7 := s7 _ _ hr6
          rw [ey] at hr7
          obtain ⟨h0, h6, hp, g0, g6⟩ := id sy
          obtain ⟨_, d1, d2, _, _⟩ := dig_ok h0 (by omega)
          obtain ⟨_, b1, b2, _, _⟩ := dig_ok g0 (by omega)
          have at1 : ∀ {k : Nat} {z : Str}, (words y)[k]? = some z → atI ((words y).map V.str) (k : Int) = some (.str z) := fun {k z} e => atI_nat (by rw [List.getElem?_map, e]; rfl)
          refine ⟨_, rfl, .inl ⟨rfl, _, SqL.of (s7 _ _ hd6)⟩, _, rfl, r, _, 0, .str (dig y.1), rfl, rfl, SqL.of hr7, at1 (k := 0) rfl, _, _, rfl, d1, by omega, ?_⟩
          refine ⟨_, rfl, r, _, 1, .str y.2.1, rfl, rfl, SqL.of hr7, at1 (k := 1) rfl, ?_⟩
          refine ⟨_, rfl, r, _, 2, .str (dig y.2.2), rfl, rfl, SqL.of hr7, at1 (k := 2) rfl, _, _, rfl, b1, by omega, ?_⟩
          refine ⟨(by show 3 ≤ sizeLine; decide), fun tp htp => ?_⟩
          have ut := same_upd (o := HO.tup [V.int y.1, V.str y.2.1, V.int y.2.2]) htp
          have hd8 := ut _ _ (s7 _ _ hd6)
          refine ⟨D, ts.map V.ref, _, rfl, rfl, hd8, by
            have z := at3.1
            rw [List.length_map, List.length_take] at z
            have lr : (rowsF t).length = (Txt.split t "\n").length := by unfold rowsF; rw [List.length_map]
            rw [List.length_map, z, sizeLine_eq]; omega, ?_⟩
          have nDp : p1 ≠ D := np
          refine ⟨_, _, _, ts ++ [tp], rfl, by rw [List.map_append]; exact upd_same, ?_, by rw [upd_ne nDp]; exact ut _ _ (s7 _ _ hp6), same_push hD (z7.trans ut), inv⟩
          rw [take_one hy, List.map_append]
          have w1 := ((at6.same (Same.keepT s7)).same (Same.keepT ut)).snoc (t := tp) (x := y) upd_same
          have e9 : [Txt.split l " "].map stepOf = [y] := by
            rw [ey]
            show [stepOf (words y)] = [y]
            rw [step_words sy]
          rw [e9]
          exact w1.same (keepT_upd hd8 (fun xs z => by cases z))
    · rintro σ H3 ⟨v2, v3, v4, ts, rfl, hd, at3, hp1, s3, inv⟩
      have er : ((Txt.split t "\n").map V.str).length = (rowsF t).length := by unfold rowsF; rw [List.length_map, List.length_map]
      rw [er, List.take_length] at at3
      rw [er, List.drop_length] at inv
      have inv : firstW (rowsF t) 0 = none := inv
      have st0 : ∀ x ∈ frOf t, Stp x := steps_of inv
      rw [due_rest inv] at q
      have at3 : At3 H3 ts (frOf t) := at3
      have lr : (frOf t).length ≤ 6001 := by
        unfold frOf rowsF
        rw [List.length_map, List.length_map]
        omega
      have lp : 1 ≤ (frOf t).length := by
        have a := PyProof.Rows.split_pos t "\n"
        unfold frOf rowsF
        rw [List.length_map, List.length_map]
        omega
      generalize frOf t = fr at at3 st0 q lr lp
      obtain ⟨hl, ht⟩ := id at3
      refine ⟨_, rfl, D, _, rfl, .inl (SqL.of hd), 1, _, rfl, ⟨by decide, by decide, by rw [List.length_map]; omega, by rw [List.length_map]; omega⟩, for_it walk_range (fun i σ H' => ∃ v2 : Option V, σ = [some (.str t), some (.ref D), v2, v3, v4] ∧ Same H3 H' ∧ ordW fr 1 = ordW (fr.drop i) (i + 1)) ⟨v2, rfl, Same.refl _, rfl⟩ (fun _ _ _ _ _ => trivial) ?_ ?_⟩
      · rintro i x σ H4 H5 hi ⟨v2, rfl, s4, inv⟩ ⟨rfl, rfl⟩
        rw [List.length_map] at hi
        have i1 : i + 1 < fr.length := by omega
        have i0 : i < fr.length := by omega
        have t1 : i + 1 < ts.length := by omega
        have t0 : i < ts.length := by omega
        have e1 := ht (i + 1) ts[i + 1] fr[i + 1] (List.getElem?_eq_getElem t1) (List.getElem?_eq_getElem i1)
        have e0 := ht i ts[i] fr[i] (List.getElem?_eq_getElem t0) (List.getElem?_eq_getElem i0)
        have c1 : (1 : Int) + (i : Int) = ((i + 1 : Nat) : Int) := by omega
        rw [drop_two i1] at inv
        refine ⟨_, rfl, _, rfl, D, _, 1 + (i : Int), V.ref ts[i + 1], rfl, rfl, SqL.of (s4 _ _ hd), ?_, _, rfl, _, rfl, _, _, rfl, rfl, D, _, (i : Int), V.ref ts[i], rfl, ?_, SqL.of (s4 _ _ hd), atI_nat ?_, ts[i + 1], ts[i], fr[i + 1], fr[i], rfl, rfl, s4 _ _ e1, s4 _ _ e0, _, rfl, ?_⟩
        · rw [c1]
          refine atI_nat ?_
          rw [List.getElem?_map, List.getElem?_eq_getElem t1]
          rfl
        · show V.int (1 + (i : Int) - 1) = V.int (i : Int)
          congr 1
          omega
        · rw [List.getElem?_map, List.getElem?_eq_getElem t0]
          rfl
        · cases lt' : lt3 fr[i] fr[i + 1] with
          | true =>
            rw [ordW_lt lt'] at inv
            refine iteF' (by rfl) ⟨_, rfl, s4, ?_⟩
            rw [inv, List.drop_eq_getElem_cons i1]
          | false =>
            rw [ordW_ge lt'] at inv
            rw [rest_ord inv] at q
            refine iteT' (by rfl) ?_
            have q : ∀ H' p, Same H H' → H p = none → H' p = some (.tup [.str "text", .int (1 + (i : Int) + 1), .int 0]) → Q (.ref p) H' := by
              have e : (1 + (i : Int) + 1) = ((i + 1 : Nat) : Int) + 1 := by omega
              rw [e]
              exact q
            exact ⟨_, rfl, 1 + (i : Int), 1, rfl, rfl, (by show 3 ≤ sizeLine; decide), fun p hp => q _ p ((s3.trans s4).trans (same_upd hp)) (same_none (s3.trans s4) hp) upd_same⟩
      · rintro σ H4 ⟨v2, rfl, s4, inv⟩
        have inv : ordW fr 1 = none := by
          rw [inv]
          have e9 : fr.drop (((ts.map V.ref).length : Int) - 1).toNat = [fr[fr.length - 1]] := by
            have e8 : (((ts.map V.ref).length : Int) - 1).toNat = fr.length - 1 := by rw [List.length_map]; omega
            rw [e8]
            exact drop_last (by omega)
          rw [e9]
          rfl
        have z4 := s3.trans s4
        have hd4 := s4 _ _ hd
        refine ⟨_, rfl, D, _, rfl, .inl (SqL.of hd4), _, 16, rfl, rfl, _, rfl, ?_⟩
        by_cases m : fr.length > 16
        · rw [rest_many inv m] at q
          refine iteT' (decide_eq_true (by rw [List.length_map]; omega)) ?_
          exact ⟨(by show 3 ≤ sizeLine; decide), fun p hp => q _ p (z4.trans (same_upd hp)) (same_none z4 hp) upd_same⟩
        · refine iteF' (decide_eq_false (by rw [List.length_map]; omega)) ?_
          refine ⟨_, rfl, D, ts, fr, rfl, hd4, at3.same (Same.keepT s4), by omega, st0, fun b H5 s5 jb => ⟨_, rfl, ?_⟩⟩
          have z5 := z4.trans s5
          have hd5 := s5 _ _ hd4
          cases b with
          | true =>
            rw [rest_jnd inv m (jb.mp rfl)] at q
            refine iteT' rfl ?_
            refine ⟨_, rfl, D, _, rfl, .inl ⟨SqL.of hd5, fun f hf => ⟨(by show 1 ≤ sizeLine; decide), fun p hp => ?_⟩⟩⟩
            have uf := same_upd (o := HO.tup (ts.map V.ref)) hf
            have up := same_upd (o := HO.lst [V.ref f]) hp
            refine q _ p f (z5.trans (uf.trans up)) (same_none (z5.trans uf) hp) upd_same ⟨ts, up _ _ upd_same, hl, fun i t x a b => up _ _ (uf _ _ (s5 _ _ (s4 _ _ (ht i t x a b))))⟩
          | false =>
            rw [rest_apart inv m (fun j => nomatch jb.mpr j)] at q
            refine iteF' rfl ?_
            have q : ∀ H' p, Same H H' → H p = none → H' p = some (.tup [.str "text", .int (((ts.map V.ref).length : Int) + 1), .int 0]) → Q (.ref p) H' := by
              rw [List.length_map, hl]
              exact q
            exact ⟨_, rfl, D, _, rfl, .inl (SqL.of hd5), _, 1, rfl, rfl, (by show 3 ≤ sizeLine; decide), fun p hp => q _ p (z5.trans (same_upd hp)) (same_none z5 hp) upd_same⟩
end
end K45

set_option Elab.async false
set_option linter.all false
set_option maxRecDepth 100000
set_option maxHeartbeats 4000000
/-! Bent texts. -/
namespace K45
open PySem L2 L2.EV
abbrev sBent : Stmt := top 38
def spBent : Sp := fun vs H Q _ => ∃ (m c l : Addr) (k : Int) (t : Str), vs = [.ref m, .str t] ∧ MAt H m c l k ∧ k < 800000 ∧ t.length ≤ 10000 ∧ OkT t ∧
  ∀ (u : Str) (H' : Hp) (l' : Addr) (k' : Int), u.length ≤ 3 * t.length + 20 → OkT u → k' ≤ k + 20 → Dr H H' m c l l' k' → Q (.str u) H'
structure Bt (K : PySem.W.Frag) (mg : Str → Option Value) where
  f : Addr
  d : FuncData
  F : Fun K "_law_bent_text" "_law_bent_text" sBent f d
  b : Binds K d ["m", "text"] []
  m : mg "_law_bent_text" = some (.ref f)
theorem pick {ys : List Str} {r : Int} (r0 : 0 ≤ r) (rl : r < (ys.length : Int)) : ∃ y ∈ ys, atI (ys.map V.str) r = some (.str y) := by
  obtain ⟨j, rfl⟩ := Int.eq_ofNat_of_zero_le r0
  have hj : j < ys.length := by omega
  refine ⟨ys[j], List.getElem_mem hj, atI_nat ?_⟩
  rw [List.getElem?_map, List.getElem?_eq_getElem hj]
  rfl
def some12 : List Str := ["", "0 a 1", "0 a; 0", "1 b; 0", "0 a 0", "0 a; 1", "0 a", "0", "0 a 1 1", "6 a 1", "0 a 6", "00 a 1"]
def some7 : List Str := ["0 aaaaaaaa; 0", "0 aaaaaaa; 0", "0  a 1", "0 a;b; 0", "5 @ 5", "-1 a 1", "0 A 1"]
def ten : List Str := ["", "0", "1", "6", "a", "b;", ";", "@", repS "x" 9, "0 0"]
theorem some_ok : ∀ x ∈ some12 ++ some7, x.length ≤ 13 ∧ OkT x := by unfold OkT; decide +kernel
theorem ten_ok : ∀ x ∈ ten, x.length ≤ 9 ∧ OkT x := by unfold OkT; decide +kernel
theorem signs_ok : ∀ c ∈ sl ("0123456; \n\nab@z9AB," : Str), c < 0x110000 := by decide +kernel
theorem okT_one {c : Nat} (h : c < 0x110000) : OkT ⟨#[c]⟩ := fun d hd => by
  have e : d = c := by
    have hd : d ∈ [c] := hd
    simpa using hd
  rw [e]
  exact h
theorem okT_e : OkT "" := by unfold OkT; decide +kernel
section
variable {P : Program} {w : World} {K : PySem.W.Frag} {mg : Str → Option Value} {base : Heap}
theorem scBent : FnScope ["m", "text", "at", "kind", "sign", "lines", "spot", "there", "some", "words", "place"] ["m", "text"] (defScope sBent) := ⟨rfl, rfl, rfl, by decide +kernel, rfl, by decide +kernel, by decide +kernel⟩
theorem ok_bent (L : Ls K mg) (B : Bt K mg) : FnOk P w K mg base CX0 2 B.f B.d ["m", "text"] spBent := by
  have GX : FnOk P w K mg base CX0 1 L.f1 L.d1 ["m", "total"] spNext := ok_next L.N L.T
  refine B.F.ok scBent (fun vs H Q E h => ?_) (fun cdv A outer s H vs Q E hr h => ?_)
  · obtain ⟨m, c, l, k, t, rfl, _⟩ := h
    rfl
  · obtain ⟨m, c, l, k, t, rfl, M, hk, lt, ot, q⟩ := h
    refine ⟨_, pss_cons (ps_par (i := 2) (j := 3) (x := "at") (y := "kind") rfl scBent.nd rfl rfl (by decide) rfl rfl (pa_cons (pe_call GX hr (by rfl) L.mN L.N.kp L.bN .nil pass0 (pa_cons (pv 0) (pa_cons (pe_op op_add (pe_callB call_len_str (by rfl) L.T.len PySem.boot_len (pa_cons (pv 1) pa_nil)) pe_int) pa_nil))) (pa_cons (pe_call GX hr (by rfl) L.mN L.N.kp L.bN .nil pass0 (pa_cons (pv 0) (pa_cons pe_int pa_nil))) pa_nil)) (by rfl))
      (pss_cons (ps_set (i := 4) scBent.nd rfl (Or.inl rfl) (pe_ix ix_str pe_str (pe_call GX hr (by rfl) L.mN L.N.kp L.bN .nil pass0 (pa_cons (pv 0) (pa_cons pe_int pa_nil))) (fun _ _ => rfl)))
      (pss_cons (ps_if (pt_cmpR op_lt (pv 3) pe_int (nomark _)) (pss_one (ps_ret (pe_op op_add_str (pe_op op_add_str (pe_slice sl_str (pv 1) po_none (po_some (pv 2))) (pe_ix ix_list (pe_lst (pa_cons (pv 4) (pa_cons (pv 4) (pa_cons pe_str pa_nil)))) (pv 3) (fun _ _ => rfl))) (pe_slice sl_str (pv 1) (po_some (pe_op op_add (pv 2) (pe_callTy call_int1 (by rfl) L.T.int (by decide +kernel) (pa_cons (pe_cmpR op_gt (pv 3) pe_int (nomark _)) pa_nil)))) po_none)))) pss_nil)
      (pss_cons (ps_set (i := 5) scBent.nd rfl (Or.inl rfl) (pe_m1 PySem.F.slot_str_split PySem.F.type_str_split mt_split (pv 1) pe_str))
      (pss_cons (ps_par (i := 6) (j := 7) (x := "spot") (y := "there") rfl scBent.nd rfl rfl (by decide) rfl rfl (pa_cons (pe_call GX hr (by rfl) L.mN L.N.kp L.bN .nil pass0 (pa_cons (pv 0) (pa_cons (pe_callB call_len_seq (by rfl) L.T.len PySem.boot_len (pa_cons (pv 5) pa_nil)) pa_nil))) (pa_cons (pe_call GX hr (by rfl) L.mN L.N.kp L.bN .nil pass0 (pa_cons (pv 0) (pa_cons (pe_callB call_len_seq (by rfl) L.T.len PySem.boot_len (pa_cons (pv 5) pa_nil)) pa_nil))) pa_nil)) (by rfl))
      (pss_cons (ps_set (i := 8) scBent.nd rfl (Or.inl rfl) (pe_lst (pa_cons pe_str (pa_cons pe_str (pa_cons pe_str (pa_cons pe_str (pa_cons pe_str (pa_cons pe_str (pa_cons pe_str (pa_cons pe_str (pa_cons pe_str (pa_cons pe_str (pa_cons pe_str (pa_cons pe_str pa_nil))))))))))))))
      (pss_cons (ps_set (i := 8) scBent.nd rfl (Or.inl rfl) (pe_op op_cat (pv 8) (pe_lst (pa_cons pe_str (pa_cons pe_str (pa_cons pe_str (pa_cons pe_str (pa_cons pe_str (pa_cons pe_str (pa_cons pe_str pa_nil))))))))))
      (pss_cons (ps_if (pt_cmpR op_eq (pv 3) pe_int (nomark _)) (pss_one (ps_ret (pe_m1 PySem.F.slot_str_join PySem.F.type_str_join mt_join pe_str (pe_op op_cat (pe_op op_cat (pe_slice sl_list (pv 5) po_none (po_some (pv 6))) (pe_lst (pa_cons (pe_ix ix_list (pv 8) (pe_call GX hr (by rfl) L.mN L.N.kp L.bN .nil pass0 (pa_cons (pv 0) (pa_cons pe_int pa_nil))) (fun _ _ => rfl)) pa_nil))) (pe_slice sl_list (pv 5) (po_some (pe_op op_add (pv 6) (pe_call GX hr (by rfl) L.mN L.N.kp L.bN .nil pass0 (pa_cons (pv 0) (pa_cons pe_int pa_nil))))) po_none))))) pss_nil)
      (pss_cons (ps_if (pt_cmpR op_eq (pv 3) pe_int (nomark _)) (pss_one (ps_ret (pe_m1 PySem.F.slot_str_join PySem.F.type_str_join mt_join pe_str (pe_op op_cat (pe_slice sl_list (pv 5) po_none (po_some (pv 6))) (pe_slice sl_list (pv 5) (po_some (pv 7)) po_none))))) pss_nil)
      (pss_cons (ps_set (i := 9) scBent.nd rfl (Or.inl rfl) (pe_m1 PySem.F.slot_str_split PySem.F.type_str_split mt_split (pe_ix ix_list (pv 5) (pv 6) (fun _ _ => rfl)) pe_str))
      (pss_cons (ps_set (i := 10) scBent.nd rfl (Or.inl rfl) (pe_call GX hr (by rfl) L.mN L.N.kp L.bN .nil pass0 (pa_cons (pv 0) (pa_cons (pe_callB call_len_seq (by rfl) L.T.len PySem.boot_len (pa_cons (pv 9) pa_nil)) pa_nil))))
      (pss_cons (ps_asg (pe_ix ix_list (pe_lst (pa_cons pe_str (pa_cons pe_str (pa_cons pe_str (pa_cons pe_str (pa_cons pe_str (pa_cons pe_str (pa_cons pe_str (pa_cons pe_str (pa_cons (pe_op op_mulS pe_str pe_int) (pa_cons pe_str pa_nil))))))))))) (pe_call GX hr (by rfl) L.mN L.N.kp L.bN .nil pass0 (pa_cons (pv 0) (pa_cons pe_int pa_nil))) (fun _ _ => rfl)) (pg_sub (pv 9) (pv 10) set_list))
      (pss_one (ps_ret (pe_m1 PySem.F.slot_str_join PySem.F.type_str_join mt_join pe_str (pe_op op_cat (pe_op op_cat (pe_slice sl_list (pv 5) po_none (po_some (pv 6))) (pe_lst (pa_cons (pe_m1 PySem.F.slot_str_join PySem.F.type_str_join mt_join pe_str (pv 9)) pa_nil))) (pe_slice sl_list (pv 5) (po_some (pe_op op_add (pv 6) pe_int)) po_none)))))))))))))))), ?_⟩
    refine ⟨_, rfl, _, rfl, t, rfl, by rw [sizeLine_eq]; omega, _, 1, rfl, rfl, m, c, l, k, _, rfl, M, by omega, by omega, by omega, fun r0 H1 l1 k1 a1 b1 g1 N1 f1 q1 => ?_⟩
    have d1 : Dr H H1 m c l l1 k1 := ⟨N1, f1, q1⟩
    refine ⟨_, rfl, m, c, l1, k1, 6, rfl, N1, by decide, by decide, by omega, fun r1 H2 l2 k2 a2 b2 g2 N2 f2 q2 => ⟨_, _, rfl, ?_⟩⟩
    have d2 : Dr H H2 m c l l2 k2 := d1.trans ⟨N2, f2, q2⟩
    refine ⟨_, rfl, m, c, l2, k2, 19, rfl, N2, by decide, by decide, by omega, fun r2 H3 l3 k3 a3 b3 g3 N3 f3 q3 => ?_⟩
    have d3 : Dr H H3 m c l l3 k3 := d2.trans ⟨N3, f3, q3⟩
    obtain ⟨sg, hsg, hmem⟩ : ∃ x, atI (sl ("0123456; \n\nab@z9AB," : Str)) r2 = some x ∧ x ∈ sl ("0123456; \n\nab@z9AB," : Str) := by
      obtain ⟨j, rfl⟩ := Int.eq_ofNat_of_zero_le a3
      have hj : j < (sl ("0123456; \n\nab@z9AB," : Str)).length := by
        have e : (sl ("0123456; \n\nab@z9AB," : Str)).length = 19 := by decide +kernel
        omega
      exact ⟨_, atI_nat (List.getElem?_eq_getElem hj), List.getElem_mem hj⟩
    have osg := okT_one (signs_ok sg hmem)
    refine ⟨"0123456; \n\nab@z9AB,", r2, sg, rfl, rfl, by decide +kernel, hsg, ?_⟩
    have lsg : (⟨#[sg]⟩ : Str).length = 1 := rfl
    generalize (⟨#[sg]⟩ : Str) = sign at osg lsg ⊢
    clear N1 f1 q1 d1 N2 f2 q2 d2 f3 q3
    refine ⟨_, rfl, r1, 3, rfl, rfl, _, rfl, ite2 (fun z => ?_) (fun z => ?_)⟩
    · have z : r1 < 3 := of_decide_eq_true z
      obtain ⟨mid, hmi, hat⟩ := pick (ys := [sign, sign, ""]) a2 z
      have lmid : mid.length ≤ 1 ∧ OkT mid := by
        rcases List.mem_cons.mp hmi with rfl | hmi
        · exact ⟨by omega, osg⟩
        · rcases List.mem_cons.mp hmi with rfl | hmi
          · exact ⟨by omega, osg⟩
          · rw [List.mem_singleton.mp hmi]
            exact ⟨by decide, okT_e⟩
      refine ⟨_, rfl, _, rfl, r0, rfl, t, rfl, by rw [sizeLine_eq]; omega, _, rfl, _, rfl, (by show 3 ≤ sizeLine; decide), fun p5 h5 => ?_⟩
      have u5 := same_upd (o := HO.lst ([sign, sign, ""].map V.str)) h5
      have c1 := cutS_length t none (some r0)
      refine ⟨_, rfl, p5, _, r1, .str mid, rfl, rfl, SqL.of upd_same, hat, _, mid, rfl, rfl, by rw [sizeLine_eq]; omega, ?_⟩
      refine ⟨_, rfl, _, rfl, _, rfl, r1, 0, rfl, rfl, .inr ⟨_, rfl, r0, _, rfl, rfl, _, rfl, t, rfl, by rw [sizeLine_eq]; omega, ?_⟩⟩
      generalize r0 + _ = r9
      have c2 := cutS_length t (some r9) none
      refine ⟨_, _, rfl, rfl, by rw [sizeLine_eq, app_len]; omega, ?_⟩
      exact q _ _ l3 k3 (by rw [app_len, app_len]; omega) (okT_app (okT_app (okT_cut ot _ _) lmid.2) (okT_cut ot _ _)) (by omega) (d3.same u5)
    · refine ⟨_, rfl, ⟨_, rfl⟩, t, "\n", rfl, rfl, by decide +kernel, by rw [sizeLine_eq]; omega, fun pl hpl => ?_⟩
      have e1 : (1 : Nat) ≤ ("\n" : Str).length := by decide +kernel
      have e2 : (1 : Nat) ≤ (" " : Str).length := by decide +kernel
      have e3 : ("\n" : Str).length = 1 := by decide +kernel
      have e4 : (" " : Str).length = 1 := by decide +kernel
      have wy := wt_split (t := t) e1
      have ny := PyProof.Rows.split_pos t "\n"
      have oy : ∀ y ∈ Txt.split t "\n", OkT y := fun y hy => okT_split ot hy
      generalize Txt.split t "\n" = ys at hpl wy ny oy ⊢
      have ly := wt_len ys
      have lm : (ys.map V.str).length = ys.length := List.length_map ..
      have u4 := same_upd (o := HO.lst (ys.map V.str)) hpl
      have h4 := upd_same (H := H3) (a := pl) (o := HO.lst (ys.map V.str))
      have n4 := N3.l_some hpl
      have d4 := d3.same u4
      generalize upd H3 pl (HO.lst (ys.map V.str)) = H4 at u4 h4 d4 ⊢
      have M4 := d4.at_
      clear d3 N3 u4 hpl
      refine ⟨_, rfl, _, rfl, pl, _, rfl, .inl (SqL.of h4), m, c, l3, k3, _, rfl, M4, by omega, by omega, by omega, fun r4 H5 l5 k5 a5 b5 g5 N5 f5 q5 => ?_⟩
      have e5 : Dr H4 H5 m c l3 l5 k5 := ⟨N5, f5, q5⟩
      obtain ⟨h5, n5⟩ := e5.lst M4 h4 n4
      have d5 := d4.trans e5
      refine ⟨_, rfl, _, rfl, pl, _, rfl, .inl (SqL.of h5), m, c, l5, k5, _, rfl, N5, by omega, by omega, by omega, fun r5 H6 l6 k6 a6 b6 g6 N6 f6 q6 => ⟨_, _, rfl, ?_⟩⟩
      have e6 : Dr H5 H6 m c l5 l6 k6 := ⟨N6, f6, q6⟩
      obtain ⟨h6, n6⟩ := e6.lst N5 h5 n5
      have d6 := d5.trans e6
      rw [lm] at b5 b6
      clear d4 d5 e5 e6 f5 q5 f6 q6 N5 h4 h5 M4 n4 n5
      refine ⟨(by show 12 ≤ sizeLine; decide), fun ps hps => ?_⟩
      have u7 := same_upd (o := HO.lst ([V.str "", V.str "0 a 1", V.str "0 a; 0", V.str "1 b; 0", V.str "0 a 0", V.str "0 a; 1", V.str "0 a", V.str "0", V.str "0 a 1 1", V.str "6 a 1", V.str "0 a 6", V.str "00 a 1"])) hps
      refine ⟨_, rfl, (by show 7 ≤ sizeLine; decide), fun ps2 hps2 => ⟨ps, ps2, [V.str "", V.str "0 a 1", V.str "0 a; 0", V.str "1 b; 0", V.str "0 a 0", V.str "0 a; 1", V.str "0 a", V.str "0", V.str "0 a 1 1", V.str "6 a 1", V.str "0 a 6", V.str "00 a 1"], [V.str "0 aaaaaaaa; 0", V.str "0 aaaaaaa; 0", V.str "0  a 1", V.str "0 a;b; 0", V.str "5 @ 5", V.str "-1 a 1", V.str "0 A 1"], rfl, rfl, (same_upd hps2) _ _ upd_same, upd_same, by show 19 ≤ sizeLine; decide, fun ps3 hps3 => ?_⟩⟩
      have u8 := (u7.trans (same_upd (o := HO.lst ([V.str "0 aaaaaaaa; 0", V.str "0 aaaaaaa; 0", V.str "0  a 1", V.str "0 a;b; 0", V.str "5 @ 5", V.str "-1 a 1", V.str "0 A 1"])) hps2)).trans (same_upd (o := HO.lst ([V.str "", V.str "0 a 1", V.str "0 a; 0", V.str "1 b; 0", V.str "0 a 0", V.str "0 a; 1", V.str "0 a", V.str "0", V.str "0 a 1 1", V.str "6 a 1", V.str "0 a 6", V.str "00 a 1"] ++ [V.str "0 aaaaaaaa; 0", V.str "0 aaaaaaa; 0", V.str "0  a 1", V.str "0 a;b; 0", V.str "5 @ 5", V.str "-1 a 1", V.str "0 A 1"])) hps3)
      have n3 : ps3 ≠ l6 := fun zz => by
        rw [zz] at hps3
        obtain ⟨ls, hl, _⟩ := (N6.same (u7.trans (same_upd (o := HO.lst ([V.str "0 aaaaaaaa; 0", V.str "0 aaaaaaa; 0", V.str "0  a 1", V.str "0 a;b; 0", V.str "5 @ 5", V.str "-1 a 1", V.str "0 A 1"])) hps2))).hl
        have hl : (upd (upd H6 ps (HO.lst ([V.str "", V.str "0 a 1", V.str "0 a; 0", V.str "1 b; 0", V.str "0 a 0", V.str "0 a; 1", V.str "0 a", V.str "0", V.str "0 a 1 1", V.str "6 a 1", V.str "0 a 6", V.str "00 a 1"]))) ps2 (HO.lst ([V.str "0 aaaaaaaa; 0", V.str "0 aaaaaaa; 0", V.str "0  a 1", V.str "0 a;b; 0", V.str "5 @ 5", V.str "-1 a 1", V.str "0 A 1"]))) l6 = _ := hl
        have hps3 : (upd (upd H6 ps (HO.lst ([V.str "", V.str "0 a 1", V.str "0 a; 0", V.str "1 b; 0", V.str "0 a 0", V.str "0 a; 1", V.str "0 a", V.str "0", V.str "0 a 1 1", V.str "6 a 1", V.str "0 a 6", V.str "00 a 1"]))) ps2 (HO.lst ([V.str "0 aaaaaaaa; 0", V.str "0 aaaaaaa; 0", V.str "0  a 1", V.str "0 a;b; 0", V.str "5 @ 5", V.str "-1 a 1", V.str "0 A 1"]))) l6 = none := hps3
        rw [hl] at hps3
        cases hps3
      have h3 := upd_same (H := upd (upd H6 ps (HO.lst ([V.str "", V.str "0 a 1", V.str "0 a; 0", V.str "1 b; 0", V.str "0 a 0", V.str "0 a; 1", V.str "0 a", V.str "0", V.str "0 a 1 1", V.str "6 a 1", V.str "0 a 6", V.str "00 a 1"]))) ps2 (HO.lst ([V.str "0 aaaaaaaa; 0", V.str "0 aaaaaaa; 0", V.str "0  a 1", V.str "0 a;b; 0", V.str "5 @ 5", V.str "-1 a 1", V.str "0 A 1"]))) (a := ps3) (o := HO.lst ([V.str "", V.str "0 a 1", V.str "0 a; 0", V.str "1 b; 0", V.str "0 a 0", V.str "0 a; 1", V.str "0 a", V.str "0", V.str "0 a 1 1", V.str "6 a 1", V.str "0 a 6", V.str "00 a 1"] ++ [V.str "0 aaaaaaaa; 0", V.str "0 aaaaaaa; 0", V.str "0  a 1", V.str "0 a;b; 0", V.str "5 @ 5", V.str "-1 a 1", V.str "0 A 1"]))
      have h8 := u8 _ _ h6
      have d8 := d6.same u8
      have lsm : ((some12 ++ some7).length : Int) = 19 := rfl
      have M8 := d8.at_
      generalize upd (upd (upd H6 ps (HO.lst ([V.str "", V.str "0 a 1", V.str "0 a; 0", V.str "1 b; 0", V.str "0 a 0", V.str "0 a; 1", V.str "0 a", V.str "0", V.str "0 a 1 1", V.str "6 a 1", V.str "0 a 6", V.str "00 a 1"]))) ps2 (HO.lst ([V.str "0 aaaaaaaa; 0", V.str "0 aaaaaaa; 0", V.str "0  a 1", V.str "0 a;b; 0", V.str "5 @ 5", V.str "-1 a 1", V.str "0 A 1"]))) ps3 (HO.lst ([V.str "", V.str "0 a 1", V.str "0 a; 0", V.str "1 b; 0", V.str "0 a 0", V.str "0 a; 1", V.str "0 a", V.str "0", V.str "0 a 1 1", V.str "6 a 1", V.str "0 a 6", V.str "00 a 1"] ++ [V.str "0 aaaaaaaa; 0", V.str "0 aaaaaaa; 0", V.str "0  a 1", V.str "0 a;b; 0", V.str "5 @ 5", V.str "-1 a 1", V.str "0 A 1"])) = H8 at h3 h8 d8 M8 ⊢
      have h3 : H8 ps3 = some (.lst ((some12 ++ some7).map V.str)) := h3
      clear u7 u8 hps2 hps3 d6 N6 h6
      have k8 : k6 ≤ k + 5 := by omega
      refine ⟨_, rfl, rfl, _, rfl, ite2 (fun z3 => ?_) (fun z3 => ?_)⟩
      · -- kind 3
        refine ⟨⟨_, rfl⟩, _, rfl, _, rfl, r4, rfl, pl, _, rfl, SqL.of h8, fun p1 hp1 => ?_⟩
        have v1 := same_upd (o := HO.lst (cutV (ys.map V.str) none (some r4))) hp1
        have g1' := upd_same (H := H8) (a := p1) (o := HO.lst (cutV (ys.map V.str) none (some r4)))
        have n1' := M8.l_some hp1
        have M9 := M8.same v1
        have d9 := d8.same v1
        have h9 := v1 _ _ h8
        have h39 := v1 _ _ h3
        generalize upd H8 p1 (HO.lst (cutV (ys.map V.str) none (some r4))) = H9 at v1 g1' M9 d9 h9 h39 ⊢
        refine ⟨_, rfl, _, rfl, m, c, l6, k6, 19, rfl, M9, by decide, by decide, by omega, fun r7 H10 l7 k7 a7 b7 g7 N7 f7 q7 => ?_⟩
        have e10 : Dr H9 H10 m c l6 l7 k7 := ⟨N7, f7, q7⟩
        obtain ⟨h10, n10⟩ := e10.lst M9 h9 n6
        obtain ⟨h310, n310⟩ := e10.lst M9 h39 n3
        obtain ⟨g10, ng10⟩ := e10.lst M9 g1' n1'
        have d10 := d9.trans e10
        obtain ⟨x, hx, hat⟩ := pick (ys := some12 ++ some7) a7 b7
        obtain ⟨lx, ox⟩ := some_ok x hx
        refine ⟨ps3, _, r7, .str x, rfl, rfl, SqL.of h310, hat, (by show 1 ≤ sizeLine; decide), fun p2 hp2 => ?_⟩
        have v2 := same_upd (o := HO.lst [V.str x]) hp2
        have g2' := upd_same (H := H10) (a := p2) (o := HO.lst [V.str x])
        refine ⟨p1, p2, _, _, rfl, rfl, v2 _ _ g10, g2', by
          have a := cutV_length (ys.map V.str) none (some r4)
          rw [List.length_map] at a
          rw [sizeLine_eq]
          simp only [List.length_cons, List.length_nil]
          omega, fun p3 hp3 => ?_⟩
        have v3 := v2.trans (same_upd (o := HO.lst (cutV (ys.map V.str) none (some r4) ++ [V.str x])) hp3)
        have g3' := upd_same (H := upd H10 p2 (HO.lst [V.str x])) (a := p3) (o := HO.lst (cutV (ys.map V.str) none (some r4) ++ [V.str x]))
        have n3' := (N7.same v2).l_some hp3
        have d11 := d10.same v3
        have h11 := v3 _ _ h10
        have M11 := N7.same v3
        generalize upd (upd H10 p2 (HO.lst [V.str x])) p3 (HO.lst (cutV (ys.map V.str) none (some r4) ++ [V.str x])) = H11 at v3 g3' d11 h11 M11 ⊢
        refine ⟨_, rfl, _, rfl, _, rfl, m, c, l7, k7, 2, rfl, M11, by decide, by decide, by omega, fun r8 H12 l8 k8' a8 b8 g8 N8 f8 q8 => ⟨r4, r8, rfl, rfl, _, rfl, pl, ys.map V.str, rfl, ?_⟩⟩
        have e12 : Dr H11 H12 m c l7 l8 k8' := ⟨N8, f8, q8⟩
        obtain ⟨h12, n12⟩ := e12.lst M11 h11 n10
        obtain ⟨g12, _⟩ := e12.lst M11 g3' n3'
        have d12 := d11.trans e12
        refine ⟨SqL.of h12, fun p4 hp4 => ?_⟩
        generalize (r4 + r8 : Int) = r9
        have v4 := same_upd (o := HO.lst (cutV (ys.map V.str) (some r9) none)) hp4
        refine ⟨p3, p4, _, _, rfl, rfl, v4 _ _ g12, upd_same, by
          have a := cutV_length (ys.map V.str) none (some r4)
          have b := cutV_length (ys.map V.str) (some r9) none
          rw [List.length_map] at a b
          rw [sizeLine_eq, List.length_append]
          simp only [List.length_cons, List.length_nil]
          omega, fun p5 hp5 => ?_⟩
        have ez : cutV (ys.map V.str) none (some r4) ++ [V.str x] ++ cutV (ys.map V.str) (some r9) none = (cutL ys none (some r4) ++ [x] ++ cutL ys (some r9) none).map V.str := by
          rw [cutV_strs, cutV_strs, List.map_append, List.map_append]
          rfl
        have v5 := v4.trans (same_upd (o := HO.lst (cutV (ys.map V.str) none (some r4) ++ [V.str x] ++ cutV (ys.map V.str) (some r9) none)) hp5)
        have g5' := upd_same (H := upd H12 p4 (HO.lst (cutV (ys.map V.str) (some r9) none))) (a := p5) (o := HO.lst (cutV (ys.map V.str) none (some r4) ++ [V.str x] ++ cutV (ys.map V.str) (some r9) none))
        rw [ez] at g5' v5 ⊢
        have wz : Wt (cutL ys none (some r4) ++ [x] ++ cutL ys (some r9) none) ≤ 2 * t.length + 16 := by
          have a := wt_cut ys none (some r4)
          have b := wt_cut ys (some r9) none
          rw [wt_app, wt_app, wt_one]
          omega
        have oz : ∀ y ∈ cutL ys none (some r4) ++ [x] ++ cutL ys (some r9) none, OkT y := fun y hy => by
          rcases List.mem_append.mp hy with hy | hy
          · rcases List.mem_append.mp hy with hy | hy
            · exact oy y (mem_cut hy)
            · rw [List.mem_singleton.mp hy]
              exact ox
          · exact oy y (mem_cut hy)
        generalize cutL ys none (some r4) ++ [x] ++ cutL ys (some r9) none = zs at g5' v5 wz oz ⊢
        refine ⟨"\n", p5, zs, rfl, rfl, .inl (SqL.of g5'), join_asks e3 (by omega), ?_⟩
        have lz := len_join e3 zs
        exact q _ _ l8 k8' (by omega) (okT_join okT_nl oz) (by omega) (d12.same v5)
      · refine ⟨_, rfl, rfl, _, rfl, ite2 (fun z4 => ?_) (fun z4 => ?_)⟩
        · -- kind 4
          refine ⟨⟨_, rfl⟩, _, rfl, _, rfl, r4, rfl, pl, _, rfl, SqL.of h8, fun p1 hp1 => ?_⟩
          have v1 := same_upd (o := HO.lst (cutV (ys.map V.str) none (some r4))) hp1
          refine ⟨_, rfl, _, rfl, r5, rfl, pl, _, rfl, SqL.of (v1 _ _ h8), fun p2 hp2 => ?_⟩
          have v2 := same_upd (o := HO.lst (cutV (ys.map V.str) (some r5) none)) hp2
          refine ⟨p1, p2, _, _, rfl, rfl, v2 _ _ upd_same, upd_same, by
            have a := cutV_length (ys.map V.str) none (some r4)
            have b := cutV_length (ys.map V.str) (some r5) none
            rw [List.length_map] at a b
            rw [sizeLine_eq]
            omega, fun p3 hp3 => ?_⟩
          have v3 := (v1.trans v2).trans (same_upd (o := HO.lst (cutV (ys.map V.str) none (some r4) ++ cutV (ys.map V.str) (some r5) none)) hp3)
          have ez : cutV (ys.map V.str) none (some r4) ++ cutV (ys.map V.str) (some r5) none = (cutL ys none (some r4) ++ cutL ys (some r5) none).map V.str := by
            rw [cutV_strs, cutV_strs, List.map_append]
          have g3' := upd_same (H := upd (upd H8 p1 (HO.lst (cutV (ys.map V.str) none (some r4)))) p2 (HO.lst (cutV (ys.map V.str) (some r5) none))) (a := p3) (o := HO.lst (cutV (ys.map V.str) none (some r4) ++ cutV (ys.map V.str) (some r5) none))
          have wz : Wt (cutL ys none (some r4) ++ cutL ys (some r5) none) ≤ 2 * t.length + 2 := by
            have a := wt_cut ys none (some r4)
            have b := wt_cut ys (some r5) none
            rw [wt_app]
            omega
          refine ⟨"\n", p3, cutL ys none (some r4) ++ cutL ys (some r5) none, rfl, rfl, .inl (SqL.of (by rw [← ez]; exact g3')), ?_, ?_⟩
          · exact join_asks e3 (by omega)
          · have oz : ∀ y ∈ cutL ys none (some r4) ++ cutL ys (some r5) none, OkT y := fun y hy => by
              rcases List.mem_append.mp hy with hy | hy
              · exact oy y (mem_cut hy)
              · exact oy y (mem_cut hy)
            have lz := len_join e3 (cutL ys none (some r4) ++ cutL ys (some r5) none)
            exact q _ _ l6 k6 (by omega) (okT_join okT_nl oz) (by omega) (d8.same v3)
        · -- kind 5
          obtain ⟨y, hy, hat⟩ := pick (ys := ys) a5 b5
          have wyy := wt_mem hy
          refine ⟨_, rfl, _, rfl, pl, _, r4, .str y, rfl, rfl, SqL.of h8, hat, ⟨_, rfl⟩, y, " ", rfl, rfl, by decide +kernel, by rw [sizeLine_eq]; omega, fun pw hpw => ?_⟩
          have ww := wt_split (t := y) e2
          have nw := PyProof.Rows.split_pos y " "
          have ow : ∀ x ∈ Txt.split y " ", OkT x := fun x hx => okT_split (oy y hy) hx
          generalize Txt.split y " " = ws at hpw ww nw ow ⊢
          have lw := wt_len ws
          have lmw : (ws.map V.str).length = ws.length := List.length_map ..
          have v1 := same_upd (o := HO.lst (ws.map V.str)) hpw
          have g1' := upd_same (H := H8) (a := pw) (o := HO.lst (ws.map V.str))
          have n1' := M8.l_some hpw
          have c1' := M8.c_some hpw
          have d9 := d8.same v1
          have h9 := v1 _ _ h8
          have M9 := M8.same v1
          have npl : pl ≠ pw := ne_of_none h8 hpw
          have fre : ∀ b o, H b = some o → b ≠ m → b ≠ l → b ≠ pw := fun b o e x1 x2 => ne_of_none (d8.kp b o e x1 x2) hpw
          generalize upd H8 pw (HO.lst (ws.map V.str)) = H9 at v1 g1' d9 h9 M9 ⊢
          refine ⟨_, rfl, _, rfl, pw, _, rfl, .inl (SqL.of g1'), m, c, l6, k6, _, rfl, M9, by omega, by omega, by omega, fun r7 H10 l7 k7 a7 b7 g7 N7 f7 q7 => ?_⟩
          have e10 : Dr H9 H10 m c l6 l7 k7 := ⟨N7, f7, q7⟩
          obtain ⟨h10, n10⟩ := e10.lst M9 h9 n6
          obtain ⟨g10, ng10⟩ := e10.lst M9 g1' n1'
          have d10 := d9.trans e10
          rw [lmw] at b7
          refine ⟨"x", 9, rfl, rfl, by decide, by decide, by decide +kernel, by decide +kernel, (by show 10 ≤ sizeLine; decide), fun pt hpt => ?_⟩
          have v2 := same_upd (o := HO.lst (ten.map V.str)) hpt
          have g2' := upd_same (H := H10) (a := pt) (o := HO.lst (ten.map V.str))
          have n2' := N7.l_some hpt
          have M11 := N7.same v2
          have d11 := d10.same v2
          have h11 := v2 _ _ h10
          have g11 := v2 _ _ g10
          have lten : ((ten).length : Int) = 10 := rfl
          refine ⟨_, rfl, m, c, l7, k7, 10, rfl, M11, by decide, by decide, by omega, fun r8 H12 l8 k8' a8 b8 g8 N8 f8 q8 => ?_⟩
          have e12 : Dr _ H12 m c l7 l8 k8' := ⟨N8, f8, q8⟩
          obtain ⟨h12, n12⟩ := e12.lst M11 h11 n10
          obtain ⟨g12, ng12⟩ := e12.lst M11 g11 ng10
          obtain ⟨t12, _⟩ := e12.lst M11 g2' n2'
          have d12 := d11.trans e12
          obtain ⟨x, hx, hatx⟩ := pick (ys := ten) a8 (by rw [lten]; exact b8)
          obtain ⟨lx, ox⟩ := ten_ok x hx
          refine ⟨pt, _, r8, .str x, rfl, rfl, SqL.of t12, hatx, ?_⟩
          obtain ⟨j, rfl⟩ := Int.eq_ofNat_of_zero_le a7
          have hj : j < ws.length := by omega
          refine ⟨_, rfl, _, rfl, pw, _, (j : Int), j, rfl, rfl, g12, (by unfold ixN; rw [if_pos (by omega), if_pos (by rw [lmw]; omega)]; simp), ?_⟩
          have ncw : pw ≠ c := c1'
          have nmw : pw ≠ m := ne_of g12 N8.hm (fun z => by cases z)
          have M13 := N8.upd (D := pw) (o := HO.lst ((ws.map V.str).set j (V.str x))) nmw ncw ng12
          have g13 := upd_same (H := H12) (a := pw) (o := HO.lst ((ws.map V.str).set j (V.str x)))
          have h13 : (upd H12 pw (HO.lst ((ws.map V.str).set j (V.str x)))) pl = some (.lst (ys.map V.str)) := by rw [upd_ne npl]; exact h12
          have d13 : Dr H (upd H12 pw (HO.lst ((ws.map V.str).set j (V.str x)))) m c l l8 k8' := ⟨M13, d12.hl, fun b o e x1 x2 => by rw [upd_ne (fre b o e x1 x2)]; exact d12.kp b o e x1 x2⟩
          have es : (ws.map V.str).set j (V.str x) = (ws.set j x).map V.str := by rw [List.map_set]
          have wset := wt_set (x := x) hj
          have oset : ∀ z ∈ ws.set j x, OkT z := fun z hz => by
            rcases mem_set hz with rfl | hz
            · exact ox
            · exact ow z hz
          rw [es] at g13 h13 d13 ⊢
          generalize ws.set j x = vs at g13 h13 d13 wset oset ⊢
          generalize upd H12 pw (HO.lst (vs.map V.str)) = H13 at g13 h13 d13 ⊢
          refine ⟨⟨_, rfl⟩, _, rfl, _, rfl, r4, rfl, pl, _, rfl, SqL.of h13, fun p1 hp1 => ?_⟩
          have w1 := same_upd (o := HO.lst (cutV (ys.map V.str) none (some r4))) hp1
          refine ⟨⟨_, rfl⟩, _, rfl, " ", pw, vs, rfl, rfl, .inl (SqL.of (w1 _ _ g13)), join_asks e4 (by omega), (by show 1 ≤ sizeLine; decide), fun p2 hp2 => ?_⟩
          have lj := len_join e4 vs
          have oj := okT_join okT_sp oset
          generalize Txt.join " " vs = line at lj oj hp2 ⊢
          have w2 := same_upd (o := HO.lst [V.str line]) hp2
          refine ⟨p1, p2, _, _, rfl, rfl, w2 _ _ upd_same, upd_same, by
            have a := cutV_length (ys.map V.str) none (some r4)
            rw [List.length_map] at a
            rw [sizeLine_eq]
            simp only [List.length_cons, List.length_nil]
            omega, fun p3 hp3 => ?_⟩
          have w3 := (w1.trans w2).trans (same_upd (o := HO.lst (cutV (ys.map V.str) none (some r4) ++ [V.str line])) hp3)
          have g3' := upd_same (H := upd (upd H13 p1 (HO.lst (cutV (ys.map V.str) none (some r4)))) p2 (HO.lst [V.str line])) (a := p3) (o := HO.lst (cutV (ys.map V.str) none (some r4) ++ [V.str line]))
          have h14 := w3 _ _ h13
          have d14 := d13.same w3
          generalize upd (upd (upd H13 p1 (HO.lst (cutV (ys.map V.str) none (some r4)))) p2 (HO.lst [V.str line])) p3 (HO.lst (cutV (ys.map V.str) none (some r4) ++ [V.str line])) = H14 at g3' h14 d14 ⊢
          refine ⟨_, rfl, _, rfl, r4, 1, rfl, rfl, _, rfl, pl, _, rfl, SqL.of h14, fun p4 hp4 => ?_⟩
          generalize (r4 + 1 : Int) = r9
          have v4 := same_upd (o := HO.lst (cutV (ys.map V.str) (some r9) none)) hp4
          refine ⟨p3, p4, _, _, rfl, rfl, v4 _ _ g3', upd_same, by
            have a := cutV_length (ys.map V.str) none (some r4)
            have b := cutV_length (ys.map V.str) (some r9) none
            rw [List.length_map] at a b
            rw [sizeLine_eq, List.length_append]
            simp only [List.length_cons, List.length_nil]
            omega, fun p5 hp5 => ?_⟩
          have ez : cutV (ys.map V.str) none (some r4) ++ [V.str line] ++ cutV (ys.map V.str) (some r9) none = (cutL ys none (some r4) ++ [line] ++ cutL ys (some r9) none).map V.str := by
            rw [cutV_strs, cutV_strs, List.map_append, List.map_append]
            rfl
          have v5 := v4.trans (same_upd (o := HO.lst (cutV (ys.map V.str) none (some r4) ++ [V.str line] ++ cutV (ys.map V.str) (some r9) none)) hp5)
          have g5' := upd_same (H := upd H14 p4 (HO.lst (cutV (ys.map V.str) (some r9) none))) (a := p5) (o := HO.lst (cutV (ys.map V.str) none (some r4) ++ [V.str line] ++ cutV (ys.map V.str) (some r9) none))
          rw [ez] at g5' v5 ⊢
          have wz : Wt (cutL ys none (some r4) ++ [line] ++ cutL ys (some r9) none) ≤ 3 * t.length + 20 := by
            have a := wt_cut ys none (some r4)
            have b := wt_cut ys (some r9) none
            rw [wt_app, wt_app, wt_one]
            omega
          have oz : ∀ y ∈ cutL ys none (some r4) ++ [line] ++ cutL ys (some r9) none, OkT y := fun y hy => by
            rcases List.mem_append.mp hy with hy | hy
            · rcases List.mem_append.mp hy with hy | hy
              · exact oy y (mem_cut hy)
              · rw [List.mem_singleton.mp hy]
                exact oj
            · exact oy y (mem_cut hy)
          generalize cutL ys none (some r4) ++ [line] ++ cutL ys (some r9) none = zs at g5' v5 wz oz ⊢
          refine ⟨"\n", p5, zs, rfl, rfl, .inl (SqL.of g5'), join_asks e3 (by omega), ?_⟩
          have lz := len_join e3 zs
          exact q _ _ l8 k8' (by omega) (okT_join okT_nl oz) (by omega) (d14.same v5)
end
end K45

set_option Elab.async false
set_option linter.all false
set_option maxRecDepth 100000
set_option maxHeartbeats 4000000
/-! The errors' classes; _law_fault; _law_outcome. -/
namespace K45
open PySem L2 L2.EV LamX PySem.Spec
abbrev sFault : Stmt := top 29
abbrev sOutcome : Stmt := top 30
/-- a class D, asked of an error's class at C -/
structure Cl (K : PySem.W.Frag) (mg : Str → Option Value) (C : Addr) (x : Str) (D : Addr) (b : Bool) : Prop where
  m : mg x = some (.ref D)
  su : PySem.W.subIn K (.ref D) (.type "BaseException") = some true
  hd : PySem.W.hasDictIn K D = true
  ty : PySem.W.typeIn K (.ref D) = some (.type "type")
  sb : PySem.W.subIn K (.ref C) (.ref D) = some b
theorem Cl.exm {K : PySem.W.Frag} {mg : Str → Option Value} {C D : Addr} {x : Str} {b : Bool} (c : Cl K mg C x D b) : PySem.W.exmOne K (.ref C) (.ref D) = some b := PySem.W.exm_ref c.su c.hd c.ty c.sb
theorem Cl.kit {K : PySem.W.Frag} {mg : Str → Option Value} {C D : Addr} {x : Str} {b : Bool} (c : Cl K mg C x D b) (own : PySem.W.subIn K (.ref C) (.ref C) = some true) : PySem.W.kitOne K (.ref C) (.ref D) = some b := by
  have e := c.exm
  unfold PySem.W.exmOne at e
  rw [if_pos (by rw [c.su]; rfl)] at e
  unfold PySem.W.kitOne
  by_cases h : C = D
  · subst h
    have z := c.sb
    rw [own] at z
    rw [if_pos (by simp)]
    exact z
  · rw [if_neg (by simpa using h)]
    exact e
structure Fx (K : PySem.W.Frag) (mg : Str → Option Value) where
  O : Btx K mg
  D0 : Addr
  D1 : Addr
  D2 : Addr
  D4 : Addr
  D5 : Addr
  D6 : Addr
  D7 : Addr
  c0 : Cl K mg O.C "BadFraming" D0 false
  c1 : Cl K mg O.C "BadReader" D1 false
  c2 : Cl K mg O.C "BadWeaving" D2 false
  c3 : Cl K mg O.C "BadText" O.C true
  c4 : Cl K mg O.C "OutOfPlace" D4 false
  c5 : Cl K mg O.C "TooGreat" D5 false
  c6 : Cl K mg O.C "Nothing" D6 false
  c7 : Cl K mg O.C "Held" D7 false
  isi : mg "isinstance" = none
  len : mg "len" = none
def Fx.cs {K : PySem.W.Frag} {mg : Str → Option Value} (F : Fx K mg) : List Value := [.ref F.D0, .ref F.D1, .ref F.D2, .ref F.O.C, .ref F.D4, .ref F.D5, .ref F.D6, .ref F.D7]
theorem Fx.any {K : PySem.W.Frag} {mg : Str → Option Value} (F : Fx K mg) : PySem.W.exmAny K (.ref F.O.C) F.cs = some true := by
  unfold Fx.cs
  simp only [PySem.W.exmAny, F.c0.exm, F.c1.exm, F.c2.exm, F.c3.exm, F.c4.exm, F.c5.exm, F.c6.exm, F.c7.exm]
  rfl
def spFault (C : Addr) : Sp := fun vs H Q _ => ∃ (a dx : Addr) (x y : V), vs = [.ref a] ∧ H a = some (exh (.ref C) (some dx) a) ∧ H dx = some (.xd [("word", y), ("line", x)]) ∧ ∀ H' p, Same H H' → H' p = some (.tup [.str "text", x, y]) → Q (.ref p) H'
section
variable {K : PySem.W.Frag} {mg : Str → Option Value} {σ : St} {H : Hp} {Q : VK} {C D a dx : Addr} {z : Str} {b : Bool} {x y : V}
theorem rd_isc (F : Fx K mg) (h0 : σ[0]? = some (some (.ref a))) (c : Cl K mg F.O.C z D b) (e : H a = some (exh (.ref F.O.C) (some dx) a)) (ed : H dx = some (.xd [("word", y), ("line", x)])) (q : Q (.bl b) H) : tCB (rIsF K) (tCons (tVar 0) (tCons (tC (.ref D)) tNil)) σ H Q :=
  ⟨_, h0, a, F.O.C, dx, _, _, _, _, _, .ref D, .ref D, b, rfl, .own D, F.O.T, e, ed, c.kit F.O.own, q⟩
end
section
variable {P : Program} {w : World} {K : PySem.W.Frag} {mg : Str → Option Value} {base : Heap}
theorem scFault : FnScope ["e", "told"] ["e"] (defScope sFault) := ⟨rfl, rfl, rfl, by decide +kernel, rfl, by decide +kernel, by decide +kernel⟩
theorem ok_fault {f : Addr} {fd : FuncData} (L : Fun K "_law_fault" "_law_fault" sFault f fd) (F : Fx K mg) : FnOk P w K mg base CX0 1 f fd ["e"] (spFault F.O.C) := by
  refine L.ok scFault (fun vs H Q E h => ?_) (fun cdv A outer s H vs Q E hr h => ?_)
  · obtain ⟨a, dx, x, y, rfl, _⟩ := h
    rfl
  · obtain ⟨a, dx, x, y, rfl, e, ed, q⟩ := h
    have XT : XfC K F.O.C := ⟨F.O.T.ga, F.O.T.gg, F.O.T.exC, F.O.T.hd⟩
    refine ⟨_, pss_cons (ps_set (i := 1) scFault.nd rfl (Or.inl rfl) (pe_lst pa_nil))
      (pss_cons (ps_if (pt_val (pe_callB call_isF (by rfl) F.isi PyProof.Rows.boot_isinstance (pa_cons (pv 0) (pa_cons (pe_glob (v := .ref F.D0) (by rfl) F.c0.m rfl) pa_nil)))) (pss_one ps_never) pss_nil)
      (pss_cons (ps_if (pt_val (pe_callB call_isF (by rfl) F.isi PyProof.Rows.boot_isinstance (pa_cons (pv 0) (pa_cons (pe_glob (v := .ref F.D1) (by rfl) F.c1.m rfl) pa_nil)))) (pss_one ps_never) pss_nil)
      (pss_cons (ps_if (pt_val (pe_callB call_isF (by rfl) F.isi PyProof.Rows.boot_isinstance (pa_cons (pv 0) (pa_cons (pe_glob (v := .ref F.D2) (by rfl) F.c2.m rfl) pa_nil)))) (pss_one ps_never) pss_nil)
      (pss_cons (ps_if (pt_val (pe_callB call_isF (by rfl) F.isi PyProof.Rows.boot_isinstance (pa_cons (pv 0) (pa_cons (pe_glob (v := .ref F.O.C) (by rfl) F.c3.m rfl) pa_nil)))) (pss_one (ps_expr (pe_bm PySem.F.plainAttrs_list PySem.F.slot_list_append PySem.F.type_list_append mt_append (pv 1) (pa_cons (pe_tup (pa_cons pe_str (pa_cons (pe_xg (pv 0)) (pa_cons (pe_xg (pv 0)) pa_nil)))) pa_nil)))) pss_nil)
      (pss_cons (ps_if (pt_val (pe_callB call_isF (by rfl) F.isi PyProof.Rows.boot_isinstance (pa_cons (pv 0) (pa_cons (pe_glob (v := .ref F.D4) (by rfl) F.c4.m rfl) pa_nil)))) (pss_one ps_never) pss_nil)
      (pss_cons (ps_if (pt_val (pe_callB call_isF (by rfl) F.isi PyProof.Rows.boot_isinstance (pa_cons (pv 0) (pa_cons (pe_glob (v := .ref F.D5) (by rfl) F.c5.m rfl) pa_nil)))) (pss_one ps_never) pss_nil)
      (pss_cons (ps_if (pt_val (pe_callB call_isF (by rfl) F.isi PyProof.Rows.boot_isinstance (pa_cons (pv 0) (pa_cons (pe_glob (v := .ref F.D6) (by rfl) F.c6.m rfl) pa_nil)))) (pss_one ps_never) pss_nil)
      (pss_cons (ps_if (pt_val (pe_callB call_isF (by rfl) F.isi PyProof.Rows.boot_isinstance (pa_cons (pv 0) (pa_cons (pe_glob (v := .ref F.D7) (by rfl) F.c7.m rfl) pa_nil)))) (pss_one ps_never) pss_nil)
      (pss_one (ps_ret (pe_ifExp (pt_cmpR op_eq (pe_callB call_len_seq (by rfl) F.len PySem.boot_len (pa_cons (pv 1) pa_nil)) pe_int (nomark _)) (pe_ix ix_list (pv 1) pe_int (fun _ _ => rfl)) (pe_tup (pa_cons pe_str (pa_cons pe_non pa_nil)))))))))))))), ?_⟩
    refine ⟨(by decide), fun l hl => ?_⟩
    have u0 := same_upd (o := HO.lst []) hl
    have e1 := u0 _ _ e
    have d1 := u0 _ _ ed
    refine rd_isc F rfl F.c0 e1 d1 ⟨_, rfl, iteF ?_⟩
    refine rd_isc F rfl F.c1 e1 d1 ⟨_, rfl, iteF ?_⟩
    refine rd_isc F rfl F.c2 e1 d1 ⟨_, rfl, iteF ?_⟩
    refine rd_isc F rfl F.c3 e1 d1 ⟨_, rfl, iteT ?_⟩
    refine ⟨_, rfl, .inl ⟨rfl, _, SqL.of upd_same⟩, _, rfl, a, F.O.C, dx, _, x, rfl, XT, F.O.n0, e1, d1, rfl, _, rfl, a, F.O.C, dx, _, y, rfl, XT, F.O.n1, e1, d1, rfl, (by show 3 ≤ sizeLine; decide), fun p hp => ⟨l, [], _, rfl, rfl, same_upd hp _ _ upd_same, (by decide), ?_⟩⟩
    have up := same_upd (o := HO.tup [V.str "text", x, y]) hp
    have nal : a ≠ l := ne_of_none e hl
    have ndl : dx ≠ l := ne_of_none ed hl
    have npl : p ≠ l := fun z => by
      rw [z, upd_same] at hp
      cases hp
    generalize hH : upd (upd (upd H l (.lst [])) p (.tup [V.str "text", x, y])) l (.lst ([] ++ [V.ref p])) = H5
    have e5 : H5 a = some (exh (.ref F.O.C) (some dx) a) := by
      rw [← hH, upd_ne nal]
      exact up _ _ e1
    have d5 : H5 dx = some (.xd [("word", y), ("line", x)]) := by
      rw [← hH, upd_ne ndl]
      exact up _ _ d1
    have l5 : H5 l = some (.lst [V.ref p]) := by
      rw [← hH]
      exact upd_same
    have p5 : H5 p = some (.tup [V.str "text", x, y]) := by
      rw [← hH, upd_ne npl]
      exact upd_same
    have s5 : Same H H5 := fun b o z => by
      rw [← hH, upd_ne (ne_of_none z hl)]
      exact up _ _ (same_upd hl _ _ z)
    show tSeq _ _ _ _ H5
    refine rd_isc F rfl F.c4 e5 d5 ⟨_, rfl, iteF ?_⟩
    refine rd_isc F rfl F.c5 e5 d5 ⟨_, rfl, iteF ?_⟩
    refine rd_isc F rfl F.c6 e5 d5 ⟨_, rfl, iteF ?_⟩
    refine rd_isc F rfl F.c7 e5 d5 ⟨_, rfl, iteF ?_⟩
    refine ⟨_, rfl, l, _, rfl, .inl (SqL.of l5), rfl, _, rfl, iteT' (by simp) ?_⟩
    exact ⟨_, rfl, l, _, 0, .ref p, rfl, rfl, SqL.of l5, atI_nat (j := 0) rfl, q H5 p s5 p5⟩
end
/-- what a lambda's reading becomes: its value in a list, or how BadFraming is told -/
def TOut (C : Addr) : (XK → Hp → VK → Prop) → Hp → VK → Prop := fun tl H Q => ∀ p0, H p0 = none → ∀ R : VK, (∀ v H', (∀ p, H' p = none → Q (.ref p) (upd H' p (.lst [v]))) → R v H') →
  tl (fun cls d H' => cls = .ref C ∧ ∃ (dx : Addr) (x y : V), d = some dx ∧ H' dx = some (.xd [("word", y), ("line", x)]) ∧ ∀ a H2 p, H' a = none → Same (upd H' a (exh (.ref C) (some dx) a)) H2 → H2 p = some (.tup [.str "text", x, y]) → Q (.ref p) H2) (upd H p0 (.tup [.non, .non])) R
theorem scOutcome : FnScope ["deed", "caught", "found", "e"] ["deed"] (defScope sOutcome) := ⟨rfl, rfl, rfl, by decide +kernel, rfl, by decide +kernel, by decide +kernel⟩
structure Ou (K : PySem.W.Frag) (mg : Str → Option Value) where
  F : Fx K mg
  f : Addr
  d : FuncData
  L : Fun K "_law_fault" "_law_fault" sFault f d
  b : Binds K d ["e"] []
  g : mg "_law_fault" = some (.ref f)
abbrev NO : List Str := ["deed", "caught", "found", "e"]
section
variable {X : Cx} {g : Addr} {cdg : Value} {q : Str}
theorem out_gives (S : Ou X.K X.mg) (hr : Room 2 X.A) : GivesTo X NO "_law_outcome" (defScope sOutcome) g cdg (defBody sOutcome) "deed" q (TOut S.F.O.C) := by
  intro f c' s H Q tl act hc h
  have GF : FnOk X.prog X.w X.K X.mg X.base CX0 1 S.f S.d ["e"] (spFault S.F.O.C) := ok_fault S.L S.F
  refine ⟨_, pss_cons (ps_asg (pe_tup (pa_cons pe_non (pa_cons pe_non pa_nil))) (pg_tup rfl (pgs_cons (pg_name (i := 1) scOutcome.nd rfl (Or.inl rfl)) (pgs_cons (pg_name (i := 2) scOutcome.nd rfl (Or.inl rfl)) pgs_nil))))
    (pss_cons (ps_try_keep (i := 3) (cs := S.F.cs)
        (tb := fun W D σ H => ∃ Ech : XK, (∀ cls d σ' H', Ech cls d H' → W cls d σ' H') ∧ σ[0]? = some (some (.ref f)) ∧ H c' = some (CodeO c' q) ∧ tl Ech H fun v H1 => D.nx (σ.set 2 (some v)) H1)
        rfl rfl rfl scOutcome.nd rfl rfl ?_ (by decide) (fun W pn xe tk _ => ?_) (fun a oe cls d pn _ _ => pss_one (ps_set (i := 1) scOutcome.nd rfl (Or.inl rfl) (pv 3))))
    (pss_one (ps_ret (pe_ifExp (pt_cmpR op_isN (pv 1) pe_non (nomark _)) (pe_lst (pa_cons (pv 2) pa_nil)) (pe_call GF (hr.deeper _) (by rfl) S.g S.L.kp S.b .nil pass0 (pa_cons (pv 1) pa_nil)))))), ?_⟩
  · unfold Fx.cs
    exact .cons ⟨by rfl, by decide, .inl S.F.c0.m⟩ (.cons ⟨by rfl, by decide, .inl S.F.c1.m⟩ (.cons ⟨by rfl, by decide, .inl S.F.c2.m⟩ (.cons ⟨by rfl, by decide, .inl S.F.c3.m⟩
      (.cons ⟨by rfl, by decide, .inl S.F.c4.m⟩ (.cons ⟨by rfl, by decide, .inl S.F.c5.m⟩ (.cons ⟨by rfl, by decide, .inl S.F.c6.m⟩ (.cons ⟨by rfl, by decide, .inl S.F.c7.m⟩ .nil)))))))
  · refine ⟨fun pins s' σ H' D I h' => ?_⟩
    obtain ⟨Ech, hW, h1, h2, h3⟩ := h'
    exact (pss_one (ps_set (i := 2) scOutcome.nd rfl (Or.inl rfl) (act W pn xe Ech _ _ tk hW))).run pins s' σ H' D I ⟨h1, h2, h3⟩
  · refine ⟨(by decide), fun p0 hp0 => ?_⟩
    have u0 := same_upd (o := HO.tup [V.non, V.non]) hp0
    refine ⟨p0, _, rfl, SqT.of upd_same, rfl, _, _, rfl, _, _, rfl, rfl, ?_⟩
    refine ⟨fun cls d H' => cls = .ref S.F.O.C ∧ ∃ (dx : Addr) (x y : V), d = some dx ∧ H' dx = some (.xd [("word", y), ("line", x)]) ∧ ∀ a H2 p, H' a = none → Same (upd H' a (exh (.ref S.F.O.C) (some dx) a)) H2 → H2 p = some (.tup [.str "text", x, y]) → Q (.ref p) H2, fun cls d σ' H' hE hlen => ?_, rfl, u0 _ _ hc, ?_⟩
    · obtain ⟨rfl, dx, x, y, rfl, hdx, hq⟩ := hE
      have len4 : σ'.length = 4 := hlen
      refine ⟨S.F.any, fun a na => ?_⟩
      match σ', len4 with
      | [w0, w1, w2, w3], _ =>
        refine ⟨_, rfl, ?_⟩
        refine ⟨_, rfl, rfl, _, rfl, iteF' (by simp) ?_⟩
        exact ⟨_, rfl, a, dx, x, y, rfl, upd_same, by rw [upd_ne (ne_of_none hdx na)]; exact hdx, fun H2 p s2 e2 => hq a H2 p na s2 e2⟩
    · refine h p0 hp0 _ fun v H1 hq => ?_
      exact ⟨_, rfl, rfl, _, rfl, iteT' (by simp) ⟨_, rfl, (by show 1 ≤ sizeLine; decide), fun p hp => hq p hp⟩⟩
end
end K45

set_option Elab.async false
set_option linter.all false
set_option maxRecDepth 100000
set_option maxHeartbeats 4000000
/-! A lambda whose parameter has a number as its default, handed to a def that calls it with nothing. -/
namespace LamX
open PySem PySem.Spec PyProof.Rows L2
section
variable {X : Cx} {pins : List (Addr × Obj)} {σ : L2.St} {H HZ : Hp} {s s1 : Shared}
theorem lam_make3 {T : List (Addr × Str)} {c P : Addr} {params : Arguments} {body : Expr} {scope : Scope} {pos dp : Pos} {n : Int} {j : Nat} {E : Value → Shared → Prop} {Q : Value → Shared → Prop} (I : Inv X pins σ H s) (TB : TabB X.base X.mg c P) (hcode : X.env.code = .ref c)
    (hm : (P, X.env.qual ++ "<lambda>") ∈ T) (hu : ∀ p ∈ T, p.1 = P → p.2 = X.env.qual ++ "<lambda>") (hT : Tabs T H) (hdef : params.defaults = [.Constant (.int n) j dp]) (hk0 : params.kw_defaults = []) (hfree : ∀ y ∈ scope.names, y.2 = .free → ∃ c, X.env.cells.lookup y.1 = some c)
    (h : ∀ (f c' T0 : Addr) (dv doc pm ctv : Value) (H1 : Hp) (s' : Shared), Inv X pins σ H1 s' → ExtN H H1 → Tabs T H1 → s'.heap.get? T0 = some (PySem.W.kdv_tup [dv]) → H1 T0 = none → T0 ∉ frs X.stack →
      s'.heap.get? f = some (PySem.W.kdv_obj "<lambda>" (X.env.qual ++ "<lambda>") params (.expr body) scope (cloFrom X.env.cells scope.names []) (.ref T0) doc pm c' ctv) → H1 f = none → f ∉ frs X.stack → H1 c' = some (CodeO c' (X.env.qual ++ "<lambda>")) → Q (.ref f) s') :
    wpAny (model X.prog X.w) X.A (eval (.Lambda params body scope pos) X.env) Q E s := by
  obtain ⟨ps, hP, ht, ha⟩ := hT _ hm
  refine PySem.W.kdv_lam (by rw [hdef]; rfl) hk0 ?_
  rw [hdef]
  refine PySem.W.kdv_all1 (wpAny_Constant_int ?_)
  refine PySem.W.kdv_all0 ?_
  rw [makeFunction_eq]
  simp only [List.zip_nil_right, List.filterMap_nil, List.isEmpty_nil, if_true, pure_bind, List.isEmpty_cons, Bool.false_eq_true, if_false]
  refine wpAny_bind (wpAny_newTextTuple ?_)
  have I0 := I.tok (s.toks + 1)
  have nofr : ∀ f, s.heap.objs.size ≤ f → f ∉ frs X.stack := fun f hf z => by
    rcases List.mem_cons.mp (I.stkSub _ z) with e | e
    · have h1 := I.lt
      rw [← e] at h1
      exact Nat.lt_irrefl _ (Nat.lt_of_lt_of_le h1 hf)
    · exact I.nofs hf e
  have nT : H s.heap.objs.size = none := I.hok.fresh (Nat.le_refl _)
  have fT := nofr s.heap.objs.size (Nat.le_refl _)
  have I2 := I0.kept (h' := s.heap.push (PySem.W.kdv_tup [.int n s.toks])) (t' := s.toks + 1) fun b o e => Heap.get?_push_of_some _ e
  have sz2 : s.heap.objs.size < (s.heap.push (PySem.W.kdv_tup [.int n s.toks])).objs.size := by rw [Heap.size_push]; omega
  have g2 : (s.heap.push (PySem.W.kdv_tup [.int n s.toks])).get? s.heap.objs.size = some (PySem.W.kdv_tup [.int n s.toks]) := Heap.get?_push_size _ rfl
  have nP : s.heap.objs.size ≠ P := Nat.ne_of_gt (Heap.lt_size (I.hok P _ hP : s.heap.get? P = some { cls := .none, data := .fields ps }))
  have nofr2 : ∀ f, (s.heap.push (PySem.W.kdv_tup [.int n s.toks])).objs.size ≤ f → f ∉ frs X.stack := fun f hf => nofr f (by omega)
  generalize hT0 : s.heap.objs.size = T0 at nT fT sz2 g2 nP ⊢
  generalize (s.heap.push (PySem.W.kdv_tup [.int n s.toks])) = h2 at I2 sz2 g2 nofr2 ⊢
  generalize (Value.int n s.toks) = dv at g2 ⊢
  have bP : h2.BuiltinsAt X.mg P := TB.bm.keeps I2.bk
  have hP' : h2.get? P = some { cls := .none, data := .fields ps } := I2.hok P _ hP
  cases hc : codeAmong pos ps.toList with
  | none =>
    refine PySem.W.kdv_makeTail (mg := X.mg) (c := c) (P := P) (ps := ps) (closure_ok hfree) I.ok.glob (I.mod.glob.keeps I2.bk) hcode (TB.code.keeps I2.bk) hP' ht hc TB.gP bP fun c' ctv doc h' tk hx hge hlt hrec htb => ?_
    obtain ⟨c2, oc, vs, t, e2, hoc, hd, hv⟩ := hrec
    cases e2
    have hge' : h2.objs.size ≤ c' := hge
    have hsz : h2.objs.size ≤ h'.objs.size := Nat.le_trans hge (Nat.le_of_lt hlt)
    have nC : H c' = none := I2.hok.fresh hge
    have I1 := inv_table (t' := tk) (more := #[rawInt pos.line, rawInt pos.col, .ref c']) (h' := h'.push (PySem.W.kdv_obj "<lambda>" (X.env.qual ++ "<lambda>") params (.expr body) scope (cloFrom X.env.cells scope.names []) (.ref T0) doc ((X.mg "__name__").getD .none) c' ctv)) I2 hP
      (fun b o hb e => Heap.get?_push_of_some _ (hx b o hb e)) (Heap.get?_push_of_some _ htb) hge ⟨oc, vs, t, Heap.get?_push_of_some _ hoc, hd, hv⟩
    have hE : ExtN H (upd (upd H P (.tbl (ps ++ #[rawInt pos.line, rawInt pos.col, .ref c']))) c' (CodeO c' (X.env.qual ++ "<lambda>"))) := fun b o e n => by
      rw [upd_ne (ne_of_none e nC), upd_ne (fun z => n ps (Option.some.inj (e.symm.trans (by rw [z]; exact hP))))]
      exact e
    have eL : (ps ++ #[rawInt pos.line, rawInt pos.col, .ref c']).toList = ps.toList ++ [rawInt pos.line, rawInt pos.col, .ref c'] := by simp
    refine h h'.objs.size c' T0 dv doc ((X.mg "__name__").getD .none) ctv _ _ I1 hE (fun p hp => ?_) (Heap.get?_push_of_some _ (hx _ _ nP g2)) ?_ fT (Heap.get?_push_size _ rfl) ?_ (nofr2 _ hsz) upd_same
    · by_cases hb : p.1 = P
      · rw [hu p hp hb, hb]
        refine ⟨_, by rw [upd_ne (ne_of_none hP nC), upd_same], by rw [eL]; exact PySem.TriplesOk_snoc _ _ _ _ ht, fun p' cv hcv => ?_⟩
        rw [eL] at hcv
        rcases among_app _ ht hcv with z | z
        · obtain ⟨c0, e1, e2⟩ := ha p' cv z
          exact ⟨c0, e1, hE _ _ e2 codeO_ne⟩
        · exact ⟨c', z, upd_same⟩
      · obtain ⟨ps', a1, a2, a3⟩ := hT p hp
        refine ⟨ps', by rw [upd_ne (ne_of_none a1 nC), upd_ne hb]; exact a1, a2, fun p' cv hcv => ?_⟩
        obtain ⟨c0, e1, e2⟩ := a3 p' cv hcv
        exact ⟨c0, e1, hE _ _ e2 codeO_ne⟩
    · have nc : T0 ≠ c' := Nat.ne_of_lt (Nat.lt_of_lt_of_le sz2 hge')
      rw [upd_ne nc, upd_ne nP]
      exact nT
    · have n1 : h'.objs.size ≠ c' := Nat.ne_of_gt hlt
      have n2 : h'.objs.size ≠ P := Nat.ne_of_gt (Nat.lt_of_lt_of_le (Heap.lt_size hP') hsz)
      rw [upd_ne n1, upd_ne n2]
      exact I2.hok.fresh hsz
  | some cv =>
    obtain ⟨c', e, hco⟩ := ha pos cv hc
    subst e
    refine PySem.W.kdv_makeTailHit (mg := X.mg) (c := c) (P := P) (ps := ps) (closure_ok hfree) I.ok.glob (I.mod.glob.keeps I2.bk) hcode (TB.code.keeps I2.bk) hP' ht hc bP fun ctv doc h' tk hx hsz => ?_
    have I1 := I2.kept (h' := h'.push (PySem.W.kdv_obj "<lambda>" (X.env.qual ++ "<lambda>") params (.expr body) scope (cloFrom X.env.cells scope.names []) (.ref T0) doc ((X.mg "__name__").getD .none) c' ctv)) (t' := tk) fun b o e => Heap.get?_push_of_some _ (hx b o e)
    exact h h'.objs.size c' T0 dv doc ((X.mg "__name__").getD .none) ctv H _ I1 (ExtN.refl H) hT (Heap.get?_push_of_some _ (hx _ _ g2)) nT fT (Heap.get?_push_size _ rfl) (I2.hok.fresh hsz) (nofr2 _ hsz) hco
/-- one parameter with a default, that is no name of the maker; no other name of its own -/
structure LamD (sc scope : Scope) (N : List Str) : Prop where
  kind : scope.kind = .function
  co : scope.isCoroutine = false
  gen : scope.isGenerator = false
  own : ∀ y ∈ scope.names, y.2 ≠ .cell ∧ (y.2 = .local → y.1 ∉ N)
  free : ∀ y ∈ scope.names, y.2 = .free → sc.names.lookup y.1 = some .cell ∨ sc.names.lookup y.1 = some .free
def lamDB (sc scope : Scope) (N : List Str) : Bool :=
  decide (scope.kind = .function) && !scope.isCoroutine && !scope.isGenerator && scope.names.all fun y => !decide (y.2 = .cell) && (!decide (y.2 = .local) || !decide (y.1 ∈ N)) && (!decide (y.2 = .free) || decide (sc.names.lookup y.1 = some .cell) || decide (sc.names.lookup y.1 = some .free))
theorem lamD_by {sc scope : Scope} {N : List Str} (h : lamDB sc scope N = true) : LamD sc scope N := by
  unfold lamDB at h
  simp only [Bool.and_eq_true, Bool.or_eq_true, Bool.not_eq_true', decide_eq_true_eq, decide_eq_false_iff_not, List.all_eq_true] at h
  obtain ⟨⟨⟨h1, h2⟩, h3⟩, h4⟩ := h
  refine ⟨h1, h2, h3, fun y hy => ⟨(h4 y hy).1.1, fun e => ?_⟩, fun y hy e => ?_⟩
  · rcases (h4 y hy).1.2 with z | z
    · exact absurd e z
    · exact z
  · rcases (h4 y hy).2 with (z | z) | z
    · exact absurd e z
    · exact .inl z
    · exact .inr z
theorem LamD.has {X : Cx} {scope : Scope} {N : List Str} (L : LamD X.env.scope scope N) (ok : X.Ok) : ∀ y ∈ scope.names, y.2 = .free → ∃ c, X.env.cells.lookup y.1 = some c := fun y hy e => by
  rcases L.free y hy e with k | k
  · exact ok.has _ (.inl k)
  · exact ok.has _ (.inr k)
theorem lam_start3 {A : Around} {outer : List Env} {E : XK} {scope : Scope} {f c' : Addr} {h₁ : Heap} {tk : Nat} {mm : Str → Option Value} (I : Inv X pins σ H s) (L : LamD X.env.scope scope X.N) (e0 : Env0 X.prog X.w X.K X.mg X.base A outer s1 HZ) (hd : A.handled = none)
    (un : Un (frs X.stack) [] H HZ s.heap s1.heap) (hns : h₁.Ns s1.heap.objs.size mm) (kp : ∀ b o, s1.heap.get? b = some o → h₁.get? b = some o) :
    Inv (lamCx X A outer s1 HZ E scope f c') [] σ HZ { s1 with heap := h₁, toks := tk } := by
  have hfree := L.has I.ok
  have cm : ∀ {y c}, (cloFrom X.env.cells scope.names []).lookup y = some c → X.env.cells.lookup y = some c := fun {y c} e => by
    rcases cloFrom_mem (PySem.mem_of_lookup e) with hm | ⟨h1, h2⟩
    · cases hm
    · obtain ⟨c1, hc⟩ := hfree _ h1 rfl
      have hc : X.env.cells.lookup y = some c1 := hc
      have e2 : c = c1 := by
        rw [h2, hc] <;> rfl
      rw [e2]
      exact hc
  have look : ∀ {y}, scope.names.lookup y = some .free → ∃ c, (cloFrom X.env.cells scope.names []).lookup y = some c := fun {y} hl => by
    have hy : (y, NameKind.free) ∈ scope.names := PySem.mem_of_lookup hl
    exact mem_lookup (cloFrom_has (cells := X.env.cells) (acc := []) hy)
  have cellK : ∀ {c : Addr} {v : Option Value}, H c = none → s.heap.IsCell c v → h₁.IsCell c v := fun {c v} n ⟨o, ho, hd⟩ => by
    obtain ⟨sl, q⟩ := un.any ho n (by simp)
    exact ⟨_, kp _ _ q, hd⟩
  have noA : ∀ b : Addr, b ∉ (lamCx X A outer s1 HZ E scope f c').ex := fun b z => absurd (show b ∈ ([] : List Addr) from z) (by simp)
  refine ⟨⟨e0.mod, L.kind, rfl, rfl, Nat.le_refl _, fun y z c e1 e2 => I.ok.inj y z c (cm e1) (cm e2), fun y hy => ?_, fun y c z _ => ?_, fun _ => hd, Around.frames_deeper e0.frames, .inr ⟨rfl, rfl⟩, fun b z => absurd z (noA b), e0.bs, e0.bsz, fun b _ _ => noA b,
      fun b z => absurd z (noA b), e0.funs, e0.frf⟩,
    rfl, e0.bare, Un.kept kp, ⟨_, hns, fun i y v e1 e2 e3 => ?_⟩, fun y c e => ?_, e0.hok.fresh (Nat.le_refl _), fun y c e => ?_, fun q hq => absurd (show q ∈ ([] : List (Addr × Obj)) ++ [] from hq) (by simp), e0.hok.kept kp, I.len⟩
  · have hy : scope.names.lookup y = some .cell ∨ scope.names.lookup y = some .free := hy
    rcases hy with hy | hy
    · exact absurd rfl (L.own _ (PySem.mem_of_lookup hy)).1
    · exact look hy
  · have z : false = true := z
    cases z
  · have e3 : Vis scope y := e3
    have yN : y ∈ X.N := List.mem_of_getElem? e1
    rcases e3 with k | k | k
    · exact absurd yN ((L.own _ (PySem.mem_of_lookup k)).2 rfl)
    · exact absurd rfl (L.own _ (PySem.mem_of_lookup k)).1
    · obtain ⟨m, hn, hl⟩ := I.loc
      have hvis : Vis X.env.scope y := (L.free _ (PySem.mem_of_lookup k) rfl).elim (fun k => .inr (.inl k)) (fun k => .inr (.inr k))
      obtain ⟨w', r, q⟩ := hl i y v e1 e2 hvis
      obtain ⟨c2, h2⟩ := look k
      refine ⟨w', r, .inr ⟨.inr k, c2, h2, ?_⟩⟩
      have c1 := cm h2
      rcases q with ⟨k', _⟩ | ⟨_, c3, e', z⟩
      · have k' : X.env.scope.names.lookup y = some .local := k'
        rcases L.free _ (PySem.mem_of_lookup k) rfl with k2 | k2 <;> rw [show X.env.scope.names.lookup y = _ from k2] at k' <;> cases k'
      · rw [c1] at e'
        cases e'
        exact cellK (I.freeC y _ c1) z
  · obtain ⟨w', z⟩ := I.cell y c (cm e)
    exact ⟨w', cellK (I.freeC y c (cm e)) z⟩
  · obtain ⟨v, o, ho, hd⟩ := I.cell y c (cm e)
    exact un.free c o ho (I.freeC y c (cm e)) (by simp)
/-- what binds nothing to the parameters -/
def BindsD (params : Arguments) (body : Expr) (scope : Scope) (x : Str) : Prop := ∀ (s : Shared) (q : Str) (cl : List (Str × Addr)) (T0 : Addr) (dv doc pm cv ctv : Value), s.heap.get? T0 = some (PySem.W.kdv_tup [dv]) →
  BindsTo s (PySem.W.kdv_fn "<lambda>" q params (.expr body) scope cl (.ref T0) doc pm cv ctv) ⟨[], []⟩ [(x, dv)]
theorem pe_act3 {CXg : CXT} {Eg : XK} {Ng : List Str} {qg : Str} {sg : Scope} {g f c' T0 : Addr} {cdg pm ctv dv doc : Value} {params : Arguments} {body : Expr} {scope : Scope} {k i : Nat} {a x : Str} {pn : List (Addr × Obj)} {xe : Value → Shared → Prop} {W : WX} {E : XK} {tb : TE} {p1 p2 : Pos}
    (I : Inv X pins σ H s) (L : LamD X.env.scope scope X.N) (hT : s.heap.get? T0 = some (PySem.W.kdv_tup [dv])) (hTn : H T0 = none) (hTf : T0 ∉ frs X.stack)
    (hf : s.heap.get? f = some (PySem.W.kdv_obj "<lambda>" (X.env.qual ++ "<lambda>") params (.expr body) scope (cloFrom X.env.cells scope.names []) (.ref T0) doc pm c' ctv)) (hfn : H f = none) (hfr : f ∉ frs X.stack)
    (hbind : BindsD params body scope x) (hx : scope.names.lookup x = some .local)
    (tk : Takes ((cxOf CXg X.prog X.w X.K X.mg X.base Ng qg sg g cdg X.A X.stack s H Eg).tr pn xe) W) (hW : ∀ cls d σ' H', E cls d H' → W cls d σ' H') (hr : Room (k + 1) (X.A.deeper (envOfC qg sg s.heap.objs.size g cdg)))
    (hbody : ∀ (A : Around) (outer : List Env) (s : Shared) (H : Hp), Room k (A.deeper (lamEnv X scope s.heap.objs.size f c')) → PE (lamCx X A outer s H E scope f c') body tb)
    (hN : Ng[i]? = some a) (hv : Vis sg a) (hd : (a == ("__debug__" : Str)) = false := by decide) (hcd : (a == ("__classdict__" : Str)) = false := by decide) :
    PE ((cxOf CXg X.prog X.w X.K X.mg X.base Ng qg sg g cdg X.A X.stack s H Eg).tr pn xe) (.Call (.Name a p1) [] [] p2)
      (fun σZ HZ Q => σZ[i]? = some (some (.ref f)) ∧ HZ c' = some (CodeO c' (X.env.qual ++ "<lambda>")) ∧ tb σ HZ Q) := by
  refine ⟨fun pinsZ sZ σZ HZ Q IZ h => ?_⟩
  obtain ⟨hs, hc, ht⟩ := h
  refine wpAny_Call_Name_kw (thn ((pe_var (pos := p1) (i := i) hN hv hd hcd).run pinsZ sZ σZ HZ (fun v H1 => v = .ref f ∧ H1 = HZ) IZ ⟨.ref f, hs, rfl, rfl⟩) fun u s1 ⟨v, H1, I1, r1, q1⟩ => ?_)
  obtain ⟨ev, eH⟩ := q1
  subst ev
  rw [eH] at I1
  obtain rfl : u = Value.ref f := r1
  have of1 : s1.heap.get? f = some (PySem.W.kdv_obj "<lambda>" (X.env.qual ++ "<lambda>") params (.expr body) scope (cloFrom X.env.cells scope.names []) (.ref T0) doc pm c' ctv) := I1.base.keep f _ hf hfn hfr (fun z => nomatch (show f ∈ ([] : List Addr) from z))
  have oT1 : s1.heap.get? T0 = some (PySem.W.kdv_tup [dv]) := I1.base.keep T0 _ hT hTn hTf (fun z => nomatch (show T0 ∈ ([] : List Addr) from z))
  refine PySem.W.callWith_F0 ⟨_, _, _, _, of1⟩ ?_
  have un : Un (frs X.stack) [] H HZ s.heap s1.heap := I1.base
  obtain ⟨⟨oc, vs, t, hoc, hdc, hvc⟩, _, _⟩ := I1.hok c' _ hc
  have rc : codeAny (model X.prog X.w) (X.A.deeper (envOfC qg sg s.heap.objs.size g cdg)) (.call (.ref f) ⟨[], []⟩) (CR (L2.CX X.prog X.w) (envOfC qg sg s.heap.objs.size g cdg :: X.stack) X.prog X.w HZ s1 Q E) s1 := by
    refine PySem.W.kla_callFunE hr.depth of1 rfl L.co L.gen rfl ⟨c', oc, vs, t, rfl, hoc, hdc, hvc⟩ ?_
    refine hbind s1 _ _ T0 dv doc pm (.ref c') ctv oT1 _ _ _ _ ?_
    refine wpAny_newFunctionEnv (fun y hy => (L.own y hy).1) (fun y hy => ?_) (fun h₁ hns hsb => ⟨I1.nolimit.fresh _ hsb, ?_⟩) L.kind
    · obtain rfl := List.mem_singleton.mp hy
      exact hx
    show codeAny _ _ (.expr body (lamEnv X scope s1.heap.objs.size f c')) _ _
    have kp : ∀ b o, s1.heap.get? b = some o → h₁.get? b = some o := fun b o e => hsb.extBut b o (Nat.ne_of_lt (Heap.lt_size e)) (Heap.get?_push_of_some _ e)
    have J : Inv (lamCx X (X.A.deeper (envOfC qg sg s.heap.objs.size g cdg)) (envOfC qg sg s.heap.objs.size g cdg :: X.stack) s1 HZ E scope f c') [] σ HZ { s1 with heap := h₁, toks := s1.toks + ([(x, dv)] : List (Str × Value)).length } :=
      lam_start3 I L I1.env0 hr.hd un hns kp
    refine PySem.W.kla_codeExpr (wpAny_mono ((hbody _ _ s1 HZ (hr.deeper _)).run [] _ _ HZ Q J ht) (fun v s' hq => ?_) fun e s' hq => hq)
    obtain ⟨w', H', J', rv, q⟩ := hq
    exact ⟨w', H', J'.os, J'.bare, J'.base, J'.hok, rv, q⟩
  have hx : Passes (L2.CX X.prog X.w) ((cxOf CXg X.prog X.w X.K X.mg X.base Ng qg sg g cdg X.A X.stack s H Eg).tr pn xe) E := passes_call tk hW
  refine wpAny_call (codeAny_mono rc fun r s' hq => ?_)
  cases r with
  | error e => exact hx pinsZ σZ HZ s1 e s' I1 hq
  | ok fl =>
    cases fl with
    | ret u => exact I1.after hq
    | next => exact False.elim hq
    | brk => exact False.elim hq
    | cont => exact False.elim hq
/-- x(lambda y=n: body) -/
theorem pe_lamcall3 {T : List (Addr × Str)} {TT : (XK → Hp → VK → Prop) → Hp → VK → Prop} {x a y : Str} {g c P : Addr} {k : Nat} {pg : Arguments} {bg : List Stmt} {sg : Scope} {dV kV doc pm cdv ct oc : Value} {an od : Option Addr} {osl : Array (Option Value)} {Ng : List Str}
    {params : Arguments} {body : Expr} {scope : Scope} {t : XK → TE} {p lpos pos dp : Pos} {n : Int} {j : Nat} (hg : Gl X x) (hm : X.mg x = some (.ref g)) (hk : PySem.W.keepIn X.K (.ref g) = true)
    (lk : X.K.lookup g = some ⟨oc, od, .func (PySem.W.fnOf x x pg bg sg dV kV doc pm an cdv ct), osl⟩) (hcg : PySem.W.codeIn X.K cdv x = true) (hb : L2.Binds X.K (PySem.W.fnOf x x pg bg sg dV kV doc pm an cdv ct) [a] []) (Sg : FnScope Ng [a] sg) (hNg : Ng[0]? = some a) (hva : Vis sg a)
    (hG : GivesTo X Ng x sg g cdv bg a (X.env.qual ++ "<lambda>") TT)
    (TB : TabB X.base X.mg c P) (hcode : X.env.code = .ref c) (hmT : (P, X.env.qual ++ "<lambda>") ∈ T) (hu : ∀ p ∈ T, p.1 = P → p.2 = X.env.qual ++ "<lambda>") (hr : Room (k + 2) X.A) (L : LamD X.env.scope scope X.N) (hdef : params.defaults = [.Constant (.int n) j dp]) (hk0 : params.kw_defaults = [])
    (hbind : BindsD params body scope y) (hy : scope.names.lookup y = some .local)
    (hbody : ∀ (A : Around) (outer : List Env) (s : Shared) (H : Hp) (E : XK) (f c' : Addr), Room k (A.deeper (lamEnv X scope s.heap.objs.size f c')) → PE (lamCx X A outer s H E scope f c') body (t E))
    (hdb : (x == ("__debug__" : Str)) = false := by decide) (hd : (a == ("__debug__" : Str)) = false := by decide) (hcd : (a == ("__classdict__" : Str)) = false := by decide) :
    PE X (.Call (.Name x p) [.Lambda params body scope lpos] [] pos) (tLam T TT t) := by
  refine ⟨fun pins s σ H Q I h => ?_⟩
  obtain ⟨hT, h⟩ := h
  refine wpAny_Call_Name_kw (ld_glob I hg hm ?_ hdb)
  refine PySem.W.callWith_K (h₀ := X.base) I.ok.mod.kin hk ?_ (by rfl) (by rfl)
  show wpAny _ _ (spliced ((false, eval (.Lambda params body scope lpos) X.env) :: backTo pos (starEach [] X.env))) _ _ s
  refine Calls.spliced_cons (lam_make3 I TB hcode hmT hu hT hdef hk0 (L.has I.ok) fun f c' T0 dv doc' pm' ctv H1 s' I1 eN T1 hT0 hTn hTf hf hfn hfr hco => ?_)
  refine Calls.spliced_nil ⟨I1.kIn, ?_⟩
  have rc : codeAny (model X.prog X.w) X.A (.call (.ref g) ⟨[.ref f], []⟩) (CR C8.CX0 X.stack X.prog X.w H1 s' Q C8.E0) s' := by
    refine run_ofS (N := Ng) (ps := [a]) (us := [.ref f]) (vs := [.ref f]) lk hcg Sg hr I1.env0 (hb s' [.ref f] I1.kIn rfl) (.cons rfl .nil) rfl fun hr' => ?_
    obtain ⟨t', ht', hq'⟩ := hG f c' s' H1 Q (fun E H' Q' => t E σ H' Q') (fun W pn xe E p1 p2 tk hW => pe_act3 (i := 0) I1 L hT0 hTn hTf hf hfn hfr hbind hy tk hW hr' (fun A outer s H hr2 => hbody A outer s H E f c' hr2) hNg hva hd hcd) hco (h H1 eN T1)
    exact ⟨t', ht'.nox, hq'⟩
  refine wpAny_call (codeAny_mono rc fun r s2 hq => ?_)
  cases r with
  | error e => exact (show False from hq).elim
  | ok fl =>
    cases fl with
    | ret u => exact I1.after hq
    | next => exact False.elim hq
    | brk => exact False.elim hq
    | cont => exact False.elim hq
end
end LamX

set_option Elab.async false
set_option linter.all false
set_option maxRecDepth 100000
set_option maxHeartbeats 4000000
/-! What the law wants. -/
namespace K45
open PySem L2 L2.EV LamX PySem.Spec

theorem dig_log {i : Int} (h0 : 0 ≤ i) (h1 : i < 6) : i.natAbs.log2 < 1920 := by
  obtain ⟨n, rfl⟩ := Int.eq_ofNat_of_zero_le h0
  have : n = 0 ∨ n = 1 ∨ n = 2 ∨ n = 3 ∨ n = 4 ∨ n = 5 := by omega
  rcases this with rfl | rfl | rfl | rfl | rfl | rfl <;> decide
theorem sum_le {m : Nat} : ∀ l : List Nat, (∀ x ∈ l, x ≤ m) → l.sum ≤ l.length * m
  | [], _ => Nat.zero_le _
  | x :: l, h => by
    have a := h x (List.mem_cons_self ..)
    have b := sum_le l fun y hy => h y (List.mem_cons_of_mem _ hy)
    rw [List.sum_cons, List.length_cons, Nat.add_mul]
    omega
theorem line_len {x : T3} (s : Stp x) : (line3 x).length ≤ 12 := by
  obtain ⟨h0, h6, hp, g0, g6⟩ := s
  obtain ⟨_, _, n1, _, _⟩ := dig_ok h0 (by omega)
  obtain ⟨_, _, n2, _, _⟩ := dig_ok g0 (by omega)
  have pl := pc_len hp
  have e : (" " : Str).length = 1 := by decide +kernel
  unfold line3
  simp only [app_len]
  omega
theorem lines_sum {fr : List T3} (h : ∀ x ∈ fr, Stp x) (l1 : fr.length ≤ 16) : ((fr.map line3).map (fun x => x.length)).sum + (fr.map line3).length * ("\n" : Str).length ≤ 16777216 := by
  have z := sum_le (m := 12) ((fr.map line3).map (fun x : Str => x.length)) (fun n hn => by
    obtain ⟨y, hy, rfl⟩ := List.mem_map.mp hn
    obtain ⟨x, hx, rfl⟩ := List.mem_map.mp hy
    exact line_len (h x hx))
  have e : ("\n" : Str).length = 1 := by decide +kernel
  rw [List.length_map, List.length_map] at z
  rw [List.length_map, e]
  omega
theorem txt_textF (fr : List T3) : Txt.join "\n" (fr.map line3) = textF fr := eq_of_beq (PyProof.Rows.join_plain_closes "\n" (fr.map line3))
theorem len_textF {fr : List T3} (h : ∀ x ∈ fr, Stp x) (l1 : fr.length ≤ 16) : (textF fr).length ≤ 208 := by
  have key : ∀ fr : List T3, (∀ x ∈ fr, Stp x) → (textF fr).length ≤ 13 * fr.length := by
    intro fr
    induction fr with
    | nil =>
      intro _
      exact Nat.zero_le _
    | cons x r ih =>
      intro h
      have a := line_len (h x (List.mem_cons_self ..))
      have b := ih fun y hy => h y (List.mem_cons_of_mem _ hy)
      have e1 : ("\n" : Str).length = 1 := by decide +kernel
      cases r with
      | nil =>
        show (line3 x).length ≤ _
        rw [List.length_cons]
        omega
      | cons y r =>
        show (line3 x ++ "\n" ++ textF (y :: r)).length ≤ _
        rw [app_len, app_len, List.length_cons]
        omega
  have := key fr h
  omega
theorem split_text {fr : List T3} (n : fr ≠ []) (h : ∀ x ∈ fr, Stp x) : Txt.split (textF fr) "\n" = fr.map line3 := by
  have e : ("\n" : Str) = ⟨#[10]⟩ := by decide +kernel
  unfold textF
  rw [e]
  refine split_of (fun z => n (List.map_eq_nil_iff.mp z)) fun y hy => ?_
  obtain ⟨x, hx, rfl⟩ := List.mem_map.mp hy
  obtain ⟨h0, h6, hp, g0, g6⟩ := h x hx
  obtain ⟨_, _, _, _, a⟩ := dig_ok h0 (by omega)
  obtain ⟨_, _, _, _, b⟩ := dig_ok g0 (by omega)
  have c := (pc_free hp).2
  unfold line3
  rw [sl_app, sl_app, sl_app, sl_app]
  have s : sl (" " : Str) = [32] := by decide +kernel
  rw [s]
  intro hm
  simp only [List.mem_append] at hm
  rcases hm with (((hm | hm) | hm) | hm) | hm
  · exact a hm
  · exact absurd hm (by decide)
  · exact c hm
  · exact absurd hm (by decide)
  · exact b hm
theorem split_line {x : T3} (h : Stp x) : Txt.split (line3 x) " " = words x := by
  have e : (" " : Str) = ⟨#[32]⟩ := by decide +kernel
  obtain ⟨h0, h6, hp, g0, g6⟩ := h
  obtain ⟨_, _, _, a, _⟩ := dig_ok h0 (by omega)
  obtain ⟨_, _, _, b, _⟩ := dig_ok g0 (by omega)
  have c := (pc_free hp).1
  rw [line_join, e]
  refine split_of (by simp [words]) fun y hy => ?_
  have cs : y = dig x.1 ∨ y = x.2.1 ∨ y = dig x.2.2 := by simpa [words] using hy
  rcases cs with rfl | rfl | rfl
  · exact a
  · exact c
  · exact b
def nt (H : Hp) : Hp := fun b => match H b with
  | some (.tbl _) => none
  | x => x
theorem nt_mk {H : Hp} {b : Addr} {o : HO} (e : H b = some o) (n : ∀ ps, o ≠ .tbl ps) : nt H b = some o := by
  unfold nt
  rw [e]
  cases o <;> first | rfl | exact absurd rfl (n _)
theorem nt_some {H : Hp} {b : Addr} {o : HO} (e : nt H b = some o) : H b = some o ∧ ∀ ps, o ≠ .tbl ps := by
  unfold nt at e
  cases h : H b with
  | none =>
    rw [h] at e
    cases e
  | some u =>
    rw [h] at e
    cases u <;> first | (cases e; exact ⟨rfl, fun ps z => by cases z⟩) | cases e
theorem nt_sub {H : Hp} : Same (nt H) H := fun b o e => (nt_some e).1
theorem nt_same {H H' : Hp} (s : Same H H') : Same (nt H) (nt H') := fun b o e => nt_mk (s _ _ (nt_some e).1) (nt_some e).2
theorem nt_ext {H H' : Hp} (s : ExtN H H') : Same (nt H) (nt H') := fun b o e => nt_mk (s _ _ (nt_some e).1 (nt_some e).2) (nt_some e).2
theorem ext_same {H H' : Hp} (s : Same H H') : ExtN H H' := fun b o e _ => s b o e
theorem fr_nt {H : Hp} {f : Addr} {fr : List T3} (h : FrA H f fr) : FrA (nt H) f fr := by
  obtain ⟨ts, e, l, c⟩ := h
  exact ⟨ts, nt_mk e (fun ps z => by cases z), l, fun i t x h1 h2 => nt_mk (c i t x h1 h2) (fun ps z => by cases z)⟩
theorem mat_nt {H : Hp} {m c l : Addr} {k : Int} (M : MAt H m c l k) : MAt (nt H) m c l k := by
  obtain ⟨h1, ⟨cs, h2, h3⟩, ⟨ls, h4, h5⟩, h6, h7, h8⟩ := M
  exact ⟨nt_mk h1 (fun ps z => by cases z), ⟨cs, nt_mk h2 (fun ps z => by cases z), h3⟩, ⟨ls, nt_mk h4 (fun ps z => by cases z), h5⟩, h6, h7, h8⟩
mutual
theorem da_nt {H : Hp} : ∀ (d : PyData) (v : V), Da H v d → Da (nt H) v d
  | .none, _, h => by cases h; exact .non
  | .bool b, _, h => by cases h; exact .bl b
  | .int i, _, h => by cases h; exact .int i
  | .str x, _, h => by cases h; exact .str x
  | .list ds, _, h => by
    cases h with
    | lst e ha => exact .lst (nt_mk e (fun ps z => by cases z)) (das_nt ds _ ha)
  | .tuple ds, _, h => by
    cases h with
    | tup e ha => exact .tup (nt_mk e (fun ps z => by cases z)) (das_nt ds _ ha)
  | .dict _, _, h => by cases h
theorem das_nt {H : Hp} : ∀ (ds : List PyData) (vs : List V), DaAll H vs ds → DaAll (nt H) vs ds
  | [], _, h => by cases h; exact .nil
  | d :: ds, _, h => by
    cases h with
    | cons h1 h2 => exact .cons (da_nt d _ h1) (das_nt ds _ h2)
end
theorem tabs_dr {T : List (Addr × Str)} {H H' : Hp} {m c l l' : Addr} {k k0 : Int} (t : Tabs T H) (M : MAt H m c l k0) (d : Dr H H' m c l l' k) : Tabs T H' := fun p hp => by
  obtain ⟨ps, h1, h2, h3⟩ := t p hp
  obtain ⟨ls, hl, _⟩ := M.hl
  have kp : ∀ b o, H b = some o → (∀ kvs, o ≠ .dK kvs) → (∀ xs, o ≠ .lst xs) → H' b = some o := fun b o e n1 n2 => d.kp b o e (ne_of e M.hm (n1 _)) (ne_of e hl (n2 _))
  refine ⟨ps, kp _ _ h1 (fun _ z => by cases z) (fun _ z => by cases z), h2, fun pos cv e => ?_⟩
  obtain ⟨c', e1, e2⟩ := h3 pos cv e
  exact ⟨c', e1, kp _ _ e2 (fun _ z => by unfold CodeO at z; cases z) (fun _ z => by unfold CodeO at z; cases z)⟩
theorem ext_tup {H H' : Hp} {p : Addr} {xs : List V} (e : ExtN H H') (h : H p = some (.tup xs)) : H' p = some (.tup xs) := e _ _ h (fun ps z => by cases z)
theorem da_3 {H : Hp} {t : Addr} {x : T3} (h : S3 H t x) : Da H (.ref t) (d3 x) := .tup h (.cons (.int _) (.cons (.str _) (.cons (.int _) .nil)))
theorem da_3s {H : Hp} : ∀ {ts : List Addr} {xs : List T3}, ts.length = xs.length → (∀ (i : Nat) t x, ts[i]? = some t → xs[i]? = some x → S3 H t x) → DaAll H (ts.map V.ref) (xs.map d3)
  | [], [], _, _ => .nil
  | [], _ :: _, l, _ => by cases l
  | _ :: _, [], l, _ => by cases l
  | t :: ts, x :: xs, l, c => .cons (da_3 (c 0 t x rfl rfl)) (da_3s (by simpa using l) fun i t x a b => c (i + 1) t x (by simpa using a) (by simpa using b))
theorem da_fr {H : Hp} {f : Addr} {fr : List T3} (h : FrA H f fr) : Da H (.ref f) (.tuple (fr.map d3)) := by
  obtain ⟨ts, e, l, c⟩ := h
  exact .tup e (da_3s l c)
theorem okd_3 {x : T3} (s : Stp x) : Okd (d3 x) 300 1 := by
  obtain ⟨h0, h6, hp, g0, g6⟩ := s
  have pl := pc_len hp
  refine (okd_tuple (n := 82) (dp := 0) (m := 3) (fun d hd => ?_) (Nat.le_refl _)).le (by decide) (Nat.le_refl _)
  have cs : d = .int x.1 ∨ d = .str x.2.1 ∨ d = .int x.2.2 := by simpa using hd
  rcases cs with rfl | rfl | rfl
  · exact (okd_int h0 (by omega)).le (by decide) (Nat.le_refl _)
  · exact (okd_str (m := 8) (pc_ok hp) (by omega)).le (by decide) (Nat.le_refl _)
  · exact (okd_int g0 (by omega)).le (by decide) (Nat.le_refl _)
theorem okd_fr {fr : List T3} (h : ∀ x ∈ fr, Stp x) (l : fr.length ≤ 16) : Okd (.tuple (fr.map d3)) 5000 2 := by
  refine (okd_tuple (n := 300) (dp := 1) (m := 16) (fun d hd => ?_) (by rw [List.length_map]; exact l)).le (by decide) (Nat.le_refl _)
  obtain ⟨x, hx, rfl⟩ := List.mem_map.mp hd
  exact okd_3 (h x hx)
theorem str_textF {fr : List T3} (h : ∀ x ∈ fr, Stp x) : PyData.strOk (textF fr) = true := by
  have key : ∀ c ∈ sl (textF fr), c < 0x110000 := by
    unfold textF
    have e : ("\n" : Str) = ⟨#[10]⟩ := by decide +kernel
    rw [e, sl_inter]
    have inn : ∀ (ls : List (List Nat)), (∀ l ∈ ls, ∀ c ∈ l, c < 0x110000) → ∀ c ∈ inter 10 ls, c < 0x110000 := by
      intro ls
      induction ls with
      | nil => exact fun _ c hc => by cases hc
      | cons a r ih =>
        intro h c hc
        cases r with
        | nil => exact h a (List.mem_cons_self ..) c hc
        | cons b r =>
          rcases List.mem_append.mp (show c ∈ a ++ 10 :: inter 10 (b :: r) from hc) with z | z
          · exact h a (List.mem_cons_self ..) c z
          · rcases List.mem_cons.mp z with rfl | z
            · decide
            · exact ih (fun l hl => h l (List.mem_cons_of_mem _ hl)) c z
    refine inn _ fun l hl c hc => ?_
    obtain ⟨y, hy, rfl⟩ := List.mem_map.mp hl
    obtain ⟨x, hx, rfl⟩ := List.mem_map.mp hy
    obtain ⟨h0, h6, hp, g0, g6⟩ := h x hx
    have dg : ∀ {i : Int}, 0 ≤ i → i < 6 → ∀ c ∈ sl (dig i), c < 0x110000 := fun {i} a b => by
      obtain ⟨n, rfl⟩ := Int.eq_ofNat_of_zero_le a
      have : n = 0 ∨ n = 1 ∨ n = 2 ∨ n = 3 ∨ n = 4 ∨ n = 5 := by omega
      rcases this with rfl | rfl | rfl | rfl | rfl | rfl <;> decide +kernel
    have so : ∀ c ∈ sl x.2.1, c < 0x110000 := fun c hc => by
      have hs := pc_ok hp
      unfold PyData.strOk at hs
      rw [← Array.all_toList, List.all_eq_true] at hs
      exact of_decide_eq_true (hs c hc)
    unfold line3 at hc
    rw [sl_app, sl_app, sl_app, sl_app] at hc
    have s : sl (" " : Str) = [32] := by decide +kernel
    rw [s] at hc
    simp only [List.mem_append] at hc
    rcases hc with (((hm | hm) | hm) | hm) | hm
    · exact dg h0 h6 c hm
    · have : c = 32 := by simpa using hm
      omega
    · exact so c hm
    · have : c = 32 := by simpa using hm
      omega
    · exact dg g0 g6 c hm
  unfold PyData.strOk
  rw [← Array.all_toList, List.all_eq_true]
  exact fun c hc => decide_eq_true (key c hc)
theorem mat_ext {H H' : Hp} {m c l : Addr} {k : Int} (M : MAt H m c l k) (e : ExtN H H') : MAt H' m c l k := ((mat_nt M).same (nt_ext e)).same nt_sub
abbrev sLT : Stmt := top 33
def spText : Sp := fun vs H Q _ => ∃ (f : Addr) (fr : List T3) (last : Nat), vs = [.ref f] ∧ FrA H f fr ∧ Frm fr last ∧ ∀ H', Same H H' → Q (.str (textF fr)) H'
structure Tf (K : PySem.W.Frag) (mg : Str → Option Value) where
  f2 : Addr
  d2 : FuncData
  L : Fun K "_law_framing_text" "_law_framing_text" sLT f2 d2
  b2 : Binds K d2 ["framing"] []
  m2 : mg "_law_framing_text" = some (.ref f2)
  str : mg "str" = none
section
variable {P : Program} {w : World} {K : PySem.W.Frag} {mg : Str → Option Value} {base : Heap}
theorem scLT : FnScope ["framing", "here", "piece", "to"] ["framing"] (defScope sLT) := ⟨rfl, rfl, rfl, by decide +kernel, rfl, by decide +kernel, by decide +kernel⟩
theorem ok_lt (W : Tf K mg) : FnOk P w K mg base CX0 1 W.f2 W.d2 ["framing"] spText := by
  refine W.L.ok scLT (fun vs H Q E h => ?_) (fun cdv A outer s H vs Q E hr h => ?_)
  · obtain ⟨f, fr, last, rfl, _⟩ := h
    rfl
  · obtain ⟨f, fr, last, rfl, fa, fm, q⟩ := h
    refine ⟨_, pss_one (ps_ret (pe_m1 PySem.F.slot_str_join PySem.F.type_str_join mt_join pe_str (pe_lc (own := [("here", 1), ("piece", 2), ("to", 3)]) (g := gTup K 3 (gCons (gName 1) (gCons (gName 2) (gCons (gName 3) gNil))))
        rfl scLT.nd (pi_tup (pv 0))
        (blkOk_by (N := ["framing", "here", "piece", "to"]) (sc := defScope sLT) (by decide +kernel))
        (fun _ _ _ _ _ => pg_tup rfl (pgs_cons (pg_name (i := 1) scLT.nd rfl (Or.inl rfl)) (pgs_cons (pg_name (i := 2) scLT.nd rfl (Or.inl rfl)) (pgs_cons (pg_name (i := 3) scLT.nd rfl (Or.inl rfl)) pgs_nil))))
        (fun _ _ _ _ _ => pts_nil) (fun _ _ _ _ _ => pe_op op_add_str (pe_op op_add_str (pe_op op_add_str (pe_op op_add_str (pe_callTy call_str_int (by rfl) W.str (by decide +kernel) (pa_cons (pv 1) pa_nil)) pe_str) (pv 2)) pe_str) (pe_callTy call_str_int (by rfl) W.str (by decide +kernel) (pa_cons (pv 3) pa_nil)))))), ?_⟩
    obtain ⟨ts, hf, hl, ht⟩ := id fa
    have l1 := fm.l1
    refine ⟨⟨_, rfl⟩, _, rfl, f, rfl, ⟨_, SqT.of hf⟩, fun D hD => ?_⟩
    refine lc_it (walk_tup (xs := ts.map V.ref)) (fun i H' => H' D = some (.lst (((fr.take i).map line3).map V.str)) ∧ Same H H') ⟨upd_same, same_upd hD⟩ (fun i H' _ z => SqT.of (z.2 _ _ hf)) ?_ ?_
    · rintro i x H2 H3 hi ⟨hd, s2⟩ ⟨rfl, hx⟩
      obtain ⟨t, y, hy, rfl, e4⟩ := at_step (i := i) hl ht hx
      obtain ⟨h0, h6, hp, g0, g6⟩ := fm.stp y (List.mem_of_getElem? hy)
      obtain ⟨_, _, n1, _, _⟩ := dig_ok h0 (by omega)
      obtain ⟨_, _, n2, _, _⟩ := dig_ok g0 (by omega)
      have pl := pc_len hp
      have il : i < fr.length := (List.getElem?_eq_some_iff.mp hy).1
      refine ⟨t, _, rfl, SqT.of (s2 _ _ e4), rfl, _, _, rfl, _, _, rfl, _, _, rfl, rfl, rfl, ?_⟩
      have e1 : (" " : Str).length = 1 := by decide +kernel
      unfold dig at n1 n2
      refine ⟨_, rfl, y.1, rfl, dig_log h0 h6, _, _, rfl, rfl, (by rw [sizeLine_eq]; omega), ?_⟩
      refine ⟨_, rfl, _, _, rfl, rfl, (by rw [sizeLine_eq]; simp only [app_len]; omega), ?_⟩
      refine ⟨_, _, rfl, rfl, (by rw [sizeLine_eq]; simp only [app_len]; omega), ?_⟩
      refine ⟨_, rfl, y.2.2, rfl, dig_log g0 g6, _, _, rfl, rfl, (by rw [sizeLine_eq]; simp only [app_len]; omega), ?_⟩
      refine ⟨_, hd, by rw [List.length_map, List.length_map, List.length_take, sizeLine_eq]; omega, ?_, same_push hD s2⟩
      rw [take_one hy, List.map_append, List.map_append]
      exact upd_same
    · rintro H2 ⟨hd, s2⟩
      rw [List.length_map, hl, List.take_length] at hd
      refine ⟨_, D, fr.map line3, rfl, rfl, .inl (SqL.of hd), lines_sum fm.stp l1, ?_⟩
      rw [txt_textF]
      exact q _ s2
end
/-! ### what is told of a text -/
theorem okd_big {i : Int} (h0 : 0 ≤ i) (h1 : i < 1000000000) : Okd (.int i) 10 0 := by
  obtain ⟨k, rfl⟩ := Int.eq_ofNat_of_zero_le h0
  have hk : k < 1000000000 := by omega
  refine ⟨?_, by simp only [PyData.hasDict], ?_, by simp only [PyData.depth]; omega, by simp only [PyData.canLay0]⟩
  · simp only [PyData.showable, decide_eq_true_eq]
    have e : ((k : Int)).natAbs = k := by omega
    rw [e]
    by_cases z : k = 0
    · rw [z]
      decide
    · have z2 := (Nat.log2_lt (n := k) (k := 30) z).mpr (Nat.lt_trans hk (by decide))
      omega
  · simp only [PyData.shown]
    show (Str.ofString (toString (k : Int))).length ≤ 10
    rw [Str.ofString_eq_toList]
    show (((toString (k : Int)).toList.map Char.toNat).toArray).size ≤ 10
    rw [List.size_toArray, List.length_map]
    have e : (toString (k : Int) : String) = Nat.repr k := rfl
    rw [e, String.length_toList]
    exact (Nat.length_repr_le_iff (n := k) (by decide : 0 < 10)).mpr (by omega)
theorem firstW_lt : ∀ {rows : List (List Str)} {i j n : Nat}, firstW rows i = some (j, n) → j < i + rows.length ∧ n ≤ 4
  | [], i, j, n, h => by cases h
  | ws :: r, i, j, n, h => by
    rw [List.length_cons]
    cases ew : wrongW ws with
    | some q =>
      rw [firstW_some ew] at h
      cases h
      have z : n ≤ 4 := by
        unfold wrongW at ew
        repeat' split at ew
        all_goals first | (cases ew; decide) | cases ew
      exact ⟨by omega, z⟩
    | none =>
      rw [firstW_none ew] at h
      have := firstW_lt h
      omega
theorem ordW_lt2 : ∀ {fr : List T3} {i j : Nat}, ordW fr i = some j → j < i + fr.length
  | [], i, j, h => by cases h
  | [x], i, j, h => by cases h
  | x :: y :: r, i, j, h => by
    cases e : lt3 x y with
    | true =>
      rw [ordW_lt e] at h
      have := ordW_lt2 h
      simp only [List.length_cons] at this ⊢
      omega
    | false =>
      rw [ordW_ge e] at h
      cases h
      simp only [List.length_cons]
      omega
theorem due_lt {t : Str} {x y : Int} (lt : t.length ≤ 100000) (h : dueT t = some (x, y)) : (0 ≤ x ∧ x < 1000000) ∧ (0 ≤ y ∧ y < 1000000) := by
  have e1 : (1 : Nat) ≤ ("\n" : Str).length := by decide +kernel
  have lr : (rowsF t).length ≤ t.length + 1 := by
    unfold rowsF
    rw [List.length_map]
    exact (split_len (t := t) e1).2
  cases e : firstW (rowsF t) 0 with
  | some p =>
    obtain ⟨i, n⟩ := p
    rw [due_word e] at h
    have z := firstW_lt e
    cases h
    omega
  | none =>
    rw [due_rest e] at h
    have lf : (frOf t).length = (rowsF t).length := by unfold frOf; rw [List.length_map]
    cases eo : ordW (frOf t) 1 with
    | some i =>
      rw [rest_ord eo] at h
      have z := ordW_lt2 eo
      cases h
      omega
    | none =>
      by_cases m : (frOf t).length > 16
      · rw [rest_many eo m] at h
        cases h
        decide
      · by_cases j : Jnd (frOf t)
        · rw [rest_jnd eo m j] at h
          cases h
        · rw [rest_apart eo m j] at h
          cases h
          omega
/-- the answer to a text, as data -/
noncomputable def dOf (t : Str) : PyData := match dueT t with
  | some (x, y) => .tuple [.str "text", .int x, .int y]
  | none => .list [.tuple ((frOf t).map d3)]
def dTx (x y : Int) : PyData := .tuple [.str "text", .int x, .int y]
theorem dOf_some {t : Str} {x y : Int} (h : dueT t = some (x, y)) : dOf t = dTx x y := by
  unfold dOf
  rw [h]
  rfl
theorem dOf_none {t : Str} (h : dueT t = none) : dOf t = .list [.tuple ((frOf t).map d3)] := by
  unfold dOf
  rw [h]
theorem okd_tx {x y : Int} (hx : 0 ≤ x ∧ x < 1000000) (hy : 0 ≤ y ∧ y < 1000000) : Okd (dTx x y) 300 1 := by
  refine (okd_tuple (n := 82) (dp := 0) (m := 3) (fun d hd => ?_) (Nat.le_refl _)).le (by decide) (Nat.le_refl _)
  have cs : d = .str "text" ∨ d = .int x ∨ d = .int y := by simpa using hd
  rcases cs with rfl | rfl | rfl
  · exact (okd_str (m := 8) (by decide +kernel) (by decide +kernel)).le (by decide) (Nat.le_refl _)
  · exact (okd_big hx.1 (by omega)).le (by decide) (Nat.le_refl _)
  · exact (okd_big hy.1 (by omega)).le (by decide) (Nat.le_refl _)
theorem okd_of {t : Str} (lt : t.length ≤ 100000) : Okd (dOf t) 10000 3 := by
  cases h : dueT t with
  | some p =>
    obtain ⟨x, y⟩ := p
    rw [dOf_some h]
    obtain ⟨a, b⟩ := due_lt lt h
    exact (okd_tx a b).le (by decide) (by decide)
  | none =>
    rw [dOf_none h]
    obtain ⟨a, b⟩ := due_none h
    refine (okd_list (n := 5000) (dp := 2) (m := 1) (fun d hd => ?_) (Nat.le_refl _)).le (by decide) (Nat.le_refl _)
    rw [List.mem_singleton.mp hd]
    exact okd_fr a b
theorem da_tx {H : Hp} {p : Addr} {x y : Int} (h : H p = some (.tup [.str "text", .int x, .int y])) : Da H (.ref p) (dTx x y) := .tup h (.cons (.str _) (.cons (.int _) (.cons (.int _) .nil)))
theorem da_l1 {H : Hp} {p f : Addr} {fr : List T3} (h : H p = some (.lst [.ref f])) (fa : FrA H f fr) : Da H (.ref p) (.list [.tuple (fr.map d3)]) := .lst h (.cons (da_fr fa) .nil)
/-- what spDT tells, at once -/
theorem dt_asks {R : Hp → Addr → Prop} {H : Hp} {t : Str} (q : ∀ H' p, Same H H' → H p = none → Da H' (.ref p) (dOf t) → R H' p) : match dueT t with
  | some (x, y) => ∀ H' p, Same H H' → H p = none → H' p = some (.tup [.str "text", .int x, .int y]) → R H' p
  | none => ∀ H' p f, Same H H' → H p = none → H' p = some (.lst [.ref f]) → FrA H' f (frOf t) → R H' p := by
  cases h : dueT t with
  | some p =>
    obtain ⟨x, y⟩ := p
    exact fun H' p s n e => q H' p s n (by rw [dOf_some h]; exact da_tx e)
  | none => exact fun H' p f s n e fa => q H' p s n (by rw [dOf_none h]; exact da_l1 e fa)
/-- a lambda that reads a text -/
theorem rd_rf {K : PySem.W.Frag} {T : List (Addr × Str)} {C : Addr} {σ : L2.St} {H : Hp} {Q : VK} {t : Str} {ta : TA} (tb : Tabs T H) (lt : t.length ≤ 6000)
    (hta : ∀ (H1 : Hp) (Qa : List V → Hp → Prop), ExtN H H1 → (∀ H2, Same H1 H2 → Qa [.str t] H2) → ta σ H1 Qa)
    (post : ∀ H3 p, ExtN H H3 → Tabs T H3 → Da (nt H3) (.ref p) (dOf t) → Q (.ref p) H3) :
    tLam T (TOut C) (fun E => tCallS (spRFG K C) (fun σ => WE (fun cls d _ H => E cls d H) σ) ta) σ H Q := by
  refine ⟨tb, fun H1 ext tb1 p0 hp0 R hR => ?_⟩
  have u0 := same_upd (o := HO.tup [V.non, V.non]) hp0
  refine hta _ _ (ext.trans (ext_same u0)) fun H4 s4 => ?_
  have s1 := u0.trans s4
  refine .inl ⟨t, rfl, lt, ?_⟩
  cases h : dueT t with
  | some p =>
    obtain ⟨x, y⟩ := p
    intro H2 dx s2 e2
    refine ⟨rfl, dx, .int x, .int y, rfl, e2, fun a H3 p na s3 e3 => ?_⟩
    have z := s1.trans (s2.trans ((same_upd na).trans s3))
    refine post H3 p (ext.trans (ext_same z)) (tb1.ext z) ?_
    rw [dOf_some h]
    exact da_tx (nt_mk e3 (fun ps z => by cases z))
  | none =>
    intro H2 p s2 np fa
    refine hR _ _ fun p3 n3 => ?_
    have u3 := same_upd (o := HO.lst [V.ref p]) n3
    have z := s1.trans (s2.trans u3)
    refine post _ p3 (ext.trans (ext_same z)) (tb1.ext z) ?_
    rw [dOf_none h]
    exact da_l1 (nt_mk upd_same (fun ps z => by cases z)) (fr_nt (fa.same u3))
/-- a lambda that reads what is no text -/
theorem rd_no {K : PySem.W.Frag} {T : List (Addr × Str)} {C : Addr} {σ : L2.St} {H : Hp} {Q : VK} {v : V} {j : Nat} (h7 : σ[j]? = some (some v)) (tb : Tabs T H) (no : ∀ H', ExtN H H' → NoStr K H' v)
    (post : ∀ H3 p, ExtN H H3 → Tabs T H3 → Da (nt H3) (.ref p) (dTx 0 0) → Q (.ref p) H3) :
    tLam T (TOut C) (fun E => tCallS (spRFG K C) (fun σ => WE (fun cls d _ H => E cls d H) σ) (tCons (tVar j) tNil)) σ H Q := by
  refine ⟨tb, fun H1 ext tb1 p0 hp0 R hR => ?_⟩
  have u0 := same_upd (o := HO.tup [V.non, V.non]) hp0
  refine ⟨_, h7, .inr ⟨v, rfl, no _ (ext.trans (ext_same u0)), ?_⟩⟩
  intro H2 dx s2 e2
  refine ⟨rfl, dx, .int 0, .int 0, rfl, e2, fun a H3 p na s3 e3 => ?_⟩
  have z := u0.trans (s2.trans ((same_upd na).trans s3))
  exact post H3 p (ext.trans (ext_same z)) (tb1.ext z) (da_tx (nt_mk e3 (fun ps z => by cases z)))
end K45

set_option Elab.async false
set_option linter.all false
set_option maxRecDepth 100000
set_option maxHeartbeats 8000000
/-! The written lines. -/
namespace K45
open PySem L2 L2.EV
def abcT : Str := "abcdefghijklmnopqr"
def ltrs : List Nat := sl abcT
def lnT (c : Nat) : T3 := (0, ⟨#[c]⟩ ++ ";", 0)
def frN (n : Nat) : List T3 := (ltrs.take n).map lnT
theorem ltr_sg : ∀ c ∈ ltrs, c ∈ sgs := by decide +kernel
theorem lnT_stp {c : Nat} (h : c ∈ ltrs) : Stp (lnT c) := by
  have z0 : (0 : Int) < 6 := by decide
  have dt : decide ((lnT c).2.2 = 0) = true := rfl
  refine ⟨Int.le_refl 0, z0, ⟨[c], ?_, ?_, fun d hd => ?_, fun e => by cases e⟩, Int.le_refl 0, z0⟩
  · rw [dt, if_pos rfl]
    show sl (⟨#[c]⟩ ++ ";") = [c] ++ [59]
    rw [sl_app, semi]
  · rw [dt, if_pos rfl]
    show 1 + 1 ≤ 8
    decide
  · rw [List.mem_singleton.mp hd]
    exact ltr_sg c h
theorem frN_stp {n : Nat} : ∀ x ∈ frN n, Stp x := fun x hx => by
  obtain ⟨c, hc, rfl⟩ := List.mem_map.mp hx
  exact lnT_stp (List.mem_of_mem_take hc)
theorem line_of : ∀ c ∈ ltrs, ("0 " : Str) ++ ⟨#[c]⟩ ++ "; 0" = line3 (lnT c) := by decide +kernel
theorem line_s3 : ∀ c ∈ ltrs, (("0 " : Str) ++ ⟨#[c]⟩).length ≤ 3 ∧ (("0 " : Str) ++ ⟨#[c]⟩ ++ "; 0").length ≤ 6 := by decide +kernel
theorem frN_len {n : Nat} (h0 : 15 ≤ n) (h1 : n ≤ 18) : (frN n).length = n := by
  have e : ltrs.length = 18 := by decide +kernel
  unfold frN
  rw [List.length_map, List.length_take, e]
  omega
theorem four {n : Nat} (h0 : 15 ≤ n) (h1 : n ≤ 18) : n = 15 ∨ n = 16 ∨ n = 17 ∨ n = 18 := by omega
theorem frN_ord {n : Nat} (h0 : 15 ≤ n) (h1 : n ≤ 18) : ordW (frN n) 1 = none := by
  rcases four h0 h1 with rfl | rfl | rfl | rfl <;> decide +kernel
theorem cut_ltrs {n : Nat} (h0 : 15 ≤ n) (h1 : n ≤ 18) : sl (cutS "abcdefghijklmnopqr" none (some (n : Int))) = ltrs.take n := by
  rcases four h0 h1 with rfl | rfl | rfl | rfl <;> decide +kernel
theorem wrong_words {x : T3} (h : Stp x) : wrongW (words x) = none := by
  obtain ⟨h0, h6, hp, g0, g6⟩ := h
  have in6 : ∀ {i : Int}, 0 ≤ i → i < 6 → in6S (dig i) = true := fun {i} a b => by
    obtain ⟨k, rfl⟩ := Int.eq_ofNat_of_zero_le a
    have : k = 0 ∨ k = 1 ∨ k = 2 ∨ k = 3 ∨ k = 4 ∨ k = 5 := by omega
    rcases this with rfl | rfl | rfl | rfl | rfl | rfl <;> decide +kernel
  have c0 : canW (words x) 0 = true := in6 h0 h6
  have c1 : canW (words x) 1 = true := by
    show pcS x.2.1 = true
    have z := pc_len hp
    have a : decide (1 ≤ x.2.1.length) = true := decide_eq_true (by omega)
    have b : decide (x.2.1.length ≤ 8) = true := decide_eq_true (by omega)
    have c : (sl (Txt.removesuffix x.2.1 ";")).all (fun c => decide (c ∈ sgs)) = true := List.all_eq_true.mpr fun c hc => decide_eq_true (pc_cut hp c hc)
    unfold pcS
    rw [a, b, c]
    rfl
  have c2 : canW (words x) 2 = true := by
    show (in6S (dig x.2.2) && (decide (dig x.2.2 = "0") == Txt.endswith x.2.1 ";")) = true
    rw [in6 g0 g6, dig_zero g0 g6, pc_ends hp]
    simp
  have l3 : (words x).length = 3 := rfl
  unfold wrongW
  rw [if_neg (by rw [l3, c0]; simp), if_neg (by rw [l3, c1]; simp), if_neg (by rw [l3, c2]; simp), if_pos l3]
theorem firstW_app : ∀ {fr : List T3} {b : List (List Str)} {i : Nat}, (∀ x ∈ fr, Stp x) → firstW (fr.map words ++ b) i = firstW b (i + fr.length)
  | [], b, i, _ => rfl
  | x :: r, b, i, h => by
    show firstW (words x :: (r.map words ++ b)) i = _
    rw [firstW_none (wrong_words (h x (List.mem_cons_self ..))), firstW_app fun y hy => h y (List.mem_cons_of_mem _ hy), List.length_cons]
    congr 1
    omega
theorem rows_textF {fr : List T3} (n : fr ≠ []) (h : ∀ x ∈ fr, Stp x) : rowsF (textF fr) = fr.map words := by
  unfold rowsF
  rw [split_text n h, List.map_map]
  exact List.map_congr_left fun x hx => split_line (h x hx)
theorem frN_ne {n : Nat} (h0 : 15 ≤ n) (h1 : n ≤ 18) : frN n ≠ [] := fun z => by
  have a := frN_len h0 h1
  rw [z] at a
  simp only [List.length_nil] at a
  omega
theorem frN_jnd {n : Nat} : Jnd (frN n) := fun x hx => by
  obtain ⟨c, hc, rfl⟩ := List.mem_map.mp hx
  have z : Rch (frN n) 0 0 := rch_step hx rfl
  exact ⟨⟨z, z⟩, z, z⟩
theorem due_lines {n : Nat} (h0 : 15 ≤ n) (h1 : n ≤ 18) : dueT (textF (frN n)) = if n > 16 then some (17, 0) else none := by
  have r := rows_textF (frN_ne h0 h1) (frN_stp (n := n))
  have f : firstW (rowsF (textF (frN n))) 0 = none := by
    rw [r]
    have z := firstW_app (fr := frN n) (b := []) (i := 0) frN_stp
    rw [List.append_nil] at z
    rw [z]
    rfl
  rw [due_rest f, frOf_eq r frN_stp]
  by_cases m : n > 16
  · rw [if_pos m, rest_many (frN_ord h0 h1) (by rw [frN_len h0 h1]; exact m)]
  · rw [if_neg m, rest_jnd (frN_ord h0 h1) (by rw [frN_len h0 h1]; exact m) frN_jnd]
/-- with five lines more -/
def lns (n : Nat) : List Str := (frN n).map line3 ++ List.replicate 5 ("0 r; 1" : Str)
theorem bad_free : 10 ∉ sl ("0 r; 1" : Str) := by decide +kernel
theorem rows_lns {n : Nat} (h0 : 15 ≤ n) (h1 : n ≤ 18) : rowsF (Str.join "\n" (lns n)) = (frN n).map words ++ List.replicate 5 (["0", "r;", "1"] : List Str) := by
  have e : ("\n" : Str) = ⟨#[10]⟩ := by decide +kernel
  have sp : Txt.split (Str.join "\n" (lns n)) "\n" = lns n := by
    have fr := split_text (frN_ne h0 h1) (frN_stp (n := n))
    rw [e]
    refine split_of (fun z => ?_) fun y hy => ?_
    · have a := congrArg List.length z
      unfold lns at a
      rw [List.length_append, List.length_replicate] at a
      simp only [List.length_nil] at a
      omega
    · rcases List.mem_append.mp hy with hy | hy
      · obtain ⟨x, hx, rfl⟩ := List.mem_map.mp hy
        obtain ⟨c, hc, rfl⟩ := List.mem_map.mp hx
        have z : ∀ c ∈ ltrs, 10 ∉ sl (line3 (lnT c)) := by decide +kernel
        exact z c (List.mem_of_mem_take hc)
      · rw [(List.mem_replicate.mp hy).2]
        exact bad_free
  unfold rowsF
  rw [sp]
  unfold lns
  rw [List.map_append, List.map_map, List.map_replicate]
  have b : Txt.split "0 r; 1" " " = (["0", "r;", "1"] : List Str) := by decide +kernel
  rw [b]
  congr 1
  exact List.map_congr_left fun x hx => split_line (frN_stp x hx)
theorem due_lns {n : Nat} (h0 : 15 ≤ n) (h1 : n ≤ 18) : dueT (Str.join "\n" (lns n)) = some ((n : Int) + 1, 3) := by
  have f : firstW (rowsF (Str.join "\n" (lns n))) 0 = some (n, 3) := by
    rw [rows_lns h0 h1, firstW_app frN_stp, frN_len h0 h1, Nat.zero_add]
    have w : wrongW ["0", "r;", "1"] = some 3 := by decide +kernel
    exact firstW_some w
  rw [due_word f]
  rfl
theorem sum_twelve (ys : List Str) (h : ∀ y ∈ ys, y.length ≤ 12) (l : ys.length ≤ 30) : Wt ys ≤ 400 := by
  have z := sum_le (m := 12) (ys.map (fun x : Str => x.length)) (fun n hn => by
    obtain ⟨y, hy, rfl⟩ := List.mem_map.mp hn
    exact h y hy)
  rw [List.length_map] at z
  unfold Wt
  have e : (ys.map (fun x : Str => x.length)).sum = (ys.map (·.length)).sum := rfl
  omega
theorem wt_lines {n : Nat} (h0 : 15 ≤ n) (h1 : n ≤ 18) : Wt ((frN n).map line3) ≤ 400 := sum_twelve _ (fun y hy => by
  obtain ⟨x, hx, rfl⟩ := List.mem_map.mp hy
  exact line_len (frN_stp x hx)) (by rw [List.length_map, frN_len h0 h1]; omega)
theorem wt_lns {n : Nat} (h0 : 15 ≤ n) (h1 : n ≤ 18) : Wt (lns n) ≤ 400 := sum_twelve _ (fun y hy => by
  rcases List.mem_append.mp hy with hy | hy
  · obtain ⟨x, hx, rfl⟩ := List.mem_map.mp hy
    exact line_len (frN_stp x hx)
  · rw [(List.mem_replicate.mp hy).2]
    decide +kernel) (by
  unfold lns
  rw [List.length_append, List.length_map, frN_len h0 h1, List.length_replicate]
  omega)
theorem txt_lns (n : Nat) : Txt.join "\n" (lns n) = Str.join "\n" (lns n) := eq_of_beq (PyProof.Rows.join_plain_closes "\n" (lns n))
theorem nl1 : ("\n" : Str).length = 1 := by decide +kernel
theorem len_lines {n : Nat} (h0 : 15 ≤ n) (h1 : n ≤ 18) : (textF (frN n)).length ≤ 6000 := by
  rw [← txt_textF]
  have a := len_join nl1 ((frN n).map line3)
  have b := wt_lines h0 h1
  omega
theorem len_lns {n : Nat} (h0 : 15 ≤ n) (h1 : n ≤ 18) : (Str.join "\n" (lns n)).length ≤ 6000 := by
  rw [← txt_lns]
  have a := len_join nl1 (lns n)
  have b := wt_lns h0 h1
  omega
def bnd : Nat → Nat
  | 0 => 208
  | n + 1 => 3 * bnd n + 20
theorem bnd_le {n : Nat} (h : n < 4) : bnd n ≤ 6000 := by
  rcases (show n = 0 ∨ n = 1 ∨ n = 2 ∨ n = 3 by omega) with rfl | rfl | rfl | rfl <;> decide
/-- the bool of the seventeenth line -/
theorem eqv_due {n : Nat} (h0 : 15 ≤ n) (h1 : n ≤ 18) : PyData.eqv (dOf (textF (frN n))) (dTx 17 0) = decide (16 < n) := by
  have e := due_lines h0 h1
  by_cases m : n > 16
  · rw [if_pos m] at e
    rw [dOf_some e, decide_eq_true m]
    decide +kernel
  · rw [if_neg m] at e
    rw [dOf_none e, decide_eq_false m]
    unfold dTx
    simp [PyData.eqv]
theorem eqv_self {t : Str} (lt : t.length ≤ 100000) : PyData.eqv (dOf t) (dOf t) = true := SeqAt.eqv_refl _ (okd_of lt).lay
theorem sh_of {t : Str} (lt : t.length ≤ 100000) : SeqAt.shaped (dOf t) = true := by
  have z := okd_of lt
  have a := z.dp
  show (PyData.canLay0 (dOf t) && decide (PyData.depth (dOf t) ≤ 64)) = true
  rw [z.lay, decide_eq_true (by omega)]
  rfl
theorem sh_tx {x y : Int} (hx : 0 ≤ x ∧ x < 1000000) (hy : 0 ≤ y ∧ y < 1000000) : SeqAt.shaped (dTx x y) = true := by
  have z := okd_tx hx hy
  have a := z.dp
  show (PyData.canLay0 (dTx x y) && decide (PyData.depth (dTx x y) ≤ 64)) = true
  rw [z.lay, decide_eq_true (by omega)]
  rfl
end K45

set_option Elab.async false
set_option linter.all false
set_option maxRecDepth 100000
set_option maxHeartbeats 4000000
/-! The end of a law that shows values by repr and makes lambdas. -/
namespace L2
namespace EV
open PySem PySem.Spec PyProof.Rows LamX
/-- b is not True -/
theorem op_isnotB {X : Cx} : OpR X (compareOp .IsNot) (fun x y H Q => ∃ a b : Bool, x = .bl a ∧ y = .bl b ∧ Q (.bl (a != b)) H) := by
  intro pins s σ H x y v u Q I rx ry h
  obtain ⟨a, b, rfl, rfl, q⟩ := h
  obtain rfl : v = Value.bool a := rx
  obtain rfl : u = Value.bool b := ry
  exact isnot_bool ⟨.bl _, H, I, rfl, q⟩
/-- a raising def called where it raises nothing -/
theorem passF {X : Cx} : Passes (L2.CX X.prog X.w) X (fun _ _ _ => False) := fun _ _ _ _ _ _ _ c => by
  obtain ⟨_, _, _, _, _, _, _, _, _, _, _, _, z⟩ := c
  exact z.elim
section
variable {P : Program} {w : World} {K : PySem.W.Frag} {mg : Str → Option Value} {base : Heap}
/-- okG, the def's code object told -/
theorem okGc {x qual : Str} {st : Stmt} {f c : Addr} {N ps : List Str} {k : Nat} {sp : Sp} {oc kV doc pm ct : Value} {od an : Option Addr} {osl : Array (Option Value)}
    (lk : K.lookup f = some ⟨oc, od, .func (PySem.W.fnOf x qual (defArgs st) (defBody st) (defScope st) .none kV doc pm an (.ref c) ct), osl⟩) (hcd : PySem.W.codeIn K (.ref c) qual = true) (S : FnScope N ps (defScope st))
    (len : ∀ vs H Q E, sp vs H Q E → vs.length = ps.length)
    (hbody : ∀ (A : Around) (outer : List Env) (s : Shared) (H : Hp) (vs : List V) (Q : VK) (E : XK), Room k (A.deeper (envOfC qual (defScope st) s.heap.objs.size f (.ref c))) → A.guards = some [] → sp vs H Q E →
      ∃ t, PSs (cxOf CX0 P w K mg base N qual (defScope st) f (.ref c) A outer s H E).nox (defBody st) t ∧ t { nx := fun _ H' => Q .non H', rt := Q } (start N vs) H) :
    FnG P w K mg base CX0 (k + 1) f (PySem.W.fnOf x qual (defArgs st) (defBody st) (defScope st) .none kV doc pm an (.ref c) ct) ps sp := by
  refine ⟨len, fun A outer s H args us vs Q E hr hgd e0 hb r hsp => ?_⟩
  have hl := len _ _ _ _ hsp
  have keptB : ∀ b o, base.get? b = some o → s.heap.get? b = some o := fun b o e => (e0.bs b o e).1
  have KX : K.In s.heap := e0.mod.kin.keeps keptB
  have lim : s.heap.NoLimit := e0.mod.nolimit.keeps keptB
  have kinds : ∀ y ∈ ps.zip us, (defScope st).names.lookup y.1 = some .local ∨
      ((defScope st).names.lookup y.1 = some .cell ∧ ((cellsFrom (s.heap.objs.size + 1) (defScope st).names []).lookup y.1).isSome = true) := fun ⟨n, v⟩ hy =>
    (S.par n (List.of_mem_zip hy).1).elim .inl fun q => .inr ⟨q, PySem.W.cellsFrom_some _ _ _ (.inl q)⟩
  refine codeAny_call_function hr.depth (KX _ _ lk) rfl S.co S.gen rfl (PySem.W.codeRec_of KX hcd) (hb _ _ _ _ ?_)
  refine wpAny_newFunctionEnv_cells S.kind kinds fun env he s1 x => ?_
  subst he
  refine ⟨lim.keeps x.toInCall.keep, codeAny_func ?_⟩
  obtain ⟨t, ht0, hq⟩ := hbody A outer s H vs Q E (hr.deeper _) hgd hsp
  have I : Inv (cxOf CX0 P w K mg base N qual (defScope st) f (.ref c) A outer s H E) [] (start N vs) H s1 := inv_start S hr.hd e0 hl r x
  refine wpAny_mono (ht0.nox.run [] s1 (start N vs) H _ I hq) (fun fl s' hs => ?_) fun e s' hs => hs
  cases fl with
  | ret u =>
    obtain ⟨v, σ', H', J, rv, q⟩ := hs
    exact ⟨v, H', J.os, J.bare, J.base, J.hok, rv, q⟩
  | next =>
    obtain ⟨σ', H', J, q⟩ := hs
    exact ⟨V.non, H', J.os, J.bare, J.base, J.hok, rfl, q⟩
  | brk =>
    obtain ⟨_, _, _, q⟩ := hs
    exact False.elim q
  | cont =>
    obtain ⟨_, _, _, q⟩ := hs
    exact False.elim q
end
/-- the law's own call: no repr runs yet, and the law's table of code objects is empty -/
theorem law_callT {P : Program} {w : World} {K : PySem.W.Frag} {mg mb : Str → Option Value} {k : Nat} {fa a c T : Addr} {fd : FuncData} {x : Str} {sp : Sp} {s1 : Shared} {vs : List Value} {ns : List Int}
    (KX : K.In s1.heap) (hns : s1.heap.Ns mainGlobals mg) (hb : s1.heap.Ns builtinsNs mb) (hbb : ∀ x : Str, x ≠ "__name__" → mb x = bootBuiltins x) (hlim : s1.heap.NoLimit) (hg : s1.gens = #[])
    (hT : s1.heap.get? T = some { cls := .none, data := .fields #[] }) (nT : K.lookup T = none) (hC : PySem.W.CodeHd s1.heap c T)
    (hm : ∃ (bm : Addr) (ob : Obj), mg "__builtins__" = some (.ref bm) ∧ bm ≠ builtinsNs ∧ s1.heap.get? bm = some ob ∧ ob.cls = .type "module" ∧ ob.dict = some builtinsNs ∧ ob.data = .plain)
    (ha : s1.heap.get? a = some { cls := .type "list", data := .seq vs.toArray }) (hi : IntsAre vs ns) (hl : ns.length ≤ sizeLine) (hr : Room k callerA)
    (F : ∀ base : Heap, K.In base → base.Ns mainGlobals mg → TabB base mg c T → FnG P w K mg base CX0 k fa fd [x] sp) (hbind : ∀ (s : Shared) (u : Value), BindsTo s fd ⟨[u], []⟩ [(x, u)])
    (hsp : ∀ H : Hp, H T = some (.tbl #[]) → SqL K H a (ns.map V.int) → sp [.ref a] H (fun v _ => v = .bl true) fun _ _ _ => False) :
    codeAny (model P w) callerA (.call (.ref fa) ⟨[.ref a], []⟩) (fun r s' => r = .ok (.ret (.bool true)) ∧ OldK s1.heap s'.heap ∧ s'.os = s1.os ∧ AllBare s'.gens) s1 := by
  have rv := vals_ints hi
  have lenV := hi.length
  have aT : a ≠ T := fun z => by
    rw [z, hT] at ha
    cases ha
  have core : ∀ H : Hp, H T = some (.tbl #[]) → SqL K H a (ns.map V.int) → HOk P w H s1.heap → (∀ b, b ≠ a → b ≠ T → H b = none) → (H a = none ∨ ∃ o xs, H a = some (.frz o (.lst xs))) → (H a ≠ none → K.lookup a = none) →
      codeAny (model P w) callerA (.call (.ref fa) ⟨[.ref a], []⟩) (fun r s' => r = .ok (.ret (.bool true)) ∧ OldK s1.heap s'.heap ∧ s'.os = s1.os ∧ AllBare s'.gens) s1 := by
    intro H eT hS hok only froz notK
    have seen : ∀ {b : Addr} {o : Obj}, s1.heap.get? b = some o → (∀ xs n, o.data ≠ .seq xs n) → o.data ≠ .fields #[] → H b = none := fun {b o} e h1 h2 => by
      refine only b (fun z => ?_) fun z => ?_
      · rw [z, ha] at e
        cases e
        exact h1 _ _ rfl
      · rw [z, hT] at e
        cases e
        exact h2 rfl
    have noDict : ∀ {b : Addr} {o : Obj} {es : Array DictEntry} {ep : Nat}, s1.heap.get? b = some o → o.data = .dict es ep → H b = none := fun {b o es ep} e d =>
      seen e (fun xs n z => by rw [d] at z; cases z) fun z => by rw [d] at z; cases z
    have nsK : ∀ {b : Addr} {m : Str → Option Value}, s1.heap.Ns b m → (hidT s1.heap H).Ns b m := fun {b m} ⟨o, es, ep, e, d, r⟩ => ⟨o, es, ep, hidT_get e (noDict e d), d, r⟩
    have kin : K.In (hidT s1.heap H) := fun b o e => hidT_get (KX b o e) (by
      by_cases h1 : b = a
      · cases q : H b with
        | none => rfl
        | some u =>
          have z := notK (by rw [← h1, q]; simp)
          rw [← h1, e] at z
          cases z
      · refine only b h1 fun z => ?_
        rw [z, nT] at e
        cases e)
    obtain ⟨mc, c1, c2⟩ := hlim
    have hM : Mod K mg (hidT s1.heap H) := ⟨kin, nsK hns, ⟨mb, nsK hb, hbb⟩, ⟨mc, nsK c1, c2⟩⟩
    have TB : TabB (hidT s1.heap H) mg c T := by
      refine ⟨?_, ?_, fun z => ?_⟩
      · obtain ⟨o, us, y1, y2, y3, y4, y5, y6, y7, e1, z1, z2, z3, z4⟩ := hC
        refine ⟨o, us, y1, y2, y3, y4, y5, y6, y7, hidT_get e1 (seen e1 (fun xs n q => ?_) fun q => ?_), z1, z2, z3, z4⟩
        · rw [z2] at q
          cases q
        · rw [z2] at q
          cases q
          simp at z3
      · obtain ⟨bm, ob, b1, b2, b3, b4, b5, b6⟩ := hm
        refine ⟨bm, ob, b1, b2, fun q => ?_, fun q => ?_, hidT_get b3 (seen b3 (fun xs n q => ?_) fun q => ?_), b4, b5, b6⟩
        · obtain ⟨o, es, ep, e, d, _⟩ := hns
          rw [q, e] at b3
          cases b3
          rw [d] at b6
          cases b6
        · rw [q, hT] at b3
          cases b3
          cases b6
        · rw [b6] at q
          cases q
        · rw [b6] at q
          cases q
      · obtain ⟨o, es, ep, e, d, _⟩ := hns
        rw [z, hT] at e
        cases e
        cases d
    have noF : ∀ b, b ∉ frs [] := fun b z => absurd (show b ∈ ([] : List Addr) from z) (by simp)
    have e0 : Env0 P w K mg (hidT s1.heap H) callerA [] s1 H :=
      ⟨rfl, hM, fun b o e => of_hidT e, Nat.le_of_eq (hidT_size _ _), trivial, fun b z => absurd z (noF b), hok, .of_eq hg⟩
    refine codeAny_mono ((F _ kin (nsK hns) TB).run callerA [] s1 H ⟨[.ref a], []⟩ [.ref a] [.ref a] _ _ hr rfl e0 (hbind s1 (.ref a)) (.cons rfl .nil) (hsp H eT hS)) fun r s' h => ?_
    cases r with
    | error e => exact False.elim h
    | ok fl =>
      cases fl with
      | next => exact False.elim h
      | brk => exact False.elim h
      | cont => exact False.elim h
      | ret u =>
        obtain ⟨v, H', os, bare, un, hok', r', q⟩ := h
        obtain rfl : v = .bl true := q
        obtain rfl : u = Value.bool true := r'
        have kept : ∀ b o, b ≠ T → s1.heap.get? b = some o → s'.heap.get? b = some o := fun b o ne e => by
          by_cases h1 : b = a
          · rcases froz with z | ⟨ob, xs, z⟩
            · exact un.keep b o e (by rw [h1]; exact z) (noF b) (by simp)
            · rw [← h1] at z
              obtain ⟨e1, _⟩ := hok b _ z
              obtain ⟨e2, _⟩ := hok' b _ (un.frzs b ob _ z)
              rw [e] at e1
              cases e1
              exact e2
          · exact un.keep b o e (only b h1 ne) (noF b) (by simp)
        obtain ⟨more, z⟩ := un.tbls T #[] eT
        have grown : s'.heap.get? T = some { cls := .none, data := .fields (#[] ++ more) } := hok' T _ z
        refine ⟨rfl, ⟨fun b o e => ?_, fun b o e => ?_⟩, os, bare⟩
        · by_cases h1 : b = T
          · subst h1
            rw [hT] at e
            cases e
            exact .inr (.inl ⟨(hC.tab hT).isCodeTable, rfl, #[], more, rfl, grown⟩)
          · exact .inl (kept b o h1 e)
        · by_cases h1 : b = T
          · subst h1
            exact ⟨_, grown⟩
          · exact ⟨o, kept b o h1 e⟩
  have tblOk : ∀ H : Hp, ObjOk P w H s1.heap T (.tbl #[]) := fun H => hT
  cases hk : K.lookup a with
  | some o =>
    have e := KX a o hk
    rw [ha] at e
    cases e
    refine core (fun b => if b = T then some (.tbl #[]) else none) (if_pos rfl) (.inr ⟨_, vs.toArray, _, hk, rfl, rfl, rfl, ?_, by simpa using rv⟩) (fun b u z => ?_) (fun b _ h2 => if_neg h2) (.inl (if_neg aT)) fun z => absurd (if_neg aT) z
    · rw [List.size_toArray, lenV]
      exact hl
    · by_cases h1 : b = T
      · subst h1
        have z2 := (if_pos rfl).symm.trans z
        cases z2
        exact hT
      · exact nomatch (if_neg h1).symm.trans z
  | none =>
    refine core (fun b => if b = T then some (.tbl #[]) else if b = a then some (.frz { cls := .type "list", data := .seq vs.toArray } (.lst (ns.map V.int))) else none) (if_pos rfl)
      (.inl (.inr ⟨{ cls := .type "list", data := .seq vs.toArray }, (if_neg aT).trans (if_pos rfl)⟩)) (fun b u z => ?_) (fun b h1 h2 => (if_neg h2).trans (if_neg h1)) (.inr ⟨_, _, (if_neg aT).trans (if_pos rfl)⟩) fun _ => hk
    by_cases h1 : b = T
    · subst h1
      have z2 := (if_pos rfl).symm.trans z
      cases z2
      exact hT
    · have z1 := (if_neg h1).symm.trans z
      by_cases h2 : b = a
      · subst h2
        have z2 := (if_pos rfl).symm.trans z1
        cases z2
        exact ⟨ha, by rw [List.length_map]; exact hl, vs, _, rv, ha⟩
      · exact nomatch (if_neg h2).symm.trans z1
theorem walk_T {l : PySem.W.OpenLaw} {n k : Nat} {q : Program} {loose : List Str} {XP : (Str → Option Value) → Heap → Prop} {YP : World → Heap → Prop} {d : DefRec} {K : Params → PySem.W.Frag} {ts : List Addr} {sp : PySem.W.Frag → Addr → Sp} {x : Str}
    (hn : l.most = some n) (hn2 : n ≤ sizeLine) (hdf : d.params.defaults = []) (hr : Room k callerA) (hY : ∀ (w : World) (h : Heap), YP w h → (K w.params).In h ∧ ∀ P ∈ ts, h.get? P = some (PySem.W.tabObj #[]))
    (F : ∀ (w : World) (mg : Str → Option Value) (fa : Addr) (h : Heap), (K w.params).In h → h.Ns mainGlobals mg → mg d.name = some (.ref fa) →
      ∃ (fd : FuncData) (c T : Addr), PySem.W.codeHdIn (K w.params) c T = true ∧ T ∈ ts ∧ (K w.params).lookup T = none ∧ (∀ (s : Shared) (u : Value), BindsTo s fd ⟨[u], []⟩ [(x, u)]) ∧
        ∀ base : Heap, (K w.params).In base → base.Ns mainGlobals mg → TabB base mg c T → FnG l.prog w (K w.params) mg base CX0 k fa fd [x] (sp (K w.params) T))
    (hsp : ∀ (K : PySem.W.Frag) (H : Hp) (a T : Addr) (ns : List Int), ns.length ≤ n → H T = some (.tbl #[]) → SqL K H a (ns.map V.int) → sp K T [.ref a] H (fun v _ => v = .bl true) fun _ _ _ => False) :
    PySem.W.WalkO q loose XP YP l.row.toRowW d [] (fun f vs => PySem.call f vs) := by
  refine Att.attach_call hn hdf fun w s0 s1 mg mb fa o pm cd doc a vs ns G Y ho hd hcd hmg hobj hints hlen hg => ?_
  obtain ⟨KX, hT⟩ := hY w _ Y
  obtain ⟨fd, c, T, hC, mT, nT, hb, hF⟩ := F w mg fa _ KX G.T.g hmg
  exact law_callT KX G.T.g G.T.b G.T.builtins G.T.nolimit hg (hT T mT) nT (PySem.W.codeHd_of_K KX hC) G.T.bmain hobj hints (Nat.le_trans hlen hn2) hr hF hb fun H hH hS => hsp _ H a T ns hlen hH hS
end EV
end L2

set_option Elab.async false
set_option linter.all false
set_option maxRecDepth 100000
set_option maxHeartbeats 8000000
/-! The law. -/
namespace K45
open PySem L2 L2.EV LamX PySem.Spec
abbrev sLaw : Stmt := top 39
abbrev lamQ : Str := (("law" : Str) ++ (".<locals>." : Str)) ++ ("<lambda>" : Str)
abbrev NL : List Str := ["script", "m", "turn", "text", "again", "odd", "sign", "lines", "due", "told"]
def tAdd (a b : TE) : TE := tOp (fun x y H Q => ∃ i j, x = V.str i ∧ y = V.str j ∧ i.length + j.length ≤ sizeLine ∧ Q (V.str (i ++ j)) H) a b
def tJoinX (K : PySem.W.Frag) (te : TE) : TE := tM1 (fun x xs H Q => ∃ a p, ∃ ys : List Str, x = .str a ∧ xs = [.ref p] ∧ (SqL K H p (ys.map V.str) ∨ SqT K H p (ys.map V.str)) ∧
    (ys.map (·.length)).sum + ys.length * a.length ≤ 16777216 ∧ Q (.str (Txt.join a ys)) H) (tC (.str "\n")) te
theorem eqv_00 : PyData.eqv (dTx 0 0) (dTx 0 0) = true := by decide +kernel
structure Lall (K : PySem.W.Frag) (mg : Str → Option Value) where
  R : Tq K mg
  U : Ou K mg
  eO : R.R.B = U.F.O
  W : Tf K mg
  G : Lf K mg
  D : Dt K mg
  Bn : Bt K mg
  fB : Addr
  dB : FuncData
  Be : Fun K "_law_begun" "_law_begun" sBegun fB dB
  bB : Binds K dB ["script"] []
  mB : mg "_law_begun" = some (.ref fB)
  fO : Addr
  dO : FuncData
  O : Fun K "_law_outcome" "_law_outcome" sOutcome fO dO
  bO : Binds K dO ["deed"] []
  mO : mg "_law_outcome" = some (.ref fO)
  mi : mg "min" = none
  re : mg "repr" = none
def spLawT (K : PySem.W.Frag) (T : Addr) : Sp := fun vs H Q _ => ∃ (a : Addr) (ns : List Int), vs = [.ref a] ∧ SqL K H a (ns.map V.int) ∧ ns.length ≤ 63 ∧ H T = some (.tbl #[]) ∧ ∀ H', Q (.bl true) H'
section
variable {P : Program} {w : World} {K : PySem.W.Frag} {mg : Str → Option Value} {base : Heap}
theorem scLaw : FnScope NL ["script"] (defScope sLaw) := ⟨rfl, rfl, rfl, by decide +kernel, rfl, by decide +kernel, by decide +kernel⟩
theorem ok_law {f c T : Addr} {oc kV doc pm ct : Value} {od an : Option Addr} {osl : Array (Option Value)} (L : Lall K mg) (TB : TabB base mg c T)
    (lk : K.lookup f = some ⟨oc, od, .func (PySem.W.fnOf "law" "law" (defArgs sLaw) (defBody sLaw) (defScope sLaw) .none kV doc pm an (.ref c) ct), osl⟩) (hcd : PySem.W.codeIn K (.ref c) "law" = true) :
    FnG P w K mg base CX0 9 f (PySem.W.fnOf "law" "law" (defArgs sLaw) (defBody sLaw) (defScope sLaw) .none kV doc pm an (.ref c) ct) ["script"] (spLawT K T) := by
  have GB : FnOk P w K mg base CX0 1 L.fB L.dB ["script"] (spBegun K) := ok_begun L.Be L.G.L.T
  have GX : FnOk P w K mg base CX0 1 L.G.L.f1 L.G.L.d1 ["m", "total"] spNext := ok_next L.G.L.N L.G.L.T
  have GF : FnOk P w K mg base CX0 3 L.G.f L.G.d ["m", "most"] spFraming := ok_framing L.G
  have GL : FnOk P w K mg base CX0 1 L.W.f2 L.W.d2 ["framing"] spText := ok_lt L.W
  have GD : FnOk P w K mg base CX0 3 L.D.f L.D.d ["text"] spDT := ok_dt L.D
  have GE : FnOk P w K mg base CX0 2 L.Bn.f L.Bn.d ["m", "text"] spBent := ok_bent L.G.L L.Bn
  have GR5 : FnOk P w K mg base (L2.CX P w) 5 L.R.f2 L.R.d2 ["text"] (spRFG K L.U.F.O.C) := by
    have z : FnOk P w K mg base (L2.CX P w) 5 L.R.f2 L.R.d2 ["text"] (spRFG K L.R.R.B.C) := ok_rfG L.R
    rw [L.eO] at z
    exact z
  obtain ⟨oc2, od2, kV2, doc2, pm2, an2, cdv2, ct2, osl2, eO2, lkO, hcO⟩ := L.O.ex
  have bO := L.bO
  rw [eO2] at bO lkO
  refine okGc (k := 8) lk hcd scLaw (fun vs H Q E h => ?_) (fun A outer s H vs Q E hr hgd h => ?_)
  · obtain ⟨a, ns, rfl, _⟩ := h
    rfl
  · obtain ⟨a, ns, rfl, hS, hlen, hT0, q⟩ := h
    have gd : (A.deeper (PyProof.Rows.envOfC "law" (defScope sLaw) s.heap.objs.size f (.ref c))).guards = some [] := hgd
    have hu64 := hr.units
    have r1 := hr.mono (j := 1) (by decide)
    have r2 := hr.mono (j := 2) (by decide)
    have r3 := hr.mono (j := 3) (by decide)
    have r4 := hr.mono (j := 4) (by decide)
    have r5 := hr.mono (j := 5) (by decide)
    have lamq : ((T, lamQ) : Addr × Str) ∈ [((T, lamQ) : Addr × Str)] := List.mem_cons_self ..
    have lamu : ∀ p ∈ [((T, lamQ) : Addr × Str)], p.1 = T → p.2 = lamQ := fun p hp _ => by
      have e : p = ((T, lamQ) : Addr × Str) := by simpa using hp
      rw [e]
    refine ⟨_, (pss_cons (ps_set (i := 1) scLaw.nd rfl (Or.inl rfl) (pe_call GB r1 (by rfl) L.mB L.Be.kp L.bB .nil pass0 (pa_cons (pv 0) pa_nil)))
      (pss_cons (ps_for PassesOwn.never rfl (pi_range1 (by rfl) L.G.L.ra (pa_cons (pe_op op_add pe_int (pe_callB (call_min2 rfl) (by rfl) L.mi (by decide +kernel) (pa_cons (pe_callB call_len_seq (by rfl) L.G.L.T.len PySem.boot_len (pa_cons (pv 0) pa_nil)) (pa_cons pe_int pa_nil)))) pa_nil))
          (pg_name (i := 2) scLaw.nd rfl (Or.inl rfl))
      (pss_cons (ps_set (i := 3) scLaw.nd rfl (Or.inr rfl) (pe_call GL r1 (by rfl) L.W.m2 L.W.L.kp L.W.b2 .nil pass0 (pa_cons (pe_call GF r3 (by rfl) L.G.g L.G.F.kp L.G.b .nil pass0 (pa_cons (pv 1) (pa_cons pe_int pa_nil))) pa_nil)))
      (pss_cons (ps_for PassesOwn.never rfl (pi_range1 (by rfl) L.G.L.ra (pa_cons pe_int pa_nil)) (pg_name (i := 4) scLaw.nd rfl (Or.inl rfl))
      (pss_cons (ps_if (pt_cmpR op_ne (pe_callB (call_showV gd hu64) (by rfl) L.re (by decide +kernel) (pa_cons (pe_lamcall (X := (cxOf CX0 P w K mg base NL "law" (defScope sLaw) f (.ref c) A outer s H E).nox) (T := [((T, lamQ) : Addr × Str)]) (k := 6) (Ng := NO) (a := "deed") (TT := TOut L.U.F.O.C) (t := fun E => tCallS (spRFG K L.U.F.O.C) (fun σ => WE (fun cls d _ H => E cls d H) σ) (tCons (tVar 3) tNil)) (by rfl) L.mO L.O.kp lkO hcO bO scOutcome rfl (.inl rfl) (out_gives (X := (cxOf CX0 P w K mg base NL "law" (defScope sLaw) f (.ref c) A outer s H E).nox) L.U r2) TB rfl lamq lamu hr (lamS_by (sc := defScope sLaw) (by decide +kernel)) rfl (fun _ _ _ _ _ => rfl) (fun A outer s H E f c' hr => pe_callS GR5 (hr.mono (by omega)) (by rfl) L.R.m2 L.R.F.kp L.R.b2 (fun σ => passAt (takes_of rfl rfl rfl rfl) σ) (pa_cons (pe_var (i := 3) rfl (.inr (.inr rfl))) pa_nil))) pa_nil)) (pe_callB (call_showV gd hu64) (by rfl) L.re (by decide +kernel) (pa_cons (pe_call GD r3 (by rfl) L.D.m L.D.F.kp L.D.b .nil pass0 (pa_cons (pv 3) pa_nil)) pa_nil)) (nomark _)) (pss_one (ps_ret pe_bl)) pss_nil)
      (pss_one (ps_set (i := 3) scLaw.nd rfl (Or.inr rfl) (pe_call GE r2 (by rfl) L.Bn.m L.Bn.F.kp L.Bn.b .nil pass0 (pa_cons (pv 1) (pa_cons (pv 3) pa_nil)))))))
      (pss_cons (ps_set (i := 5) scLaw.nd rfl (Or.inr rfl) (pe_ix ix_list (pe_lst (pa_cons pe_non (pa_cons pe_int (pa_cons pe_bl (pa_cons (pe_lst (pa_cons pe_str pa_nil)) (pa_cons (pe_tup pa_nil) (pa_cons pe_dnewK pa_nil))))))) (pe_call GX r1 (by rfl) L.G.L.mN L.G.L.N.kp L.G.L.bN .nil pass0 (pa_cons (pv 1) (pa_cons pe_int pa_nil))) (fun _ _ => rfl)))
      (pss_one (ps_if (pt_cmpR (op_neD hu64) (pe_lamcall (X := (cxOf CX0 P w K mg base NL "law" (defScope sLaw) f (.ref c) A outer s H E).nox) (T := [((T, lamQ) : Addr × Str)]) (k := 6) (Ng := NO) (a := "deed") (TT := TOut L.U.F.O.C) (t := fun E => tCallS (spRFG K L.U.F.O.C) (fun σ => WE (fun cls d _ H => E cls d H) σ) (tCons (tVar 5) tNil)) (by rfl) L.mO L.O.kp lkO hcO bO scOutcome rfl (.inl rfl) (out_gives (X := (cxOf CX0 P w K mg base NL "law" (defScope sLaw) f (.ref c) A outer s H E).nox) L.U r2) TB rfl lamq lamu hr (lamS_by (sc := defScope sLaw) (by decide +kernel)) rfl (fun _ _ _ _ _ => rfl) (fun A outer s H E f c' hr => pe_callS GR5 (hr.mono (by omega)) (by rfl) L.R.m2 L.R.F.kp L.R.b2 (fun σ => passAt (takes_of rfl rfl rfl rfl) σ) (pa_cons (pe_var (i := 5) rfl (.inr (.inr rfl))) pa_nil))) (pe_tup (pa_cons pe_str (pa_cons pe_int (pa_cons pe_int pa_nil)))) (nomark _)) (pss_one (ps_ret pe_bl)) pss_nil))))))
      (pss_cons (ps_set (i := 7) scLaw.nd rfl (Or.inr rfl) (pe_lc (own := [("sign", 6)]) (g := gName 6) (te := tAdd (tAdd (tC (.str "0 ")) (tVar 6)) (tC (.str "; 0"))) rfl scLaw.nd (pi_str (pe_slice sl_str pe_str po_none (po_some (pe_op op_add pe_int (pe_call GX r1 (by rfl) L.G.L.mN L.G.L.N.kp L.G.L.bN .nil pass0 (pa_cons (pv 1) (pa_cons pe_int pa_nil)))))))
        (blkOk_by (N := NL) (sc := defScope sLaw) (by decide +kernel))
        (fun _ _ _ _ _ => pg_name (i := 6) scLaw.nd rfl (Or.inl rfl)) (fun _ _ _ _ _ => pts_nil) (fun _ _ _ _ _ => pe_op op_add_str (pe_op op_add_str pe_str (pv 6)) pe_str)))
      (pss_cons (ps_set (i := 8) scLaw.nd rfl (Or.inl rfl) (pe_call GD r3 (by rfl) L.D.m L.D.F.kp L.D.b .nil pass0 (pa_cons (pe_m1 PySem.F.slot_str_join PySem.F.type_str_join mt_join pe_str (pv 7)) pa_nil)))
      (pss_cons (ps_if (pw_or (pt_cmpR (op_neD hu64) (pe_lamcall (X := (cxOf CX0 P w K mg base NL "law" (defScope sLaw) f (.ref c) A outer s H E).nox) (T := [((T, lamQ) : Addr × Str)]) (k := 6) (Ng := NO) (a := "deed") (TT := TOut L.U.F.O.C) (t := fun E => tCallS (spRFG K L.U.F.O.C) (fun σ => WE (fun cls d _ H => E cls d H) σ) (tCons (tJoinX K (tVar 7)) tNil)) (by rfl) L.mO L.O.kp lkO hcO bO scOutcome rfl (.inl rfl) (out_gives (X := (cxOf CX0 P w K mg base NL "law" (defScope sLaw) f (.ref c) A outer s H E).nox) L.U r2) TB rfl lamq lamu hr (lamS_by (sc := defScope sLaw) (by decide +kernel)) rfl (fun _ _ _ _ _ => rfl) (fun A outer s H E f c' hr => pe_callS GR5 (hr.mono (by omega)) (by rfl) L.R.m2 L.R.F.kp L.R.b2 (fun σ => passAt (takes_of rfl rfl rfl rfl) σ) (pa_cons (pe_m1 PySem.F.slot_str_join PySem.F.type_str_join mt_join pe_str (pe_var (i := 7) rfl (.inr (.inr rfl)))) pa_nil))) (pv 8) (nomark _)) (pw_or1 (pt_cmpR op_ne (pe_cmpR (op_eqD hu64) (pv 8) (pe_tup (pa_cons pe_str (pa_cons pe_int (pa_cons pe_int pa_nil)))) (nomark _)) (pe_cmpR op_gt (pe_callB call_len_seq (by rfl) L.G.L.T.len PySem.boot_len (pa_cons (pv 7) pa_nil)) pe_int (nomark _)) (nomark _)))).pt (pss_one (ps_ret pe_bl)) pss_nil)
      (pss_cons (ps_set (i := 9) scLaw.nd rfl (Or.inl rfl) (pe_lamcall (X := (cxOf CX0 P w K mg base NL "law" (defScope sLaw) f (.ref c) A outer s H E).nox) (T := [((T, lamQ) : Addr × Str)]) (k := 6) (Ng := NO) (a := "deed") (TT := TOut L.U.F.O.C) (t := fun E => tCallS (spRFG K L.U.F.O.C) (fun σ => WE (fun cls d _ H => E cls d H) σ) (tCons (tJoinX K (tOp rCat (tVar 7) (tOp rRep (tLst (tCons (tC (.str "0 r; 1")) tNil)) (tC (.int 5))))) tNil)) (by rfl) L.mO L.O.kp lkO hcO bO scOutcome rfl (.inl rfl) (out_gives (X := (cxOf CX0 P w K mg base NL "law" (defScope sLaw) f (.ref c) A outer s H E).nox) L.U r2) TB rfl lamq lamu hr (lamS_by (sc := defScope sLaw) (by decide +kernel)) rfl (fun _ _ _ _ _ => rfl) (fun A outer s H E f c' hr => pe_callS GR5 (hr.mono (by omega)) (by rfl) L.R.m2 L.R.F.kp L.R.b2 (fun σ => passAt (takes_of rfl rfl rfl rfl) σ) (pa_cons (pe_m1 PySem.F.slot_str_join PySem.F.type_str_join mt_join pe_str (pe_op op_cat (pe_var (i := 7) rfl (.inr (.inr rfl))) (pe_op op_rep (pe_lst (pa_cons pe_str pa_nil)) pe_int))) pa_nil))))
      (pss_one (ps_ret (pe_cmpR (op_eqD hu64) (pv 9) (pe_tup (pa_cons pe_str (pa_cons (pe_op op_add (pe_callB call_len_seq (by rfl) L.G.L.T.len PySem.boot_len (pa_cons (pv 7) pa_nil)) pe_int) (pa_cons pe_int pa_nil)))) (nomark _)))))))))), ?_⟩
    refine ⟨_, rfl, a, ns, rfl, hS, by omega, fun m mc l0 H0 M0 hm hmc hl sm0 => ?_⟩
    have nl : (ns.map V.int).length ≤ 63 := by rw [List.length_map]; exact hlen
    have tb0 : Tabs [((T, lamQ) : Addr × Str)] H0 := fun p hp => by
      have e : p = ((T, lamQ) : Addr × Str) := by simpa using hp
      rw [e]
      exact TabS.nil (sm0 _ _ hT0)
    refine ⟨_, rfl, a, _, rfl, .inl (sm0.seq hS), _, 6, rfl, 2, _, rfl, rfl, _, rfl, by split <;> omega, by split <;> omega, ?_⟩
    have hN : (2 + if (6 : Int) < ((ns.map V.int).length : Nat) then 6 else (((ns.map V.int).length : Nat) : Int)).toNat ≤ 9 := by split <;> omega
    generalize (2 + if (6 : Int) < ((ns.map V.int).length : Nat) then 6 else (((ns.map V.int).length : Nat) : Int)).toNat = N at hN ⊢
    refine for_it walk_range (fun i σ H' => ∃ (v2 v3 v4 v5 : Option V) (l : Addr) (k : Int), σ = [some (.ref a), some (.ref m), v2, v3, v4, v5, none, none, none, none] ∧ MAt H' m mc l k ∧ k ≤ 1000 * i ∧ Tabs [((T, lamQ) : Addr × Str)] H')
      ⟨none, none, none, none, l0, 0, rfl, M0, by omega, tb0⟩ (fun _ _ _ _ _ => trivial) ?_ ?_
    · rintro i x σ H1z H1 hi ⟨v2, v3, v4, v5, l1, k1, rfl, M1, kk1, tb1⟩ ⟨rfl, rfl⟩
      refine ⟨_, rfl, m, mc, l1, k1, rfl, M1, by omega, fun f fr last H2 l2 k2 fa fm l12 kk2 d2 => ?_⟩
      have M2 := d2.at_
      have tb2 := tabs_dr tb1 M1 d2
      refine ⟨f, fr, last, rfl, fa, fm, fun H3 s3 => ?_⟩
      have M3 := M2.same s3
      have tb3 := tb2.ext s3
      have ot : OkT (textF fr) := okT_iff.mp (str_textF fm.stp)
      have lt0 : (textF fr).length ≤ bnd 0 := len_textF fm.stp fm.l1
      have kk3 : k2 ≤ 1000 * i + 800 := by omega
      generalize textF fr = t0 at ot lt0
      refine ⟨4, rfl, by decide, by decide, for_it walk_range (fun j σ H' => ∃ (t : Str) (v4 : Option V) (l : Addr) (k : Int), σ = [some (.ref a), some (.ref m), _, some (.str t), v4, v5, none, none, none, none] ∧ MAt H' m mc l k ∧ k ≤ 1000 * i + 800 + 20 * j ∧ Tabs [((T, lamQ) : Addr × Str)] H' ∧ t.length ≤ bnd j ∧ OkT t)
        ⟨t0, v4, l2, k2, rfl, M3, by omega, tb3, lt0, ot⟩ (fun _ _ _ _ _ => trivial) ?_ ?_⟩
      · rintro j x σ H4z H4 hj ⟨t, v4, l4, k4, rfl, M4, kk4, tb4, lt, ot⟩ ⟨rfl, rfl⟩
        have hj : j < 4 := hj
        have bl := bnd_le hj
        have lt6 : t.length ≤ 6000 := by omega
        have okT := okd_of (t := t) (by omega)
        have szT : (dOf t).shown.length ≤ sizeLine := Nat.le_trans okT.sz (by rw [sizeLine_eq]; omega)
        have dpT : (dOf t).depth ≤ 5 := Nat.le_trans okT.dp (by decide)
        refine rd_rf tb4 lt6 (fun H5 Qa ext qa => ⟨_, rfl, qa H5 (Same.refl _)⟩) fun H5 p5 e5 t5 da5 => ?_
        refine ⟨.ref p5, dOf t, rfl, Da.dp _ _ (Da.same nt_sub _ _ da5), okT.sh, okT.nd, szT, dpT, ?_⟩
        refine ⟨_, rfl, t, rfl, lt6, ot, dt_asks fun H6 p6 s6 n6 da6 => ?_⟩
        refine ⟨.ref p6, dOf t, rfl, Da.dp _ _ da6, okT.sh, okT.nd, szT, dpT, rfl, _, rfl, iteF' (by simp) ?_⟩
        have M6 := (mat_ext M4 e5).same s6
        have tb6 := t5.ext s6
        refine ⟨_, rfl, _, rfl, m, mc, l4, k4, t, rfl, M6, by omega, by omega, ot, fun u H7 l7 k7 lu ou kk7 d7 => ?_⟩
        exact ⟨u, _, l7, k7, rfl, d7.at_, by push_cast; omega, tabs_dr tb6 M6 d7, by rw [bnd]; omega, ou⟩
      · rintro σ H4 ⟨t, v4, l4, k4, rfl, M4, kk4, tb4, lt, ot⟩
        refine ⟨(by show 1 ≤ sizeLine; decide), fun p1 n1 => ⟨(by show 0 ≤ sizeLine; decide), fun p2 n2 => fun p3 n3 => ⟨(by show 6 ≤ sizeLine; decide), fun pL nL => ?_⟩⟩⟩
        have u1 := same_upd (o := HO.lst [V.str "0 a; 0"]) n1
        have u2 := same_upd (o := HO.tup []) n2
        have u3 := same_upd (o := HO.dK []) n3
        have uL := same_upd (o := HO.lst [V.non, V.int 5, V.bl true, V.ref p1, V.ref p2, V.ref p3]) nL
        have s3 := u1.trans (u2.trans u3)
        have sA := s3.trans uL
        have M2 := M4.same (u1.trans u2)
        have m1 : p1 ≠ l4 := M4.l_some n1
        have mL : pL ≠ l4 := (M4.same s3).l_some nL
        have e3m : p3 ≠ m := fun z => by
          rw [z, M2.hm] at n3
          cases n3
        have e3l : p3 ≠ l4 := M2.l_some n3
        have e1 := (u2.trans (u3.trans uL)) _ _ (upd_same (H := H4) (a := p1) (o := HO.lst [V.str "0 a; 0"]))
        have e2 := (u3.trans uL) _ _ (upd_same (H := upd H4 p1 (.lst [V.str "0 a; 0"])) (a := p2) (o := HO.tup []))
        have e3 := uL _ _ (upd_same (H := upd (upd H4 p1 (.lst [V.str "0 a; 0"])) p2 (.tup [])) (a := p3) (o := HO.dK []))
        have eL := upd_same (H := upd (upd (upd H4 p1 (.lst [V.str "0 a; 0"])) p2 (.tup [])) p3 (.dK [])) (a := pL) (o := HO.lst [V.non, V.int 5, V.bl true, V.ref p1, V.ref p2, V.ref p3])
        have MQ := M4.same sA
        have tbQ := tb4.ext sA
        clear u1 u2 u3 uL s3 sA M2 n1 n2 n3 nL
        generalize upd (upd (upd (upd H4 p1 (.lst [V.str "0 a; 0"])) p2 (.tup [])) p3 (.dK [])) pL (.lst [V.non, V.int 5, V.bl true, V.ref p1, V.ref p2, V.ref p3]) = HQ at e1 e2 e3 eL MQ tbQ ⊢
        refine ⟨_, rfl, m, mc, l4, k4, 6, rfl, MQ, by decide, by decide, by omega, fun r5 H7 l7 k7 a5 b5 g5 N5 f5 q5 => ?_⟩
        have d7 : Dr HQ H7 m mc l4 l7 k7 := ⟨N5, f5, q5⟩
        obtain ⟨hL7, _⟩ := d7.lst MQ eL mL
        obtain ⟨h17, _⟩ := d7.lst MQ e1 m1
        have h27 := d7.tup MQ e2
        have h37 := d7.kp _ _ e3 e3m e3l
        have tb7 := tabs_dr tbQ MQ d7
        obtain ⟨v, ea, nos⟩ : ∃ v : V, atI [V.non, V.int 5, V.bl true, V.ref p1, V.ref p2, V.ref p3] r5 = some v ∧ ∀ H', ExtN H7 H' → NoStr K H' v := by
          obtain ⟨j, rfl⟩ := Int.eq_ofNat_of_zero_le a5
          rcases (show j = 0 ∨ j = 1 ∨ j = 2 ∨ j = 3 ∨ j = 4 ∨ j = 5 by omega) with rfl | rfl | rfl | rfl | rfl | rfl
          · exact ⟨_, rfl, fun H' _ => ⟨_, .base .non, kit_ty (r := false) (by decide +kernel)⟩⟩
          · exact ⟨_, rfl, fun H' _ => ⟨_, .base (.int 5), kit_ty (r := false) (by decide +kernel)⟩⟩
          · exact ⟨_, rfl, fun H' _ => ⟨_, .base (.bl true), kit_ty (r := false) (by decide +kernel)⟩⟩
          · exact ⟨_, rfl, fun H' e => ⟨_, .base (.lst (e _ _ h17 (fun ps z => by cases z))), kit_ty (r := false) (by decide +kernel)⟩⟩
          · exact ⟨_, rfl, fun H' e => ⟨_, .base (.tup (e _ _ h27 (fun ps z => by cases z))), kit_ty (r := false) (by decide +kernel)⟩⟩
          · exact ⟨_, rfl, fun H' e => ⟨_, .base (.dK (e _ _ h37 (fun ps z => by cases z))), kit_ty (r := false) (by decide +kernel)⟩⟩
        refine ⟨pL, _, r5, v, rfl, rfl, SqL.of hL7, ea, ?_⟩
        refine rd_no (j := 5) rfl tb7 nos fun H8 p8 e8 t8 da8 => ?_
        refine ⟨(by show 3 ≤ sizeLine; decide), fun p9 n9 => ?_⟩
        have u9 := same_upd (o := HO.tup [V.str "text", V.int 0, V.int 0]) n9
        have z0 : (0 : Int) ≤ 0 ∧ (0 : Int) < 1000000 := by omega
        refine ⟨dTx 0 0, dTx 0 0, Da.dp _ _ (Da.same u9 _ _ (Da.same nt_sub _ _ da8)), Da.dp _ _ (da_tx upd_same), sh_tx z0 z0, sh_tx z0 z0, _, rfl, iteF' (by rw [eqv_00]; rfl) ?_⟩
        exact ⟨_, _, _, _, l7, k7, rfl, (mat_ext N5 e8).same u9, by push_cast; omega, t8.ext u9⟩
    · rintro σ HE ⟨v2, v3, v4, v5, l, k, rfl, ME, kkE, tbE⟩
      refine ⟨_, rfl, m, mc, l, k, 4, rfl, ME, by decide, by decide, by omega, fun r5 H7 l7 k7 a5 b5 g5 N5 f5 q5 => ?_⟩
      have d7 : Dr HE H7 m mc l l7 k7 := ⟨N5, f5, q5⟩
      have tb7 := tabs_dr tbE ME d7
      obtain ⟨n, hn⟩ : ∃ n : Nat, (15 : Int) + r5 = n := ⟨(15 + r5).toNat, by omega⟩
      have n0 : 15 ≤ n := by omega
      have n1 : n ≤ 18 := by omega
      refine ⟨15, r5, rfl, rfl, (n : Int), congrArg V.int hn, abcT, rfl, (by rw [sizeLine_eq]; decide +kernel), _, rfl, fun D hD => ?_⟩
      have cl := cut_ltrs n0 n1
      have fl := frN_len n0 n1
      have fe : (frN n).map line3 = (ltrs.take n).map fun c => line3 (lnT c) := by
        unfold frN
        rw [List.map_map]
        rfl
      have sz : (cutS abcT none (some (n : Int))).cps.size = n := by
        have z := congrArg List.length cl
        have z2 := congrArg List.length fe
        rw [List.length_map, List.length_map, fl] at z2
        rw [← z2] at z
        exact z
      refine lc_it walk_str (fun i H' => H' D = some (.lst ((((frN n).map line3).take i).map V.str)) ∧ Same H7 H') ⟨upd_same, same_upd hD⟩ (fun _ _ _ _ => trivial) ?_ ?_
      · rintro i x H2 H3 hi ⟨hd, s2⟩ ⟨rfl, c, hc, rfl⟩
        have hc2 : (ltrs.take n)[i]? = some c := by
          rw [← cl, ← hc]
          exact Array.getElem?_toList ..
        have cm := List.mem_of_mem_take (List.mem_of_getElem? hc2)
        have hy : ((frN n).map line3)[i]? = some (line3 (lnT c)) := by
          rw [fe, List.getElem?_map, hc2]
          rfl
        obtain ⟨l3, l6⟩ := line_s3 c cm
        refine ⟨rfl, _, rfl, _, _, rfl, rfl, (by rw [sizeLine_eq]; simp only [app_len] at l3; omega), _, _, rfl, rfl, (by rw [sizeLine_eq]; simp only [app_len] at l6 ⊢; omega), _, hd, ?_, ?_, same_push hD s2⟩
        · rw [List.length_map, List.length_take, sizeLine_eq]
          omega
        · rw [line_of c cm, take_one hy, List.map_append]
          exact upd_same
      · rintro H2 ⟨hd, s2⟩
        rw [sz] at hd
        have et : ((frN n).map line3).take n = (frN n).map line3 := List.take_of_length_le (by rw [List.length_map, fl]; omega)
        rw [et] at hd
        have okL : OkT (textF (frN n)) := okT_iff.mp (str_textF frN_stp)
        have wL := wt_lines n0 n1
        have sumL : (((frN n).map line3).map (·.length)).sum + ((frN n).map line3).length * ("\n" : Str).length ≤ 16777216 := by
          rw [nl1, List.length_map, fl]
          unfold Wt at wL
          omega
        have lt6 := len_lines n0 n1
        have tj := txt_textF (frN n)
        have okD := okd_of (t := textF (frN n)) (by omega)
        have dueE := due_lines n0 n1
        have tbD := tb7.ext s2
        refine ⟨⟨_, rfl⟩, _, rfl, _, D, (frN n).map line3, rfl, rfl, .inl (SqL.of hd), sumL, textF (frN n), by rw [tj]; rfl, lt6, okL, dt_asks fun H6 p6 s6 n6 da6 => ?_⟩
        refine rd_rf (tbD.ext s6) lt6 (fun H5 Qa ext qa => ⟨⟨_, rfl⟩, _, rfl, _, D, (frN n).map line3, rfl, rfl, .inl (SqL.of (ext _ _ (s6 _ _ hd) (fun ps z => by cases z))), sumL, by rw [tj]; exact qa H5 (Same.refl _)⟩) fun H9 p9 e9 t9 da9 => ?_
        have da69 : Da H9 (.ref p6) (dOf (textF (frN n))) := Da.same nt_sub _ _ (Da.same (nt_ext e9) _ _ (da_nt _ _ da6))
        have hd9 := e9 _ _ (s6 _ _ hd) (fun ps z => by cases z)
        refine ⟨_, rfl, dOf (textF (frN n)), dOf (textF (frN n)), Da.dp _ _ (Da.same nt_sub _ _ da9), Da.dp _ _ da69, sh_of (by omega), sh_of (by omega), _, rfl, iteF' (by rw [eqv_self (by omega)]; rfl) ?_⟩
        refine ⟨_, rfl, (by show 3 ≤ sizeLine; decide), fun p1 q1 => ?_⟩
        have v1 := same_upd (o := HO.tup [V.str "text", V.int 17, V.int 0]) q1
        have z17 : (0 : Int) ≤ 17 ∧ (17 : Int) < 1000000 := by omega
        have z0 : (0 : Int) ≤ 0 ∧ (0 : Int) < 1000000 := by omega
        refine ⟨dOf (textF (frN n)), dTx 17 0, Da.dp _ _ (Da.same v1 _ _ da69), Da.dp _ _ (da_tx upd_same), sh_of (by omega), sh_tx z17 z0, ?_⟩
        rw [eqv_due n0 n1]
        have eb : decide ((16 : Int) < ((((frN n).map line3).map V.str).length : Nat)) = decide (16 < n) := by
          rw [List.length_map, List.length_map, fl]
          exact decide_eq_decide.mpr (by omega)
        refine ⟨_, rfl, D, _, rfl, .inl (SqL.of (v1 _ _ hd9)), _, 16, rfl, rfl, rfl, _, rfl, iteF' (by
          show (!decide (V.bl (decide (16 < n)) = V.bl (decide ((16 : Int) < ((((frN n).map line3).map V.str).length : Nat))))) = false
          rw [eb]
          simp) ?_⟩
        have hdL := v1 _ _ hd9
        have t1 := t9.ext v1
        have lt7 := len_lns n0 n1
        have wl := wt_lns n0 n1
        have lnl : (lns n).length = n + 5 := by
          unfold lns
          rw [List.length_append, List.length_map, fl, List.length_replicate]
        have sumN : ((lns n).map (·.length)).sum + (lns n).length * ("\n" : Str).length ≤ 16777216 := by
          rw [nl1]
          unfold Wt at wl
          omega
        have ml : (lns n).map V.str = ((frN n).map line3).map V.str ++ (List.replicate (5 : Int).toNat [V.str "0 r; 1"]).flatten := by
          unfold lns
          rw [List.map_append, List.map_replicate]
          rfl
        have dl := due_lns n0 n1
        have zn : (0 : Int) ≤ (n : Int) + 1 ∧ (n : Int) + 1 < 1000000 := by omega
        have z3 : (0 : Int) ≤ 3 ∧ (3 : Int) < 1000000 := by omega
        refine rd_rf (t := Str.join "\n" (lns n)) t1 lt7 (fun H5 Qa ext qa => ?_) fun HA pA eA tA daA => ?_
        · have h7 := ext _ _ hdL (fun ps z => by cases z)
          refine ⟨⟨_, rfl⟩, _, rfl, (by show 1 ≤ sizeLine; decide), fun q1 k1 => ⟨q1, 5, _, rfl, rfl, upd_same, by decide, by decide, (by show 1 * 5 ≤ sizeLine; decide), fun q2 k2 => ?_⟩⟩
          have w1 := same_upd (o := HO.lst [V.str "0 r; 1"]) k1
          have w2 := same_upd (o := HO.lst (List.replicate (5 : Int).toNat [V.str "0 r; 1"]).flatten) k2
          refine ⟨D, q2, _, _, rfl, rfl, w2 _ _ (w1 _ _ h7), upd_same, ?_, fun q3 k3 => ?_⟩
          · rw [← List.length_append, ← ml, List.length_map, lnl, sizeLine_eq]
            omega
          · have w3 := same_upd (o := HO.lst ((((frN n).map line3).map V.str) ++ (List.replicate (5 : Int).toNat [V.str "0 r; 1"]).flatten)) k3
            refine ⟨_, q3, lns n, rfl, rfl, .inl (SqL.of (by rw [ml]; exact upd_same)), sumN, ?_⟩
            rw [txt_lns]
            exact qa _ (w1.trans (w2.trans w3))
        · have hdA := eA _ _ hdL (fun ps z => by cases z)
          refine ⟨_, rfl, ⟨_, rfl, D, _, rfl, .inl (SqL.of hdA), _, 1, rfl, rfl, ?_⟩⟩
          rw [List.length_map, List.length_map, fl]
          refine ⟨(by show 3 ≤ sizeLine; decide), fun p8 n8 => ?_⟩
          have u8 := same_upd (o := HO.tup [V.str "text", V.int ((n : Int) + 1), V.int 3]) n8
          refine ⟨dTx ((n : Int) + 1) 3, dTx ((n : Int) + 1) 3, Da.dp _ _ ?_, Da.dp _ _ (da_tx upd_same), sh_tx zn z3, sh_tx zn z3, ?_⟩
          · rw [dOf_some dl] at daA
            exact Da.same u8 _ _ (Da.same nt_sub _ _ daA)
          · rw [SeqAt.eqv_refl _ (okd_tx zn z3).lay]
            exact q _
end
end K45

set_option Elab.async false
set_option linter.all false
set_option maxRecDepth 100000
set_option maxHeartbeats 8000000
/-! What the top has written. -/
namespace K45
open PySem L2 L2.EV LamX PySem.Spec PyProof.Rows
theorem oxc {K : PySem.W.Frag} {C N : Addr} {nm q : Str} {bs : List Value} {sn : List Str} {sub : List Value} {ab : Bool} {col : Option Bool} {dd : Option Addr} {k0 k1 k2 k3 k5 : Option Value} {B newId initId : String} {bm : List Value}
    (cl : K.lookup C = some (excClassObj nm q C N bs bm true sn sub ab col dd k0 k1 k2 k3 k5 newId)) (F : ExcBaseFacts B newId initId bm) (pas : ∀ self, refuseLoop self "__setattr__" bm = pure ()) (obj : bm.contains (.type "object") = true)
    (sa : PySem.W.findIn K (.ref C) "__setattr__" = some (some (.builtin "object.__setattr__"))) (ga : PySem.W.findIn K (.ref C) "__getattribute__" = some (some (.builtin "BaseException.__getattribute__")))
    (gg : PySem.W.findIn K (.ref C) "__getattr__" = some none) (exC : PySem.W.subIn K (.ref C) (.type "BaseException") = some true) (kC : PySem.W.keepIn K (.ref C) = true) (hd : PySem.W.hasDictIn K C = true)
    (ca : PySem.W.findIn K (.ref C) "__class__" = some (some (.builtin "object.__class__"))) (cn : PySem.W.specialIn K (.builtin "object.__class__") "__get__" = some (some (.builtin "getset_descriptor.__get__")))
    (ct : PySem.W.takesIn K (.builtin "object.__class__") = some true) (om : PySem.W.mroIn K C (.type "object") = some true) : OxC K C B newId initId bm :=
  ⟨F, ⟨nm, q, N, bs, sn, sub, ab, col, dd, k0, k1, k2, k3, k5, cl⟩, pas, obj, sa, ga, gg, exC, kC, hd, ca, cn, ct, om⟩
theorem all_mk {P : Program} {w : World} {K : PySem.W.Frag} {h : Heap} {mg : Str → Option Value} {fa ccl Tla f_ini gsw D0 D1 D2 C D4 D5 D6 D7 f_iP f_iL f_iW f_iJ f_tC f_tW f_tT f_tS f_tR f_lB f_lN f_lU f_lO f_lP f_lF f_lT f_lI f_lW f_lJ f_lD f_lX f_la : Addr}
    {od_iP an_iP : Option Addr} {sl_iP : Array (Option Value)} {oc_iP kV_iP dc_iP pm_iP cd_iP ct_iP : Value}
    {od_iL an_iL : Option Addr} {sl_iL : Array (Option Value)} {oc_iL kV_iL dc_iL pm_iL cd_iL ct_iL : Value}
    {od_iW an_iW : Option Addr} {sl_iW : Array (Option Value)} {oc_iW kV_iW dc_iW pm_iW cd_iW ct_iW : Value}
    {od_iJ an_iJ : Option Addr} {sl_iJ : Array (Option Value)} {oc_iJ kV_iJ dc_iJ pm_iJ cd_iJ ct_iJ : Value}
    {od_tC an_tC : Option Addr} {sl_tC : Array (Option Value)} {oc_tC kV_tC dc_tC pm_tC cd_tC ct_tC : Value}
    {od_tW an_tW : Option Addr} {sl_tW : Array (Option Value)} {oc_tW kV_tW dc_tW pm_tW cd_tW ct_tW : Value}
    {od_tT an_tT : Option Addr} {sl_tT : Array (Option Value)} {oc_tT kV_tT dc_tT pm_tT cd_tT ct_tT : Value}
    {od_tS an_tS : Option Addr} {sl_tS : Array (Option Value)} {oc_tS kV_tS dc_tS pm_tS cd_tS ct_tS : Value}
    {od_tR an_tR : Option Addr} {sl_tR : Array (Option Value)} {oc_tR kV_tR dc_tR pm_tR cd_tR ct_tR : Value}
    {od_lB an_lB : Option Addr} {sl_lB : Array (Option Value)} {oc_lB kV_lB dc_lB pm_lB cd_lB ct_lB : Value}
    {od_lN an_lN : Option Addr} {sl_lN : Array (Option Value)} {oc_lN kV_lN dc_lN pm_lN cd_lN ct_lN : Value}
    {od_lU an_lU : Option Addr} {sl_lU : Array (Option Value)} {oc_lU kV_lU dc_lU pm_lU cd_lU ct_lU : Value}
    {od_lO an_lO : Option Addr} {sl_lO : Array (Option Value)} {oc_lO kV_lO dc_lO pm_lO cd_lO ct_lO : Value}
    {od_lP an_lP : Option Addr} {sl_lP : Array (Option Value)} {oc_lP kV_lP dc_lP pm_lP cd_lP ct_lP : Value}
    {od_lF an_lF : Option Addr} {sl_lF : Array (Option Value)} {oc_lF kV_lF dc_lF pm_lF cd_lF ct_lF : Value}
    {od_lT an_lT : Option Addr} {sl_lT : Array (Option Value)} {oc_lT kV_lT dc_lT pm_lT cd_lT ct_lT : Value}
    {od_lI an_lI : Option Addr} {sl_lI : Array (Option Value)} {oc_lI kV_lI dc_lI pm_lI cd_lI ct_lI : Value}
    {od_lW an_lW : Option Addr} {sl_lW : Array (Option Value)} {oc_lW kV_lW dc_lW pm_lW cd_lW ct_lW : Value}
    {od_lJ an_lJ : Option Addr} {sl_lJ : Array (Option Value)} {oc_lJ kV_lJ dc_lJ pm_lJ cd_lJ ct_lJ : Value}
    {od_lD an_lD : Option Addr} {sl_lD : Array (Option Value)} {oc_lD kV_lD dc_lD pm_lD cd_lD ct_lD : Value}
    {od_lX an_lX : Option Addr} {sl_lX : Array (Option Value)} {oc_lX kV_lX dc_lX pm_lX cd_lX ct_lX : Value}
    {od_la an_la : Option Addr} {sl_la : Array (Option Value)} {oc_la kV_la dc_la pm_la ct_la : Value}
    {od_ini an_ini : Option Addr} {sl_ini : Array (Option Value)} {oc_ini kV_ini dc_ini pm_ini cd_ini ct_ini : Value}
    {t_vS : Tok}
    {t_vM : Tok}
    {t_vT : Tok}
    {t_vW : Tok}
    {od_sw : Option Addr} {sl_sw : Array (Option Value)} {n_sw : Nat} {w0 w1 w2 w3 w4 w5 : Tok}
    (X : K.In h) (G : h.Ns mainGlobals mg) (hfa : mg "law" = some (.ref fa))
    (a_iP : PySem.W.nsIn K mainGlobals "is_piece" = some (some (.ref f_iP)))
    (l_iP : K.lookup f_iP = some ⟨oc_iP, od_iP, .func (PySem.W.fnOf "is_piece" "is_piece" (defArgs sPc) (defBody sPc) (defScope sPc) .none kV_iP dc_iP pm_iP an_iP cd_iP ct_iP), sl_iP⟩) (c_iP : PySem.W.codeIn K cd_iP "is_piece" = true) (k_iP : PySem.W.keepIn K (.ref f_iP) = true)
    (a_iL : PySem.W.nsIn K mainGlobals "listed_standings" = some (some (.ref f_iL)))
    (l_iL : K.lookup f_iL = some ⟨oc_iL, od_iL, .func (PySem.W.fnOf "listed_standings" "listed_standings" (defArgs sListed) (defBody sListed) (defScope sListed) .none kV_iL dc_iL pm_iL an_iL cd_iL ct_iL), sl_iL⟩) (c_iL : PySem.W.codeIn K cd_iL "listed_standings" = true) (k_iL : PySem.W.keepIn K (.ref f_iL) = true)
    (a_iW : PySem.W.nsIn K mainGlobals "ways_from" = some (some (.ref f_iW)))
    (l_iW : K.lookup f_iW = some ⟨oc_iW, od_iW, .func (PySem.W.fnOf "ways_from" "ways_from" (defArgs sWays) (defBody sWays) (defScope sWays) .none kV_iW dc_iW pm_iW an_iW cd_iW ct_iW), sl_iW⟩) (c_iW : PySem.W.codeIn K cd_iW "ways_from" = true) (k_iW : PySem.W.keepIn K (.ref f_iW) = true)
    (a_iJ : PySem.W.nsIn K mainGlobals "is_joined" = some (some (.ref f_iJ)))
    (l_iJ : K.lookup f_iJ = some ⟨oc_iJ, od_iJ, .func (PySem.W.fnOf "is_joined" "is_joined" (defArgs sJoined) (defBody sJoined) (defScope sJoined) .none kV_iJ dc_iJ pm_iJ an_iJ cd_iJ ct_iJ), sl_iJ⟩) (c_iJ : PySem.W.codeIn K cd_iJ "is_joined" = true) (k_iJ : PySem.W.keepIn K (.ref f_iJ) = true)
    (a_tC : PySem.W.nsIn K mainGlobals "can_stand" = some (some (.ref f_tC)))
    (l_tC : K.lookup f_tC = some ⟨oc_tC, od_tC, .func (PySem.W.fnOf "can_stand" "can_stand" (defArgs sCan) (defBody sCan) (defScope sCan) .none kV_tC dc_tC pm_tC an_tC cd_tC ct_tC), sl_tC⟩) (c_tC : PySem.W.codeIn K cd_tC "can_stand" = true) (k_tC : PySem.W.keepIn K (.ref f_tC) = true)
    (a_tW : PySem.W.nsIn K mainGlobals "wrong_word" = some (some (.ref f_tW)))
    (l_tW : K.lookup f_tW = some ⟨oc_tW, od_tW, .func (PySem.W.fnOf "wrong_word" "wrong_word" (defArgs sWrongW) (defBody sWrongW) (defScope sWrongW) .none kV_tW dc_tW pm_tW an_tW cd_tW ct_tW), sl_tW⟩) (c_tW : PySem.W.codeIn K cd_tW "wrong_word" = true) (k_tW : PySem.W.keepIn K (.ref f_tW) = true)
    (a_tT : PySem.W.nsIn K mainGlobals "told_step" = some (some (.ref f_tT)))
    (l_tT : K.lookup f_tT = some ⟨oc_tT, od_tT, .func (PySem.W.fnOf "told_step" "told_step" (defArgs sTold) (defBody sTold) (defScope sTold) .none kV_tT dc_tT pm_tT an_tT cd_tT ct_tT), sl_tT⟩) (c_tT : PySem.W.codeIn K cd_tT "told_step" = true) (k_tT : PySem.W.keepIn K (.ref f_tT) = true)
    (a_tS : PySem.W.nsIn K mainGlobals "read_steps" = some (some (.ref f_tS)))
    (l_tS : K.lookup f_tS = some ⟨oc_tS, od_tS, .func (PySem.W.fnOf "read_steps" "read_steps" (defArgs sRS) (defBody sRS) (defScope sRS) .none kV_tS dc_tS pm_tS an_tS cd_tS ct_tS), sl_tS⟩) (c_tS : PySem.W.codeIn K cd_tS "read_steps" = true) (k_tS : PySem.W.keepIn K (.ref f_tS) = true)
    (a_tR : PySem.W.nsIn K mainGlobals "read_framing" = some (some (.ref f_tR)))
    (l_tR : K.lookup f_tR = some ⟨oc_tR, od_tR, .func (PySem.W.fnOf "read_framing" "read_framing" (defArgs sRF) (defBody sRF) (defScope sRF) .none kV_tR dc_tR pm_tR an_tR cd_tR ct_tR), sl_tR⟩) (c_tR : PySem.W.codeIn K cd_tR "read_framing" = true) (k_tR : PySem.W.keepIn K (.ref f_tR) = true)
    (a_lB : PySem.W.nsIn K mainGlobals "_law_begun" = some (some (.ref f_lB)))
    (l_lB : K.lookup f_lB = some ⟨oc_lB, od_lB, .func (PySem.W.fnOf "_law_begun" "_law_begun" (defArgs sBegun) (defBody sBegun) (defScope sBegun) .none kV_lB dc_lB pm_lB an_lB cd_lB ct_lB), sl_lB⟩) (c_lB : PySem.W.codeIn K cd_lB "_law_begun" = true) (k_lB : PySem.W.keepIn K (.ref f_lB) = true)
    (a_lN : PySem.W.nsIn K mainGlobals "_law_next" = some (some (.ref f_lN)))
    (l_lN : K.lookup f_lN = some ⟨oc_lN, od_lN, .func (PySem.W.fnOf "_law_next" "_law_next" (defArgs sNext) (defBody sNext) (defScope sNext) .none kV_lN dc_lN pm_lN an_lN cd_lN ct_lN), sl_lN⟩) (c_lN : PySem.W.codeIn K cd_lN "_law_next" = true) (k_lN : PySem.W.keepIn K (.ref f_lN) = true)
    (a_lU : PySem.W.nsIn K mainGlobals "_law_fault" = some (some (.ref f_lU)))
    (l_lU : K.lookup f_lU = some ⟨oc_lU, od_lU, .func (PySem.W.fnOf "_law_fault" "_law_fault" (defArgs sFault) (defBody sFault) (defScope sFault) .none kV_lU dc_lU pm_lU an_lU cd_lU ct_lU), sl_lU⟩) (c_lU : PySem.W.codeIn K cd_lU "_law_fault" = true) (k_lU : PySem.W.keepIn K (.ref f_lU) = true)
    (a_lO : PySem.W.nsIn K mainGlobals "_law_outcome" = some (some (.ref f_lO)))
    (l_lO : K.lookup f_lO = some ⟨oc_lO, od_lO, .func (PySem.W.fnOf "_law_outcome" "_law_outcome" (defArgs sOutcome) (defBody sOutcome) (defScope sOutcome) .none kV_lO dc_lO pm_lO an_lO cd_lO ct_lO), sl_lO⟩) (c_lO : PySem.W.codeIn K cd_lO "_law_outcome" = true) (k_lO : PySem.W.keepIn K (.ref f_lO) = true)
    (a_lP : PySem.W.nsIn K mainGlobals "_law_piece" = some (some (.ref f_lP)))
    (l_lP : K.lookup f_lP = some ⟨oc_lP, od_lP, .func (PySem.W.fnOf "_law_piece" "_law_piece" (defArgs sPiece) (defBody sPiece) (defScope sPiece) .none kV_lP dc_lP pm_lP an_lP cd_lP ct_lP), sl_lP⟩) (c_lP : PySem.W.codeIn K cd_lP "_law_piece" = true) (k_lP : PySem.W.keepIn K (.ref f_lP) = true)
    (a_lF : PySem.W.nsIn K mainGlobals "_law_framing" = some (some (.ref f_lF)))
    (l_lF : K.lookup f_lF = some ⟨oc_lF, od_lF, .func (PySem.W.fnOf "_law_framing" "_law_framing" (defArgs sFraming) (defBody sFraming) (defScope sFraming) .none kV_lF dc_lF pm_lF an_lF cd_lF ct_lF), sl_lF⟩) (c_lF : PySem.W.codeIn K cd_lF "_law_framing" = true) (k_lF : PySem.W.keepIn K (.ref f_lF) = true)
    (a_lT : PySem.W.nsIn K mainGlobals "_law_framing_text" = some (some (.ref f_lT)))
    (l_lT : K.lookup f_lT = some ⟨oc_lT, od_lT, .func (PySem.W.fnOf "_law_framing_text" "_law_framing_text" (defArgs sLT) (defBody sLT) (defScope sLT) .none kV_lT dc_lT pm_lT an_lT cd_lT ct_lT), sl_lT⟩) (c_lT : PySem.W.codeIn K cd_lT "_law_framing_text" = true) (k_lT : PySem.W.keepIn K (.ref f_lT) = true)
    (a_lI : PySem.W.nsIn K mainGlobals "_law_is_piece" = some (some (.ref f_lI)))
    (l_lI : K.lookup f_lI = some ⟨oc_lI, od_lI, .func (PySem.W.fnOf "_law_is_piece" "_law_is_piece" (defArgs sLP) (defBody sLP) (defScope sLP) .none kV_lI dc_lI pm_lI an_lI cd_lI ct_lI), sl_lI⟩) (c_lI : PySem.W.codeIn K cd_lI "_law_is_piece" = true) (k_lI : PySem.W.keepIn K (.ref f_lI) = true)
    (a_lW : PySem.W.nsIn K mainGlobals "_law_line_word" = some (some (.ref f_lW)))
    (l_lW : K.lookup f_lW = some ⟨oc_lW, od_lW, .func (PySem.W.fnOf "_law_line_word" "_law_line_word" (defArgs sLW) (defBody sLW) (defScope sLW) .none kV_lW dc_lW pm_lW an_lW cd_lW ct_lW), sl_lW⟩) (c_lW : PySem.W.codeIn K cd_lW "_law_line_word" = true) (k_lW : PySem.W.keepIn K (.ref f_lW) = true)
    (a_lJ : PySem.W.nsIn K mainGlobals "_law_is_joined" = some (some (.ref f_lJ)))
    (l_lJ : K.lookup f_lJ = some ⟨oc_lJ, od_lJ, .func (PySem.W.fnOf "_law_is_joined" "_law_is_joined" (defArgs sJL) (defBody sJL) (defScope sJL) .none kV_lJ dc_lJ pm_lJ an_lJ cd_lJ ct_lJ), sl_lJ⟩) (c_lJ : PySem.W.codeIn K cd_lJ "_law_is_joined" = true) (k_lJ : PySem.W.keepIn K (.ref f_lJ) = true)
    (a_lD : PySem.W.nsIn K mainGlobals "_law_text_due" = some (some (.ref f_lD)))
    (l_lD : K.lookup f_lD = some ⟨oc_lD, od_lD, .func (PySem.W.fnOf "_law_text_due" "_law_text_due" (defArgs sDT) (defBody sDT) (defScope sDT) .none kV_lD dc_lD pm_lD an_lD cd_lD ct_lD), sl_lD⟩) (c_lD : PySem.W.codeIn K cd_lD "_law_text_due" = true) (k_lD : PySem.W.keepIn K (.ref f_lD) = true)
    (a_lX : PySem.W.nsIn K mainGlobals "_law_bent_text" = some (some (.ref f_lX)))
    (l_lX : K.lookup f_lX = some ⟨oc_lX, od_lX, .func (PySem.W.fnOf "_law_bent_text" "_law_bent_text" (defArgs sBent) (defBody sBent) (defScope sBent) .none kV_lX dc_lX pm_lX an_lX cd_lX ct_lX), sl_lX⟩) (c_lX : PySem.W.codeIn K cd_lX "_law_bent_text" = true) (k_lX : PySem.W.keepIn K (.ref f_lX) = true)
    (a_la : PySem.W.nsIn K mainGlobals "law" = some (some (.ref f_la)))
    (l_la : K.lookup f_la = some ⟨oc_la, od_la, .func (PySem.W.fnOf "law" "law" (defArgs sLaw) (defBody sLaw) (defScope sLaw) .none kV_la dc_la pm_la an_la (.ref ccl) ct_la), sl_la⟩) (c_la : PySem.W.codeIn K (.ref ccl) "law" = true) (k_la : PySem.W.keepIn K (.ref f_la) = true)
    {ts : List Addr} (mT : Tla ∈ ts) (tb : PySem.W.codeHdIn K ccl Tla = true) (nT : K.lookup Tla = none)
    (aD0 : PySem.W.nsIn K mainGlobals "BadFraming" = some (some (.ref D0)))
    (aD1 : PySem.W.nsIn K mainGlobals "BadReader" = some (some (.ref D1)))
    (aD2 : PySem.W.nsIn K mainGlobals "BadWeaving" = some (some (.ref D2)))
    (aC : PySem.W.nsIn K mainGlobals "BadText" = some (some (.ref C)))
    (aD4 : PySem.W.nsIn K mainGlobals "OutOfPlace" = some (some (.ref D4)))
    (aD5 : PySem.W.nsIn K mainGlobals "TooGreat" = some (some (.ref D5)))
    (aD6 : PySem.W.nsIn K mainGlobals "Nothing" = some (some (.ref D6)))
    (aD7 : PySem.W.nsIn K mainGlobals "Held" = some (some (.ref D7)))
    (OX : OxC K C "ValueError" "ValueError.__new__" "ValueError.__init__" [.type "ValueError", .type "Exception", .type "BaseException", .type "object"])
    (iC_OX : PySem.W.findIn K (.ref C) "__init__" = some (some (.ref f_ini))) (tI_OX : PySem.W.typeIn K (.ref f_ini) = some (.type "function"))
    (l_ini : K.lookup f_ini = some ⟨oc_ini, od_ini, .func (PySem.W.fnOf "__init__" "BadText.__init__" (defArgs sBadText) (defBody sBadText) (defScope sBadText) .none kV_ini dc_ini pm_ini an_ini cd_ini ct_ini), sl_ini⟩) (c_ini : PySem.W.codeIn K cd_ini "BadText.__init__" = true) (k_ini : PySem.W.keepIn K (.ref f_ini) = true)
    (n0 : PySem.W.findIn K (.ref C) "line" = some none) (n1 : PySem.W.findIn K (.ref C) "word" = some none)
    (a_sw : PySem.W.nsIn K mainGlobals "STANDING_WORDS" = some (some (.ref gsw))) (l_sw : K.lookup gsw = some ⟨.type "tuple", od_sw, .seq #[.str "0" w0, .str "1" w1, .str "2" w2, .str "3" w3, .str "4" w4, .str "5" w5] n_sw, sl_sw⟩)
    (suD0 : PySem.W.subIn K (.ref D0) (.type "BaseException") = some true) (hdD0 : PySem.W.hasDictIn K D0 = true) (tyD0 : PySem.W.typeIn K (.ref D0) = some (.type "type")) (sbD0 : PySem.W.subIn K (.ref C) (.ref D0) = some false)
    (suD1 : PySem.W.subIn K (.ref D1) (.type "BaseException") = some true) (hdD1 : PySem.W.hasDictIn K D1 = true) (tyD1 : PySem.W.typeIn K (.ref D1) = some (.type "type")) (sbD1 : PySem.W.subIn K (.ref C) (.ref D1) = some false)
    (suD2 : PySem.W.subIn K (.ref D2) (.type "BaseException") = some true) (hdD2 : PySem.W.hasDictIn K D2 = true) (tyD2 : PySem.W.typeIn K (.ref D2) = some (.type "type")) (sbD2 : PySem.W.subIn K (.ref C) (.ref D2) = some false)
    (suC : PySem.W.subIn K (.ref C) (.type "BaseException") = some true) (hdC : PySem.W.hasDictIn K C = true) (tyC : PySem.W.typeIn K (.ref C) = some (.type "type")) (sbC : PySem.W.subIn K (.ref C) (.ref C) = some true)
    (suD4 : PySem.W.subIn K (.ref D4) (.type "BaseException") = some true) (hdD4 : PySem.W.hasDictIn K D4 = true) (tyD4 : PySem.W.typeIn K (.ref D4) = some (.type "type")) (sbD4 : PySem.W.subIn K (.ref C) (.ref D4) = some false)
    (suD5 : PySem.W.subIn K (.ref D5) (.type "BaseException") = some true) (hdD5 : PySem.W.hasDictIn K D5 = true) (tyD5 : PySem.W.typeIn K (.ref D5) = some (.type "type")) (sbD5 : PySem.W.subIn K (.ref C) (.ref D5) = some false)
    (suD6 : PySem.W.subIn K (.ref D6) (.type "BaseException") = some true) (hdD6 : PySem.W.hasDictIn K D6 = true) (tyD6 : PySem.W.typeIn K (.ref D6) = some (.type "type")) (sbD6 : PySem.W.subIn K (.ref C) (.ref D6) = some false)
    (suD7 : PySem.W.subIn K (.ref D7) (.type "BaseException") = some true) (hdD7 : PySem.W.hasDictIn K D7 = true) (tyD7 : PySem.W.typeIn K (.ref D7) = some (.type "type")) (sbD7 : PySem.W.subIn K (.ref C) (.ref D7) = some false)
    (g_vS : PySem.W.nsIn K mainGlobals "SIGNS" = some (some (.str "abcdefghijklmnopqrstuvwxyz0123456789@" t_vS)))
    (g_vM : PySem.W.nsIn K mainGlobals "MOST_SIGNS" = some (some (.int 8 t_vM)))
    (g_vT : PySem.W.nsIn K mainGlobals "MOST_STEPS" = some (some (.int 16 t_vT)))
    (g_vW : PySem.W.nsIn K mainGlobals "MANY_WORDS" = some (some (.int 3 t_vW)))
    (z_isinstance : PySem.W.nsIn K mainGlobals "isinstance" = some none)
    (z_int : PySem.W.nsIn K mainGlobals "int" = some none)
    (z_bool : PySem.W.nsIn K mainGlobals "bool" = some none)
    (z_str : PySem.W.nsIn K mainGlobals "str" = some none)
    (z_tuple : PySem.W.nsIn K mainGlobals "tuple" = some none)
    (z_len : PySem.W.nsIn K mainGlobals "len" = some none)
    (z_all : PySem.W.nsIn K mainGlobals "all" = some none)
    (z_sorted : PySem.W.nsIn K mainGlobals "sorted" = some none)
    (z_enumerate : PySem.W.nsIn K mainGlobals "enumerate" = some none)
    (z_list : PySem.W.nsIn K mainGlobals "list" = some none)
    (z_range : PySem.W.nsIn K mainGlobals "range" = some none)
    (z_min : PySem.W.nsIn K mainGlobals "min" = some none)
    (z_repr : PySem.W.nsIn K mainGlobals "repr" = some none)
    (z_ValueError : PySem.W.nsIn K mainGlobals "ValueError" = some none)
    (v_V : PySem.W.findCls K (.type "ValueError") (.type "type") "__init__" = some (.val (.builtin "ValueError.__init__"))) :
    ∃ (fd : FuncData) (c T : Addr), PySem.W.codeHdIn K c T = true ∧ T ∈ ts ∧ K.lookup T = none ∧ (∀ (s : Shared) (u : Value), BindsTo s fd ⟨[u], []⟩ [("script", u)]) ∧
      ∀ base : Heap, K.In base → base.Ns mainGlobals mg → TabB base mg c T → FnG P w K mg base CX0 9 fa fd ["script"] (spLawT K T) := by
  have e := hfa.symm.trans (PySem.W.mg_of X G a_la)
  cases e
  have F_iP := fun_mk (st := sPc) l_iP c_iP k_iP
  have b_iP := F_iP.binds (ps := ["thing"]) fun _ _ _ _ _ _ us hl => match us, hl with | [_], _ => rfl
  have m_iP := PySem.W.mg_of X G a_iP
  have F_iL := fun_mk (st := sListed) l_iL c_iL k_iL
  have b_iL := F_iL.binds (ps := ["framing"]) fun _ _ _ _ _ _ us hl => match us, hl with | [_], _ => rfl
  have m_iL := PySem.W.mg_of X G a_iL
  have F_iW := fun_mk (st := sWays) l_iW c_iW k_iW
  have b_iW := F_iW.binds (ps := ["framing", "begin"]) fun _ _ _ _ _ _ us hl => match us, hl with | [_, _], _ => rfl
  have m_iW := PySem.W.mg_of X G a_iW
  have F_iJ := fun_mk (st := sJoined) l_iJ c_iJ k_iJ
  have b_iJ := F_iJ.binds (ps := ["framing"]) fun _ _ _ _ _ _ us hl => match us, hl with | [_], _ => rfl
  have m_iJ := PySem.W.mg_of X G a_iJ
  have F_tC := fun_mk (st := sCan) l_tC c_tC k_tC
  have b_tC := F_tC.binds (ps := ["words", "at"]) fun _ _ _ _ _ _ us hl => match us, hl with | [_, _], _ => rfl
  have m_tC := PySem.W.mg_of X G a_tC
  have F_tW := fun_mk (st := sWrongW) l_tW c_tW k_tW
  have b_tW := F_tW.binds (ps := ["words"]) fun _ _ _ _ _ _ us hl => match us, hl with | [_], _ => rfl
  have m_tW := PySem.W.mg_of X G a_tW
  have F_tT := fun_mk (st := sTold) l_tT c_tT k_tT
  have b_tT := F_tT.binds (ps := ["words"]) fun _ _ _ _ _ _ us hl => match us, hl with | [_], _ => rfl
  have m_tT := PySem.W.mg_of X G a_tT
  have F_tS := fun_mk (st := sRS) l_tS c_tS k_tS
  have b_tS := F_tS.binds (ps := ["text"]) fun _ _ _ _ _ _ us hl => match us, hl with | [_], _ => rfl
  have m_tS := PySem.W.mg_of X G a_tS
  have F_tR := fun_mk (st := sRF) l_tR c_tR k_tR
  have b_tR := F_tR.binds (ps := ["text"]) fun _ _ _ _ _ _ us hl => match us, hl with | [_], _ => rfl
  have m_tR := PySem.W.mg_of X G a_tR
  have F_lB := fun_mk (st := sBegun) l_lB c_lB k_lB
  have b_lB := F_lB.binds (ps := ["script"]) fun _ _ _ _ _ _ us hl => match us, hl with | [_], _ => rfl
  have m_lB := PySem.W.mg_of X G a_lB
  have F_lN := fun_mk (st := sNext) l_lN c_lN k_lN
  have b_lN := F_lN.binds (ps := ["m", "total"]) fun _ _ _ _ _ _ us hl => match us, hl with | [_, _], _ => rfl
  have m_lN := PySem.W.mg_of X G a_lN
  have F_lU := fun_mk (st := sFault) l_lU c_lU k_lU
  have b_lU := F_lU.binds (ps := ["e"]) fun _ _ _ _ _ _ us hl => match us, hl with | [_], _ => rfl
  have m_lU := PySem.W.mg_of X G a_lU
  have F_lO := fun_mk (st := sOutcome) l_lO c_lO k_lO
  have b_lO := F_lO.binds (ps := ["deed"]) fun _ _ _ _ _ _ us hl => match us, hl with | [_], _ => rfl
  have m_lO := PySem.W.mg_of X G a_lO
  have F_lP := fun_mk (st := sPiece) l_lP c_lP k_lP
  have b_lP := F_lP.binds (ps := ["m", "last"]) fun _ _ _ _ _ _ us hl => match us, hl with | [_, _], _ => rfl
  have m_lP := PySem.W.mg_of X G a_lP
  have F_lF := fun_mk (st := sFraming) l_lF c_lF k_lF
  have b_lF := F_lF.binds (ps := ["m", "most"]) fun _ _ _ _ _ _ us hl => match us, hl with | [_, _], _ => rfl
  have m_lF := PySem.W.mg_of X G a_lF
  have F_lT := fun_mk (st := sLT) l_lT c_lT k_lT
  have b_lT := F_lT.binds (ps := ["framing"]) fun _ _ _ _ _ _ us hl => match us, hl with | [_], _ => rfl
  have m_lT := PySem.W.mg_of X G a_lT
  have F_lI := fun_mk (st := sLP) l_lI c_lI k_lI
  have b_lI := F_lI.binds (ps := ["word"]) fun _ _ _ _ _ _ us hl => match us, hl with | [_], _ => rfl
  have m_lI := PySem.W.mg_of X G a_lI
  have F_lW := fun_mk (st := sLW) l_lW c_lW k_lW
  have b_lW := F_lW.binds (ps := ["words"]) fun _ _ _ _ _ _ us hl => match us, hl with | [_], _ => rfl
  have m_lW := PySem.W.mg_of X G a_lW
  have F_lJ := fun_mk (st := sJL) l_lJ c_lJ k_lJ
  have b_lJ := F_lJ.binds (ps := ["steps"]) fun _ _ _ _ _ _ us hl => match us, hl with | [_], _ => rfl
  have m_lJ := PySem.W.mg_of X G a_lJ
  have F_lD := fun_mk (st := sDT) l_lD c_lD k_lD
  have b_lD := F_lD.binds (ps := ["text"]) fun _ _ _ _ _ _ us hl => match us, hl with | [_], _ => rfl
  have m_lD := PySem.W.mg_of X G a_lD
  have F_lX := fun_mk (st := sBent) l_lX c_lX k_lX
  have b_lX := F_lX.binds (ps := ["m", "text"]) fun _ _ _ _ _ _ us hl => match us, hl with | [_, _], _ => rfl
  have m_lX := PySem.W.mg_of X G a_lX
  have F_ini := fun_mk (st := sBadText) l_ini c_ini k_ini
  have b_ini := F_ini.binds (ps := ["self", "line", "word"]) fun _ _ _ _ _ _ us hl => match us, hl with | [_, _, _], _ => rfl
  have y_isinstance := PySem.W.mg_none_of X G z_isinstance
  have y_int := PySem.W.mg_none_of X G z_int
  have y_bool := PySem.W.mg_none_of X G z_bool
  have y_str := PySem.W.mg_none_of X G z_str
  have y_tuple := PySem.W.mg_none_of X G z_tuple
  have y_len := PySem.W.mg_none_of X G z_len
  have y_all := PySem.W.mg_none_of X G z_all
  have y_sorted := PySem.W.mg_none_of X G z_sorted
  have y_enumerate := PySem.W.mg_none_of X G z_enumerate
  have y_list := PySem.W.mg_none_of X G z_list
  have y_range := PySem.W.mg_none_of X G z_range
  have y_min := PySem.W.mg_none_of X G z_min
  have y_repr := PySem.W.mg_none_of X G z_repr
  have y_ValueError := PySem.W.mg_none_of X G z_ValueError
  have x_vS := PySem.W.mg_of X G g_vS
  have x_vM := PySem.W.mg_of X G g_vM
  have x_vT := PySem.W.mg_of X G g_vT
  have x_vW := PySem.W.mg_of X G g_vW
  have TF : TxtF mg := ⟨y_isinstance, y_int, y_bool, y_str, y_tuple, y_len, y_all, ⟨_, x_vS⟩, ⟨_, x_vM⟩⟩
  have TD : TxtD mg := ⟨y_list, y_int, y_len⟩
  have IV : BI K mg "ValueError" "ValueError" "ValueError.__init__" := ⟨y_ValueError, by decide +kernel, by kernel_rfl, v_V, by decide +kernel⟩
  let zB : Btx K mg := { C := C, f := f_ini, d := _, T := OX, I := IV, F := F_ini, b := b_ini, m := PySem.W.mg_of X G aC, iC := iC_OX, tI := tI_OX, n0 := n0, n1 := n1, su := suC, ty := tyC, own := sbC }
  let zF : Fs K mg := { fP := f_iP, dP := _, P := F_iP, bP := b_iP, mP := m_iP, fL := f_iL, dL := _, L := F_iL, bL := b_iL, mL := m_iL, fW := f_iW, dW := _, W := F_iW, bW := b_iW, mW := m_iW, fJ := f_iJ, dJ := _, J := F_iJ, bJ := b_iJ, mJ := m_iJ, T := TF, so := y_sorted, en := y_enumerate, ms := ⟨_, x_vT⟩ }
  have sq : ∀ H, SqT K H gsw words6 := fun H => .inr ⟨_, _, _, l_sw, rfl, rfl, (by show 6 ≤ sizeLine; decide), .cons ⟨_, rfl⟩ (.cons ⟨_, rfl⟩ (.cons ⟨_, rfl⟩ (.cons ⟨_, rfl⟩ (.cons ⟨_, rfl⟩ (.cons ⟨_, rfl⟩ .nil)))))⟩
  let zw : Tw K mg := { Z := zF, fC := f_tC, fW := f_tW, fT := f_tT, dC := _, dW := _, dT := _, C := F_tC, W := F_tW, T := F_tT, bC := b_tC, bW := b_tW, bT := b_tT, mC := m_tC, mW := m_tW, mT := m_tT, g := gsw, mg_ := PySem.W.mg_of X G a_sw, sq := sq, many := ⟨_, x_vW⟩, ra := y_range }
  let zr : Tr K mg := { W := zw, B := zB, f1 := f_tS, d1 := _, S := F_tS, b1 := b_tS, m1 := m_tS, tu := y_tuple }
  let zq : Tq K mg := { R := zr, f2 := f_tR, d2 := _, F := F_tR, b2 := b_tR, m2 := m_tR }
  let zf : Tf K mg := { f2 := f_lT, d2 := _, L := F_lT, b2 := b_lT, m2 := m_lT, str := y_str }
  let zL : Ls K mg := { f1 := f_lN, d1 := _, N := F_lN, bN := b_lN, mN := m_lN, T := TD, ra := y_range, f2 := f_lP, d2 := _, P := F_lP, bP := b_lP, mP := m_lP }
  let zG : Lf K mg := { L := zL, f := f_lF, d := _, F := F_lF, b := b_lF, g := m_lF, so := y_sorted, tu := y_tuple, en := y_enumerate }
  let zJ : Jl K mg := { f := f_lJ, d := _, F := F_lJ, b := b_lJ, m := m_lJ, ra := y_range }
  let zP : Lp K mg := { T := TF, f1 := f_lI, f2 := f_lW, d1 := _, d2 := _, P := F_lI, L := F_lW, b1 := b_lI, b2 := b_lW, m1 := m_lI, m2 := m_lW }
  let zD : Dt K mg := { J := zJ, L := zP, f := f_lD, d := _, F := F_lD, b := b_lD, m := m_lD, en := y_enumerate, tu := y_tuple }
  let zX0 : Bt K mg := { f := f_lX, d := _, F := F_lX, b := b_lX, m := m_lX }
  let zX : Fx K mg := { O := zB, D0 := D0, D1 := D1, D2 := D2, D4 := D4, D5 := D5, D6 := D6, D7 := D7, c0 := ⟨PySem.W.mg_of X G aD0, suD0, hdD0, tyD0, sbD0⟩, c1 := ⟨PySem.W.mg_of X G aD1, suD1, hdD1, tyD1, sbD1⟩, c2 := ⟨PySem.W.mg_of X G aD2, suD2, hdD2, tyD2, sbD2⟩, c3 := ⟨PySem.W.mg_of X G aC, suC, hdC, tyC, sbC⟩, c4 := ⟨PySem.W.mg_of X G aD4, suD4, hdD4, tyD4, sbD4⟩, c5 := ⟨PySem.W.mg_of X G aD5, suD5, hdD5, tyD5, sbD5⟩, c6 := ⟨PySem.W.mg_of X G aD6, suD6, hdD6, tyD6, sbD6⟩, c7 := ⟨PySem.W.mg_of X G aD7, suD7, hdD7, tyD7, sbD7⟩, isi := y_isinstance, len := y_len }
  let zU : Ou K mg := { F := zX, f := f_lU, d := _, L := F_lU, b := b_lU, g := m_lU }
  let zA : Lall K mg := { R := zq, U := zU, eO := rfl, W := zf, G := zG, D := zD, Bn := zX0, fB := f_lB, dB := _, Be := F_lB, bB := b_lB, mB := m_lB, fO := f_lO, dO := _, O := F_lO, bO := b_lO, mO := m_lO, mi := y_min, re := y_repr }
  exact ⟨PySem.W.fnOf "law" "law" (defArgs sLaw) (defBody sLaw) (defScope sLaw) .none kV_la dc_la pm_la an_la (.ref ccl) ct_la, ccl, Tla, tb, mT, nT, fun s u => .of_eq rfl, fun base _ _ TB => ok_law zA TB l_la c_la⟩
theorem walk {l : PySem.W.OpenLaw} {q : Program} {loose : List Str} {XP : (Str → Option Value) → Heap → Prop} {YP : World → Heap → Prop} {d : DefRec} {K : Params → PySem.W.Frag} {ts : List Addr} (hn : l.most = some 63) (hdf : d.params.defaults = [])
    (hY : ∀ (w : World) (h : Heap), YP w h → (K w.params).In h ∧ ∀ P ∈ ts, h.get? P = some (PySem.W.tabObj #[]))
    (F : ∀ (w : World) (mg : Str → Option Value) (fa : Addr) (h : Heap), (K w.params).In h → h.Ns mainGlobals mg → mg d.name = some (.ref fa) →
      ∃ (fd : FuncData) (c T : Addr), PySem.W.codeHdIn (K w.params) c T = true ∧ T ∈ ts ∧ (K w.params).lookup T = none ∧ (∀ (s : Shared) (u : Value), BindsTo s fd ⟨[u], []⟩ [("script", u)]) ∧
        ∀ base : Heap, (K w.params).In base → base.Ns mainGlobals mg → TabB base mg c T → FnG l.prog w (K w.params) mg base CX0 9 fa fd ["script"] (spLawT (K w.params) T)) :
    PySem.W.WalkO q loose XP YP l.row.toRowW d [] (fun f vs => PySem.call f vs) :=
  walk_T (n := 63) (k := 9) (x := "script") (sp := spLawT) hn (by decide) hdf ⟨rfl, by decide, by decide⟩ hY F (fun _ _ a _ ns hl hT hS => ⟨a, ns, rfl, hS, hl, hT, fun _ => rfl⟩)
end K45

set_option Elab.async false
set_option maxRecDepth 100000
open PySem PySem.W PyProof.Rows
set_option maxRecDepth 100000 in
set_option maxHeartbeats 0 in
theorem PySem.Challenge.cw_tornlines_k45_whole_any_text_holds : PySem.Challenge.rw_tornlines_k45_whole_any_text.Holds := by
  w_on; o_law; k_head; (case hw => w_witness2)
  k_fill
  refine K45.walk (l := PySem.Challenge.rw_tornlines_k45_whole_any_text) rfl rfl (fun w h Y => ⟨PySem.W.km_in_of Y, PySem.W.km_tabs_of Y⟩) ?F
  case F =>
    intro w mg fa h KX G hmg
    refine' K45.all_mk KX G hmg ?a_iP ?l_iP ?c_iP ?k_iP ?a_iL ?l_iL ?c_iL ?k_iL ?a_iW ?l_iW ?c_iW ?k_iW ?a_iJ ?l_iJ ?c_iJ ?k_iJ ?a_tC ?l_tC ?c_tC ?k_tC ?a_tW ?l_tW ?c_tW ?k_tW ?a_tT ?l_tT ?c_tT ?k_tT ?a_tS ?l_tS ?c_tS ?k_tS ?a_tR ?l_tR ?c_tR ?k_tR ?a_lB ?l_lB ?c_lB ?k_lB ?a_lN ?l_lN ?c_lN ?k_lN ?a_lU ?l_lU ?c_lU ?k_lU ?a_lO ?l_lO ?c_lO ?k_lO ?a_lP ?l_lP ?c_lP ?k_lP ?a_lF ?l_lF ?c_lF ?k_lF ?a_lT ?l_lT ?c_lT ?k_lT ?a_lI ?l_lI ?c_lI ?k_lI ?a_lW ?l_lW ?c_lW ?k_lW ?a_lJ ?l_lJ ?c_lJ ?k_lJ ?a_lD ?l_lD ?c_lD ?k_lD ?a_lX ?l_lX ?c_lX ?k_lX ?a_la ?l_la ?c_la ?k_la ?mT ?tb ?nT ?aD0 ?aD1 ?aD2 ?aC ?aD4 ?aD5 ?aD6 ?aD7 ?OX ?iC_OX ?tI_OX ?l_ini ?c_ini ?k_ini ?n0 ?n1 ?a_sw ?l_sw ?suD0 ?hdD0 ?tyD0 ?sbD0 ?suD1 ?hdD1 ?tyD1 ?sbD1 ?suD2 ?hdD2 ?tyD2 ?sbD2 ?suC ?hdC ?tyC ?sbC ?suD4 ?hdD4 ?tyD4 ?sbD4 ?suD5 ?hdD5 ?tyD5 ?sbD5 ?suD6 ?hdD6 ?tyD6 ?sbD6 ?suD7 ?hdD7 ?tyD7 ?sbD7 ?g_vS ?g_vM ?g_vT ?g_vW ?z_isinstance ?z_int ?z_bool ?z_str ?z_tuple ?z_len ?z_all ?z_sorted ?z_enumerate ?z_list ?z_range ?z_min ?z_repr ?z_ValueError ?v_V
    (case a_iP => k_is)
    (case l_iP => k_is)
    (case c_iP => k_is)
    (case k_iP => k_is)
    (case a_iL => k_is)
    (case l_iL => k_is)
    (case c_iL => k_is)
    (case k_iL => k_is)
    (case a_iW => k_is)
    (case l_iW => k_is)
    (case c_iW => k_is)
    (case k_iW => k_is)
    (case a_iJ => k_is)
    (case l_iJ => k_is)
    (case c_iJ => k_is)
    (case k_iJ => k_is)
    (case a_tC => k_is)
    (case l_tC => k_is)
    (case c_tC => k_is)
    (case k_tC => k_is)
    (case a_tW => k_is)
    (case l_tW => k_is)
    (case c_tW => k_is)
    (case k_tW => k_is)
    (case a_tT => k_is)
    (case l_tT => k_is)
    (case c_tT => k_is)
    (case k_tT => k_is)
    (case a_tS => k_is)
    (case l_tS => k_is)
    (case c_tS => k_is)
    (case k_tS => k_is)
    (case a_tR => k_is)
    (case l_tR => k_is)
    (case c_tR => k_is)
    (case k_tR => k_is)
    (case a_lB => k_is)
    (case l_lB => k_is)
    (case c_lB => k_is)
    (case k_lB => k_is)
    (case a_lN => k_is)
    (case l_lN => k_is)
    (case c_lN => k_is)
    (case k_lN => k_is)
    (case a_lU => k_is)
    (case l_lU => k_is)
    (case c_lU => k_is)
    (case k_lU => k_is)
    (case a_lO => k_is)
    (case l_lO => k_is)
    (case c_lO => k_is)
    (case k_lO => k_is)
    (case a_lP => k_is)
    (case l_lP => k_is)
    (case c_lP => k_is)
    (case k_lP => k_is)
    (case a_lF => k_is)
    (case l_lF => k_is)
    (case c_lF => k_is)
    (case k_lF => k_is)
    (case a_lT => k_is)
    (case l_lT => k_is)
    (case c_lT => k_is)
    (case k_lT => k_is)
    (case a_lI => k_is)
    (case l_lI => k_is)
    (case c_lI => k_is)
    (case k_lI => k_is)
    (case a_lW => k_is)
    (case l_lW => k_is)
    (case c_lW => k_is)
    (case k_lW => k_is)
    (case a_lJ => k_is)
    (case l_lJ => k_is)
    (case c_lJ => k_is)
    (case k_lJ => k_is)
    (case a_lD => k_is)
    (case l_lD => k_is)
    (case c_lD => k_is)
    (case k_lD => k_is)
    (case a_lX => k_is)
    (case l_lX => k_is)
    (case c_lX => k_is)
    (case k_lX => k_is)
    (case a_la => k_is)
    (case l_la => k_is)
    (case c_la => k_is)
    (case k_la => k_is)
    (case mT => exact List.mem_cons_self)
    (case tb => first | kernel_rfl | k_is)
    (case nT => first | kernel_rfl | k_is)
    (case aD0 => k_is)
    (case aD1 => k_is)
    (case aD2 => k_is)
    (case aC => k_is)
    (case aD4 => k_is)
    (case aD5 => k_is)
    (case aD6 => k_is)
    (case aD7 => k_is)
    case OX =>
      refine' K45.oxc ?cl PySem.F.excBase_ValueError (fun self => PySem.F.store_ValueError.passes self) (by decide +kernel) ?sa ?ga ?gg ?exC ?kC ?hd ?ca ?cn ?ct ?om
      (case cl => k_is)
      (case sa => k_is)
      (case ga => k_is)
      (case gg => k_is)
      (case exC => k_is)
      (case kC => k_is)
      (case hd => k_is)
      (case ca => k_is)
      (case cn => k_is)
      (case ct => k_is)
      (case om => k_is)
    (case iC_OX => k_is)
    (case tI_OX => k_is)
    (case l_ini => k_is)
    (case c_ini => k_is)
    (case k_ini => k_is)
    (case n0 => k_is)
    (case n1 => k_is)
    (case a_sw => k_is)
    (case l_sw => k_is)
    (case suD0 => k_is)
    (case hdD0 => k_is)
    (case tyD0 => k_is)
    (case sbD0 => k_is)
    (case suD1 => k_is)
    (case hdD1 => k_is)
    (case tyD1 => k_is)
    (case sbD1 => k_is)
    (case suD2 => k_is)
    (case hdD2 => k_is)
    (case tyD2 => k_is)
    (case sbD2 => k_is)
    (case suC => k_is)
    (case hdC => k_is)
    (case tyC => k_is)
    (case sbC => k_is)
    (case suD4 => k_is)
    (case hdD4 => k_is)
    (case tyD4 => k_is)
    (case sbD4 => k_is)
    (case suD5 => k_is)
    (case hdD5 => k_is)
    (case tyD5 => k_is)
    (case sbD5 => k_is)
    (case suD6 => k_is)
    (case hdD6 => k_is)
    (case tyD6 => k_is)
    (case sbD6 => k_is)
    (case suD7 => k_is)
    (case hdD7 => k_is)
    (case tyD7 => k_is)
    (case sbD7 => k_is)
    (case g_vS => k_is)
    (case g_vM => k_is)
    (case g_vT => k_is)
    (case g_vW => k_is)
    (case z_isinstance => k_is)
    (case z_int => k_is)
    (case z_bool => k_is)
    (case z_str => k_is)
    (case z_tuple => k_is)
    (case z_len => k_is)
    (case z_all => k_is)
    (case z_sorted => k_is)
    (case z_enumerate => k_is)
    (case z_list => k_is)
    (case z_range => k_is)
    (case z_min => k_is)
    (case z_repr => k_is)
    (case z_ValueError => k_is)
    (case v_V => k_is)
#print axioms PySem.Challenge.cw_tornlines_k45_whole_any_text_holds
