import PyProof.Rows.All
import Wide.All
import OpenK.AllK
import Wide.FinOn
import KE.KExcInit
import KE.KExcIs
import HandS.ForMost
import HandS.Exc
import HandS.ExcInit
import HandS.Defaults
import HandS.IsInst
import HandS.Conv
import HandS.Small
import HandS.SortRule
import HandS.TupLe
import HandS.NamedTupSort
import PyProof.Rows.SortKeyStr
import PyProof.FString5
import HandS.StrMore
import HandS.Walk
import PyProof.Rows.StrLen
import PyProof.StrLawsAffix
import HandS.Set
import HandS.Strs
import HandS.SetBool
import KE.GoesMore
import HandS.TupAny
import HandS.TryMany
import HandS.ExcValue
import HandS.ExcOwn
import HandS.WordsExc
import HandS.DeepEq
import PyProof.ReprRoads
import HandS.NoneIn
import KE.KDictPairs
import HandS.Dict
import HandS.SetKeys
import HandS.TryOnly
import HandS.ExcIs
import HandS.Text
import HandS.TupSets
import HandS.SetFor
import HandS.SetTxt0
import HandS.More
import HandS.Keys
import PySem.Challenge.RW_tornlines_k07_whole_texts_taken
set_option Elab.async false
set_option linter.all false
set_option maxRecDepth 100000
set_option maxHeartbeats 4000000
/-! Own exception classes over any built-in base: made with positional or keyword arguments, kept as values, their fields read, asked by isinstance. -/
namespace EV
open PySem PySem.W PySem.Calls PyProof.Rows PySem.HandSPX
open Builtin Builtin.ObjectAttr
section
variable {prog : Program} {w : World} {A : Around} {E : Value → Shared → Prop} {R : Result → Shared → Prop}
variable {hp : Heap} {g : Array GenState} {d : Drawn} {t : Nat} {os : OsState}
/-- an exception's first field, whatever its base -/
theorem put_first {K : W.Frag} {nm : Str} {tk : Tok} {v : Value} {x C : Addr} {fv : Array Value} {cd : ClassData}
    (X : K.In hp) (hx : hp.get? x = some { cls := .ref C, data := .fields fv }) (hcd : W.clsIn K C = some cd)
    (pas : refuseLoop (.ref x) "__setattr__" cd.mro = pure ()) (hob : cd.mro.contains (.type "object") = true) (hne : cd.mro.isEmpty = false)
    (hh : cd.hasDict = true) (ha : W.findIn K (.ref C) nm = some none)
    (hq : ∀ h' tk' dx, (∀ b o, b ≠ x → hp.get? b = some o → h'.get? b = some o) → hp.objs.size ≤ dx → dx ≠ x →
      h'.get? x = some { cls := .ref C, dict := some dx, data := .fields fv } → h'.Ns1 dx (fun y => if y = nm then some v else none) →
      R (.ok (.ret .none)) ⟨h', g, d, tk', os⟩) :
    codeAny (model prog w) A (.call (.builtin "object.__setattr__") ⟨[.ref x, .str nm tk, v], []⟩) R ⟨hp, g, d, t, os⟩ := by
  have J : W.InstAt hp x { cls := .ref C, data := .fields fv } C none := ⟨hx, rfl, rfl, trivial⟩
  have hxs : x ≠ hp.objs.size := Nat.ne_of_lt (Heap.lt_size hx)
  have isO : W.Looks (model prog w) hp (isInstance (.ref x) (.type "object")) true :=
    J.type.andThen (W.looks_mroIn X (by unfold W.mroIn; rw [hcd, Option.bind_some, if_neg (by rw [hne]; decide), hob]))
  refine codeAny_call_builtin F.store_object.slot.plain F.store_object.entry
    (@W.check_slot (model prog w) _ _ ⟨hp, g, d, t, os⟩ "object.__setattr__" "object" "__setattr__" (.ref x) [.str nm tk, v] [] _
      F.store_object.kind F.store_object.split isO (F.store_object.args (.ref x) (.str nm tk) v) ?_)
  have order : W.Looks (model prog w) hp (mroOf (.ref C)) cd.mro := (W.looks_clsIn X hcd).andThen .now
  have taker : W.Looks (model prog w) hp (storeTaker? none) none := .now
  have data : W.Looks (model prog w) hp (classData C) cd := W.looks_clsIn X hcd
  rw [W.osa_eq, refuse_eq]
  refine wpAny_bind (wpAny_bind (J.type.at (wpAny_bind (order.at ?_))))
  rw [pas]
  refine wpAny_pure (wpAny_bind (J.type.at (wpAny_bind ((W.looks_findIn X ha).at (wpAny_bind (taker.at ?_))))))
  show wpAny _ _ (storeInOwnDict (.ref x) (.ref C) (.str nm tk) nm v false) _ _ _
  obtain ⟨q1, q2, q3, q4, q5, q6, q7, q8, q9, q10, q11⟩ := cd
  dsimp only at hh
  subst hh
  unfold storeInOwnDict ownDictForStores
  repeat (first
    | with_reducible refine store_in_new ?_ ?_
    | with_reducible refine wpAny_loadPart_at hx ?_
    | with_reducible refine data.at ?_
    | wp_step)
  · exact ⟨_, #[], _, (Heap.get?_update_ne _ _ _ _ hxs.symm).trans (Heap.get?_push_at rfl rfl), rfl, fun e he => absurd he (by simp), fun _ => rfl⟩
  · intro h' tk' nsd same
    have hx1 : (hp.push { cls := .type "dict", data := .dict #[] }).get? x = some { cls := .ref C, data := .fields fv } := Heap.get?_push_of_some _ hx
    refine hq h' tk' hp.objs.size (fun b o nb q => ?_) (Nat.le_refl _) hxs.symm ?_ nsd
    · exact (same.2 b (Nat.ne_of_lt (Heap.lt_size q))).trans
        ((Heap.get?_update_ne _ _ _ _ nb).trans (Heap.get?_push_of_some _ q))
    · exact (same.2 x hxs).trans (Heap.get?_update_self _ hx1 rfl)
/-- a further field -/
theorem put_more {K : W.Frag} {nm : Str} {tk : Tok} {v : Value} {x C dx : Addr} {fv : Array Value} {cd : ClassData} {m0 : Str → Option Value} {nl : List Str}
    (X : K.In hp) (hx : hp.get? x = some { cls := .ref C, dict := some dx, data := .fields fv }) (nsd : hp.Ns1 dx m0) (wi : Within m0 nl) (hz : nl.length ≤ 1000)
    (hcd : W.clsIn K C = some cd) (pas : refuseLoop (.ref x) "__setattr__" cd.mro = pure ()) (hob : cd.mro.contains (.type "object") = true)
    (hne : cd.mro.isEmpty = false) (hh : cd.hasDict = true) (ha : W.findIn K (.ref C) nm = some none)
    (hq : ∀ h' tk', (∀ b o, b ≠ dx → hp.get? b = some o → h'.get? b = some o) → h'.Ns1 dx (fun y => if y = nm then some v else m0 y) →
      R (.ok (.ret .none)) ⟨h', g, d, tk', os⟩) :
    codeAny (model prog w) A (.call (.builtin "object.__setattr__") ⟨[.ref x, .str nm tk, v], []⟩) R ⟨hp, g, d, t, os⟩ := by
  obtain ⟨oD, _, _, hoD, _, _⟩ := nsd.count wi
  have J : W.InstAt hp x { cls := .ref C, dict := some dx, data := .fields fv } C (some oD) := ⟨hx, rfl, rfl, hoD⟩
  have isO : W.Looks (model prog w) hp (isInstance (.ref x) (.type "object")) true :=
    J.type.andThen (W.looks_mroIn X (by unfold W.mroIn; rw [hcd, Option.bind_some, if_neg (by rw [hne]; decide), hob]))
  refine codeAny_call_builtin F.store_object.slot.plain F.store_object.entry
    (@W.check_slot (model prog w) _ _ ⟨hp, g, d, t, os⟩ "object.__setattr__" "object" "__setattr__" (.ref x) [.str nm tk, v] [] _
      F.store_object.kind F.store_object.split isO (F.store_object.args (.ref x) (.str nm tk) v) ?_)
  have order : W.Looks (model prog w) hp (mroOf (.ref C)) cd.mro := (W.looks_clsIn X hcd).andThen .now
  have taker : W.Looks (model prog w) hp (storeTaker? none) none := .now
  have data : W.Looks (model prog w) hp (classData C) cd := W.looks_clsIn X hcd
  rw [W.osa_eq, refuse_eq]
  refine wpAny_bind (wpAny_bind (J.type.at (wpAny_bind (order.at ?_))))
  rw [pas]
  refine wpAny_pure (wpAny_bind (J.type.at (wpAny_bind ((W.looks_findIn X ha).at (wpAny_bind (taker.at ?_))))))
  show wpAny _ _ (storeInOwnDict (.ref x) (.ref C) (.str nm tk) nm v false) _ _ _
  obtain ⟨q1, q2, q3, q4, q5, q6, q7, q8, q9, q10, q11⟩ := cd
  dsimp only at hh
  subst hh
  unfold storeInOwnDict ownDictForStores
  repeat (first
    | with_reducible refine OEX.store_in_old nsd wi hz ?_
    | with_reducible refine wpAny_loadPart_at hx ?_
    | with_reducible refine data.at ?_
    | wp_step)
  intro h' tk' ns' same
  exact hq h' tk' (fun b o nb q => (same.2 b nb).trans q) ns'
end
/-! ### an own exception class called with keywords -/
section
variable {M : Model} {A : Around} {E : Value → Shared → Prop} {h : Heap} {g : Array GenState} {d : Drawn} {t : Nat} {os : OsState}
variable {nm q : Str} {C N : Addr} {bs bm : List Value} {hd : Bool} {sn : List Str} {sub : List Value} {ab : Bool} {col : Option Bool} {dd : Option Addr}
variable {k0 k1 k2 k3 k5 : Option Value} {B newId initId : String}
theorem check_newK (F : ExcBaseFacts B newId initId bm) {rest : List Value} {kw : List (Str × Value)} {Q : Unit → Shared → Prop}
    (hC : h.get? C = some (excClassObj nm q C N bs bm hd sn sub ab col dd k0 k1 k2 k3 k5 newId)) (hq : Q () ⟨h, g, d, t, os⟩) :
    wpAny M A (checkBuiltinCall newId ⟨.ref C :: rest, kw⟩) Q E ⟨h, g, d, t, os⟩ := by
  have hasIt : (Value.ref C :: bm).contains (.type B) = true := by rw [List.contains_cons, F.hasB, Bool.or_true]
  have star := F.noStar
  simp only [checkBuiltinCall, F.newKind, F.newSplit, F.newRow]
  repeat (first
    | refine wpAny_loadPart_at hC ?_
    | (refine wpAny_isSubtype_exc hC ?_; rw [hasIt])
    | refine wpAny_staticBase_exc hC ?_
    | refine wpAny_madeBy_exc hC ?_
    | simp only [bne_self_eq_false, Bool.false_eq_true, if_false]
    | wp_step)
  exact hq
end
section
variable {prog : Program} {w : World} {A : Around} {E : Value → Shared → Prop} {R : Result → Shared → Prop}
variable {h : Heap} {g : Array GenState} {d : Drawn} {t : Nat} {os : OsState}
variable {nm q : Str} {C N : Addr} {bs bm : List Value} {hd : Bool} {sn : List Str} {sub : List Value} {ab : Bool} {col : Option Bool} {dd : Option Addr}
variable {k0 k1 k2 k3 k5 : Option Value} {B newId initId : String}
theorem newK (F : ExcBaseFacts B newId initId bm) {rest : List Value} {kw : List (Str × Value)}
    (hC : h.get? C = some (excClassObj nm q C N bs bm hd sn sub ab col dd k0 k1 k2 k3 k5 newId))
    (hq : R (.ok (.ret (.ref (h.objs.size + 1)))) ⟨(h.push (W.kdv_tup rest)).push (excO C h.objs.size), g, d, t, os⟩) (hrest : rest.length ≤ sizeLine) :
    codeAny (model prog w) A (.builtin newId ⟨.ref C :: rest, kw⟩) R ⟨h, g, d, t, os⟩ := by
  have ends := F.ends
  have b1 : (Value.ref C :: bm).contains (.type B) = true := by rw [List.contains_cons, F.hasB, Bool.or_true]
  have b2 : (Value.ref C :: bm).contains (.type "AttributeError") = false := by rw [List.contains_cons, F.noAttr]; rfl
  have b3 : (Value.ref C :: bm).contains (.type "NameError") = false := by rw [List.contains_cons, F.noName]; rfl
  refine codeAny_builtinAt F.entry ?_
  unfold Builtin.«BaseException.__new__»
  refine PySem.wpAt_bind ?_
  show PySem.wpAt _ _ _ (stack >>= _) _ _ _
  refine PySem.wpAt_bind (PySem.wpAt_stack fun p below => PySem.wpAt_of_wpAny ?_)
  wp_walk
  refine PySem.wpAt_of_wpAny ?_
  rw [F.owner]
  repeat (first
    | with_reducible refine wpAny_madeHere_exc F.canon hC ?_
    | with_reducible refine wpAny_loadPart_at hC ?_
    | (with_reducible refine wpAny_isSubtype_exc hC ?_; first | rw [b1] | rw [b2] | rw [b3])
    | wp_step)
  show R _ _
  rw [Heap.size_push]
  exact hq
theorem typeCallK (F : ExcBaseFacts B newId initId bm) {rest : List Value} {kw : List (Str × Value)} {fI : Addr} {Q : Fin → Shared → Prop}
    (hC : h.get? C = some (excClassObj nm q C N bs bm hd sn sub ab col dd k0 k1 k2 k3 k5 newId))
    (hi : W.Looks (model prog w) h (typeLookup (.ref C) "__init__") (some (.ref fI)))
    (hb : ∀ self, W.Looks (model prog w) h (bindSpecial (.ref fI) self) (.ref fI, [self])) (hrest : rest.length ≤ sizeLine)
    (hq : codeAny (model prog w) A (.call (.ref fI) ⟨.ref (h.objs.size + 1) :: rest, kw⟩)
      (fun r s' => match r with | .ok (.ret v) => v = .none ∧ Q (.done (.ret (.ref (h.objs.size + 1)))) s' | .ok _ => False | .error e => E e s')
      ⟨(h.push (W.kdv_tup rest)).push (excO C h.objs.size), g, d, t, os⟩) :
    wpAny (model prog w) A (Builtin.«type.__call__» ⟨.ref C :: rest, kw⟩) Q E ⟨h, g, d, t, os⟩ := by
  repeat (first
    | with_reducible refine wpAny_loadPart_at hC ?_
    | with_reducible refine wpAny_madeBy_exc hC ?_
    | wp_step)
  refine codeAny_call_builtin_code (Code.quiet_builtin _ F.quiet) (check_newK F hC ?_)
  refine newK F hC ?_ hrest
  show wpAny _ _ _ _ _ _
  have kp : ∀ b o, h.get? b = some o → ((h.push (W.kdv_tup rest)).push (excO C h.objs.size)).get? b = some o :=
    fun b o e => Heap.get?_push_of_some _ (Heap.get?_push_of_some _ e)
  have hC1 := kp _ _ hC
  have new : ((h.push (W.kdv_tup rest)).push (excO C h.objs.size)).get? (h.objs.size + 1) = some (excO C h.objs.size) := by heap_get
  have self : (Value.ref C :: bm).contains (.ref C) = true := by simp
  have i1 := hi.keeps kp
  have b1 := (hb (.ref (h.objs.size + 1))).keeps kp
  unfold isInstance
  repeat (first
    | with_reducible refine wpAny_loadPart_at new ?_
    | (with_reducible refine wpAny_isSubtype_exc hC1 ?_; rw [self])
    | wp_step)
  show wpAny _ _ (typeLookup (.ref C) _) _ _ _
  refine i1.at ?_
  refine wpAny_holding (wpAny_bind (b1.at ?_))
  refine wpAny_bind (wpAny_call (codeAny_mono hq fun r s' z => ?_))
  rcases r with e | (v | _ | _ | _) <;> first | exact z | exact z.elim | skip
  obtain ⟨rfl, z⟩ := z
  first
    | exact wpAny_pure (wpAny_pure z)
    | (wp_walk; exact z)
theorem callK (F : ExcBaseFacts B newId initId bm) {rest : List Value} {kw : List (Str × Value)} {fI : Addr}
    (hC : h.get? C = some (excClassObj nm q C N bs bm hd sn sub ab col dd k0 k1 k2 k3 k5 newId))
    (hi : W.Looks (model prog w) h (typeLookup (.ref C) "__init__") (some (.ref fI)))
    (hb : ∀ self, W.Looks (model prog w) h (bindSpecial (.ref fI) self) (.ref fI, [self])) (hrest : rest.length ≤ sizeLine)
    (hq : codeAny (model prog w) (A.under (.builtin "type.__call__" ⟨.ref C :: rest, kw⟩)) (.call (.ref fI) ⟨.ref (h.objs.size + 1) :: rest, kw⟩)
      (W.InitBack (h.objs.size + 1) R) ⟨(h.push (W.kdv_tup rest)).push (excO C h.objs.size), g, d, t, os⟩) :
    codeAny (model prog w) A (.call (.ref C) ⟨rest, kw⟩) R ⟨h, g, d, t, os⟩ := by
  have f1 := tc_lookup
  have f2 := tc_bind (.ref C)
  have ty : (⟨h, g, d, t, os⟩ : Shared).TypeIs (.ref C) "type" := ⟨_, hC, rfl⟩
  refine codeAny_of_tree ?_
  show wpAny _ _ (callAny (.ref C) _) _ _ _
  repeat (any_goals (first
    | assumption
    | with_reducible refine wpAny_loadPart_at hC ?_
    | wp_step))
  refine ⟨rfl, ?_⟩
  refine codeAny_call_builtin_at (Code.quiet_builtin _ (by decide +kernel)) entry_typeCall ?_
  refine wpAny_check_type_call_sub hC ?_
  refine typeCallK F hC hi hb hrest (codeAny_mono hq fun r s' z => ?_)
  rcases r with e | (v | _ | _ | _) <;> exact z
end
end EV

set_option Elab.async false
set_option linter.all false
set_option maxRecDepth 100000
set_option maxHeartbeats 4000000
namespace L2
namespace EV
open PySem PySem.Spec PyProof.Rows _root_.EV
/-- what the written part says of an own exception class at C, straight under the built-in base B -/
structure OxC (K : PySem.W.Frag) (C : Addr) (B newId initId : String) (bm : List Value) : Prop where
  F : ExcBaseFacts B newId initId bm
  cls : ∃ nm q N bs sn sub ab col dd k0 k1 k2 k3 k5, K.lookup C = some (excClassObj nm q C N bs bm true sn sub ab col dd k0 k1 k2 k3 k5 newId)
  pas : ∀ self, refuseLoop self "__setattr__" bm = pure ()
  obj : bm.contains (.type "object") = true
  sa : PySem.W.findIn K (.ref C) "__setattr__" = some (some (.builtin "object.__setattr__"))
  ga : PySem.W.findIn K (.ref C) "__getattribute__" = some (some (.builtin "BaseException.__getattribute__"))
  gg : PySem.W.findIn K (.ref C) "__getattr__" = some none
  exC : PySem.W.subIn K (.ref C) (.type "BaseException") = some true
  kC : PySem.W.keepIn K (.ref C) = true
  hd : PySem.W.hasDictIn K C = true
  ca : PySem.W.findIn K (.ref C) "__class__" = some (some (.builtin "object.__class__"))
  cn : PySem.W.specialIn K (.builtin "object.__class__") "__get__" = some (some (.builtin "getset_descriptor.__get__"))
  ct : PySem.W.takesIn K (.builtin "object.__class__") = some true
  om : PySem.W.mroIn K C (.type "object") = some true
section
variable {X : Cx} {pins : List (Addr × Obj)} {σ : St} {H : Hp} {s : Shared} {a C dx : Addr} {f : Str} {y : V} {u : Value} {fs : List (Str × V)}
variable {Q : Unit → Shared → Prop} {E : Value → Shared → Prop} {A : Around} {B newId initId : String} {bm : List Value}
theorem OxC.data {K : PySem.W.Frag} (T : OxC K C B newId initId bm) : ∃ cd, PySem.W.clsIn K C = some cd ∧ cd.mro = .ref C :: bm ∧ cd.hasDict = true := by
  obtain ⟨nm, q, N, bs, sn, sub, ab, col, dd, k0, k1, k2, k3, k5, hC⟩ := T.cls
  refine ⟨{ name := nm, bases := bs, mro := .ref C :: bm, ns := N, qualname := q, hasDict := true, slotNames := sn, subclasses := sub, abstract := ab, collection := col, hasDel := false }, ?_, rfl, rfl⟩
  unfold PySem.W.clsIn
  rw [hC] <;> rfl
theorem OxC.look {K : PySem.W.Frag} (T : OxC K C B newId initId bm) {cd : ClassData} (e : cd.mro = .ref C :: bm) (self : Value) :
    refuseLoop self "__setattr__" cd.mro = pure () ∧ cd.mro.contains (.type "object") = true ∧ cd.mro.isEmpty = false := by
  rw [e, refuseLoop_ref]
  refine ⟨T.pas self, ?_, rfl⟩
  rw [List.contains_cons, T.obj, Bool.or_true]
/-- self.f = y, the first field -/
theorem ox_first (T : OxC X.K C B newId initId bm) (I : Inv X pins σ H s) (e : H a = some (exo a C none)) (no : PySem.W.findIn X.K (.ref C) f = some none) (ry : RelV y u)
    (h : ∀ dx s', H dx = none → dx ≠ a → Inv X pins σ (upd (upd H dx (exd dx [(f, y)])) a (exo a C (some dx))) s' → Q () s') :
    wpAny (model X.prog X.w) A (setAttr (.ref a) f u) Q E s := by
  obtain ⟨cd, hcl, hmr, hdi⟩ := T.data
  obtain ⟨l1, l2, l3⟩ := T.look hmr (.ref a)
  obtain ⟨t1, ho⟩ := exo_at I.hok e
  obtain ⟨hp, g, d, t, os⟩ := s
  refine PySem.W.set_plain I.kIn (ox := { cls := .ref C, dict := none, data := .fields #[.ref t1, .none, .none, .none, .bool false, .none] })
    (od := none) ⟨ho, rfl, rfl, trivial⟩ T.sa ?_
  refine put_first I.kIn ho hcl l1 l2 l3 hdi no fun h' tk' dx k big ne hx hn => ?_
  have free : H dx = none := I.hok.fresh big
  have old : ∀ {b : Addr} {o : Obj}, hp.get? b = some o → b ≠ dx := fun {b o} q => Nat.ne_of_lt (Nat.lt_of_lt_of_le (Heap.lt_size q) big)
  have nota : ∀ {b : Addr}, H b = none → b ≠ a := fun {b} n z => by
    subst z
    rw [e] at n
    cases n
  have un : Un X.fs [] H (upd (upd H dx (exd dx [(f, y)])) a (exo a C (some dx))) hp h' := by
    refine ⟨fun b o q n _ _ => k b o (nota n) q, fun b o q n _ _ => ⟨o.slots, k b o (nota n) q⟩, fun b o q n _ => ?_, fun b o q _ => ?_, fun b xs q => ?_, fun b o v q => ?_, fun b ps q => ⟨#[], ?_⟩⟩
    · rw [upd_ne (nota n), upd_ne (old q)]
      exact n
    · by_cases hb : b = a
      · subst hb
        exact ⟨_, hx⟩
      · exact ⟨o, k b o hb q⟩
    · rw [upd_ne (at_ne e q exo_tup), upd_ne (ne_of_none q free)]
      exact q
    · rw [upd_ne (at_ne e q exo_frz), upd_ne (ne_of_none q free)]
      exact q
    · rw [upd_ne (at_ne e q exo_tbl), upd_ne (ne_of_none q free), q]
      simp
  refine h dx _ free ne (I.un (t' := tk') un fun b o q => ?_)
  by_cases hb : b = a
  · subst hb
    rw [upd_same] at q
    cases q
    exact exo_ok hx
  · rw [upd_ne hb] at q
    by_cases hd : b = dx
    · subst hd
      rw [upd_same] at q
      cases q
      exact exd_ok hn (relO_put (fs := []) ry fun g => True.intro)
    · rw [upd_ne hd] at q
      refine (I.hok b o q).stay (fun c v hc z => k c v ?_ z) (fun c hc => ?_) fun c xs hc => ?_
      · rcases hc with hc | hc
        · subst hc
          exact hb
        · exact at_ne e hc exo_own
      · rw [upd_ne (at_ne e hc exo_own), upd_ne (ne_of_none hc free)]
        exact hc
      · rw [upd_ne (at_ne e hc exo_tup), upd_ne (ne_of_none hc free)]
        exact hc
/-- self.f = y, a further field -/
theorem ox_more (T : OxC X.K C B newId initId bm) (I : Inv X pins σ H s) (e : H a = some (exo a C (some dx))) (ed : H dx = some (exd dx fs)) (hl : fs.length ≤ 900)
    (no : PySem.W.findIn X.K (.ref C) f = some none) (ry : RelV y u) (h : ∀ s', Inv X pins σ (upd H dx (exd dx ((f, y) :: fs))) s' → Q () s') :
    wpAny (model X.prog X.w) A (setAttr (.ref a) f u) Q E s := by
  obtain ⟨cd, hcl, hmr, hdi⟩ := T.data
  obtain ⟨l1, l2, l3⟩ := T.look hmr (.ref a)
  obtain ⟨t1, ho⟩ := exo_at I.hok e
  obtain ⟨mA, hns, rel⟩ := exd_at I.hok ed
  have hw := within_of rel
  obtain ⟨hp, g, d, t, os⟩ := s
  obtain ⟨oD, _, _, hoD, _, _⟩ := hns.count hw
  refine PySem.W.set_plain I.kIn (ox := { cls := .ref C, dict := some dx, data := .fields #[.ref t1, .none, .none, .none, .bool false, .none] })
    (od := some oD) ⟨ho, rfl, rfl, hoD⟩ T.sa ?_
  refine put_more I.kIn ho hns hw (by rw [List.length_map]; omega) hcl l1 l2 l3 hdi no fun h' tk' k hn => ?_
  have there : ∃ o, h'.get? dx = some o := by
    obtain ⟨o, _, _, e', _⟩ := hn
    exact ⟨o, e'⟩
  refine h _ (I.write (t' := tk') (x := dx) (e := dx) (o := exd dx ((f, y) :: fs)) ?_ (.inl rfl) k there (exd_ok hn (relO_put ry rel)))
  rw [ed]
  exact True.intro
/-- B.__init__(self, ..) of an exception without fields: nothing of it is told -/
theorem ox_init {us : List Value} {Q : Value → Shared → Prop} (T : OxC X.K C B newId initId bm) (I : Inv X pins σ H s) (e : H a = some (exo a C none)) (hl : us.length ≤ sizeLine)
    (h : ∀ s', Inv X pins σ H s' → Q .none s') : wpAny (model X.prog X.w) A (call (.builtin initId) (.ref a :: us)) Q E s := by
  obtain ⟨nm, q, N, bs, sn, sub, ab, col, dd, k0, k1, k2, k3, k5, hC⟩ := T.cls
  obtain ⟨t1, ho⟩ := exo_at I.hok e
  obtain ⟨hp, g, d, t, os⟩ := s
  refine wpAny_call (PySem.HandSPX.init_base T.F (fun _ => rfl) (I.kIn _ _ hC) ho hl fun h' t2 k hx => ?_)
  have J := I.write (t' := t) (x := a) (e := a) (o := exo a C none) (by rw [e]; exact True.intro) (.inl rfl) k ⟨_, hx⟩ (exo_ok hx)
  have eu : upd H a (exo a C none) = H := by
    funext b
    by_cases hb : b = a
    · subst hb
      rw [upd_same, e]
    · rw [upd_ne hb]
  rw [eu] at J
  exact h _ J
end
/-! ### the readings -/
def tBin (K : PySem.W.Frag) (B newId initId : String) (bm : List Value) (ta : TA) : TE := fun σ H Q => ta σ H fun vs H1 =>
  ∃ (a C : Addr) (ws : List V), vs = .ref a :: ws ∧ ws.length ≤ 1000 ∧ OxC K C B newId initId bm ∧ H1 a = some (exo a C none) ∧ Q .non H1
def tPut (K : PySem.W.Frag) (B newId initId : String) (bm : List Value) (f : Str) (to te : TE) : TS := fun D σ H => te σ H fun y H1 => to σ H1 fun x H2 =>
  ∃ a C : Addr, x = .ref a ∧ OxC K C B newId initId bm ∧ PySem.W.findIn K (.ref C) f = some none ∧
    ((H2 a = some (exo a C none) ∧ ∀ dx, H2 dx = none → dx ≠ a → D.nx σ (upd (upd H2 dx (exd dx [(f, y)])) a (exo a C (some dx)))) ∨
      ∃ (dx : Addr) (fs : List (Str × V)), H2 a = some (exo a C (some dx)) ∧ H2 dx = some (exd dx fs) ∧ fs.length ≤ 900 ∧ D.nx σ (upd H2 dx (exd dx ((f, y) :: fs))))
/-- C(..) as a value: gV puts the exception itself, the values by position and those by name in the parameters' order -/
def tNew (C : Addr) (n m : Nat) (sp : Sp) (gV : List V → List V → List V) (t tk : TA) : TE := fun σ H Q => t σ H fun vs H1 => tk σ H1 fun zs H2 =>
  vs.length = n ∧ zs.length = m ∧ vs.length ≤ 1000 ∧ ∀ a, H2 a = none → sp (gV (.ref a :: vs) zs) (upd H2 a (exo a C none)) (fun v H3 => v = .non ∧ Q (.ref a) H3) (fun _ _ _ => False)
/-- e.f, e such an exception -/
def tFld (K : PySem.W.Frag) (f : Str) (te : TE) : TE := fun σ H Q => te σ H fun x H1 =>
  ∃ (a C dx : Addr) (B newId initId : String) (bm : List Value) (fs : List (Str × V)) (v : V), x = .ref a ∧ OxC K C B newId initId bm ∧ PySem.W.findIn K (.ref C) f = some none ∧
    H1 a = some (exo a C (some dx)) ∧ H1 dx = some (exd dx fs) ∧ fs.lookup f = some v ∧ Q v H1
/-- isinstance(e, c) -/
def rIsX (K : PySem.W.Frag) : List V → Hp → VK → Prop := fun xs H Q => ∃ (a C : Addr) (od : Option Addr) (fs : List (Str × V)) (B newId initId : String) (bm : List Value) (c : V) (u : Value) (b : Bool),
  xs = [.ref a, c] ∧ ClsV c u ∧ OxC K C B newId initId bm ∧ H a = some (exo a C od) ∧ (∀ dx, od = some dx → H dx = some (exd dx fs)) ∧ PySem.W.kitOne K (.ref C) u = some b ∧ Q (.bl b) H
section
variable {X : Cx} {o e : Expr} {es : List Expr} {to te : TE} {ta : TA} {f : Str} {p p' p1 p2 pos : Pos} {B newId initId : String} {bm : List Value}
theorem pe_bin {nB : Str} {pl : Sem Bool} (hg : Gl X nB) (hm : X.mg nB = none) (hv : bootBuiltins nB = some (.type B)) (ty : typeOf (.type B) = pure (.type "type"))
    (vV : PySem.W.findCls X.K (.type B) (.type "type") "__init__" = some (.val (.builtin initId))) (q4 : Manifest.isStub B = false) (ha : PA X (e :: es) ta) (q3 : PySem.W.handedIn (.builtin initId) = true)
    (hn1 : nB ≠ "__name__" := by decide) (hn2 : (nB == ("__debug__" : Str)) = false := by decide)
    (hc : eval (.Call (.Attribute (.Name nB p1) "__init__" p2) (e :: es) [] pos) X.env = (do
      let ov ← eval (.Name nB p1) X.env
      standAt p2.atName
      let (f, first) ← holding [ov] (getMethod ov "__init__" pl)
      callWith pos f first (backTo pos (starEach (e :: es) X.env)) (backToKw pos (keywordEach [] X.env))) := by rfl)
    (he : starEach (e :: es) X.env = (false, eval e X.env) :: starEach es X.env := by rfl) (hpl : (backTo pos (starEach es X.env)).any (·.1) = false := by rfl) :
    PE X (.Call (.Attribute (.Name nB p1) "__init__" p2) (e :: es) [] pos) (tBin X.K B newId initId bm ta) := by
  refine ⟨fun pins s σ H Q I h => ?_⟩
  refine PySem.W.methodCall_KW (ld_blt I hg hm hv ?_ hn1 hn2) hc
  obtain ⟨m, fr⟩ := I.fr
  refine PySem.W.method_type fr I.ok.mod.kin ty q4 vV q3 ?_
  show wpAny _ _ (callWith pos (Value.builtin initId) [] (backTo pos (starEach (e :: es) X.env)) []) _ _ _
  refine PyProof.Rows.callWith_method1 (thn (ha.run pos pins _ σ H _ (I.tok _) h) fun us s1 ⟨vs, H1, I1, r1, a, C, ws, ev, hl, T, ea, q⟩ => ?_) he hpl
  subst ev
  cases r1 with
  | @cons _ u0 _ ur ra rr =>
    obtain rfl : u0 = Value.ref a := ra
    have len : ur.length ≤ sizeLine := by
      have e1 := Paired.length rr
      rw [← e1, sizeLine_eq]
      omega
    exact ox_init T I1 ea len fun s' J => ⟨.non, H1, J, rfl, q⟩
/-- self.f = e -/
theorem ps_put (ho : PE X o to) (he : PE X e te) (hs : swapsWith e (some (.Attribute o f p')) pos.line X.env = pure false := by rfl) :
    PS X (.Assign [.Attribute o f p'] e pos) (tPut X.K B newId initId bm f to te) := by
  refine ⟨fun pins s σ H D I h => ?_⟩
  refine plainObj_wpAny_Assign_Attribute (thn (he.run pins s σ H _ I h) fun v s1 ⟨y, H1, I1, r1, q1⟩ => ?_) hs
  refine thn (ho.run pins s1 σ H1 _ I1 q1) fun u s2 ⟨x, H2, I2, r2, a, C, ex, T, no, q⟩ => ?_
  subst ex
  obtain rfl : u = Value.ref a := r2
  rcases q with ⟨ea, q⟩ | ⟨dx, fs, ea, ed, hl, q⟩
  · exact ox_first T I2 ea no r1 fun dx s' n ne J => ⟨σ, _, J, q dx n ne⟩
  · exact ox_more T I2 ea ed hl no r1 fun s' J => ⟨σ, _, J, q⟩
/-- e.f -/
theorem pe_xfld (he : PE X e te) (hb : attributeBase e f X.env (eval e X.env) = eval e X.env := by rfl) : PE X (.Attribute e f pos) (tFld X.K f te) := by
  refine ⟨fun pins s σ H Q I h => ?_⟩
  refine attr_of hb (thn (he.run pins s σ H _ I h) fun u s1 ⟨x, H1, I1, rx, a, C, dx, B, newId, initId, bm, fs, v, ex, T, no, ea, ed, l, q⟩ => ?_)
  subst ex
  obtain rfl : u = Value.ref a := rx
  obtain ⟨t1, ho⟩ := exo_at I1.hok ea
  obtain ⟨mA, hns, hr⟩ := exd_at I1.hok ed
  obtain ⟨od, hod, hl⟩ := lookIn_ns hns
  obtain ⟨u, hu, ru⟩ := RelO.some_of (v := v) (o := mA f) (by rw [← l]; exact hr f)
  have J : PySem.W.InstAt s1.heap a { cls := .ref C, dict := some dx, data := .fields #[.ref t1, .none, .none, .none, .bool false, .none] } C (some od) := ⟨ho, rfl, rfl, hod⟩
  exact HandSPX.exc_get I1.kIn J T.ga T.gg T.exC (PySem.W.findObj_own T.hd no rfl (by rw [hl, hu])) (handed_of ru) ⟨v, H1, I1.tok _, ru, q⟩
theorem call_isX : CallR X (.builtin "isinstance") (rIsX X.K) := by
  intro pins s σ H xs us Q I r h
  obtain ⟨a, C, od, fs, B, newId, initId, bm, c, u, b, rfl, k, T, ea, ed, e, q⟩ := h
  obtain ⟨u1, u2, rfl, r1, r2⟩ := vals2 r
  have e2 := k.eq r2
  subst e2
  obtain rfl : u1 = Value.ref a := r1
  obtain ⟨t1, ho⟩ := exo_at I.hok ea
  obtain ⟨cd, hcl, _⟩ := T.data
  have some_ : (PySem.W.clsIn X.K C).isSome = true := by rw [hcl]; rfl
  have fin : ∀ tk, EP X pins σ Q (.bool b) { s with toks := tk } := fun tk => ⟨.bl b, H, I.tok tk, rfl, q⟩
  cases od with
  | none =>
    have J : PySem.W.InstAt s.heap a { cls := .ref C, dict := none, data := .fields #[.ref t1, .none, .none, .none, .bool false, .none] } C none := ⟨ho, rfl, rfl, trivial⟩
    exact PySem.W.kia_one (PySem.W.kitx_exc some_ T.ga T.gg T.exC T.ca T.cn T.ct T.om) I.kIn J e (fun z => nomatch z) fin
  | some dx =>
    obtain ⟨mA, hns, hr⟩ := exd_at I.hok (ed dx rfl)
    obtain ⟨o', hod, hl⟩ := lookIn_ns hns
    have J : PySem.W.InstAt s.heap a { cls := .ref C, dict := some dx, data := .fields #[.ref t1, .none, .none, .none, .bool false, .none] } C (some o') := ⟨ho, rfl, rfl, hod⟩
    exact PySem.W.kia_one (PySem.W.kitx_exc some_ T.ga T.gg T.exC T.ca T.cn T.ct T.om) I.kIn J e (fun z => nomatch z) fin
end
/-! ### making one, kept as a value -/
section
variable {X : Cx} {CX : CXT} {k n : Nat} {fI C : Addr} {fd : FuncData} {ps ks : List Str} {sp : Sp} {x : Str} {p pos : Pos} {e : Expr} {es : List Expr} {kws : List Keyword}
variable {t tk : TA} {g : List Value → List Value → List Value} {gV : List V → List V → List V} {B newId initId : String} {bm : List Value}
theorem run_new {pins : List (Addr × Obj)} {σ : St} {H : Hp} {s : Shared} {Q : VK} {us ws : List Value} {vs zs : List V} (T : OxC X.K C B newId initId bm)
    (iC : PySem.W.findIn X.K (.ref C) "__init__" = some (some (.ref fI))) (tI : PySem.W.typeIn X.K (.ref fI) = some (.type "function"))
    (F : FnOk X.prog X.w X.K X.mg X.base CX k fI fd ps sp) (hr : Room (k + 1) X.A) (hb : KBn X.K fd ps (n + 1) ks g gV) (hx : Passes CX X (fun _ _ _ => False))
    (I : Inv X pins σ H s) (r : Vals vs us) (rz : Vals zs ws) (l1 : vs.length = n) (l2 : zs.length = ks.length) (l3 : vs.length ≤ 1000)
    (h : ∀ a, H a = none → sp (gV (.ref a :: vs) zs) (upd H a (exo a C none)) (fun v H3 => v = .non ∧ Q (.ref a) H3) (fun _ _ _ => False)) :
    wpAny (model X.prog X.w) X.A (call (.ref C) us (ks.zip ws)) (EP X pins σ Q) X.xe s := by
  obtain ⟨nm, q, N, bs, sn, sub, ab, col, dd, k0, k1, k2, k3, k5, hC⟩ := T.cls
  obtain ⟨hp, g1, dr, tk, os⟩ := s
  have big : hp.objs.size ≤ hp.objs.size + 1 := Nat.le_succ _
  have free : H (hp.objs.size + 1) = none := I.hok.fresh big
  have hq := h (hp.objs.size + 1) free
  have kp : ∀ b o, hp.get? b = some o → ((hp.push (PySem.W.kdv_tup us)).push (PySem.HandSPX.excO C hp.objs.size)).get? b = some o := fun b o e =>
    Heap.get?_push_of_some _ (Heap.get?_push_of_some _ e)
  have new : ((hp.push (PySem.W.kdv_tup us)).push (PySem.HandSPX.excO C hp.objs.size)).get? (hp.objs.size + 1) = some (PySem.HandSPX.excO C hp.objs.size) := by heap_get
  have I2 : Inv X pins σ (upd H (hp.objs.size + 1) (exo (hp.objs.size + 1) C none))
      ⟨(hp.push (PySem.W.kdv_tup us)).push (PySem.HandSPX.excO C hp.objs.size), g1, dr, tk, os⟩ :=
    I.laid (t' := tk) (a := hp.objs.size + 1) (o := exo (hp.objs.size + 1) C none) (h' := (hp.push (PySem.W.kdv_tup us)).push (PySem.HandSPX.excO C hp.objs.size)) kp big (exo_ok new)
  have ra : Vals (V.ref (hp.objs.size + 1) :: vs) (Value.ref (hp.objs.size + 1) :: us) := .cons rfl r
  have lu : us.length ≤ sizeLine := by
    have e1 := Paired.length r
    rw [← e1, sizeLine_eq]
    omega
  have n1 : (Value.ref (hp.objs.size + 1) :: us).length = n + 1 := by
    rw [List.length_cons, ← r.length, l1]
  refine wpAny_call (EV.callK T.F (I.kIn _ _ hC) (PySem.W.looks_findIn I.kIn iC) (fun self => PySem.W.bind_fn I.kIn self tI) lu
    (codeAny_mono (F.run _ X.stack _ _ ⟨Value.ref (hp.objs.size + 1) :: us, ks.zip ws⟩ (g (Value.ref (hp.objs.size + 1) :: us) ws) _ _ (fun _ _ _ => False)
      (hr.make C us (ks.zip ws)) (I2.env0.make C us (ks.zip ws)) (hb.to _ _ ws I2.kIn n1 (rz.length.symm.trans l2)) (hb.rel ra rz) hq) fun r s' hq' => ?_))
  cases r with
  | error er => exact hx pins σ _ _ er s' I2 hq'
  | ok fl =>
    cases fl with
    | ret u =>
      obtain ⟨v, H3, I3, rv, ev, q3⟩ := I2.after hq'
      subst ev
      exact ⟨rv, ⟨V.ref (hp.objs.size + 1), H3, I3, rfl, q3⟩⟩
    | next => exact False.elim hq'
    | brk => exact False.elim hq'
    | cont => exact False.elim hq'
/-- C(e, ..) -/
theorem pe_new (T : OxC X.K C B newId initId bm) (iC : PySem.W.findIn X.K (.ref C) "__init__" = some (some (.ref fI))) (tI : PySem.W.typeIn X.K (.ref fI) = some (.type "function"))
    (F : FnOk X.prog X.w X.K X.mg X.base CX k fI fd ps sp) (hr : Room (k + 1) X.A) (hb : KBn X.K fd ps (n + 1) [] g gV) (hx : Passes CX X (fun _ _ _ => False))
    (hg : Gl X x) (hm : X.mg x = some (.ref C)) (ha : PA X (e :: es) t) (hdb : (x == ("__debug__" : Str)) = false := by decide)
    (he : starEach (e :: es) X.env = (false, eval e X.env) :: starEach es X.env := by rfl) (hpl : (backTo pos (starEach es X.env)).any (·.1) = false := by rfl) :
    PE X (.Call (.Name x p) (e :: es) [] pos) (tNew C n 0 sp gV t tNil) := by
  refine ⟨fun pins s σ H Q I h => ?_⟩
  refine wpAny_Call_Name_kw (ld_glob I hg hm ?_ hdb)
  refine PySem.W.callWith_K (h₀ := X.base) I.ok.mod.kin T.kC (thn (ha.run pos pins s σ H _ I h) fun us s1 ⟨vs, H1, I1, r1, q1⟩ => ⟨I1.kIn, ?_⟩) he hpl
  obtain ⟨l1, _, l3, q2⟩ := q1
  exact run_new (ws := []) (zs := []) T iC tI F hr hb hx I1 r1 .nil l1 rfl l3 q2
/-- C(k = v, ..) -/
theorem pe_newK (T : OxC X.K C B newId initId bm) (iC : PySem.W.findIn X.K (.ref C) "__init__" = some (some (.ref fI))) (tI : PySem.W.typeIn X.K (.ref fI) = some (.type "function"))
    (F : FnOk X.prog X.w X.K X.mg X.base CX k fI fd ps sp) (hr : Room (k + 1) X.A) (hb : KBn X.K fd ps 1 ks g gV) (hx : Passes CX X (fun _ _ _ => False))
    (hg : Gl X x) (hm : X.mg x = some (.ref C)) (hkw : PK X kws tk) (hall : (backToKw pos (keywordEach kws X.env)).all (·.1.isSome) = true := by rfl)
    (hks : (backToKw pos (keywordEach kws X.env)).filterMap (·.1) = ks := by rfl) (hdb : (x == ("__debug__" : Str)) = false := by decide)
    (hpl : ((backTo pos (starEach [] X.env)).any (·.1) || (backToKw pos (keywordEach kws X.env)).any (·.1.isNone)) = false := by rfl) :
    PE X (.Call (.Name x p) [] kws pos) (tNew C 0 ks.length sp gV tNil tk) := by
  refine ⟨fun pins s σ H Q I h => ?_⟩
  refine wpAny_Call_Name_kw (ld_glob I hg hm ?_ hdb)
  refine PySem.W.callWith_KW0 (h₀ := X.base) I.ok.mod.kin T.kC hall ?_ hpl
  refine thn (hkw.run pos pins s σ H _ I h) fun ws s2 ⟨zs, H2, I2, rz, l1, l2, l3, q2⟩ => ⟨I2.kIn, ?_⟩
  rw [hks]
  exact run_new (us := []) (vs := []) T iC tI F hr hb hx I2 .nil rz rfl l2 (by decide) q2
end
end EV
end L2

set_option Elab.async false
set_option linter.all false
set_option maxRecDepth 100000
set_option maxHeartbeats 4000000
/-! Defs that show values by repr: a promise that is kept where no repr runs yet. -/
namespace L2
namespace EV
open PySem PySem.Spec PyProof.Rows _root_.EV
/-- FnOk, where no repr runs yet -/
structure FnG (P : Program) (w : World) (K : PySem.W.Frag) (mg : Str → Option Value) (base : Heap) (CX : CXT) (k : Nat) (f : Addr) (fd : FuncData) (ps : List Str) (sp : Sp) : Prop where
  len : ∀ vs H Q E, sp vs H Q E → vs.length = ps.length
  run : ∀ (A : Around) (outer : List Env) (s : Shared) (H : Hp) (args : Args) (us : List Value) (vs : List V) (Q : VK) (E : XK), Room k A → A.guards = some [] →
    Env0 P w K mg base A outer s H → BindsTo s fd args (ps.zip us) → Vals vs us → sp vs H Q E → codeAny (model P w) A (.call (.ref f) args) (CR CX outer P w H s Q E) s
section
variable {P : Program} {w : World} {K : PySem.W.Frag} {mg : Str → Option Value} {base : Heap}
theorem okG {x qual : Str} {st : Stmt} {f : Addr} {fd : FuncData} {N ps : List Str} {k : Nat} {sp : Sp} (F : Fun K x qual st f fd) (S : FnScope N ps (defScope st))
    (len : ∀ vs H Q E, sp vs H Q E → vs.length = ps.length)
    (hbody : ∀ (cdv : Value) (A : Around) (outer : List Env) (s : Shared) (H : Hp) (vs : List V) (Q : VK) (E : XK), Room k (A.deeper (envOfC qual (defScope st) s.heap.objs.size f cdv)) →
      A.guards = some [] → sp vs H Q E →
      ∃ t, PSs (cxOf CX0 P w K mg base N qual (defScope st) f cdv A outer s H E).nox (defBody st) t ∧ t { nx := fun _ H' => Q .non H', rt := Q } (start N vs) H) :
    FnG P w K mg base CX0 (k + 1) f fd ps sp := by
  obtain ⟨oc, od, kV, doc, pm, an, cdv, ct, osl, rfl, lk, hcd⟩ := F.ex
  refine ⟨len, fun A outer s H args us vs Q E hr hgd e0 hb r hsp => ?_⟩
  have hl := len _ _ _ _ hsp
  have keptB : ∀ b o, base.get? b = some o → s.heap.get? b = some o := fun b o e => (e0.bs b o e).1
  have KX : K.In s.heap := e0.mod.kin.keeps keptB
  have lim : s.heap.NoLimit := e0.mod.nolimit.keeps keptB
  have kinds : ∀ y ∈ ps.zip us, (defScope st).names.lookup y.1 = some .local ∨
      ((defScope st).names.lookup y.1 = some .cell ∧ ((cellsFrom (s.heap.objs.size + 1) (defScope st).names []).lookup y.1).isSome = true) := fun ⟨n, v⟩ hy =>
    (S.par n (List.of_mem_zip hy).1).elim .inl fun q => .inr ⟨q, PySem.W.cellsFrom_some _ _ _ (.inl q)⟩
  refine codeAny_call_function hr.depth (KX _ _ lk) rfl S.co S.gen rfl (PySem.W.codeRec_of KX hcd) (hb _ _ _ _ ?_)
  refine wpAny_newFunctionEnv_cells S.kind kinds fun env he s1 x => ?_
  subst he
  refine ⟨lim.keeps x.toInCall.keep, codeAny_func ?_⟩
  obtain ⟨t, ht0, hq⟩ := hbody cdv A outer s H vs Q E (hr.deeper _) hgd hsp
  have ht := ht0.nox
  have I : Inv (cxOf CX0 P w K mg base N qual (defScope st) f cdv A outer s H E) [] (start N vs) H s1 := inv_start S hr.hd e0 hl r x
  refine wpAny_mono (ht.run [] s1 (start N vs) H _ I hq) (fun fl s' hs => ?_) fun e s' hs => hs
  cases fl with
  | ret u =>
    obtain ⟨v, σ', H', J, rv, q⟩ := hs
    exact ⟨v, H', J.os, J.bare, J.base, J.hok, rv, q⟩
  | next =>
    obtain ⟨σ', H', J, q⟩ := hs
    exact ⟨V.non, H', J.os, J.bare, J.base, J.hok, rfl, q⟩
  | brk =>
    obtain ⟨_, _, _, q⟩ := hs
    exact False.elim q
  | cont =>
    obtain ⟨_, _, _, q⟩ := hs
    exact False.elim q
end
section
variable {X : Cx} {CX : CXT} {k : Nat} {f : Addr} {fd : FuncData} {ps : List Str} {sp : Sp} {x : Str} {p pos : Pos} {e : Expr} {es : List Expr} {t : TA} {E : XK}
/-- f(e, ..) of such a def -/
theorem pe_callG (F : FnG X.prog X.w X.K X.mg X.base CX k f fd ps sp) (hr : Room k X.A) (hgd : X.A.guards = some []) (hg : Gl X x) (hm : X.mg x = some (.ref f))
    (hk : PySem.W.keepIn X.K (.ref f) = true) (hb : Binds X.K fd ps []) (hx : Passes CX X E) (ha : PA X (e :: es) t) (hdb : (x == ("__debug__" : Str)) = false := by decide)
    (he : starEach (e :: es) X.env = (false, eval e X.env) :: starEach es X.env := by rfl) (hpl : (backTo pos (starEach es X.env)).any (·.1) = false := by rfl) :
    PE X (.Call (.Name x p) (e :: es) [] pos) (fun σ H Q => t σ H fun vs H1 => sp vs H1 Q E) := by
  refine ⟨fun pins s σ H Q I h => ?_⟩
  refine wpAny_Call_Name_kw (ld_glob I hg hm ?_ hdb)
  refine PySem.W.callWith_K (h₀ := X.base) I.ok.mod.kin hk (thn (ha.run pos pins s σ H _ I h) fun us s1 ⟨vs, H1, I1, r, q⟩ => ⟨I1.kIn, ?_⟩) he hpl
  have hl : us.length = ps.length := by
    rw [← r.length]
    exact F.len _ _ _ _ q
  have bn := hb s1 us I1.kIn (by rw [List.append_nil]; exact hl)
  rw [List.append_nil] at bn
  refine wpAny_call (codeAny_mono (F.run X.A X.stack s1 H1 ⟨us, []⟩ us vs Q E hr hgd I1.env0 bn r q) fun r2 s2 hq => ?_)
  cases r2 with
  | error er => exact hx pins σ H1 s1 er s2 I1 hq
  | ok fl =>
    cases fl with
    | ret u => exact I1.after hq
    | next => exact False.elim hq
    | brk => exact False.elim hq
    | cont => exact False.elim hq
end
/-- the law's own call, of a promise that is kept where no repr runs -/
theorem law_callG {P : Program} {w : World} {K : PySem.W.Frag} {mg mb : Str → Option Value} {k : Nat} {fa a : Addr} {fd : FuncData} {x : Str} {sp : Sp} {s1 : Shared} {vs : List Value} {ns : List Int}
    (KX : K.In s1.heap) (hns : s1.heap.Ns mainGlobals mg) (hb : s1.heap.Ns builtinsNs mb) (hbb : ∀ x : Str, x ≠ "__name__" → mb x = bootBuiltins x) (hlim : s1.heap.NoLimit) (hg : s1.gens = #[])
    (ha : s1.heap.get? a = some { cls := .type "list", data := .seq vs.toArray }) (hi : IntsAre vs ns) (hl : ns.length ≤ sizeLine) (hr : Room k callerA)
    (F : ∀ base : Heap, K.In base → base.Ns mainGlobals mg → FnG P w K mg base CX0 k fa fd [x] sp) (hbind : ∀ (s : Shared) (u : Value), BindsTo s fd ⟨[u], []⟩ [(x, u)])
    (hsp : ∀ H : Hp, Only H → SqL K H a (ns.map V.int) → sp [.ref a] H (fun v _ => v = .bl true) fun _ _ _ => False) :
    codeAny (model P w) callerA (.call (.ref fa) ⟨[.ref a], []⟩) (fun r s' => r = .ok (.ret (.bool true)) ∧ OldK s1.heap s'.heap ∧ s'.os = s1.os ∧ AllBare s'.gens) s1 := by
  have rv := vals_ints hi
  have lenV := hi.length
  have core : ∀ H : Hp, Only H → SqL K H a (ns.map V.int) → HOk P w H s1.heap → (∀ b, H b ≠ none → b = a) → (H a ≠ none → K.lookup a = none) →
      codeAny (model P w) callerA (.call (.ref fa) ⟨[.ref a], []⟩) (fun r s' => r = .ok (.ret (.bool true)) ∧ OldK s1.heap s'.heap ∧ s'.os = s1.os ∧ AllBare s'.gens) s1 := by
    intro H hO hS hok onlyA notK
    have noDict : ∀ {b : Addr} {o : Obj} {es : Array DictEntry} {ep : Nat}, s1.heap.get? b = some o → o.data = .dict es ep → H b = none := fun {b o es ep} e d => by
      cases q : H b with
      | none => rfl
      | some u =>
        obtain rfl : b = a := onlyA b (by rw [q]; simp)
        rw [ha] at e
        cases e
        exact nomatch (show Data.seq vs.toArray _ = Data.dict es ep from d)
    have nsK : ∀ {b : Addr} {m : Str → Option Value}, s1.heap.Ns b m → (hidT s1.heap H).Ns b m := fun {b m} ⟨o, es, ep, e, d, r⟩ => ⟨o, es, ep, hidT_get e (noDict e d), d, r⟩
    have kin : K.In (hidT s1.heap H) := fun b o e => hidT_get (KX b o e) (by
      cases q : H b with
      | none => rfl
      | some u =>
        obtain rfl : b = a := onlyA b (by rw [q]; simp)
        rw [notK (by rw [q]; simp)] at e
        cases e)
    obtain ⟨mc, c1, c2⟩ := hlim
    have hM : Mod K mg (hidT s1.heap H) := ⟨kin, nsK hns, ⟨mb, nsK hb, hbb⟩, ⟨mc, nsK c1, c2⟩⟩
    have noF : ∀ b, b ∉ frs [] := fun b z => absurd (show b ∈ ([] : List Addr) from z) (by simp)
    have e0 : Env0 P w K mg (hidT s1.heap H) callerA [] s1 H :=
      ⟨rfl, hM, fun b o e => of_hidT e, Nat.le_of_eq (hidT_size _ _), trivial, fun b z => absurd z (noF b), hok, .of_eq hg⟩
    refine codeAny_mono ((F _ kin (nsK hns)).run callerA [] s1 H ⟨[.ref a], []⟩ [.ref a] [.ref a] _ _ hr rfl e0 (hbind s1 (.ref a)) (.cons rfl .nil) (hsp H hO hS)) fun r s' h => ?_
    cases r with
    | error e => exact False.elim h
    | ok fl =>
      cases fl with
      | next => exact False.elim h
      | brk => exact False.elim h
      | cont => exact False.elim h
      | ret u =>
        obtain ⟨v, H', os, bare, un, hok', r', q⟩ := h
        obtain rfl : v = .bl true := q
        obtain rfl : u = Value.bool true := r'
        refine ⟨rfl, OldK.of_keep fun b o e => ?_, os, bare⟩
        cases q : H b with
        | none => exact un.keep b o e q (noF b) (by simp)
        | some u =>
          rcases hO b with z | ⟨ob, xs, z⟩
          · rw [q] at z
            cases z
          · obtain ⟨e1, _⟩ := hok b _ z
            obtain ⟨e2, _⟩ := hok' b _ (un.frzs b ob _ z)
            rw [e] at e1
            cases e1
            exact e2
  cases hk : K.lookup a with
  | some o =>
    have e := KX a o hk
    rw [ha] at e
    cases e
    refine core (fun _ => none) (fun _ => .inl rfl) (.inr ⟨_, vs.toArray, _, hk, rfl, rfl, rfl, ?_, by simpa using rv⟩) (fun b u z => ?_) (fun b z => absurd rfl z) fun z => absurd rfl z
    · rw [List.size_toArray, lenV]
      exact hl
    · exact nomatch (show (none : Option HO) = some u from z)
  | none =>
    refine core (fun b => if b = a then some (.frz { cls := .type "list", data := .seq vs.toArray } (.lst (ns.map V.int))) else none) (fun b => ?_)
      (.inl (.inr ⟨{ cls := .type "list", data := .seq vs.toArray }, if_pos rfl⟩)) (fun b u z => ?_) (fun b z => ?_) fun _ => hk
    · by_cases hb : b = a
      · exact .inr ⟨_, _, if_pos hb⟩
      · exact .inl (if_neg hb)
    · by_cases hb : b = a
      · have z2 := (if_pos hb).symm.trans z
        cases z2
        subst hb
        exact ⟨ha, by rw [List.length_map]; exact hl, vs, _, rv, ha⟩
      · exact nomatch (if_neg hb).symm.trans z
    · by_cases hb : b = a
      · exact hb
      · exact absurd (if_neg hb) z
theorem walk_ofG {l : PySem.W.OpenLaw} {n k : Nat} {q : Program} {loose : List Str} {XP : (Str → Option Value) → Heap → Prop} {YP : World → Heap → Prop} {d : DefRec} {K : Params → PySem.W.Frag} {sp : PySem.W.Frag → Sp} {x : Str}
    (hn : l.most = some n) (hn2 : n ≤ sizeLine) (hdf : d.params.defaults = []) (hr : Room k callerA) (hY : ∀ (w : World) (h : Heap), YP w h → (K w.params).In h)
    (F : ∀ (w : World) (mg : Str → Option Value) (fa : Addr) (h : Heap), (K w.params).In h → h.Ns mainGlobals mg → mg d.name = some (.ref fa) →
      ∃ fd : FuncData, (∀ (s : Shared) (u : Value), BindsTo s fd ⟨[u], []⟩ [(x, u)]) ∧
        ∀ base : Heap, (K w.params).In base → base.Ns mainGlobals mg → FnG l.prog w (K w.params) mg base CX0 k fa fd [x] (sp (K w.params)))
    (hsp : ∀ (K : PySem.W.Frag) (H : Hp) (a : Addr) (ns : List Int), ns.length ≤ n → Only H → SqL K H a (ns.map V.int) → sp K [.ref a] H (fun v _ => v = .bl true) fun _ _ _ => False) :
    PySem.W.WalkO q loose XP YP l.row.toRowW d [] (fun f vs => PySem.call f vs) := by
  refine Att.attach_call hn hdf fun w s0 s1 mg mb fa o pm cd doc a vs ns G Y ho hd hcd hmg hobj hints hlen hg => ?_
  have KX := hY w _ Y
  obtain ⟨fd, hb, hF⟩ := F w mg fa _ KX G.T.g hmg
  exact law_callG KX G.T.g G.T.b G.T.builtins G.T.nolimit hg hobj hints (Nat.le_trans hlen hn2) hr hF hb fun H hO hS => hsp _ H a ns hlen hO hS
end EV
end L2

set_option Elab.async false
set_option linter.all false
set_option maxRecDepth 100000
set_option maxHeartbeats 4000000
/-! repr of a list of data. -/
namespace L2
namespace EV
open PySem PySem.Spec PyProof.Rows _root_.EV
/-- v stands for d: data without dicts, or the dict {"a": 1} -/
inductive Sh (K : PySem.W.Frag) (H : Hp) : V → PyData → Prop
  | plain {v : V} {d : PyData} : Dp K H v d → d.hasDict = false → Sh K H v d
  | one {a : Addr} : H a = some (.dK [(Sum.inr "a", V.int 1)]) → Sh K H (.ref a) (.dict [(.str "a", .int 1)])
def Small (d : PyData) : Prop := d.showable = true ∧ d.shown.length ≤ 60 ∧ d.depth ≤ 5
inductive ShAll (K : PySem.W.Frag) (H : Hp) : List V → List PyData → Prop
  | nil : ShAll K H [] []
  | cons {v : V} {vs : List V} {d : PyData} {ds : List PyData} : Sh K H v d → Small d → ShAll K H vs ds → ShAll K H (v :: vs) (d :: ds)
section
variable {X : Cx} {pins : List (Addr × Obj)} {σ : St} {H : Hp} {s : Shared}
theorem sh_reads (I : Inv X pins σ H s) {v : V} {d : PyData} {u : Value} (h : Sh X.K H v d) (r : RelV v u) : ∃ as, Reads s.heap u d as ∧ (d.hasDict = true → sysModules ∉ as) := by
  cases h with
  | plain hd no =>
    obtain ⟨as, q⟩ := Dp.reads I d v u hd r
    exact ⟨as, q, fun z => by rw [no] at z; cases z⟩
  | @one a e =>
    obtain rfl : u = Value.ref a := r
    obtain ⟨_, nsys, vs, kv, o, es, ep, ho, ex, hd, _, pr, _⟩ := (show ObjOk X.prog X.w H s.heap a (.dK [(Sum.inr "a", V.int 1)]) from I.hok a _ e)
    cases kv with
    | @cons _ p _ ps hk kr =>
      cases kr
      obtain ⟨k, v⟩ := p
      obtain ⟨ek, t, ev⟩ := hk
      dsimp only at ek ev
      subst ek ev
      generalize hes : es.toList = l at pr
      cases pr with
      | @cons e1 _ l2 _ k1 k2 k3 =>
        cases k3
        obtain ⟨t2, ek⟩ : ∃ t2, e1.key = Value.str "a" t2 := Value.isStrOf_shape k1
        refine ⟨[a], Reads.dict (as := []) (bs := []) ho ex.1 hd ?_ ?_, fun _ z => ?_⟩
        · rw [hes]
          show ReadsAll s.heap [e1.key] [PyData.str "a"] []
          rw [ek]
          exact ReadsAll.cons (Reads.str _ _) ReadsAll.nil
        · rw [hes]
          show ReadsAll s.heap [e1.val] [PyData.int 1] []
          rw [k2]
          exact ReadsAll.cons (Reads.int _ _) ReadsAll.nil
        · obtain rfl : sysModules = a := by simpa using z
          simp at nsys
theorem sh_all (I : Inv X pins σ H s) : ∀ {vs : List V} {ds : List PyData} {us : List Value}, ShAll X.K H vs ds → Vals vs us →
    ∃ as bs, ReadsAll s.heap us ds as ∧ ReadAtMost s.heap (PyData.depthAll ds) bs ∧ ReprAllK X.prog X.w bs s.heap (PyData.depthAll ds) us (PyData.shownAll ds)
  | _, _, _, .nil, .nil => ⟨[], [], ReadsAll.nil, (fun _ h => nomatch h), by simp only [PyData.shownAll]; exact .nil⟩
  | _, _, _, .cons (d := d) (ds := ds) h sm t, .cons r rt => by
    obtain ⟨as1, q1, hsm⟩ := sh_reads I h r
    obtain ⟨as2, b2, q2, m2, k2⟩ := sh_all I t rt
    obtain ⟨b1, m1, k1⟩ := ReprK.of_reads (prog := X.prog) (w := X.w) q1 sm.1 hsm (Nat.le_trans sm.2.1 (by decide))
    refine ⟨as1 ++ as2, b1 ++ b2, ReadsAll.cons q1 q2, ?_, ?_⟩
    · simp only [PyData.depthAll]
      exact (m1.mono (Nat.le_max_left _ _)).append (m2.mono (Nat.le_max_right _ _))
    · simp only [PyData.depthAll, PyData.shownAll]
      exact .cons ((k1.more fun b hb => List.mem_append_left _ hb).level_le (Nat.le_max_left _ _)) (k2.more_le (fun b hb => List.mem_append_right _ hb) (Nat.le_max_right _ _))
theorem shall_depth {K : PySem.W.Frag} {H : Hp} : ∀ {vs : List V} {ds : List PyData}, ShAll K H vs ds → PyData.depthAll ds ≤ 5 ∧ (∀ t ∈ PyData.shownAll ds, t.length ≤ 60) ∧ (PyData.shownAll ds).length = vs.length
  | _, _, .nil => ⟨by simp only [PyData.depthAll]; omega, by simp [PyData.shownAll], by simp [PyData.shownAll]⟩
  | _, _, .cons h sm t => by
    obtain ⟨h1, h2, h3⟩ := shall_depth t
    refine ⟨by simp only [PyData.depthAll]; have := sm.2.2; omega, ?_, by simp [PyData.shownAll, h3]⟩
    intro t ht
    simp only [PyData.shownAll, List.mem_cons] at ht
    rcases ht with rfl | ht
    · exact sm.2.1
    · exact h2 t ht
theorem sum_le60 : ∀ {ts : List Str}, (∀ t ∈ ts, t.length ≤ 60) → (ts.map (·.length)).sum ≤ 60 * ts.length
  | [], _ => by simp
  | t :: ts, h => by
    have h1 := h t (List.mem_cons_self ..)
    have h2 := sum_le60 (ts := ts) fun t ht => h t (List.mem_cons_of_mem _ ht)
    simp only [List.map_cons, List.sum_cons, List.length_cons]
    omega
/-- repr(l), l a list of some data -/
def rShow (K : PySem.W.Frag) : List V → Hp → VK → Prop := fun xs H Q => ∃ (l : Addr) (v : V) (vs : List V) (ds : List PyData), xs = [.ref l] ∧ H l = some (.lst (v :: vs)) ∧ ShAll K H (v :: vs) ds ∧ vs.length ≤ 1000 ∧
  Q (.str (listText (PyData.shownAll ds))) H
theorem call_show (hgd : X.A.guards = some []) (hu : X.A.units + 64 < cLine) : CallR X (.builtin "repr") (rShow X.K) := by
  intro pins s σ H xs us Q I r h
  obtain ⟨l, v, vs, ds, rfl, e, sh, lz, q⟩ := h
  obtain ⟨u, rfl, ru⟩ := vals1 r
  obtain rfl : u = Value.ref l := ru
  obtain ⟨_, its, n, rv, ho⟩ := (show ObjOk X.prog X.w H s.heap l (.lst (v :: vs)) from I.hok l _ e)
  obtain ⟨as, bs, q1, m1, k1⟩ := sh_all I sh rv
  obtain ⟨dp, sz, ln⟩ := shall_depth sh
  have whole : Reads s.heap (.ref l) (.list ds) (l :: as) := Reads.list ho rfl rfl (by simpa using q1)
  have hna : l ∉ bs := not_mem_of_deeper whole (by simp only [PyData.depth]; omega) m1
  have hz : (listText (PyData.shownAll ds)).length ≤ sizeLine := by
    have h1 := listText_len_le (PyData.shownAll ds)
    have h2 := sum_le60 sz
    rw [ln, List.length_cons] at *
    rw [sizeLine_eq]
    omega
  cases rv with
  | @cons _ u1 _ ut r1 r2 =>
    refine call_repr_slot (by omega) ⟨_, ho, rfl⟩ PySem.F.slot_list_repr.toG ?_
    refine call_list_reprK ho rfl rfl hna (by simpa using k1.length_eq) (fun i y ey => k1.item i y (by simpa using ey)) (A := X.A.in1) hgd (fun b _ => Clear.nil b) ?_ (fun _ _ z => z) (fun h' t tk hk => ⟨_, _, rfl, ?_⟩) hz
    · show X.A.units + 1 + (PyData.depthAll ds + 1) < cLine
      omega
    · exact ⟨.str _, H, I.kept (t' := tk) hk, ⟨_, rfl⟩, q⟩
end
end EV
end L2

set_option Elab.async false
set_option linter.all false
set_option maxRecDepth 100000
set_option maxHeartbeats 4000000
/-! Tuples of an int, a text and an int: sorted, and <=. -/
namespace L2
open PySem PySem.Spec PyProof.Rows
abbrev T3 : Type := Int × Str × Int
abbrev sl (a : Str) : List Nat := a.cps.toList
theorem sl_inj {a b : Str} (h : sl a = sl b) : a = b := by
  cases a with
  | mk x =>
    cases b with
    | mk y =>
      have : x = y := Array.toList_inj.mp h
      rw [this]
/-- x is ahead of y -/
def lt3 (a b : T3) : Bool := if a.1 = b.1 then (if a.2.1 = b.2.1 then decide (a.2.2 < b.2.2) else decide (sl a.2.1 < sl b.2.1)) else decide (a.1 < b.1)
theorem lt3_iff {a b : T3} : lt3 a b = true ↔ a.1 < b.1 ∨ (a.1 = b.1 ∧ (sl a.2.1 < sl b.2.1 ∨ (a.2.1 = b.2.1 ∧ a.2.2 < b.2.2))) := by
  unfold lt3
  by_cases e1 : a.1 = b.1
  · rw [if_pos e1]
    by_cases e2 : a.2.1 = b.2.1
    · rw [if_pos e2, decide_eq_true_eq]
      refine ⟨fun h => .inr ⟨e1, .inr ⟨e2, h⟩⟩, ?_⟩
      rintro (h | ⟨_, h | ⟨_, h⟩⟩)
      · omega
      · rw [e2] at h
        exact absurd h (List.lt_irrefl _)
      · exact h
    · rw [if_neg e2, decide_eq_true_eq]
      refine ⟨fun h => .inr ⟨e1, .inl h⟩, ?_⟩
      rintro (h | ⟨_, h | ⟨h, _⟩⟩)
      · omega
      · exact h
      · exact absurd h e2
  · rw [if_neg e1, decide_eq_true_eq]
    refine ⟨fun h => .inl h, ?_⟩
    rintro (h | ⟨h, _⟩)
    · exact h
    · exact absurd h e1
theorem lt3_no {a b : T3} : lt3 a b = false ↔ ¬ (a.1 < b.1 ∨ (a.1 = b.1 ∧ (sl a.2.1 < sl b.2.1 ∨ (a.2.1 = b.2.1 ∧ a.2.2 < b.2.2)))) := by
  rw [← lt3_iff]
  cases lt3 a b <;> simp
theorem swo3 : SrtO.Swo lt3 := by
  refine ⟨fun x y h => ?_, fun x y z h1 h2 => ?_⟩
  · have a := lt3_iff.mp h
    refine lt3_no.mpr ?_
    rintro (h1 | ⟨h1, h2⟩)
    · rcases a with a | ⟨a, _⟩ <;> omega
    · rcases a with a | ⟨_, a⟩
      · omega
      · rcases h2 with h2 | ⟨h2, h3⟩
        · rcases a with a | ⟨a, _⟩
          · exact List.lt_asymm a h2
          · rw [a] at h2
            exact List.lt_irrefl _ h2
        · rcases a with a | ⟨_, a⟩
          · rw [h2] at a
            exact List.lt_irrefl _ a
          · omega
  · have a := lt3_no.mp h1
    have b := lt3_no.mp h2
    refine lt3_no.mpr ?_
    have a1 : ¬ y.1 < x.1 := fun q => a (.inl q)
    have b1 : ¬ z.1 < y.1 := fun q => b (.inl q)
    rintro (q | ⟨q1, q2⟩)
    · omega
    · have e1 : y.1 = x.1 := by omega
      have e2 : z.1 = y.1 := by omega
      have a2 : ¬ sl y.2.1 < sl x.2.1 := fun q => a (.inr ⟨e1, .inl q⟩)
      have b2 : ¬ sl z.2.1 < sl y.2.1 := fun q => b (.inr ⟨e2, .inl q⟩)
      have l1 : sl x.2.1 ≤ sl y.2.1 := List.not_lt.mp a2
      have l2 : sl y.2.1 ≤ sl z.2.1 := List.not_lt.mp b2
      rcases q2 with q2 | ⟨q2, q3⟩
      · exact absurd q2 (List.not_lt.mpr (List.le_trans l1 l2))
      · have e3 : sl y.2.1 = sl x.2.1 := by
          rw [q2] at l2
          exact List.le_antisymm l2 l1
        have e4 := sl_inj e3
        have a3 : ¬ y.2.2 < x.2.2 := fun q => a (.inr ⟨e1, .inr ⟨e4, q⟩⟩)
        have b3 : ¬ z.2.2 < y.2.2 := fun q => b (.inr ⟨e2, .inr ⟨q2.trans e4.symm, q⟩⟩)
        omega
theorem swo3k {α : Type} (k : α → T3) : SrtO.Swo fun v u : α => lt3 (k v) (k u) := ⟨fun x y => swo3.asym (k x) (k y), fun x y z => swo3.tr (k x) (k y) (k z)⟩
/-- v is a tuple of an int, a text and an int in the heap -/
def IsTrip (h : Heap) (v : Value) (x : T3) : Prop := ∃ a o t u r n, v = .ref a ∧ h.get? a = some o ∧ o.cls = .type "tuple" ∧ o.data = .seq #[.int x.1 t, .str x.2.1 u, .int x.2.2 r] n
theorem IsTrip.keeps {h h' : Heap} {v : Value} {x : T3} (p : IsTrip h v x) (k : ∀ b o, h.get? b = some o → o.cls = .type "tuple" → h'.get? b = some o) : IsTrip h' v x := by
  obtain ⟨a, o, t, u, r, n, e, ho, hc, hd⟩ := p
  exact ⟨a, o, t, u, r, n, e, k _ _ ho hc, hc, hd⟩
theorem firsts3 {h : Heap} : ∀ {vs : List Value}, (∀ v ∈ vs, ∃ x, IsTrip h v x) → ∃ fs : List Value, PySem.W.KatTups h vs fs ∧ fs.length = vs.length ∧ ∀ f ∈ fs, ∃ x t, f = Value.int x t
  | [], _ => ⟨[], PySem.W.KatTups.nil, rfl, fun _ hm => by simp at hm⟩
  | v :: vs, hp => by
    obtain ⟨fs, h1, h2, h3⟩ := firsts3 (vs := vs) fun v' hm => hp v' (List.mem_cons_of_mem _ hm)
    obtain ⟨x, a, o, t, u, r, n, e, ho, hc, hd⟩ := hp v (List.mem_cons_self ..)
    subst e
    refine ⟨.int x.1 t :: fs, PySem.W.KatTups.cons ho hc hd rfl h1, by rw [List.length_cons, List.length_cons, h2], fun f hm => ?_⟩
    rcases List.mem_cons.mp hm with rfl | hm
    · exact ⟨x.1, t, rfl⟩
    · exact h3 f hm
section
variable {prog : Program} {w : World} {A : Around} {E : Value → Shared → Prop} {s : Shared}
theorem trip_cmp {vs : List Value} {k : Value → T3} (hp : ∀ v ∈ vs, IsTrip s.heap v (k v)) : SrtO.Cmp prog w A s (tuples' true) (fun p => p.1 ∈ vs) (SrtO.lt2 fun v u => lt3 (k v) (k u)) := by
  intro p q hm hm'
  have h1 := hp _ hm
  have h2 := hp _ hm'
  show wpAny (model prog w) A (keyLt' (tuples' true) p.1 q.1) (fun r s' => s' = s ∧ r = lt3 (k p.1) (k q.1)) (fun _ _ => False) s
  generalize k p.1 = x at h1 ⊢
  generalize k q.1 = y at h2 ⊢
  obtain ⟨x1, x2, x3⟩ := x
  obtain ⟨y1, y2, y3⟩ := y
  obtain ⟨a, o, t, u, r, n, e, ho, hc, hd⟩ := h1
  obtain ⟨a', o', t', u', r', n', e', ho', hc', hd'⟩ := h2
  rw [e, e']
  unfold lt3
  refine PySem.W.kat_lt ho hd ho' hd' ?_
  show PySem.W.KatLex prog w A true (decide (3 < 3)) _ [(.int x1 t, .int y1 t'), (.str x2 u, .str y2 u'), (.int x3 r, .int y3 r')] 0 s
  refine PySem.W.kat_cons (SeqAt.EqAt.int_int x1 t y1 t' prog w _ _ ?_)
  refine PySem.W.kat_go (fun e1 => ?_) (fun e1 => ?_)
  · have ex : x1 = y1 := by simpa using e1
    subst ex
    refine PySem.W.kat_yes (PySem.W.kat_cons (SeqAt.EqAt.str_str x2 u y2 u' prog w _ _ ?_))
    refine PySem.W.kat_go (fun e2 => ?_) (fun e2 => ?_)
    · have ey : x2 = y2 := by simpa using e2
      subst ey
      refine PySem.W.kat_yes (PySem.W.kat_cons (SeqAt.EqAt.int_int x3 r y3 r' prog w _ _ ?_))
      refine PySem.W.kat_go (fun e3 => ?_) (fun e3 => ?_)
      · have ez : x3 = y3 := by simpa using e3
        subst ez
        refine PySem.W.kat_yes (PySem.W.kat_nil ⟨rfl, ?_⟩)
        simp
      · refine PySem.W.kat_no (PySem.W.kat_one _ _ (PyProof.Rows.lt_int ?_))
        refine (show s = s ∧ _ from ⟨rfl, ?_⟩)
        simp
    · have ey : ¬ x2 = y2 := by simpa using e2
      refine PySem.W.kat_no (PySem.W.kat_one _ _ (PyProof.Rows.lt_str ?_))
      refine (show s = s ∧ _ from ⟨rfl, ?_⟩)
      simp [ey]
  · have ex : ¬ x1 = y1 := by simpa using e1
    refine PySem.W.kat_no (oneLt_int ⟨rfl, ?_⟩)
    simp [ex]
theorem trips_sortable {a : Addr} {vs : List Value} {k : Value → T3} (h0 : 0 < vs.length) (hp : ∀ v ∈ vs, IsTrip s.heap v (k v)) (ha : ∀ o, s.heap.get? a = some o → o.cls ≠ .type "tuple") : SrtO.SortableO prog w A s a vs fun v u => lt3 (k v) (k u) := by
  intro h' keep
  have hp' : ∀ v ∈ vs, IsTrip h' v (k v) := fun v hm => (hp v hm).keeps fun b o e c => keep b o (fun z => by subst z; exact ha o e c) e
  obtain ⟨fs, h1, h2, h3⟩ := firsts3 fun v hm => ⟨_, hp' v hm⟩
  refine ⟨tuples' true, fun Q E hq => ?_, trip_cmp hp'⟩
  refine PySem.W.kat_kind (T := .type "int") h1 (by omega) (fun f hm => ?_) (by rfl) ?_
  · obtain ⟨x, t, rfl⟩ := h3 f hm
    exact PySem.W.Looks.now
  · have e : (Value.type "int" != Value.type "tuple") = true := by first | decide +kernel | rfl | decide
    rw [e]
    exact hq
theorem sorted_trips {l : Addr} {vs : List Value} {k : Value → T3} {Q : Value → Shared → Prop} (hl : s.heap.IsList l vs.toArray) (hz : vs.length ≤ sizeLine) (hp : ∀ v ∈ vs, IsTrip s.heap v (k v))
    (h : ∀ (h' : Heap) (d : Addr) (out : List Value), SrtO.Srtd (fun v u => lt3 (k v) (k u)) out → SrtO.Stb (fun v u => lt3 (k v) (k u)) out vs → (∀ b o, s.heap.get? b = some o → h'.get? b = some o) → s.heap.objs.size ≤ d → (∃ n, h'.get? d = some (seqObj "list" out.toArray n)) → Q (.ref d) { s with heap := h' }) :
    wpAny (model prog w) A (call (.builtin "sorted") [.ref l]) Q E s := by
  refine SrtO.sorted_ord (swo3k k) hl hz (fun h2 h₁ a ha kk => ?_) fun out hs hb => ?_
  · refine trips_sortable (s := { s with heap := h₁ }) (by omega) (fun v hm => (hp v hm).keeps fun b o e _ => (kk b o e).2) fun o e => ?_
    have e' : some o = some (seqObj "list" vs.toArray 0) := e.symm.trans ha
    cases e'
    intro c
    exact absurd (Value.type.inj c) (by decide)
  · exact h _ _ out hs hb (fun b o e => sortedAll_old e) (Nat.le_succ _) (sortedAll_at s.heap vs out.toArray)
end
/-- sorted(xs), xs a list of such tuples (k says which): a new list of the same ones -/
def rSorted3 (K : PySem.W.Frag) : List V → Hp → VK → Prop := fun vs H Q => ∃ (a : Addr) (xs : List V) (k : V → T3), vs = [V.ref a] ∧ SqL K H a xs ∧ (∀ x ∈ xs, ∃ t, x = V.ref t ∧ H t = some (.tup [.int (k x).1, .str (k x).2.1, .int (k x).2.2])) ∧
  ∀ ys p, SrtO.Srtd (fun x y => lt3 (k x) (k y)) ys → ys.Perm xs → H p = none → Q (.ref p) (upd H p (.lst ys))
theorem vals_3 {x y z : V} {us : List Value} (r : Vals [x, y, z] us) : ∃ u w' t', us = [u, w', t'] ∧ RelV x u ∧ RelV y w' ∧ RelV z t' := by
  cases r with
  | cons r1 r2 =>
    obtain ⟨u, w', rfl, r3, r4⟩ := vals2 r2
    exact ⟨_, u, w', rfl, r1, r3, r4⟩
section
variable {X : Cx}
theorem cr_sorted3 : CallR X (.builtin "sorted") (rSorted3 X.K) := by
  intro pins s σ H vs us Q I r h
  obtain ⟨a, xs, k, rfl, hs, hx, q⟩ := h
  obtain ⟨its, rv, hl, hz⟩ := I.list hs
  obtain ⟨u, rfl, ru⟩ := vals1 r
  obtain rfl : u = Value.ref a := ru
  obtain ⟨e1, e2⟩ := refs_back rv fun x m => by
    obtain ⟨t, e, _⟩ := hx x m
    exact ⟨t, e⟩
  refine sorted_trips (k := fun u => k (backV u)) hl.isList (by rw [← rv.length]; exact hz) (fun v hv => ?_) fun h' d out h1 h2 kp hd hn => ?_
  · obtain ⟨t, rfl⟩ := e2 v hv
    have hm : V.ref t ∈ xs := by rw [e1]; exact List.mem_map.mpr ⟨_, hv, rfl⟩
    obtain ⟨t', e, ht⟩ := hx _ hm
    cases e
    obtain ⟨_, its2, r2, o, ho, hc, n, hd⟩ := I.hok _ _ ht
    obtain ⟨u1, u2, u3, rfl, ri, rj, rk⟩ := vals_3 r2
    obtain ⟨t1, rfl⟩ := ri
    obtain ⟨t2, rfl⟩ := rj
    obtain ⟨t3, rfl⟩ := rk
    exact ⟨t, o, t1, t2, t3, n, rfl, ho, hc, hd⟩
  · have h3 : ∀ u ∈ out, ∃ a, u = Value.ref a := fun u hu => e2 u (h2.perm.mem_iff.mp hu)
    obtain ⟨n, hn⟩ := hn
    have hb : SrtO.Stb (fun x y => lt3 (k x) (k y)) (out.map backV) xs := by
      rw [e1]
      exact SrtO.Stb.map (swo3k k) backV h2
    refine ⟨.ref d, upd H d (.lst (out.map backV)), I.laid (t' := s.toks) kp hd ⟨?_, out, n, vals_back h3, hn⟩, rfl, q _ d (SrtO.srtd_map h1) hb.perm (I.hok.fresh hd)⟩
    rw [hb.len]
    exact hz
/-- x <= y of two such tuples -/
def rLe3 : R2 := fun x y H Q => ∃ (a b : Addr) (m n : T3), x = .ref a ∧ y = .ref b ∧ H a = some (.tup [.int m.1, .str m.2.1, .int m.2.2]) ∧ H b = some (.tup [.int n.1, .str n.2.1, .int n.2.2]) ∧ Q (.bl (!lt3 n m)) H
theorem le_lex (m n : T3) : Ob.lexAt (fun j => if j = 0 then m.1 == n.1 else if j = 1 then m.2.1 == n.2.1 else m.2.2 == n.2.2)
    (fun j => if j = 0 then decide (m.1 ≤ n.1) else if j = 1 then decide (sl m.2.1 ≤ sl n.2.1) else decide (m.2.2 ≤ n.2.2)) true 0 3 = !lt3 n m := by
  obtain ⟨m1, m2, m3⟩ := m
  obtain ⟨n1, n2, n3⟩ := n
  simp only [Ob.lexAt, lt3]
  by_cases e1 : m1 = n1
  · subst e1
    by_cases e2 : m2 = n2
    · subst e2
      by_cases e3 : m3 = n3
      · subst e3
        simp
      · simp only [beq_self_eq_true, if_true, Nat.zero_add, Nat.one_ne_zero, if_false, Nat.reduceAdd, Nat.reduceEqDiff, beq_iff_eq, e3]
        by_cases z : m3 ≤ n3
        · rw [decide_eq_true z, decide_eq_false (by omega)]
          rfl
        · rw [decide_eq_false z, decide_eq_true (by omega)]
          rfl
    · have e2' : ¬ n2 = m2 := fun z => e2 z.symm
      simp only [beq_self_eq_true, if_true, Nat.zero_add, Nat.one_ne_zero, if_false, beq_iff_eq, e2, e2']
      by_cases z : sl m2 ≤ sl n2
      · rw [decide_eq_true z, decide_eq_false (List.not_lt.mpr z)]
        rfl
      · rw [decide_eq_false z, decide_eq_true (List.not_le.mp z)]
        rfl
  · have e1' : ¬ n1 = m1 := fun z => e1 z.symm
    simp only [if_true, beq_iff_eq, e1, e1', if_false]
    by_cases z : m1 ≤ n1
    · rw [decide_eq_true z, decide_eq_false (by omega)]
      rfl
    · rw [decide_eq_false z, decide_eq_true (by omega)]
      rfl
theorem RcOp.le_str {A : Around} {s : Shared} (a b : Str) (t u : Tok) : Ob.RcOp .LtE A s (.str a t) (.str b u) (decide (sl a ≤ sl b)) := fun _ _ _ _ h => PySem.P.le_str (by
  have e : (!decide (b.cps.toList < a.cps.toList)) = decide (sl a ≤ sl b) := by
    by_cases z : sl a ≤ sl b
    · rw [decide_eq_true z, decide_eq_false (List.not_lt.mpr z)]
      rfl
    · rw [decide_eq_false z, decide_eq_true (List.not_le.mp z)]
      rfl
  rw [e]
  exact h)
theorem op_le3 (hu : X.A.units < cLine) : OpR X (compareOp .LtE) rLe3 := by
  intro pins s σ H x y v u Q I rx ry h
  obtain ⟨a, b, m, n, rfl, rfl, ha, hb, q⟩ := h
  cases rx
  cases ry
  obtain ⟨its, r1, p1, _⟩ := I.tuple (SqT.of ha)
  obtain ⟨its2, r2, p2, _⟩ := I.tuple (SqT.of hb)
  obtain ⟨u1, u2, u3, rfl, ⟨t1, rfl⟩, ⟨t2, rfl⟩, ⟨t3, rfl⟩⟩ := vals_3 r1
  obtain ⟨v1, v2, v3, rfl, ⟨w1, rfl⟩, ⟨w2, rfl⟩, ⟨w3, rfl⟩⟩ := vals_3 r2
  have R := Ob.RcOp.tuples_le (A := X.A) (s := s) (e := fun j => if j = 0 then m.1 == n.1 else if j = 1 then m.2.1 == n.2.1 else m.2.2 == n.2.2)
    (r := fun j => if j = 0 then decide (m.1 ≤ n.1) else if j = 1 then decide (sl m.2.1 ≤ sl n.2.1) else decide (m.2.2 ≤ n.2.2)) p1 p2 hu (fun j h1 h2 => by
    match j, h1 with
    | 0, _ => exact SeqAt.EqAt.int_int _ _ _ _
    | 1, _ => exact SeqAt.EqAt.str_str _ _ _ _
    | 2, _ => exact SeqAt.EqAt.int_int _ _ _ _) (fun j h1 h2 _ => by
    match j, h1 with
    | 0, _ => exact Ob.RcOp.le_int _ _ _ _
    | 1, _ => exact RcOp.le_str _ _ _ _
    | 2, _ => exact Ob.RcOp.le_int _ _ _ _)
  have e3 : Ob.lexAt (fun j => if j = 0 then m.1 == n.1 else if j = 1 then m.2.1 == n.2.1 else m.2.2 == n.2.2)
    (fun j => if j = 0 then decide (m.1 ≤ n.1) else if j = 1 then decide (sl m.2.1 ≤ sl n.2.1) else decide (m.2.2 ≤ n.2.2)) (decide (3 ≤ 3)) 0 (min 3 3) = !lt3 n m := le_lex m n
  have z : wpAny (model X.prog X.w) X.A (compareOp .LtE (.ref a) (.ref b)) (EP X pins σ Q) X.xe s := R X.prog X.w X.xe (EP X pins σ Q) ⟨.bl _, H, I, rfl, by
    rw [← e3] at q
    exact q⟩
  exact z
end
end L2

set_option Elab.async false
set_option linter.all false
set_option maxRecDepth 100000
set_option maxHeartbeats 4000000
/-! The law's draws. -/
namespace K07
open PySem L2 L2.EV
def top (i : Nat) : Stmt := PySem.Challenge.pw_tornlines_k07_whole_texts_taken.main.body.getD i (.Pass ⟨0, 0, 0, 0⟩)
abbrev sBegun : Stmt := top 17
abbrev sNext : Stmt := top 18
/-! ### data of ints -/
theorem canLay_ints : ∀ ns : List Int, PyData.canLayAll0 (ns.map PyData.int) = true
  | [] => by simp [PyData.canLayAll0]
  | n :: ns => by simp [PyData.canLayAll0, PyData.canLay0, canLay_ints ns]
theorem depth_ints : ∀ ns : List Int, PyData.depthAll (ns.map PyData.int) = 0
  | [] => by simp [PyData.depthAll]
  | n :: ns => by simp [PyData.depthAll, PyData.depth, depth_ints ns]
theorem shaped_ints (ns : List Int) : SeqAt.shaped (.list (ns.map PyData.int)) = true := by
  show (PyData.canLay0 (.list (ns.map PyData.int)) && decide (PyData.depth (.list (ns.map PyData.int)) ≤ 64)) = true
  rw [Bool.and_eq_true]
  refine ⟨by simp only [PyData.canLay0]; exact canLay_ints ns, decide_eq_true ?_⟩
  simp only [PyData.depth, depth_ints]
  omega
theorem dp_ints {K : PySem.W.Frag} {H : Hp} : ∀ ns : List Int, DpAll K H (ns.map V.int) (ns.map PyData.int)
  | [] => .nil
  | n :: ns => .cons (.int n) (dp_ints ns)
theorem dp_list {K : PySem.W.Frag} {H : Hp} {a : Addr} {ns : List Int} (h : H a = some (.lst (ns.map V.int))) : Dp K H (.ref a) (.list (ns.map PyData.int)) := .lst (SqL.of h) (dp_ints ns)
theorem eqv_nil (ns : List Int) : PyData.eqv (.list (ns.map PyData.int)) (.list []) = ns.isEmpty := by
  cases ns <;> simp [PyData.eqv, PyData.eqvAll]
/-! ### the draws' dict -/
def mkv (c l : Addr) (k : Int) : List (Key × V) := [(Sum.inr "cells", .ref c), (Sum.inr "left", .ref l), (Sum.inr "at", .int k)]
theorem n1 : ¬ (("cells" : Str) = "left") := by decide +kernel
theorem n2 : ¬ (("cells" : Str) = "at") := by decide +kernel
theorem n3 : ¬ (("left" : Str) = "at") := by decide +kernel
theorem n1' : ¬ (("left" : Str) = "cells") := by decide +kernel
theorem n2' : ¬ (("at" : Str) = "cells") := by decide +kernel
theorem n3' : ¬ (("at" : Str) = "left") := by decide +kernel
theorem k1 {a b : Str} (h : ¬ a = b) : ¬ ((Sum.inr a : Key) = Sum.inr b) := fun z => h (Sum.inr.inj z)
theorem v_cells (c l : Addr) (k : Int) : valV (mkv c l k) (Sum.inr "cells" : Key) = some (.ref c) := by simp [valV, mkv, List.find?_cons]
theorem v_left (c l : Addr) (k : Int) : valV (mkv c l k) (Sum.inr "left" : Key) = some (.ref l) := by simp [valV, mkv, List.find?_cons, n1]
theorem v_at (c l : Addr) (k : Int) : valV (mkv c l k) (Sum.inr "at" : Key) = some (.int k) := by simp [valV, mkv, List.find?_cons, n2, n3]
theorem p_left (c l l' : Addr) (k : Int) : putK (mkv c l k) (Sum.inr "left" : Key) (.ref l') = mkv c l' k := by simp [putK, mkv, n1, n3']
theorem p_at (c l : Addr) (k k' : Int) : putK (mkv c l k) (Sum.inr "at" : Key) (.int k') = mkv c l k' := by simp [putK, mkv, n2, n3]
theorem mk_merge (c l : Addr) (k : Int) : mergeK [] (mkv c l k) = mkv c l k := by simp [mergeK, putK, mkv, n1, n2, n3]
structure MAt (H : Hp) (m c l : Addr) (k : Int) : Prop where
  hm : H m = some (.dK (mkv c l k))
  hc : ∃ cs : List Int, H c = some (.lst (cs.map V.int)) ∧ cs.length ≤ 1000
  hl : ∃ ls : List Int, H l = some (.lst (ls.map V.int)) ∧ ls.length ≤ 1000
  ne : c ≠ l
  k0 : 0 ≤ k
  k1 : k ≤ 1000000
/-- a drawn number from 0 to n - 1; only the dict and its list of great cells have changed -/
def spNext : Sp := fun vs H Q _ => ∃ (m c l : Addr) (k n : Int), vs = [.ref m, .int n] ∧ MAt H m c l k ∧ 0 < n ∧ n < 1000000 ∧ k < 1000000 ∧
  ∀ (r : Int) (H' : Hp) (l' : Addr) (k' : Int), 0 ≤ r → r < n → k' ≤ k + 1 → MAt H' m c l' k' → (l' = l ∨ H l' = none) → (∀ b o, H b = some o → b ≠ m → b ≠ l → H' b = some o) → Q (.int r) H'
/-- the beginning -/
def spBegun (K : PySem.W.Frag) : Sp := fun vs H Q _ => ∃ (a : Addr) (ns : List Int), vs = [.ref a] ∧ SqL K H a (ns.map V.int) ∧ ns.length ≤ 1000 ∧
  ∀ (m c l : Addr) (H' : Hp), MAt H' m c l 0 → H m = none → H c = none → H l = none → Same H H' → Q (.ref m) H'
structure TxtD (mg : Str → Option Value) : Prop where
  list : mg "list" = none
  int : mg "int" = none
  len : mg "len" = none
theorem same_upd {H : Hp} {p : Addr} {o : HO} (h : H p = none) : Same H (upd H p o) := fun b u e => by
  rw [upd_ne (ne_of_none e h)]
  exact e
theorem MAt.same {H H' : Hp} {m c l : Addr} {k : Int} (M : MAt H m c l k) (s : Same H H') : MAt H' m c l k := by
  obtain ⟨h1, ⟨cs, h2, h3⟩, ⟨ls, h4, h5⟩, h6, h7, h8⟩ := M
  exact ⟨s _ _ h1, ⟨cs, s _ _ h2, h3⟩, ⟨ls, s _ _ h4, h5⟩, h6, h7, h8⟩
theorem MAt.set {H : Hp} {m c l : Addr} {k : Int} {ls : List Int} (M : MAt H m c l k) (hz : ls.length ≤ 1000) : MAt (upd H l (.lst (ls.map V.int))) m c l k := by
  obtain ⟨h1, ⟨cs, h2, h3⟩, ⟨ls0, h4, h5⟩, h6, h7, h8⟩ := M
  have ml : m ≠ l := ne_of h1 h4 (fun z => by cases z)
  exact ⟨by rw [upd_ne ml]; exact h1, ⟨cs, by rw [upd_ne h6]; exact h2, h3⟩, ⟨ls, upd_same, hz⟩, h6, h7, h8⟩
/-- another list of great cells -/
theorem MAt.turn {H : Hp} {m c l p : Addr} {k : Int} {ls : List Int} (M : MAt H m c l k) (hp : H p = none) (hz : ls.length ≤ 1000) : MAt (upd (upd H p (.lst (ls.map V.int))) m (.dK (mkv c p k))) m c p k := by
  obtain ⟨h1, ⟨cs, h2, h3⟩, ⟨ls0, h4, h5⟩, h6, h7, h8⟩ := M
  have mp : p ≠ m := (ne_of_none h1 hp).symm
  have cp : c ≠ p := ne_of_none h2 hp
  have cm : c ≠ m := ne_of h2 h1 (fun z => by cases z)
  exact ⟨upd_same, ⟨cs, by rw [upd_ne cm, upd_ne cp]; exact h2, h3⟩, ⟨ls, by rw [upd_ne mp]; exact upd_same, hz⟩, cp, h7, h8⟩
/-- another counter -/
theorem MAt.count {H : Hp} {m c l : Addr} {k k' : Int} (M : MAt H m c l k) (h0 : 0 ≤ k') (h1' : k' ≤ 1000000) : MAt (upd H m (.dK (mkv c l k'))) m c l k' := by
  obtain ⟨h1, ⟨cs, h2, h3⟩, ⟨ls0, h4, h5⟩, h6, h7, h8⟩ := M
  have lm : l ≠ m := ne_of h4 h1 (fun z => by cases z)
  have cm : c ≠ m := ne_of h2 h1 (fun z => by cases z)
  exact ⟨upd_same, ⟨cs, by rw [upd_ne cm]; exact h2, h3⟩, ⟨ls0, by rw [upd_ne lm]; exact h4, h5⟩, h6, h0, h1'⟩
section
variable {K : PySem.W.Frag} {σ : St} {H : Hp} {m c l : Addr} {k : Int}
theorem rd_left {Q : VK} (h0 : σ[0]? = some (some (.ref m))) (M : MAt H m c l k) (q : Q (.ref l) H) : tDGet (tVar 0) (tC (.str "left")) σ H Q := by
  have z : DGet H m (.str "left") (valV (mkv c l k) (Sum.inr "left" : Key)) := DGet.k (k := Sum.inr "left") M.hm
  rw [v_left] at z
  exact ⟨_, h0, m, _, rfl, z, q⟩
theorem rd_cells {Q : VK} (h0 : σ[0]? = some (some (.ref m))) (M : MAt H m c l k) (q : Q (.ref c) H) : tDGet (tVar 0) (tC (.str "cells")) σ H Q := by
  have z : DGet H m (.str "cells") (valV (mkv c l k) (Sum.inr "cells" : Key)) := DGet.k (k := Sum.inr "cells") M.hm
  rw [v_cells] at z
  exact ⟨_, h0, m, _, rfl, z, q⟩
theorem rd_at {Q : VK} (h0 : σ[0]? = some (some (.ref m))) (M : MAt H m c l k) (q : Q (.int k) H) : tDGet (tVar 0) (tC (.str "at")) σ H Q := by
  have z : DGet H m (.str "at") (valV (mkv c l k) (Sum.inr "at" : Key)) := DGet.k (k := Sum.inr "at") M.hm
  rw [v_at] at z
  exact ⟨_, h0, m, _, rfl, z, q⟩
/-- a list of ints against the empty one -/
theorem ne_empty {Q : Bool → Hp → Prop} {a : Addr} {ls : List Int} (hl : H a = some (.lst (ls.map V.int))) (q : ∀ p, H p = none → Q (!ls.isEmpty) (upd H p (.lst []))) :
    tLst tNil σ H fun y H2 => rNeD K (.ref a) y H2 fun x H' => ∃ k, x = .bl k ∧ Q k H' := by
  refine ⟨by decide, fun p hp => ⟨.list (ls.map PyData.int), .list [], dp_list (same_upd hp _ _ hl), .lst (SqL.of upd_same) .nil, shaped_ints ls, shaped_ints [], _, rfl, ?_⟩⟩
  rw [eqv_nil]
  exact q p hp
theorem cut_one (ls : List Int) : cutV (ls.map V.int) (some 1) none = (ls.drop 1).map V.int := by
  unfold cutV
  have e1 : HT.sIx (ls.map V.int).length 0 (some 1) = min 1 (ls.map V.int).length := HT.sIx_nat _ _ 1
  rw [e1, HT.sIx_none]
  cases ls with
  | nil => rfl
  | cons x r =>
    have e2 : min 1 ((x :: r).map V.int).length = 1 := by simp
    rw [e2]
    show List.take ((x :: r).map V.int).length.pred (r.map V.int) = r.map V.int
    exact List.take_of_length_le (by simp)
end
theorem byAll {P : Int → Prop} {G : Prop} (a : (∀ x, P x) → G) (b : ∀ x, P x) : G := a b
theorem iteF' {b : Bool} {A B : Prop} (h : b = false) (q : B) : if b = true then A else B := by
  rw [h]
  exact iteF q
theorem iteT' {b : Bool} {A B : Prop} (h : b = true) (q : A) : if b = true then A else B := by
  rw [h]
  exact iteT q
theorem seq_while {tc : TT} {tb u : TS} {D : Ends} {σ : St} {H : Hp} (W : Nat → Hp → Prop) (R : Hp → Prop) {j0 : Nat} (h0 : W j0 H) (hr : ∀ H2, R H2 → u D σ H2)
    (turn : (∀ H2, R H2 → u D σ H2) → ∀ j H1, W j H1 → tc σ H1 fun b H2 => if b = true then
      ∃ N : St → Hp → Prop, (∀ σ' H', N σ' H' → ∃ j', j' < j ∧ (σ' = σ ∧ W j' H')) ∧ tb { nx := N, rt := D.rt, bk := u D, ct := N } σ H2 else u D σ H2) :
    tSeq (tWhile tc tb) u D σ H := by
  refine ⟨fun j σ' H' => σ' = σ ∧ W j H', ⟨j0, rfl, h0⟩, ?_⟩
  rintro j σ' H1 ⟨rfl, w⟩
  exact turn hr j H1 w
section
variable {P : Program} {w : World} {K : PySem.W.Frag} {mg : Str → Option Value} {base : Heap}
theorem scN : FnScope ["m", "many", "rest", "k", "cell", "mixed"] ["m", "many"] (defScope sNext) := ⟨rfl, rfl, rfl, by decide +kernel, rfl, by decide +kernel, by decide +kernel⟩
theorem ok_next {f : Addr} {fd : FuncData} (F : Fun K "_law_next" "_law_next" sNext f fd) (T : TxtD mg) : FnOk P w K mg base CX0 1 f fd ["m", "many"] spNext := by
  refine F.ok scN (fun vs H Q E h => ?_) (fun cdv A outer s H vs Q E hr h => ?_)
  · obtain ⟨m, c, l, k, n, rfl, _⟩ := h
    rfl
  · obtain ⟨m, c, l, k, n, rfl, M, n0, n1, kk, q⟩ := h
    have hu := hu_of hr
    have hu2 := hr.units
    refine ⟨_, pss_cons (ps_while PassesOwn.never
        (pw_and (pt_cmpR (op_neD hu2) (pe_dget hu (pv 0) pe_str (fun _ _ => rfl)) (pe_lst pa_nil) (nomark _))
          (pw_and1 (pt_cmpR op_eq (pe_ix ix_list (pe_dget hu (pv 0) pe_str (fun _ _ => rfl)) pe_int (fun _ _ => rfl)) pe_int (nomark _)))).pt
        (pss_one (ps_dput hu (pv 0) pe_str (pe_slice sl_list (pe_dget hu (pv 0) pe_str (fun _ _ => rfl)) (po_some pe_int) po_none) rfl)))
      (pss_cons (ps_if (pt_cmpR (op_neD hu2) (pe_dget hu (pv 0) pe_str (fun _ _ => rfl)) (pe_lst pa_nil) (nomark _))
        (pss_cons (ps_set (i := 2) scN.nd rfl (Or.inl rfl) (pe_callTy call_int1 (by rfl) T.int (by decide +kernel) (pa_cons (pe_ix ix_list (pe_dget hu (pv 0) pe_str (fun _ _ => rfl)) pe_int (fun _ _ => rfl)) pa_nil)))
        (pss_cons (ps_asg (pe_op op_fdiv (pv 2) (pv 1)) (pg_sub (pe_dget hu (pv 0) pe_str (fun _ _ => rfl)) pe_int set_list))
        (pss_one (ps_ret (pe_op op_mod (pv 2) (pv 1)))))) pss_nil)
      (pss_cons (ps_set (i := 3) scN.nd rfl (Or.inl rfl) (pe_op op_add (pe_dget hu (pv 0) pe_str (fun _ _ => rfl)) pe_int))
      (pss_cons (ps_dput hu (pv 0) pe_str (pv 3) rfl)
      (pss_cons (ps_set (i := 4) scN.nd rfl (Or.inl rfl) (pe_ifExp (pt_cmpR (op_neD hu2) (pe_dget hu (pv 0) pe_str (fun _ _ => rfl)) (pe_lst pa_nil) (nomark _))
        (pe_ix ix_list (pe_dget hu (pv 0) pe_str (fun _ _ => rfl))
          (pe_op op_mod (pe_callTy call_int1 (by rfl) T.int (by decide +kernel) (pa_cons (pv 3) pa_nil)) (pe_callB call_len_seq (by rfl) T.len PySem.boot_len (pa_cons (pe_dget hu (pv 0) pe_str (fun _ _ => rfl)) pa_nil))) (fun _ _ => rfl))
        pe_int))
      (pss_cons (ps_set (i := 5) scN.nd rfl (Or.inl rfl) (pe_op op_mul (pe_callTy call_int1 (by rfl) T.int (by decide +kernel) (pa_cons
        (pe_op op_add (pe_op op_add (pe_op op_mod (pe_callTy call_int1 (by rfl) T.int (by decide +kernel) (pa_cons (pv 4) pa_nil)) pe_int) (pe_op op_mul pe_int (pv 3))) (pe_op op_mul (pe_op op_mul pe_int (pv 3)) (pv 3))) pa_nil)) pe_int))
      (pss_cons (ps_set (i := 5) scN.nd rfl (Or.inl rfl) (pe_op op_mul (pe_callTy call_int1 (by rfl) T.int (by decide +kernel) (pa_cons
        (pe_op op_add (pe_op op_mod (pe_callTy call_int1 (by rfl) T.int (by decide +kernel) (pa_cons (pv 5) pa_nil)) pe_int) (pe_op op_mul pe_int (pv 3))) pa_nil)) pe_int))
      (pss_one (ps_ret (pe_op op_mod (pe_callTy call_int1 (by rfl) T.int (by decide +kernel) (pa_cons
        (pe_op op_fdiv (pe_op op_mod (pe_callTy call_int1 (by rfl) T.int (by decide +kernel) (pa_cons (pv 5) pa_nil)) pe_int) pe_int) pa_nil)) (pv 1)))))))))), ?_⟩
    obtain ⟨ls0, hl0, ll0⟩ := id M.hl
    refine seq_while (fun j H1 => ∃ (l1 : Addr) (ls : List Int), MAt H1 m c l1 k ∧ H1 l1 = some (.lst (ls.map V.int)) ∧ ls.length = j ∧ (l1 = l ∨ H l1 = none) ∧ (∀ b o, H b = some o → b ≠ m → b ≠ l → H1 b = some o) ∧ ∃ o, H1 l = some o)
      (fun H1 => ∃ (l1 : Addr) (ls : List Int), MAt H1 m c l1 k ∧ H1 l1 = some (.lst (ls.map V.int)) ∧ (l1 = l ∨ H l1 = none) ∧ (∀ b o, H b = some o → b ≠ m → b ≠ l → H1 b = some o))
      ⟨l, ls0, M, hl0, rfl, .inl rfl, fun b o e _ _ => e, _, hl0⟩ ?_ ?_
    · rintro H1 ⟨l1, ls, M1, hl, fl, kp⟩
      refine rd_left rfl M1 (ne_empty hl fun p hp => ?_)
      have M2 := MAt.same M1 (same_upd (o := .lst []) hp)
      have hl2 : upd H1 p (.lst []) l1 = some (.lst (ls.map V.int)) := same_upd hp _ _ hl
      cases ls with
      | cons x r =>
        refine iteT' rfl ?_
        refine rd_left rfl M2 ?_
        refine ⟨l1, _, 0, .int x, rfl, rfl, SqL.of hl2, atI_nat (j := 0) rfl, .inl ⟨x, rfl, ?_⟩⟩
        refine ⟨_, rfl, _, rfl, x, n, rfl, rfl, ⟨n0, by omega⟩, ?_⟩
        refine rd_left rfl M2 ?_
        refine ⟨l1, _, 0, 0, rfl, rfl, hl2, by simp [ixN], ?_⟩
        refine ⟨_, rfl, _, rfl, x, n, rfl, rfl, n0, ?_⟩
        show Q (.int (x % n)) _
        have hz : ((x / n) :: r).length ≤ 1000 := by
          obtain ⟨ls', e1, e2⟩ := M2.hl
          rw [hl2] at e1
          have e3 := congrArg List.length (HO.lst.inj (Option.some.inj e1))
          simp only [List.length_map] at e3
          rw [List.length_cons] at e3 ⊢
          omega
        refine q (x % n) _ l1 k (Int.emod_nonneg _ (by omega)) (Int.emod_lt_of_pos _ n0) (by omega) (M2.set hz) fl fun b o e h1 h2 => ?_
        have h3 : b ≠ l1 := by
          rcases fl with z | z
          · rw [z]
            exact h2
          · exact ne_of_none e z
        rw [upd_ne h3]
        exact same_upd hp _ _ (kp b o e h1 h2)
      | nil =>
        refine iteF' rfl ?_
        refine rd_at rfl M2 ⟨k, 1, rfl, rfl, ?_⟩
        refine ⟨_, rfl, _, rfl, m, _, rfl, DPut.k (k := Sum.inr "at") M2.hm (small1000 (by show 3 ≤ 1000; decide)), ?_⟩
        rw [p_at]
        have M3 := M2.count (k' := k + 1) (by have := M2.k0; omega) (by omega)
        obtain ⟨cs, hc, lc⟩ := id M3.hc
        have k0 := M.k0
        have kp3 : ∀ b o, H b = some o → b ≠ m → b ≠ l → upd (upd H1 p (.lst [])) m (.dK (mkv c l1 (k + 1))) b = some o := fun b o e h1 h2 => by
          rw [upd_ne h1]
          exact same_upd hp _ _ (kp b o e h1 h2)
        refine rd_cells rfl M3 (ne_empty hc fun p3 hp3 => ?_)
        have M4 := MAt.same M3 (same_upd (o := .lst []) hp3)
        have hc4 := same_upd (o := .lst []) hp3 _ _ hc
        have kp4 : ∀ b o, H b = some o → b ≠ m → b ≠ l → upd (upd (upd H1 p (.lst [])) m (.dK (mkv c l1 (k + 1)))) p3 (.lst []) b = some o := fun b o e h1 h2 => same_upd hp3 _ _ (kp3 b o e h1 h2)
        apply byAll
        case a =>
          intro fin
          by_cases he : cs.isEmpty = true
          · refine iteF' (by rw [he]; rfl) ?_
            generalize (3 : Int) = x
            exact fin x
          · refine iteT' (by simpa using he) ?_
            refine rd_cells rfl M4 ?_
            have ne0 : 0 < cs.length := List.length_pos_iff.mpr (fun z => he (by rw [z]; rfl))
            have pos : (0 : Int) < ((cs.map V.int).length : Nat) := by
              simp only [List.length_map]
              omega
            refine ⟨_, rfl, .inl ⟨k + 1, rfl, ?_⟩⟩
            refine rd_cells rfl M4 ?_
            refine ⟨c, _, rfl, .inl (SqL.of hc4), k + 1, _, rfl, rfl, pos, ?_⟩
            have i0 := Int.emod_nonneg (k + 1) (Int.ne_of_gt pos)
            have i1 := Int.emod_lt_of_pos (k + 1) pos
            obtain ⟨j, hj⟩ := Int.eq_ofNat_of_zero_le i0
            have jl : j < cs.length := by
              simp only [List.length_map] at i1 hj
              omega
            obtain ⟨x, hx⟩ : ∃ x : Int, cs[j]? = some x := ⟨cs[j], List.getElem?_eq_getElem jl⟩
            refine ⟨c, _, _, V.int x, rfl, rfl, SqL.of hc4, ?_, ?_⟩
            · rw [hj]
              refine atI_nat ?_
              rw [List.getElem?_map, hx]
              rfl
            · exact fin x
        case b =>
          intro x
          have k2 : -(2 ^ 64) < k + 1 ∧ k + 1 < 2 ^ 64 := ⟨by omega, by omega⟩
          refine ⟨_, rfl, .inl ⟨x, rfl, _, _, rfl, rfl, (by show (0 : Int) < 2147483629; decide), _, rfl, _, _, rfl, rfl, .inl ⟨by decide, by decide⟩, _, _, rfl, rfl, _, rfl, _, _, rfl, rfl, .inl ⟨by decide, by decide⟩,
            _, rfl, _, _, rfl, rfl, .inr k2, _, _, rfl, rfl, .inl ⟨_, rfl, _, _, rfl, rfl, .inr ⟨by decide, by decide⟩, ?_⟩⟩⟩
          refine ⟨_, rfl, .inl ⟨_, rfl, _, _, rfl, rfl, (by show (0 : Int) < 2147483647; decide), _, rfl, _, _, rfl, rfl, .inl ⟨by decide, by decide⟩, _, _, rfl, rfl, .inl ⟨_, rfl, _, _, rfl, rfl, .inr ⟨by decide, by decide⟩, ?_⟩⟩⟩
          refine ⟨_, rfl, .inl ⟨_, rfl, _, _, rfl, rfl, (by show (0 : Int) < 2147483587; decide), _, _, rfl, rfl, ⟨by decide, by decide⟩, .inl ⟨_, rfl, _, rfl, _, _, rfl, rfl, n0, ?_⟩⟩⟩
          exact q _ _ l1 (k + 1) (Int.emod_nonneg _ (by omega)) (Int.emod_lt_of_pos _ n0) (by omega) M4 fl kp4
    · rintro out j H1 ⟨l1, ls, M1, hl, lj, fl, kp, lo⟩
      refine rd_left rfl M1 (ne_empty hl fun p hp => ?_)
      have M2 := MAt.same M1 (same_upd (o := .lst []) hp)
      have hl2 : upd H1 p (.lst []) l1 = some (.lst (ls.map V.int)) := same_upd hp _ _ hl
      have kp2 : ∀ b o, H b = some o → b ≠ m → b ≠ l → upd H1 p (.lst []) b = some o := fun b o e h1 h2 => same_upd hp _ _ (kp b o e h1 h2)
      have lo2 : ∃ o, upd H1 p (.lst []) l = some o := lo.elim fun o e => ⟨o, same_upd hp _ _ e⟩
      cases ls with
      | nil =>
        refine iteF' rfl (iteF' rfl ?_)
        exact out _ ⟨l1, [], M2, hl2, fl, kp2⟩
      | cons x r =>
        refine iteT' rfl (rd_left rfl M2 ⟨l1, _, 0, .int x, rfl, rfl, SqL.of hl2, atI_nat (j := 0) rfl, rfl, _, rfl, ?_⟩)
        refine ite2 (fun z => ?_) (fun z => ?_)
        · refine ⟨_, fun _ _ z => z, ?_⟩
          refine rd_left rfl M2 ⟨1, rfl, l1, _, rfl, SqL.of hl2, fun p2 hp2 => ?_⟩
          have M3 : MAt (upd (upd H1 p (.lst [])) p2 (.lst (cutV ((x :: r).map V.int) (some 1) none))) m c l1 k := MAt.same M2 (same_upd hp2)
          refine ⟨_, rfl, m, _, rfl, DPut.k (k := Sum.inr "left") M3.hm (small1000 (by show 3 ≤ 1000; decide)), ?_⟩
          rw [p_left, cut_one]
          have hz : ((x :: r).drop 1).length ≤ 1000 := by
            obtain ⟨ls', e1, e2⟩ := M2.hl
            rw [hl2] at e1
            have e3 := congrArg List.length (HO.lst.inj (Option.some.inj e1))
            simp only [List.length_map] at e3
            rw [List.length_cons] at e3
            simp only [List.drop_succ_cons, List.drop_zero]
            omega
          have mp : p2 ≠ m := (ne_of_none M2.hm hp2).symm
          refine ⟨r.length, by rw [← lj]; simp, rfl, p2, r, M2.turn hp2 hz, by rw [upd_ne mp]; exact upd_same, rfl, .inr ?_, fun b o e h1 h2 => ?_, ?_⟩
          · cases q0 : H p2 with
            | none => rfl
            | some o =>
              have a2 : p2 ≠ l := by
                obtain ⟨o, e⟩ := lo2
                exact (ne_of_none e hp2).symm
              rw [kp2 p2 o q0 mp a2] at hp2
              cases hp2
          · rw [upd_ne h1]
            exact same_upd hp2 _ _ (kp2 b o e h1 h2)
          · obtain ⟨o, e⟩ := lo2
            refine ⟨o, ?_⟩
            by_cases lm : l = m
            · subst lm
              rw [M.hm] at hl0
              cases hl0
            · rw [upd_ne lm]
              exact same_upd hp2 _ _ e
        · exact out _ ⟨l1, x :: r, M2, hl2, fl, kp2⟩
theorem scB : FnScope ["script", "cell"] ["script"] (defScope sBegun) := ⟨rfl, rfl, rfl, by decide +kernel, rfl, by decide +kernel, by decide +kernel⟩
theorem ok_begun {f : Addr} {fd : FuncData} (F : Fun K "_law_begun" "_law_begun" sBegun f fd) (T : TxtD mg) : FnOk P w K mg base CX0 1 f fd ["script"] (spBegun K) := by
  refine F.ok scB (fun vs H Q E h => ?_) (fun cdv A outer s H vs Q E hr h => ?_)
  · obtain ⟨a, ns, rfl, _⟩ := h
    rfl
  · obtain ⟨a, ns, rfl, hS, hl, q⟩ := h
    refine ⟨_, pss_one (ps_ret (pe_disp (pps_cons pe_str (pe_callTy call_list_of (by rfl) T.list (by decide +kernel) (pa_cons (pv 0) pa_nil))
      (pps_cons pe_str (pe_lc (own := [("cell", 1)]) (g := gName 1) rfl scB.nd (pi_list (pv 0)) (blkOk_by (N := ["script", "cell"]) (sc := defScope sBegun) (by decide +kernel))
        (fun _ _ _ _ _ => pg_name (i := 1) scB.nd rfl (Or.inl rfl)) (fun _ _ _ _ _ => pts_one (pt_cmpR op_ge (pv 1) (pe_op op_pow pe_int pe_int) (nomark _))) (fun _ _ _ _ _ => pv 1))
      (pps_cons pe_str pe_int pps_nil))) rfl rfl (by simp) (by decide))), ?_⟩
    intro m hm
    have s1 : Same H (upd H m (.dK [])) := same_upd hm
    refine ⟨_, rfl, a, ns.map V.int, rfl, .inl (s1.seq hS), fun c hc => ?_⟩
    have s2 := s1.trans (same_upd (o := .lst (ns.map V.int)) hc)
    refine ⟨_, rfl, a, rfl, ⟨_, s2.seq hS⟩, fun l hl0 => ?_⟩
    have mc : m ≠ c := ne_of_none upd_same hc
    have hm2 : upd (upd H m (.dK [])) c (.lst (ns.map V.int)) m = some (.dK []) := by
      rw [upd_ne mc]
      exact upd_same
    have ml : m ≠ l := ne_of_none hm2 hl0
    have cl : c ≠ l := ne_of_none (upd_same) hl0
    refine lc_list (K := K) (a := a) (xs := ns.map V.int) (fun i H' => ∃ acc : List Int, H' l = some (.lst (acc.map V.int)) ∧ acc.length ≤ i ∧ ∀ b o, upd (upd H m (.dK [])) c (.lst (ns.map V.int)) b = some o → H' b = some o)
      ⟨[], upd_same, Nat.le_refl _, fun b o e => same_upd hl0 _ _ e⟩ (fun i H' _ ⟨acc, _, _, k⟩ => Same.seq (s2.trans k) hS) ?_ ?_
    · rintro i x H' hi ⟨acc, ha, la, kp⟩
      obtain ⟨z, rfl⟩ : ∃ z, x = V.int z := by
        rw [List.getElem?_map] at hi
        cases e : ns[i]? with
        | none =>
          rw [e] at hi
          cases hi
        | some z =>
          rw [e] at hi
          exact ⟨z, (Option.some.inj hi).symm⟩
      have il : i < ns.length := by
        have := (List.getElem?_eq_some_iff.mp hi).1
        simpa using this
      refine ⟨rfl, _, rfl, 10, 18, rfl, rfl, ⟨by decide, by decide, by decide⟩, _, _, rfl, rfl, _, rfl, ?_⟩
      refine ite2 (fun _ => ⟨_, rfl, acc.map V.int, ha, ?_, acc ++ [z], ?_, ?_, fun b o e => ?_⟩) (fun _ => ⟨acc, ha, Nat.le_succ_of_le la, kp⟩)
      · rw [List.length_map]
        exact small1000 (by omega)
      · rw [List.map_append]
        exact upd_same
      · simp only [List.length_append, List.length_cons, List.length_nil]
        omega
      · rw [upd_ne (ne_of_none e hl0)]
        exact kp b o e
    · rintro H' ⟨acc, ha, la, kp⟩
      rw [List.length_map] at la
      refine ⟨kp _ _ hm2, mkv c l 0, rfl, (by show 3 ≤ 15; decide), ?_⟩
      rw [mk_merge]
      have lm : l ≠ m := ml.symm
      have cm : c ≠ m := mc.symm
      refine q m c l _ ⟨upd_same, ⟨ns, by rw [upd_ne cm]; exact kp _ _ upd_same, hl⟩, ⟨acc, by rw [upd_ne lm]; exact ha, by omega⟩, cl, by decide, by decide⟩ hm (s1.free hc) (s2.free hl0) fun b o e => ?_
      rw [upd_ne (ne_of_none e hm)]
      exact kp _ _ (s2 _ _ e)
end
end K07

set_option Elab.async false
set_option linter.all false
set_option maxRecDepth 100000
set_option maxHeartbeats 4000000
/-! is_number, is_piece, is_step: of what a framing holds. -/
namespace K07
open PySem L2 L2.EV
abbrev sNum : Stmt := top 6
def sgs : List Nat := sl ("abcdefghijklmnopqrstuvwxyz0123456789@" : Str)
theorem no59 : ¬ (59 ∈ sgs) := by decide +kernel
theorem semi : sl (";" : Str) = [59] := by decide +kernel
theorem semi1 : (";" : Str).length = 1 := by decide +kernel
/-- a piece; it ends a line if last -/
def Pc (p : Str) (last : Bool) : Prop := ∃ b : List Nat, sl p = b ++ (if last = true then [59] else []) ∧ b.length ≤ 7 ∧ (∀ c ∈ b, c ∈ sgs) ∧ (last = false → b ≠ [])
theorem len_sl (p : Str) : p.length = (sl p).length := by
  show p.cps.size = p.cps.toList.length
  simp
theorem pc_len {p : Str} {l : Bool} (h : Pc p l) : 1 ≤ p.length ∧ p.length ≤ 8 := by
  obtain ⟨b, e, h1, _, h2⟩ := h
  rw [len_sl, e, List.length_append]
  cases l with
  | true =>
    rw [if_pos rfl]
    simp only [List.length_cons, List.length_nil]
    omega
  | false =>
    have := List.length_pos_iff.mpr (h2 rfl)
    rw [if_neg (by simp)]
    simp only [List.length_nil]
    omega
theorem at_end {p : Str} : Builtin.Str.subAt p ";" (p.length - (";" : Str).length) = (((sl p).drop ((sl p).length - 1)).take 1 == [59]) := by
  rw [StrLaws.subAt_eq, semi1, len_sl]
  show (((sl p).drop _).take 1 == sl (";" : Str)) = _
  rw [semi]
theorem pc_last {p : Str} {l : Bool} (h : Pc p l) : (decide (0 + (";" : Str).length ≤ p.length) && Builtin.Str.subAt p ";" (p.length - (";" : Str).length)) = l := by
  have z := pc_len h
  rw [at_end]
  have d : decide (0 + (";" : Str).length ≤ p.length) = true := decide_eq_true (by rw [semi1]; omega)
  rw [d, Bool.true_and]
  obtain ⟨b, e, h1, hb, h2⟩ := h
  rw [e]
  cases l with
  | true =>
    rw [if_pos rfl]
    simp
  | false =>
    rw [if_neg (by simp), List.append_nil]
    obtain ⟨M, y, rfl⟩ := SrtO.snoc_of (l := b) (List.length_pos_iff.mpr (h2 rfl))
    have hy : y ∈ sgs := hb y (by simp)
    have ne : ¬ y = 59 := fun q => no59 (q ▸ hy)
    simp [ne]
theorem pc_ends {p : Str} {l : Bool} (h : Pc p l) : Txt.endswith p ";" = l := pc_last h
theorem pc_cut {p : Str} {l : Bool} (h : Pc p l) : ∀ c ∈ sl (Txt.removesuffix p ";"), c ∈ sgs := by
  have z := pc_last h
  rw [StrLaws.removesuffix_eq]
  rw [show (decide (0 + (";" : Str).length ≤ p.length) && Builtin.Str.subAt p ";" (p.length - (";" : Str).length)) = l from z]
  obtain ⟨b, e, h1, hb, h2⟩ := h
  intro c hc
  cases l with
  | true =>
    rw [if_pos rfl] at hc e
    rw [semi1, len_sl] at hc
    have e' : p.cps.toList = b ++ [59] := e
    simp only [e, e', List.drop_zero, List.length_append, List.length_cons, List.length_nil] at hc
    have : (b ++ [59]).take (b.length + (0 + 1) - 1 - 0) = b := by simp
    rw [this] at hc
    exact hb c (by simpa using hc)
  | false =>
    rw [if_neg (by simp)] at hc
    rw [e, if_neg (by simp), List.append_nil] at hc
    exact hb c hc
/-- is_number(n, many) -/
def spNum : Sp := fun vs H Q _ => ∃ n m : Int, vs = [.int n, .int m] ∧ Q (.bl (decide (0 ≤ n) && decide (n < m))) H
/-- is_piece(p), p a piece -/
def spPc : Sp := fun vs H Q _ => ∃ (p : Str) (l : Bool), vs = [.str p] ∧ Pc p l ∧ ∀ H', Same H H' → Q (.bl true) H'
/-- what a step is -/
def Stp (x : T3) : Prop := 0 ≤ x.1 ∧ x.1 < 6 ∧ Pc x.2.1 (decide (x.2.2 = 0)) ∧ 0 ≤ x.2.2 ∧ x.2.2 < 6
/-- a step at t -/
abbrev S3 (H : Hp) (t : Addr) (x : T3) : Prop := H t = some (.tup [.int x.1, .str x.2.1, .int x.2.2])
def spStep : Sp := fun vs H Q _ => ∃ (t : Addr) (x : T3), vs = [.ref t] ∧ S3 H t x ∧ Stp x ∧ ∀ H', Same H H' → Q (.bl true) H'
structure TxtF (mg : Str → Option Value) : Prop where
  isi : mg "isinstance" = none
  int : mg "int" = none
  bool : mg "bool" = none
  str : mg "str" = none
  tuple : mg "tuple" = none
  len : mg "len" = none
  all : mg "all" = none
  signs : ∃ t, mg "SIGNS" = some (.str "abcdefghijklmnopqrstuvwxyz0123456789@" t)
section
variable {P : Program} {w : World} {K : PySem.W.Frag} {mg : Str → Option Value} {base : Heap}
theorem scNum : FnScope ["thing", "many"] ["thing", "many"] (defScope sNum) := ⟨rfl, rfl, rfl, by decide +kernel, rfl, by decide +kernel, by decide +kernel⟩
theorem ok_num {f : Addr} {fd : FuncData} (F : Fun K "is_number" "is_number" sNum f fd) (T : TxtF mg) : FnOk P w K mg base CX0 1 f fd ["thing", "many"] spNum := by
  refine F.ok scNum (fun vs H Q E h => ?_) (fun cdv A outer s H vs Q E hr h => ?_)
  · obtain ⟨n, m, rfl, _⟩ := h
    rfl
  · obtain ⟨n, m, rfl, q⟩ := h
    refine ⟨_, pss_one (ps_ret (pe_and (pe_callB call_isi (by rfl) T.isi PyProof.Rows.boot_isinstance (pa_cons (pv 0) (pa_cons (pe_bltn (v := .ty "int") (by rfl) T.int (by decide +kernel) rfl) pa_nil)))
      (pe_and (pe_not (pe_callB call_isi (by rfl) T.isi PyProof.Rows.boot_isinstance (pa_cons (pv 0) (pa_cons (pe_bltn (v := .ty "bool") (by rfl) T.bool (by decide +kernel) rfl) pa_nil))))
        (pe_one (pe_chain op_le op_lt pe_int (pv 0) (pv 1)))))), ?_⟩
    refine ⟨_, rfl, .int n, .ty "int", .type "int", .type "int", true, rfl, .ty "int", .base (.int n), kit_ty (by decide +kernel), true, rfl, iteT ?_⟩
    refine ⟨_, rfl, .int n, .ty "bool", .type "int", .type "bool", false, rfl, .ty "bool", .base (.int n), kit_ty (by decide +kernel), false, rfl, true, rfl, iteT ?_⟩
    refine ⟨_, rfl, 0, n, rfl, rfl, _, rfl, ?_⟩
    refine ite2 (fun z => ?_) (fun z => ?_)
    · refine ⟨_, rfl, n, m, rfl, rfl, ?_⟩
      rw [z, Bool.true_and] at q
      exact q
    · rw [eq_false_of_ne_true z, Bool.false_and] at q
      exact q
end
end K07

set_option Elab.async false
set_option linter.all false
set_option maxRecDepth 100000
set_option maxHeartbeats 4000000
/-! {elt for tg in iter if .. for tg1 in iter1 if ..}: a set of ints by a comprehension of two clauses. -/
namespace L2
namespace EV
open PySem PySem.Spec PyProof.Rows
/-- the comprehension itself -/
abbrev sc2 (elt t0 i0 t1 i1 : Expr) (f0 f1 : List Expr) (sc : Scope) (pos : Pos) : Expr := .SetComp elt [⟨t0, i0, f0, 0⟩, ⟨t1, i1, f1, 0⟩] sc pos
section
variable (elt t0 i0 t1 i1 : Expr) (f0 f1 : List Expr) (sc : Scope) (pos : Pos) (it acc : Value) (env : Env)
theorem turn_outer : compTurn (sc2 elt t0 i0 t1 i1 f0 f1 sc pos) 0 it acc env = (do
    standAt i0.pos
    match ← pyNext it with
    | none => pure (.done .next)
    | some u =>
      letOwnedTupleGo t0 it u
      assign t0 env u
      let mut go := true
      for c in f0 do
        if go then go ← isTrue c env (eval c env)
      if go then
        let xs ← eval i1 env
        standAt i1.pos
        let xs ← foldedSetIterable i1 env xs
        let _ ← runOwn (.compStart (sc2 elt t0 i0 t1 i1 f0 f1 sc pos) 1 (← holding [xs] (pyIter xs)) acc env) env
      again (.compLoop (sc2 elt t0 i0 t1 i1 f0 f1 sc pos) 0 it acc env)) := by rfl
theorem turn_inner : compTurn (sc2 elt t0 i0 t1 i1 f0 f1 sc pos) 1 it acc env = (do
    standAt i1.pos
    match ← pyNext it with
    | none => pure (.done .next)
    | some u =>
      letOwnedTupleGo t1 it u
      assign t1 env u
      let mut go := true
      for c in f1 do
        if go then go ← isTrue c env (eval c env)
      if go then
        (do let y ← eval elt env; standAt elt.pos; let _ ← call (.builtin "set.add") [acc, y])
      again (.compLoop (sc2 elt t0 i0 t1 i1 f0 f1 sc pos) 1 it acc env)) := by rfl
end
section
variable {prog : Program} {w : World} {A : Around} {R : Result → Shared → Prop} {s : Shared} {elt t0 i0 t1 i1 : Expr} {f0 f1 : List Expr} {sc : Scope} {pos : Pos} {it acc : Value} {env : Env}
/-- what is wanted of an error in the block -/
abbrev Erx (prog : Program) (w : World) (A : Around) (env : Env) (R : Result → Shared → Prop) : Value → Shared → Prop := notedBy (model prog w) A env fun e s' => R (.error e) s'
/-- the tests of a clause -/
abbrev tests (fs : List Expr) (env : Env) : Sem Bool := forIn fs true fun c r => if r = true then do let ok ← isTrue c env (eval c env); pure (ForInStep.yield ok) else pure (ForInStep.yield r)
theorem loop_outer (fold : ∀ x, foldedSetIterable i1 env x = pure x) (J : Nat → Shared → Prop)
    (turn : ∀ n s, J n s → wpAny (model prog w) A (pyNext it) (fun r s1 => match r with
      | none => R (.ok .next) s1
      | some u => wpAny (model prog w) A (letOwnedTupleGo t0 it u) (fun _ s2 => wpAny (model prog w) A (assign t0 env u) (fun _ s3 => wpAny (model prog w) A (tests f0 env) (fun ok s4 =>
          if ok = true then wpAny (model prog w) A (eval i1 env) (fun xs s5 => wpAny (model prog w) A (pyIter xs) (fun itv s6 =>
            codeAny (model prog w) A (.compStart (sc2 elt t0 i0 t1 i1 f0 f1 sc pos) 1 itv acc env) (fun r s' => (∃ fl, r = .ok fl) ∧ ∃ m, m < n ∧ J m s') s6) (Erx prog w A env R) s5) (Erx prog w A env R) s4
          else ∃ m, m < n ∧ J m s4) (Erx prog w A env R) s3) (Erx prog w A env R) s2) (Erx prog w A env R) s1) (Erx prog w A env R) s) (n : Nat) (h : J n s) :
    codeAny (model prog w) A (.compLoop (sc2 elt t0 i0 t1 i1 f0 f1 sc pos) 0 it acc env) R s := by
  refine codeAny_loop rfl J (fun n s hJ => ?_) n h
  show wpAny _ A ((compTurn (sc2 elt t0 i0 t1 i1 f0 f1 sc pos) 0 it acc env).onRaise (fun x => do noteFrame x env; theTreesLotGoes x)) _ _ s
  refine wpAny_noted ?_
  rw [turn_outer]
  refine wpAny_bind (wpAny_standAt (wpAny_bind (wpAny_mono (turn n s hJ) (fun r s1 q1 => ?_) fun _ _ z => z)))
  cases r with
  | none => exact wpAny_pure q1
  | some u =>
    refine wpAny_bind (wpAny_mono q1 (fun _ s2 q2 => ?_) fun _ _ z => z)
    refine wpAny_bind (wpAny_mono q2 (fun _ s3 q3 => ?_) fun _ _ z => z)
    refine wpAny_bind (wpAny_mono q3 (fun ok s4 q4 => ?_) fun _ _ z => z)
    cases ok with
    | false => exact wpAny_pure ⟨rfl, q4⟩
    | true =>
      refine wpAny_bind (wpAny_mono q4 (fun xs s5 q5 => ?_) fun _ _ z => z)
      refine wpAny_bind (wpAny_standAt (wpAny_bind (wpAny_of_eq (fold xs) ?_)))
      refine wpAny_bind (wpAny_holding (wpAny_mono q5 (fun itv s6 q6 => ?_) fun _ _ z => z))
      refine wpAny_bind (wpAny_runOwn ?_)
      rw [Around.mark_none]
      refine codeAny_mono q6 fun r s' hr => ?_
      obtain ⟨⟨fl, rfl⟩, hm⟩ := hr
      first
        | exact wpAny_pure ⟨rfl, hm⟩
        | exact wpAny_bind (wpAny_pure (wpAny_pure ⟨rfl, hm⟩))
theorem loop_inner (J : Nat → Shared → Prop)
    (turn : ∀ n s, J n s → wpAny (model prog w) A (pyNext it) (fun r s1 => match r with
      | none => R (.ok .next) s1
      | some u => wpAny (model prog w) A (letOwnedTupleGo t1 it u) (fun _ s2 => wpAny (model prog w) A (assign t1 env u) (fun _ s3 => wpAny (model prog w) A (tests f1 env) (fun ok s4 =>
          if ok = true then wpAny (model prog w) A (eval elt env) (fun y s5 => wpAny (model prog w) A (call (.builtin "set.add") [acc, y]) (fun _ s6 => ∃ m, m < n ∧ J m s6) (Erx prog w A env R) s5) (Erx prog w A env R) s4
          else ∃ m, m < n ∧ J m s4) (Erx prog w A env R) s3) (Erx prog w A env R) s2) (Erx prog w A env R) s1) (Erx prog w A env R) s) (n : Nat) (h : J n s) :
    codeAny (model prog w) A (.compLoop (sc2 elt t0 i0 t1 i1 f0 f1 sc pos) 1 it acc env) R s := by
  refine codeAny_loop rfl J (fun n s hJ => ?_) n h
  show wpAny _ A ((compTurn (sc2 elt t0 i0 t1 i1 f0 f1 sc pos) 1 it acc env).onRaise (fun x => do noteFrame x env; theTreesLotGoes x)) _ _ s
  refine wpAny_noted ?_
  rw [turn_inner]
  refine wpAny_bind (wpAny_standAt (wpAny_bind (wpAny_mono (turn n s hJ) (fun r s1 q1 => ?_) fun _ _ z => z)))
  cases r with
  | none => exact wpAny_pure q1
  | some u =>
    refine wpAny_bind (wpAny_mono q1 (fun _ s2 q2 => ?_) fun _ _ z => z)
    refine wpAny_bind (wpAny_mono q2 (fun _ s3 q3 => ?_) fun _ _ z => z)
    refine wpAny_bind (wpAny_mono q3 (fun ok s4 q4 => ?_) fun _ _ z => z)
    cases ok with
    | false => exact wpAny_pure ⟨rfl, q4⟩
    | true =>
      refine wpAny_bind (wpAny_bind (wpAny_mono q4 (fun y s5 q5 => ?_) fun _ _ z => z))
      refine wpAny_bind (wpAny_standAt (wpAny_bind (wpAny_mono q5 (fun _ s6 q6 => ?_) fun _ _ z => z)))
      exact wpAny_pure (wpAny_pure ⟨rfl, q6⟩)
/-- a clause's start: its walk is begun already, or begins here -/
theorem start_inner (h0 : codeAny (model prog w) A (.compLoop (sc2 elt t0 i0 t1 i1 f0 f1 sc pos) 1 it acc env) R s)
    (h : wpAny (model prog w) A (pyIter it) (fun itv s' => codeAny (model prog w) A (.compLoop (sc2 elt t0 i0 t1 i1 f0 f1 sc pos) 1 itv acc env) R s') (Erx prog w A env R) s) :
    codeAny (model prog w) A (.compStart (sc2 elt t0 i0 t1 i1 f0 f1 sc pos) 1 it acc env) R s := by
  refine codeAny_of_tree ?_
  show wpAny _ _ ((compStart (sc2 elt t0 i0 t1 i1 f0 f1 sc pos) 1 it acc env).onRaise (fun x => do noteFrame x env; standAt theWindowsPlace)) _ _ s
  refine wpAny_notedAt ?_
  unfold compStart
  show wpAny _ _ (ask >>= _) _ _ s
  refine wpAny_bind (wpAny_askSetting (wpAny_ite ?_))
  split
  · first
      | exact wpAny_bind (wpAny_pure (wpAny_pure (And.intro rfl h0)))
      | exact wpAny_pure (And.intro rfl h0)
  · refine wpAny_bind (wpAny_rule ?_)
    show wpAny _ _ (standAt i1.pos >>= _) _ _ s
    exact wpAny_bind (wpAny_standAt (wpAny_bind (wpAny_mono h (fun itv s' q => wpAny_pure (And.intro rfl q)) fun _ _ z => z)))
end
/-- the set at D has got y -/
def addedS (w : World) (D : Addr) (y : V) (H : Hp) (N : Hp → Prop) : Prop := ∃ (k : Int) (S : Int → Bool) (n : Nat), y = .int k ∧ H D = some (SetO w D S n) ∧ n + 1 < scanBound ∧
  N (upd H D (SetO w D (fun j => S j || decide (j = k)) (if S k = true then n else n + 1)))
/-- the reading: D the new set; behind the first clause's store and tests the second walk, from which Nx is reached -/
def tSc2 (w : World) (wi : TI) (g : TG) (tt : TT) (wi1 : TI) (g1 : TG) (tt1 : TT) (te : TE) (vs vs1 : List Nat) : TE := fun σ H Q => wi σ H fun J H1 => ∀ D, H1 D = none →
  ∃ W : Nat → Nat → Hp → Prop, (∃ m, W 0 m (upd H1 D (SetO w D (fun _ => false) 0))) ∧ ∀ i m H, W i m H →
    (J.stop i H ∧ Q (.ref D) H) ∨ (J.go i H ∧ ∃ Nx : Hp → Prop, (∀ H', Nx H' → ∃ m', m' < m ∧ W (i + 1) m' H') ∧ ∀ x H', J.yld i H x H' → g x (wipe σ vs) H' fun σ2 H2 => wipe σ2 vs = wipe σ vs ∧ tt σ2 H2 fun b H3 =>
      if b = true then wi1 σ2 H3 fun J1 H4 => ∃ W1 : Nat → Nat → Hp → Prop, (∃ m, W1 0 m H4) ∧ ∀ j k H, W1 j k H →
        (J1.stop j H ∧ Nx H) ∨ (J1.go j H ∧ ∃ Nx1 : Hp → Prop, (∀ H', Nx1 H' → ∃ k', k' < k ∧ W1 (j + 1) k' H') ∧ ∀ x H', J1.yld j H x H' → g1 x (wipe σ2 vs1) H' fun σ3 H5 => wipe σ3 vs1 = wipe σ2 vs1 ∧ tt1 σ3 H5 fun b H6 =>
          if b = true then te σ3 H6 fun y H7 => addedS w D y H7 Nx1 else Nx1 H6)
      else Nx H3)
section
variable {X : Cx}
theorem add_in {pins : List (Addr × Obj)} {σ : L2.St} {H : Hp} {s : Shared} {D : Addr} {y : V} {u : Value} {N : Hp → Prop} {Q : Value → Shared → Prop} (I : Inv X pins σ H s) (r : RelV y u) (a : addedS X.w D y H N)
    (h : ∀ H' s', Inv X pins σ H' s' → N H' → Q .none s') : wpAny (model X.prog X.w) X.A (call (.builtin "set.add") [.ref D, u]) Q X.xe s := by
  obtain ⟨k, S, n, rfl, hD, room, nx⟩ := a
  refine thn (mt_sadd pins s σ H (.ref D) [.int k] (.ref D) [u] (fun v H' => v = .non ∧ N H') I rfl (.cons r .nil) ⟨D, k, S, n, rfl, rfl, hD, room, rfl, nx⟩) fun v s' q => ?_
  obtain ⟨v', H', I', rv, rfl, nx'⟩ := q
  obtain rfl : v = Value.none := rv
  exact h H' s' I' nx'
variable {elt tg iter tg1 iter1 : Expr} {ifs ifs1 : List Expr} {scope : Scope} {own : List (Str × Nat)} {vs1 : List Nat} {pos : Pos} {wi wi1 : TI} {g g1 : TG} {tt tt1 : TT} {te : TE}
theorem pe_sc2 (hc : X.calm = true) (hN : X.N.Nodup) (hi : PI X tg iter wi) (ok : BlkOk X.N X.env.scope scope own) (hv : ∀ i ∈ vs1, i ∈ own.map (·.2))
    (blk : ∀ (s : Shared) (H : Hp) (C : Addr) (cl : List (Str × Addr)) (fp : List Addr), PG (X.blk s H scope (compEnvC scope cl C X.env) fp) tg g ∧ PTs (X.blk s H scope (compEnvC scope cl C X.env) fp) ifs tt ∧
      PI (X.blk s H scope (compEnvC scope cl C X.env) fp) tg1 iter1 wi1 ∧ PG (X.blk s H scope (compEnvC scope cl C X.env) fp) tg1 g1 ∧ PTs (X.blk s H scope (compEnvC scope cl C X.env) fp) ifs1 tt1 ∧
      PE (X.blk s H scope (compEnvC scope cl C X.env) fp) elt te)
    (fold : ∀ x, foldedSetIterable iter X.env x = pure x := by intro _; rfl) (fold1 : ∀ env x, foldedSetIterable iter1 env x = pure x := by intro _ _; rfl) :
    PE X (sc2 elt tg iter tg1 iter1 ifs ifs1 scope pos) (tSc2 X.w wi g tt wi1 g1 tt1 te (own.map (·.2)) vs1) := by
  refine ⟨fun pins s σ H Q I h => ?_⟩
  rw [PpSet.eval_SetComp]
  have cellOf : ∀ y ∈ scope.names, y.2 = .free → ∃ c, X.env.cells.lookup y.1 = some c := fun y hy e => (ok.free y hy e).elim (fun k => I.ok.has _ (.inl k)) fun k => I.ok.has _ (.inr k)
  refine wpAny_comprehension_free (use := none) rfl fold (closure_ok cellOf) ok.kind (fun y hy e => by rw [ok.uniq y hy, e]) (thn (hi.run pins s σ H _ I h) fun xv s1 hx => thn hx fun itv s2 h2 => ?_)
  obtain ⟨it, fp, tn, J, H2, e, I2, T, st2, f2, q⟩ := h2
  subst e
  refine PpSet.newSet_ok (newEnv_comp ?_)
  generalize hD : s2.heap.objs.size = D
  have freeD : H2 D = none := I2.hok.fresh (Nat.le_of_eq hD)
  obtain ⟨W, ⟨m0, w0⟩, turn⟩ := q D freeD
  generalize hso : ({ cls := .type "set", dict := none, data := .set #[] 0 (.fresh 0 0 (!X.w.params.followText "set-order")) } : Obj) = so
  have keepSo : ∀ b o, s2.heap.get? b = some o → (s2.heap.push so).get? b = some o := fun b o e => Heap.get?_push_of_some _ e
  have I3 : Inv X pins σ (upd H2 D (SetO X.w D (fun _ => false) 0)) { s2 with heap := s2.heap.push so } := by
    refine I2.laid (t' := s2.toks) keepSo (Nat.le_of_eq hD) ?_
    rw [← hD, ← hso]
    exact setO_new (setR_fresh X.w)
  generalize hs3 : ({ s2 with heap := s2.heap.push so } : Shared) = s3 at I3 ⊢
  have h3 : s3.heap = s2.heap.push so := by rw [← hs3]
  have below : ∀ b ∈ fp, b < s2.heap.objs.size := fun b hb => (T.obj _ _ st2 b hb).elim fun o e => Heap.lt_size e.1
  generalize hH3 : upd H2 D (SetO X.w D (fun _ => false) 0) = H3 at I3 w0 ⊢
  have f3 : ∀ b ∈ fp, FpOk X pins H3 b ∧ b < s3.heap.objs.size := fun b hb => by
    have lt := below b hb
    refine ⟨⟨?_, (f2 b hb).2⟩, by rw [h3, Heap.size_push]; exact Nat.lt_succ_of_lt lt⟩
    rw [← hH3, upd_ne (by rw [← hD]; exact Nat.ne_of_lt lt)]
    exact (f2 b hb).1
  have st3 : tn 0 s3.heap := T.keep _ _ _ st2 fun b _ o e => by rw [h3]; exact keepSo b o e
  have I4 := block_start I3 ok hN f3
  obtain ⟨pg, pt, pi1, pg1, pt1, pe⟩ := blk s3 H3 s3.heap.objs.size (cellsFrom (s3.heap.objs.size + 1) scope.names (cloFrom X.env.cells scope.names [])) fp
  show codeAny _ _ (.compStart (sc2 elt tg iter tg1 iter1 ifs ifs1 scope pos) 0 (.ref it) (.ref D) (compEnvC scope (cellsFrom (s3.heap.objs.size + 1) scope.names (cloFrom X.env.cells scope.names [])) s3.heap.objs.size X.env))
    (compPost (model X.prog X.w) X.A X.xe none (EP X pins σ Q) (.ref D) s3.heap.objs.size) { s3 with heap := pushCells (s3.heap.push { cls := .type "dict", data := .dict #[] }) scope.names }
  generalize hce : compEnvC scope (cellsFrom (s3.heap.objs.size + 1) scope.names (cloFrom X.env.cells scope.names [])) s3.heap.objs.size X.env = ce at I4 pg pt pi1 pg1 pt1 pe ⊢
  have locals : ce.locals = s3.heap.objs.size := by
    subst hce
    rfl
  generalize hs4 : ({ s3 with heap := pushCells (s3.heap.push { cls := .type "dict", data := .dict #[] }) scope.names } : Shared) = s4 at I4 ⊢
  have st4 : tn 0 s4.heap := T.keep _ _ _ st3 fun b _ o e => by
    rw [← hs4]
    exact pushCells_keeps _ _ _ _ (Heap.get?_push_of_some _ e)
  have clearOf : ∀ {H' : Hp}, H3 = H' → ∀ b ∈ fp, H' b = none := fun e b hb => by
    rw [← e]
    exact (f3 b hb).1.1
  -- a record of the outer walk, within the block
  have outer : ∀ {σ' : L2.St} {H' : Hp} {s' : Shared}, Inv (X.blk s3 H3 scope ce fp) [] σ' H' s' → (∀ b ∈ fp, H' b = none) → ∀ b ∈ fp, FpOk (X.blk s3 H3 scope ce fp) [] H' b := fun I' clear b hb =>
    ⟨clear b hb, (I'.ok.exf b hb).1, I'.ok.exfs b hb, .inl hb, fun x c e => (I'.ok.exf b hb).2 x c e, fun p hp => by simp at hp⟩
  -- what the outer loop keeps
  let Keep : Nat → Shared → Prop := fun n s' => ∃ i H', Inv (X.blk s3 H3 scope ce fp) [] (wipe σ (own.map (·.2))) H' s' ∧ tn i s'.heap ∧ (∀ b ∈ fp, H' b = none) ∧ W i n H'
  have loop : codeAny (model X.prog X.w) X.A (.compLoop (sc2 elt tg iter tg1 iter1 ifs ifs1 scope pos) 0 (.ref it) (.ref D) ce) (compPost (model X.prog X.w) X.A X.xe none (EP X pins σ Q) (.ref D) s3.heap.objs.size) s4 := by
    refine loop_outer (fold1 ce) Keep ?_ m0 ⟨0, H3, I4, st4, clearOf rfl, w0⟩
    rintro n s5 ⟨i, H5, I5, st5, n5, w5⟩
    rcases turn i n H5 w5 with ⟨stop, done⟩ | ⟨go, Nx, hNx, one⟩
    · refine thnF (T.done (X.blk s3 H3 scope ce fp) rfl rfl rfl hc i [] s5 _ H5 (fun _ _ => False) I5 (outer I5 n5) st5 stop) fun r s6 ⟨hr, I6⟩ => ?_
      subst hr
      have I7 : Inv X pins σ H5 s6 := I3.call' (ch := fp) I6.os I6.base I6.hok I6.bare fun b hb => by
        obtain ⟨⟨z1, z2, z3, z4, z5, z6⟩, _⟩ := f3 b hb
        exact ⟨z4, z2, z5, z6⟩
      have free5 : H5 s3.heap.objs.size = none := by
        have z : H5 ce.locals = none := I6.free
        rw [locals] at z
        exact z
      obtain ⟨m, hn, _⟩ := I6.loc
      have hn : s6.heap.Ns ce.locals m := hn
      rw [locals] at hn
      obtain ⟨y0, y1, y2, y3, y4, y5⟩ := I3.fpOk (Nat.le_refl _) free5
      refine ⟨m, hn, fun h'' sb => ?_⟩
      exact ⟨.ref D, H5, I7.turned (t' := s6.toks) (fun b o nb e => (sb.2 b nb).trans e) y0 y1 y3 y4 y5, rfl, done⟩
    · refine thnF (T.item (X.blk s3 H3 scope ce fp) rfl rfl rfl hc i [] s5 _ H5 (fun _ _ => False) I5 (outer I5 n5) st5 go) fun r s6 ⟨u, hr, h6⟩ => ?_
      subst hr
      refine thnF h6 fun _ s7 ⟨x, H7, I7, r7, y7, st7, n7⟩ => ?_
      refine thnF (pg.run _ s7 _ H7 x u _ (I7.pinned (outer I7 n7) (T.obj _ _ st7)) r7 (one x H7 y7)) fun _ s8 ⟨σ8, H8, I8, hw8, q8⟩ => ?_
      refine thnF (pt.run _ s8 σ8 H8 _ I8 q8) fun b s9 ⟨H9, I9, q9⟩ => ?_
      have len8 : (wipe σ (own.map (·.2))).length = σ8.length := by rw [← hw8, wipe_length]
      have know8 : ∀ (j : Nat) v, (wipe σ (own.map (·.2)))[j]? = some (some v) → σ8[j]? = some (some v) ∧ j ∉ own.map (·.2) := fun j v e => by
        rw [← hw8] at e
        exact wipe_some e
      -- the turn's end, from any slots that know what the block knew
      have fin : ∀ {σ9 : L2.St} {s' : Shared} {H' : Hp}, Inv (X.blk s3 H3 scope ce fp) ([] ++ pinsAt fp s7.heap) σ9 H' s' → (wipe σ (own.map (·.2))).length = σ9.length →
          (∀ (j : Nat) v, (wipe σ (own.map (·.2)))[j]? = some (some v) → σ9[j]? = some (some v)) → Nx H' → ∃ m, m < n ∧ Keep m s' := fun {σ9 s' H'} I' hl hk nx => by
        obtain ⟨m', lt, w'⟩ := hNx H' nx
        have pinned : ∀ b ∈ fp, ∀ o, s7.heap.get? b = some o → s'.heap.get? b = some o ∧ H' b = none := fun b hb o e => by
          have z := I'.pin (b, o) (List.mem_append_right _ (List.mem_append_right _ (mem_pinsAt hb e)))
          exact ⟨z.1, z.2.1⟩
        refine ⟨m', lt, i + 1, H', (I'.unpinned (pins := [])).weak hl hk, T.keep _ _ _ st7 fun b hb o e => (pinned b hb o e).1, fun b hb => ?_, w'⟩
        obtain ⟨o, e, _⟩ := T.obj _ _ st7 b hb
        exact (pinned b hb o e).2
      cases b with
      | false =>
        simp only [Bool.false_eq_true, if_false] at q9 ⊢
        exact fin I9 len8 (fun j v e => (know8 j v e).1) q9
      | true =>
        simp only [if_true] at q9 ⊢
        refine thnF (pi1.run _ s9 σ8 H9 _ I9 q9) fun xv s10 hx => thnF hx fun itv s11 h11 => ?_
        obtain ⟨it1, fp1, tn1, J1, H11, e1, I11, T1, st11, f11, W1, ⟨m1, w1⟩, turn1⟩ := h11
        subst e1
        have inner : ∀ {H' : Hp}, (∀ b ∈ fp1, H' b = none) → ∀ b ∈ fp1, FpOk (X.blk s3 H3 scope ce fp) ([] ++ pinsAt fp s7.heap) H' b := fun clear b hb => ⟨clear b hb, (f11 b hb).2⟩
        let Keep1 : Nat → Shared → Prop := fun k s' => ∃ j H', Inv (X.blk s3 H3 scope ce fp) ([] ++ pinsAt fp s7.heap) (wipe σ8 vs1) H' s' ∧ tn1 j s'.heap ∧ (∀ b ∈ fp1, H' b = none) ∧ W1 j k H'
        have loop1 : codeAny (model X.prog X.w) X.A (.compLoop (sc2 elt tg iter tg1 iter1 ifs ifs1 scope pos) 1 (.ref it1) (.ref D) ce) (fun r s' => (∃ fl, r = .ok fl) ∧ ∃ m, m < n ∧ Keep m s') s11 := by
          refine loop_inner Keep1 ?_ m1 ⟨0, H11, I11.weak (wipe_length _ _) (fun j v e => (wipe_some e).1), st11, fun b hb => (f11 b hb).1, w1⟩
          rintro k s12 ⟨j, H12, I12, st12, n12, w12⟩
          rcases turn1 j k H12 w12 with ⟨stop1, nx1⟩ | ⟨go1, Nx1, hNx1, one1⟩
          · refine thnF (T1.done (X.blk s3 H3 scope ce fp) rfl rfl rfl hc j _ s12 (wipe σ8 vs1) H12 (fun _ _ => False) I12 (inner n12) st12 stop1) fun r s13 ⟨hr, I13⟩ => ?_
            subst hr
            refine ⟨⟨_, rfl⟩, fin I13 (len8.trans (wipe_length σ8 vs1).symm) (fun j v e => ?_) nx1⟩
            obtain ⟨z1, z2⟩ := know8 j v e
            rw [wipe_out fun z => z2 (hv j z)]
            exact z1
          · refine thnF (T1.item (X.blk s3 H3 scope ce fp) rfl rfl rfl hc j _ s12 (wipe σ8 vs1) H12 (fun _ _ => False) I12 (inner n12) st12 go1) fun r s13 ⟨u1, hr, h13⟩ => ?_
            subst hr
            refine thnF h13 fun _ s14 ⟨x1, H14, I14, r14, y14, st14, n14⟩ => ?_
            refine thnF (pg1.run _ s14 (wipe σ8 vs1) H14 x1 u1 _ (I14.pinned (inner n14) (T1.obj _ _ st14)) r14 (one1 x1 H14 y14)) fun _ s15 ⟨σ15, H15, I15, hw15, q15⟩ => ?_
            refine thnF (pt1.run _ s15 σ15 H15 _ I15 q15) fun b1 s16 ⟨H16, I16, q16⟩ => ?_
            have fin1 : ∀ {s' : Shared} {H' : Hp}, Inv (X.blk s3 H3 scope ce fp) (([] ++ pinsAt fp s7.heap) ++ pinsAt fp1 s14.heap) σ15 H' s' → Nx1 H' → ∃ m, m < k ∧ Keep1 m s' := fun {s' H'} I' nx => by
              obtain ⟨m', lt, w'⟩ := hNx1 H' nx
              have pinned : ∀ b ∈ fp1, ∀ o, s14.heap.get? b = some o → s'.heap.get? b = some o ∧ H' b = none := fun b hb o e => by
                have z := I'.pin (b, o) (List.mem_append_right _ (List.mem_append_right _ (mem_pinsAt hb e)))
                exact ⟨z.1, z.2.1⟩
              refine ⟨m', lt, j + 1, H', I'.unpinned.weak (by rw [← hw15, wipe_length]) (fun j v e => by rw [← hw15] at e; exact (wipe_some e).1), T1.keep _ _ _ st14 fun b hb o e => (pinned b hb o e).1, fun b hb => ?_, w'⟩
              obtain ⟨o, e, _⟩ := T1.obj _ _ st14 b hb
              exact (pinned b hb o e).2
            cases b1 with
            | false =>
              simp only [Bool.false_eq_true, if_false] at q16 ⊢
              exact fin1 I16 q16
            | true =>
              simp only [if_true] at q16 ⊢
              refine thnF (pe.run _ s16 σ15 H16 _ I16 q16) fun z s17 ⟨yv, H17, I17, r17, ad⟩ => ?_
              exact thnF (add_in (X := X.blk s3 H3 scope ce fp) (Q := fun _ s' => ∃ m, m < k ∧ Keep1 m s') I17 r17 ad fun H' s18 I18 nx => fin1 I18 nx) fun _ _ z => z
        exact start_inner loop1 (T1.self X.A 0 _ _ _ st11 loop1)
  exact PpSet.codeAny_compStart_set loop (T.self X.A 0 _ _ _ st4 loop)
end
end EV
end L2

set_option Elab.async false
set_option linter.all false
set_option maxRecDepth 100000
set_option maxHeartbeats 4000000
/-! enumerate over a tuple. -/
namespace PySem
open Sem (wp)
open AutoSeq1 (wpAny_loadPart')
theorem meets_enumerate_newT (l : Addr) (items : Array Value) (n : Nat) (dct : Option Addr) (sl : Array (Option Value)) :
    Meets (Builtin.«enumerate.__new__» ⟨[.type "enumerate", .ref l], []⟩) (fun _ R s => s.heap.get? l = some { cls := .type "tuple", dict := dct, data := .seq items n, slots := sl } ∧
      R (.ok (.ret (.ref (s.heap.push { cls := .type "tuple_iterator", data := .fields #[.ref l, .int 0 0] }).objs.size)))
        { s with heap := (s.heap.push { cls := .type "tuple_iterator", data := .fields #[.ref l, .int 0 0] }).push { cls := .type "enumerate", data := .fields #[.none, .bool false, .ref s.heap.objs.size, rawInt 0, .none, .none] } }) :=
  .of_wp fun prog w A R s h => by
    obtain ⟨hp, g, d, tk, os⟩ := s; obtain ⟨hl, h⟩ := h
    have hsub := sub_enumerate
    have hL : Heap.IsTuple (Shared.heap ⟨hp, g, d, tk, os⟩) l items := ⟨_, hl, rfl, n, rfl⟩
    wp_walk using wpAny_loadPart' hl
    refine wpAny_stack_any fun st => wpAny_pure ?_
    split
    · rename_i c _ _ _ _ _
      cases (c == Value.type "enumerate")
      · wp_walk using wpAny_loadPart' hl, wpAny_pyIter_tuple hL
        exact ⟨_, rfl, h⟩
      · wp_walk using wpAny_loadPart' hl, wpAny_pyIter_tuple hL
        exact ⟨_, rfl, h⟩
    · wp_walk using wpAny_loadPart' hl, wpAny_pyIter_tuple hL
      exact ⟨_, rfl, h⟩
section
variable {prog : Program} {w : World} {A : Around} {E : Value → Shared → Prop} {s : Shared}
theorem call_enumerate_tuple {l : Addr} {items : Array Value} {Q : Value → Shared → Prop} (hL : s.heap.IsTuple l items)
    (h : ∀ h', IsEnum h' (s.heap.objs.size + 1) s.heap.objs.size 0 .none → h'.IsTupleIter s.heap.objs.size l 0 → h'.objs.size = s.heap.objs.size + 2 →
      (∀ b o, s.heap.get? b = some o → h'.get? b = some o) → Q (.ref (s.heap.objs.size + 1)) { s with heap := h' }) :
    wpAny (model prog w) A (call (.type "enumerate") [.ref l]) Q E s := by
  obtain ⟨⟨c, dct, dt, sl⟩, hl, hc, n, hd⟩ := hL
  replace hc : c = .type "tuple" := hc
  replace hd : dt = .seq items n := hd
  subst hc hd
  refine callType_new F.called_enumerate (by decide) (F.typeCall_enumerate_1 _) (F.newCall_enumerate_1 _) (fun obj => F.args_object_init_2 obj _) F.entry_enumerate_new
    (meets_enumerate_newT l items n dct sl) ⟨hl, ?_⟩
  have hz : (s.heap.push { cls := .type "tuple_iterator", data := .fields #[.ref l, .int 0 0] }).objs.size = s.heap.objs.size + 1 := Heap.size_push ..
  show _ ∧ _
  rw [hz]
  have he : IsEnum ((s.heap.push { cls := .type "tuple_iterator", data := .fields #[.ref l, .int 0 0] }).push
      { cls := .type "enumerate", data := .fields #[.none, .bool false, .ref s.heap.objs.size, rawInt 0, .none, .none] }) (s.heap.objs.size + 1) s.heap.objs.size 0 .none := by
    have := Heap.get?_push_size (s.heap.push { cls := .type "tuple_iterator", data := .fields #[.ref l, .int 0 0] })
      (o := { cls := .type "enumerate", data := .fields #[.none, .bool false, .ref s.heap.objs.size, rawInt 0, .none, .none] }) rfl
    rw [hz] at this; exact this
  refine ⟨⟨_, he, rfl⟩, h _ he ⟨_, Heap.get?_push_of_some _ (Heap.get?_push_size _ rfl), rfl, rfl⟩ (by rw [Heap.size_push, hz]) fun b o x => Heap.get?_push_of_some _ (Heap.get?_push_of_some _ x)⟩
end
end PySem
namespace L2
open PySem PySem.Spec PyProof.Rows
def IteT (K : PySem.W.Frag) (a : Addr) : It :=
  ⟨fun i H => ∃ (xs : List V) (x : V), SqT K H a xs ∧ xs[i]? = some x, fun i H v H' => ∃ T x, v = .ref T ∧ H T = none ∧ H' = upd H T (.tup [.int (i : Nat), x]) ∧ ∀ xs, SqT K H a xs → xs[i]? = some x, fun i H => ∃ xs : List V, SqT K H a xs ∧ xs.length = i⟩
theorem turn_enumT {P : Program} {w : World} {K : PySem.W.Frag} {elts : List Expr} {kk : Nat} {tpos : Pos} (a e it : Addr) (hai : a ≠ it) (hae : a ≠ e) :
    Turn P w K (.Tuple elts kk tpos) (IteT K a) [e, it] e (fun i h => (∃ old, IsEnum h e it ((i : Nat) : Int) old) ∧ h.IsTupleIter it a i ∧ e ≠ it) where
  mem := by simp
  obj := fun i h st b hb => by
    obtain ⟨⟨old, he⟩, ⟨o, ho, hc, hd⟩, _⟩ := st
    have e' : b = e ∨ b = it := by simpa using hb
    rcases e' with z | z
    · rw [z]; exact ⟨_, he, fun v q => nomatch q⟩
    · rw [z]; exact ⟨o, ho, fun v q => by rw [hd] at q; cases q⟩
  keep := fun i h h' st k => let ⟨⟨old, he⟩, hi, hne⟩ := st; ⟨⟨old, k e (by simp) _ he⟩, hi.at fun o q => k it (by simp) o q, hne⟩
  item := by
    intro X hP hw hK hc i pins s σ H E I hf st hg
    subst hP hw hK
    obtain ⟨⟨old, he⟩, hit, hne⟩ := st
    obtain ⟨xs, x, hq, hx⟩ := hg
    obtain ⟨its, rv, p, hz⟩ := I.tuple hq
    obtain ⟨u, hu, ru⟩ := rv.get hx
    have hel : e < s.heap.objs.size := Heap.lt_size he
    have hil : it < s.heap.objs.size := by obtain ⟨_, q, _⟩ := hit; exact Heap.lt_size q
    have hlt : i < its.toArray.size := by
      have := (List.getElem?_eq_some_iff.mp hu).1
      simpa using this
    refine wpAny_pyNext_enum_itemD (Draws.tuple (A := X.A.in1) (show X.A.in1.handled = none from I.ok.hd hc) it a hai its.toArray) he ⟨hit, show s.heap.IsTuple a its.toArray from p⟩ hlt hne (by simp [hne, Ne.symm hae]) fun u' h' tk hu' ho st' hT hsz hk => ?_
    have e0 : u' = u := by
      have q1 : its[i]? = some u' := by simpa using hu'
      rw [hu] at q1
      exact (Option.some.inj q1).symm
    subst e0
    obtain ⟨hit', _⟩ := st'
    refine ⟨_, rfl, wpAny_letOwnedTupleGo_enum (s := { s with heap := h', toks := tk + 1 }) ho fun h'' he' sb => ?_⟩
    have hT2 : h''.get? s.heap.objs.size = some { cls := .type "tuple", data := .seq #[.int i tk, u'] } := (sb.2 _ (Nat.ne_of_gt hel)).trans hT
    have new : ObjOk X.prog X.w (upd H s.heap.objs.size (.tup [.int (i : Nat), x])) h'' s.heap.objs.size (.tup [.int (i : Nat), x]) :=
      ⟨by show 2 ≤ sizeLine; decide, [.int i tk, u'], .cons ⟨_, rfl⟩ (.cons ru .nil), ⟨_, hT2, rfl, _, rfl⟩⟩
    have I1 : Inv X pins σ (upd H s.heap.objs.size (.tup [.int (i : Nat), x])) { s with heap := h'', toks := tk + 1 } :=
      I.turnedNew (ch := [e, it]) (fun b ob hb q => (sb.2 b (fun z => hb (by simp [z]))).trans (hk b ob (fun z => hb (by simp [z])) (fun z => hb (by simp [z])) q)) hf (Nat.le_refl _) new
    refine ⟨.ref s.heap.objs.size, _, I1, rfl, ⟨_, x, rfl, I.hok.fresh (Nat.le_refl _), rfl, fun ys hy => by rw [I.tuple_inj hy hq]; exact hx⟩, ⟨⟨u', ?_⟩, hit'.at fun o q => (sb.2 it (Ne.symm hne)).trans q, hne⟩, fun b hb => ?_⟩
    · have e1 : ((i + 1 : Nat) : Int) = (i : Int) + 1 := by omega
      rw [e1]; exact he'
    · have hb' : b < s.heap.objs.size := by
        have e' : b = e ∨ b = it := by simpa using hb
        rcases e' with z | z
        · rw [z]; exact hel
        · rw [z]; exact hil
      rw [upd_ne (Nat.ne_of_lt hb')]
      exact (hf b hb).1
  done := by
    intro X hP hw hK hc i pins s σ H E I hf st hg
    subst hP hw hK
    obtain ⟨⟨old, he⟩, hit, hne⟩ := st
    obtain ⟨xs, hq, hx⟩ := hg
    obtain ⟨its, rv, p, hz⟩ := I.tuple hq
    obtain ⟨f0, f1, f2, f3, f4, f5⟩ := hf it (by simp)
    have hl := rv.length
    have hn : its.toArray.size = i := by simp; omega
    exact wpAny_pyNext_enum_endD (Draws.tuple (A := X.A.in1) (show X.A.in1.handled = none from I.ok.hd hc) it a hai its.toArray) he ⟨hn.symm ▸ hit, show s.heap.IsTuple a its.toArray from p⟩ fun h' eb => ⟨rfl, I.turned (t' := s.toks) (fun b o hb q => eb b o hb q) f0 f1 f3 f4 f5⟩
  self := fun A i s Q E st h => let ⟨⟨_, he⟩, _⟩ := st; wpAny_pyIter_enum he h
def iEnumT (K : PySem.W.Frag) (ta : TA) : TI := fun σ H R => ta σ H fun vs H1 => ∃ a xs, vs = [.ref a] ∧ SqT K H1 a xs ∧ R (IteT K a) H1
theorem pi_enumT {X : Cx} {e : Expr} {ta : TA} {p pos tpos : Pos} {elts : List Expr} {kk : Nat} (hg : Gl X "enumerate") (hm : X.mg "enumerate" = none) (ha : PA X [e] ta) (hs : starEach [e] X.env = [(false, eval e X.env)] := by rfl) :
    PI X (.Tuple elts kk tpos) (.Call (.Name "enumerate" p) [e] [] pos) (iEnumT X.K ta) := by
  refine ⟨fun pins s σ H R I h => ?_⟩
  refine Call_ (ld_blt I hg hm boot_enumerate (PyProof.Rows.callWith_type1 (thn (ha.run pos pins s σ H _ I h) fun us s1 ⟨vs, H1, I1, r1, q1⟩ => ?_) hs rfl))
  obtain ⟨a, xs, ex, hq, q⟩ := q1
  subst ex
  cases r1 with
  | cons r rr =>
    cases rr
    cases r
    obtain ⟨its, rv, p', hz⟩ := I1.tuple hq
    have hal : a < s1.heap.objs.size := by
      obtain ⟨o, q, _⟩ := id p'
      exact Heap.lt_size q
    refine call_enumerate_tuple (show s1.heap.IsTuple a its.toArray from p') fun h' he hit hsz hk => wpAny_pyIter_enum he ?_
    have I2 : Inv X pins σ H1 { s1 with heap := h' } := I1.kept (t' := s1.toks) hk
    refine ⟨s1.heap.objs.size + 1, [s1.heap.objs.size + 1, s1.heap.objs.size], _, _, H1, rfl, I2, turn_enumT a (s1.heap.objs.size + 1) s1.heap.objs.size (Nat.ne_of_lt hal) (Nat.ne_of_lt (Nat.lt_succ_of_lt hal)), ⟨⟨.none, he⟩, hit, Nat.succ_ne_self _⟩, fun b hb => ?_, q⟩
    have e' : b = s1.heap.objs.size + 1 ∨ b = s1.heap.objs.size := by simpa using hb
    have hle : s1.heap.objs.size ≤ b := by
      rcases e' with z | z
      · rw [z]; exact Nat.le_add_right _ _
      · rw [z]; exact Nat.le_refl _
    exact I1.fpOk hle (I1.hok.fresh hle)
theorem walk_enumT {K : PySem.W.Frag} {a : Addr} {xs : List V} : Walk (IteT K a) xs.length (fun H => SqT K H a xs) (YPair (fun i => some (.int (i : Nat))) (fun i => xs[i]?)) := by
  refine ⟨fun i _ hi q => ⟨xs, xs[i], q, by simp [hi]⟩, fun _ q => ⟨xs, q, rfl⟩, fun i H v H' _ q y => ?_⟩
  obtain ⟨T, x, h1, h2, h3, h4⟩ := y
  exact ⟨T, .int (i : Nat), x, h1, h2, h3, rfl, h4 xs q⟩
end L2

set_option Elab.async false
set_option linter.all false
set_option maxRecDepth 100000
set_option maxHeartbeats 4000000
/-! Framings; listed_standings. -/
namespace K07
open PySem L2 L2.EV
/-- a framing at f -/
def FrA (H : Hp) (f : Addr) (fr : List T3) : Prop := ∃ ts : List Addr, H f = some (.tup (ts.map V.ref)) ∧ ts.length = fr.length ∧ ∀ (i : Nat) t x, ts[i]? = some t → fr[i]? = some x → S3 H t x
theorem FrA.same {H H' : Hp} {f : Addr} {fr : List T3} (h : FrA H f fr) (s : Same H H') : FrA H' f fr := by
  obtain ⟨ts, e, l, c⟩ := h
  exact ⟨ts, s _ _ e, l, fun i t x h1 h2 => s _ _ (c i t x h1 h2)⟩
structure Frm (fr : List T3) (last : Nat) : Prop where
  l0 : 1 ≤ fr.length
  l1 : fr.length ≤ 16
  stp : ∀ x ∈ fr, Stp x
  srt : fr.Pairwise (fun x y => lt3 x y = true)
  ring : ∀ k : Nat, k ≤ last → ∃ x ∈ fr, x.1 = (k : Int) ∧ x.2.2 = (if k < last then (k : Int) + 1 else 0)
  lo : ∀ x ∈ fr, x.1 ≤ last ∧ x.2.2 ≤ last
  l5 : last ≤ 5
/-- what is closed under the steps, from b on, holds all standings -/
theorem Frm.all {fr : List T3} {last : Nat} (F : Frm fr last) {S : Int → Prop} {b : Nat} (hb : b ≤ last) (c0 : ∀ x ∈ fr, x.1 = (b : Int) → S x.2.2) (c : ∀ x ∈ fr, S x.1 → S x.2.2) : ∀ k : Nat, k ≤ last → S k := by
  have up : ∀ j : Nat, b + j ≤ last → j = 0 ∨ S ((b + j : Nat) : Int) := by
    intro j
    induction j with
    | zero => exact fun _ => .inl rfl
    | succ j ih =>
      intro h
      obtain ⟨x, hx, e1, e2⟩ := F.ring (b + j) (by omega)
      rw [if_pos (by omega)] at e2
      have e3 : (((b + (j + 1) : Nat)) : Int) = ((b + j : Nat) : Int) + 1 := by omega
      rw [e3, ← e2]
      refine .inr ?_
      rcases ih (by omega) with z | z
      · subst z
        exact c0 x hx (by simpa using e1)
      · exact c x hx (by rw [e1]; exact z)
  have s0 : S 0 := by
    obtain ⟨x, hx, e1, e2⟩ := F.ring last (Nat.le_refl _)
    rw [if_neg (by omega)] at e2
    rw [← e2]
    obtain ⟨j, rfl⟩ := Nat.le.dest hb
    rcases up j (Nat.le_refl _) with z | z
    · subst z
      exact c0 x hx (by simpa using e1)
    · exact c x hx (by rw [e1]; exact z)
  intro k
  induction k with
  | zero => exact fun _ => s0
  | succ k ih =>
    intro h
    obtain ⟨x, hx, e1, e2⟩ := F.ring k (by omega)
    rw [if_pos (by omega)] at e2
    have e3 : ((k + 1 : Nat) : Int) = (k : Int) + 1 := by omega
    rw [e3, ← e2]
    exact c x hx (by rw [e1]; exact ih (by omega))
theorem sc_it {J : It} {n : Nat} {G : Hp → Prop} {Y : Nat → Hp → V → Hp → Prop} (w : Walk J n G Y) {H0 : Hp} {Qd : Hp → Prop} {body : V → Hp → (Hp → Prop) → Prop} (Pv : Nat → Hp → Prop) (h0 : Pv 0 H0) (hG : ∀ i H, i ≤ n → Pv i H → G H)
    (hs : ∀ i x H H', i < n → Pv i H → Y i H x H' → body x H' (Pv (i + 1))) (hd : ∀ H, Pv n H → Qd H) :
    ∃ W : Nat → Nat → Hp → Prop, (∃ m, W 0 m H0) ∧ ∀ i m H, W i m H → (J.stop i H ∧ Qd H) ∨ (J.go i H ∧ ∃ Nx : Hp → Prop, (∀ H', Nx H' → ∃ m', m' < m ∧ W (i + 1) m' H') ∧ ∀ x H', J.yld i H x H' → body x H' Nx) := by
  refine ⟨fun i m H => m = n - i ∧ i ≤ n ∧ Pv i H, ⟨n, by simp, Nat.zero_le _, h0⟩, ?_⟩
  rintro i m H ⟨rfl, hi, p⟩
  have q := hG i H hi p
  by_cases hlt : i < n
  · exact .inr ⟨w.goes i H hlt q, Pv (i + 1), fun H' p' => ⟨n - (i + 1), by omega, rfl, hlt, p'⟩, fun x H' y => hs i x H H' hlt p (w.yields i H x H' hlt q y)⟩
  · have e : i = n := by omega
    subst e
    exact .inl ⟨w.stops H q, hd H p⟩
theorem at_step {H : Hp} {ts : List Addr} {fr : List T3} {i : Nat} {x : V} (hl : ts.length = fr.length) (ht : ∀ (i : Nat) t x, ts[i]? = some t → fr[i]? = some x → S3 H t x) (hx : (ts.map V.ref)[i]? = some x) :
    ∃ t y, fr[i]? = some y ∧ x = .ref t ∧ S3 H t y := by
  rw [List.getElem?_map] at hx
  cases e : ts[i]? with
  | none =>
    rw [e] at hx
    cases hx
  | some t =>
    rw [e] at hx
    have il : i < fr.length := by
      have := (List.getElem?_eq_some_iff.mp e).1
      omega
    exact ⟨t, fr[i], List.getElem?_eq_getElem il, (Option.some.inj hx).symm, ht i t _ e (List.getElem?_eq_getElem il)⟩
/-- listed_standings(framing): a new list of numbers up to last -/
def spListed : Sp := fun vs H Q _ => ∃ (f : Addr) (fr : List T3) (last : Nat), vs = [.ref f] ∧ FrA H f fr ∧ Frm fr last ∧
  ∀ (H' : Hp) (p : Addr) (ns : List Int), Same H H' → H p = none → H' p = some (.lst (ns.map V.int)) → ns.length ≤ 32 → (∀ k ∈ ns, 0 ≤ k ∧ k ≤ last) → Q (.ref p) H'
theorem pe_sc2s {X : Cx} {elt tg iter tg1 iter1 : Expr} {ifs ifs1 : List Expr} {scope : Scope} {own : List (Str × Nat)} {vs1 : List Nat} {pos : Pos} {wi wi1 : TI} {g g1 : TG} {tt tt1 : TT} {te : TE} (hc : X.calm = true) (hN : X.N.Nodup) (hi : PI X tg iter wi) (ok : BlkOk X.N X.env.scope scope own) (hv : ∀ i ∈ vs1, i ∈ own.map (·.2))
    (b1 : ∀ (s : Shared) (H : Hp) (C : Addr) (cl : List (Str × Addr)) (fp : List Addr), PG (X.blk s H scope (compEnvC scope cl C X.env) fp) tg g)
    (b2 : ∀ (s : Shared) (H : Hp) (C : Addr) (cl : List (Str × Addr)) (fp : List Addr), PTs (X.blk s H scope (compEnvC scope cl C X.env) fp) ifs tt)
    (b3 : ∀ (s : Shared) (H : Hp) (C : Addr) (cl : List (Str × Addr)) (fp : List Addr), PI (X.blk s H scope (compEnvC scope cl C X.env) fp) tg1 iter1 wi1)
    (b4 : ∀ (s : Shared) (H : Hp) (C : Addr) (cl : List (Str × Addr)) (fp : List Addr), PG (X.blk s H scope (compEnvC scope cl C X.env) fp) tg1 g1)
    (b5 : ∀ (s : Shared) (H : Hp) (C : Addr) (cl : List (Str × Addr)) (fp : List Addr), PTs (X.blk s H scope (compEnvC scope cl C X.env) fp) ifs1 tt1)
    (b6 : ∀ (s : Shared) (H : Hp) (C : Addr) (cl : List (Str × Addr)) (fp : List Addr), PE (X.blk s H scope (compEnvC scope cl C X.env) fp) elt te)
    (fold : ∀ x, foldedSetIterable iter X.env x = pure x := by intro _; rfl) (fold1 : ∀ env x, foldedSetIterable iter1 env x = pure x := by intro _ _; rfl) :
    PE X (.SetComp elt [⟨tg, iter, ifs, 0⟩, ⟨tg1, iter1, ifs1, 0⟩] scope pos) (tSc2 X.w wi g tt wi1 g1 tt1 te (own.map (·.2)) vs1) :=
  pe_sc2 hc hN hi ok hv (fun s H C cl fp => ⟨b1 s H C cl fp, b2 s H C cl fp, b3 s H C cl fp, b4 s H C cl fp, b5 s H C cl fp, b6 s H C cl fp⟩) fold fold1
theorem same_set {D : Addr} {H H' : Hp} {o : HO} (hD : H D = none) (k : Same H H') : Same H (upd H' D o) := fun b u e => by
  rw [upd_ne (ne_of_none e hD)]
  exact k _ _ e
theorem scan64 : 64 < scanBound := by decide +kernel
section
variable {P : Program} {w : World} {K : PySem.W.Frag} {mg : Str → Option Value} {base : Heap}
end
end K07

set_option Elab.async false
set_option linter.all false
set_option maxRecDepth 100000
set_option maxHeartbeats 4000000
/-! ways_from: all standings are found. -/
namespace K07
open PySem L2 L2.EV
abbrev has (kvs : List (Key × V)) (g : Int) : Bool := (valV kvs (Sum.inl g : Key)).isSome
/-- ways_from(framing, b): a new dict that has all standings -/
def spWays : Sp := fun vs H Q _ => ∃ (f : Addr) (fr : List T3) (last b : Nat), vs = [.ref f, .int b] ∧ FrA H f fr ∧ Frm fr last ∧ b ≤ last ∧
  ∀ (H' : Hp) (d : Addr) (kvs : List (Key × V)), Same H H' → H d = none → H' d = some (.dK kvs) → (∀ k : Nat, k ≤ last → has kvs k = true) → Q (.ref d) H'
/-- the standings up to last that are not found -/
def miss (last : Nat) (kvs : List (Key × V)) : Nat := ((List.range (last + 1)).filter fun k : Nat => !has kvs k).length
theorem miss_le {last : Nat} {kvs : List (Key × V)} : miss last kvs ≤ last + 1 := by
  have := List.length_filter_le (fun k : Nat => !has kvs k) (List.range (last + 1))
  rw [List.length_range] at this
  exact this
theorem filt_lt {α : Type} {p q : α → Bool} : ∀ {l : List α} {a : α}, a ∈ l → p a = true → q a = false → (∀ x, q x = true → p x = true) → (l.filter q).length < (l.filter p).length
  | x :: l, a, hm, hp, hq, h => by
    have le : ∀ m : List α, (m.filter q).length ≤ (m.filter p).length := fun m => by
      induction m with
      | nil => exact Nat.le_refl _
      | cons y m ih =>
        rw [List.filter_cons, List.filter_cons]
        by_cases z : q y = true
        · rw [if_pos z, if_pos (h y z), List.length_cons, List.length_cons]
          omega
        · rw [if_neg z]
          split
          · rw [List.length_cons]
            omega
          · exact ih
    rw [List.filter_cons, List.filter_cons]
    rcases List.mem_cons.mp hm with z | z
    · subst z
      rw [if_pos hp, if_neg (by rw [hq]; simp), List.length_cons]
      have := le l
      omega
    · have ih := filt_lt z hp hq h
      by_cases y : q x = true
      · rw [if_pos y, if_pos (h x y), List.length_cons, List.length_cons]
        omega
      · rw [if_neg y]
        split
        · rw [List.length_cons]
          omega
        · exact ih
theorem has_put {kvs : List (Key × V)} {g k : Int} {v : V} : has (putK kvs (Sum.inl g) v) k = (decide (k = g) || has kvs k) := by
  unfold has
  rw [valV_put]
  by_cases e : k = g
  · subst e
    rw [if_pos rfl, decide_eq_true rfl]
    rfl
  · rw [if_neg (fun z => e (Sum.inl.inj z)), decide_eq_false e, Bool.false_or]
theorem miss_put {last : Nat} {kvs : List (Key × V)} {g : Int} {v : V} (h0 : 0 ≤ g) (h1 : g ≤ last) (n : has kvs g = false) : miss last (putK kvs (Sum.inl g) v) < miss last kvs := by
  obtain ⟨a, rfl⟩ := Int.eq_ofNat_of_zero_le h0
  refine filt_lt (a := a) (List.mem_range.mpr (by omega)) (by simp only [n, Bool.not_false]) ?_ ?_
  · rw [has_put, decide_eq_true rfl]
    rfl
  · intro x hx
    rw [has_put] at hx
    cases z : has kvs x with
    | false => rfl
    | true =>
      rw [z] at hx
      simp at hx
/-- the rows: tuples of a way and a standing -/
def Rows (H : Hp) (last n : Nat) (ps : List (Addr × Int)) : Prop := ∀ q ∈ ps, 0 ≤ q.2 ∧ q.2 ≤ last ∧ ∃ (wy : Addr) (xs : List V), H q.1 = some (.tup [.ref wy, .int q.2]) ∧ H wy = some (.tup xs) ∧ xs.length ≤ n
def KeepT (H H' : Hp) : Prop := ∀ a xs, H a = some (.tup xs) → H' a = some (.tup xs)
theorem Rows.keep {H H' : Hp} {last n m : Nat} {ps : List (Addr × Int)} (h : Rows H last n ps) (k : KeepT H H') (l : n ≤ m) : Rows H' last m ps := fun q hq => by
  obtain ⟨h0, h1, wy, xs, e1, e2, e3⟩ := h q hq
  exact ⟨h0, h1, wy, xs, k _ _ e1, k _ _ e2, Nat.le_trans e3 l⟩
theorem Same.keepT {H H' : Hp} (s : Same H H') : KeepT H H' := fun a xs e => s _ _ e
theorem KeepT.trans {H H' H2 : Hp} (a : KeepT H H') (b : KeepT H' H2) : KeepT H H2 := fun x xs e => b _ _ (a _ _ e)
theorem keepT_upd {H : Hp} {d : Addr} {o : HO} {o' : HO} (e : H d = some o') (n : ∀ xs, o' ≠ .tup xs) : KeepT H (upd H d o) := fun a xs h => by
  by_cases z : a = d
  · subst z
    rw [e] at h
    exact absurd (Option.some.inj h) (n xs)
  · rw [upd_ne z]
    exact h
/-- t + u, u not empty: the result is somewhere, all else stays -/
def rCatS (K : PySem.W.Frag) : R2 := fun x y H Q => ∃ a b xs ys, x = .ref a ∧ y = .ref b ∧ SqT K H a xs ∧ H b = some (.tup ys) ∧ ys ≠ [] ∧ xs.length + ys.length ≤ sizeLine ∧ ∀ p H', Same H H' → H' p = some (.tup (xs ++ ys)) → Q (.ref p) H'
theorem op_catS {X : Cx} : OpR X (binaryOp .Add) (rCatS X.K) := by
  intro pins s σ H x y v u Q I rx ry h
  obtain ⟨a, b, xs, ys, rfl, rfl, ha, hb, hn, hz, q⟩ := h
  refine op_catA pins s σ H _ _ v u Q I rx ry ⟨a, b, xs, ys, rfl, rfl, ha, SqT.of hb, hz, fun z => ?_, fun _ z => absurd z hn, fun _ _ p hp => q p _ (same_upd hp) upd_same⟩
  subst z
  exact q b H (fun _ _ e => e) (by rw [hb]; rfl)
structure Co (H0 H : Hp) (d r u : Addr) (last m0 : Nat) (ps qs : List (Addr × Int)) (kvs : List (Key × V)) : Prop where
  sm : Same H0 H
  hd : H d = some (.dK kvs)
  hr : H r = some (.lst (ps.map fun q => V.ref q.1))
  hu : H u = some (.lst (qs.map fun q => V.ref q.1))
  rp : Rows H last kvs.length ps
  rq : Rows H last kvs.length qs
  cnt : kvs.length + miss last kvs ≤ last + 1
  me : (qs = [] ∧ miss last kvs ≤ m0) ∨ miss last kvs < m0
  ql : qs.length ≤ kvs.length
theorem Co.same {H0 H H' : Hp} {d r u : Addr} {last m0 : Nat} {ps qs : List (Addr × Int)} {kvs : List (Key × V)} (C : Co H0 H d r u last m0 ps qs kvs) (s : Same H H') : Co H0 H' d r u last m0 ps qs kvs :=
  ⟨C.sm.trans s, s _ _ C.hd, s _ _ C.hr, s _ _ C.hu, C.rp.keep (Same.keepT s) (Nat.le_refl _), C.rq.keep (Same.keepT s) (Nat.le_refl _), C.cnt, C.me, C.ql⟩
/-- what is reached from a standing that stands in the rows, or is found -/
def Clo (fr : List T3) (b : Nat) (kvs : List (Key × V)) (open_ : Int → T3 → Prop) : Prop := ∀ x ∈ fr, (x.1 = (b : Int) ∨ has kvs x.1 = true) → open_ x.1 x ∨ has kvs x.2.2 = true
section
variable {P : Program} {w : World} {K : PySem.W.Frag} {mg : Str → Option Value} {base : Heap}
end
end K07

set_option Elab.async false
set_option linter.all false
set_option maxRecDepth 100000
set_option maxHeartbeats 4000000
/-! try: .. except (A, B, ..) as e: the caught error is kept as a value behind the suite. Raising an own exception that was made by its own __init__. -/
namespace L2
namespace EV
open PySem PySem.Spec PyProof.Rows _root_.EV
/-- an exception that was caught, at a -/
def exh (cls : Value) (d : Option Addr) (a : Addr) : HO := .ext fun h => ∃ (oe : Obj) (vs : Array Value), h.get? a = some oe ∧ Zc cls d oe ∧ oe.data = .fields vs
theorem exh_ok {P : Program} {w : World} {H : Hp} {h : Heap} {a : Addr} {cls : Value} {d : Option Addr} {oe : Obj} {vs : Array Value} (e : h.get? a = some oe) (z : Zc cls d oe) (hd : oe.data = .fields vs) : ObjOk P w H h a (exh cls d a) :=
  ⟨⟨oe, vs, e, z, hd⟩, ⟨oe, e⟩, fun _ _ ⟨o, v, q, r⟩ k => ⟨o, v, k o q, r⟩⟩
theorem exh_at {P : Program} {w : World} {H : Hp} {h : Heap} {a : Addr} {cls : Value} {d : Option Addr} (hok : HOk P w H h) (e : H a = some (exh cls d a)) : ∃ (oe : Obj) (vs : Array Value), h.get? a = some oe ∧ Zc cls d oe ∧ oe.data = .fields vs := by
  have q : ObjOk P w H h a (.ext fun h => ∃ (oe : Obj) (vs : Array Value), h.get? a = some oe ∧ Zc cls d oe ∧ oe.data = .fields vs) := hok a _ e
  exact q.1
theorem flies_keeps {B : Heap} {l : List Env} {a : Addr} {Z : Obj → Prop} {h h' : Heap} (f : HandSPX.FlyingZ B l a Z h) (k : ∀ b o, h.get? b = some o → h'.get? b = some o) : HandSPX.FlyingZ B l a Z h' := by
  obtain ⟨f1, f2, f3, oe, vs, T, oT, ts, e1, e2, e3, e4, e5, e6, e7, e8, e9⟩ := f
  exact ⟨fun b o q => k b o (f1 b o q), f2, f3.of_keeps fun b o q _ => ⟨o, k b o q, rfl⟩, oe, vs, T, oT, ts, k _ _ e1, e2, e3, e4, e5, e6, k _ _ e7, e8, e9⟩
/-! ### does one of several classes match -/
section
variable {M : Model} {K : PySem.W.Frag} {h : Heap} {cls : Value}
theorem all_cls : ∀ {cs : List Value} {b : Bool}, PySem.W.exmAny K cls cs = some b → ∀ c ∈ cs, ∃ v, PySem.W.exmOne K cls c = some v
  | c :: r, b, e, x, hx => by
    obtain ⟨b1, d1, h1, h2, _⟩ := PySem.W.exmAny_cons e
    rcases List.mem_cons.mp hx with rfl | hx
    · exact ⟨_, h1⟩
    · exact all_cls h2 x hx
section
variable {A : Around} {E : Value → Shared → Prop} {s : Shared}
theorem loop_exc (X : K.In h) (k0 : ∀ b o, h.get? b = some o → s.heap.get? b = some o) {R : PUnit → Shared → Prop} (r : R ⟨⟩ s) : ∀ l : List Value, (∀ c ∈ l, ∃ v, PySem.W.exmOne K cls c = some v) →
    wpAny M A (forIn l PUnit.unit fun c _ => do
        if (!(← isExcClass c)) = true then do
          rule "try.except-non-exception-class"
          raiseErrorWords "TypeError" "catching classes that do not inherit from BaseException is not allowed"
          pure (ForInStep.yield PUnit.unit)
        else pure (ForInStep.yield PUnit.unit)) R E s := by
  intro l
  induction l with
  | nil => exact fun _ => wpAny_pure r
  | cons c l ih =>
    intro hl
    obtain ⟨v, hv⟩ := hl c (List.mem_cons_self ..)
    obtain ⟨i1, _⟩ := PySem.W.exm_cls (M := M) X hv
    rw [List.forIn_cons]
    refine wpAny_bind (wpAny_bind ((i1.keeps k0).here ?_))
    simp only [Bool.not_true, Bool.false_eq_true, if_false]
    exact wpAny_pure (ih fun x hx => hl x (List.mem_cons_of_mem _ hx))
theorem loop_sub (X : K.In h) (k0 : ∀ b o, h.get? b = some o → s.heap.get? b = some o) {R : Option Bool × Unit → Shared → Prop} : ∀ (l : List Value) (b : Bool), PySem.W.exmAny K cls l = some b → R (if b = true then (some true, ()) else (none, ())) s →
    wpAny M A (forIn l ((none, ()) : Option Bool × Unit) fun c _ => do
        if (← isSubtype cls c) = true then pure (ForInStep.done (some true, ())) else pure (ForInStep.yield (none, ()))) R E s := by
  intro l
  induction l with
  | nil =>
    intro b e r
    have : some false = some b := e
    cases this
    exact wpAny_pure r
  | cons c l ih =>
    intro b e r
    obtain ⟨b1, d1, h1, h2, rfl⟩ := PySem.W.exmAny_cons e
    obtain ⟨_, S1⟩ := PySem.W.exm_cls (M := M) X h1
    rw [List.forIn_cons]
    refine wpAny_bind (wpAny_bind ((S1.keeps k0).here ?_))
    cases b1 with
    | true =>
      rw [Bool.true_or] at r
      simp only [if_true]
      exact wpAny_pure (wpAny_pure r)
    | false =>
      rw [Bool.false_or] at r
      simp only [Bool.false_eq_true, if_false]
      exact wpAny_pure (ih _ h2 r)
end
theorem match_list {cs : List Value} {b : Bool} {tp e : Addr} (X : K.In h) (LT : PySem.W.Looks M h (typeOf (.ref e)) cls) (hp : h.get? tp = some { cls := .type "tuple", data := .seq cs.toArray }) (hx : PySem.W.exmAny K cls cs = some b) :
    PySem.W.Looks M h (excMatches (.ref e) (.ref tp)) b := by
  intro A Q E s k0 q
  have L0 : PySem.W.Looks M h (isInstance (.ref tp) (.type "tuple")) true := ((PySem.W.Looks.ld hp).andThen .now).andThen (PySem.W.Looks.of_pure isSubtype_tuple_tuple)
  have hp' := k0 _ _ hp
  unfold excMatches
  refine wpAny_bind ((L0.keeps k0).here ?_)
  rw [if_pos rfl]
  have ec : ((some cs.toArray).getD #[]).toList = cs := by simp
  refine wpAny_bind ?_
  refine wpAny_seqItems hp' rfl ?_
  refine wpAny_bind (wpAny_pure ?_)
  show wpAny _ _ (do
      forIn ((some cs.toArray).getD #[]).toList PUnit.unit _
      _) _ _ _
  rw [ec]
  refine wpAny_bind (loop_exc X k0 ?_ cs (all_cls hx))
  refine wpAny_bind ((LT.keeps k0).here ?_)
  refine wpAny_bind (loop_sub X k0 cs b hx ?_)
  cases b with
  | true => exact wpAny_pure q
  | false => exact wpAny_pure q
end
/-! ### the rule -/
/-- classes by their names -/
inductive ClsL (X : Cx) : List Expr → List Value → Prop
  | nil : ClsL X [] []
  | cons {x : Str} {c : Value} {p : Pos} {es : List Expr} {cs : List Value} : Names X x c → ClsL X es cs → ClsL X (.Name x p :: es) (c :: cs)
theorem ClsL.suite {X : Cx} {a : Addr} {pn : List (Addr × Obj)} : ∀ {es : List Expr} {cs : List Value}, ClsL X es cs → ClsL (X.suite a pn) es cs
  | _, _, .nil => .nil
  | _, _, .cons hc r => .cons (X := X.suite a pn) hc r.suite
theorem cls_read {Y : Cx} {pins : List (Addr × Obj)} {σ : St} {H : Hp} {s : Shared} (I : Inv Y pins σ H s) {pos : Pos} {E : Value → Shared → Prop} : ∀ {es : List Expr} {cs : List Value} {Q : List Value → Shared → Prop}, ClsL Y es cs → Q cs s →
    wpAny (model Y.prog Y.w) Y.A (spliced (backTo pos (starEach es Y.env))) Q E s
  | _, _, _, .nil, q => wpAny_items_nil q
  | _, _, Q, .cons (c := c) (es := es) (cs := cs) hc r, q => wpAny_items_cons (by
      have rest : wpAny (model Y.prog Y.w) Y.A (spliced (backTo pos (starEach es Y.env))) (fun vs s2 => Q (c :: vs) s2) E s := cls_read I r q
      obtain ⟨hg, hd, hm | ⟨hm, hv, hn⟩⟩ := hc
      · exact ld_glob I hg hm rest hd
      · exact ld_blt I hg hm hv rest hn hd)
theorem ClsL.len {X : Cx} : ∀ {es : List Expr} {cs : List Value}, ClsL X es cs → cs.length = es.length
  | _, _, .nil => rfl
  | _, _, .cons _ r => by rw [List.length_cons, List.length_cons, r.len]
/-- what is pinned is tracked from now on -/
theorem inv_hold {X : Cx} {pins : List (Addr × Obj)} {σ : St} {H : Hp} {s : Shared} {a : Addr} {oe : Obj} {vs : Array Value} {cls : Value} {d : Option Addr} (I : Inv X ((a, oe) :: pins) σ H s) (hm : ∀ p, p ∈ (a, oe) :: (X.pn ++ pins) → p ∈ X.pn ++ ((a, oe) :: pins)) (z : Zc cls d oe) (hd : oe.data = .fields vs)
    (n0 : X.s_0.heap.get? a = none) (np : ∀ p ∈ X.pn ++ pins, p.1 ≠ a) : Inv X pins σ (upd H a (exh cls d a)) s := by
  obtain ⟨e, n, ne, nf, dc⟩ := I.pin (a, oe) (hm _ (List.mem_cons_self ..))
  have ne : a ≠ X.env.locals := ne
  have n : H a = none := n
  have old : ∀ b o, X.s_0.heap.get? b = some o → b ≠ a := fun b o q z => by
    rw [z, n0] at q
    cases q
  refine ⟨I.ok, I.os, I.bare, ⟨I.base.keep, I.base.slot, fun b o q m hx => ?_, I.base.there, fun b xs q => ?_, fun b o u q => ?_, fun b ps q => ?_⟩, I.loc, I.cell, ?_, fun x c q => ?_, fun p hp => ?_, ?_, I.len⟩
  · rw [upd_ne (old b o q)]
    exact I.base.free b o q m hx
  · have z := I.base.tups b xs q
    rw [upd_ne (ne_of_none z n)]
    exact z
  · have z := I.base.frzs b o u q
    rw [upd_ne (ne_of_none z n)]
    exact z
  · obtain ⟨m, z⟩ := I.base.tbls b ps q
    exact ⟨m, by rw [upd_ne (ne_of_none z n)]; exact z⟩
  · rw [upd_ne ne.symm]
    exact I.free
  · have nc : c ≠ a := fun z => by
      obtain ⟨v, o, q1, q2⟩ := I.cell x c q
      rw [z] at q1
      have e' : s.heap.get? a = some oe := e
      rw [e'] at q1
      cases q1
      rw [hd] at q2
      cases q2
    rw [upd_ne nc]
    exact I.freeC x c q
  · obtain ⟨e1, e2, e3, e4, e5⟩ := I.pin p (hm p (List.mem_cons_of_mem _ hp))
    exact ⟨e1, by rw [upd_ne (np p hp)]; exact e2, e3, e4, e5⟩
  · exact I.hok.laidN (fun _ _ q => q) n (exh_ok e z hd)
/-- what the clause wishes of an exception of the body: it is of one of the classes; behind the suite it stands at a -/
def wKeep (K : PySem.W.Frag) (n : Nat) (cs : List Value) (i : Nat) (ts : Addr → Value → Option Addr → TS) (D : Ends) : WX := fun cls d σ H => σ.length = n → PySem.W.exmAny K cls cs = some true ∧
  ∀ a, H a = none → ts a cls d { nx := fun σ' H' => D.nx (σ'.set i none) (upd H' a (exh cls d a)), rt := fun _ _ => False } (σ.set i (some (.ref a))) H
section
variable {X : Cx} {n : Str} {cs : List Value} {es : List Expr} {kx i : Nat} {body suite : List Stmt} {b0 : Stmt} {tpos pos hpos : Pos} {tb : WX → TS} {ts : Addr → Value → Option Addr → TS}
theorem ps_try_keep (hs : X.stack = X.env :: X.outer) (hf : X.env.frame = some X.env.locals) (hex : X.ex = []) (hN : X.N.Nodup) (hi : X.N[i]? = some n) (hln : X.env.kindOf n = some .local) (hc : ClsL X es cs) (hl : es.length ≤ 1000)
    (hb : ∀ (W : WX) (pn : List (Addr × Obj)) (xe : Value → Shared → Prop), Takes (X.tr pn xe) W → PassesOwn (model X.prog X.w) X.A X.env xe → PSs (X.tr pn xe) body (tb W))
    (hsu : ∀ (a : Addr) (oe : Obj) (cls : Value) (d : Option Addr) (pn : List (Addr × Obj)), Zc cls d oe → (∃ vs, oe.data = .fields vs) → PSs (X.suite a ((a, oe) :: pn)) (b0 :: suite) (ts a cls d)) :
    PS X (.Try body [.ExceptHandler (some (.Tuple es kx tpos)) (some n) (b0 :: suite) hpos] [] [] pos) (fun D σ H => tb (wKeep X.K X.N.length cs i ts D) D σ H) := by
  refine ⟨fun pins s σ H D I h => ?_⟩
  have ok := I.ok
  have hfr : X.A.frames = some (X.env :: X.outer) := by rw [ok.frames, hs]
  have loc : Loc X.env.scope n := .inl hln
  have B0 := hb (wKeep X.K X.N.length cs i ts D) (X.pn ++ pins) (fun e s1 => wpAny (model X.prog X.w) X.A (noteFrame e X.env) (fun _ s2 => wpAny (model X.prog X.w) X.A (setFlight e none) (fun _ s3 =>
    wpAny (model X.prog X.w) X.A (handleBy e X.env [.ExceptHandler (some (.Tuple es kx tpos)) (some n) (b0 :: suite) hpos]) (SP X pins D) X.xe s3) X.xe s2) X.xe s1)
  refine wpAny_Try_except (wpAny_mono ((B0 (fun u s' caught => ?_) PassesOwn.looking).run [] s σ H D (I.toTry _) h) (fun f s1 went => ?_) fun _ _ z => z)
  · obtain ⟨a, B, sI, pins', σ', H', cls, d, rfl, J', nb, up, sky, na, os, ag, hW⟩ := caught
    obtain ⟨hit, hyes⟩ := hW J'.len
    have J : Inv X pins σ' H' sI := J'.ofTry ok
    show wpAny (model X.prog X.w) X.A (noteFrame (.ref a) X.env) _ _ _
    refine Sky.land Zc.steady hfr hf (by rw [← hs]; exact sky) fun h3 fl3 up3 => ?_
    have J3 : Inv X pins σ' H' { s' with heap := h3 } := J.landed nb fl3.1 (up.trans up3) os ag
    obtain ⟨oe3, vs3, he3, hz3, hd3⟩ := fl3.there
    have nfr : a ∉ frs (X.env :: X.outer) := fun hm => by
      obtain ⟨_, o, q, nd⟩ := fl3.2.2.1.mem hm
      rw [he3] at q
      cases q
      exact nd _ hd3
    have nL : a ≠ X.env.locals := fun z => nfr (List.mem_filterMap.mpr ⟨X.env, List.mem_cons_self, by rw [hf, z]⟩)
    have nF : a ∉ X.fs := fun hm => by
      obtain ⟨e, he, q⟩ := List.mem_filterMap.mp hm
      exact nfr (List.mem_filterMap.mpr ⟨e, List.mem_cons_of_mem _ he, q⟩)
    have nI : sI.heap.get? a = none := by
      cases q : sI.heap.get? a with
      | none => rfl
      | some o =>
        have z := nb a o q (by rw [hs]; exact nfr)
        rw [fl3.2.1] at z
        cases z
    have n0 : X.s_0.heap.get? a = none := by
      cases q : X.s_0.heap.get? a with
      | none => rfl
      | some o =>
        obtain ⟨o', z⟩ := J.base.there a o q (by rw [hex]; exact fun z => nomatch z)
        rw [nI] at z
        cases z
    have np : ∀ p ∈ X.pn ++ pins, p.1 ≠ a := fun p hp z => by
      have q := (J.pin p hp).1
      rw [z, nI] at q
      cases q
    have S3 := J3.suite he3 hd3 na nL nF
    refine wpAny_handleBy_cons (codeAny_handlers_test ?_) (by intro q; cases q)
    refine wpAny_Tuple (cls_read S3 hc.suite ⟨by rw [hc.len, sizeLine_eq]; omega, ?_⟩)
    have k5 : ∀ b o, h3.get? b = some o → (h3.push { cls := .type "tuple", data := .seq cs.toArray }).get? b = some o := fun _ _ z => Heap.get?_push_of_some _ z
    have LT : PySem.W.Looks (model X.prog X.w) (h3.push { cls := .type "tuple", data := .seq cs.toArray }) (typeOf (.ref a)) cls := fun A Q E s k q => wpAny_typeOf_ref (k _ _ (k5 _ _ he3)) (by rw [hz3.1]; exact q)
    refine (match_list (M := model X.prog X.w) (J3.kIn.keeps k5) LT (Heap.get?_push_size h3 rfl) hit).here ?_
    refine codeAny_handlers_suite_as ?_
    refine HandSPX.lands_againZ (flies_keeps fl3 k5) fun h4 fl4 up4 => ?_
    have J4 : Inv X pins σ' H' { s' with heap := h4 } := J.landed nb fl4.1 (((up.trans up3).trans (Heap.UpToSlots.of_keeps k5)).trans up4) os ag
    obtain ⟨oe4, vs4, he4, hz4, hd4⟩ := fl4.there
    have S4 := J4.suite he4 hd4 na nL nF
    refine store_ok (X := X.suite a ((a, oe4) :: (X.pn ++ pins))) (v := .ref a) S4 hN hi loc rfl (fun s5 S5 => ?_) (.inr hln)
    refine wpAny_mono ((hsu a oe4 cls d (X.pn ++ pins) hz4 ⟨_, hd4⟩).run [] s5 _ H' _ S5 (hyes a na)) (fun f s6 hsp => ?_) (fun _ _ z => False.elim z)
    cases f with
    | next =>
      obtain ⟨σ6, H6, S6, q6⟩ := hsp
      have K6 : Inv X ((a, oe4) :: pins) σ6 H6 s6 := ⟨ok, S6.os, S6.bare, S6.base, S6.loc, S6.cell, S6.free, S6.freeC, fun p hp => S6.pin p (by
        show p ∈ ((a, oe4) :: (X.pn ++ pins)) ++ []
        rw [List.append_nil]
        rcases List.mem_append.mp hp with z | z
        · exact List.mem_cons_of_mem _ (List.mem_append_left _ z)
        · rcases List.mem_cons.mp z with z | z
          · rw [z]
            exact List.mem_cons_self ..
          · exact List.mem_cons_of_mem _ (List.mem_append_right _ z)), S6.hok, S6.len⟩
      refine gone_ok K6 hN hi hln fun s7 J7 => ⟨_, _, inv_hold J7 (fun p hp => ?_) hz4 hd4 n0 np, q6⟩
      rcases List.mem_cons.mp hp with z | z
      · rw [z]
        exact List.mem_append_right _ (List.mem_cons_self ..)
      · rcases List.mem_append.mp z with z | z
        · exact List.mem_append_left _ z
        · exact List.mem_append_right _ (List.mem_cons_of_mem _ z)
    | brk =>
      obtain ⟨_, _, _, z⟩ := hsp
      exact False.elim z
    | cont =>
      obtain ⟨_, _, _, z⟩ := hsp
      exact False.elim z
    | ret u =>
      obtain ⟨_, _, _, _, _, z⟩ := hsp
      exact False.elim z
  · cases f with
    | next =>
      obtain ⟨σ', H', J', q⟩ := went
      exact wpAny_execs_nil ⟨σ', H', J'.ofTry ok, q⟩
    | brk =>
      obtain ⟨σ', H', J', q⟩ := went
      exact ⟨σ', H', J'.ofTry ok, q⟩
    | cont =>
      obtain ⟨σ', H', J', q⟩ := went
      exact ⟨σ', H', J'.ofTry ok, q⟩
    | ret u =>
      obtain ⟨v, σ', H', J', r, q⟩ := went
      exact ⟨v, σ', H', J'.ofTry ok, r, q⟩
end
/-! ### raise C(..), C with its own __init__ -/
theorem pmk_own2 {X : Cx} {e : Expr} {te : TE} (hx : X.ex = []) (he : PE X e te) :
    PMk X e (fun σ H Q => te σ H fun x H1 => ∃ (a C : Addr) (od : Option Addr), x = .ref a ∧ H1 a = some (exo a C od) ∧ Fr0 X.H_0 a ∧ Raises X (.ref C) ∧ Q (.ref C) od (delH H1 a)) := by
  intro pins s σ H Q I h
  refine wpAny_mono (he.run pins s σ H _ I h) (fun u s1 hu => ?_) fun _ _ x => x
  obtain ⟨v, H1, I1, r1, a, C, od, rfl, ha, h0, hr, q⟩ := hu
  cases r1
  obtain ⟨t1, ho⟩ := exo_at I1.hok ha
  obtain ⟨G, gs, ga, J⟩ := I1.untrack ha h0 hx
  exact ⟨a, _, _, { s1 with heap := G }, delH H1 a, .ref C, od, rfl, J, gs, ga, ho, ⟨rfl, rfl⟩, rfl, rfl, delH_same, rfl, I1.bare, hr, q⟩
/-! ### isinstance of a caught one -/
def rIsC (K : PySem.W.Frag) : List V → Hp → VK → Prop := fun xs H Q => ∃ (a C : Addr) (B newId initId : String) (bm : List Value) (c : V) (u : Value) (b : Bool),
  xs = [.ref a, c] ∧ ClsV c u ∧ OxC K C B newId initId bm ∧ H a = some (exh (.ref C) none a) ∧ PySem.W.kitOne K (.ref C) u = some b ∧ Q (.bl b) H
theorem call_isC {X : Cx} : CallR X (.builtin "isinstance") (rIsC X.K) := by
  intro pins s σ H xs us Q I r h
  obtain ⟨a, C, B, newId, initId, bm, c, u, b, rfl, k, T, ea, e, q⟩ := h
  obtain ⟨u1, u2, rfl, r1, r2⟩ := vals2 r
  have e2 := k.eq r2
  subst e2
  obtain rfl : u1 = Value.ref a := r1
  obtain ⟨oe, vs, ho, hz, hd⟩ := exh_at I.hok ea
  obtain ⟨cd, hcl, _⟩ := T.data
  have some_ : (PySem.W.clsIn X.K C).isSome = true := by rw [hcl]; rfl
  have J : PySem.W.InstAt s.heap a oe C none := ⟨ho, hz.1, by unfold PySem.W.notCls; rw [hd], by rw [hz.2]; exact trivial⟩
  exact PySem.W.kia_one (PySem.W.kitx_exc some_ T.ga T.gg T.exC T.ca T.cn T.ct T.om) I.kIn J e (fun z => nomatch z) fun tk => ⟨.bl b, H, I.tok tk, rfl, q⟩
end EV
end L2

set_option Elab.async false
set_option linter.all false
set_option maxRecDepth 100000
set_option maxHeartbeats 4000000
/-! t[::-1] of a tuple. -/
namespace L2
namespace EV
open PySem PySem.Spec PyProof.Rows _root_.EV PySem.Builtin
theorem rev_adjust (n : Nat) : Slice.sliceAdjust none none (-1) (n : Int) = ((n : Int) - 1, -1) := by
  unfold Slice.sliceAdjust
  simp
theorem rev_places (n : Nat) : Slice.slicePlaces ((n : Int) - 1) (-1) (-1) = n := by
  unfold Slice.slicePlaces
  rw [if_neg (by decide)]
  by_cases h : 0 < n
  · rw [if_pos (by omega)]
    simp only [Int.neg_neg, Int.ediv_one]
    omega
  · rw [if_neg (by omega)]
    omega
theorem fm_congr {α β : Type} {f g : α → Option β} : ∀ {l : List α}, (∀ x ∈ l, f x = g x) → l.filterMap f = l.filterMap g
  | [], _ => rfl
  | x :: l, h => by
    rw [List.filterMap_cons, List.filterMap_cons, h x (List.mem_cons_self ..), fm_congr fun y hy => h y (List.mem_cons_of_mem _ hy)]
theorem rev_pick (xs : Array Value) : ((List.range xs.size).filterMap fun (k : Nat) => xs[((xs.size : Int) - 1 + (k : Int) * -1).toNat]?) = xs.toList.reverse := by
  have e : ∀ k ∈ List.range xs.size, xs[((xs.size : Int) - 1 + (k : Int) * -1).toNat]? = xs.toList.reverse[k]? := fun k hk => by
    have hk := List.mem_range.mp hk
    have z : ((xs.size : Int) - 1 + (k : Int) * -1).toNat = xs.size - 1 - k := by omega
    rw [z, List.getElem?_reverse (by simpa using hk)]
    simp
  rw [fm_congr e]
  have g : ∀ l : List Value, (List.range l.length).filterMap (fun k => l[k]?) = l := fun l => by
    have z := PySem.W.krv_all l.toArray
    simpa using z
  have z := g xs.toList.reverse
  simpa using z
section
variable {prog : Program} {w : World} {A : Around} {E : Value → Shared → Prop} {s : Shared}
theorem rev_applied {sl : Addr} {vk : Value} {n : Nat} {Q : Int × Int × Nat → Shared → Prop} (hs : s.heap.IsSliceOf sl .none .none vk) (pk : IsPart vk (some (-1))) (h : Q ((n : Int) - 1, -1, n) s) :
    wpAny (model prog w) A (Slice.sliceApplied (.ref sl) (pure (n : Int))) Q E s := by
  obtain ⟨os, hos, _, hds⟩ := id hs
  unfold Slice.sliceApplied Slice.sliceFields
  refine wpAny_bind (wpAny_bind (wpAny_field hos hds (x := .none) rfl (wpAny_bind (wpAny_field hos hds (x := .none) rfl (wpAny_bind (wpAny_field hos hds (x := vk) rfl (wpAny_pure ?_)))))))
  refine wpAny_bind (HT.slicePart_ pk ?_)
  show wpAny _ _ (if ((-1 : Int) == 0) = true then _ else _) _ _ s
  rw [if_neg (by decide)]
  refine wpAny_bind (slicePart_none (wpAny_bind (slicePart_none (wpAny_bind (wpAny_pure ?_)))))
  show wpAny _ _ (match Slice.sliceAdjust none none (-1) (n : Int) with | (lo, hi) => pure (lo, (-1 : Int), Slice.slicePlaces lo hi (-1))) _ _ s
  rw [rev_adjust]
  show wpAny _ _ (pure ((n : Int) - 1, (-1 : Int), Slice.slicePlaces ((n : Int) - 1) (-1) (-1))) _ _ s
  rw [rev_places]
  exact wpAny_pure h
theorem rev_item {t sl : Addr} {items : Array Value} {vk : Value} {Q : Value → Shared → Prop} (ht : IsTup s.heap t items) (hs : s.heap.IsSliceOf sl .none .none vk) (pk : IsPart vk (some (-1))) (hz : items.size ≤ sizeLine)
    (h : Q (.ref s.heap.objs.size) { s with heap := s.heap.push { cls := .type "tuple", data := .seq items.toList.reverse.toArray } }) : wpAny (model prog w) A (getItem (.ref t) (.ref sl)) Q E s := by
  have ok : sizeOk (.seq items.toList.reverse.toArray) := by
    show items.toList.reverse.toArray.size ≤ sizeLine
    rw [List.size_toArray, List.length_reverse, Array.length_toList]
    exact hz
  obtain ⟨os, hos, hcs, _⟩ := id hs
  have hTs : s.TypeIs (.ref sl) "slice" := ⟨os, hos, hcs⟩
  unfold getItem
  try with_reducible refine wpAny_holding ?_
  first | refine wpAny_bind (wpAny_pure ?_) | skip
  refine wpAny_bind (wpAny_sequenceKey ht.typeIs (by decide) ?_)
  refine wpAny_bind (wpAny_callSpecial?_slot (name := Str.ofString "__getitem__") ht.typeIs PyProof.Rows.slot_tuple_getitem (wpAny_call_entry PyProof.Rows.slot_tuple_getitem ht.typeIs entry_tuple_getitem ?_ (args_tuple_getitem _ _)))
  show wpAny _ _ (Tuple.tupleItemsOf (.ref t) >>= _) _ _ s
  refine wpAny_bind (tupleItemsOf_ ht (wpAny_bind (wpAny_typeOf hTs ?_)))
  rw [if_pos (by decide)]
  refine wpAny_bind (rev_applied hs pk ?_)
  show wpAny _ _ (if ((((items.size : Nat) : Int) - 1) == 0 && (-1 : Int) == 1 && items.size == items.size) = true then _ else _) _ _ s
  rw [if_neg (by simp), rev_pick]
  first
    | exact wpAny_bind (m := Tuple.tupleExact _) (wpAny_newObj_type (wpAny_pure ⟨_, rfl, wpAny_pure h⟩) ok)
    | exact wpAny_bind (m := Tuple.tupleExact _) (wpAny_newObj_type (wpAny_bind (wpAny_pure (wpAny_pure ⟨_, rfl, wpAny_pure h⟩))) ok)
    | exact wpAny_bind (wpAny_bind (m := Tuple.tupleExact _) (wpAny_newObj_type (wpAny_pure (wpAny_pure ⟨_, rfl, wpAny_pure h⟩)) ok))
    | exact wpAny_bind (wpAny_bind (m := Tuple.tupleExact _) (wpAny_newObj_type (wpAny_pure ⟨_, rfl, wpAny_pure h⟩) ok))
end
def tRevT (K : PySem.W.Frag) (te tk : TE) : TE := fun σ H Q => te σ H fun x H1 => tPart tk σ H1 fun o H2 => o = some (-1) ∧ ∃ a xs, x = .ref a ∧ H2 a = some (.tup xs) ∧ ∀ p, H2 p = none → Q (.ref p) (upd H2 p (.tup xs.reverse))
theorem vals_revs : ∀ {zs : List V} {ws : List Value}, Vals zs ws → Vals zs.reverse ws.reverse
  | _, _, .nil => .nil
  | _, _, .cons r t => by
    rw [List.reverse_cons, List.reverse_cons]
    exact (vals_revs t).append (.cons r .nil)
section
variable {X : Cx} {e k : Expr} {te tk : TE} {pos p2 : Pos}
theorem pe_revT {ops : Value → Value → List Value} (he : PE X e te) (hk : PE X k tk) (hs : ∀ o i : Value, subscripted (.Slice none none (some k) p2) false o i = operate (ops o i) (getItem o i)) : PE X (.Subscript e (.Slice none none (some k) p2) pos) (tRevT X.K te tk) := by
  refine ⟨fun pins s σ H Q I h => ?_⟩
  refine Subscript_ (thn (he.run pins s σ H _ I h) fun v s1 ⟨x, H1, I1, r1, q1⟩ => ?_)
  refine wpAny_Slice (thn (po_none.run pins s1 σ H1 (fun o H' => o = none ∧ H' = H1) I1 ⟨rfl, rfl⟩) fun vl s2 ⟨l, H2, I2, pl, q2⟩ => thn (po_none.run pins s2 σ H2 (fun o H' => o = none ∧ H' = H2) I2 ⟨rfl, rfl⟩) fun vu s3 ⟨u, H3, I3, pu, q3⟩ => ?_)
  obtain ⟨rfl, rfl⟩ := q2
  obtain ⟨rfl, rfl⟩ := q3
  cases pl
  cases pu
  refine thn ((po_some hk).run pins s3 σ _ _ I3 q1) fun vk s4 ⟨o, H4, I4, pk, ho, a, xs, ex, ea, q4⟩ => ?_
  subst ex ho
  obtain rfl : v = Value.ref a := r1
  have I5 : Inv X pins σ H4 { s4 with heap := s4.heap.push { cls := .type "slice", data := .fields #[.none, .none, vk] } } := I4.kept (t' := s4.toks) fun b ob q => Heap.get?_push_of_some _ q
  obtain ⟨its, r, ht, hz⟩ := I5.tuple (SqT.of ea)
  have hg := rev_item (prog := X.prog) (w := X.w) (A := X.A) (E := X.xe) (Q := EP X pins σ Q) (s := { s4 with heap := s4.heap.push { cls := .type "slice", data := .fields #[.none, .none, vk] } }) ht (Heap.IsSliceOf.new ..) pk (by rw [List.size_toArray, ← r.length]; exact hz) ?_
  · exact tail_any ht.typeIs PyProof.Rows.slot_tuple_getitem.lookup hg (hs _ _)
  · rw [List.toList_toArray]
    have fr : H4 (s4.heap.push { cls := .type "slice", data := .fields #[.none, .none, vk] }).objs.size = none := I5.hok.fresh (Nat.le_refl _)
    refine ⟨.ref (s4.heap.push { cls := .type "slice", data := .fields #[.none, .none, vk] }).objs.size, _, I5.laid (t' := s4.toks) (a := (s4.heap.push { cls := .type "slice", data := .fields #[.none, .none, vk] }).objs.size) (o := .tup xs.reverse)
      (h' := (s4.heap.push { cls := .type "slice", data := .fields #[.none, .none, vk] }).push { cls := .type "tuple", data := .seq its.reverse.toArray }) (fun b o q => Heap.get?_push_of_some _ q) (Nat.le_refl _) ?_, rfl, q4 _ fr⟩
    exact ⟨by rw [List.length_reverse]; exact hz, its.reverse, vals_revs r, ⟨_, Heap.get?_push_size _ rfl, rfl, 0, rfl⟩⟩
end
end EV
end L2

set_option Elab.async false
set_option linter.all false
set_option maxRecDepth 100000
set_option maxHeartbeats 4000000
/-! Pairs of an int and a text: <, <=. Raising an own exception whose __init__ has put fields. -/
namespace L2
open PySem PySem.Spec PyProof.Rows
abbrev IS : Type := Int × Str
def ltIS (a b : IS) : Bool := if a.1 = b.1 then decide (sl a.2 < sl b.2) else decide (a.1 < b.1)
def tIS (a : IS) : HO := .tup [.int a.1, .str a.2]
def rLtIS : R2 := fun x y H Q => ∃ (a b : Addr) (m n : IS), x = .ref a ∧ y = .ref b ∧ H a = some (tIS m) ∧ H b = some (tIS n) ∧ Q (.bl (ltIS m n)) H
def rLeIS : R2 := fun x y H Q => ∃ (a b : Addr) (m n : IS), x = .ref a ∧ y = .ref b ∧ H a = some (tIS m) ∧ H b = some (tIS n) ∧ Q (.bl (!ltIS n m)) H
theorem lexP_lt (m n : IS) : Ob.lexAt (fun j => if j = 0 then m.1 == n.1 else m.2 == n.2) (fun j => if j = 0 then decide (m.1 < n.1) else decide (sl m.2 < sl n.2)) false 0 2 = ltIS m n := by
  obtain ⟨m1, m2⟩ := m
  obtain ⟨n1, n2⟩ := n
  simp only [Ob.lexAt, ltIS]
  by_cases e1 : m1 = n1
  · subst e1
    by_cases e2 : m2 = n2
    · subst e2
      have z : ¬ sl m2 < sl m2 := List.lt_irrefl _
      simp
    · simp [e2]
  · simp [e1]
theorem lexP_le (m n : IS) : Ob.lexAt (fun j => if j = 0 then m.1 == n.1 else m.2 == n.2) (fun j => if j = 0 then decide (m.1 ≤ n.1) else decide (sl m.2 ≤ sl n.2)) true 0 2 = !ltIS n m := by
  obtain ⟨m1, m2⟩ := m
  obtain ⟨n1, n2⟩ := n
  simp only [Ob.lexAt, ltIS]
  by_cases e1 : m1 = n1
  · subst e1
    by_cases e2 : m2 = n2
    · subst e2
      have z : ¬ sl m2 < sl m2 := List.lt_irrefl _
      simp
    · have e2' : ¬ n2 = m2 := fun z => e2 z.symm
      simp only [beq_self_eq_true, if_true, Nat.zero_add, Nat.one_ne_zero, if_false, beq_iff_eq, e2]
      by_cases z : sl m2 ≤ sl n2
      · rw [decide_eq_true z, decide_eq_false (List.not_lt.mpr z)]
        rfl
      · rw [decide_eq_false z, decide_eq_true (List.not_le.mp z)]
        rfl
  · have e1' : ¬ n1 = m1 := fun z => e1 z.symm
    simp only [if_true, beq_iff_eq, e1, e1', if_false]
    by_cases z : m1 ≤ n1
    · rw [decide_eq_true z, decide_eq_false (by omega)]
      rfl
    · rw [decide_eq_false z, decide_eq_true (by omega)]
      rfl
theorem lt_strR {A : Around} {s : Shared} (a b : Str) (t u : Tok) : Ob.RcOp .Lt A s (.str a t) (.str b u) (decide (sl a < sl b)) := fun _ _ _ _ h => PyProof.Rows.lt_str h
section
variable {X : Cx}
theorem vals_2 {x y : V} {us : List Value} (r : Vals [x, y] us) : ∃ u w', us = [u, w'] ∧ RelV x u ∧ RelV y w' := by
  cases r with
  | cons r1 r =>
    cases r with
    | cons r2 r =>
      cases r
      exact ⟨_, _, rfl, r1, r2⟩
theorem op_ltIS (hu : X.A.units < cLine) : OpR X (compareOp .Lt) rLtIS := by
  intro pins s σ H x y v u Q I rx ry h
  obtain ⟨a, b, m, n, rfl, rfl, ha, hb, q⟩ := h
  cases rx
  cases ry
  obtain ⟨its, r1, p1, _⟩ := I.tuple (SqT.of ha)
  obtain ⟨its2, r2, p2, _⟩ := I.tuple (SqT.of hb)
  obtain ⟨u1, u2, rfl, ⟨t1, rfl⟩, ⟨t2, rfl⟩⟩ := vals_2 r1
  obtain ⟨v1, v2, rfl, ⟨w1, rfl⟩, ⟨w2, rfl⟩⟩ := vals_2 r2
  have R := Ob.RcOp.tuples_lt (A := X.A) (s := s) (e := fun j => if j = 0 then m.1 == n.1 else m.2 == n.2) (r := fun j => if j = 0 then decide (m.1 < n.1) else decide (sl m.2 < sl n.2)) p1 p2 hu
    (fun j h1 h2 => by
      match j, h1 with
      | 0, _ => exact SeqAt.EqAt.int_int _ _ _ _
      | 1, _ => exact SeqAt.EqAt.str_str _ _ _ _)
    (fun j h1 h2 _ => by
      match j, h1 with
      | 0, _ => exact Ob.RcOp.lt_int _ _ _ _
      | 1, _ => exact lt_strR _ _ _ _)
  have e3 : Ob.lexAt (fun j => if j = 0 then m.1 == n.1 else m.2 == n.2) (fun j => if j = 0 then decide (m.1 < n.1) else decide (sl m.2 < sl n.2)) (decide (2 < 2)) 0 (min 2 2) = ltIS m n := lexP_lt m n
  have z : wpAny (model X.prog X.w) X.A (compareOp .Lt (.ref a) (.ref b)) (EP X pins σ Q) X.xe s := R X.prog X.w X.xe (EP X pins σ Q) ⟨.bl _, H, I, rfl, by
    rw [← e3] at q
    exact q⟩
  exact z
theorem op_leIS (hu : X.A.units < cLine) : OpR X (compareOp .LtE) rLeIS := by
  intro pins s σ H x y v u Q I rx ry h
  obtain ⟨a, b, m, n, rfl, rfl, ha, hb, q⟩ := h
  cases rx
  cases ry
  obtain ⟨its, r1, p1, _⟩ := I.tuple (SqT.of ha)
  obtain ⟨its2, r2, p2, _⟩ := I.tuple (SqT.of hb)
  obtain ⟨u1, u2, rfl, ⟨t1, rfl⟩, ⟨t2, rfl⟩⟩ := vals_2 r1
  obtain ⟨v1, v2, rfl, ⟨w1, rfl⟩, ⟨w2, rfl⟩⟩ := vals_2 r2
  have R := Ob.RcOp.tuples_le (A := X.A) (s := s) (e := fun j => if j = 0 then m.1 == n.1 else m.2 == n.2) (r := fun j => if j = 0 then decide (m.1 ≤ n.1) else decide (sl m.2 ≤ sl n.2)) p1 p2 hu
    (fun j h1 h2 => by
      match j, h1 with
      | 0, _ => exact SeqAt.EqAt.int_int _ _ _ _
      | 1, _ => exact SeqAt.EqAt.str_str _ _ _ _)
    (fun j h1 h2 _ => by
      match j, h1 with
      | 0, _ => exact Ob.RcOp.le_int _ _ _ _
      | 1, _ => exact RcOp.le_str _ _ _ _)
  have e3 : Ob.lexAt (fun j => if j = 0 then m.1 == n.1 else m.2 == n.2) (fun j => if j = 0 then decide (m.1 ≤ n.1) else decide (sl m.2 ≤ sl n.2)) (decide (2 ≤ 2)) 0 (min 2 2) = !ltIS n m := lexP_le m n
  have z : wpAny (model X.prog X.w) X.A (compareOp .LtE (.ref a) (.ref b)) (EP X pins σ Q) X.xe s := R X.prog X.w X.xe (EP X pins σ Q) ⟨.bl _, H, I, rfl, by
    rw [← e3] at q
    exact q⟩
  exact z
end
namespace EV
/-- an exception's fields, told as those of one that flies -/
theorem exd_told {X : Cx} {pins : List (Addr × Obj)} {σ : L2.St} {H : Hp} {s : Shared} {d : Addr} {fs : List (Str × V)} (I : Inv X pins σ H s) (e : H d = some (exd d fs)) : Inv X pins σ (upd H d (.xd fs)) s := by
  obtain ⟨mA, hns, rel⟩ := exd_at I.hok e
  obtain ⟨od, ho, _⟩ := lookIn_ns hns
  exact I.write (h' := s.heap) (t' := s.toks) (x := d) (e := d) (o := .xd fs) (by rw [e]; exact True.intro) (.inl rfl) (fun b u _ q => q) (by
    obtain ⟨o, es, ep, e1, _⟩ := hns
    exact ⟨_, e1⟩) ⟨mA, hns, rel⟩
theorem pmk_own3 {X : Cx} {e : Expr} {te : TE} (hx : X.ex = []) (he : PE X e te) :
    PMk X e (fun σ H Q => te σ H fun x H1 => ∃ (a C d : Addr) (fs : List (Str × V)), x = .ref a ∧ H1 a = some (exo a C (some d)) ∧ d ≠ a ∧ H1 d = some (exd d fs) ∧ Fr0 X.H_0 a ∧ Raises X (.ref C) ∧ Q (.ref C) (some d) (upd (delH H1 a) d (.xd fs))) := by
  intro pins s σ H Q I h
  refine wpAny_mono (he.run pins s σ H _ I h) (fun u s1 hu => ?_) fun _ _ x => x
  obtain ⟨v, H1, I1, r1, a, C, d, fs, rfl, ha, nda, hd, h0, hr, q⟩ := hu
  cases r1
  obtain ⟨t1, ho⟩ := exo_at I1.hok ha
  obtain ⟨G, gs, ga, J⟩ := I1.untrack ha h0 hx
  have hd' : delH H1 a d = some (exd d fs) := by
    rw [delH_ne nda]
    exact hd
  have J2 := exd_told J hd'
  have na : upd (delH H1 a) d (.xd fs) a = none := by
    rw [upd_ne nda.symm]
    exact delH_same
  exact ⟨a, _, _, { s1 with heap := G }, _, .ref C, some d, rfl, J2, gs, ga, ho, ⟨rfl, rfl⟩, rfl, rfl, na, rfl, I1.bare, hr, q⟩
end EV
end L2

set_option Elab.async false
set_option linter.all false
set_option maxRecDepth 100000
set_option maxHeartbeats 4000000
/-! Data of any form; is_number of it. -/
namespace L2
open PySem PySem.Spec PyProof.Rows
/-- t[lo:hi]: somewhere, all else stays -/
def rSlW (K : PySem.W.Frag) : V → Option Int → Option Int → Hp → VK → Prop := fun x lo hi H Q => ∃ a xs, x = .ref a ∧ H a = some (.tup xs) ∧ ∀ p H', Same H H' → H' p = some (.tup (cutV xs lo hi)) → Q (.ref p) H'
theorem sl_tupS {X : Cx} : SlR X (rSlW X.K) := by
  intro pins s σ H x v vl vu lo hi sl Q I rx hs pl pu h
  obtain ⟨a, xs, rfl, ha, q⟩ := h
  refine sl_tupA pins s σ H _ v vl vu lo hi sl Q I rx hs pl pu ⟨a, xs, rfl, SqT.of ha, fun z => ?_, fun _ p hp => q p _ (K07.same_upd hp) upd_same⟩
  refine q a H (fun _ _ e => e) ?_
  rw [ha]
  unfold cutV
  rw [z.1, z.2]
  simp
end L2
namespace K07
open PySem L2 L2.EV
theorem cutTo {xs : List V} {n : Nat} : cutV xs none (some (n : Int)) = xs.take n := by
  unfold cutV
  rw [HT.sIx_nat, HT.sIx_none, List.drop_zero, Nat.sub_zero]
  by_cases h : n ≤ xs.length
  · rw [Nat.min_eq_left h]
  · rw [Nat.min_eq_right (by omega), List.take_of_length_le (Nat.le_refl _), List.take_of_length_le (by omega)]
theorem cutFrom {xs : List V} {n : Nat} : cutV xs (some (n : Int)) none = xs.drop n := by
  unfold cutV
  rw [HT.sIx_nat, HT.sIx_none]
  by_cases h : n ≤ xs.length
  · rw [Nat.min_eq_left h]
    exact List.take_of_length_le (by rw [List.length_drop]; omega)
  · rw [Nat.min_eq_right (by omega), List.drop_of_length_le (Nat.le_refl _), List.drop_of_length_le (by omega)]
    simp
mutual
/-- v stands for d, all of its lists and tuples tracked -/
inductive Da (H : Hp) : V → PyData → Prop
  | non : Da H .non .none
  | bl (b : Bool) : Da H (.bl b) (.bool b)
  | int (i : Int) : Da H (.int i) (.int i)
  | str (x : Str) : Da H (.str x) (.str x)
  | lst {a : Addr} {xs : List V} {ds : List PyData} : H a = some (.lst xs) → DaAll H xs ds → Da H (.ref a) (.list ds)
  | tup {a : Addr} {xs : List V} {ds : List PyData} : H a = some (.tup xs) → DaAll H xs ds → Da H (.ref a) (.tuple ds)
inductive DaAll (H : Hp) : List V → List PyData → Prop
  | nil : DaAll H [] []
  | cons {v : V} {vs : List V} {d : PyData} {ds : List PyData} : Da H v d → DaAll H vs ds → DaAll H (v :: vs) (d :: ds)
end
mutual
theorem Da.same {H H' : Hp} (s : Same H H') : ∀ (d : PyData) (v : V), Da H v d → Da H' v d
  | .none, _, h => by cases h; exact .non
  | .bool b, _, h => by cases h; exact .bl b
  | .int i, _, h => by cases h; exact .int i
  | .str x, _, h => by cases h; exact .str x
  | .list ds, _, h => by
    cases h with
    | lst e ha => exact .lst (s _ _ e) (DaAll.same s ds _ ha)
  | .tuple ds, _, h => by
    cases h with
    | tup e ha => exact .tup (s _ _ e) (DaAll.same s ds _ ha)
  | .dict _, _, h => by cases h
theorem DaAll.same {H H' : Hp} (s : Same H H') : ∀ (ds : List PyData) (vs : List V), DaAll H vs ds → DaAll H' vs ds
  | [], _, h => by cases h; exact .nil
  | d :: ds, _, h => by
    cases h with
    | cons h1 h2 => exact .cons (Da.same s d _ h1) (DaAll.same s ds _ h2)
end
mutual
theorem Da.dp {K : PySem.W.Frag} {H : Hp} : ∀ (d : PyData) (v : V), Da H v d → Dp K H v d
  | .none, _, h => by cases h; exact .non
  | .bool b, _, h => by cases h; exact .bl b
  | .int i, _, h => by cases h; exact .int i
  | .str x, _, h => by cases h; exact .str x
  | .list ds, _, h => by
    cases h with
    | lst e ha => exact .lst (SqL.of e) (DaAll.dp ds _ ha)
  | .tuple ds, _, h => by
    cases h with
    | tup e ha => exact .tup (SqT.of e) (DaAll.dp ds _ ha)
  | .dict _, _, h => by cases h
theorem DaAll.dp {K : PySem.W.Frag} {H : Hp} : ∀ (ds : List PyData) (vs : List V), DaAll H vs ds → DpAll K H vs ds
  | [], _, h => by cases h; exact .nil
  | d :: ds, _, h => by
    cases h with
    | cons h1 h2 => exact .cons (Da.dp d _ h1) (DaAll.dp ds _ h2)
end
theorem DaAll.len {H : Hp} : ∀ {vs : List V} {ds : List PyData}, DaAll H vs ds → vs.length = ds.length
  | _, _, .nil => rfl
  | _, _, .cons _ t => by rw [List.length_cons, List.length_cons, t.len]
theorem DaAll.at_ {H : Hp} : ∀ {vs : List V} {ds : List PyData} {i : Nat} {v : V}, DaAll H vs ds → vs[i]? = some v → ∃ d, ds[i]? = some d ∧ Da H v d
  | _, _, 0, _, .cons h _, e => by
    cases e
    exact ⟨_, rfl, h⟩
  | _, _, i + 1, _, .cons _ t, e => t.at_ (i := i) (by simpa using e)
  | _, _, _, _, .nil, e => by simp at e
theorem DaAll.at' {H : Hp} : ∀ {vs : List V} {ds : List PyData} {i : Nat} {d : PyData}, DaAll H vs ds → ds[i]? = some d → ∃ v, vs[i]? = some v ∧ Da H v d
  | _, _, 0, _, .cons h _, e => by
    cases e
    exact ⟨_, rfl, h⟩
  | _, _, i + 1, _, .cons _ t, e => t.at' (i := i) (by simpa using e)
  | _, _, _, _, .nil, e => by simp at e
theorem DaAll.app {H : Hp} : ∀ {vs ws : List V} {ds es : List PyData}, DaAll H vs ds → DaAll H ws es → DaAll H (vs ++ ws) (ds ++ es)
  | _, _, _, _, .nil, q => q
  | _, _, _, _, .cons h t, q => .cons h (t.app q)
theorem DaAll.drop {H : Hp} : ∀ {vs : List V} {ds : List PyData} (n : Nat), DaAll H vs ds → DaAll H (vs.drop n) (ds.drop n)
  | _, _, 0, h => h
  | _, _, n + 1, .nil => .nil
  | _, _, n + 1, .cons _ t => t.drop n
theorem DaAll.take {H : Hp} : ∀ {vs : List V} {ds : List PyData} (n : Nat), DaAll H vs ds → DaAll H (vs.take n) (ds.take n)
  | _, _, 0, h => .nil
  | _, _, n + 1, .nil => .nil
  | _, _, n + 1, .cons h t => .cons h (t.take n)
theorem DaAll.rev {H : Hp} : ∀ {vs : List V} {ds : List PyData}, DaAll H vs ds → DaAll H vs.reverse ds.reverse
  | _, _, .nil => .nil
  | _, _, .cons h t => by
    rw [List.reverse_cons, List.reverse_cons]
    exact t.rev.app (.cons h .nil)
/-! ### of which type -/
def isTup : PyData → Bool
  | .tuple _ => true
  | _ => false
def isInt : PyData → Bool
  | .int _ => true
  | .bool _ => true
  | _ => false
def isBl : PyData → Bool
  | .bool _ => true
  | _ => false
theorem Da.ty {K : PySem.W.Frag} {H : Hp} {v : V} {d : PyData} (h : Da H v d) : ∃ t : Value, TyX K H v t ∧ PySem.W.kitOne K t (.type "tuple") = some (isTup d) ∧ PySem.W.kitOne K t (.type "int") = some (isInt d) ∧ PySem.W.kitOne K t (.type "bool") = some (isBl d) := by
  cases h with
  | non => exact ⟨_, .base .non, kit_ty (r := false) (by decide +kernel), kit_ty (r := false) (by decide +kernel), kit_ty (r := false) (by decide +kernel)⟩
  | bl b => exact ⟨_, .base (.bl b), kit_ty (r := false) (by decide +kernel), kit_ty (r := true) (by decide +kernel), kit_ty (r := true) (by decide +kernel)⟩
  | int i => exact ⟨_, .base (.int i), kit_ty (r := false) (by decide +kernel), kit_ty (r := true) (by decide +kernel), kit_ty (r := false) (by decide +kernel)⟩
  | str x => exact ⟨_, .base (.str x), kit_ty (r := false) (by decide +kernel), kit_ty (r := false) (by decide +kernel), kit_ty (r := false) (by decide +kernel)⟩
  | lst e _ => exact ⟨_, .base (.lst e), kit_ty (r := false) (by decide +kernel), kit_ty (r := false) (by decide +kernel), kit_ty (r := false) (by decide +kernel)⟩
  | tup e _ => exact ⟨_, .base (.tup e), kit_ty (r := true) (by decide +kernel), kit_ty (r := false) (by decide +kernel), kit_ty (r := false) (by decide +kernel)⟩
/-! ### numbers, entries -/
def numD (m : Int) : PyData → Option Int
  | .int i => if 0 ≤ i ∧ i < m then some i else none
  | _ => none
theorem numD_some {m i : Int} {d : PyData} (h : numD m d = some i) : d = .int i ∧ 0 ≤ i ∧ i < m := by
  cases d with
  | int j =>
    have h : (if 0 ≤ j ∧ j < m then some j else none) = some i := h
    by_cases c : 0 ≤ j ∧ j < m
    · rw [if_pos c] at h
      cases h
      exact ⟨rfl, c⟩
    · rw [if_neg c] at h
      cases h
  | _ => cases h
def spNumD : Sp := fun vs H Q _ => ∃ (v : V) (d : PyData) (m : Int), vs = [v, .int m] ∧ Da H v d ∧ Q (.bl (numD m d).isSome) H
section
variable {P : Program} {w : World} {K : PySem.W.Frag} {mg : Str → Option Value} {base : Heap}
theorem ok_numD {f : Addr} {fd : FuncData} (F : Fun K "is_number" "is_number" sNum f fd) (T : TxtF mg) : FnOk P w K mg base CX0 1 f fd ["thing", "many"] spNumD := by
  refine F.ok scNum (fun vs H Q E h => ?_) (fun cdv A outer s H vs Q E hr h => ?_)
  · obtain ⟨v, d, m, rfl, _⟩ := h
    rfl
  · obtain ⟨v, d, m, rfl, da, q⟩ := h
    refine ⟨_, pss_one (ps_ret (pe_and (pe_callB call_isi (by rfl) T.isi PyProof.Rows.boot_isinstance (pa_cons (pv 0) (pa_cons (pe_bltn (v := .ty "int") (by rfl) T.int (by decide +kernel) rfl) pa_nil)))
      (pe_and (pe_not (pe_callB call_isi (by rfl) T.isi PyProof.Rows.boot_isinstance (pa_cons (pv 0) (pa_cons (pe_bltn (v := .ty "bool") (by rfl) T.bool (by decide +kernel) rfl) pa_nil))))
        (pe_one (pe_chain op_le op_lt pe_int (pv 0) (pv 1)))))), ?_⟩
    obtain ⟨t, ty, _, ki, kb⟩ := da.ty (K := K)
    refine ⟨_, rfl, v, .ty "int", t, .type "int", isInt d, rfl, .ty "int", ty, ki, isInt d, rfl, ?_⟩
    cases da with
    | int n =>
      refine iteT ?_
      refine ⟨_, rfl, .int n, .ty "bool", t, .type "bool", false, rfl, .ty "bool", ty, kb, false, rfl, true, rfl, iteT ?_⟩
      refine ⟨_, rfl, 0, n, rfl, rfl, _, rfl, ?_⟩
      have q : Q (.bl (if 0 ≤ n ∧ n < m then some n else none).isSome) H := q
      refine ite2 (fun z => ?_) (fun z => ?_)
      · have z1 : 0 ≤ n := of_decide_eq_true z
        refine ⟨_, rfl, n, m, rfl, rfl, ?_⟩
        by_cases c : n < m
        · rw [if_pos ⟨z1, c⟩] at q
          show Q (.bl (decide (n < m))) H
          rw [decide_eq_true c]
          exact q
        · rw [if_neg (fun k => c k.2)] at q
          show Q (.bl (decide (n < m))) H
          rw [decide_eq_false c]
          exact q
      · have z1 : ¬ 0 ≤ n := fun k => z (decide_eq_true k)
        rw [if_neg (fun k => z1 k.1)] at q
        exact q
    | bl b =>
      refine iteT ?_
      exact ⟨_, rfl, .bl b, .ty "bool", t, .type "bool", true, rfl, .ty "bool", ty, kb, true, rfl, false, rfl, iteF q⟩
    | non => exact iteF q
    | str x => exact iteF q
    | lst e h => exact iteF q
    | tup e h => exact iteF q
end
end K07

set_option Elab.async false
set_option linter.all false
set_option maxRecDepth 100000
set_option maxHeartbeats 4000000
/-! BadReader; is_rule of any data. -/
namespace K07
open PySem L2 L2.EV
def spTwo (C : Addr) (f g : Str) : Sp := fun vs H Q _ => ∃ (a : Addr) (x y : V), vs = [.ref a, x, y] ∧ H a = some (exo a C none) ∧
  ∀ dx, H dx = none → dx ≠ a → Q .non (upd (upd (upd H dx (exd dx [(f, x)])) a (exo a C (some dx))) dx (exd dx [(g, y), (f, x)]))
/-- what is asked of a built-in base, for B.__init__(self, ..) -/
structure BI (K : PySem.W.Frag) (mg : Str → Option Value) (nB : Str) (B initId : String) : Prop where
  mg : mg nB = none
  bt : bootBuiltins nB = some (.type B)
  ty : typeOf (.type B) = pure (.type "type")
  vV : PySem.W.findCls K (.type B) (.type "type") "__init__" = some (.val (.builtin initId))
  st : Manifest.isStub B = false
def gP : List Value → List Value → List Value := fun us _ => us
def vP : List V → List V → List V := fun vs _ => vs
theorem kb_pos {K : PySem.W.Frag} {fd : FuncData} {ps : List Str} {n : Nat} (b : Binds K fd ps []) (hn : ps.length = n) : KBn K fd ps n [] gP vP := by
  refine ⟨fun s us ws X l1 l2 => ?_, fun r _ => r⟩
  have z := b s us X (by rw [List.append_nil, l1, hn])
  rw [List.append_nil] at z
  exact z
abbrev bmVE : List Value := [.type "ValueError", .type "Exception", .type "BaseException", .type "object"]
section
variable {P : Program} {w : World} {K : PySem.W.Frag} {mg : Str → Option Value} {base : Heap}
abbrev sBadReader : Stmt := inClass (top 2) 0
theorem scBadReader : FnScope ["self", "part", "number"] ["self", "part", "number"] (defScope sBadReader) := ⟨rfl, rfl, rfl, by decide +kernel, rfl, by decide +kernel, by decide +kernel⟩
theorem ok_BadReader {f C : Addr} {fd : FuncData} (F : Fun K "__init__" "BadReader.__init__" sBadReader f fd) (T : OxC K C "ValueError" "ValueError.__new__" "ValueError.__init__" [.type "ValueError", .type "Exception", .type "BaseException", .type "object"]) (I : BI K mg "ValueError" "ValueError" "ValueError.__init__")
    (n0 : PySem.W.findIn K (.ref C) "part" = some none) (n1 : PySem.W.findIn K (.ref C) "number" = some none) : FnOk P w K mg base CX0 1 f fd ["self", "part", "number"] (spTwo C "part" "number") := by
  refine F.ok scBadReader (fun vs H Q E h => ?_) (fun cdv A outer s H vs Q E hr h => ?_)
  · obtain ⟨a, x, y, rfl, _⟩ := h
    rfl
  · obtain ⟨a, x, y, rfl, e, q⟩ := h
    refine ⟨_, pss_cons (ps_expr (pe_bin (newId := "ValueError.__new__") (bm := [.type "ValueError", .type "Exception", .type "BaseException", .type "object"]) (by rfl) I.mg I.bt I.ty I.vV I.st (pa_cons (pv 0) (pa_cons pe_str pa_nil)) rfl)) (pss_cons (ps_put (B := "ValueError") (newId := "ValueError.__new__") (initId := "ValueError.__init__") (bm := [.type "ValueError", .type "Exception", .type "BaseException", .type "object"]) (pv 0) (pv 1) rfl) (pss_one (ps_put (B := "ValueError") (newId := "ValueError.__new__") (initId := "ValueError.__init__") (bm := [.type "ValueError", .type "Exception", .type "BaseException", .type "object"]) (pv 0) (pv 2) rfl))), ?_⟩
    exact ⟨_, rfl, a, C, _, rfl, by decide, T, e, _, rfl, _, rfl, a, C, rfl, T, n0, .inl ⟨e, fun dx hn ne => ⟨_, rfl, _, rfl, a, C, rfl, T, n1, .inr ⟨dx, _, upd_same, by rw [upd_ne ne]; exact upd_same, by show 1 ≤ 900; decide, q dx hn ne⟩⟩⟩⟩
end
/-- what is known of BadReader -/
structure Brd (K : PySem.W.Frag) (mg : Str → Option Value) where
  C : Addr
  f : Addr
  d : FuncData
  T : OxC K C "ValueError" "ValueError.__new__" "ValueError.__init__" bmVE
  I : BI K mg "ValueError" "ValueError" "ValueError.__init__"
  F : Fun K "__init__" "BadReader.__init__" sBadReader f d
  b : Binds K d ["self", "part", "number"] []
  m : mg "BadReader" = some (.ref C)
  iC : PySem.W.findIn K (.ref C) "__init__" = some (some (.ref f))
  tI : PySem.W.typeIn K (.ref f) = some (.type "function")
  n0 : PySem.W.findIn K (.ref C) "part" = some none
  n1 : PySem.W.findIn K (.ref C) "number" = some none
  su : PySem.W.subIn K (.ref C) (.type "BaseException") = some true
  ty : PySem.W.typeIn K (.ref C) = some (.type "type")
  own : PySem.W.subIn K (.ref C) (.ref C) = some true
theorem same_none {H H' : Hp} {a : Addr} (s : Same H H') (n : H' a = none) : H a = none := by
  cases e : H a with
  | none => rfl
  | some o =>
    rw [s _ _ e] at n
    cases n
def isSt : PyData → Bool
  | .str _ => true
  | _ => false
theorem Da.tyS {K : PySem.W.Frag} {H : Hp} {v : V} {d : PyData} (h : Da H v d) : ∃ t : Value, TyX K H v t ∧ PySem.W.kitOne K t (.type "str") = some (isSt d) := by
  cases h with
  | non => exact ⟨_, .base .non, kit_ty (r := false) (by decide +kernel)⟩
  | bl b => exact ⟨_, .base (.bl b), kit_ty (r := false) (by decide +kernel)⟩
  | int i => exact ⟨_, .base (.int i), kit_ty (r := false) (by decide +kernel)⟩
  | str x => exact ⟨_, .base (.str x), kit_ty (r := true) (by decide +kernel)⟩
  | lst e _ => exact ⟨_, .base (.lst e), kit_ty (r := false) (by decide +kernel)⟩
  | tup e _ => exact ⟨_, .base (.tup e), kit_ty (r := false) (by decide +kernel)⟩
abbrev sRule : Stmt := top 10
/-- one sign -/
def signD (x : Str) : Bool := decide (x.length = 1) && decide (∀ c ∈ sl x, c ∈ sgs)
def ruleD : PyData → Option T3
  | .tuple [a, .str x, b] => match numD 200 a, numD 200 b with
    | some i, some j => if signD x = true then some (i, x, j) else none
    | _, _ => none
  | _ => none
theorem one_sign {x : Str} (h : x.length = 1) : ∃ c : Nat, x = ⟨#[c]⟩ := by
  obtain ⟨xs⟩ := x
  have h : xs.size = 1 := h
  refine ⟨xs[0], ?_⟩
  congr 1
  refine Array.ext (by simp [h]) fun i h1 h2 => ?_
  have : i = 0 := by omega
  subst this
  rfl
theorem signD_one {c : Nat} : signD ⟨#[c]⟩ = decide (c ∈ sgs) := by
  unfold signD
  have e : (⟨#[c]⟩ : Str).length = 1 := rfl
  have e2 : sl ⟨#[c]⟩ = [c] := rfl
  rw [decide_eq_true e, e2]
  simp
/-- a rule's sign is no long text -/
def szS (d : PyData) : Prop := ∀ a x b, d = .tuple [a, .str x, b] → x.length ≤ 1000
def spRule : Sp := fun vs H Q _ => ∃ (v : V) (d : PyData), vs = [v] ∧ Da H v d ∧ szS d ∧ Q (.bl (ruleD d).isSome) H
/-- what need_reader wants of the text of the top -/
structure Fs (K : PySem.W.Frag) (mg : Str → Option Value) where
  fN : Addr
  dN : FuncData
  N : Fun K "is_number" "is_number" sNum fN dN
  bN : Binds K dN ["thing", "many"] []
  mN : mg "is_number" = some (.ref fN)
  T : TxtF mg
  en : mg "enumerate" = none
structure Rs (K : PySem.W.Frag) (mg : Str → Option Value) where
  Z : Fs K mg
  B : Brd K mg
  fU : Addr
  dU : FuncData
  U : Fun K "is_rule" "is_rule" sRule fU dU
  bU : Binds K dU ["thing"] []
  mU : mg "is_rule" = some (.ref fU)
  states : ∃ t, mg "MOST_STATES" = some (.int 200 t)
section
variable {P : Program} {w : World} {K : PySem.W.Frag} {mg : Str → Option Value} {base : Heap}
theorem scRule : FnScope ["thing", "state", "sign", "goal"] ["thing"] (defScope sRule) := ⟨rfl, rfl, rfl, by decide +kernel, rfl, by decide +kernel, by decide +kernel⟩
theorem ok_rule (R : Rs K mg) : FnOk P w K mg base CX0 2 R.fU R.dU ["thing"] spRule := by
  have GN : FnOk P w K mg base CX0 1 R.Z.fN R.Z.dN ["thing", "many"] spNumD := ok_numD R.Z.N R.Z.T
  refine R.U.ok scRule (fun vs H Q E h => ?_) (fun cdv A outer s H vs Q E hr h => ?_)
  · obtain ⟨v, d, rfl, _⟩ := h
    rfl
  · obtain ⟨v, d, rfl, da, sz, q⟩ := h
    obtain ⟨tm, eM⟩ := R.states
    obtain ⟨ts, eS⟩ := R.Z.T.signs
    refine ⟨_, pss_cons (ps_if (pw_or (pt_not (pt_val (pe_callB call_isi (by rfl) R.Z.T.isi PyProof.Rows.boot_isinstance (pa_cons (pv 0) (pa_cons (pe_bltn (v := .ty "tuple") (by rfl) R.Z.T.tuple (by decide +kernel) rfl) pa_nil)))))
        (pw_or1 (pt_cmpR op_ne (pe_callB call_len_seq (by rfl) R.Z.T.len PySem.boot_len (pa_cons (pv 0) pa_nil)) pe_int (nomark _)))).pt
        (pss_one (ps_ret pe_bl)) pss_nil)
      (pss_cons (ps_asg (pv 0) (pg_tup rfl (pgs_cons (pg_name (i := 1) scRule.nd rfl (Or.inl rfl)) (pgs_cons (pg_name (i := 2) scRule.nd rfl (Or.inl rfl)) (pgs_cons (pg_name (i := 3) scRule.nd rfl (Or.inl rfl)) pgs_nil)))))
      (pss_cons (ps_if (pw_or (pt_not (pt_val (pe_call GN hr (by rfl) R.Z.mN R.Z.N.kp R.Z.bN .nil pass0 (pa_cons (pv 1) (pa_cons (pe_glob (v := .int 200) (by rfl) eM ⟨_, rfl⟩) pa_nil)))))
        (pw_or1 (pt_not (pt_val (pe_call GN hr (by rfl) R.Z.mN R.Z.N.kp R.Z.bN .nil pass0 (pa_cons (pv 3) (pa_cons (pe_glob (v := .int 200) (by rfl) eM ⟨_, rfl⟩) pa_nil))))))).pt
        (pss_one (ps_ret pe_bl)) pss_nil)
      (pss_one (ps_ret (pe_and (pe_callB call_isi (by rfl) R.Z.T.isi PyProof.Rows.boot_isinstance (pa_cons (pv 2) (pa_cons (pe_bltn (v := .ty "str") (by rfl) R.Z.T.str (by decide +kernel) rfl) pa_nil)))
        (pe_and (pe_cmpR op_eq (pe_callB call_len_str (by rfl) R.Z.T.len PySem.boot_len (pa_cons (pv 2) pa_nil)) pe_int (nomark _))
        (pe_one (pe_cmpR op_in_sign (pv 2) (pe_glob (v := .str "abcdefghijklmnopqrstuvwxyz0123456789@") (by rfl) eS ⟨_, rfl⟩) (by rfl))))))))), ?_⟩
    obtain ⟨t, ty, kt, _, _⟩ := da.ty (K := K)
    refine ⟨_, rfl, v, .ty "tuple", t, .type "tuple", isTup d, rfl, .ty "tuple", ty, kt, isTup d, rfl, ?_⟩
    cases da with
    | @tup a xs ds e all =>
      refine iteF ?_
      refine ⟨_, rfl, a, _, rfl, .inr (SqT.of e), rfl, _, rfl, ?_⟩
      have ln := all.len
      by_cases h3 : xs.length = 3
      · refine iteF' (by simp [h3]) ?_
        match xs, ds, all, h3 with
        | [x, y, z], [dx, dy, dz], .cons h1 (.cons h2 (.cons h4 .nil)), _ =>
          refine ⟨_, rfl, a, _, rfl, SqT.of e, rfl, _, _, rfl, _, _, rfl, _, _, rfl, rfl, ?_⟩
          have no : (numD 200 dx = none ∨ numD 200 dz = none) → ruleD (.tuple [dx, dy, dz]) = none := fun c => by
            cases dy with
            | str s =>
              show (match numD 200 dx, numD 200 dz with
                | some i, some j => if signD s = true then some (i, s, j) else none
                | _, _ => none) = none
              rcases c with c | c
              · rw [c]
              · rw [c]
                cases numD 200 dx <;> rfl
            | _ => rfl
          refine ⟨_, rfl, x, dx, 200, rfl, h1, _, rfl, ?_⟩
          cases ea : numD 200 dx with
          | none =>
            rw [no (.inl ea)] at q
            exact iteT q
          | some i =>
            refine iteF ?_
            refine ⟨_, rfl, z, dz, 200, rfl, h4, _, rfl, ?_⟩
            cases eb : numD 200 dz with
            | none =>
              rw [no (.inr eb)] at q
              exact iteT q
            | some j =>
              refine iteF ?_
              obtain ⟨t2, ty2, kt2⟩ := h2.tyS (K := K)
              refine ⟨_, rfl, y, .ty "str", t2, .type "str", isSt dy, rfl, .ty "str", ty2, kt2, isSt dy, rfl, ?_⟩
              cases h2 with
              | str s =>
                refine iteT ?_
                have q : Q (.bl (match numD 200 dx, numD 200 dz with
                  | some i, some j => if signD s = true then some (i, s, j) else none
                  | _, _ => none).isSome) H := q
                rw [ea, eb] at q
                have szs := sz dx s dz rfl
                refine ⟨_, rfl, _, rfl, (by rw [sizeLine_eq]; omega), rfl, _, rfl, ?_⟩
                by_cases l1 : s.length = 1
                · refine iteT' (by simp [l1]) ?_
                  obtain ⟨c, rfl⟩ := one_sign l1
                  refine ⟨_, rfl, c, _, rfl, rfl, ?_⟩
                  have q : Q (.bl (if signD ⟨#[c]⟩ = true then some (i, (⟨#[c]⟩ : Str), j) else none).isSome) H := q
                  rw [signD_one] at q
                  show Q (.bl (decide (c ∈ sgs))) H
                  by_cases m : c ∈ sgs
                  · rw [decide_eq_true m] at q ⊢
                    exact q
                  · rw [decide_eq_false m] at q ⊢
                    exact q
                · refine iteF' (by simp; omega) ?_
                  have q : Q (.bl (if signD s = true then some (i, s, j) else none).isSome) H := q
                  have n : signD s = false := by
                    unfold signD
                    rw [decide_eq_false l1]
                    rfl
                  rw [n] at q
                  exact q
              | bl b => exact iteF q
              | non => exact iteF q
              | int i => exact iteF q
              | lst e h => exact iteF q
              | tup e h => exact iteF q
      · refine iteT' (by simp; omega) ?_
        have z : ruleD (.tuple ds) = none := by
          match ds, ln with
          | [], _ => rfl
          | [_], _ => rfl
          | [_, dy], _ => cases dy <;> rfl
          | [_, _, _], l => exact absurd l h3
          | _ :: dy :: _ :: _ :: _, _ => cases dy <;> rfl
        rw [z] at q
        exact q
    | bl b => exact iteT q
    | non => exact iteT q
    | int i => exact iteT q
    | str x => exact iteT q
    | lst e h => exact iteT q
end
end K07

set_option Elab.async false
set_option linter.all false
set_option maxRecDepth 100000
set_option maxHeartbeats 4000000
/-! need_reader of any data. -/
namespace K07
open PySem L2 L2.EV
abbrev sNeedR : Stmt := top 11
def lbR : Option IS → T3 → Bool
  | none, _ => false
  | some p, t => !ltIS p (t.1, t.2.1)
def lbG : Option Int → Int → Bool
  | none, _ => false
  | some p, i => decide (i ≤ p)
def badR : List PyData → Option IS → Nat → Option Nat
  | [], _, _ => none
  | d :: ds, last, k => match ruleD d with
    | none => some k
    | some t => if lbR last t = true then some k else badR ds (some (t.1, t.2.1)) (k + 1)
def badG : List PyData → Option Int → Nat → Option Nat
  | [], _, _ => none
  | d :: ds, last, k => match numD 200 d with
    | none => some k
    | some i => if lbG last i = true then some k else badG ds (some i) (k + 1)
theorem badR_none {d : PyData} {ds : List PyData} {last : Option IS} {k : Nat} (h : ruleD d = none) : badR (d :: ds) last k = some k := by
  unfold badR
  rw [h]
theorem badR_some {d : PyData} {ds : List PyData} {last : Option IS} {k : Nat} {t : T3} (h : ruleD d = some t) : badR (d :: ds) last k = if lbR last t = true then some k else badR ds (some (t.1, t.2.1)) (k + 1) := by
  rw [badR, h]
theorem badG_none {d : PyData} {ds : List PyData} {last : Option Int} {k : Nat} (h : numD 200 d = none) : badG (d :: ds) last k = some k := by
  rw [badG, h]
theorem badG_some {d : PyData} {ds : List PyData} {last : Option Int} {k : Nat} {i : Int} (h : numD 200 d = some i) : badG (d :: ds) last k = if lbG last i = true then some k else badG ds (some i) (k + 1) := by
  rw [badG, h]
theorem tup_of {H : Hp} {v : V} {d : PyData} (h : Da H v d) (c : isTup d = true) : ∃ (a : Addr) (xs : List V) (ds : List PyData), v = .ref a ∧ d = .tuple ds ∧ H a = some (.tup xs) ∧ DaAll H xs ds := by
  cases h with
  | tup e all => exact ⟨_, _, _, rfl, rfl, e, all⟩
  | non => cases c
  | bl b => cases c
  | int i => cases c
  | str x => cases c
  | lst e h => cases c
/-- by which part and number data are refused as a reader -/
def ffD : PyData → Option (Str × Option Nat)
  | .tuple [.tuple rs, .tuple gs] => match badR rs none 0 with
    | some k => some ("rules", some k)
    | none => match badG gs none 0 with
      | some k => some ("good", some k)
      | none => none
  | _ => some ("form", none)
def wv : Option Nat → V
  | none => .non
  | some i => .int (i : Int)
def SzR (d : PyData) : Prop := ∀ rs g, d = .tuple [.tuple rs, g] → ∀ r ∈ rs, szS r
/-- the error is told with these fields -/
def Eb (C : Addr) (E : XK) (H : Hp) (p : Str) (n : Option Nat) : Prop := ∀ (H' : Hp) (dx : Addr), Same H H' → H' dx = some (.xd [("number", wv n), ("part", .str p)]) → E (.ref C) (some dx) H'
theorem Eb.same {C : Addr} {E : XK} {H H' : Hp} {p : Str} {n : Option Nat} (h : Eb C E H p n) (s : Same H H') : Eb C E H' p n := fun H2 dx s2 e => h H2 dx (s.trans s2) e
def spNeedR (C : Addr) : Sp := fun vs H Q E => ∃ (v : V) (d : PyData), vs = [v] ∧ Da H v d ∧ SzR d ∧ match ffD d with
  | none => ∀ H', Same H H' → Q v H'
  | some r => Eb C E H r.1 r.2
theorem drop_at {α : Type} {l : List α} {i : Nat} {x : α} (h : l[i]? = some x) : l.drop i = x :: l.drop (i + 1) := by
  obtain ⟨hi, e⟩ := List.getElem?_eq_some_iff.mp h
  rw [List.drop_eq_getElem_cons hi, e]
theorem rule_some {d : PyData} {t : T3} (h : ruleD d = some t) : d = .tuple [.int t.1, .str t.2.1, .int t.2.2] := by
  match d, h with
  | .tuple [a, .str x, b], h =>
    have h : (match numD 200 a, numD 200 b with
      | some i, some j => if signD x = true then some (i, x, j) else none
      | _, _ => none) = some t := h
    cases ha : numD 200 a with
    | none =>
      rw [ha] at h
      cases h
    | some i =>
      cases hb : numD 200 b with
      | none =>
        rw [ha, hb] at h
        cases h
      | some j =>
        rw [ha, hb] at h
        have h9 : (if signD x = true then some (i, x, j) else none) = some t := h
        clear h
        obtain ⟨rfl, _⟩ := numD_some ha
        obtain ⟨rfl, _⟩ := numD_some hb
        by_cases c : signD x = true
        · rw [if_pos c] at h9
          cases h9
          rfl
        · rw [if_neg c] at h9
          cases h9
theorem rule_at {H : Hp} {v : V} {d : PyData} {t : T3} (h : Da H v d) (e : ruleD d = some t) : ∃ a, v = .ref a ∧ H a = some (.tup [.int t.1, .str t.2.1, .int t.2.2]) := by
  have z := rule_some e
  subst z
  cases h with
  | tup e all =>
    match all with
    | .cons (.int _) (.cons (.str _) (.cons (.int _) .nil)) => exact ⟨_, rfl, e⟩
theorem ff_len {ds : List PyData} (h : ds.length ≠ 2) : ffD (.tuple ds) = some ((("form" : Str), (none : Option Nat))) := by
  match ds, h with
  | [], _ => rfl
  | [x], _ => cases x <;> rfl
  | [_, _], h => exact absurd rfl h
  | x :: y :: _ :: _, _ => cases x <;> cases y <;> rfl
theorem ff_tup {dx dy : PyData} (h : isTup dx = false ∨ isTup dy = false) : ffD (.tuple [dx, dy]) = some ((("form" : Str), (none : Option Nat))) := by
  cases dx <;> cases dy <;> first | rfl | (rcases h with h | h <;> cases h)
theorem bad_heap {H : Hp} {C a dx : Addr} {x y : V} (na : H a = none) (hn : upd H a (exo a C none) dx = none) (ne : dx ≠ a) :
    (upd (upd (upd (upd H a (exo a C none)) dx (exd dx [("part", x)])) a (exo a C (some dx))) dx (exd dx [("number", y), ("part", x)])) a = some (exo a C (some dx)) ∧
    Same H (upd (delH (upd (upd (upd (upd H a (exo a C none)) dx (exd dx [("part", x)])) a (exo a C (some dx))) dx (exd dx [("number", y), ("part", x)])) a) dx (.xd [("number", y), ("part", x)])) := by
  have hd : H dx = none := by
    rw [upd_ne ne] at hn
    exact hn
  refine ⟨?_, fun b o e => ?_⟩
  · rw [upd_ne ne.symm]
    exact upd_same
  · have h1 := ne_of_none e na
    have h2 := ne_of_none e hd
    rw [upd_ne h2, delH_ne h1, upd_ne h2, upd_ne h1, upd_ne h2, upd_ne h1]
    exact e
section
variable {P : Program} {w : World} {K : PySem.W.Frag} {mg : Str → Option Value} {base : Heap}
theorem scNeedR : FnScope ["thing", "rules", "good", "number", "rule", "state"] ["thing"] (defScope sNeedR) := ⟨rfl, rfl, rfl, by decide +kernel, rfl, by decide +kernel, by decide +kernel⟩
theorem ok_needR (R : Rs K mg) {f : Addr} {fd : FuncData} (F : Fun K "need_reader" "need_reader" sNeedR f fd) : FnOk P w K mg base (L2.CX P w) 3 f fd ["thing"] (spNeedR R.B.C) := by
  have GN : FnOk P w K mg base CX0 1 R.Z.fN R.Z.dN ["thing", "many"] spNumD := ok_numD R.Z.N R.Z.T
  have GU : FnOk P w K mg base CX0 2 R.fU R.dU ["thing"] spRule := ok_rule R
  have GB : FnOk P w K mg base CX0 1 R.B.f R.B.d ["self", "part", "number"] (spTwo R.B.C "part" "number") := ok_BadReader R.B.F R.B.T R.B.I R.B.n0 R.B.n1
  refine F.okX scNeedR (fun vs H Q E h => ?_) (fun cdv A outer s H vs Q E hr h => ?_)
  · obtain ⟨v, d, rfl, _⟩ := h
    rfl
  · obtain ⟨v, d, rfl, da, sz, q⟩ := h
    obtain ⟨tm, eM⟩ := R.states
    have r1 := hr.mono (j := 1) (by omega)
    have hu := hu_of hr
    have hu0 : (A.deeper (PyProof.Rows.envOfC "need_reader" (defScope sNeedR) s.heap.objs.size f cdv)).units < cLine := by omega
    refine ⟨_, pss_cons (ps_if (pw_or (pt_not (pt_val (pe_callB call_isi (by rfl) R.Z.T.isi PyProof.Rows.boot_isinstance (pa_cons (pv 0) (pa_cons (pe_bltn (v := .ty "tuple") (by rfl) R.Z.T.tuple (by decide +kernel) rfl) pa_nil)))))
        (pw_or1 (pt_cmpR op_ne (pe_callB call_len_seq (by rfl) R.Z.T.len PySem.boot_len (pa_cons (pv 0) pa_nil)) pe_int (nomark _)))).pt
        (pss_one (ps_raise rfl (takes_of rfl rfl rfl rfl) (pmk_own3 rfl (pe_new R.B.T R.B.iC R.B.tI GB hr (kb_pos R.B.b rfl) pass0 (by rfl) R.B.m (pa_cons pe_str (pa_cons pe_non pa_nil)))))) pss_nil)
      (pss_cons (ps_asg (pv 0) (pg_tup rfl (pgs_cons (pg_name (i := 1) scNeedR.nd rfl (Or.inl rfl)) (pgs_cons (pg_name (i := 2) scNeedR.nd rfl (Or.inl rfl)) pgs_nil))))
      (pss_cons (ps_if (pw_or (pt_not (pt_val (pe_callB call_isi (by rfl) R.Z.T.isi PyProof.Rows.boot_isinstance (pa_cons (pv 1) (pa_cons (pe_bltn (v := .ty "tuple") (by rfl) R.Z.T.tuple (by decide +kernel) rfl) pa_nil)))))
        (pw_or1 (pt_not (pt_val (pe_callB call_isi (by rfl) R.Z.T.isi PyProof.Rows.boot_isinstance (pa_cons (pv 2) (pa_cons (pe_bltn (v := .ty "tuple") (by rfl) R.Z.T.tuple (by decide +kernel) rfl) pa_nil))))))).pt
        (pss_one (ps_raise rfl (takes_of rfl rfl rfl rfl) (pmk_own3 rfl (pe_new R.B.T R.B.iC R.B.tI GB hr (kb_pos R.B.b rfl) pass0 (by rfl) R.B.m (pa_cons pe_str (pa_cons pe_non pa_nil)))))) pss_nil)
      (pss_cons (ps_for (passes_of rfl) rfl (pi_enumT (by rfl) R.Z.en (pa_cons (pv 1) pa_nil)) (pg_tup rfl (pgs_cons (pg_name (i := 3) scNeedR.nd rfl (Or.inl rfl)) (pgs_cons (pg_name (i := 4) scNeedR.nd rfl (Or.inl rfl)) pgs_nil)))
        (pss_one (ps_if (pw_or (pt_not (pt_val (pe_call GU hr (by rfl) R.mU R.U.kp R.bU .nil pass0 (pa_cons (pv 4) pa_nil))))
          (pw_or1 (pw_and (pt_cmpR op_gt (pv 3) pe_int (nomark _)) (pw_and1 (pt_cmpR (op_leIS hu0) (pe_slice sl_tupS (pv 4) po_none (po_some pe_int)) (pe_slice sl_tupS (pe_ix ix_tup (pv 1) (pe_op op_sub (pv 3) pe_int) (fun _ _ => rfl)) po_none (po_some pe_int)) (nomark _)))).pt)).pt
          (pss_one (ps_raise rfl (takes_of rfl rfl rfl rfl) (pmk_own3 rfl (pe_new R.B.T R.B.iC R.B.tI GB hr (kb_pos R.B.b rfl) pass0 (by rfl) R.B.m (pa_cons pe_str (pa_cons (pv 3) pa_nil)))))) pss_nil)))
      (pss_cons (ps_for (passes_of rfl) rfl (pi_enumT (by rfl) R.Z.en (pa_cons (pv 2) pa_nil)) (pg_tup rfl (pgs_cons (pg_name (i := 3) scNeedR.nd rfl (Or.inl rfl)) (pgs_cons (pg_name (i := 5) scNeedR.nd rfl (Or.inl rfl)) pgs_nil)))
        (pss_one (ps_if (pw_or (pt_not (pt_val (pe_call GN r1 (by rfl) R.Z.mN R.Z.N.kp R.Z.bN .nil pass0 (pa_cons (pv 5) (pa_cons (pe_glob (v := .int 200) (by rfl) eM ⟨_, rfl⟩) pa_nil)))))
          (pw_or1 (pw_and (pt_cmpR op_gt (pv 3) pe_int (nomark _)) (pw_and1 (pt_cmpR op_le (pv 5) (pe_ix ix_tup (pv 2) (pe_op op_sub (pv 3) pe_int) (fun _ _ => rfl)) (nomark _)))).pt)).pt
          (pss_one (ps_raise rfl (takes_of rfl rfl rfl rfl) (pmk_own3 rfl (pe_new R.B.T R.B.iC R.B.tI GB hr (kb_pos R.B.b rfl) pass0 (by rfl) R.B.m (pa_cons pe_str (pa_cons (pv 3) pa_nil)))))) pss_nil)))
      (pss_one (ps_ret (pv 0))))))), ?_⟩
    obtain ⟨t, ty, kt, _, _⟩ := da.ty (K := K)
    refine ⟨_, rfl, v, .ty "tuple", t, .type "tuple", isTup d, rfl, .ty "tuple", ty, kt, isTup d, rfl, ?_⟩
    -- the raise, from any state that came so far
    have fin : ∀ {H1 : Hp} {p : Str} {n : Option Nat} {a : Addr} (s1 : Same H H1) (na : H1 a = none) (qe : Eb R.B.C E H p n) (dx : Addr), upd H1 a (exo a R.B.C none) dx = none → dx ≠ a →
        ∃ (a0 C d : Addr) (fs : List (Str × V)), V.ref a = .ref a0 ∧ (upd (upd (upd (upd H1 a (exo a R.B.C none)) dx (exd dx [("part", V.str p)])) a (exo a R.B.C (some dx))) dx (exd dx [("number", wv n), ("part", V.str p)])) a0 = some (exo a0 C (some d)) ∧ d ≠ a0 ∧
          (upd (upd (upd (upd H1 a (exo a R.B.C none)) dx (exd dx [("part", V.str p)])) a (exo a R.B.C (some dx))) dx (exd dx [("number", wv n), ("part", V.str p)])) d = some (exd d fs) ∧ Fr0 H a0 ∧
          Raises (cxOf (L2.CX P w) P w K mg base ["thing", "rules", "good", "number", "rule", "state"] "need_reader" (defScope sNeedR) f cdv A outer s H E) (.ref C) ∧
          E (.ref C) (some d) (upd (delH (upd (upd (upd (upd H1 a (exo a R.B.C none)) dx (exd dx [("part", V.str p)])) a (exo a R.B.C (some dx))) dx (exd dx [("number", wv n), ("part", V.str p)])) a0) d (.xd fs)) := by
      intro H1 p n a s1 na qe dx hn ne
      obtain ⟨b1, b2⟩ := bad_heap (x := V.str p) (y := wv n) na hn ne
      exact ⟨a, R.B.C, dx, _, rfl, b1, ne, upd_same, fr0_none (same_none s1 na), raises_own R.B.su R.B.ty, qe _ dx (s1.trans b2) upd_same⟩
    have form : ffD d = some ((("form" : Str), (none : Option Nat))) → Eb R.B.C E H "form" none := fun e => by
      rw [e] at q
      exact q
    cases da with
    | non => exact iteT ⟨rfl, rfl, (by decide), fun a na => ⟨a, .str "form", .non, rfl, upd_same, fun dx hn ne => ⟨rfl, fin (n := none) (Same.refl H) na (form rfl) dx hn ne⟩⟩⟩
    | bl b => exact iteT ⟨rfl, rfl, (by decide), fun a na => ⟨a, .str "form", .non, rfl, upd_same, fun dx hn ne => ⟨rfl, fin (n := none) (Same.refl H) na (form rfl) dx hn ne⟩⟩⟩
    | int b => exact iteT ⟨rfl, rfl, (by decide), fun a na => ⟨a, .str "form", .non, rfl, upd_same, fun dx hn ne => ⟨rfl, fin (n := none) (Same.refl H) na (form rfl) dx hn ne⟩⟩⟩
    | str b => exact iteT ⟨rfl, rfl, (by decide), fun a na => ⟨a, .str "form", .non, rfl, upd_same, fun dx hn ne => ⟨rfl, fin (n := none) (Same.refl H) na (form rfl) dx hn ne⟩⟩⟩
    | lst e h => exact iteT ⟨rfl, rfl, (by decide), fun a na => ⟨a, .str "form", .non, rfl, upd_same, fun dx hn ne => ⟨rfl, fin (n := none) (Same.refl H) na (form rfl) dx hn ne⟩⟩⟩
    | @tup th xs ds e all =>
      refine iteF ?_
      refine ⟨_, rfl, th, _, rfl, .inr (SqT.of e), rfl, _, rfl, ?_⟩
      have ln := all.len
      by_cases h2 : xs.length = 2
      · refine iteF' (by simp [h2]) ?_
        match xs, ds, all, h2 with
        | [x, y], [dx, dy], .cons h1 (.cons h3 .nil), _ =>
          refine ⟨_, rfl, th, _, rfl, SqT.of e, rfl, _, _, rfl, _, _, rfl, rfl, ?_⟩
          obtain ⟨t1, ty1, kt1, _, _⟩ := h1.ty (K := K)
          refine ⟨_, rfl, x, .ty "tuple", t1, .type "tuple", isTup dx, rfl, .ty "tuple", ty1, kt1, isTup dx, rfl, ?_⟩
          by_cases c1 : isTup dx = true
          · rw [c1]
            refine iteF ?_
            obtain ⟨t2, ty2, kt2, _, _⟩ := h3.ty (K := K)
            refine ⟨_, rfl, y, .ty "tuple", t2, .type "tuple", isTup dy, rfl, .ty "tuple", ty2, kt2, isTup dy, rfl, ?_⟩
            by_cases c2 : isTup dy = true
            · rw [c2]
              refine iteF ?_
              obtain ⟨ra, rv, rs, rfl, rfl, re, rall⟩ := tup_of h1 c1
              · obtain ⟨ga, gv, gs, rfl, rfl, ge, gall⟩ := tup_of h3 c2
                · have q : match (match badR rs none 0 with
                    | some k => some ((("rules" : Str), some k))
                    | none => match badG gs none 0 with
                      | some k => some ((("good" : Str), some k))
                      | none => none) with
                    | none => ∀ H', Same H H' → Q (.ref th) H'
                    | some r => Eb R.B.C E H r.1 r.2 := q
                  have szr : ∀ r ∈ rs, szS r := sz rs _ rfl
                  refine ⟨_, rfl, ra, _, rfl, SqT.of re, for_it (walk_enumT (xs := rv)) (fun i σ H' => ∃ (v3 v4 : Option V) (last : Option IS), σ = [some (.ref th), some (.ref ra), some (.ref ga), v3, v4, none] ∧ Same H H' ∧
                      badR rs none 0 = badR (rs.drop i) last i ∧ (i = 0 → last = none) ∧ ∀ j, i = j + 1 → ∃ d t, rs[j]? = some d ∧ ruleD d = some t ∧ last = some (t.1, t.2.1))
                    ⟨none, none, none, rfl, Same.refl H, rfl, fun _ => rfl, fun j hj => by omega⟩ (fun i σ H' _ ⟨_, _, _, _, z, _⟩ => SqT.of (z _ _ re)) ?_ ?_⟩
                  · rintro i x σ H1 H2 hi ⟨v3, v4, last, rfl, s1, inv, l0, l1⟩ ⟨T, xi, xo, rfl, nT, rfl, g1, g2⟩
                    cases g1
                    obtain ⟨d, hd, dv⟩ := rall.at_ g2
                    rw [drop_at hd] at inv
                    have s2 := s1.trans (same_upd (o := HO.tup [V.int (i : Nat), xo]) nT)
                    have dv2 := Da.same s2 _ _ dv
                    refine ⟨T, _, rfl, SqT.of upd_same, rfl, _, _, rfl, _, _, rfl, rfl, ?_⟩
                    refine ⟨_, rfl, xo, d, rfl, dv2, szr d (List.mem_of_getElem? hd), _, rfl, ?_⟩
                    cases ed : ruleD d with
                    | none =>
                      rw [badR_none ed] at inv
                      rw [inv] at q
                      exact iteT ⟨_, rfl, rfl, rfl, (by show 2 ≤ 1000; decide), fun a na => ⟨a, .str "rules", .int (i : Nat), rfl, upd_same, fun dx hn ne => ⟨rfl, fin (n := some i) s2 na q dx hn ne⟩⟩⟩
                    | some t =>
                      rw [badR_some ed] at inv
                      refine iteF ?_
                      have goOn : lbR last t = false → ∃ (v3' v4' : Option V) (last' : Option IS), [some (V.ref th), some (V.ref ra), some (V.ref ga), some (V.int (i : Nat)), some xo, none] = [some (.ref th), some (.ref ra), some (.ref ga), v3', v4', none] ∧
                          badR rs none 0 = badR (rs.drop (i + 1)) last' (i + 1) ∧ (i + 1 = 0 → last' = none) ∧ ∀ j, i + 1 = j + 1 → ∃ d t, rs[j]? = some d ∧ ruleD d = some t ∧ last' = some (t.1, t.2.1) := fun z => by
                        rw [z, if_neg (by simp)] at inv
                        exact ⟨_, _, _, rfl, inv, fun h => by omega, fun j h => by
                          obtain rfl : i = j := by omega
                          exact ⟨d, t, hd, ed, rfl⟩⟩
                      refine ⟨_, rfl, (i : Int), 0, rfl, rfl, _, rfl, ?_⟩
                      refine ite2 (fun z => ?_) (fun z => ?_)
                      · have z1 : (0 : Int) < i := of_decide_eq_true z
                        obtain ⟨j, rfl⟩ : ∃ j, i = j + 1 := ⟨i - 1, by omega⟩
                        obtain ⟨dp, tp, hp1, hp2, rfl⟩ := l1 j rfl
                        obtain ⟨vp, hvp, dvp⟩ := rall.at' hp1
                        have dvp2 := Da.same s2 _ _ dvp
                        obtain ⟨a1, rfl, ha1⟩ := rule_at dv2 ed
                        obtain ⟨a2, rfl, ha2⟩ := rule_at dvp2 hp2
                        refine ⟨_, rfl, _, rfl, a1, _, rfl, ha1, fun pa Ha sa ea => ?_⟩
                        refine ⟨_, rfl, _, rfl, _, _, rfl, rfl, ra, _, (j : Int), .ref a2, rfl, ?_, SqT.of (sa _ _ (s2 _ _ re)), atI_nat hvp, _, rfl, a2, _, rfl, sa _ _ ha2, fun pb Hb sb eb => ?_⟩
                        · show V.int (((j + 1 : Nat) : Int) - 1) = V.int (j : Int)
                          congr 1
                          omega
                        rw [show (2 : Int) = ((2 : Nat) : Int) from rfl, cutTo] at ea eb
                        refine ⟨pa, pb, (t.1, t.2.1), (tp.1, tp.2.1), rfl, rfl, sb _ _ ea, eb, _, rfl, ?_⟩
                        have s3 := (s2.trans sa).trans sb
                        have eL : lbR (some (tp.1, tp.2.1)) t = !ltIS (tp.1, tp.2.1) (t.1, t.2.1) := rfl
                        cases eb2 : ltIS (tp.1, tp.2.1) (t.1, t.2.1) with
                        | true =>
                          obtain ⟨w1, w2, w3, w4, w5⟩ := goOn (by rw [eL, eb2]; rfl)
                          exact iteF ⟨w1, w2, w3, w4, s3, w5⟩
                        | false =>
                          rw [eL, eb2, if_pos (show (!false) = true from rfl)] at inv
                          rw [inv] at q
                          exact iteT ⟨_, rfl, rfl, rfl, (by show 2 ≤ 1000; decide), fun a na => ⟨a, .str "rules", .int ((j + 1 : Nat) : Nat), rfl, upd_same, fun dx hn ne => ⟨rfl, fin (n := some (j + 1)) s3 na q dx hn ne⟩⟩⟩
                      · have i0 : i = 0 := by
                          have : ¬ (0 : Int) < i := fun k => z (decide_eq_true k)
                          omega
                        have l9 := l0 i0
                        subst l9
                        obtain ⟨w1, w2, w3, w4, w5⟩ := goOn rfl
                        exact iteF ⟨w1, w2, w3, w4, s2, w5⟩
                  · rintro σ H1 ⟨v3, v4, last, rfl, s1, inv, _, _⟩
                    rw [rall.len, List.drop_length] at inv
                    have inv : badR rs none 0 = none := inv
                    rw [inv] at q
                    have q : match (match badG gs none 0 with
                        | some k => some ((("good" : Str), some k))
                        | none => none) with
                      | none => ∀ H', Same H H' → Q (.ref th) H'
                      | some r => Eb R.B.C E H r.1 r.2 := q
                    refine ⟨_, rfl, ga, _, rfl, SqT.of (s1 _ _ ge), for_it (walk_enumT (xs := gv)) (fun i σ H' => ∃ (v3 v5 : Option V) (last : Option Int), σ = [some (.ref th), some (.ref ra), some (.ref ga), v3, v4, v5] ∧ Same H H' ∧
                        badG gs none 0 = badG (gs.drop i) last i ∧ (i = 0 → last = none) ∧ ∀ j, i = j + 1 → ∃ d t, gs[j]? = some d ∧ numD 200 d = some t ∧ last = some t)
                      ⟨v3, none, none, rfl, s1, rfl, fun _ => rfl, fun j hj => by omega⟩ (fun i σ H' _ ⟨_, _, _, _, z, _⟩ => SqT.of (z _ _ ge)) ?_ ?_⟩
                    · rintro i x σ H1 H2 hi ⟨v3, v5, last, rfl, s1, inv, l0, l1⟩ ⟨T, xi, xo, rfl, nT, rfl, g1, g2⟩
                      cases g1
                      obtain ⟨d, hd, dv⟩ := gall.at_ g2
                      rw [drop_at hd] at inv
                      have s2 := s1.trans (same_upd (o := HO.tup [V.int (i : Nat), xo]) nT)
                      have dv2 := Da.same s2 _ _ dv
                      refine ⟨T, _, rfl, SqT.of upd_same, rfl, _, _, rfl, _, _, rfl, rfl, ?_⟩
                      refine ⟨_, rfl, xo, d, 200, rfl, dv2, _, rfl, ?_⟩
                      cases ed : numD 200 d with
                      | none =>
                        rw [badG_none ed] at inv
                        rw [inv] at q
                        exact iteT ⟨_, rfl, rfl, rfl, (by show 2 ≤ 1000; decide), fun a na => ⟨a, .str "good", .int (i : Nat), rfl, upd_same, fun dx hn ne => ⟨rfl, fin (n := some i) s2 na q dx hn ne⟩⟩⟩
                      | some t =>
                        rw [badG_some ed] at inv
                        refine iteF ?_
                        have goOn : lbG last t = false → ∃ (v3' v5' : Option V) (last' : Option Int), [some (V.ref th), some (V.ref ra), some (V.ref ga), some (V.int (i : Nat)), v4, some xo] = [some (.ref th), some (.ref ra), some (.ref ga), v3', v4, v5'] ∧
                            badG gs none 0 = badG (gs.drop (i + 1)) last' (i + 1) ∧ (i + 1 = 0 → last' = none) ∧ ∀ j, i + 1 = j + 1 → ∃ d t, gs[j]? = some d ∧ numD 200 d = some t ∧ last' = some t := fun z => by
                          rw [z, if_neg (by simp)] at inv
                          exact ⟨_, _, _, rfl, inv, fun h => by omega, fun j h => by
                            obtain rfl : i = j := by omega
                            exact ⟨d, t, hd, ed, rfl⟩⟩
                        refine ⟨_, rfl, (i : Int), 0, rfl, rfl, _, rfl, ?_⟩
                        refine ite2 (fun z => ?_) (fun z => ?_)
                        · have z1 : (0 : Int) < i := of_decide_eq_true z
                          obtain ⟨j, rfl⟩ : ∃ j, i = j + 1 := ⟨i - 1, by omega⟩
                          obtain ⟨dp, tp, hp1, hp2, rfl⟩ := l1 j rfl
                          obtain ⟨vp, hvp, dvp⟩ := gall.at' hp1
                          obtain ⟨rfl, _⟩ := numD_some ed
                          obtain ⟨rfl, _⟩ := numD_some hp2
                          cases dv2
                          cases dvp
                          refine ⟨_, rfl, _, rfl, _, rfl, _, _, rfl, rfl, ga, _, (j : Int), .int tp, rfl, ?_, SqT.of (s2 _ _ ge), atI_nat hvp, t, tp, rfl, rfl, _, rfl, ?_⟩
                          · show V.int (((j + 1 : Nat) : Int) - 1) = V.int (j : Int)
                            congr 1
                            omega
                          have eL : lbG (some tp) t = decide (t ≤ tp) := rfl
                          by_cases c : t ≤ tp
                          · rw [eL, decide_eq_true c, if_pos rfl] at inv
                            rw [inv] at q
                            exact iteT' (decide_eq_true c) ⟨_, rfl, rfl, rfl, (by show 2 ≤ 1000; decide), fun a na => ⟨a, .str "good", .int ((j + 1 : Nat) : Nat), rfl, upd_same, fun dx hn ne => ⟨rfl, fin (n := some (j + 1)) s2 na q dx hn ne⟩⟩⟩
                          · obtain ⟨w1, w2, w3, w4, w5⟩ := goOn (by rw [eL, decide_eq_false c])
                            exact iteF' (decide_eq_false c) ⟨w1, w2, w3, w4, s2, w5⟩
                        · have i0 : i = 0 := by
                            have : ¬ (0 : Int) < i := fun k => z (decide_eq_true k)
                            omega
                          have l9 := l0 i0
                          subst l9
                          obtain ⟨w1, w2, w3, w4, w5⟩ := goOn rfl
                          exact iteF ⟨w1, w2, w3, w4, s2, w5⟩
                    · rintro σ H1 ⟨v3, v5, last, rfl, s1, inv, _, _⟩
                      rw [gall.len, List.drop_length] at inv
                      have inv : badG gs none 0 = none := inv
                      rw [inv] at q
                      exact ⟨_, rfl, q _ s1⟩
            · have c2' : isTup dy = false := by simpa using c2
              rw [c2']
              exact iteT ⟨rfl, rfl, (by decide), fun a na => ⟨a, .str "form", .non, rfl, upd_same, fun dx hn ne => ⟨rfl, fin (n := none) (Same.refl H) na (form (ff_tup (.inr c2'))) dx hn ne⟩⟩⟩
          · have c1' : isTup dx = false := by simpa using c1
            rw [c1']
            exact iteT ⟨rfl, rfl, (by decide), fun a na => ⟨a, .str "form", .non, rfl, upd_same, fun dx hn ne => ⟨rfl, fin (n := none) (Same.refl H) na (form (ff_tup (.inl c1'))) dx hn ne⟩⟩⟩
      · refine iteT' (by simp; omega) ?_
        exact ⟨rfl, rfl, (by decide), fun a na => ⟨a, .str "form", .non, rfl, upd_same, fun dx hn ne => ⟨rfl, fin (n := none) (Same.refl H) na (form (ff_len (by omega))) dx hn ne⟩⟩⟩
end
end K07

set_option Elab.async false
set_option linter.all false
set_option maxRecDepth 100000
set_option maxHeartbeats 4000000
/-! What draws leave; a drawn reader. -/
namespace K07
open PySem L2 L2.EV
/-- the draws have gone on from H0, where they were at k0 with the list l0: all other things are as they were -/
structure Dr (H0 H : Hp) (m c l0 l : Addr) (k : Int) : Prop where
  at_ : MAt H m c l k
  hl : l = l0 ∨ H0 l = none
  kp : ∀ b o, H0 b = some o → b ≠ m → b ≠ l0 → H b = some o
theorem Dr.refl {H : Hp} {m c l : Addr} {k : Int} (M : MAt H m c l k) : Dr H H m c l l k := ⟨M, .inl rfl, fun b o e _ _ => e⟩
theorem Dr.same {H0 H H' : Hp} {m c l0 l : Addr} {k : Int} (d : Dr H0 H m c l0 l k) (s : Same H H') : Dr H0 H' m c l0 l k :=
  ⟨d.at_.same s, d.hl, fun b o e h1 h2 => s _ _ (d.kp b o e h1 h2)⟩
/-- one part behind another -/
theorem Dr.trans {H0 H H' : Hp} {m c l0 l l' : Addr} {k k' : Int} (d : Dr H0 H m c l0 l k) (e : Dr H H' m c l l' k') : Dr H0 H' m c l0 l' k' := by
  refine ⟨e.at_, ?_, fun b o e1 h1 h2 => e.kp b o (d.kp b o e1 h1 h2) h1 ?_⟩
  · rcases e.hl with h | h
    · rw [h]
      exact d.hl
    · by_cases z : l' = l0
      · exact .inl z
      · refine .inr ?_
        cases q : H0 l' with
        | none => rfl
        | some o =>
          have ne : l' ≠ m := (ne_of_none d.at_.hm h).symm
          rw [d.kp l' o q ne z] at h
          cases h
  · rcases d.hl with hl | hl
    · rw [hl]
      exact h2
    · exact ne_of_none e1 hl
/-- a thing of another kind than the draws' own stays -/
theorem Dr.tup {H0 H : Hp} {m c l0 l : Addr} {k k0 : Int} {a : Addr} {xs : List V} (d : Dr H0 H m c l0 l k) (M : MAt H0 m c l0 k0) (e : H0 a = some (.tup xs)) : H a = some (.tup xs) := by
  obtain ⟨ls, hl, _⟩ := M.hl
  exact d.kp a _ e (ne_of e M.hm (fun z => by cases z)) (ne_of e hl (fun z => by cases z))
theorem Dr.fr {H0 H : Hp} {m c l0 l : Addr} {k k0 : Int} {f : Addr} {fr : List T3} (d : Dr H0 H m c l0 l k) (M : MAt H0 m c l0 k0) (h : FrA H0 f fr) : FrA H f fr := by
  obtain ⟨ts, e, l, cc⟩ := h
  exact ⟨ts, d.tup M e, l, fun i t x h1 h2 => d.tup M (cc i t x h1 h2)⟩
/-- another list stays, and is none of the draws' own -/
theorem Dr.lst {H H' : Hp} {m c l l' : Addr} {k k0 : Int} {a : Addr} {xs : List V} (d : Dr H H' m c l l' k) (M : MAt H m c l k0) (e : H a = some (.lst xs)) (ne : a ≠ l) : H' a = some (.lst xs) ∧ a ≠ l' := by
  refine ⟨d.kp a _ e (ne_of e M.hm (fun z => by cases z)) ne, ?_⟩
  rcases d.hl with z | z
  · rw [z]
    exact ne
  · exact ne_of_none e z
/-- a draw, as spNext wants it -/
theorem dr_next {H : Hp} {m c l : Addr} {k n : Int} {Q : VK} {E : XK} (M : MAt H m c l k) (hn : 0 < n) (hn1 : n < 1000000) (hk : k < 900000)
    (q : ∀ (r : Int) (H' : Hp) (l' : Addr) (k' : Int), 0 ≤ r → r < n → k' ≤ k + 1 → Dr H H' m c l l' k' → Q (.int r) H') : spNext [.ref m, .int n] H Q E :=
  ⟨m, c, l, k, n, rfl, M, hn, hn1, by omega, fun r H' l' k' r0 r1 kk M' fl kp => q r H' l' k' r0 r1 kk ⟨M', fl, kp⟩⟩
theorem MAt.l_some {H : Hp} {m c l : Addr} {k : Int} (M : MAt H m c l k) {a : Addr} (h : H a = none) : a ≠ l := by
  obtain ⟨ls, hl, _⟩ := M.hl
  exact (ne_of_none hl h).symm
theorem MAt.upd {H : Hp} {m c l D : Addr} {k : Int} {o : HO} (M : MAt H m c l k) (hm : D ≠ m) (hc : D ≠ c) (hl : D ≠ l) : MAt (L2.upd H D o) m c l k := by
  obtain ⟨h1, ⟨cs, h2, h3⟩, ⟨ls0, h4, h5⟩, h6, h7, h8⟩ := M
  exact ⟨by rw [upd_ne hm.symm]; exact h1, ⟨cs, by rw [upd_ne hc.symm]; exact h2, h3⟩, ⟨ls0, by rw [upd_ne hl.symm]; exact h4, h5⟩, h6, h7, h8⟩
theorem MAt.c_some {H : Hp} {m c l : Addr} {k : Int} (M : MAt H m c l k) {a : Addr} (h : H a = none) : a ≠ c := by
  obtain ⟨ls, hl, _⟩ := M.hc
  exact (ne_of_none hl h).symm
def d3 (x : T3) : PyData := .tuple [.int x.1, .str x.2.1, .int x.2.2]
def At3 (H : Hp) (ts : List Addr) (xs : List T3) : Prop := ts.length = xs.length ∧ ∀ (i : Nat) t x, ts[i]? = some t → xs[i]? = some x → S3 H t x
theorem dp3 {K : PySem.W.Frag} {H : Hp} {t : Addr} {x : T3} (h : S3 H t x) : Dp K H (.ref t) (d3 x) := .tup (SqT.of h) (.cons (.int _) (.cons (.str _) (.cons (.int _) .nil)))
theorem dp3s {K : PySem.W.Frag} {H : Hp} : ∀ {ts : List Addr} {xs : List T3}, At3 H ts xs → DpAll K H (ts.map V.ref) (xs.map d3)
  | [], [], _ => .nil
  | [], _ :: _, h => by cases h.1
  | _ :: _, [], h => by cases h.1
  | t :: ts, x :: xs, h => .cons (dp3 (h.2 0 t x rfl rfl)) (dp3s ⟨by have := h.1; simpa using this, fun i t x h1 h2 => h.2 (i + 1) t x (by simpa using h1) (by simpa using h2)⟩)
theorem At3.same {H H' : Hp} {ts : List Addr} {xs : List T3} (h : At3 H ts xs) (s : KeepT H H') : At3 H' ts xs := ⟨h.1, fun i t x h1 h2 => s _ _ (h.2 i t x h1 h2)⟩
theorem At3.snoc {H : Hp} {ts : List Addr} {xs : List T3} {t : Addr} {x : T3} (h : At3 H ts xs) (hx : S3 H t x) : At3 H (ts ++ [t]) (xs ++ [x]) := by
  refine ⟨by rw [List.length_append, List.length_append, h.1]; rfl, fun i u y h1 h2 => ?_⟩
  by_cases e : i < ts.length
  · rw [List.getElem?_append_left e] at h1
    rw [List.getElem?_append_left (by rw [← h.1]; exact e)] at h2
    exact h.2 i u y h1 h2
  · have i1 := (List.getElem?_eq_some_iff.mp h1).1
    rw [List.length_append] at i1
    have e2 : i = ts.length := by simp only [List.length_cons, List.length_nil] at i1; omega
    subst e2
    rw [List.getElem?_append_right (Nat.le_refl _), Nat.sub_self] at h1
    rw [h.1, List.getElem?_append_right (Nat.le_refl _), Nat.sub_self] at h2
    have e3 : t = u := Option.some.inj h1
    have e4 : x = y := Option.some.inj h2
    rw [← e3, ← e4]
    exact hx
theorem At3.take {H : Hp} {ts : List Addr} {xs : List T3} (h : At3 H ts xs) (n : Nat) : At3 H (ts.take n) (xs.take n) := by
  refine ⟨by rw [List.length_take, List.length_take, h.1], fun i t x h1 h2 => ?_⟩
  rw [List.getElem?_take] at h1 h2
  by_cases e : i < n
  · rw [if_pos e] at h1 h2
    exact h.2 i t x h1 h2
  · rw [if_neg e] at h1
    cases h1
theorem Dr.keepT {H0 H : Hp} {m c l0 l : Addr} {k k0 : Int} (d : Dr H0 H m c l0 l k) (M : MAt H0 m c l0 k0) : KeepT H0 H := fun a xs e => d.tup M e
theorem MAt.new {H : Hp} {m c l p : Addr} {k : Int} (M : MAt H m c l k) (hp : H p = none) : p ≠ m ∧ p ≠ l := ⟨(ne_of_none M.hm hp).symm, M.l_some hp⟩
/-- the heap without what the draws change -/
def rt (H : Hp) (m l : Addr) : Hp := fun b => if b = m ∨ b = l then none else H b
theorem rt_mk {H : Hp} {m l b : Addr} {o : HO} (e : H b = some o) (h1 : b ≠ m) (h2 : b ≠ l) : rt H m l b = some o := by
  unfold rt
  rw [if_neg (by intro z; rcases z with z | z; exact h1 z; exact h2 z)]
  exact e
theorem rt_some {H : Hp} {m l b : Addr} {o : HO} (e : rt H m l b = some o) : H b = some o ∧ b ≠ m ∧ b ≠ l := by
  unfold rt at e
  by_cases h : b = m ∨ b = l
  · rw [if_pos h] at e
    cases e
  · rw [if_neg h] at e
    exact ⟨e, fun z => h (.inl z), fun z => h (.inr z)⟩
theorem rt_sub {H : Hp} {m l : Addr} : Same (rt H m l) H := fun b o e => (rt_some e).1
theorem rt_same {H H' : Hp} {m l : Addr} (s : Same H H') : Same (rt H m l) (rt H' m l) := fun b o e => by
  obtain ⟨h, h1, h2⟩ := rt_some e
  exact rt_mk (s _ _ h) h1 h2
theorem rt_dr {H H' : Hp} {m c l l' : Addr} {k : Int} (d : Dr H H' m c l l' k) : Same (rt H m l) (rt H' m l') := fun b o e => by
  obtain ⟨h, h1, h2⟩ := rt_some e
  refine rt_mk (d.kp _ _ h h1 h2) h1 ?_
  rcases d.hl with z | z
  · rw [z]
    exact h2
  · exact ne_of_none h z
theorem MAt.rtt {H' : Hp} {m c l p : Addr} {k : Int} {xs : List V} (M : MAt H' m c l k) (hp : H' p = some (.tup xs)) : rt H' m l p = some (.tup xs) := by
  obtain ⟨ls, hl, _⟩ := M.hl
  exact rt_mk hp (ne_of hp M.hm (fun z => by cases z)) (ne_of hp hl (fun z => by cases z))
/-- what was laid is none of the draws' own -/
theorem MAt.rtn {H H' : Hp} {m c l p : Addr} {k : Int} {o : HO} (M : MAt H m c l k) (hp : H p = none) (e : H' p = some o) : rt H' m l p = some o := rt_mk e (M.new hp).1 (M.new hp).2
/-- the rules found so far -/
structure FR (H H' : Hp) (m c l F : Addr) (kb : Int) (xs : List T3) : Prop where
  ex : ∃ (ts : List Addr) (l' : Addr) (k' : Int), H' F = some (.lst (ts.map V.ref)) ∧ At3 H' ts xs ∧ F ≠ l' ∧ F ≠ m ∧ F ≠ c ∧ k' ≤ kb ∧ Dr H H' m c l l' k'
  hF : ∀ b o, H b = some o → b ≠ m → b ≠ l → b ≠ F
theorem FR.push {H H1 H2 H3 : Hp} {m c l F l1 l2 t : Addr} {k1 k2 kb : Int} {xs : List T3} {ts : List Addr} {x : T3} (hF : H1 F = some (.lst (ts.map V.ref))) (ha : At3 H1 ts xs) (n1 : F ≠ l1) (n2 : F ≠ m) (n3 : F ≠ c) (d1 : Dr H H1 m c l l1 k1)
    (d2 : Dr H1 H2 m c l1 l2 k2) (ht : H2 t = none) (e3 : H3 = upd (upd H2 t (.tup [.int x.1, .str x.2.1, .int x.2.2])) F (.lst (ts.map V.ref ++ [.ref t]))) (hk : k2 ≤ kb)
    (hF0 : ∀ b o, H b = some o → b ≠ m → b ≠ l → b ≠ F) : FR H H3 m c l F kb (xs ++ [x]) := by
  obtain ⟨hF2, n4⟩ := d2.lst d1.at_ hF n1
  have u := same_upd (o := HO.tup [.int x.1, .str x.2.1, .int x.2.2]) ht
  have hF2' := u _ _ hF2
  have kt := keepT_upd (o := .lst (ts.map V.ref ++ [.ref t])) hF2' (fun xs z => by cases z)
  have D2 := (d1.trans d2).same u
  subst e3
  refine ⟨⟨ts ++ [t], l2, k2, by rw [List.map_append]; exact upd_same, ?_, n4, n2, n3, hk, ⟨D2.at_.upd n2 n3 n4, D2.hl, fun b o z h1 h2 => ?_⟩⟩, hF0⟩
  · refine At3.snoc (ha.same ?_) (kt _ _ upd_same)
    exact ((d2.keepT d1.at_).trans (Same.keepT u)).trans kt
  · rw [upd_ne (hF0 b o z h1 h2)]
    exact D2.kp b o z h1 h2
/-- a draw only -/
theorem FR.draw {H H1 H2 : Hp} {m c l F l1 l2 : Addr} {k1 k2 kb : Int} {xs : List T3} {ts : List Addr} (hF : H1 F = some (.lst (ts.map V.ref))) (ha : At3 H1 ts xs) (n1 : F ≠ l1) (n2 : F ≠ m) (n3 : F ≠ c) (d1 : Dr H H1 m c l l1 k1)
    (d2 : Dr H1 H2 m c l1 l2 k2) (hk : k2 ≤ kb) (hF0 : ∀ b o, H b = some o → b ≠ m → b ≠ l → b ≠ F) : FR H H2 m c l F kb xs := by
  obtain ⟨hF2, n4⟩ := d2.lst d1.at_ hF n1
  exact ⟨⟨ts, l2, k2, hF2, ha.same (d2.keepT d1.at_), n4, n2, n3, hk, d1.trans d2⟩, hF0⟩
/-- the drawn signs -/
def sgn : Nat → Str
  | 0 => ⟨#[64]⟩
  | 1 => ⟨#[97]⟩
  | _ => ⟨#[98]⟩
theorem sgn_at {j c : Nat} (h : ("@ab" : Str).cps.toList[j]? = some c) : j < 3 ∧ (⟨#[c]⟩ : Str) = sgn j := by
  have e : ("@ab" : Str).cps.toList = [64, 97, 98] := by decide +kernel
  rw [e] at h
  match j, h with
  | 0, h => cases h; exact ⟨by decide, rfl⟩
  | 1, h => cases h; exact ⟨by decide, rfl⟩
  | 2, h => cases h; exact ⟨by decide, rfl⟩
theorem sgn_lt {r j : Nat} (h : r < j) (hj : j < 3) : sl (sgn r) < sl (sgn j) := by
  have : (r = 0 ∧ j = 1) ∨ (r = 0 ∧ j = 2) ∨ (r = 1 ∧ j = 2) := by omega
  rcases this with ⟨rfl, rfl⟩ | ⟨rfl, rfl⟩ | ⟨rfl, rfl⟩ <;> decide +kernel
theorem sgn_ok {r : Nat} (h : r < 3) : signD (sgn r) = true ∧ (sgn r).length = 1 ∧ PyData.strOk (sgn r) = true := by
  match r, h with
  | 0, _ => exact ⟨by decide +kernel, rfl, by decide +kernel⟩
  | 1, _ => exact ⟨by decide +kernel, rfl, by decide +kernel⟩
  | 2, _ => exact ⟨by decide +kernel, rfl, by decide +kernel⟩
def key (x : T3) : IS := (x.1, x.2.1)
/-- rules of states before i, and of i with signs before j -/
structure KP (n : Nat) (xs : List T3) (i j : Nat) : Prop where
  at_ : ∀ x ∈ xs, 0 ≤ x.2.2 ∧ x.2.2 < n ∧ ∃ q r : Nat, x.1 = (q : Int) ∧ q < n ∧ r < 3 ∧ x.2.1 = sgn r ∧ (q < i ∨ (q = i ∧ r < j))
  srt : xs.Pairwise fun a b => ltIS (key a) (key b) = true
  len : xs.length ≤ 3 * i + j
theorem KP.nil (n : Nat) : KP n [] 0 0 := ⟨(fun x h => by cases h), List.Pairwise.nil, by simp⟩
theorem KP.next {n : Nat} {xs : List T3} {i j : Nat} (h : KP n xs i j) : KP n xs i (j + 1) := ⟨fun x hx => by
  obtain ⟨h1, h2, q, r, e1, e2, e3, e4, e5⟩ := h.at_ x hx
  exact ⟨h1, h2, q, r, e1, e2, e3, e4, by omega⟩, h.srt, by have := h.len; omega⟩
theorem KP.row {n : Nat} {xs : List T3} {i : Nat} (h : KP n xs i 3) : KP n xs (i + 1) 0 := ⟨fun x hx => by
  obtain ⟨h1, h2, q, r, e1, e2, e3, e4, e5⟩ := h.at_ x hx
  exact ⟨h1, h2, q, r, e1, e2, e3, e4, by omega⟩, h.srt, by have := h.len; omega⟩
theorem KP.push {n : Nat} {xs : List T3} {i j : Nat} {t : Int} (h : KP n xs i j) (hi : i < n) (hj : j < 3) (h0 : 0 ≤ t) (h1 : t < n) : KP n (xs ++ [((i : Int), sgn j, t)]) i (j + 1) := by
  refine ⟨fun x hx => ?_, ?_, by have := h.len; rw [List.length_append]; simp only [List.length_cons, List.length_nil]; omega⟩
  · rcases List.mem_append.mp hx with hx | hx
    · exact h.next.at_ x hx
    · obtain rfl := List.mem_singleton.mp hx
      exact ⟨h0, h1, i, j, rfl, hi, hj, rfl, by omega⟩
  · rw [List.pairwise_append]
    refine ⟨h.srt, List.pairwise_singleton _ _, fun a ha b hb => ?_⟩
    obtain rfl := List.mem_singleton.mp hb
    obtain ⟨_, _, q, r, e1, e2, e3, e4, e5⟩ := h.at_ a ha
    show (if a.1 = (i : Int) then decide (sl a.2.1 < sl (sgn j)) else decide (a.1 < (i : Int))) = true
    rw [e1, e4]
    by_cases c : q = i
    · subst c
      rw [if_pos rfl]
      exact decide_eq_true (sgn_lt (by omega) hj)
    · rw [if_neg (by omega)]
      exact decide_eq_true (by omega)
/-- a right reader of few states -/
def RdD (d : PyData) : Prop := ∃ (n : Nat) (xs : List T3) (gs : List Int), d = .tuple [.tuple (xs.map d3), .tuple (gs.map PyData.int)] ∧ n ≤ 6 ∧ KP n xs n 0 ∧ gs.length ≤ 6 ∧ (∀ g ∈ gs, 0 ≤ g ∧ g < n) ∧ gs.Pairwise (· < ·)
theorem rule_d3 {n : Nat} {xs : List T3} {i j : Nat} (h : KP n xs i j) (hn : n ≤ 6) {x : T3} (hx : x ∈ xs) : ruleD (d3 x) = some x := by
  obtain ⟨h1, h2, q, r, e1, e2, e3, e4, e5⟩ := h.at_ x hx
  show (match numD 200 (.int x.1), numD 200 (.int x.2.2) with
    | some i, some j => if signD x.2.1 = true then some (i, x.2.1, j) else none
    | _, _ => none) = some x
  have a1 : numD 200 (.int x.1) = some x.1 := if_pos ⟨by omega, by omega⟩
  have a2 : numD 200 (.int x.2.2) = some x.2.2 := if_pos ⟨by omega, by omega⟩
  rw [a1, a2, e4]
  show (if signD (sgn r) = true then some (x.1, sgn r, x.2.2) else none) = some x
  rw [if_pos (sgn_ok e3).1, ← e4]
theorem badR_ok : ∀ {xs : List T3} {last : Option IS} {k : Nat}, (∀ x ∈ xs, ruleD (d3 x) = some x) → xs.Pairwise (fun a b => ltIS (key a) (key b) = true) → (∀ p, last = some p → ∀ x ∈ xs, ltIS p (key x) = true) → badR (xs.map d3) last k = none
  | [], _, _, _, _, _ => rfl
  | x :: xs, last, k, h1, h2, h3 => by
    rw [List.map_cons, badR_some (h1 x (List.mem_cons_self ..))]
    obtain ⟨h4, h5⟩ := List.pairwise_cons.mp h2
    have z : lbR last x = false := by
      cases last with
      | none => rfl
      | some p =>
        have := h3 p rfl x (List.mem_cons_self ..)
        show (!ltIS p (x.1, x.2.1)) = false
        rw [show ((x.1, x.2.1) : IS) = key x from rfl, this]
        rfl
    rw [z, if_neg (by simp)]
    exact badR_ok (fun y hy => h1 y (List.mem_cons_of_mem _ hy)) h5 fun p hp y hy => by
      cases hp
      exact h4 y hy
theorem badG_ok : ∀ {gs : List Int} {last : Option Int} {k : Nat}, (∀ x ∈ gs, 0 ≤ x ∧ x < 200) → gs.Pairwise (· < ·) → (∀ p, last = some p → ∀ x ∈ gs, p < x) → badG (gs.map PyData.int) last k = none
  | [], _, _, _, _, _ => rfl
  | x :: xs, last, k, h1, h2, h3 => by
    have hx : numD 200 (.int x) = some x := if_pos (h1 x (List.mem_cons_self ..))
    rw [List.map_cons, badG_some hx]
    obtain ⟨h4, h5⟩ := List.pairwise_cons.mp h2
    have z : lbG last x = false := by
      cases last with
      | none => rfl
      | some p =>
        have := h3 p rfl x (List.mem_cons_self ..)
        exact decide_eq_false (by omega)
    rw [z, if_neg (by simp)]
    exact badG_ok (fun y hy => h1 y (List.mem_cons_of_mem _ hy)) h5 fun p hp y hy => by
      cases hp
      exact h4 y hy
theorem rd_ok {d : PyData} (h : RdD d) : ffD d = none := by
  obtain ⟨n, xs, gs, rfl, hn, kp, _, hg, sg⟩ := h
  show (match badR (xs.map d3) none 0 with
    | some k => some ((("rules" : Str), some k))
    | none => match badG (gs.map PyData.int) none 0 with
      | some k => some ((("good" : Str), some k))
      | none => none) = none
  rw [badR_ok (fun x hx => rule_d3 kp hn hx) kp.srt (fun p h => by cases h), badG_ok (fun x hx => ⟨(hg x hx).1, by have := (hg x hx).2; omega⟩) sg (fun p h => by cases h)]
theorem rd_sz {d : PyData} (h : RdD d) : SzR d := by
  obtain ⟨n, xs, gs, rfl, hn, kp, _⟩ := h
  intro rs g e r hr a x b er
  cases e
  obtain ⟨y, hy, rfl⟩ := List.mem_map.mp hr
  cases er
  obtain ⟨h1, h2, q, r, e1, e2, e3, e4, e5⟩ := kp.at_ y hy
  rw [e4, (sgn_ok e3).2.1]
  decide
end K07

set_option Elab.async false
set_option linter.all false
set_option maxRecDepth 100000
set_option maxHeartbeats 4000000
/-! _law_some_reader. -/
namespace K07
open PySem L2 L2.EV
abbrev sSome : Stmt := top 21
structure Ls (K : PySem.W.Frag) (mg : Str → Option Value) where
  f1 : Addr
  d1 : FuncData
  N : Fun K "_law_next" "_law_next" sNext f1 d1
  bN : Binds K d1 ["m", "many"] []
  mN : mg "_law_next" = some (.ref f1)
  T : TxtD mg
  ra : mg "range" = none
  tu : mg "tuple" = none
  f2 : Addr
  d2 : FuncData
  P : Fun K "_law_some_reader" "_law_some_reader" sSome f2 d2
  bP : Binds K d2 ["m", "many"] []
  mP : mg "_law_some_reader" = some (.ref f2)
def spSome : Sp := fun vs H Q _ => ∃ (m c l : Addr) (k : Int) (n : Nat), vs = [.ref m, .int n] ∧ MAt H m c l k ∧ k < 800000 ∧ 1 ≤ n ∧ n ≤ 6 ∧
  ∀ (v : V) (d : PyData) (H' : Hp) (l' : Addr) (k' : Int), Da (rt H' m l') v d → RdD d → k' ≤ k + 60 → Dr H H' m c l l' k' → Q v H'
theorem da_ints {H : Hp} : ∀ gs : List Int, DaAll H (gs.map V.int) (gs.map PyData.int)
  | [] => .nil
  | g :: gs => .cons (.int g) (da_ints gs)
theorem da3s {H : Hp} {m c l : Addr} {k : Int} (M : MAt H m c l k) : ∀ {ts : List Addr} {xs : List T3}, At3 H ts xs → DaAll (rt H m l) (ts.map V.ref) (xs.map d3)
  | [], [], _ => .nil
  | [], _ :: _, h => by cases h.1
  | _ :: _, [], h => by cases h.1
  | t :: ts, x :: xs, h => .cons (.tup (M.rtt (h.2 0 t x rfl rfl)) (.cons (.int _) (.cons (.str _) (.cons (.int _) .nil)))) (da3s M ⟨by have := h.1; simpa using this, fun i t x h1 h2 => h.2 (i + 1) t x (by simpa using h1) (by simpa using h2)⟩)
section
variable {P : Program} {w : World} {K : PySem.W.Frag} {mg : Str → Option Value} {base : Heap}
theorem scSome : FnScope ["m", "many", "rules", "state", "sign"] ["m", "many"] (defScope sSome) := ⟨rfl, rfl, rfl, by decide +kernel, rfl, by decide +kernel, by decide +kernel⟩
theorem ok_some (L : Ls K mg) : FnOk P w K mg base CX0 2 L.f2 L.d2 ["m", "many"] spSome := by
  have GX : FnOk P w K mg base CX0 1 L.f1 L.d1 ["m", "many"] spNext := ok_next L.N L.T
  refine L.P.ok scSome (fun vs H Q E h => ?_) (fun cdv A outer s H vs Q E hr h => ?_)
  · obtain ⟨m, c, l, k, n, rfl, _⟩ := h
    rfl
  · obtain ⟨m, c, l, k, n, rfl, M, hk, n1, n5, q⟩ := h
    refine ⟨_, pss_cons (ps_set (i := 2) scSome.nd rfl (Or.inl rfl) (pe_lst pa_nil))
      (pss_cons (ps_for PassesOwn.never rfl (pi_range1 (by rfl) L.ra (pa_cons (pv 1) pa_nil)) (pg_name (i := 3) scSome.nd rfl (Or.inl rfl))
        (pss_one (ps_for PassesOwn.never rfl (pi_str pe_str) (pg_name (i := 4) scSome.nd rfl (Or.inl rfl))
          (pss_one (ps_if (pt_cmpR op_gt (pe_call GX hr (by rfl) L.mN L.N.kp L.bN .nil pass0 (pa_cons (pv 0) (pa_cons pe_int pa_nil))) pe_int (nomark _))
            (pss_one (ps_expr (pe_bm PySem.F.plainAttrs_list PySem.F.slot_list_append PySem.F.type_list_append mt_append (pv 2) (pa_cons (pe_tup (pa_cons (pv 3) (pa_cons (pv 4) (pa_cons (pe_call GX hr (by rfl) L.mN L.N.kp L.bN .nil pass0 (pa_cons (pv 0) (pa_cons (pv 1) pa_nil))) pa_nil)))) pa_nil)))) pss_nil)))))
      (pss_one (ps_ret (pe_tup (pa_cons (pe_callTy call_tuple_of (by rfl) L.tu (by decide +kernel) (pa_cons (pv 2) pa_nil))
        (pa_cons (pe_callTy call_tuple_of (by rfl) L.tu (by decide +kernel) (pa_cons (pe_lc (own := [("state", 3)]) (g := gName 3) rfl scSome.nd (pi_range1 (by rfl) L.ra (pa_cons (pv 1) pa_nil))
          (blkOk_by (N := ["m", "many", "rules", "state", "sign"]) (sc := defScope sSome) (by decide +kernel))
          (fun _ _ _ _ _ => pg_name (i := 3) scSome.nd rfl (Or.inl rfl)) (fun _ _ _ _ _ => pts_one (pt_cmpR op_eq (pe_call GX hr (by rfl) L.mN L.N.kp L.bN .nil pass0 (pa_cons (pv 0) (pa_cons pe_int pa_nil))) pe_int (by rfl))) (fun _ _ _ _ _ => pv 3)) pa_nil)) pa_nil)))))), ?_⟩
    refine ⟨by decide, fun F hF => ?_⟩
    have u1 := same_upd (o := HO.lst []) hF
    have D0 := (Dr.refl M).same u1
    have fr0 : FR H _ m c l F k [] := ⟨⟨[], l, k, upd_same, ⟨rfl, fun i t x h => by cases h⟩, M.l_some hF, (ne_of_none M.hm hF).symm, M.c_some hF, Int.le_refl _, D0⟩, fun b o z h1 h2 => ne_of_none z hF⟩
    refine ⟨_, rfl, _, rfl, by omega, by omega, for_it walk_range (fun i σ H' => ∃ (v3 v4 : Option V) (xs : List T3), σ = [some (.ref m), some (.int (n : Int)), some (.ref F), v3, v4] ∧
      FR H H' m c l F (k + 6 * i) xs ∧ KP n xs i 0)
      ⟨none, none, [], rfl, by simpa using fr0, KP.nil n⟩ (fun _ _ _ _ _ => trivial) ?_ ?_⟩
    · rintro i x σ H2 H3 hi ⟨v3, v4, xs, rfl, fr, kp⟩ ⟨rfl, rfl⟩
      have hin : i < n := by omega
      refine ⟨_, rfl, for_it walk_str (fun j σ H' => ∃ (v4 : Option V) (xs : List T3), σ = [some (.ref m), some (.int (n : Int)), some (.ref F), some (.int (0 + (i : Int))), v4] ∧ FR H H' m c l F (k + 6 * i + 2 * j) xs ∧ KP n xs i j)
        ⟨v4, xs, rfl, by simpa using fr, kp⟩ (fun _ _ _ _ _ => trivial) ?_ ?_⟩
      · rintro j x σ H4 H5 hj ⟨v4, xs, rfl, fr, kp⟩ ⟨rfl, ch, hc, rfl⟩
        obtain ⟨j3, es⟩ := sgn_at (j := j) (by simpa using hc)
        rw [es]
        obtain ⟨ts, l4, k4, hF4, ha4, n4, nm, nc, kk4, D4⟩ := fr.ex
        refine ⟨_, rfl, m, c, l4, k4, 4, rfl, D4.at_, by decide, by decide, by omega, fun r5 H6 l6 k6 a6 b6 g6 N6 f6 q6 => ?_⟩
        have d6 : Dr _ H6 m c l4 l6 k6 := ⟨N6, f6, q6⟩
        obtain ⟨hF6, n6⟩ := d6.lst D4.at_ hF4 n4
        refine ⟨r5, 0, rfl, rfl, _, rfl, ?_⟩
        refine ite2 (fun z => ?_) (fun z => ?_)
        · refine ⟨_, rfl, .inl ⟨rfl, _, SqL.of hF6⟩, _, rfl, _, rfl, _, rfl, _, rfl, m, c, l6, k6, n, rfl, N6, by omega, by omega, by omega, fun r7 H8 l8 k8 a8 b8 g8 N8 f8 q8 => ?_⟩
          have d8 : Dr H6 H8 m c l6 l8 k8 := ⟨N8, f8, q8⟩
          obtain ⟨hF8, n8⟩ := d8.lst N6 hF6 n6
          refine ⟨(by show 3 ≤ sizeLine; decide), fun tp htp => ?_⟩
          refine ⟨F, ts.map V.ref, _, rfl, rfl, same_upd htp _ _ hF8, by rw [List.length_map, ha4.1, sizeLine_eq]; have := kp.len; omega, ?_⟩
          have fr' := FR.push (x := (0 + (i : Int), sgn j, r7)) hF4 ha4 n4 nm nc D4 (d6.trans d8) htp rfl (kb := k + 6 * i + 2 * ((j + 1 : Nat) : Int)) (by omega) fr.hF
          have kp' : KP n (xs ++ [(0 + (i : Int), sgn j, r7)]) i (j + 1) := by
            rw [Int.zero_add]
            exact kp.push hin j3 a8 b8
          exact ⟨_, _, rfl, fr', kp'⟩
        · exact ⟨_, _, rfl, FR.draw hF4 ha4 n4 nm nc D4 d6 (by omega) fr.hF, kp.next⟩
      · rintro σ H4 ⟨v4, xs, rfl, fr, kp⟩
        have e3 : ("@ab" : Str).cps.size = 3 := by decide +kernel
        rw [e3] at kp fr
        obtain ⟨ts, l4, k4, hF4, ha4, n4, nm, nc, kk4, D4⟩ := fr.ex
        refine ⟨_, _, xs, rfl, ⟨⟨ts, l4, k4, hF4, ha4, n4, nm, nc, ?_, D4⟩, fr.hF⟩, KP.row kp⟩
        omega
    · rintro σ H2 ⟨v3, v4, xs, rfl, fr, kp⟩
      have en : ((n : Int) - 0).toNat = n ∨ (n : Int).toNat = n := .inr (by omega)
      have fr : FR H H2 m c l F (k + 6 * n) xs := by simpa using fr
      have kp : KP n xs n 0 := by simpa using kp
      obtain ⟨ts, l4, k4, hF4, ha4, n4, nm, nc, kk4, D4⟩ := fr.ex
      refine ⟨_, rfl, F, _, rfl, .inl ⟨SqL.of hF4, fun t1 ht1 => ?_⟩⟩
      have u1 := same_upd (o := HO.tup (ts.map V.ref)) ht1
      have D5 := D4.same u1
      have ht1' : (upd H2 t1 (HO.tup (ts.map V.ref))) t1 = some (.tup (ts.map V.ref)) := upd_same
      have ha5 := ha4.same (Same.keepT u1)
      generalize upd H2 t1 (HO.tup (ts.map V.ref)) = Ha at u1 D5 ht1' ha5 ⊢
      refine ⟨_, rfl, _, rfl, by omega, by omega, fun D hD => ?_⟩
      refine lc_it walk_range (fun i H' => ∃ (gs : List Int) (l' : Addr) (k' : Int), H' D = some (.lst (gs.map V.int)) ∧ D ≠ l' ∧ gs.length ≤ i ∧ (∀ g ∈ gs, 0 ≤ g ∧ g < n ∧ g < i) ∧ gs.Pairwise (· < ·) ∧ k' ≤ k4 + i ∧ Dr Ha H' m c l4 l' k')
        ⟨[], l4, k4, upd_same, D5.at_.l_some hD, by simp, (fun g h => by cases h), List.Pairwise.nil, by simp, (Dr.refl D5.at_).same (same_upd hD)⟩ (fun _ _ _ _ => trivial) ?_ ?_
      · rintro i x H6 H7 hi ⟨gs, l6, k6, hD6, n6, lg, hg, sg, kk6, D6⟩ ⟨rfl, rfl⟩
        have hin : i < n := by omega
        refine ⟨rfl, _, rfl, m, c, l6, k6, 3, rfl, D6.at_, by decide, by decide, by omega, fun r8 H8 l8 k8 a8 b8 g8 N8 f8 q8 => ?_⟩
        have d8 : Dr H7 H8 m c l6 l8 k8 := ⟨N8, f8, q8⟩
        obtain ⟨hD8, n8⟩ := d8.lst D6.at_ hD6 n6
        have D8 := D6.trans d8
        refine ⟨rfl, _, rfl, ?_⟩
        refine ite2 (fun z => ?_) (fun z => ?_)
        · refine ⟨_, rfl, _, hD8, by rw [List.length_map, sizeLine_eq]; omega, ?_⟩
          refine ⟨gs ++ [(i : Int)], l8, k8, ?_, n8, by rw [List.length_append]; simp only [List.length_cons, List.length_nil]; omega, fun g hg' => ?_, ?_, by omega, ?_⟩
          · rw [List.map_append]
            show upd H8 D (.lst (gs.map V.int ++ [V.int (0 + (i : Int))])) D = some (.lst (gs.map V.int ++ [V.int (i : Int)]))
            rw [Int.zero_add]
            exact upd_same
          · rcases List.mem_append.mp hg' with h | h
            · obtain ⟨h1, h2, h3⟩ := hg g h
              exact ⟨h1, h2, by omega⟩
            · obtain rfl := List.mem_singleton.mp h
              exact ⟨by omega, by omega, by omega⟩
          · rw [List.pairwise_append]
            refine ⟨sg, List.pairwise_singleton _ _, fun a ha b hb => ?_⟩
            obtain rfl := List.mem_singleton.mp hb
            exact (hg a ha).2.2
          · obtain ⟨ls, hl, _⟩ := D5.at_.hl
            exact ⟨D8.at_.upd (ne_of_none D5.at_.hm hD).symm (D5.at_.c_some hD) n8, D8.hl, fun b o e h1 h2 => by
              rw [upd_ne (ne_of_none e hD)]
              exact D8.kp b o e h1 h2⟩
        · exact ⟨gs, l8, k8, hD8, n8, by omega, fun g h => ⟨(hg g h).1, (hg g h).2.1, by have := (hg g h).2.2; omega⟩, sg, by omega, D8⟩
      · rintro H6 ⟨gs, l6, k6, hD6, n6, lg, hg, sg, kk6, D6⟩
        refine ⟨D, _, rfl, .inl ⟨SqL.of hD6, fun t2 ht2 => ?_⟩⟩
        have u2 := same_upd (o := HO.tup (gs.map V.int)) ht2
        have D7 := D6.same u2
        refine ⟨(by show 2 ≤ sizeLine; decide), fun t3 ht3 => ?_⟩
        have u3 := same_upd (o := HO.tup [V.ref t1, V.ref t2]) ht3
        have D8 := D7.same u3
        have M8 := D8.at_
        have e1 := D8.tup D5.at_ ht1'
        have e2 := u3 _ _ (upd_same (H := H6) (a := t2) (o := HO.tup (gs.map V.int)))
        have e3 : (upd (upd H6 t2 (HO.tup (gs.map V.int))) t3 (HO.tup [V.ref t1, V.ref t2])) t3 = some (.tup [V.ref t1, V.ref t2]) := upd_same
        have ha8 := ha5.same (D8.keepT D5.at_)
        generalize upd (upd H6 t2 (HO.tup (gs.map V.int))) t3 (HO.tup [V.ref t1, V.ref t2]) = H8 at D8 M8 e1 e2 e3 ha8 ⊢
        refine q (.ref t3) _ H8 l6 k6 (.tup (M8.rtt e3) (.cons (.tup (M8.rtt e1) (da3s M8 ha8)) (.cons (.tup (M8.rtt e2) (da_ints gs)) .nil))) ⟨n, xs, gs, rfl, n5, kp, by omega, fun g h => ⟨(hg g h).1, (hg g h).2.1⟩, sg⟩ (by omega) (D5.trans D8)
end
end K07

set_option Elab.async false
set_option linter.all false
set_option maxRecDepth 100000
set_option maxHeartbeats 4000000
/-! repr of data; data that grow. -/
namespace L2
namespace EV
open PySem PySem.Spec PyProof.Rows _root_.EV
/-- repr of data -/
def rShowV (K : PySem.W.Frag) : List V → Hp → VK → Prop := fun xs H Q => ∃ (v : V) (d : PyData), xs = [v] ∧ Dp K H v d ∧ d.showable = true ∧ d.hasDict = false ∧ d.shown.length ≤ sizeLine ∧ d.depth ≤ 5 ∧ Q (.str d.shown) H
theorem call_showV {X : Cx} (hgd : X.A.guards = some []) (hu : X.A.units + 64 < cLine) : CallR X (.builtin "repr") (rShowV X.K) := by
  intro pins s σ H xs us Q I r h
  obtain ⟨v, d, rfl, hd, sh, nd, sz, dp, q⟩ := h
  obtain ⟨u, rfl, ru⟩ := vals1 r
  obtain ⟨as, rd⟩ := Dp.reads I d v u hd ru
  have at_ : ∀ a : Addr, u = .ref a → wpAny (model X.prog X.w) X.A (call (.builtin "repr") [u]) (EP X pins σ Q) X.xe s := fun a e => by
    subst e
    exact repr_of_reads' rd sh (fun z => by rw [nd] at z; cases z) hgd (by omega) (fun _ _ e => e) (fun h' t tk hk => ⟨.str _, H, I.kept (t' := tk) hk, ⟨_, rfl⟩, q⟩) sz
  cases hd with
  | non =>
    obtain rfl : u = Value.none := ru
    simp only [PyData.shown] at q
    exact PySem.P.repr_of_none ⟨.str _, H, I.tok _, ⟨_, rfl⟩, q⟩
  | bl b =>
    obtain rfl : u = Value.bool b := ru
    simp only [PyData.shown] at q
    exact PySem.P.repr_of_bool ⟨.str _, H, I.tok _, ⟨_, rfl⟩, q⟩
  | int i =>
    obtain ⟨t, rfl⟩ := (show ∃ t, u = Value.int i t from ru)
    simp only [PyData.shown] at q
    simp only [PyData.showable, decide_eq_true_eq] at sh
    exact PySem.P.repr_of_int sh ⟨.str _, H, I.tok _, ⟨_, rfl⟩, q⟩
  | str x =>
    obtain ⟨t, rfl⟩ := (show ∃ t, u = Value.str x t from ru)
    simp only [PyData.shown] at q sz
    exact PySem.P.repr_of_str ⟨.str _, H, I.tok _, ⟨_, rfl⟩, q⟩ sz
  | @lst a xs ds h1 h2 => exact at_ a ru
  | @tup a xs ds h1 h2 => exact at_ a ru
end EV
end L2
namespace L2
open PySem PySem.Spec PyProof.Rows
def rCatW (K : PySem.W.Frag) : R2 := fun x y H Q => ∃ a b xs ys, x = .ref a ∧ y = .ref b ∧ H a = some (.tup xs) ∧ H b = some (.tup ys) ∧ xs.length + ys.length ≤ sizeLine ∧ ∀ p H', Same H H' → H' p = some (.tup (xs ++ ys)) → Q (.ref p) H'
theorem op_catW {X : Cx} : OpR X (binaryOp .Add) (rCatW X.K) := by
  intro pins s σ H x y v u Q I rx ry h
  obtain ⟨a, b, xs, ys, rfl, rfl, ha, hb, hz, q⟩ := h
  refine op_catA pins s σ H _ _ v u Q I rx ry ⟨a, b, xs, ys, rfl, rfl, SqT.of ha, SqT.of hb, hz, fun z => ?_, fun _ z => ?_, fun _ _ p hp => q p _ (K07.same_upd hp) upd_same⟩
  · subst z
    exact q b H (fun _ _ e => e) (by rw [hb]; rfl)
  · subst z
    exact q a H (fun _ _ e => e) (by rw [ha, List.append_nil])
end L2
namespace K07
open PySem L2 L2.EV
structure Okd (d : PyData) (n dp : Nat) : Prop where
  sh : d.showable = true
  nd : d.hasDict = false
  sz : d.shown.length ≤ n
  dp : d.depth ≤ dp
  lay : d.canLay0 = true
theorem Okd.le {d : PyData} {n m dp dq : Nat} (h : Okd d n dp) (a : n ≤ m) (b : dp ≤ dq) : Okd d m dq := ⟨h.sh, h.nd, Nat.le_trans h.sz a, Nat.le_trans h.dp b, h.lay⟩
theorem okd_int {i : Int} (h0 : 0 ≤ i) (h1 : i < 64) : Okd (.int i) 10 0 := by
  obtain ⟨k, rfl⟩ := Int.eq_ofNat_of_zero_le h0
  have hk : k < 64 := by omega
  have z : ∀ k : Fin 64, (PyData.int ((k.val : Nat) : Int)).showable = true ∧ (PyData.int ((k.val : Nat) : Int)).shown.length ≤ 10 := by decide +kernel
  obtain ⟨z1, z2⟩ := z ⟨k, hk⟩
  exact ⟨z1, by simp only [PyData.hasDict], z2, by simp only [PyData.depth]; omega, by simp only [PyData.canLay0]⟩
theorem okd_str {x : Str} {m : Nat} (hs : PyData.strOk x = true) (hl : x.length ≤ m) : Okd (.str x) (10 * m + 2) 0 := by
  refine ⟨by simp only [PyData.showable], by simp only [PyData.hasDict], ?_, by simp only [PyData.depth]; omega, by simp only [PyData.canLay0]; exact hs⟩
  simp only [PyData.shown]
  have z := PySem.StrLaws.reprText_len x (fun c hc => by
    unfold PyData.strOk at hs
    rw [← Array.all_toList, List.all_eq_true] at hs
    have := of_decide_eq_true (hs c hc)
    exact Nat.lt_trans this (by decide))
  omega
theorem okd_all {n dp : Nat} : ∀ {ds : List PyData}, (∀ d ∈ ds, Okd d n dp) → PyData.showableAll ds = true ∧ PyData.hasDictAll ds = false ∧ ((PyData.shownAll ds).map (·.length)).sum ≤ n * ds.length ∧ (PyData.shownAll ds).length = ds.length ∧ PyData.depthAll ds ≤ dp ∧ PyData.canLayAll0 ds = true
  | [], _ => ⟨by simp [PyData.showableAll], by simp [PyData.hasDictAll], by simp [PyData.shownAll], by simp [PyData.shownAll], by simp [PyData.depthAll], by simp [PyData.canLayAll0]⟩
  | d :: ds, h => by
    have h1 := h d (List.mem_cons_self ..)
    obtain ⟨a, b, c, e, f, g⟩ := okd_all (ds := ds) fun d hd => h d (List.mem_cons_of_mem _ hd)
    have h2 := h1.sz
    have h3 := h1.dp
    refine ⟨by simp only [PyData.showableAll, h1.sh, a, Bool.and_self], by simp only [PyData.hasDictAll, h1.nd, b, Bool.or_self], ?_, by simp only [PyData.shownAll, List.length_cons, e], by simp only [PyData.depthAll]; omega, by simp only [PyData.canLayAll0, h1.lay, g, Bool.and_self]⟩
    simp only [PyData.shownAll, List.map_cons, List.sum_cons, List.length_cons, Nat.mul_add, Nat.mul_one]
    omega
theorem okd_list {n dp m : Nat} {ds : List PyData} (h : ∀ d ∈ ds, Okd d n dp) (hl : ds.length ≤ m) : Okd (.list ds) (m * (n + 2) + 3) (dp + 1) := by
  obtain ⟨a, b, c, e, f, g⟩ := okd_all h
  refine ⟨by simp only [PyData.showable, a], by simp only [PyData.hasDict, b], ?_, by simp only [PyData.depth]; omega, by simp only [PyData.canLay0, g]⟩
  simp only [PyData.shown]
  have z := listText_len_le (PyData.shownAll ds)
  rw [e] at z
  have y : n * ds.length ≤ n * m := Nat.mul_le_mul_left _ hl
  rw [Nat.mul_add, Nat.mul_comm m n]
  omega
theorem okd_tuple {n dp m : Nat} {ds : List PyData} (h : ∀ d ∈ ds, Okd d n dp) (hl : ds.length ≤ m) : Okd (.tuple ds) (m * (n + 2) + 3) (dp + 1) := by
  obtain ⟨a, b, c, e, f, g⟩ := okd_all h
  refine ⟨by simp only [PyData.showable, a], by simp only [PyData.hasDict, b], ?_, by simp only [PyData.depth]; omega, by simp only [PyData.canLay0, g]⟩
  simp only [PyData.shown]
  have z := tupleText_len_le (PyData.shownAll ds)
  rw [e] at z
  have y : n * ds.length ≤ n * m := Nat.mul_le_mul_left _ hl
  rw [Nat.mul_add, Nat.mul_comm m n]
  omega
theorem Okd.shaped {d : PyData} {n dp : Nat} (h : Okd d n dp) (hd : dp ≤ 64) : SeqAt.shaped d = true := by
  show (PyData.canLay0 d && decide (PyData.depth d ≤ 64)) = true
  rw [Bool.and_eq_true]
  exact ⟨h.lay, decide_eq_true (Nat.le_trans h.dp hd)⟩
def okdB (d : PyData) (n dp : Nat) : Bool := d.showable && !d.hasDict && decide (d.shown.length ≤ n) && decide (d.depth ≤ dp) && d.canLay0
theorem okd_by {d : PyData} {n dp : Nat} (h : okdB d n dp = true) : Okd d n dp := by
  unfold okdB at h
  simp only [Bool.and_eq_true, Bool.not_eq_true', decide_eq_true_eq] at h
  obtain ⟨⟨⟨⟨a, b⟩, c⟩, d⟩, e⟩ := h
  exact ⟨a, b, c, d, e⟩
theorem eqv_nilT (ds : List PyData) : PyData.eqv (.tuple ds) (.tuple []) = ds.isEmpty := by
  cases ds <;> simp [PyData.eqv, PyData.eqvAll]
theorem shaped_nilT : SeqAt.shaped (.tuple []) = true := by decide +kernel
/-- what was drawn and laid since H0, and data that stand -/
structure Bx (H0 H : Hp) (m c l0 l : Addr) (k : Int) (xs : List V) (es : List PyData) : Prop where
  d : Dr H0 H m c l0 l k
  acc : DaAll (rt H m l) xs es
theorem Bx.laid {H0 H : Hp} {m c l0 l p : Addr} {k : Int} {xs : List V} {es : List PyData} {o : HO} (b : Bx H0 H m c l0 l k xs es) (hp : H p = none) : Bx H0 (upd H p o) m c l0 l k xs es :=
  ⟨b.d.same (same_upd hp), DaAll.same (rt_same (same_upd hp)) _ _ b.acc⟩
theorem Bx.draw {H0 H H' : Hp} {m c l0 l l' : Addr} {k k' : Int} {xs : List V} {es : List PyData} (b : Bx H0 H m c l0 l k xs es) (d : Dr H H' m c l l' k') : Bx H0 H' m c l0 l' k' xs es :=
  ⟨b.d.trans d, DaAll.same (rt_dr d) _ _ b.acc⟩
theorem Bx.tup {H0 H : Hp} {m c l0 l p : Addr} {k : Int} {xs vs : List V} {es ds : List PyData} (b : Bx H0 H m c l0 l k xs es) (hp : H p = none) (all : DaAll (rt H m l) vs ds) : Bx H0 (upd H p (.tup vs)) m c l0 l k (xs ++ [.ref p]) (es ++ [.tuple ds]) :=
  ⟨b.d.same (same_upd hp), (DaAll.same (rt_same (same_upd hp)) _ _ b.acc).app (.cons (.tup (b.d.at_.rtn hp upd_same) (DaAll.same (rt_same (same_upd hp)) _ _ all)) .nil)⟩
theorem Bx.lst {H0 H : Hp} {m c l0 l p : Addr} {k : Int} {xs vs : List V} {es ds : List PyData} (b : Bx H0 H m c l0 l k xs es) (hp : H p = none) (all : DaAll (rt H m l) vs ds) : Bx H0 (upd H p (.lst vs)) m c l0 l k (xs ++ [.ref p]) (es ++ [.list ds]) :=
  ⟨b.d.same (same_upd hp), (DaAll.same (rt_same (same_upd hp)) _ _ b.acc).app (.cons (.lst (b.d.at_.rtn hp upd_same) (DaAll.same (rt_same (same_upd hp)) _ _ all)) .nil)⟩
/-- laid somewhere -/
theorem Bx.wher {H0 H H' : Hp} {m c l0 l p : Addr} {k : Int} {xs vs : List V} {es ds : List PyData} (b : Bx H0 H m c l0 l k xs es) (s : Same H H') (e : H' p = some (.tup vs)) (all : DaAll (rt H m l) vs ds) : Bx H0 H' m c l0 l k (xs ++ [.ref p]) (es ++ [.tuple ds]) :=
  ⟨b.d.same s, (DaAll.same (rt_same s) _ _ b.acc).app (.cons (.tup ((b.d.at_.same s).rtt e) (DaAll.same (rt_same s) _ _ all)) .nil)⟩
theorem Bx.same {H0 H H' : Hp} {m c l0 l : Addr} {k : Int} {xs : List V} {es : List PyData} (b : Bx H0 H m c l0 l k xs es) (s : Same H H') : Bx H0 H' m c l0 l k xs es := ⟨b.d.same s, DaAll.same (rt_same s) _ _ b.acc⟩
/-- the j-th -/
theorem Bx.at_ {H0 H : Hp} {m c l0 l : Addr} {k : Int} {xs : List V} {es : List PyData} (b : Bx H0 H m c l0 l k xs es) (j : Nat) {v : V} {d : PyData} (h1 : xs[j]? = some v) (h2 : es[j]? = some d) : Da (rt H m l) v d := by
  obtain ⟨d', e, h⟩ := b.acc.at_ h1
  rw [e] at h2
  cases h2
  exact h
/-- a thing that may stand in the place of a rule -/
def It (d : PyData) : Prop := Okd d 200 2 ∧ szS d
/-- a thing that may be a reader -/
def Rg (d : PyData) : Prop := Okd d 20000 4 ∧ SzR d
theorem okd_mono {d : PyData} {n dp : Nat} (h : Okd d n dp) (a : n ≤ 20000) (b : dp ≤ 4) : Okd d 20000 4 := h.le a b
theorem szS_no {d : PyData} (h : ∀ a x b, d ≠ .tuple [a, .str x, b]) : szS d := fun a x b e => absurd e (h a x b)
end K07

set_option Elab.async false
set_option linter.all false
set_option maxRecDepth 100000
set_option maxHeartbeats 4000000
/-! d.get(y, x) where y may be None; dict(pairs) with tuples as keys. -/
namespace L2
open PySem PySem.Spec PyProof.Rows
/-- what the dict holds at y, None among what may be asked -/
def DGetN (H : Hp) (a : Addr) (y : V) (r : Option V) : Prop := DGet H a y r ∨ ((∃ kvs, Rd H a (.dK kvs)) ∧ y = .non ∧ r = none)
section
variable {X : Cx} {pins : List (Addr × Obj)} {σ : St} {H : Hp} {s : Shared} {a : Addr} {y d : V} {u r : Value} {o : Option V} {A : Around} {E : Value → Shared → Prop}
theorem d_get2N {Q : Value → Shared → Prop} (hu : A.units + 1 < cLine) (I : Inv X pins σ H s) (g : DGetN H a y o) (ry : RelV y u) (rd : RelV d r) (h : ∀ w' s', Inv X pins σ H s' → RelV (o.getD d) w' → Q w' s') :
    wpAny (model X.prog X.w) A (call (.builtin "dict.get") [.ref a, u, r]) Q E s := by
  rcases g with g | ⟨⟨kvs, e⟩, ey, l⟩
  · exact d_get2 hu I g ry rd h
  · subst ey
    subst l
    obtain rfl : u = Value.none := ry
    obtain ⟨z, hd, vs, rel, dd⟩ := dk_rd I.hok e
    obtain ⟨f, mf, fn⟩ := none_map dd
    refine call_meetsIn PySem.F.slot_dict_get dd.typeIs PySem.F.entry_dict_get (PySem.F.args_dict_get_3 _ _ _) (meets_dict_get_default (noneKind X.prog X.w) a (k := none) rfl hd r) ⟨f, mf, h _ _ (I.tok _) ?_⟩
    rw [fn]
    exact rd
end
def tDGet2N (td ty tx : TE) : TE := fun σ H Q => td σ H fun x H1 => ∃ a, x = .ref a ∧ IsD H1 a ∧ ty σ H1 fun y H2 => tx σ H2 fun z H3 => ∃ o, DGetN H3 a y o ∧ Q (o.getD z) H3
section
variable {X : Cx} {o e f : Expr} {apos cpos : Pos} {td ty tx : TE}
theorem pe_dget2N (hu : X.A.units + 1 < cLine) (ho : PE X o td) (he : PE X e ty) (hf : PE X f tx) (m : M2 X o "get" apos e f cpos) : PE X (.Call (.Attribute o "get" apos) [e, f] [] cpos) (tDGet2N td ty tx) := by
  refine ⟨fun pins s σ H Q I h => ?_⟩
  refine wpAny_Call_method m.base m.few m.line PySem.F.plainAttrs_dict PySem.F.slot_dict_get PySem.F.type_dict_get (thn (ho.run pins s σ H _ I h) fun u s1 ⟨x, H1, I1, rx, a, ex, d, q1⟩ => ?_)
  subst ex
  obtain rfl : u = Value.ref a := rx
  obtain ⟨t1, t2, _⟩ := isD_at I1 d
  refine ⟨t1, t2, ?_⟩
  rw [m.trees]
  refine Calls.callWith_builtin rfl (Calls.evalArgs_plain (Calls.spliced_cons (thn (he.run pins s1 σ H1 _ I1 q1) fun iv s2 ⟨y, H2, I2, ry, q2⟩ =>
    Calls.spliced_cons (thn (hf.run pins s2 σ H2 _ I2 q2) fun fv s3 ⟨z, H3, I3, rz, ov, g, q3⟩ => Calls.spliced_nil ?_))))
  exact d_get2N hu I3 g ry rz fun w' s4 I4 rw' => ⟨_, H3, I4, rw', q3⟩
end
/-! ### dict(pairs) -/
/-- a pair at q: a key tuple at b, a value -/
structure PairE where
  q : Addr
  b : Addr
  k : List Key
  v : V
def OkE (H : Hp) (e : PairE) : Prop := H e.q = some (.tup [.ref e.b, e.v]) ∧ H e.b = some (.tup (e.k.map kV))
def mergeT (kvs : List (List Key × V)) : List (List Key × V) := kvs.foldl (fun acc kv => putK acc kv.1 kv.2) []
theorem length_foldT : ∀ (kvs acc : List (List Key × V)), (kvs.foldl (fun acc kv => putK acc kv.1 kv.2) acc).length ≤ acc.length + kvs.length
  | [], acc => Nat.le_refl _
  | kv :: kvs, acc => by
    have a := length_foldT kvs (putK acc kv.1 kv.2)
    have b := length_putK acc kv.1 kv.2
    rw [List.foldl_cons, List.length_cons]
    omega
section
variable {X : Cx} {pins : List (Addr × Obj)} {σ : St} {H : Hp} {s : Shared}
theorem tpairs (I : Inv X pins σ H s) : ∀ {es : List PairE}, (∀ e ∈ es, OkE H e) → ∃ ps : List (List Key × Addr × Value), ps.length = es.length ∧ ∀ (i : Nat) (e : PairE), es[i]? = some e → ∃ u, ps[i]? = some (e.k, e.b, u) ∧ RelV e.v u ∧ IsTup s.heap e.q #[.ref e.b, u]
  | [], _ => ⟨[], rfl, fun i e h => by simp at h⟩
  | e :: es, h => by
    obtain ⟨ps, hl, hp⟩ := tpairs I (es := es) fun x hx => h x (List.mem_cons_of_mem _ hx)
    obtain ⟨its, rv, ht, _⟩ := I.tuple (SqT.of (h e (List.mem_cons_self ..)).1)
    obtain ⟨u, y, ei, ru, ry⟩ := vals2 rv
    subst ei
    obtain rfl : u = Value.ref e.b := ru
    refine ⟨(e.k, e.b, y) :: ps, by rw [List.length_cons, List.length_cons, hl], fun i x hx => ?_⟩
    cases i with
    | zero =>
      cases hx
      exact ⟨y, rfl, ry, ht⟩
    | succ i => exact hp i x (by simpa using hx)
theorem KT.all {H : Hp} : ∀ {es : List PairE} {ps : List (List Key × Addr × Value)} {kvs : List (List Key × V)} {xs : List (List Key × Addr × Value)}, ps.length = es.length →
    (∀ (i : Nat) (e : PairE), es[i]? = some e → ∃ u, ps[i]? = some (e.k, e.b, u) ∧ RelV e.v u) → (∀ e ∈ es, H e.b = some (.tup (e.k.map kV))) → KT H kvs xs → KT H ((es.map fun e => (e.k, e.v)).foldl (fun acc kv => putK acc kv.1 kv.2) kvs) (PySem.storedAllH xs ps)
  | [], [], _, _, _, _, _, r => r
  | [], _ :: _, _, _, h, _, _, _ => by cases h
  | _ :: _, [], _, _, h, _, _, _ => by cases h
  | e :: es, p :: ps, kvs, xs, hl, hp, hb, r => by
    obtain ⟨u, h1, h2⟩ := hp 0 e rfl
    cases h1
    exact KT.all (es := es) (ps := ps) (by simpa using hl) (fun i x hx => hp (i + 1) x (by simpa using hx)) (fun x hx => hb x (List.mem_cons_of_mem _ hx)) (KT.put r e.k (hb e (List.mem_cons_self ..)) h2)
end
def rDictT (K : PySem.W.Frag) : List V → Hp → VK → Prop := fun xs H Q => ∃ (a : Addr) (es : List PairE), xs = [.ref a] ∧ SqL K H a (es.map fun e => V.ref e.q) ∧ (∀ e ∈ es, OkE H e) ∧
  ∀ p, H p = none → Q (.ref p) (upd H p (.dT (mergeT (es.map fun e => (e.k, e.v)))))
theorem call_dictT {X : Cx} (hcalm : X.calm = true) (hu : X.A.units + 64 < cLine) : CallR X (.type "dict") (rDictT X.K) := by
  intro pins s σ H xs us Q I r q
  obtain ⟨a, es, ex, hq, hp, q⟩ := q
  subst ex
  obtain ⟨u, eu, rx⟩ := vals1 r
  subst eu
  cases rx
  obtain ⟨its, rv, pl, hz⟩ := I.list hq
  have ei : its = es.map fun e => Value.ref e.q := by
    have z := refs_at (ps := es.map (·.q)) (us := its) (by rw [List.map_map]; exact rv)
    rw [z, List.map_map]
    rfl
  subst ei
  rw [List.length_map] at hz
  obtain ⟨ps, hl, hps⟩ := tpairs I hp
  obtain ⟨o, n, ho, hc, hd, hdat⟩ := pl
  have key : ∀ h', (∀ b ob, s.heap.get? b = some ob → h'.get? b = some ob) → ∀ x ∈ ps, (tupleKind (mixKind X.prog X.w)).is h' x.1 x.2.1 := fun h' k x hx => by
    obtain ⟨i, hi, e⟩ := List.getElem_of_mem hx
    have hie : i < es.length := by rw [← hl]; exact hi
    obtain ⟨u, h1, _, _⟩ := hps i es[i] (List.getElem?_eq_getElem hie)
    rw [List.getElem?_eq_getElem hi, e] at h1
    cases h1
    obtain ⟨o2, its2, n2, w1, w2, w3, w4⟩ := key_of I.hok (hp _ (List.getElem_mem hie)).2
    exact ⟨o2, its2, n2, k _ _ w1, w2, w3, w4⟩
  refine call_dict_pairsH (knd := tupleKind (mixKind X.prog X.w)) (ps := ps) (PySem.PairArg.list a (es.map fun e => Value.ref e.q).toArray (fun j => (es.map (·.q)).getD j 0) (ps.map fun x => (Value.ref x.2.1, x.2.2))) (I.ok.hd hcalm) (by show X.A.units + 2 < cLine; omega)
    ⟨⟨o, n, ho, hc, hd, hdat⟩, by simp [hl], fun j k v hj => ?_⟩ ⟨by simp, fun i key v hk => ?_⟩ (fun h' k x hx => ?_) (by simp only [List.length_map]; omega) fun h' tk hd' k => ?_
  · rw [List.getElem?_map] at hj
    cases e : ps[j]? with
    | none =>
      rw [e] at hj
      cases hj
    | some x =>
      rw [e] at hj
      cases hj
      have jl := (List.getElem?_eq_some_iff.mp e).1
      have je : j < es.length := by rw [← hl]; exact jl
      obtain ⟨u, h1, _, h3⟩ := hps j es[j] (List.getElem?_eq_getElem je)
      rw [e] at h1
      cases h1
      have eq : (es.map (·.q)).getD j 0 = es[j].q := by
        rw [List.getD_eq_getElem?_getD, List.getElem?_map, List.getElem?_eq_getElem je]
        rfl
      refine ⟨by show _ = some (Value.ref ((es.map (·.q)).getD j 0)); rw [eq]; simp [je], .inl ?_⟩
      show s.heap.IsTuple ((es.map (·.q)).getD j 0) _
      rw [eq]
      obtain ⟨ot, w1, w2, n3, w3⟩ := h3
      exact ⟨ot, w1, w2, n3, w3⟩
  · have hk : (ps.map fun x => (Value.ref x.2.1, x.2.2))[i]? = some (key, v) := hk
    rw [List.getElem?_map] at hk
    cases e : ps[i]? with
    | none =>
      rw [e] at hk
      cases hk
    | some x =>
      rw [e] at hk
      cases hk
      exact ⟨x.1, x.2.1, rfl, rfl⟩
  · refine key (h' := h') (fun b ob e => k b ob (Nat.ne_of_lt (Heap.lt_size e)) (by simp) e) x hx
  · have hm : (s.heap.objs.size == sysModules) = false := beq_eq_false_iff_ne.mpr (Nat.ne_of_gt I.big)
    have fresh : H s.heap.objs.size = none := I.hok.fresh (Nat.le_refl _)
    have hlen : (mergeT (es.map fun e => (e.k, e.v))).length ≤ sizeLine := by
      have := length_foldT (es.map fun e => (e.k, e.v)) []
      rw [List.length_nil, List.length_map, Nat.zero_add] at this
      exact Nat.le_trans this hz
    obtain ⟨q1, es1, ep, hq1, h2, h3, h4, _, h5⟩ := hd'
    have rel := KT.all (H := upd H s.heap.objs.size (.dT (mergeT (es.map fun e => (e.k, e.v))))) (es := es) (ps := ps) (kvs := []) (xs := []) hl (fun i e he => let ⟨u, a1, a2, _⟩ := hps i e he; ⟨u, a1, a2⟩) (fun e he => by rw [upd_ne (ne_of_none (hp e he).2 fresh)]; exact (hp e he).2) .nil
    exact ⟨.ref s.heap.objs.size, _, I.laid (t' := tk) (fun b ob e => k b ob (by simp) e) (Nat.le_refl _) (show ObjOk X.prog X.w _ _ _ (.dT (mergeT (es.map fun e => (e.k, e.v)))) from ⟨hlen, hm, _, rel, q1, es1, ep, hq1, h2, h3, h4, h5⟩), rfl, q _ fresh⟩
end L2

set_option Elab.async false
set_option linter.all false
set_option maxRecDepth 100000
set_option maxHeartbeats 4000000
/-! rows_of. -/
namespace K07
open PySem L2 L2.EV
abbrev sRows : Stmt := top 12
theorem gName_go2 {i : Nat} {v : V} {σ : L2.St} {H : Hp} {k : L2.St → Hp → Prop} (h : k (σ.set i (some v)) H) : gName i v σ H k := h
/-- where the last rule of a state and a sign leads -/
def nx (xs : List T3) (q : Int) (c : Str) : Option Int := xs.foldl (fun o x => if x.1 = q ∧ x.2.1 = c then some x.2.2 else o) none
theorem nx_snoc {xs : List T3} {x : T3} {q : Int} {c : Str} : nx (xs ++ [x]) q c = if x.1 = q ∧ x.2.1 = c then some x.2.2 else nx xs q c := by
  unfold nx
  rw [List.foldl_append]
  rfl
/-- a dict of dicts: for each state its signs -/
structure RB (H H' : Hp) (p : Addr) (n : Nat) (kvs : List (Key × V)) (xs : List T3) : Prop where
  hp : H' p = some (.dK kvs)
  np : H p = none
  few : kvs.length ≤ n
  row : ∀ q v, valV kvs (Sum.inl q) = some v → ∃ a rk, v = .ref a ∧ H' a = some (.dK rk) ∧ H a = none ∧ a ≠ p ∧ rk.length ≤ n ∧ ∀ c, valV rk (Sum.inr c) = (nx xs q c).map V.int
  no : ∀ q, valV kvs (Sum.inl q) = none → ∀ c, nx xs q c = none
  inj : ∀ q q' v, valV kvs (Sum.inl q) = some v → valV kvs (Sum.inl q') = some v → q = q'
  sm : Same H H'
theorem RB.keep {H H' H2 : Hp} {p : Addr} {n : Nat} {kvs : List (Key × V)} {xs : List T3} (R : RB H H' p n kvs xs) (s : Same H' H2) : RB H H2 p n kvs xs :=
  ⟨s _ _ R.hp, R.np, R.few, fun q v h => by
    obtain ⟨a, rk, e, h1, r⟩ := R.row q v h
    exact ⟨a, rk, e, s _ _ h1, r⟩, R.no, R.inj, R.sm.trans s⟩
theorem RB.le {H H' : Hp} {p : Addr} {n m : Nat} {kvs : List (Key × V)} {xs : List T3} (R : RB H H' p n kvs xs) (h : n ≤ m) : RB H H' p m kvs xs :=
  ⟨R.hp, R.np, Nat.le_trans R.few h, fun q v e => by
    obtain ⟨a, rk, e, w1, w2, w3, w4, w5⟩ := R.row q v e
    exact ⟨a, rk, e, w1, w2, w3, Nat.le_trans w4 h, w5⟩, R.no, R.inj, R.sm⟩
/-- a rule more -/
theorem RB.put {H H' : Hp} {p a : Addr} {n : Nat} {kvs rk : List (Key × V)} {xs : List T3} {x : T3} (R : RB H H' p n kvs xs) (hv : valV kvs (Sum.inl x.1) = some (.ref a)) (ha : H' a = some (.dK rk)) (hn : H a = none) (ne : a ≠ p)
    (rl : rk.length ≤ n) (hr : ∀ c, valV rk (Sum.inr c) = (nx xs x.1 c).map V.int) :
    RB H (upd H' a (.dK (putK rk (Sum.inr x.2.1) (.int x.2.2)))) p (n + 1) kvs (xs ++ [x]) := by
  refine ⟨by rw [upd_ne (Ne.symm ne)]; exact R.hp, R.np, Nat.le_succ_of_le R.few, fun q v h => ?_, fun q h c => ?_, R.inj, fun b o e => ?_⟩
  · by_cases c : q = x.1
    · subst c
      rw [hv] at h
      cases h
      refine ⟨a, _, rfl, upd_same, hn, ne, Nat.le_trans (length_putK ..) (by omega), fun c => ?_⟩
      rw [valV_put, nx_snoc]
      by_cases d : c = x.2.1
      · rw [if_pos (congrArg Sum.inr d), if_pos ⟨rfl, d.symm⟩]
        rfl
      · rw [if_neg (fun z => d (Sum.inr.inj z)), if_neg (fun z => d z.2.symm)]
        exact hr c
    · obtain ⟨b, rk2, e, h1, h2, h3, h4, h5⟩ := R.row q v h
      subst e
      have nb : b ≠ a := fun z => c (R.inj q x.1 (.ref b) h (by rw [hv, z]))
      refine ⟨b, rk2, rfl, by rw [upd_ne nb]; exact h1, h2, h3, Nat.le_succ_of_le h4, fun d => ?_⟩
      rw [nx_snoc, if_neg (fun z => c z.1.symm)]
      exact h5 d
  · rw [nx_snoc, if_neg (fun z => ?_)]
    · exact R.no q h c
    · rw [← z.1, hv] at h
      cases h
  · rw [upd_ne (ne_of_none e hn)]
    exact R.sm _ _ e
/-- a row more -/
theorem RB.grow {H H' : Hp} {p b : Addr} {n : Nat} {kvs : List (Key × V)} {xs : List T3} {q0 : Int} (R : RB H H' p n kvs xs) (hv : valV kvs (Sum.inl q0) = none) (hb : H' b = some (.dK [])) (hn : H b = none) (ne : b ≠ p) (fr : ∀ q v, valV kvs (Sum.inl q) = some v → v ≠ .ref b) :
    RB H (upd H' p (.dK (putK kvs (Sum.inl q0) (.ref b)))) p (n + 1) (putK kvs (Sum.inl q0) (.ref b)) xs := by
  refine ⟨upd_same, R.np, Nat.le_trans (length_putK ..) (Nat.succ_le_succ R.few), fun q v h => ?_, fun q h c => ?_, fun q q' v h h' => ?_, fun d o e => ?_⟩
  · rw [valV_put] at h
    by_cases c : (Sum.inl q : Key) = Sum.inl q0
    · rw [if_pos c] at h
      cases h
      cases c
      refine ⟨b, [], rfl, by rw [upd_ne ne]; exact hb, hn, ne, Nat.zero_le _, fun c => ?_⟩
      rw [R.no q0 hv c]
      rfl
    · rw [if_neg c] at h
      obtain ⟨a, rk, e, h1, h2, h3, h4, h5⟩ := R.row q v h
      exact ⟨a, rk, e, by rw [upd_ne h3]; exact h1, h2, h3, Nat.le_succ_of_le h4, h5⟩
  · rw [valV_put] at h
    by_cases d : (Sum.inl q : Key) = Sum.inl q0
    · rw [if_pos d] at h
      cases h
    · rw [if_neg d] at h
      exact R.no q h c
  · rw [valV_put] at h h'
    by_cases c : (Sum.inl q : Key) = Sum.inl q0
    · rw [if_pos c] at h
      cases h
      by_cases c' : (Sum.inl q' : Key) = Sum.inl q0
      · exact Sum.inl.inj (c.trans c'.symm)
      · rw [if_neg c'] at h'
        exact absurd rfl (fr q' _ h')
    · rw [if_neg c] at h
      by_cases c' : (Sum.inl q' : Key) = Sum.inl q0
      · rw [if_pos c'] at h'
        cases h'
        exact absurd rfl (fr q _ h)
      · rw [if_neg c'] at h'
        exact R.inj q q' v h h'
  · rw [upd_ne (ne_of_none e R.np)]
    exact R.sm _ _ e
/-- a reader of these rules at r -/
def RdA (H : Hp) (r : Addr) (xs : List T3) (gs : List Int) : Prop := ∃ (t1 t2 : Addr) (ts : List Addr), H r = some (.tup [.ref t1, .ref t2]) ∧ H t1 = some (.tup (ts.map V.ref)) ∧ At3 H ts xs ∧ H t2 = some (.tup (gs.map V.int))
theorem RdA.same {H H' : Hp} {r : Addr} {xs : List T3} {gs : List Int} (h : RdA H r xs gs) (s : Same H H') : RdA H' r xs gs := by
  obtain ⟨t1, t2, ts, h1, h2, h3, h4⟩ := h
  exact ⟨t1, t2, ts, s _ _ h1, s _ _ h2, h3.same (Same.keepT s), s _ _ h4⟩
theorem take_one' {α : Type} {es : List α} {i : Nat} {e : α} (h : es[i]? = some e) : es.take (i + 1) = es.take i ++ [e] := by
  rw [List.take_succ, h]
  rfl
def spRows : Sp := fun vs H Q _ => ∃ (r : Addr) (xs : List T3) (gs : List Int), vs = [.ref r] ∧ RdA H r xs gs ∧ xs.length ≤ 100 ∧ ∀ H' p kvs, RB H H' p 200 kvs xs → Q (.ref p) H'
section
variable {P : Program} {w : World} {K : PySem.W.Frag} {mg : Str → Option Value} {base : Heap}
theorem scRows : FnScope ["reader", "rows", "state", "sign", "goal", "row"] ["reader"] (defScope sRows) := ⟨rfl, rfl, rfl, by decide +kernel, rfl, by decide +kernel, by decide +kernel⟩
theorem ok_rows {f : Addr} {fd : FuncData} (F : Fun K "rows_of" "rows_of" sRows f fd) : FnOk P w K mg base CX0 1 f fd ["reader"] spRows := by
  refine F.ok scRows (fun vs H Q E h => ?_) (fun cdv A outer s H vs Q E hr h => ?_)
  · obtain ⟨r, xs, gs, rfl, _⟩ := h
    rfl
  · obtain ⟨r, xs, gs, rfl, ra, xl, q⟩ := h
    have hu : (A.deeper (PyProof.Rows.envOfC "rows_of" (defScope sRows) s.heap.objs.size f cdv)).units + 1 < cLine := by have := hr.un; omega
    refine ⟨_, pss_cons (ps_set (i := 1) scRows.nd rfl (Or.inl rfl) pe_dnewK)
      (pss_cons (ps_for PassesOwn.never rfl (pi_tup (pe_ix ix_tup (pv 0) pe_int (fun _ _ => rfl))) (pg_tup rfl (pgs_cons (pg_name (i := 2) scRows.nd rfl (Or.inl rfl)) (pgs_cons (pg_name (i := 3) scRows.nd rfl (Or.inl rfl)) (pgs_cons (pg_name (i := 4) scRows.nd rfl (Or.inl rfl)) pgs_nil))))
        (pss_cons (ps_set (i := 5) scRows.nd rfl (Or.inl rfl) (pe_dsetd (pv 1) (pv 2) pe_dnewK ⟨rfl, rfl, rfl, rfl⟩))
        (pss_one (ps_dput hu (pv 5) (pv 3) (pv 4) rfl))))
      (pss_one (ps_ret (pv 1)))), ?_⟩
    obtain ⟨t1, t2, ts, h1, h2, h3, h4⟩ := id ra
    intro p hp
    have u1 := same_upd (o := HO.dK []) hp
    have e1 := upd_same (H := H) (a := p) (o := HO.dK [])
    have R0 : RB H (upd H p (.dK [])) p 0 [] [] := ⟨e1, hp, Nat.le_refl _, (fun q v h => by cases h), (fun q h c => rfl), (fun q q' v h => by cases h), u1⟩
    refine gName_go2 ?_
    refine ⟨_, rfl, r, _, 0, .ref t1, rfl, rfl, SqT.of (u1 _ _ h1), rfl, t1, rfl, ⟨_, SqT.of (u1 _ _ h2)⟩, for_it (walk_tup (xs := ts.map V.ref)) (fun i σ H' => ∃ (v2 v3 v4 v5 : Option V) (kvs : List (Key × V)), σ = [some (.ref r), some (.ref p), v2, v3, v4, v5] ∧ RB H H' p (2 * i) kvs (xs.take i))
      ⟨none, none, none, none, [], rfl, R0⟩ (fun i σ H' _ ⟨_, _, _, _, _, _, z⟩ => SqT.of (z.sm _ _ h2)) ?_ ?_⟩
    · rintro i x σ H2z H2 hi ⟨v2, v3, v4, v5, kvs, rfl, R⟩ ⟨rfl, hx⟩
      obtain ⟨t, y, hy, rfl, e4⟩ := at_step (i := i) h3.1 h3.2 hx
      have e5 := R.sm _ _ e4
      refine ⟨t, _, rfl, SqT.of e5, rfl, _, _, rfl, _, _, rfl, _, _, rfl, rfl, ?_⟩
      have il : i < xs.length := (List.getElem?_eq_some_iff.mp hy).1
      have kf := R.few
      refine ⟨_, rfl, p, rfl, .inl ⟨kvs, .inl R.hp⟩, _, rfl, fun b hb => ?_⟩
      have ub := same_upd (o := HO.dK []) hb
      have eb := upd_same (H := H2) (a := b) (o := HO.dK [])
      have R1 := R.keep ub
      have nb : H b = none := same_none R.sm hb
      have nbp : b ≠ p := (ne_of_none R.hp hb).symm
      have frb : ∀ q v, valV kvs (Sum.inl q) = some v → v ≠ .ref b := fun q v h z => by
        obtain ⟨a, rk, e, w1, _⟩ := R.row q v h
        rw [z] at e
        cases e
        rw [hb] at w1
        cases w1
      generalize upd H2 b (.dK []) = H3 at ub eb R1 ⊢
      refine ⟨kvs, Sum.inl y.1, R1.hp, rfl, by rw [sizeLine_eq]; omega, fun v hv => gName_go2 ?_, fun hv => gName_go2 ?_⟩
      · obtain ⟨a, rk, rfl, w1, w2, w3, w4, w5⟩ := R1.row y.1 v hv
        have z := R1.put (x := y) hv w1 w2 w3 w4 w5
        rw [← take_one' hy] at z
        refine ⟨_, rfl, _, rfl, _, rfl, a, _, rfl, DPut.k (k := Sum.inr y.2.1) w1 (by rw [sizeLine_eq]; omega), ?_⟩
        exact ⟨_, _, _, _, kvs, rfl, z.le (by omega)⟩
      · have R2 := R1.grow hv eb nb nbp frb
        obtain ⟨a, rk, ea, w1, w2, w3, w4, w5⟩ := R2.row y.1 (.ref b) (by rw [valV_put, if_pos rfl])
        cases ea
        have z := R2.put (x := y) (by rw [valV_put, if_pos rfl]) w1 w2 w3 w4 w5
        rw [← take_one' hy] at z
        refine ⟨_, rfl, _, rfl, _, rfl, b, _, rfl, DPut.k (k := Sum.inr y.2.1) w1 (by rw [sizeLine_eq]; omega), ?_⟩
        exact ⟨_, _, _, _, _, rfl, z.le (by omega)⟩
    · rintro σ H2 ⟨v2, v3, v4, v5, kvs, rfl, R⟩
      rw [List.length_map, h3.1, List.take_length] at R
      exact ⟨_, rfl, q H2 p kvs (R.le (by omega))⟩
end
end K07

set_option Elab.async false
set_option linter.all false
set_option maxRecDepth 100000
set_option maxHeartbeats 4000000
/-! led; the law's table, _law_led. -/
namespace K07
open PySem L2 L2.EV
abbrev sLed : Stmt := top 13
abbrev sTable : Stmt := top 19
abbrev sLLed : Stmt := top 20
def ldF (xs : List T3) (o : Option Int) (ss : List Str) : Option Int := ss.foldl (fun o c => o.bind fun q => nx xs q c) o
theorem ldF_snoc {xs : List T3} {o : Option Int} {ss : List Str} {c : Str} : ldF xs o (ss ++ [c]) = (ldF xs o ss).bind fun q => nx xs q c := by
  unfold ldF
  rw [List.foldl_append]
  rfl
def oV : Option Int → V
  | none => .non
  | some i => .int i
def chs (x : Str) : List Str := (sl x).map fun c => ⟨#[c]⟩
def spLed : Sp := fun vs H Q _ => ∃ (p l : Addr) (q : Int) (H0 : Hp) (n : Nat) (kvs : List (Key × V)) (xs : List T3) (ss : List Str), vs = [.ref p, .int q, .ref l] ∧ RB H0 H p n kvs xs ∧ H l = some (.lst (ss.map V.str)) ∧
  ∀ H', Same H H' → Q (oV (ldF xs (some q) ss)) H'
def TbA (H : Hp) (p : Addr) (xs : List T3) : Prop := ∃ kvs, H p = some (.dT kvs) ∧ ∀ q c, valV kvs [Sum.inl q, Sum.inr c] = (nx xs q c).map V.int
theorem TbA.same {H H' : Hp} {p : Addr} {xs : List T3} (h : TbA H p xs) (s : Same H H') : TbA H' p xs := by
  obtain ⟨kvs, e, r⟩ := h
  exact ⟨kvs, s _ _ e, r⟩
def spTable : Sp := fun vs H Q _ => ∃ (r : Addr) (xs : List T3) (gs : List Int), vs = [.ref r] ∧ RdA H r xs gs ∧ xs.length ≤ 100 ∧ ∀ H' p, Same H H' → TbA H' p xs → Q (.ref p) H'
def spLLed : Sp := fun vs H Q _ => ∃ (p : Addr) (q : Int) (xs : List T3) (x : Str), vs = [.ref p, .int q, .str x] ∧ TbA H p xs ∧ ∀ H', Same H H' → Q (oV (ldF xs (some q) (chs x))) H'
def entT (x : T3) : List Key × V := ([Sum.inl x.1, Sum.inr x.2.1], V.int x.2.2)
theorem merge_snoc {l : List (List Key × V)} {kv : List Key × V} : mergeT (l ++ [kv]) = putK (mergeT l) kv.1 kv.2 := by
  unfold mergeT
  rw [List.foldl_append]
  rfl
theorem merge_nx {q : Int} {c : Str} (xs : List T3) : valV (mergeT (xs.map entT)) [Sum.inl q, Sum.inr c] = (nx xs q c).map V.int := by
  have go : ∀ n, n ≤ xs.length → valV (mergeT ((xs.take n).map entT)) [Sum.inl q, Sum.inr c] = (nx (xs.take n) q c).map V.int := by
    intro n
    induction n with
    | zero => intro _; rfl
    | succ n ih =>
      intro h
      have e := List.getElem?_eq_getElem (l := xs) (i := n) (by omega)
      rw [take_one' e, List.map_append, List.map_cons, List.map_nil, merge_snoc, valV_put, ih (by omega), nx_snoc]
      by_cases d : xs[n].1 = q ∧ xs[n].2.1 = c
      · rw [if_pos d, if_pos (show _ = (entT xs[n]).1 by unfold entT; rw [d.1, d.2])]
        rfl
      · rw [if_neg d, if_neg (fun z => d ?_)]
        have z : [Sum.inl q, Sum.inr c] = [Sum.inl xs[n].1, Sum.inr xs[n].2.1] := z
        simp only [List.cons.injEq, Sum.inl.injEq, Sum.inr.injEq, and_true] at z
        exact ⟨z.1.symm, z.2.symm⟩
  have z := go xs.length (Nat.le_refl _)
  rw [List.take_length] at z
  exact z
section
variable {P : Program} {w : World} {K : PySem.W.Frag} {mg : Str → Option Value} {base : Heap}
theorem scLed : FnScope ["rows", "state", "signs", "place", "sign"] ["rows", "state", "signs"] (defScope sLed) := ⟨rfl, rfl, rfl, by decide +kernel, rfl, by decide +kernel, by decide +kernel⟩
theorem ok_led {f : Addr} {fd : FuncData} (F : Fun K "led" "led" sLed f fd) : FnOk P w K mg base CX0 1 f fd ["rows", "state", "signs"] spLed := by
  refine F.ok scLed (fun vs H Q E h => ?_) (fun cdv A outer s H vs Q E hr h => ?_)
  · obtain ⟨p, l, q, H0, n, kvs, xs, ss, rfl, _⟩ := h
    rfl
  · obtain ⟨p, l, q0, H0, n, kvs, xs, ss, rfl, R, hl, q⟩ := h
    have hu : (A.deeper (PyProof.Rows.envOfC "led" (defScope sLed) s.heap.objs.size f cdv)).units + 1 < cLine := by have := hr.un; omega
    refine ⟨_, pss_cons (ps_set (i := 3) scLed.nd rfl (Or.inl rfl) (pv 1))
      (pss_cons (ps_for PassesOwn.never rfl (pi_list (pv 2)) (pg_name (i := 4) scLed.nd rfl (Or.inl rfl))
        (pss_one (ps_set (i := 3) scLed.nd rfl (Or.inl rfl) (pe_dget1 hu (pe_dget2N hu (pv 0) (pv 3) pe_dnewK ⟨rfl, rfl, rfl, rfl⟩) (pv 4) ⟨rfl, rfl, rfl, rfl⟩))))
      (pss_one (ps_ret (pv 3)))), ?_⟩
    refine ⟨_, rfl, ?_⟩
    refine ⟨_, rfl, l, rfl, ⟨_, SqL.of hl⟩, for_it (walk_list (xs := ss.map V.str)) (fun i σ H' => ∃ (v4 : Option V), σ = [some (.ref p), some (.int q0), some (.ref l), some (oV (ldF xs (some q0) (ss.take i))), v4] ∧ Same H H')
      ⟨none, rfl, Same.refl H⟩ (fun i σ H' _ ⟨_, _, z⟩ => SqL.of (z _ _ hl)) ?_ ?_⟩
    · rintro i x σ H2z H2 hi ⟨v4, rfl, s2⟩ ⟨rfl, hx⟩
      obtain ⟨c, hc, rfl⟩ : ∃ c, ss[i]? = some c ∧ x = .str c := by
        rw [List.getElem?_map] at hx
        cases e : ss[i]? with
        | none =>
          rw [e] at hx
          cases hx
        | some c =>
          rw [e] at hx
          exact ⟨c, rfl, (Option.some.inj hx).symm⟩
      have R2 := R.keep s2
      rw [take_one' hc, ldF_snoc]
      generalize ldF xs (some q0) (ss.take i) = o
      refine ⟨_, rfl, p, rfl, .inl ⟨kvs, .inl R2.hp⟩, _, rfl, fun b hb => ?_⟩
      have ub := same_upd (o := HO.dK []) hb
      have eb := upd_same (H := H2) (a := b) (o := HO.dK [])
      have R3 := R2.keep ub
      have s3 := s2.trans ub
      generalize upd H2 b (.dK []) = H3 at eb R3 s3 ⊢
      have fin : ∀ v, v = oV (o.bind fun q => nx xs q c) → ∃ (v4 : Option V), [some (V.ref p), some (.int q0), some (.ref l), some v, some (.str c)] = [some (.ref p), some (.int q0), some (.ref l), some (oV (o.bind fun q => nx xs q c)), v4] ∧ Same H H3 := fun v e => ⟨some (.str c), by rw [e], s3⟩
      cases o with
      | none =>
        refine ⟨none, .inr ⟨⟨kvs, .inl R3.hp⟩, rfl, rfl⟩, b, rfl, .inl ⟨[], .inl eb⟩, _, rfl, _, DGet.k (k := Sum.inr c) eb, ?_⟩
        exact fin _ rfl
      | some q =>
        refine ⟨_, .inl (DGet.k (k := Sum.inl q) R3.hp), ?_⟩
        cases e : valV kvs (Sum.inl q) with
        | none =>
          refine ⟨b, rfl, .inl ⟨[], .inl eb⟩, _, rfl, _, DGet.k (k := Sum.inr c) eb, ?_⟩
          refine fin _ ?_
          show V.non = oV (nx xs q c)
          rw [R3.no q e c]
          rfl
        | some v =>
          obtain ⟨a, rk, rfl, w1, _, _, _, w5⟩ := R3.row q v e
          refine ⟨a, rfl, .inl ⟨rk, .inl w1⟩, _, rfl, _, DGet.k (k := Sum.inr c) w1, ?_⟩
          refine fin _ ?_
          rw [w5]
          show _ = oV (nx xs q c)
          cases nx xs q c <;> rfl
    · rintro σ H2 ⟨v4, rfl, s2⟩
      rw [show ss.take (ss.map V.str).length = ss by rw [List.length_map, List.take_length]]
      exact ⟨_, rfl, q _ s2⟩
theorem scTable : FnScope ["reader", "state", "sign", "to"] ["reader"] (defScope sTable) := ⟨rfl, rfl, rfl, by decide +kernel, rfl, by decide +kernel, by decide +kernel⟩
theorem ok_table {f : Addr} {fd : FuncData} (F : Fun K "_law_table" "_law_table" sTable f fd) (hd : mg "dict" = none) : FnOk P w K mg base CX0 1 f fd ["reader"] spTable := by
  refine F.ok scTable (fun vs H Q E h => ?_) (fun cdv A outer s H vs Q E hr h => ?_)
  · obtain ⟨r, xs, gs, rfl, _⟩ := h
    rfl
  · obtain ⟨r, xs, gs, rfl, ra, xl, q⟩ := h
    have hu64 : (A.deeper (PyProof.Rows.envOfC "_law_table" (defScope sTable) s.heap.objs.size f cdv)).units + 64 < cLine := by have := hr.un; omega
    refine ⟨_, pss_one (ps_ret (pe_callTy (call_dictT rfl hu64) (by rfl) hd (by decide +kernel) (pa_cons
      (pe_lc (own := [("state", 1), ("sign", 2), ("to", 3)]) (g := gTup K 3 (gCons (gName 1) (gCons (gName 2) (gCons (gName 3) gNil)))) (te := tTup (tCons (tTup (tCons (tVar 1) (tCons (tVar 2) tNil))) (tCons (tVar 3) tNil))) rfl scTable.nd (pi_tup (pe_ix ix_tup (pv 0) pe_int (fun _ _ => rfl)))
        (blkOk_by (N := ["reader", "state", "sign", "to"]) (sc := defScope sTable) (by decide +kernel))
        (fun _ _ _ _ _ => pg_tup rfl (pgs_cons (pg_name (i := 1) scTable.nd rfl (Or.inl rfl)) (pgs_cons (pg_name (i := 2) scTable.nd rfl (Or.inl rfl)) (pgs_cons (pg_name (i := 3) scTable.nd rfl (Or.inl rfl)) pgs_nil))))
        (fun _ _ _ _ _ => pts_nil)
        (fun _ _ _ _ _ => pe_tup (pa_cons (pe_tup (pa_cons (pv 1) (pa_cons (pv 2) pa_nil))) (pa_cons (pv 3) pa_nil)))) pa_nil))), ?_⟩
    obtain ⟨t1, t2, ts, h1, h2, h3, h4⟩ := id ra
    refine ⟨_, rfl, r, _, 0, .ref t1, rfl, rfl, SqT.of h1, rfl, t1, rfl, ⟨_, SqT.of h2⟩, fun D hD => ?_⟩
    refine lc_it (walk_tup (xs := ts.map V.ref)) (fun i H' => ∃ es : List PairE, H' D = some (.lst (es.map fun e => V.ref e.q)) ∧ es.map (fun e => (e.k, e.v)) = (xs.take i).map entT ∧ (∀ e ∈ es, OkE H' e) ∧ Same H H')
      ⟨[], upd_same, rfl, (fun e h => by cases h), same_upd hD⟩ (fun i H' _ ⟨_, _, _, _, z⟩ => SqT.of (z _ _ h2)) ?_ ?_
    · rintro i x H2z H2 hi ⟨es, hD2, ee, ok, s2⟩ ⟨rfl, hx⟩
      obtain ⟨t, y, hy, rfl, e4⟩ := at_step (i := i) h3.1 h3.2 hx
      have e5 := s2 _ _ e4
      have el : es.length ≤ 100 := by
        have z := congrArg List.length ee
        rw [List.length_map, List.length_map, List.length_take] at z
        omega
      refine ⟨t, _, rfl, SqT.of e5, rfl, _, _, rfl, _, _, rfl, _, _, rfl, rfl, rfl, ?_⟩
      refine ⟨_, rfl, _, rfl, (by show 2 ≤ sizeLine; decide), fun b hb => ⟨_, rfl, (by show 2 ≤ sizeLine; decide), fun qq hq => ?_⟩⟩
      have ub := same_upd (o := HO.tup [V.int y.1, V.str y.2.1]) hb
      have uq := same_upd (o := HO.tup [V.ref b, V.int y.2.2]) hq
      have hD3 := uq _ _ (ub _ _ hD2)
      have eb := uq _ _ (upd_same (H := H2) (a := b) (o := HO.tup [V.int y.1, V.str y.2.1]))
      have eq := upd_same (H := upd H2 b (.tup [V.int y.1, V.str y.2.1])) (a := qq) (o := HO.tup [V.ref b, V.int y.2.2])
      have s3 := ub.trans uq
      clear ub uq hq
      generalize upd (upd H2 b (.tup [V.int y.1, V.str y.2.1])) qq (.tup [V.ref b, V.int y.2.2]) = H3 at hD3 eb eq s3 ⊢
      have k8 := keepT_upd (o := .lst ((es.map fun e => V.ref e.q) ++ [V.ref qq])) hD3 (fun xs z => by cases z)
      refine ⟨_, hD3, by rw [List.length_map, sizeLine_eq]; omega, es ++ [⟨qq, b, [Sum.inl y.1, Sum.inr y.2.1], .int y.2.2⟩], by rw [List.map_append]; exact upd_same, ?_, fun e he => ?_, same_set hD (s2.trans s3)⟩
      · rw [take_one' hy, List.map_append, List.map_append, ee]
        rfl
      · rcases List.mem_append.mp he with he | he
        · obtain ⟨w1, w2⟩ := ok e he
          exact ⟨k8 _ _ (s3 _ _ w1), k8 _ _ (s3 _ _ w2)⟩
        · cases List.mem_singleton.mp he
          exact ⟨k8 _ _ eq, k8 _ _ eb⟩
    · rintro H2 ⟨es, hD2, ee, ok, s2⟩
      rw [List.length_map, h3.1, List.take_length] at ee
      refine ⟨D, es, rfl, SqL.of hD2, ok, fun p hp => ?_⟩
      rw [ee]
      exact q _ p (s2.trans (same_upd hp)) ⟨_, upd_same, fun q c => merge_nx xs⟩
theorem scLLed : FnScope ["table", "state", "signs", "sign"] ["table", "state", "signs"] (defScope sLLed) := ⟨rfl, rfl, rfl, by decide +kernel, rfl, by decide +kernel, by decide +kernel⟩
theorem ok_lled {f : Addr} {fd : FuncData} (F : Fun K "_law_led" "_law_led" sLLed f fd) : FnOk P w K mg base CX0 1 f fd ["table", "state", "signs"] spLLed := by
  refine F.ok scLLed (fun vs H Q E h => ?_) (fun cdv A outer s H vs Q E hr h => ?_)
  · obtain ⟨p, q, xs, x, rfl, _⟩ := h
    rfl
  · obtain ⟨p, q0, xs, x, rfl, tb, q⟩ := h
    have hu : (A.deeper (PyProof.Rows.envOfC "_law_led" (defScope sLLed) s.heap.objs.size f cdv)).units + 1 < cLine := by have := hr.un; omega
    refine ⟨_, pss_cons (ps_for PassesOwn.never rfl (pi_str (pv 2)) (pg_name (i := 3) scLLed.nd rfl (Or.inl rfl))
        (pss_one (ps_if (pt_cmp (pc_notN (pv 1))) (pss_one (ps_set (i := 1) scLLed.nd rfl (Or.inl rfl) (pe_dget1 hu (pv 0) (pe_tup (pa_cons (pv 1) (pa_cons (pv 3) pa_nil))) ⟨rfl, rfl, rfl, rfl⟩))) pss_nil)))
      (pss_one (ps_ret (pv 1))), ?_⟩
    refine ⟨_, rfl, _, rfl, for_it walk_str (fun i σ H' => ∃ (v3 : Option V), σ = [some (.ref p), some (oV (ldF xs (some q0) ((chs x).take i))), some (.str x), v3] ∧ Same H H')
      ⟨none, rfl, Same.refl H⟩ (fun _ _ _ _ _ => trivial) ?_ ?_⟩
    · rintro i y σ H2 H3 hi ⟨v3, rfl, s2⟩ ⟨rfl, ch, hc, rfl⟩
      have hch : (chs x)[i]? = some ⟨#[ch]⟩ := by
        unfold chs
        rw [List.getElem?_map, show (sl x)[i]? = some ch from (Array.getElem?_toList ..).trans hc]
        rfl
      rw [take_one' hch, ldF_snoc]
      generalize ldF xs (some q0) ((chs x).take i) = o
      refine ⟨_, rfl, _, rfl, ?_⟩
      cases o with
      | none =>
        refine iteF' (by simp [oV]) ?_
        exact ⟨_, rfl, s2⟩
      | some q1 =>
        refine iteT' (by simp [oV]) ?_
        obtain ⟨kvs, e, r⟩ := tb.same s2
        refine ⟨_, rfl, p, rfl, .inr ⟨kvs, .inl e⟩, _, rfl, _, rfl, (by show 2 ≤ sizeLine; decide), fun b hb => ?_⟩
        have ub := same_upd (o := HO.tup [V.int q1, V.str ⟨#[ch]⟩]) hb
        refine ⟨_, DGet.t (k := [Sum.inl q1, Sum.inr ⟨#[ch]⟩]) (ub _ _ e) upd_same, ?_⟩
        rw [r]
        refine ⟨some (.str ⟨#[ch]⟩), ?_, s2.trans ub⟩
        show _ = [_, some (oV (nx xs q1 ⟨#[ch]⟩)), _, _]
        cases nx xs q1 ⟨#[ch]⟩ <;> rfl
    · rintro σ H2 ⟨v3, rfl, s2⟩
      have ln : x.cps.size = (chs x).length := by
        unfold chs
        rw [List.length_map]
        exact len_sl x
      rw [ln, List.take_length]
      exact ⟨_, rfl, q _ s2⟩
end
end K07

set_option Elab.async false
set_option linter.all false
set_option maxRecDepth 100000
set_option maxHeartbeats 4000000
/-! The nine classes: their __init__, message. -/
namespace K07
open PySem L2 L2.EV
/-! ### the arguments -/
mutual
theorem dp_same {K : PySem.W.Frag} {H H' : Hp} (s : Same H H') : ∀ (d : PyData) (v : V), Dp K H v d → Dp K H' v d
  | .none, _, h => by cases h; exact .non
  | .bool b, _, h => by cases h; exact .bl b
  | .int i, _, h => by cases h; exact .int i
  | .str x, _, h => by cases h; exact .str x
  | .list ds, _, h => by
    cases h with
    | lst hs ha => exact .lst (s.seq hs) (dpall_same s ds _ ha)
  | .tuple ds, _, h => by
    cases h with
    | tup hs ha =>
      refine .tup ?_ (dpall_same s ds _ ha)
      rcases hs with (q | ⟨o, q⟩) | q
      · exact .inl (.inl (s _ _ q))
      · exact .inl (.inr ⟨o, s _ _ q⟩)
      · exact .inr q
  | .dict _, _, h => by cases h
theorem dpall_same {K : PySem.W.Frag} {H H' : Hp} (s : Same H H') : ∀ (ds : List PyData) (vs : List V), DpAll K H vs ds → DpAll K H' vs ds
  | [], _, h => by cases h; exact .nil
  | d :: ds, _, h => by
    cases h with
    | cons h1 h2 => exact .cons (dp_same s d _ h1) (dpall_same s ds _ h2)
end
/-- what may be handed to an error, and the data that it is -/
inductive Arg (K : PySem.W.Frag) (H : Hp) : V → PyData → Prop
  | non : Arg K H .non .none
  | bl (b : Bool) : Arg K H (.bl b) (.bool b)
  | int (i : Int) : Arg K H (.int i) (.int i)
  | str (x : Str) : Arg K H (.str x) (.str x)
  | lst {a : Addr} {xs : List V} {ds : List PyData} : H a = some (.lst xs) → DpAll K H xs ds → PyData.hasDict (.list ds) = false → Arg K H (.ref a) (.list ds)
  | tup {a : Addr} {xs : List V} {ds : List PyData} : H a = some (.tup xs) → DpAll K H xs ds → PyData.hasDict (.tuple ds) = false → Arg K H (.ref a) (.tuple ds)
  | dct {a : Addr} : H a = some (.dK [(Sum.inr "a", V.int 1)]) → Arg K H (.ref a) (.dict [(.str "a", .int 1)])
theorem Arg.same {K : PySem.W.Frag} {H H' : Hp} {v : V} {d : PyData} (h : Arg K H v d) (s : Same H H') : Arg K H' v d := by
  cases h with
  | non => exact .non
  | bl b => exact .bl b
  | int i => exact .int i
  | str x => exact .str x
  | lst e ha no => exact .lst (s _ _ e) (dpall_same s _ _ ha) no
  | tup e ha no => exact .tup (s _ _ e) (dpall_same s _ _ ha) no
  | dct e => exact .dct (s _ _ e)
theorem Arg.ty {K : PySem.W.Frag} {H : Hp} {v : V} {d : PyData} (h : Arg K H v d) : ∃ (t : Value) (b : Bool), TyX K H v t ∧ PySem.W.kitOne K t (.type "str") = some b := by
  cases h with
  | non => exact ⟨_, _, .base .non, kit_ty (r := false) (by decide +kernel)⟩
  | bl b => exact ⟨_, _, .base (.bl b), kit_ty (r := false) (by decide +kernel)⟩
  | int i => exact ⟨_, _, .base (.int i), kit_ty (r := false) (by decide +kernel)⟩
  | str x => exact ⟨_, _, .base (.str x), kit_ty (r := true) (by decide +kernel)⟩
  | lst e _ _ => exact ⟨_, _, .base (.lst e), kit_ty (r := false) (by decide +kernel)⟩
  | tup e _ _ => exact ⟨_, _, .base (.tup e), kit_ty (r := false) (by decide +kernel)⟩
  | dct e => exact ⟨_, _, .base (.dK e), kit_ty (r := false) (by decide +kernel)⟩
theorem Arg.sh {K : PySem.W.Frag} {H : Hp} {v : V} {d : PyData} (h : Arg K H v d) : Sh K H v d := by
  cases h with
  | non => exact .plain .non rfl
  | bl b => exact .plain (.bl b) rfl
  | int i => exact .plain (.int i) rfl
  | str x => exact .plain (.str x) rfl
  | lst e ha no => exact .plain (.lst (SqL.of e) ha) no
  | tup e ha no => exact .plain (.tup (SqT.of e) ha) no
  | dct e => exact .one e
/-! ### promises -/
def spNo (K : PySem.W.Frag) (C : Addr) : Sp := fun vs H Q _ => ∃ (a : Addr) (x : V) (d : PyData), vs = [.ref a, x] ∧ H a = some (exo a C none) ∧ Arg K H x d ∧ Q .non H
def spMsg (K : PySem.W.Frag) : Sp := fun vs H Q _ => ∃ (x : V) (d : PyData), vs = [x] ∧ Arg K H x d ∧ ∀ v, Q v H
abbrev sMsg : Stmt := top 1
structure TxtM (mg : Str → Option Value) : Prop where
  isi : mg "isinstance" = none
  str : mg "str" = none
section
variable {P : Program} {w : World} {K : PySem.W.Frag} {mg : Str → Option Value} {base : Heap}
theorem scM : FnScope ["text"] ["text"] (defScope sMsg) := ⟨rfl, rfl, rfl, by decide +kernel, rfl, by decide +kernel, by decide +kernel⟩
theorem ok_msg {f : Addr} {fd : FuncData} (F : Fun K "message" "message" sMsg f fd) (T : TxtM mg) : FnOk P w K mg base CX0 1 f fd ["text"] (spMsg K) := by
  refine F.ok scM (fun vs H Q E h => ?_) (fun cdv A outer s H vs Q E hr h => ?_)
  · obtain ⟨x, d, rfl, _⟩ := h
    rfl
  · obtain ⟨x, d, rfl, ar, q⟩ := h
    refine ⟨_, pss_cons (ps_if (pt_val (pe_callB call_isi (by rfl) T.isi PyProof.Rows.boot_isinstance (pa_cons (pv 0) (pa_cons (pe_bltn (v := .ty "str") (by rfl) T.str (by decide +kernel) rfl) pa_nil)))) (pss_one (ps_ret (pv 0))) pss_nil) (pss_one (ps_ret pe_str)), ?_⟩
    obtain ⟨t, b, ty, kt⟩ := ar.ty
    refine ⟨_, rfl, x, .ty "str", t, .type "str", b, rfl, .ty "str", ty, kt, b, rfl, ?_⟩
    cases b with
    | true => exact iteT ⟨_, rfl, q _⟩
    | false => exact iteF (q _)
abbrev sOutOfPlace : Stmt := inClass (top 3) 0
theorem scOutOfPlace : FnScope ["self", "text"] ["self", "text"] (defScope sOutOfPlace) := ⟨rfl, rfl, rfl, by decide +kernel, rfl, by decide +kernel, by decide +kernel⟩
theorem ok_OutOfPlace {f C fM : Addr} {fd fdM : FuncData} (F : Fun K "__init__" "OutOfPlace.__init__" sOutOfPlace f fd) (T : OxC K C "ValueError" "ValueError.__new__" "ValueError.__init__" [.type "ValueError", .type "Exception", .type "BaseException", .type "object"]) (I : BI K mg "ValueError" "ValueError" "ValueError.__init__")
    (FM : Fun K "message" "message" sMsg fM fdM) (bM : Binds K fdM ["text"] []) (mM : mg "message" = some (.ref fM)) (TM : TxtM mg) : FnOk P w K mg base CX0 2 f fd ["self", "text"] (spNo K C) := by
  have GM : FnOk P w K mg base CX0 1 fM fdM ["text"] (spMsg K) := ok_msg FM TM
  refine F.ok scOutOfPlace (fun vs H Q E h => ?_) (fun cdv A outer s H vs Q E hr h => ?_)
  · obtain ⟨a, x, d, rfl, _⟩ := h
    rfl
  · obtain ⟨a, x, d, rfl, e, ar, q⟩ := h
    refine ⟨_, pss_one (ps_expr (pe_bin (newId := "ValueError.__new__") (bm := [.type "ValueError", .type "Exception", .type "BaseException", .type "object"]) (by rfl) I.mg I.bt I.ty I.vV I.st (pa_cons (pv 0) (pa_cons (pe_call GM hr rfl mM FM.kp bM .nil pass0 (pa_cons (pv 1) pa_nil)) pa_nil)) rfl)), ?_⟩
    exact ⟨_, rfl, _, rfl, x, d, rfl, ar, fun v => ⟨a, C, _, rfl, by show 1 ≤ 1000; decide, T, e, q⟩⟩
end
/-- what is known of OutOfPlace -/
structure Oop (K : PySem.W.Frag) (mg : Str → Option Value) where
  C : Addr
  f : Addr
  d : FuncData
  fM : Addr
  dM : FuncData
  T : OxC K C "ValueError" "ValueError.__new__" "ValueError.__init__" bmVE
  I : BI K mg "ValueError" "ValueError" "ValueError.__init__"
  F : Fun K "__init__" "OutOfPlace.__init__" sOutOfPlace f d
  b : Binds K d ["self", "text"] []
  FM : Fun K "message" "message" sMsg fM dM
  bM : Binds K dM ["text"] []
  mM : mg "message" = some (.ref fM)
  TM : TxtM mg
  m : mg "OutOfPlace" = some (.ref C)
  iC : PySem.W.findIn K (.ref C) "__init__" = some (some (.ref f))
  tI : PySem.W.typeIn K (.ref f) = some (.type "function")
  su : PySem.W.subIn K (.ref C) (.type "BaseException") = some true
  ty : PySem.W.typeIn K (.ref C) = some (.type "type")
  own : PySem.W.subIn K (.ref C) (.ref C) = some true
end K07

set_option Elab.async false
set_option linter.all false
set_option maxRecDepth 100000
set_option maxHeartbeats 4000000
/-! need_line_text. -/
namespace K07
open PySem L2 L2.EV
abbrev sNLT : Stmt := top 14
def Eo (C : Addr) (E : XK) (H : Hp) : Prop := ∀ H', Same H H' → E (.ref C) none H'
theorem Eo.same {C : Addr} {E : XK} {H H' : Hp} (h : Eo C E H) (s : Same H H') : Eo C E H' := fun H2 s2 => h H2 (s.trans s2)
def mks : List Nat := sl ("ABCDEFGH" : Str)
theorem mks_is : mks = [65, 66, 67, 68, 69, 70, 71, 72] := by decide +kernel
def ltB (p : Str) : Bool := Txt.endswith p ";" && ((sl p).dropLast.all fun c => decide (c ∈ sgs) || decide (c ∈ mks))
theorem cut_last {p : Str} : sl (cutS p none (some (-1))) = (sl p).dropLast := by
  show ((p.cps.toList.drop (HT.sIx p.length 0 none)).take (HT.sIx p.length p.length (some (-1)) - HT.sIx p.length 0 none)).toArray.toList = _
  rw [HT.sIx_none, List.drop_zero, Nat.sub_zero, List.toList_toArray, List.dropLast_eq_take]
  congr 1
  have e : p.length = (sl p).length := len_sl p
  show (if (-1 : Int) < 0 then ((-1 : Int) + (p.length : Int)).toNat else min (-1 : Int).toNat p.length) = _
  have z : (if (-1 : Int) < 0 then ((-1 : Int) + (p.length : Int)).toNat else min (-1 : Int).toNat p.length) = ((-1 : Int) + (p.length : Int)).toNat := if_pos (by decide)
  rw [z]
  omega
/-- no text -/
def NoStr (H : Hp) (v : V) : Prop := v = .non ∨ (∃ i, v = .int i) ∨ ∃ a o, v = .ref a ∧ H a = some o ∧ ((∃ xs, o = .tup xs) ∨ (∃ xs, o = .lst xs) ∨ ∃ kvs, o = .dK kvs)
theorem NoStr.ty {K : PySem.W.Frag} {H : Hp} {v : V} (h : NoStr H v) : ∃ t : Value, TyX K H v t ∧ PySem.W.kitOne K t (.type "str") = some false := by
  rcases h with rfl | ⟨i, rfl⟩ | ⟨a, o, rfl, e, ⟨xs, rfl⟩ | ⟨xs, rfl⟩ | ⟨kvs, rfl⟩⟩
  · exact ⟨_, .base .non, kit_ty (r := false) (by decide +kernel)⟩
  · exact ⟨_, .base (.int i), kit_ty (r := false) (by decide +kernel)⟩
  · exact ⟨_, .base (.tup e), kit_ty (r := false) (by decide +kernel)⟩
  · exact ⟨_, .base (.lst e), kit_ty (r := false) (by decide +kernel)⟩
  · exact ⟨_, .base (.dK e), kit_ty (r := false) (by decide +kernel)⟩
theorem NoStr.same {H H' : Hp} {v : V} (h : NoStr H v) (s : Same H H') : NoStr H' v := by
  rcases h with h | h | ⟨a, o, e, h, r⟩
  · exact .inl h
  · exact .inr (.inl h)
  · exact .inr (.inr ⟨a, o, e, s _ _ h, r⟩)
/-- what is handed in as a text -/
def TxI (H : Hp) (v : V) : Option Str → Prop
  | some p => v = .str p ∧ p.length ≤ 1000
  | none => NoStr H v
theorem TxI.same {H H' : Hp} {v : V} {o : Option Str} (h : TxI H v o) (s : Same H H') : TxI H' v o := by
  cases o with
  | none => exact NoStr.same h s
  | some p => exact h
def okO : Option Str → Bool
  | some p => ltB p
  | none => false
def spNLT (C : Addr) : Sp := fun vs H Q E => ∃ (v : V) (o : Option Str), vs = [v] ∧ TxI H v o ∧ (okO o = true → ∀ H', Same H H' → Q v H') ∧ (okO o = false → Eo C E H)
structure Tk (K : PySem.W.Frag) (mg : Str → Option Value) where
  R : Rs K mg
  O : Oop K mg
  marks : ∃ t, mg "MARKS" = some (.str "ABCDEFGH" t)
  f1 : Addr
  d1 : FuncData
  F1 : Fun K "need_line_text" "need_line_text" sNLT f1 d1
  b1 : Binds K d1 ["thing"] []
  m1 : mg "need_line_text" = some (.ref f1)
section
variable {P : Program} {w : World} {K : PySem.W.Frag} {mg : Str → Option Value} {base : Heap}
theorem scNLT : FnScope ["thing", "sign"] ["thing"] (defScope sNLT) := ⟨rfl, rfl, rfl, by decide +kernel, rfl, by decide +kernel, by decide +kernel⟩
theorem ok_nlt (Z : Tk K mg) : FnOk P w K mg base (L2.CX P w) 4 Z.f1 Z.d1 ["thing"] (spNLT Z.O.C) := by
  have T := Z.R.Z.T
  have GO : FnOk P w K mg base CX0 2 Z.O.f Z.O.d ["self", "text"] (spNo K Z.O.C) := ok_OutOfPlace Z.O.F Z.O.T Z.O.I Z.O.FM Z.O.bM Z.O.mM Z.O.TM
  refine Z.F1.okX scNLT (fun vs H Q E h => ?_) (fun cdv A outer s H vs Q E hr h => ?_)
  · obtain ⟨v, o, rfl, _⟩ := h
    rfl
  · obtain ⟨v, o, rfl, tx, qy, qn⟩ := h
    obtain ⟨ts, eS⟩ := T.signs
    obtain ⟨tm, eM⟩ := Z.marks
    refine ⟨_, pss_cons (ps_if (pw_or (pt_not (pt_val (pe_callB call_isi (by rfl) T.isi PyProof.Rows.boot_isinstance (pa_cons (pv 0) (pa_cons (pe_bltn (v := .ty "str") (by rfl) T.str (by decide +kernel) rfl) pa_nil)))))
          (pw_or1 (pt_not (pt_val (pe_m1 PySem.F.slot_str_endswith PySem.F.type_str_endswith mt_endswith (pv 0) pe_str))))).pt
        (pss_one (ps_raise rfl (takes_of rfl rfl rfl rfl) (pmk_own2 rfl (pe_new Z.O.T Z.O.iC Z.O.tI GO hr (kb_pos Z.O.b rfl) pass0 (by rfl) Z.O.m (pa_cons pe_str pa_nil))))) pss_nil)
      (pss_cons (ps_if (pt_not (pt_val (pe_callB (cr_all rfl) (by rfl) T.all (by decide +kernel) (pa_cons (pe_lc (own := [("sign", 1)]) (g := gName 1) rfl scNLT.nd (pi_str (pe_slice sl_str (pv 0) po_none (po_some (pe_un un_neg pe_int))))
            (blkOk_by (N := ["thing", "sign"]) (sc := defScope sNLT) (by decide +kernel))
            (fun _ _ _ _ _ => pg_name (i := 1) scNLT.nd rfl (Or.inl rfl)) (fun _ _ _ _ _ => pts_nil)
            (fun _ _ _ _ _ => pe_or (pe_cmpR op_in_sign (pv 1) (pe_glob (v := .str "abcdefghijklmnopqrstuvwxyz0123456789@") (by rfl) eS ⟨_, rfl⟩) (by rfl)) (pe_one (pe_cmpR op_in_sign (pv 1) (pe_glob (v := .str "ABCDEFGH") (by rfl) eM ⟨_, rfl⟩) (by rfl))))) pa_nil))))
        (pss_one (ps_raise rfl (takes_of rfl rfl rfl rfl) (pmk_own2 rfl (pe_new Z.O.T Z.O.iC Z.O.tI GO hr (kb_pos Z.O.b rfl) pass0 (by rfl) Z.O.m (pa_cons pe_str pa_nil))))) pss_nil)
      (pss_one (ps_ret (pv 0)))), ?_⟩
    have rs : ∀ {H1 : Hp}, Same H H1 → okO o = false → Eo Z.O.C E H1 := fun s1 e => (qn e).same s1
    cases o with
    | none =>
      obtain ⟨t, ty, kt⟩ := NoStr.ty (K := K) tx
      refine ⟨_, rfl, v, .ty "str", t, .type "str", false, rfl, .ty "str", ty, kt, false, rfl, iteT ?_⟩
      refine ⟨rfl, rfl, (by decide), fun a na => ⟨a, .str _, .str _, rfl, upd_same, .str _, rfl, a, Z.O.C, none, rfl, upd_same, fr0_none na, raises_own Z.O.su Z.O.ty, ?_⟩⟩
      rw [delH_new na]
      exact qn rfl H (Same.refl H)
    | some p =>
      obtain ⟨rfl, pl⟩ := tx
      have qy : ltB p = true → ∀ H', Same H H' → Q (.str p) H' := qy
      have qn : ltB p = false → Eo Z.O.C E H := qn
      refine ⟨_, rfl, .str p, .ty "str", .type "str", .type "str", true, rfl, .ty "str", .base (.str p), kit_ty (r := true) (by decide +kernel), true, rfl, iteF ?_⟩
      refine ⟨_, rfl, ⟨_, rfl⟩, p, ";", rfl, rfl, _, rfl, ?_⟩
      cases e1 : Txt.endswith p ";" with
      | false =>
        refine iteT ?_
        refine ⟨rfl, rfl, (by decide), fun a na => ⟨a, .str _, .str _, rfl, upd_same, .str _, rfl, a, Z.O.C, none, rfl, upd_same, fr0_none na, raises_own Z.O.su Z.O.ty, ?_⟩⟩
        rw [delH_new na]
        exact qn (by unfold ltB; rw [e1]; rfl) H (Same.refl H)
      | true =>
        refine iteF ?_
        have cs := cut_last (p := p)
        have cl : (cutS p none (some (-1))).length ≤ 1000 := Nat.le_trans (cutS_length ..) pl
        refine ⟨_, rfl, 1, rfl, -1, rfl, p, rfl, (by rw [sizeLine_eq]; omega), ?_⟩
        generalize cutS p none (some (-1)) = cu at cs cl ⊢
        refine ⟨_, rfl, fun D hD => ?_⟩
        refine lc_it walk_str (fun i H' => H' D = some (.lst ((((sl cu).take i).map fun c => decide (c ∈ sgs) || decide (c ∈ mks)).map V.bl)) ∧ Same H H') ⟨upd_same, same_upd hD⟩ (fun _ _ _ _ => trivial) ?_ ?_
        · rintro i x H2 H3 hi ⟨hD2, s2⟩ ⟨rfl, ch, hc, rfl⟩
          have hc' : (sl cu)[i]? = some ch := (Array.getElem?_toList ..).trans hc
          have il : i < (sl cu).length := (List.getElem?_eq_some_iff.mp hc').1
          have cl' : (sl cu).length ≤ 1000 := by rw [← len_sl]; exact cl
          have fin : ∀ b : Bool, b = (decide (ch ∈ sgs) || decide (ch ∈ mks)) → ∃ acc, H3 D = some (.lst acc) ∧ acc.length < sizeLine ∧ ((upd H3 D (.lst (acc ++ [V.bl b]))) D = some (.lst ((((sl cu).take (i + 1)).map fun c => decide (c ∈ sgs) || decide (c ∈ mks)).map V.bl)) ∧ Same H (upd H3 D (.lst (acc ++ [V.bl b])))) := fun b e => by
            refine ⟨_, hD2, ?_, ?_, same_set hD s2⟩
            · rw [List.length_map, List.length_map, List.length_take, sizeLine_eq]
              omega
            · rw [take_one' hc', List.map_append, List.map_append, e]
              exact upd_same
          refine ⟨rfl, _, rfl, ch, _, rfl, rfl, _, rfl, ?_⟩
          by_cases c : ch ∈ sgs
          · refine iteT' (decide_eq_true c) ?_
            exact fin true (by rw [decide_eq_true c]; rfl)
          · refine iteF' (decide_eq_false c) ?_
            refine ⟨_, rfl, ch, _, rfl, rfl, ?_⟩
            exact fin _ (by rw [decide_eq_false c]; rfl)
        · rintro H2 ⟨hD2, s2⟩
          have ln : cu.cps.size = (sl cu).length := len_sl cu
          rw [ln, List.take_length] at hD2
          refine ⟨D, _, rfl, SqL.of hD2, _, rfl, ?_⟩
          have ev : (((sl cu).map fun c => decide (c ∈ sgs) || decide (c ∈ mks)).all id) = ltB p := by
            unfold ltB
            rw [e1, cs, List.all_map]
            rfl
          rw [ev]
          cases e2 : ltB p with
          | false =>
            refine iteT ?_
            refine ⟨rfl, rfl, (by decide), fun a na => ⟨a, .str _, .str _, rfl, upd_same, .str _, rfl, a, Z.O.C, none, rfl, upd_same, fr0_none (same_none s2 na), raises_own Z.O.su Z.O.ty, ?_⟩⟩
            rw [delH_new na]
            exact qn e2 H2 s2
          | true =>
            refine iteF ?_
            exact ⟨_, rfl, qy e2 H2 s2⟩
end
end K07

set_option Elab.async false
set_option linter.all false
set_option maxRecDepth 100000
set_option maxHeartbeats 4000000
/-! takes. -/
namespace L2
open PySem PySem.Spec PyProof.Rows EV
/-- a promise of a def that may raise, where it doesn't -/
theorem fnOk0 {P : Program} {w : World} {K : PySem.W.Frag} {mg : Str → Option Value} {base : Heap} {k : Nat} {f : Addr} {fd : FuncData} {ps : List Str} {sp sp2 : Sp} (F : FnOk P w K mg base (L2.CX P w) k f fd ps sp) (h : ∀ vs H Q E, sp2 vs H Q E → sp vs H Q E0) : FnOk P w K mg base CX0 k f fd ps sp2 :=
  ⟨fun vs H Q E q => F.len vs H Q E0 (h _ _ _ _ q), fun A outer s H args us vs Q E hr he hb hv hs => codeAny_mono (F.run A outer s H args us vs Q E0 hr he hb hv (h _ _ _ _ hs)) fun r s' z => by
    cases r with
    | error e =>
      obtain ⟨_, _, _, _, _, _, _, _, _, _, _, _, bad⟩ := z
      exact bad
    | ok fl => cases fl <;> exact z⟩
end L2
namespace K07
open PySem L2 L2.EV
abbrev sTakes : Stmt := top 15
def rdT (xs : List T3) (gs : List Int) : PyData := .tuple [.tuple (xs.map d3), .tuple (gs.map PyData.int)]
theorem da_3 {H : Hp} : ∀ {xs : List T3} {vs : List V}, DaAll H vs (xs.map d3) → ∃ ts : List Addr, vs = ts.map V.ref ∧ At3 H ts xs
  | [], _, h => by
    cases h
    exact ⟨[], rfl, rfl, fun i t x h => by cases h⟩
  | x :: xs, _, h => by
    cases h with
    | cons h1 h2 =>
      obtain ⟨ts, e, r⟩ := da_3 (xs := xs) h2
      subst e
      cases h1 with
      | @tup a ys _ e all =>
        cases all with
        | cons a1 b1 =>
          cases a1
          cases b1 with
          | cons a2 b2 =>
            cases a2
            cases b2 with
            | cons a4 b4 =>
              cases a4
              cases b4
              refine ⟨a :: ts, rfl, by rw [List.length_cons, List.length_cons, r.1], fun i t y h1 h2 => ?_⟩
              cases i with
              | zero =>
                cases h1
                cases h2
                exact e
              | succ i => exact r.2 i t y (by simpa using h1) (by simpa using h2)
theorem da_gs {H : Hp} : ∀ {gs : List Int} {vs : List V}, DaAll H vs (gs.map PyData.int) → vs = gs.map V.int
  | [], _, h => by cases h; rfl
  | n :: ns, _, h => by
    cases h with
    | cons h1 h2 =>
      cases h1
      rw [da_gs h2]
      rfl
theorem rda_of {H : Hp} {v : V} {xs : List T3} {gs : List Int} (h : Da H v (rdT xs gs)) : ∃ r, v = .ref r ∧ RdA H r xs gs := by
  cases h with
  | @tup a ys _ e all =>
    cases all with
    | cons h1 r1 =>
      cases r1 with
      | cons h2 r2 =>
        cases r2
        cases h1 with
        | @tup b zs _ e1 all1 =>
          cases h2 with
          | @tup c ws _ e2 all2 =>
            obtain ⟨ts, rfl, a3⟩ := da_3 all1
            obtain rfl := da_gs all2
            exact ⟨a, rfl, b, c, ts, e, e1, a3, e2⟩
/-- how many marks a text has -/
def cnt (p : Str) : Nat := ((64 :: mks).filter fun c => decide (c ∈ sl p)).length
def sgOf (c : Nat) : Str := if c ∈ mks then "@" else ⟨#[c]⟩
def sgsOf (p : Str) : List Str := (sl p).dropLast.map sgOf
def tkF (xs : List T3) (gs : List Int) (p : Str) : Bool := decide (cnt p < 2) && match ldF xs (some 0) (sgsOf p) with
  | some q => decide (q ∈ gs)
  | none => false
def spTk (C : Addr) : Sp := fun vs H Q E => ∃ (r v : V) (xs : List T3) (gs : List Int) (o : Option Str), vs = [r, v] ∧ Da H r (rdT xs gs) ∧ RdD (rdT xs gs) ∧ xs.length ≤ 100 ∧ TxI H v o ∧
  (∀ p, o = some p → ltB p = true → ∀ H', Same H H' → Q (.bl (tkF xs gs p)) H') ∧ (okO o = false → Eo C E H)
def spTk0 : Sp := fun vs H Q _ => ∃ (r : V) (xs : List T3) (gs : List Int) (p : Str), vs = [r, .str p] ∧ Da H r (rdT xs gs) ∧ RdD (rdT xs gs) ∧ xs.length ≤ 100 ∧ p.length ≤ 1000 ∧ ltB p = true ∧
  ∀ H', Same H H' → Q (.bl (tkF xs gs p)) H'
structure Tt (K : PySem.W.Frag) (mg : Str → Option Value) where
  T : Tk K mg
  fR : Addr
  dR : FuncData
  FR : Fun K "need_reader" "need_reader" sNeedR fR dR
  bR : Binds K dR ["thing"] []
  mR : mg "need_reader" = some (.ref fR)
  fO : Addr
  dO : FuncData
  FO : Fun K "rows_of" "rows_of" sRows fO dO
  bO : Binds K dO ["reader"] []
  mO : mg "rows_of" = some (.ref fO)
  fL : Addr
  dL : FuncData
  FL : Fun K "led" "led" sLed fL dL
  bL : Binds K dL ["rows", "state", "signs"] []
  mL : mg "led" = some (.ref fL)
  fT : Addr
  dT : FuncData
  FT : Fun K "takes" "takes" sTakes fT dT
  bT : Binds K dT ["reader", "text"] []
  mT : mg "takes" = some (.ref fT)
abbrev NT : List Str := ["reader", "text", "marks", "signs", "mark", "sign"]
theorem ints_flat : ∀ ns : List Int, (ns.map V.int).all flatV = true
  | [] => rfl
  | n :: ns => by
    rw [List.map_cons, List.all_cons, ints_flat ns]
    rfl
theorem in_ints {ns : List Int} {k : Int} : inV (.int k) (ns.map V.int) = decide (k ∈ ns) := by
  unfold inV
  induction ns with
  | nil => rfl
  | cons n ns ih =>
    rw [List.map_cons, List.any_cons, ih]
    by_cases c : k = n
    · subst c
      simp [eqV]
    · have : eqV (.int n) (.int k) = false ∨ eqV (.int k) (.int n) = false := .inl (by simp [eqV]; omega)
      by_cases d : k ∈ ns
      · simp [d]
      · rw [decide_eq_false d, decide_eq_false (by simp [c, d])]
        simp [eqV]
        omega
theorem in_none {ns : List Int} : inV .non (ns.map V.int) = false := by
  unfold inV
  rw [List.any_eq_false]
  intro y hy
  obtain ⟨n, _, rfl⟩ := List.mem_map.mp hy
  simp [eqV]
section
variable {P : Program} {w : World} {K : PySem.W.Frag} {mg : Str → Option Value} {base : Heap}
theorem scTakes : FnScope NT ["reader", "text"] (defScope sTakes) := ⟨rfl, rfl, rfl, by decide +kernel, rfl, by decide +kernel, by decide +kernel⟩
theorem ok_takes (Z : Tt K mg) : FnOk P w K mg base (L2.CX P w) 5 Z.fT Z.dT ["reader", "text"] (spTk Z.T.O.C) := by
  have T := Z.T.R.Z.T
  have GR : FnOk P w K mg base (L2.CX P w) 3 Z.fR Z.dR ["thing"] (spNeedR Z.T.R.B.C) := ok_needR Z.T.R Z.FR
  have GN : FnOk P w K mg base (L2.CX P w) 4 Z.T.f1 Z.T.d1 ["thing"] (spNLT Z.T.O.C) := ok_nlt Z.T
  have GO : FnOk P w K mg base CX0 1 Z.fO Z.dO ["reader"] spRows := ok_rows Z.FO
  have GL : FnOk P w K mg base CX0 1 Z.fL Z.dL ["rows", "state", "signs"] spLed := ok_led Z.FL
  refine Z.FT.okX scTakes (fun vs H Q E h => ?_) (fun cdv A outer s H vs Q E hr h => ?_)
  · obtain ⟨r, v, xs, gs, o, rfl, _⟩ := h
    rfl
  · obtain ⟨r, v, xs, gs, o, rfl, da, rd, xl, tx, qy, qn⟩ := h
    have r1 := hr.mono (j := 1) (by omega)
    have r3 := hr.mono (j := 3) (by omega)
    obtain ⟨tm, eM⟩ := Z.T.marks
    refine ⟨_, pss_cons (ps_expr (pe_call GR r3 (by rfl) Z.mR Z.FR.kp Z.bR .nil (passes_call (E := E0) (takes_of rfl rfl rfl rfl) fun _ _ _ _ h => h.elim) (pa_cons (pv 0) pa_nil)))
      (pss_cons (ps_expr (pe_call GN hr (by rfl) Z.T.m1 Z.T.F1.kp Z.T.b1 .nil (passes_call (E := E) (takes_of rfl rfl rfl rfl) fun _ _ _ _ h => h) (pa_cons (pv 1) pa_nil)))
      (pss_cons (ps_setLc (i := 2) (own := [("mark", 4)]) (g := gName 4) rfl scTakes.nd rfl rfl rfl (pi_str (pe_glob (v := .str "ABCDEFGH") (by rfl) eM ⟨_, rfl⟩))
          (blkOk_by (N := NT) (sc := defScope sTakes) (by decide +kernel)) (fun _ _ _ _ _ => pg_name (i := 4) scTakes.nd rfl (Or.inl rfl)) (fun _ _ _ _ _ => pts_one (pt_cmpR op_in_sign (pv 4) (pv 1) (by rfl))) (fun _ _ _ _ _ => pv 4))
      (pss_cons (ps_if (pw_or (pt_cmpR op_gt (pe_callB call_len_seq (by rfl) T.len PySem.boot_len (pa_cons (pv 2) pa_nil)) pe_int (nomark _)) (pw_or1 (pw_and (pt_cmpR op_eq (pe_callB call_len_seq (by rfl) T.len PySem.boot_len (pa_cons (pv 2) pa_nil)) pe_int (nomark _)) (pw_and1 (pt_cmpR op_in_sign pe_str (pv 1) (by rfl)))).pt)).pt (pss_one (ps_ret pe_bl)) pss_nil)
      (pss_cons (ps_setLc (i := 3) (own := [("sign", 5)]) (g := gName 5) rfl scTakes.nd rfl rfl rfl (pi_str (pe_slice sl_str (pv 1) po_none (po_some (pe_un un_neg pe_int))))
          (blkOk_by (N := NT) (sc := defScope sTakes) (by decide +kernel)) (fun _ _ _ _ _ => pg_name (i := 5) scTakes.nd rfl (Or.inl rfl)) (fun _ _ _ _ _ => pts_nil)
          (fun _ _ _ _ _ => pe_ifExp (pt_cmpR op_in_sign (pv 5) (pe_glob (v := .str "ABCDEFGH") (by rfl) eM ⟨_, rfl⟩) (by rfl)) pe_str (pv 5)))
      (pss_one (ps_ret (pe_cmpR op_in_seq (pe_call GL r1 (by rfl) Z.mL Z.FL.kp Z.bL .nil pass0 (pa_cons (pe_call GO r1 (by rfl) Z.mO Z.FO.kp Z.bO .nil pass0 (pa_cons (pv 0) pa_nil)) (pa_cons pe_int (pa_cons (pv 3) pa_nil)))) (pe_ix ix_tup (pv 0) pe_int (fun _ _ => rfl)) (by rfl)))))))), ?_⟩
    obtain ⟨r0, rfl, ra⟩ := rda_of da
    refine ⟨_, rfl, .ref r0, rdT xs gs, rfl, da, rd_sz rd, ?_⟩
    rw [rd_ok rd]
    intro H1 s1
    refine ⟨_, rfl, v, o, rfl, tx.same s1, fun ok H2 s2 => ?_, fun e => (qn e).same s1⟩
    cases o with
    | none => cases ok
    | some p =>
    obtain ⟨rfl, pl⟩ := tx
    have ok : ltB p = true := ok
    have s02 := s1.trans s2
    have qy := qy p rfl ok
    refine ⟨_, rfl, fun D hD => ?_⟩
    have ml : mks.length = 8 := by decide +kernel
    refine lc_it walk_str (fun i H' => H' D = some (.lst (((mks.take i).filter fun c => decide (c ∈ sl p)).map fun c => V.str ⟨#[c]⟩)) ∧ Same H2 H') ⟨upd_same, same_upd hD⟩ (fun _ _ _ _ => trivial) ?_ ?_
    · rintro i x H3z H3 hi ⟨hD3, s3⟩ ⟨rfl, ch, hc, rfl⟩
      have hc' : mks[i]? = some ch := (Array.getElem?_toList ..).trans hc
      refine ⟨rfl, ?_⟩
      refine ⟨_, rfl, _, rfl, ch, p, rfl, rfl, _, rfl, ?_⟩
      rw [take_one' hc', List.filter_append, List.filter_cons]
      have ll : (((mks.take i).filter fun c => decide (c ∈ sl p)).map fun c => V.str ⟨#[c]⟩).length ≤ 8 := by
        rw [List.length_map]
        refine Nat.le_trans (List.length_filter_le ..) ?_
        rw [List.length_take]
        omega
      by_cases c : ch ∈ sl p
      · refine iteT' (decide_eq_true c) ?_
        rw [if_pos (decide_eq_true c)]
        refine ⟨_, rfl, _, hD3, by rw [sizeLine_eq]; omega, ?_, same_set hD s3⟩
        rw [List.map_append]
        exact upd_same
      · refine iteF' (decide_eq_false c) ?_
        rw [if_neg (by simpa using c), List.filter_nil, List.append_nil]
        exact ⟨hD3, s3⟩
    rintro H3 ⟨hD3, s3⟩
    have e8 : ("ABCDEFGH" : Str).cps.size = mks.length := len_sl _
    rw [e8, List.take_length] at hD3
    have s03 := s02.trans s3
    refine gName_go2 ?_
    have cn : cnt p = (if 64 ∈ sl p then 1 else 0) + (mks.filter fun c => decide (c ∈ sl p)).length := by
      unfold cnt
      rw [List.filter_cons]
      by_cases c : 64 ∈ sl p
      · rw [if_pos (decide_eq_true c), if_pos c, List.length_cons]
        omega
      · rw [if_neg (by simpa using c), if_neg c]
        omega
    generalize mks.filter (fun c => decide (c ∈ sl p)) = mm at hD3 cn
    refine ⟨_, rfl, D, _, rfl, .inl (SqL.of hD3), _, 1, rfl, rfl, _, rfl, ?_⟩
    rw [List.length_map]
    have no : ¬ cnt p < 2 → ∀ H', Same H H' → Q (.bl false) H' := fun c H' s' => by
      have z := qy H' s'
      unfold tkF at z
      rw [decide_eq_false c, Bool.false_and] at z
      exact z
    by_cases c1 : 1 < mm.length
    · refine iteT' (by simp; omega) ?_
      exact no (by omega) _ s03
    refine iteF' (by simp; omega) ?_
    refine ⟨_, rfl, D, _, rfl, .inl (SqL.of hD3), rfl, _, rfl, ?_⟩
    rw [List.length_map]
    have at_is : ("@" : Str) = ⟨#[64]⟩ := by decide +kernel
    by_cases c2 : mm.length = 1 ∧ 64 ∈ sl p
    · refine iteT' (by simp [c2.1]) ?_
      refine ⟨_, rfl, 64, p, congrArg V.str at_is, rfl, _, rfl, ?_⟩
      refine iteT' (decide_eq_true c2.2) ?_
      exact no (by rw [cn, if_pos c2.2]; omega) _ s03
    have lt : cnt p < 2 := by
      rw [cn]
      by_cases c : 64 ∈ sl p
      · rw [if_pos c]
        have : mm.length ≠ 1 := fun z => c2 ⟨z, c⟩
        omega
      · rw [if_neg c]
        omega
    have qy2 : ∀ H', Same H H' → Q (.bl (match ldF xs (some 0) (sgsOf p) with
      | some q => decide (q ∈ gs)
      | none => false)) H' := fun H' s' => by
      have z := qy H' s'
      unfold tkF at z
      rw [decide_eq_true lt, Bool.true_and] at z
      exact z
    by_cases c3 : mm.length = 1
    refine iteT' (by simp [c3]) ?_
    refine ⟨_, rfl, 64, p, congrArg V.str at_is, rfl, _, rfl, ?_⟩
    refine iteF' (decide_eq_false (fun z => c2 ⟨c3, z⟩)) ?_
    rotate_left
    refine iteF' (by simp; omega) ?_
    all_goals
      have cs := cut_last (p := p)
      have cl : (cutS p none (some (-1))).length ≤ 1000 := Nat.le_trans (cutS_length ..) pl
      refine ⟨_, rfl, 1, rfl, -1, rfl, p, rfl, (by rw [sizeLine_eq]; omega), ?_⟩
      generalize cutS p none (some (-1)) = cu at cs cl ⊢
      refine ⟨_, rfl, fun D2 hD2 => ?_⟩
      refine lc_it walk_str (fun i H' => H' D2 = some (.lst ((((sl cu).take i).map sgOf).map V.str)) ∧ Same H3 H') ⟨upd_same, same_upd hD2⟩ (fun _ _ _ _ => trivial) ?_ ?_
      · rintro i x H4z H4 hi ⟨hD4, s4⟩ ⟨rfl, ch, hc, rfl⟩
        have hc' : (sl cu)[i]? = some ch := (Array.getElem?_toList ..).trans hc
        have cl' : (sl cu).length ≤ 1000 := by rw [← len_sl]; exact cl
        have fin : ∀ c : Str, c = sgOf ch → ∃ acc, H4 D2 = some (.lst acc) ∧ acc.length < sizeLine ∧ ((upd H4 D2 (.lst (acc ++ [V.str c]))) D2 = some (.lst ((((sl cu).take (i + 1)).map sgOf).map V.str)) ∧ Same H3 (upd H4 D2 (.lst (acc ++ [V.str c])))) := fun c e => by
          refine ⟨_, hD4, ?_, ?_, same_set hD2 s4⟩
          · rw [List.length_map, List.length_map, List.length_take, sizeLine_eq]
            omega
          · rw [take_one' hc', List.map_append, List.map_append, e]
            exact upd_same
        refine ⟨rfl, _, rfl, ch, _, rfl, rfl, _, rfl, ?_⟩
        by_cases c : ch ∈ mks
        · refine iteT' (decide_eq_true c) ?_
          exact fin "@" (by unfold sgOf; rw [if_pos c])
        · refine iteF' (decide_eq_false c) ?_
          refine ⟨_, rfl, ?_⟩
          exact fin _ (by unfold sgOf; rw [if_neg c])
      rintro H4 ⟨hD4, s4⟩
      have ln : cu.cps.size = (sl cu).length := len_sl cu
      rw [ln, List.take_length, cs] at hD4
      refine gName_go2 ?_
      have s04 := s03.trans s4
      refine ⟨_, rfl, r0, xs, gs, rfl, ra.same s04, xl, fun H5 pr kvs R => ⟨_, rfl, pr, D2, 0, H4, 200, kvs, xs, sgsOf p, rfl, R, R.sm _ _ hD4, fun H6 s6 => ?_⟩⟩
      have s06 := s04.trans (R.sm.trans s6)
      obtain ⟨t1, t2, ts, h1, h2, h3, h4⟩ := ra.same s06
      refine ⟨_, rfl, r0, _, 1, .ref t2, rfl, rfl, SqT.of h1, rfl, t2, gs.map V.int, rfl, .inr (SqT.of h4), ?_, ints_flat gs, ?_⟩
      · cases ldF xs (some 0) (sgsOf p) <;> rfl
      have z := qy2 H6 s06
      cases e : ldF xs (some 0) (sgsOf p) with
      | none =>
        rw [e] at z
        show Q (.bl (inV .non (gs.map V.int))) H6
        rw [in_none]
        exact z
      | some q =>
        rw [e] at z
        show Q (.bl (inV (.int q) (gs.map V.int))) H6
        rw [in_ints]
        exact z
end
end K07

set_option Elab.async false
set_option linter.all false
set_option maxRecDepth 100000
set_option maxHeartbeats 4000000
/-! Sets of tuples whose items are of any kind of keys: what is asked of such a tuple; the rows of a set. -/
namespace SX
open PySem PySem.Spec PyProof.Rows L2
/-- what is carried by value is of no class, and whether it hashes by value is told at once -/
theorem plain_cls {v : Value} (h : carriedByValue v = true) (n : Nat) : ofAClassStatement n v = pure false := by
  cases v with
  | ref a => simp [carriedByValue] at h
  | _ => cases n <;> rfl
theorem plain_byv {v : Value} (h : carriedByValue v = true) (n : Nat) : ∃ c : Bool, hashByValue n v = pure c := by
  cases v with
  | ref a => simp [carriedByValue] at h
  | _ => cases n <;> exact ⟨_, rfl⟩
section
variable {prog : Program} {w : World} {I : Type} [DecidableEq I] {knd : KeyKind prog w I} {A : Around} {E : Value → Shared → Prop} {s : Shared}
theorem tup_cls {ks : List I} {x : Addr} {Q : Bool → Shared → Prop} (tx : IsTupleKey knd s.heap ks x) (q : Q false s) : wpAny (model prog w) A (ofAClassStatement 8 (.ref x)) Q E s := by
  have ty := tx.typeIs
  obtain ⟨ob, vs, len, at_, _, dt, its⟩ := tx
  unfold ofAClassStatement
  refine wpAny_bind (wpAny_typeOf ty ?_)
  dsimp only
  rw [show (("tuple" : String) == "tuple") = true by decide]
  simp only [if_true, Bool.not_true, Bool.false_eq_true, if_false]
  first
    | skip
  try refine wpAny_bind (wpAny_pure ?_)
  try simp only [Bool.not_true, Bool.false_eq_true, if_false]
  show wpAny _ _ (seqItems? (.ref x) >>= _) _ _ s
  refine wpAny_bind (wpAny_seqItems at_ dt ?_)
  dsimp only
  refine wpAny_bind ?_
  show wpAny _ _ (forIn vs _ _) _ _ s
  rw [← Array.forIn_toList]
  refine wpAny_forIn_list _ (fun more acc s' => acc.1 = none ∧ s' = s ∧ ∀ v ∈ more, carriedByValue v = true) _ (fun v more acc s' ⟨h1, h2, h3⟩ => ?_) (fun acc s' ⟨h1, h2, _⟩ => ?_) _ _ ⟨rfl, rfl, its.byValue⟩
  · subst h2
    rw [plain_cls (h3 v (List.mem_cons_self ..))]
    refine wpAny_bind (wpAny_pure ?_)
    simp only [Bool.false_eq_true, if_false]
    exact wpAny_pure ⟨rfl, rfl, fun u hu => h3 u (List.mem_cons_of_mem _ hu)⟩
  · obtain ⟨a1, a2⟩ := acc
    subst h2
    simp only at h1
    subst h1
    exact wpAny_pure q
theorem tup_byv {ks : List I} {x : Addr} {Q : Bool → Shared → Prop} (tx : IsTupleKey knd s.heap ks x) (q : ∀ c, Q c s) : wpAny (model prog w) A (hashByValue 8 (.ref x)) Q E s := by
  have ty := tx.typeIs
  obtain ⟨ob, vs, len, at_, _, dt, its⟩ := tx
  unfold hashByValue
  refine wpAny_bind (wpAny_specialOf ty F.slot_tuple_hash.lookup ?_)
  show wpAny _ _ (seqItems? (.ref x) >>= _) _ _ s
  refine wpAny_bind (wpAny_seqItems at_ dt ?_)
  refine wpAny_bind ?_
  show wpAny _ _ (forIn vs _ _) _ _ s
  rw [← Array.forIn_toList]
  refine wpAny_forIn_list _ (fun more acc s' => s' = s ∧ ∀ v ∈ more, carriedByValue v = true) _ (fun v more acc s' ⟨h2, h3⟩ => ?_) (fun acc s' ⟨h2, _⟩ => ?_) _ _ ⟨rfl, its.byValue⟩
  rotate_left
  · obtain ⟨a1, a2⟩ := acc
    subst h2
    cases a1 with
    | none => exact wpAny_pure (q true)
    | some c => exact wpAny_pure (q c)
  subst h2
  obtain ⟨c, ec⟩ := plain_byv (h3 v (List.mem_cons_self ..)) 7
  rw [ec]
  refine wpAny_bind (wpAny_pure ?_)
  cases c with
  | true =>
    simp only [Bool.not_true, Bool.false_eq_true, if_false]
    exact wpAny_pure ⟨rfl, fun u hu => h3 u (List.mem_cons_of_mem _ hu)⟩
  | false =>
    simp only [Bool.not_false, if_true]
    exact wpAny_pure (wpAny_pure (q false))
theorem tup_unseen {ks : List I} {x : Addr} {Q : Bool → Shared → Prop} (tx : IsTupleKey knd s.heap ks x) {vs : List Value} (hv : ∀ v ∈ vs, ∃ (ls : List I) (y : Addr), v = .ref y ∧ IsTupleKey knd s.heap ls y) (q : Q false s) :
    wpAny (model prog w) A (searchCouldBeSeen (.ref x) vs) Q E s := by
  unfold searchCouldBeSeen
  refine wpAny_bind ?_
  refine wpAny_forIn_list _ (fun more acc s' => acc.1 = none ∧ s' = s ∧ ∀ v ∈ more, ∃ (ls : List I) (y : Addr), v = .ref y ∧ IsTupleKey knd s.heap ls y) _ (fun v more acc s' ⟨h1, h2, h3⟩ => ?_) (fun acc s' ⟨h1, h2, _⟩ => ?_) _ _ ⟨rfl, rfl, hv⟩
  · subst h2
    obtain ⟨ls, y, rfl, ty⟩ := h3 v (List.mem_cons_self ..)
    have on : ∀ u ∈ more, ∃ (ls : List I) (y : Addr), u = .ref y ∧ IsTupleKey knd s'.heap ls y := fun u hu => h3 u (List.mem_cons_of_mem _ hu)
    dsimp only
    by_cases c : (x == y || (carriedByValue (.ref x) && carriedByValue (.ref y))) = true
    · exact wp_if_pos c (wpAny_pure ⟨rfl, rfl, on⟩)
    · refine wp_if_neg c (wpAny_bind (wpAny_eqIsQuiet_tuple tx ?_))
      simp only [Bool.not_true, Bool.false_eq_true, if_false]
      refine wpAny_bind (wpAny_eqIsQuiet_tuple ty ?_)
      simp only [Bool.not_true, Bool.false_eq_true, if_false]
      refine wpAny_bind (tup_cls tx ?_)
      simp only [Bool.false_eq_true, if_false]
      refine wpAny_bind (tup_cls ty ?_)
      simp only [Bool.false_eq_true, if_false]
      exact wpAny_pure ⟨rfl, rfl, on⟩
  · obtain ⟨a1, a2⟩ := acc
    subst h2
    simp only at h1
    subst h1
    exact wpAny_pure q
end
end SX

set_option Elab.async false
set_option linter.all false
set_option maxRecDepth 100000
set_option maxHeartbeats 4000000
/-! Sets of tuples of any keys: looking one up. -/
namespace SX
open PySem PySem.Spec PyProof.Rows L2
section
variable {prog : Program} {w : World} {I : Type} [DecidableEq I]
def rws (knd : KeyKind prog w I) (L : List (Addr × List I)) : List (Int × Value) := L.map fun e => (tupleKeyHash knd e.2, Value.ref e.1)
/-- the set at a: its table is right for the hashes of the tuples of L -/
structure Tbl (knd : KeyKind prog w I) (h : Heap) (a : Addr) (L : List (Addr × List I)) (es : Array (Int × Value)) (ep : Nat) (t : SetTable) : Prop where
  obj : ∃ o, h.get? a = some o ∧ o.ExactSet ∧ o.data = .set es ep t
  rw_ : es.toList = rws knd L
  tb : TabOk t (L.map fun e => tupleKeyHash knd e.2)
  dif : (L.map (·.2)).Nodup
  tps : ∀ e ∈ L, IsTupleKey knd h e.2 e.1
  ord : w.params.followText "set-order" = true ∨ t.led = true
  free : L.length * 5 < t.mask * 3
  few : L.length < 64
variable {knd : KeyKind prog w I} {A : Around} {E : Value → Shared → Prop} {s : Shared} {h : Heap} {a : Addr} {L : List (Addr × List I)} {es : Array (Int × Value)} {ep : Nat} {t : SetTable}
theorem Tbl.many (T : Tbl knd h a L es ep t) : es.size = L.length := by
  have e := T.rw_
  rw [← Array.length_toList, e]
  unfold rws
  exact List.length_map ..
theorem Tbl.fits (T : Tbl knd h a L es ep t) : t.fits es.size = true := by
  have z1 := T.tb.sz
  have z2 := T.many
  have z3 := T.free
  rw [List.length_map] at z1
  unfold SetTable.fits SetTable.fill
  rw [T.tb.dm, Bool.and_eq_true, beq_iff_eq, decide_eq_true_eq]
  refine ⟨?_, ?_⟩
  · show t.place.size = es.size
    omega
  · show t.place.size + 0 ≤ t.mask
    omega
theorem Tbl.at_ (T : Tbl knd h a L es ep t) {i : Nat} {e : Addr × List I} (hi : L[i]? = some e) : es[i]? = some (tupleKeyHash knd e.2, Value.ref e.1) := by
  have z : es.toList[i]? = some (tupleKeyHash knd e.2, Value.ref e.1) := by
    rw [T.rw_]
    unfold rws
    rw [List.getElem?_map, hi]
    rfl
  rwa [Array.getElem?_toList] at z
theorem Tbl.still (T : Tbl knd h a L es ep t) : ¬ t.gaveWay = true := by
  have z := mask_odd T.tb.mok
  unfold SetTable.gaveWay
  rw [z]
  decide
theorem nth_dummy {m : Nat} : ∀ (n : Nat) (p : SetTable.Probe), p.dummy = none → (nth m p n).dummy = none
  | 0, _, e => e
  | n + 1, p, e => nth_dummy n (adv m p) (by
    unfold adv
    split
    · exact e
    · exact e)
abbrev begun (t : SetTable) (g : Int) : SetTable.Probe := runAt t.mask (SetTable.bits g % (t.mask + 1)) (SetTable.bits g)
theorem place_row (T : Tbl knd h a L es ep t) {i j : Nat} (hj : t.place.toList[i]? = some j) : ∃ e, L[i]? = some e ∧ e ∈ L := by
  have l1 := (List.getElem?_eq_some_iff.mp hj).1
  have l2 := T.tb.sz
  rw [List.length_map, ← Array.length_toList] at l2
  have l3 : i < L.length := by omega
  exact ⟨L[i], List.getElem?_eq_getElem l3, List.getElem_mem l3⟩
theorem seek {ks : List I} {x : Addr} (T : Tbl knd s.heap a L es ep t) (tx : IsTupleKey knd s.heap ks x) (hu : A.units < cLine) {n : Nat} (n0 : n < 10 * SetTable.turns t.mask) (fr : way t.mask (tupleKeyHash knd ks) n ∉ t.place.toList)
    (fu : ∀ c, c < n → way t.mask (tupleKeyHash knd ks) c ∈ t.place.toList) {Q : SetFound → Shared → Prop} (yes : ks ∈ L.map (·.2) → Q (.there none) s) (no : ks ∉ L.map (·.2) → Q (.free (way t.mask (tupleKeyHash knd ks) n) false) s) :
    ∀ (f c : Nat) (st : Option SetTable.Probe), st.getD (t.probeStart (tupleKeyHash knd ks)) = nth t.mask (begun t (tupleKeyHash knd ks)) c → c ≤ n → n - c < f →
      (∀ (i : Nat) e, L[i]? = some e → e.2 = ks → ∃ d, c ≤ d ∧ d < n ∧ t.place.toList[i]? = some (way t.mask (tupleKeyHash knd ks) d)) →
      wpAny (model prog w) A (setSearchFrom a (.ref x) (tupleKeyHash knd ks) true f st) Q E s := by
  intro f
  induction f with
  | zero =>
    intro c st _ _ z
    omega
  | succ f ih =>
    intro c st hst hc hf hr
    obtain ⟨ob, oa, ox, od⟩ := T.obj
    generalize hg : tupleKeyHash knd ks = g at *
    rw [setSearchFrom_succ]
    refine wpAny_bind (wpAny_setState_of oa od T.fits ?_)
    dsimp only
    refine wp_if_neg T.still ?_
    try refine wpAny_bind (wpAny_pure ?_)
    have mv : ∀ q, nth t.mask (nth t.mask (begun t g) c) q = nth t.mask (begun t g) (c + q) := fun q => (nth_add t.mask c _ q).symm
    have mj : ∀ q, (nth t.mask (nth t.mask (begun t g) c) q).j = way t.mask g (c + q) := fun q => by rw [mv]
    have hash : ∀ (i : Nat) e, L[i]? = some e → (es[i]?.map (·.1)).getD 0 = tupleKeyHash knd e.2 := fun i e hi => by
      rw [T.at_ hi]
      rfl
    have sp := go_spec t T.tb.ris T.tb.dm (fun i => (es[i]?.map (·.1)).getD 0) g (10 * SetTable.turns t.mask) (n - c) (nth t.mask (begun t g) c) (nth_dummy c _ rfl) (by omega)
      (fun q hq => by
        rw [mj]
        exact fu _ (by omega)) (by
        rw [mj, show c + (n - c) = n by omega]
        exact fr)
    rcases sp with ⟨q, i, hq, hi, hh, ho, hp⟩ | ⟨ho, hp⟩
    · have hp2 : t.probe (fun i => (es[i]?.map (·.1)).getD 0) g (st.getD (t.probeStart g)) = some (.candidate (way t.mask g (c + q)) i (nth t.mask (begun t g) (c + (q + 1)))) := by
        rw [hst, ← mj, ← mv]
        exact hp
      rw [hp2]
      dsimp only
      rw [mj] at hi
      obtain ⟨e, he, em⟩ := place_row T hi
      have te := T.tps e em
      have sl : t.slot (way t.mask g (c + q)) = .live i := slot_live T.tb.ris hi
      have main : wpAny (model prog w) A (searchRest a (.ref x) g true f es t (way t.mask g (c + q)) i (nth t.mask (begun t g) (c + (q + 1)))) Q E s := by
        unfold searchRest
        rw [T.at_ he]
        dsimp only
        refine wpAny_bind (wpAny_holding (wpAny_eqBool_tuple hu te tx ?_))
        refine wpAny_bind (wpAny_setState_of oa od T.fits ?_)
        dsimp only
        by_cases same : e.2 = ks
        · exact wp_if_pos (by simp [same]) (wpAny_pure (yes (List.mem_map.mpr ⟨e, em, same⟩)))
        · refine wp_if_neg (by simp [same]) ?_
          try refine wpAny_bind (wpAny_pure ?_)
          rw [sameMem]
          dsimp only
          simp only [if_true, sl, T.at_ he]
          refine wpAny_bind (wpAny_isSame_ref_self (wpAny_bind (wpAny_pure ?_)))
          simp only [if_true]
          refine wp_if_neg (by simp [same]) (ih (c + (q + 1)) _ rfl (by omega) (by omega) fun i0 e0 h0 k0 => ?_)
          obtain ⟨d, d1, d2, d3⟩ := hr i0 e0 h0 k0
          refine ⟨d, ?_, d2, d3⟩
          by_cases lt : d < c + q
          · have z := ho (d - c) i0 (by omega) (by
              rw [mj, show c + (d - c) = d by omega]
              exact d3)
            exact absurd ((hash i0 e0 h0).trans (by rw [k0, hg])) z
          · by_cases gt : c + q < d
            · omega
            · have de : d = c + q := by omega
              rw [de] at d3
              have s0 := slot_live T.tb.ris d3
              rw [sl] at s0
              injection s0 with s0
              rw [← s0, he] at h0
              cases h0
              exact absurd k0 same
      by_cases l : t.led = true
      · refine wp_if_neg (by simp [l]) ?_
        try refine wpAny_bind (wpAny_pure ?_)
        exact main
      · refine wp_if_pos (by simp [l]) (wpAny_bind (tup_unseen tx (fun y hy => ?_) ?_))
        · obtain ⟨r, hr1, hr2⟩ := List.mem_map.mp hy
          have hr3 : r ∈ es ∧ r.1 = g := by simpa using hr1
          have hr4 : r ∈ es.toList := by simpa using hr3.1
          rw [T.rw_] at hr4
          obtain ⟨e2, he2, re⟩ := List.mem_map.mp (show r ∈ L.map fun e => (tupleKeyHash knd e.2, Value.ref e.1) from hr4)
          exact ⟨e2.2, e2.1, by rw [← hr2, ← re], T.tps e2 he2⟩
        · refine wp_if_neg (by decide) ?_
          try refine wpAny_bind (wpAny_pure ?_)
          exact main
    · have hp2 : t.probe (fun i => (es[i]?.map (·.1)).getD 0) g (st.getD (t.probeStart g)) = some (.empty (way t.mask g n) none) := by
        have z := mj (n - c)
        rw [show c + (n - c) = n by omega] at z
        rw [hst, ← z]
        exact hp
      rw [hp2]
      dsimp only
      refine wpAny_pure (no fun hm => ?_)
      obtain ⟨e0, m0, k0⟩ := List.mem_map.mp hm
      obtain ⟨i0, l0, ei⟩ := List.getElem_of_mem m0
      have h0 : L[i0]? = some e0 := by rw [List.getElem?_eq_getElem l0, ei]
      obtain ⟨d, d1, d2, d3⟩ := hr i0 e0 h0 k0
      have z := ho (d - c) i0 (by omega) (by
        rw [mj, show c + (d - c) = d by omega]
        exact d3)
      exact absurd ((hash i0 e0 h0).trans (by rw [k0, hg])) z
/-- looked up as adding does -/
theorem looked {ks : List I} {x : Addr} (T : Tbl knd s.heap a L es ep t) (tx : IsTupleKey knd s.heap ks x) (hu : A.units < cLine) {Q : SetFound → Shared → Prop} (yes : ks ∈ L.map (·.2) → Q (.there none) s)
    (no : ∀ n, ks ∉ L.map (·.2) → way t.mask (tupleKeyHash knd ks) n ∉ t.place.toList → (∀ c, c < n → way t.mask (tupleKeyHash knd ks) c ∈ t.place.toList) → Q (.free (way t.mask (tupleKeyHash knd ks) n) false) s) :
    wpAny (model prog w) A (setSearch a (.ref x) (tupleKeyHash knd ks) true) Q E s := by
  have fre := T.free
  obtain ⟨n, n1, n2, n3⟩ := T.tb.first (by rw [List.length_map]; omega) (tupleKeyHash knd ks)
  have n4 : n < 100000 := by
    have z : SetTable.turns t.mask ≤ 142 := by
      unfold SetTable.turns
      rcases T.tb.mok with e | e | e <;> omega
    omega
  unfold setSearch
  refine seek T tx hu n1 n2 n3 yes (fun m => no n m n2 n3) 100000 0 none rfl (Nat.zero_le _) (by omega) fun i e he ek => ?_
  have hh : (L.map fun e => tupleKeyHash knd e.2)[i]? = some (tupleKeyHash knd ks) := by
    rw [List.getElem?_map, he, ← ek]
    rfl
  have hl : i < t.place.toList.length := by
    have l1 := (List.getElem?_eq_some_iff.mp he).1
    have l2 := T.tb.sz
    rw [List.length_map, ← Array.length_toList] at l2
    omega
  obtain ⟨d, d1, d2⟩ := T.tb.before n2 hh (List.getElem?_eq_getElem hl)
  exact ⟨d, Nat.zero_le _, d1, by rw [List.getElem?_eq_getElem hl, d2]⟩
end
end SX

set_option Elab.async false
set_option linter.all false
set_option maxRecDepth 100000
set_option maxHeartbeats 4000000
/-! Sets of tuples of any keys: putting one in. -/
namespace SX
open PySem PySem.Spec PyProof.Rows L2
section
variable {prog : Program} {w : World} {I : Type} [DecidableEq I] {knd : KeyKind prog w I} {A : Around} {E : Value → Shared → Prop} {s : Shared} {a : Addr} {L : List (Addr × List I)} {es : Array (Int × Value)} {ep : Nat} {t : SetTable}
/-- a tuple stands where no set stands -/
theorem tup_but {h h' : Heap} {ks : List I} {x : Addr} {ob : Obj} (tx : IsTupleKey knd h ks x) (oa : h.get? a = some ob) (od : ob.data = .set es ep t) (sb : Heap.SameBut a h h') : IsTupleKey knd h' ks x := by
  obtain ⟨o2, vs, len, at_, c, dt, its⟩ := tx
  refine ⟨o2, vs, len, (sb.2 x fun e => ?_).trans at_, c, dt, its⟩
  rw [e, oa] at at_
  cases at_
  rw [od] at dt
  cases dt
theorem tup_on {h h' : Heap} {ks : List I} {x : Addr} (tx : IsTupleKey knd h ks x) (k : ∀ b o, h.get? b = some o → h'.get? b = some o) : IsTupleKey knd h' ks x := by
  obtain ⟨o2, vs, len, at_, r⟩ := tx
  exact ⟨o2, vs, len, k _ _ at_, r⟩
/-- which rows come of an order of their places -/
theorem rows_by (hr : es.toList = rws knd L) {order : Array Nat} (pm : order.toList.Perm (List.range L.length)) :
    ∃ M : List (Addr × List I), (order.filterMap (es[·]?)).toList = rws knd M ∧ M.Perm L ∧ (M.map fun e => tupleKeyHash knd e.2) = order.toList.map fun i => (es.map (·.1)).getD i 0 := by
  have here : ∀ i (l : i < L.length), es[i]? = some (tupleKeyHash knd (L[i]).2, Value.ref (L[i]).1) := fun i l => by
    rw [← Array.getElem?_toList, hr]
    unfold rws
    rw [List.getElem?_map, List.getElem?_eq_getElem l]
    rfl
  have go : ∀ is : List Nat, (∀ i ∈ is, i < L.length) → ∃ M : List (Addr × List I), is.filterMap (es[·]?) = rws knd M ∧ is.filterMap (L[·]?) = M ∧ (M.map fun e => tupleKeyHash knd e.2) = is.map fun i => (es.map (·.1)).getD i 0 := by
    intro is
    induction is with
    | nil => exact fun _ => ⟨[], rfl, rfl, rfl⟩
    | cons i is ih =>
      intro lt
      have l := lt i (List.mem_cons_self ..)
      obtain ⟨M, m1, m2, m3⟩ := ih fun j hj => lt j (List.mem_cons_of_mem _ hj)
      have hd : (es.map (·.1)).getD i 0 = tupleKeyHash knd (L[i]).2 := by
        have z : (es.map (·.1))[i]? = some (tupleKeyHash knd (L[i]).2) := by
          rw [Array.getElem?_map, here i l]
          rfl
        simp [Array.getD_eq_getD_getElem?, z]
      exact ⟨L[i] :: M, by rw [List.filterMap_cons_some (here i l), m1]; rfl, by rw [List.filterMap_cons_some (List.getElem?_eq_getElem l), m2], by rw [List.map_cons, List.map_cons, m3, hd]⟩
  obtain ⟨M, m1, m2, m3⟩ := go order.toList fun i hi => List.mem_range.mp (pm.mem_iff.mp hi)
  refine ⟨M, by first | (rw [Array.toList_filterMap]; exact m1) | simpa using m1, ?_, m3⟩
  have all : ∀ n, n ≤ L.length → (List.range n).filterMap (L[·]?) = L.take n := by
    intro n
    induction n with
    | zero => exact fun _ => rfl
    | succ n ih =>
      intro l
      have ln : n < L.length := l
      rw [List.range_succ, List.filterMap_append, ih (by omega), List.take_succ, List.getElem?_eq_getElem ln, List.filterMap_cons_some (List.getElem?_eq_getElem ln)]
      rfl
  have z := pm.filterMap (L[·]?)
  rw [m2, all _ (Nat.le_refl _), List.take_length] at z
  exact z
theorem mid_perm {α : Type} (l : List α) (n : Nat) (x : α) : (l.take n ++ x :: l.drop n).Perm (x :: l) := by
  have z := List.perm_middle (a := x) (l₁ := l.take n) (l₂ := l.drop n)
  rwa [List.take_append_drop] at z
theorem rws_len (M : List (Addr × List I)) : (rws knd M).length = M.length := List.length_map ..
/-- a table that is too full is laid anew -/
theorem laid_anew {ob : Obj} (oa : s.heap.get? a = some ob) (ox : ob.ExactSet) (od : ob.data = .set es ep t) (hr : es.toList = rws knd L) (sz : t.place.size = es.size) (dm : t.dummies = #[]) (fl : es.size ≤ t.mask) (df : (L.map (·.2)).Nodup)
    (tp : ∀ e ∈ L, IsTupleKey knd s.heap e.2 e.1) (ol : w.params.followText "set-order" = true ∨ t.led = true) (fw : L.length < 64) {wish M : Nat} (e1 : SetTable.sizeAbove wish - 1 = M) (mk : MaskOk M) (e2 : SetTable.sizeAbove wish ≤ 128) (e3 : L.length * 5 < M * 3)
    {Q : Unit → Shared → Prop} (q : ∀ h' L' es' ep' t', Heap.SameBut a s.heap h' → Tbl knd h' a L' es' ep' t' → L'.Perm L → Q () { s with heap := h' }) : wpAny (model prog w) A (setRelay a wish) Q E s := by
  have n1 : es.size = L.length := by
    rw [← Array.length_toList, hr, rws_len]
  have ft : t.fits es.size = true := by
    unfold SetTable.fits SetTable.fill
    rw [dm, Bool.and_eq_true, beq_iff_eq, decide_eq_true_eq]
    exact ⟨sz, by show t.place.size + 0 ≤ t.mask; omega⟩
  obtain ⟨t', order, re, pm, tb', em, el, _, _⟩ := relaid_ok t (hs := es.map (·.1)) (wanted := wish) e1 mk (by rw [Array.size_map]; omega)
  rw [Array.size_map, n1] at pm
  obtain ⟨L2, r1, r2, r3⟩ := rows_by hr pm
  rw [← r3] at tb'
  have n2 : (order.filterMap (es[·]?)).size = L.length := by
    rw [← Array.length_toList, r1, rws_len, r2.length_eq]
  rw [setRelay_eq]
  refine wpAny_bind (wpAny_setState_of oa od ft ?_)
  dsimp only
  refine wp_if_neg (by rw [sizeLine_eq]; omega) ?_
  try refine wpAny_bind (wpAny_pure ?_)
  rw [re]
  dsimp only
  refine wpAny_bind (wp_if_neg (by rw [n2, n1]; simp) ?_)
  try refine wpAny_bind (wpAny_pure ?_)
  refine wpAny_pure ?_
  dsimp only
  refine wpAny_storeSet_of oa od ?_ (by rw [n2, sizeLine_eq]; omega)
  have sb : Heap.SameBut a s.heap (s.heap.update a (Obj.putSet (order.filterMap (es[·]?)) t')) := Heap.SameBut.update ..
  refine q _ L2 _ (ep + 1) t' sb ⟨⟨_, store_at oa od, ⟨ox.1, ox.2.1, ox.2.2⟩, rfl⟩, r1, tb', (r2.map (·.2)).nodup_iff.mpr df, fun e he => tup_but (tp e (r2.mem_iff.mp he)) oa od sb, by rw [el]; exact ol, by rw [r2.length_eq, em]; exact e3, by rw [r2.length_eq]; exact fw⟩ r2
/-- one is put in -/
theorem put_in {ks : List I} {x : Addr} (T : Tbl knd s.heap a L es ep t) (tx : IsTupleKey knd s.heap ks x) (hu : A.units < cLine) (fw : L.length + 1 < 64) {Q : Bool → Shared → Prop}
    (q : ∀ c h' L' es' ep' t', Heap.SameBut a s.heap h' → Tbl knd h' a L' es' ep' t' → (ks ∈ L.map (·.2) → L' = L) → (ks ∉ L.map (·.2) → L'.Perm ((x, ks) :: L)) → Q c { s with heap := h' }) :
    wpAny (model prog w) A (setAddHashed a (.ref x) (tupleKeyHash knd ks)) Q E s := by
  obtain ⟨ob, oa, ox, od⟩ := T.obj
  have n1 := T.many
  have fre := T.free
  unfold setAddHashed
  refine wpAny_holding ?_
  rw [show (100000 : Nat) = 99999 + 1 from rfl, setAddHashedIn_succ]
  refine wpAny_bind (wpAny_setState_of oa od T.fits ?_)
  dsimp only
  refine wp_if_neg (by simp [byScan, Value.scannable]) ?_
  try refine wpAny_bind (wpAny_pure ?_)
  refine wpAny_bind (looked T tx hu (fun m => ?_) fun n m nf nb => ?_)
  · dsimp only
    exact wpAny_pure (q false s.heap L es ep t (Heap.SameBut.refl a s.heap) T (fun _ => rfl) fun z => absurd m z)
  · dsimp only
    refine wpAny_bind (wpAny_setState_of oa od T.fits ?_)
    dsimp only
    obtain ⟨p1, p2, p3, p4, p5, _, _, _, p9⟩ := T.tb.put nf nb
    generalize hpt : t.put (way t.mask (tupleKeyHash knd ks) n) = pt at p1 p3 p4 p5 p9 ⊢
    obtain ⟨t1, pl⟩ := pt
    dsimp only at p1 p3 p4 p5 p9 ⊢
    subst p1
    generalize hpl : SetTable.below t.place (way t.mask (tupleKeyHash knd ks) n) = pl at p2 p3 ⊢
    have pm := mid_perm L pl (x, ks)
    have rows : (SetTable.insertAt es pl (tupleKeyHash knd ks, Value.ref x)).toList = rws knd (L.take pl ++ (x, ks) :: L.drop pl) := by
      rw [SetTable.toList_insertAt, T.rw_]
      unfold rws
      rw [List.map_append, List.map_cons, List.map_take, List.map_drop]
    have p3 : TabOk t1 ((L.take pl ++ (x, ks) :: L.drop pl).map fun e => tupleKeyHash knd e.2) := by
      rw [List.map_append, List.map_cons, List.map_take, List.map_drop]
      exact p3
    have n2 : (SetTable.insertAt es pl (tupleKeyHash knd ks, Value.ref x)).size = L.length + 1 := by
      rw [← Array.length_toList, rows, rws_len, pm.length_eq]
      rfl
    generalize SetTable.insertAt es pl (tupleKeyHash knd ks, Value.ref x) = es1 at rows n2 ⊢
    generalize L.take pl ++ (x, ks) :: L.drop pl = L1 at pm p3 rows
    have ln : L1.length = L.length + 1 := pm.length_eq
    have df1 : (L1.map (·.2)).Nodup := (pm.map (·.2)).nodup_iff.mpr (List.nodup_cons.mpr ⟨m, T.dif⟩)
    have rest : ∀ t2 : SetTable, TabOk t2 (L1.map fun e => tupleKeyHash knd e.2) → t2.mask = t.mask → t2.led = t.led → t2.fill = L.length + 1 → wpAny (model prog w) A (do
        storeSet a es1 t2
        if (!false && t2.tooFull) = true then do
          setRelay a (SetTable.grown (es.size + 1))
          pure true
        else pure true) Q E s := by
      intro t2 tb2 em el ef
      have z2 := tb2.sz
      rw [List.length_map, ln] at z2
      have sb : Heap.SameBut a s.heap (s.heap.update a (Obj.putSet es1 t2)) := Heap.SameBut.update ..
      have oa1 := store_at (es' := es1) (t' := t2) oa od
      refine wpAny_bind (wpAny_storeSet_of oa od ?_ (by rw [n2, sizeLine_eq]; omega))
      generalize s.heap.update a (Obj.putSet es1 t2) = h1 at sb oa1 ⊢
      have tps1 : ∀ e ∈ L1, IsTupleKey knd h1 e.2 e.1 := fun e he => by
        rcases List.mem_cons.mp (pm.mem_iff.mp he) with z | z
        · rw [z]
          exact tup_but tx oa od sb
        · exact tup_but (T.tps e z) oa od sb
      have ol : w.params.followText "set-order" = true ∨ t2.led = true := by
        rw [el]
        exact T.ord
      by_cases full : t2.tooFull = true
      · refine wp_if_pos (by simp [full]) ?_
        have fl : (L.length + 1) * 5 ≥ t2.mask * 3 := by
          have z := full
          unfold SetTable.tooFull at z
          rwa [decide_eq_true_eq, ef] at z
        have which : (t.mask = 7 ∧ L.length = 4) ∨ (t.mask = 31 ∧ L.length = 18) := by
          rcases T.tb.mok with e | e | e <;> rw [em, e] at fl <;> rw [e] at fre
          · exact .inl ⟨e, by omega⟩
          · exact .inr ⟨e, by omega⟩
          · omega
        have big : ∀ M, SetTable.sizeAbove (SetTable.grown (es.size + 1)) - 1 = M → MaskOk M → SetTable.sizeAbove (SetTable.grown (es.size + 1)) ≤ 128 → (L.length + 1) * 5 < M * 3 →
            wpAny (model prog w) A (setRelay a (SetTable.grown (es.size + 1)) >>= fun _ => pure true) Q E { s with heap := h1 } := fun M m1 m2 m3 m4 => by
          refine wpAny_bind (laid_anew (s := { s with heap := h1 }) (knd := knd) (L := L1) (es := es1) (t := t2) oa1 ⟨ox.1, ox.2.1, ox.2.2⟩ rfl rows (by rw [z2, n2]) tb2.dm (by rcases which with ⟨e, l⟩ | ⟨e, l⟩ <;> rw [n2, em, e] <;> omega) df1 tps1 ol (by omega) m1 m2 m3 (by rw [ln]; exact m4) fun h2 L2 es2 ep2 t3 sb2 T2 pm2 => ?_)
          exact wpAny_pure (q true h2 L2 es2 ep2 t3 (sb.trans sb2) T2 (fun z => absurd z m) fun _ => pm2.trans pm)
        rcases which with ⟨_, l⟩ | ⟨_, l⟩
        · exact big 31 (by rw [n1, l, size_20]) (.inr (.inl rfl)) (by rw [n1, l, size_20]; decide) (by omega)
        · exact big 127 (by rw [n1, l, size_76]) (.inr (.inr rfl)) (by rw [n1, l, size_76]; decide) (by omega)
      · refine wp_if_neg (by simp [full]) (wpAny_pure (q true h1 L1 es1 (ep + 1) t2 sb ⟨⟨_, oa1, ⟨ox.1, ox.2.1, ox.2.2⟩, rfl⟩, rows, tb2, df1, tps1, ol, ?_, by omega⟩ (fun z => absurd z m) fun _ => pm))
        have z := full
        unfold SetTable.tooFull at z
        rw [decide_eq_true_eq, ef] at z
        rw [ln]
        omega
    have off : TabOk { mask := t1.mask, place := t1.place, dummies := t1.dummies, finger := t1.finger, led := t1.led, moves := t1.moves, plain := false } (L1.map fun e => tupleKeyHash knd e.2) := ⟨p3.ris, p3.dm, p3.sz, p3.mok, p3.bd, p3.reach⟩
    have fi : t1.fill = L.length + 1 := by
      rw [p9, List.length_map]
    by_cases pn : t1.plain = true
    · refine wp_if_pos pn (wpAny_bind (tup_byv tx fun c => ?_))
      cases c with
      | true =>
        simp only [if_true]
        exact rest t1 p3 p4 p5 fi
      | false =>
        simp only [Bool.false_eq_true, if_false]
        exact rest _ off p4 p5 fi
    · refine wp_if_neg pn (wpAny_bind (wpAny_pure ?_))
      simp only [if_true]
      exact rest t1 p3 p4 p5 fi
end
end SX

set_option Elab.async false
set_option linter.all false
set_option maxRecDepth 100000
set_option maxHeartbeats 4000000
/-! Sets of tuples of any keys: set(list). -/
namespace SX
open PySem PySem.Spec PyProof.Rows L2
section
variable {I : Type}
/-- what stands in the set behind so many items of a list -/
structure Sofar (all : List (Addr × List I)) (n : Nat) (L : List (Addr × List I)) : Prop where
  of_ : ∀ e ∈ L, e ∈ all.take n
  has : ∀ e ∈ all.take n, e.2 ∈ L.map (·.2)
  le : L.length ≤ n
theorem Sofar.none_ (all : List (Addr × List I)) : Sofar all 0 [] := ⟨(fun e z => by cases z), (fun e z => by simp at z), Nat.le_refl _⟩
theorem take_more {α : Type} {l : List α} {n : Nat} {x : α} (e : l[n]? = some x) : l.take (n + 1) = l.take n ++ [x] := by
  rw [List.take_succ, e]
  rfl
theorem Sofar.known {all L : List (Addr × List I)} {n : Nat} {x : Addr × List I} (g : Sofar all n L) (e : all[n]? = some x) (m : x.2 ∈ L.map (·.2)) : Sofar all (n + 1) L := by
  refine ⟨fun y hy => ?_, fun y hy => ?_, Nat.le_succ_of_le g.le⟩ <;> rw [take_more e] at *
  · exact List.mem_append_left _ (g.of_ y hy)
  · rcases List.mem_append.mp hy with z | z
    · exact g.has y z
    · cases List.mem_singleton.mp z
      exact m
theorem Sofar.new_ {all L L' : List (Addr × List I)} {n : Nat} {x : Addr × List I} (g : Sofar all n L) (e : all[n]? = some x) (pm : L'.Perm (x :: L)) : Sofar all (n + 1) L' := by
  refine ⟨fun y hy => ?_, fun y hy => ?_, by rw [pm.length_eq]; exact Nat.succ_le_succ g.le⟩ <;> rw [take_more e] at *
  · rcases List.mem_cons.mp (pm.mem_iff.mp hy) with z | z
    · exact List.mem_append_right _ (List.mem_singleton.mpr z)
    · exact List.mem_append_left _ (g.of_ y z)
  · refine (pm.map (·.2)).mem_iff.mpr ?_
    rcases List.mem_append.mp hy with z | z
    · exact List.mem_cons_of_mem _ (g.has y z)
    · cases List.mem_singleton.mp z
      exact List.mem_cons_self ..
end
section
variable {prog : Program} {w : World} {I : Type} [DecidableEq I] {knd : KeyKind prog w I} {A : Around} {E : Value → Shared → Prop} {s : Shared}
theorem Tbl.on {h h' : Heap} {a : Addr} {L : List (Addr × List I)} {es : Array (Int × Value)} {ep : Nat} {t : SetTable} (T : Tbl knd h a L es ep t) (ka : ∀ o, h.get? a = some o → h'.get? a = some o) (tp : ∀ e ∈ L, IsTupleKey knd h' e.2 e.1) : Tbl knd h' a L es ep t := by
  obtain ⟨o, oa, r⟩ := T.obj
  exact ⟨⟨o, ka o oa, r⟩, T.rw_, T.tb, T.dif, tp, T.ord, T.free, T.few⟩
abbrev emptySet (w : World) : Obj := { cls := .type "set", dict := none, data := .set #[] 0 (.fresh 0 0 (!w.params.followText "set-order")) }
theorem tbl_new {h : Heap} {a : Addr} (e : h.get? a = some (emptySet w)) : Tbl knd h a [] #[] 0 (.fresh 0 0 (!w.params.followText "set-order")) := by
  refine ⟨⟨_, e, ⟨rfl, rfl, rfl⟩, rfl⟩, rfl, ⟨List.Pairwise.nil, rfl, rfl, .inl rfl, (fun x z => by cases z), (fun i g j z => by simp at z)⟩, List.nodup_nil, (fun e z => by cases z), ?_, by show 0 * 5 < 7 * 3; decide, by show 0 < 64; decide⟩
  show _ ∨ (!w.params.followText "set-order") = true
  cases w.params.followText "set-order" with
  | true => exact .inl rfl
  | false => exact .inr rfl
theorem fill_loop {J : Addr} {fp wr : List Addr} {G : Array GenState → Array GenState → Prop} {n : Nat} {Y : Nat → Value → Prop} {St : Nat → Shared → Prop} {R : Result → Shared → Prop} (W : WalksS prog w A.in1 J fp wr G n Y St) {S : Addr} (nS : S ∉ fp)
    {all : List (Addr × List I)} (en : n = all.length) (fw : all.length < 64) (val : ∀ i v, Y i v → ∃ e, all[i]? = some e ∧ v = .ref e.1) {h0 : Heap} (tp : ∀ e ∈ all, IsTupleKey knd h0 e.2 e.1) (zS : h0.get? S = none) (zw : ∀ b ∈ wr, h0.get? b = none) (hu : A.in1.units < cLine) :
    ∀ (k i : Nat) (s : Shared), n - i = k → i ≤ n → St i s → (∀ b o, h0.get? b = some o → s.heap.get? b = some o) → (∃ L es ep t, Tbl knd s.heap S L es ep t ∧ Sofar all i L) →
      (∀ s' L es ep t, Moved (S :: wr) G s s' → Tbl knd s'.heap S L es ep t → Sofar all n L → (∀ b o, h0.get? b = some o → s'.heap.get? b = some o) → R (.ok (.ret .none)) s') →
      codeAny (model prog w) A (.builtin "set.update.loop" ⟨[.ref S, .ref J], []⟩) R s := by
  have nw : S ∉ wr := fun z => nS (W.sub _ z)
  have up : ∀ b ∈ wr, b ∈ S :: wr := fun b hb => List.mem_cons_of_mem _ hb
  have old : ∀ {s s' : Shared}, Moved wr G s s' → (∀ b o, h0.get? b = some o → s.heap.get? b = some o) → ∀ b o, h0.get? b = some o → s'.heap.get? b = some o := fun mv k b o e => by
    refine mv.heap b o (fun hb => ?_) (k b o e)
    rw [zw b hb] at e
    cases e
  intro k
  induction k with
  | zero =>
    rintro i s ek il st kp ⟨L, es, ep, t, T, g⟩ r
    obtain rfl : i = n := by omega
    refine codeAny_builtin F.entry_set_update_loop ?_
    rw [Around.under_plainId F.plain_set_update_loop _]
    show wpAny _ A.in1 (pyNext (.ref J) >>= _) _ _ s
    refine wpAny_bind (W.done s _ _ st fun s' mv => ?_)
    show wpAny _ A.in1 (ret Value.none) _ _ s'
    have kp' := old mv kp
    exact wpAny_pure (r s' L es ep t (mv.mono up) (T.on (fun o e => mv.heap S o nw e) fun e he => tup_on (tp e (List.mem_of_mem_take (g.of_ e he))) kp') g kp')
  | succ k ih =>
    rintro i s ek il st kp ⟨L, es, ep, t, T, g⟩ r
    have lt : i < n := by omega
    refine codeAny_builtin F.entry_set_update_loop ?_
    rw [Around.under_plainId F.plain_set_update_loop _]
    show wpAny _ A.in1 (pyNext (.ref J) >>= _) _ _ s
    refine wpAny_bind (W.item i s _ _ lt st fun v s' yv st' mv => ?_)
    obtain ⟨e, he, rfl⟩ := val i v yv
    have kp' := old mv kp
    have T' : Tbl knd s'.heap S L es ep t := T.on (fun o q => mv.heap S o nw q) fun y hy => tup_on (tp y (List.mem_of_mem_take (g.of_ y hy))) kp'
    have te : IsTupleKey knd s'.heap e.2 e.1 := tup_on (tp e (List.mem_of_getElem? he)) kp'
    have gl := g.le
    show wpAny _ A.in1 (holding [Value.ref e.1] (setAdd S (.ref e.1)) >>= _) _ _ s'
    refine wpAny_bind (wpAny_holding ?_)
    unfold setAdd
    refine wpAny_holding (wpAny_bind (wpAny_pyHash_tuple hu te ?_))
    refine put_in (s := { s' with toks := s'.toks + (e.2.length + 1) }) T' te hu (by omega) fun c h' L' es' ep' t' sb T2 c1 c2 => ?_
    have g' : Sofar all (i + 1) L' := by
      by_cases m : e.2 ∈ L.map (·.2)
      · rw [c1 m]
        exact g.known he m
      · exact g.new_ he (c2 m)
    have kp2 : ∀ b o, h0.get? b = some o → h'.get? b = some o := fun b o q => (sb.2 b fun z => by
      rw [z, zS] at q
      cases q).trans (kp' b o q)
    refine wpAny_pure ⟨plainId_quiet F.plain_set_update_loop _, ih (i + 1) _ (by omega) lt (W.frame _ s' _ _ st' (Nat.le_add_right _ _) fun b hb o q => ?_) kp2 ⟨L', es', ep', t', T2, g'⟩ fun s2 L2 es2 ep2 t2 mv2 T3 g3 kp3 => ?_⟩
    · rw [sb.2 b fun z => nS (z ▸ hb)]
      exact q
    · refine r s2 L2 es2 ep2 t2 (Moved.trans W.gtrans ((mv.mono up).then_heap (Nat.le_add_right _ _) fun b o hb q => ?_) mv2) T3 g3 kp3
      rw [sb.2 b fun z => hb (z ▸ List.mem_cons_self ..)]
      exact q
end
end SX

set_option Elab.async false
set_option linter.all false
set_option maxRecDepth 100000
set_option maxHeartbeats 4000000
/-! Sets of tuples of any keys: the call set(list). -/
namespace SX
open PySem PySem.Spec PyProof.Rows L2
section
variable {prog : Program} {w : World} {I : Type} [DecidableEq I] {knd : KeyKind prog w I} {A : Around} {E : Value → Shared → Prop} {s : Shared}
theorem made {l : Addr} {vs : Array Value} {all : List (Addr × List I)} {Q : Value → Shared → Prop} (nh : A.handled = none) (il : s.heap.IsList l vs) (ev : vs.toList = all.map fun e => Value.ref e.1) (tp : ∀ e ∈ all, IsTupleKey knd s.heap e.2 e.1) (fw : all.length < 64)
    (hu : A.units + 3 < cLine) (q : ∀ (h' : Heap) (tk : Nat) L es ep t, Tbl knd h' s.heap.objs.size L es ep t → Sofar all all.length L → (∀ b o, s.heap.get? b = some o → h'.get? b = some o) → Q (.ref s.heap.objs.size) { s with heap := h', toks := tk }) :
    wpAny (model prog w) A (call (.type "set") [.ref l]) Q E s := by
  have n0 : vs.size = all.length := by
    rw [← Array.length_toList, ev, List.length_map]
  obtain ⟨m1, m2, mro⟩ := F.called_set.mro
  have f1 := F.called_set.made
  have f2 := F.called_set.sub
  have f3 := F.called_set.notType
  have f4 := F.called_set.canCreate
  have f5 := F.typeCall_set_1 (.ref l)
  refine wpAny_call (codeAny_of_tree ?_)
  show wpAny _ _ (callAny (.type "set") _) _ _ _
  refine wpAny_pure ⟨Code.quiet_builtin _ (by decide +kernel), codeAny_builtin F.entry_type_call ?_⟩
  rw [Around.under_plain (weight_type_call_type "set" [.ref l] []) rfl]
  repeat any_goals (first | assumption | wp_step)
  refine codeAny_mono (code_set_led1 (.ref l) (E := E) (Q₁ := fun v s1 => v = .ref s.heap.objs.size ∧ s1 = { s with heap := s.heap.push (emptySet w) }) ⟨rfl, rfl⟩) fun fl s1 r1 => ?_
  match fl, r1 with
  | .error e, r1 => exact r1
  | .ok .next, r1 => exact r1.elim
  | .ok .brk, r1 => exact r1.elim
  | .ok .cont, r1 => exact r1.elim
  | .ok (.ret v), r1 =>
    obtain ⟨rfl, rfl⟩ := r1
    have at_ : (s.heap.push (emptySet w)).get? s.heap.objs.size = some (emptySet w) := Heap.get?_push_size _ rfl
    have ty : Shared.TypeIs { s with heap := s.heap.push (emptySet w) } (.ref s.heap.objs.size) "set" := ⟨_, at_, rfl⟩
    have g1 := F.called_set.init.lookup
    have g2 := F.called_set.init.bind (.ref s.heap.objs.size)
    repeat any_goals (first | assumption | wp_step)
    refine codeAny_mono (codeAny_call_builtin (R := wants (fun r s2 => r = .none ∧ ∃ h' tk L es ep t, s2 = { s with heap := h', toks := tk } ∧ Tbl knd h' s.heap.objs.size L es ep t ∧ Sofar all all.length L ∧ (∀ b o, s.heap.get? b = some o → h'.get? b = some o)) E)
      F.called_set.init.plain F.entry_set_init (check_set_init_1 ty ?_)) fun fl2 s2 r2 => ?_
    · obtain ⟨ol, oa, oc, on, od⟩ := il
      obtain ⟨cls0, dict0, data0, slots0⟩ := ol
      simp only at oc od
      subst oc
      subst od
      have oa1 : (s.heap.push (emptySet w)).get? l = some { cls := .type "list", dict := dict0, data := .seq vs on, slots := slots0 } := Heap.get?_push_of_some _ oa
      have t1 := F.sub_list_set
      have t2 := F.sub_list_frozenset
      have t3 : (Value.type "list" == Value.type "dict") = false := by decide
      have il1 : (s.heap.push (emptySet w)).IsList l vs := ⟨_, oa1, rfl, on, rfl⟩
      unfold Builtin.«set.__init__» noKeywords Builtin.Frozenset.updateFrom
      generalize eP : pyIter = PI
      wp_walk
      subst eP
      refine wpAny_pyIter_list il1 (wpAny_bind (wpAny_runValue ?_))
      have lt : l < s.heap.objs.size := Heap.lt_size oa
      have z1 : (s.heap.push (emptySet w)).objs.size = s.heap.objs.size + 1 := Heap.size_push ..
      have d1 : l ≠ (s.heap.push (emptySet w)).objs.size := by
        rw [z1]
        exact Nat.ne_of_lt (Nat.lt_succ_of_lt lt)
      have d2 : s.heap.objs.size ∉ [(s.heap.push (emptySet w)).objs.size, l] := by
        rw [z1]
        simp only [List.mem_cons, List.not_mem_nil, or_false, not_or]
        exact ⟨Nat.ne_of_lt (Nat.lt_succ_self _), Nat.ne_of_gt lt⟩
      have val : ∀ (i : Nat) (v : Value), vs[i]? = some v → ∃ e, all[i]? = some e ∧ v = .ref e.1 := fun i v hv => by
        rw [← Array.getElem?_toList, ev, List.getElem?_map] at hv
        obtain ⟨e, he, z⟩ := Option.map_eq_some_iff.mp hv
        exact ⟨e, he, z.symm⟩
      have gone : ∀ b, s.heap.objs.size ≤ b → s.heap.get? b = none := fun b hb => by
        cases z : s.heap.get? b with
        | none => rfl
        | some o => exact absurd (Nat.lt_of_lt_of_le (Heap.lt_size z) hb) (Nat.lt_irrefl _)
      refine fill_loop ((Walks.list (by simp [nh]) _ l d1 vs).toS) d2 n0 fw val tp (gone _ (Nat.le_refl _)) (fun b hb => gone b (by
          rw [List.mem_singleton.mp hb, z1]
          exact Nat.le_succ _)) hu (vs.size - 0) 0 _ (by omega) (Nat.zero_le _) ⟨⟨_, Heap.get?_push_size _ rfl, rfl, rfl⟩, il1.push _⟩ (fun b o e => Heap.get?_push_of_some _ (Heap.get?_push_of_some _ e)) ?start ?stop
      case start => exact ⟨[], #[], 0, _, tbl_new (Heap.get?_push_of_some _ at_), Sofar.none_ all⟩
      case stop =>
        intro s3 L es ep t mv T g kp
        obtain ⟨h3, g3, dr3, tk3, os3⟩ := s3
        have e1 : g3 = s.gens := mv.gens
        have e2 : dr3 = s.drawn := mv.drawn
        have e3 : os3 = s.os := mv.os
        subst e1
        subst e2
        subst e3
        show wpAny _ _ _ _ _ _
        refine wpAny_pure ?_
        show wpAny _ _ (ret Value.none) _ _ _
        rw [n0] at g
        exact wpAny_pure ⟨rfl, h3, tk3, L, es, ep, t, rfl, T, g, kp⟩
    · match fl2, r2 with
      | .error e, r2 => exact r2
      | .ok .next, r2 => exact r2.elim
      | .ok .brk, r2 => exact r2.elim
      | .ok .cont, r2 => exact r2.elim
      | .ok (.ret r), r2 =>
        obtain ⟨rfl, h', tk, L, es, ep, t, rfl, T, g, kp⟩ := r2
        repeat any_goals (first | assumption | wp_step)
        exact q _ _ _ _ _ _ T g kp
end
end SX

set_option Elab.async false
set_option linter.all false
set_option maxRecDepth 100000
set_option maxHeartbeats 4000000
/-! Sets of ints: the call set(list). -/
namespace SX
open PySem PySem.Spec PyProof.Rows L2
section
variable {prog : Program} {w : World} {A : Around} {E : Value → Shared → Prop} {s : Shared}
theorem madeI {l : Addr} {vs : Array Value} {ns : List Int} {Q : Value → Shared → Prop} (nh : A.handled = none) (il : s.heap.IsList l vs) (ev : IntsAre vs.toList ns) (fw : ns.length + 1 < scanBound)
    (q : ∀ (h' : Heap) (tk c : Nat), c ≤ ns.length → SetR w h' s.heap.objs.size (fun j => decide (j ∈ ns)) c → (∀ b o, s.heap.get? b = some o → h'.get? b = some o) → Q (.ref s.heap.objs.size) { s with heap := h', toks := tk }) :
    wpAny (model prog w) A (call (.type "set") [.ref l]) Q E s := by
  have n0 : vs.size = ns.length := by
    rw [← Array.length_toList]
    exact ev.length
  obtain ⟨m1, m2, mro⟩ := F.called_set.mro
  have f1 := F.called_set.made
  have f2 := F.called_set.sub
  have f3 := F.called_set.notType
  have f4 := F.called_set.canCreate
  have f5 := F.typeCall_set_1 (.ref l)
  refine wpAny_call (codeAny_of_tree ?_)
  show wpAny _ _ (callAny (.type "set") _) _ _ _
  refine wpAny_pure ⟨Code.quiet_builtin _ (by decide +kernel), codeAny_builtin F.entry_type_call ?_⟩
  rw [Around.under_plain (weight_type_call_type "set" [.ref l] []) rfl]
  repeat any_goals (first | assumption | wp_step)
  refine codeAny_mono (code_set_led1 (.ref l) (E := E) (Q₁ := fun v s1 => v = .ref s.heap.objs.size ∧ s1 = { s with heap := s.heap.push (emptySet w) }) ⟨rfl, rfl⟩) fun fl s1 r1 => ?_
  match fl, r1 with
  | .error e, r1 => exact r1
  | .ok .next, r1 => exact r1.elim
  | .ok .brk, r1 => exact r1.elim
  | .ok .cont, r1 => exact r1.elim
  | .ok (.ret v), r1 =>
    obtain ⟨rfl, rfl⟩ := r1
    have at_ : (s.heap.push (emptySet w)).get? s.heap.objs.size = some (emptySet w) := Heap.get?_push_size _ rfl
    have ty : Shared.TypeIs { s with heap := s.heap.push (emptySet w) } (.ref s.heap.objs.size) "set" := ⟨_, at_, rfl⟩
    have g1 := F.called_set.init.lookup
    have g2 := F.called_set.init.bind (.ref s.heap.objs.size)
    repeat any_goals (first | assumption | wp_step)
    refine codeAny_mono (codeAny_call_builtin (R := wants (fun r s2 => r = .none ∧ ∃ h' tk c, s2 = { s with heap := h', toks := tk } ∧ c ≤ ns.length ∧ SetR w h' s.heap.objs.size (fun j => decide (j ∈ ns)) c ∧ (∀ b o, s.heap.get? b = some o → h'.get? b = some o)) E)
      F.called_set.init.plain F.entry_set_init (check_set_init_1 ty ?_)) fun fl2 s2 r2 => ?_
    · obtain ⟨ol, oa, oc, on, od⟩ := il
      obtain ⟨cls0, dict0, data0, slots0⟩ := ol
      simp only at oc od
      subst oc
      subst od
      have oa1 : (s.heap.push (emptySet w)).get? l = some { cls := .type "list", dict := dict0, data := .seq vs on, slots := slots0 } := Heap.get?_push_of_some _ oa
      have t1 := F.sub_list_set
      have t2 := F.sub_list_frozenset
      have t3 : (Value.type "list" == Value.type "dict") = false := by decide
      have il1 : (s.heap.push (emptySet w)).IsList l vs := ⟨_, oa1, rfl, on, rfl⟩
      unfold Builtin.«set.__init__» noKeywords Builtin.Frozenset.updateFrom
      generalize eP : pyIter = PI
      wp_walk
      subst eP
      refine wpAny_pyIter_list il1 (wpAny_bind (wpAny_runValue ?_))
      have lt : l < s.heap.objs.size := Heap.lt_size oa
      have z1 : (s.heap.push (emptySet w)).objs.size = s.heap.objs.size + 1 := Heap.size_push ..
      have d1 : l ≠ (s.heap.push (emptySet w)).objs.size := by
        rw [z1]
        exact Nat.ne_of_lt (Nat.lt_succ_of_lt lt)
      have d2 : s.heap.objs.size ∉ [(s.heap.push (emptySet w)).objs.size, l] := by
        rw [z1]
        simp only [List.mem_cons, List.not_mem_nil, or_false, not_or]
        exact ⟨Nat.ne_of_lt (Nat.lt_succ_self _), Nat.ne_of_gt lt⟩
      have val : ∀ (i : Nat) (v : Value), vs[i]? = some v → ∃ k t, ns[i]? = some k ∧ v = .int k t := fun i v hv => by
        have hv2 : vs.toList[i]? = some v := by rw [Array.getElem?_toList]; exact hv
        have il2 := (List.getElem?_eq_some_iff.mp hv2).1
        have in2 : i < ns.length := by rw [← n0]; simpa using il2
        obtain ⟨tk, z⟩ := ev.get i _ (List.getElem?_eq_getElem in2)
        rw [hv2] at z
        exact ⟨_, tk, List.getElem?_eq_getElem in2, Option.some.inj z⟩
      have gone : ∀ b, s.heap.objs.size ≤ b → s.heap.get? b = none := fun b hb => by
        cases z : s.heap.get? b with
        | none => rfl
        | some o => exact absurd (Nat.lt_of_lt_of_le (Heap.lt_size z) hb) (Nat.lt_irrefl _)
      refine set_update_ints ((Walks.list (by simp [nh]) _ l d1 vs).toS) s.heap.objs.size d2 ns n0 fw val (vs.size - 0) 0 _ (by omega) (Nat.zero_le _) ⟨⟨_, Heap.get?_push_size _ rfl, rfl, rfl⟩, il1.push _⟩ ⟨0, Nat.le_refl _, setR_new_at (Heap.get?_push_of_some _ at_)⟩ ?stop
      intro s3 c mv cc R
      have kp : ∀ b o, s.heap.get? b = some o → s3.heap.get? b = some o := fun b o e => by
        refine mv.heap b o (fun hm => ?_) (Heap.get?_push_of_some _ (Heap.get?_push_of_some _ e))
        rcases List.mem_cons.mp hm with hm | hm
        · rw [hm, gone _ (Nat.le_refl _)] at e
          cases e
        · rw [List.mem_singleton.mp hm, gone _ (by rw [z1]; exact Nat.le_succ _)] at e
          cases e
      obtain ⟨h3, g3, dr3, tk3, os3⟩ := s3
      have e1 : g3 = s.gens := mv.gens
      have e2 : dr3 = s.drawn := mv.drawn
      have e3 : os3 = s.os := mv.os
      subst e1
      subst e2
      subst e3
      show wpAny _ _ _ _ _ _
      refine wpAny_pure ?_
      show wpAny _ _ (ret Value.none) _ _ _
      rw [n0] at cc
      exact wpAny_pure ⟨rfl, h3, tk3, c, rfl, cc, R, kp⟩
    · match fl2, r2 with
      | .error e, r2 => exact r2
      | .ok .next, r2 => exact r2.elim
      | .ok .brk, r2 => exact r2.elim
      | .ok .cont, r2 => exact r2.elim
      | .ok (.ret r), r2 =>
        obtain ⟨rfl, h', tk, c, rfl, cc, R, kp⟩ := r2
        repeat any_goals (first | assumption | wp_step)
        exact q _ _ _ cc R kp
end
end SX

set_option Elab.async false
set_option linter.all false
set_option maxRecDepth 100000
set_option maxHeartbeats 4000000
/-! Sets of texts: one text more. -/
namespace SX
open PySem PySem.Spec PyProof.Rows L2 PySem.Froz
section
variable {P : Program} {w : World} {A : Around} {E : Value → Shared → Prop} {s : Shared}
/-- the set at a holds the texts l -/
def TS (P : Program) (w : World) (h : Heap) (a : Addr) (l : List Str) : Prop := ∃ D : SD, h.get? a = some (sObj "set" D) ∧ TxOk P w D l ∧ l.Nodup ∧ Ris D.2.2.place.toList ∧ (w.params.followText "set-order" = true ∨ D.2.2.led = true)
theorem TS.at_ {h h' : Heap} {a : Addr} {l : List Str} (T : TS P w h a l) (k : ∀ o, h.get? a = some o → h'.get? a = some o) : TS P w h' a l := by
  obtain ⟨D, ho, r⟩ := T
  exact ⟨D, k _ ho, r⟩
theorem tail_ris {ep : Nat} {es : Array (Int × Value)} {t : SetTable} {b : Bool} (r : Ris t.place.toList) : Ris (tailTx ep es t b).2.2.place.toList ∧ (tailTx ep es t b).2.2.led = t.led := by
  unfold tailTx
  split
  · exact ⟨relayAll_ris .., relayAll_led ..⟩
  · exact ⟨r, rfl⟩
theorem add_ris {D : SD} {g : Int} {v : Value} (r : Ris D.2.2.place.toList) : Ris (addTx g v D).2.2.place.toList ∧ (addTx g v D).2.2.led = D.2.2.led := by
  obtain ⟨es, ep, t⟩ := D
  have r1 := layNew_ris t es g v r
  have l1 := layNew_led t es g v
  unfold addTx
  by_cases c : (layNew t es g v).2.1.plain = true
  · have z := tail_ris (ep := ep) (es := (layNew t es g v).1) (t := { (layNew t es g v).2.1 with plain := false }) (b := (layNew t es g v).2.2.1) r1
    simp only [c, if_true] at z ⊢
    exact ⟨z.1, z.2.trans l1⟩
  · have z := tail_ris (ep := ep) (es := (layNew t es g v).1) (t := (layNew t es g v).2.1) (b := (layNew t es g v).2.2.1) r1
    simp only [c] at z ⊢
    exact ⟨z.1, z.2.trans l1⟩
/-- one that is there -/
theorem had_x {a : Addr} {T : String} {D : SD} {l : List Str} {k : Str} {u : Tok} {Q : Bool → Shared → Prop} (ho : s.heap.get? a = some (sObj T D)) (F : TxOk P w D l) (hk : k ∈ l) (hb : l.length < scanBound) (q : Q false s) :
    wpAny (model P w) A (setAddHashed a (.str k u) (hashStr w k)) Q E s := by
  obtain ⟨es, ep, t⟩ := D
  have d : (sObj T (es, ep, t)).data = .set es ep t := rfl
  have el : ElemsOf (strKind P w) es.toList := F.el
  have sz : es.size = l.length := F.sz
  obtain ⟨e, he, hi⟩ := (F.mem k).mp hk
  unfold setAddHashed setAddHashedIn
  refine wpAny_holding (wpAny_bind (wpAny_setState_of ho d F.fit ?_))
  show wpAny _ _ _ _ _ _
  dsimp only
  rw [byScan_of rfl (show es.size < scanBound by omega) el]
  rw [if_pos rfl]
  unfold setAddByScan
  refine wpAny_bind (wpAny_bind (wpAny_rule (wpAny_bind (wpAny_setScan_of (knd := strKind P w) (k := k) (is_str k u) ho d F.fit el ?_))))
  cases c : List.findIdx? (fun e => (strKind P w).is k e.2) es.toList with
  | none =>
    have z := List.findIdx?_eq_none_iff.mp c e he
    rw [hi] at z
    cases z
  | some j =>
    dsimp only
    exact wpAny_pure (wpAny_pure q)
theorem ts_add {a : Addr} {l : List Str} {k : Str} {u : Tok} {Q : Bool → Shared → Prop} (T : TS P w s.heap a l) (hb : l.length + 1 < scanBound)
    (q : ∀ (b : Bool) h', Heap.SameBut a s.heap h' → TS P w h' a (if k ∈ l then l else k :: l) → Q b { s with heap := h' }) : wpAny (model P w) A (setAddHashed a (.str k u) (hashStr w k)) Q E s := by
  obtain ⟨D, ho, F, nd, r, le⟩ := T
  by_cases c : k ∈ l
  · rw [if_pos c] at q
    exact had_x ho F c (by omega) (q false s.heap (Heap.SameBut.refl a s.heap) ⟨D, ho, F, nd, r, le⟩)
  · rw [if_neg c] at q
    obtain ⟨r1, r2⟩ := add_ris (g := hashStr w k) (v := .str k u) r
    refine add_x ho F c hb (q true _ (Heap.SameBut.update ..) ⟨_, get_upd _ ho rfl, add_ok u F, List.nodup_cons.mpr ⟨c, nd⟩, r1, ?_⟩)
    rw [r2]
    exact le
end
end SX

set_option Elab.async false
set_option linter.all false
set_option maxRecDepth 100000
set_option maxHeartbeats 4000000
/-! Sets of texts: the call set(list). -/
namespace SX
open PySem PySem.Spec PyProof.Rows L2 PySem.Froz
section
variable {prog : Program} {w : World} {A : Around} {E : Value → Shared → Prop} {s : Shared}
theorem fresh_fits (b : Bool) : SetTable.fits (.fresh 0 0 b) 0 = true := by cases b <;> decide
theorem fresh_ris (b : Bool) : Ris (SetTable.fresh 0 0 b).place.toList := by cases b <;> exact List.Pairwise.nil
theorem ts_new {h : Heap} {a : Addr} (e : h.get? a = some (emptySet w)) : TS prog w h a [] := by
  refine ⟨(#[], 0, .fresh 0 0 (!w.params.followText "set-order")), e, TxOk.nil (fresh_fits _), List.nodup_nil, fresh_ris _, ?_⟩
  show _ ∨ (!w.params.followText "set-order") = true
  cases w.params.followText "set-order" with
  | true => exact .inl rfl
  | false => exact .inr rfl
theorem fill_txt {J : Addr} {fp wr : List Addr} {G : Array GenState → Array GenState → Prop} {n : Nat} {Y : Nat → Value → Prop} {St : Nat → Shared → Prop} {R : Result → Shared → Prop} (W : WalksS prog w A.in1 J fp wr G n Y St) {S : Addr} (nS : S ∉ fp)
    {xs : List Str} (en : n = xs.length) (fw : xs.length + 1 < scanBound) (val : ∀ i v, Y i v → ∃ x t, xs[i]? = some x ∧ v = .str x t) :
    ∀ (k i : Nat) (s : Shared), n - i = k → i ≤ n → St i s → (∃ m : List Str, m.length ≤ i ∧ (∀ x, x ∈ m ↔ x ∈ xs.take i) ∧ TS prog w s.heap S m) →
      (∀ s' (m : List Str), Moved (S :: wr) G s s' → m.length ≤ n → (∀ x, x ∈ m ↔ x ∈ xs) → TS prog w s'.heap S m → R (.ok (.ret .none)) s') →
      codeAny (model prog w) A (.builtin "set.update.loop" ⟨[.ref S, .ref J], []⟩) R s := by
  have nw : S ∉ wr := fun z => nS (W.sub _ z)
  have up : ∀ b ∈ wr, b ∈ S :: wr := fun b hb => List.mem_cons_of_mem _ hb
  intro k
  induction k with
  | zero =>
    rintro i s ek il st ⟨m, lm, mm, T⟩ r
    obtain rfl : i = n := by omega
    refine codeAny_builtin F.entry_set_update_loop ?_
    rw [Around.under_plainId F.plain_set_update_loop _]
    show wpAny _ A.in1 (pyNext (.ref J) >>= _) _ _ s
    refine wpAny_bind (W.done s _ _ st fun s' mv => ?_)
    show wpAny _ A.in1 (ret Value.none) _ _ s'
    rw [List.take_of_length_le (by omega)] at mm
    exact wpAny_pure (r s' m (mv.mono up) lm mm (T.at_ fun o e => mv.heap S o nw e))
  | succ k ih =>
    rintro i s ek il st ⟨m, lm, mm, T⟩ r
    have lt : i < n := by omega
    refine codeAny_builtin F.entry_set_update_loop ?_
    rw [Around.under_plainId F.plain_set_update_loop _]
    show wpAny _ A.in1 (pyNext (.ref J) >>= _) _ _ s
    refine wpAny_bind (W.item i s _ _ lt st fun v s' yv st' mv => ?_)
    obtain ⟨x, tk, hx, rfl⟩ := val i v yv
    have T' : TS prog w s'.heap S m := T.at_ fun o q => mv.heap S o nw q
    show wpAny _ A.in1 (holding [Value.str x tk] (setAdd S (.str x tk)) >>= _) _ _ s'
    refine wpAny_bind (wpAny_holding ?_)
    unfold setAdd
    refine wpAny_holding (wpAny_bind ((strKind prog w).pyHash (k := x) (is_str x tk) ?_))
    refine ts_add (s := { s' with toks := s'.toks + 1 }) T' (by omega) fun b h' sb T2 => ?_
    refine wpAny_pure ⟨plainId_quiet F.plain_set_update_loop _, ih (i + 1) _ (by omega) lt (W.frame _ s' _ _ st' (Nat.le_succ _) fun c hc o q => ?_) ⟨_, ?_, fun y => ?_, T2⟩ fun s2 m2 mv2 l2 mm2 T3 => ?_⟩
    · rw [sb.2 c fun z => nS (z ▸ hc)]
      exact q
    · split
      · omega
      · rw [List.length_cons]
        omega
    · rw [take_more hx, List.mem_append, List.mem_singleton, ← mm y]
      by_cases c : x ∈ m
      · rw [if_pos c]
        exact ⟨.inl, fun z => z.elim id fun e => e ▸ c⟩
      · rw [if_neg c, List.mem_cons]
        exact Or.comm
    · refine r s2 m2 (Moved.trans W.gtrans ((mv.mono up).then_heap (Nat.le_succ _) fun c o hc q => ?_) mv2) l2 mm2 T3
      rw [sb.2 c fun z => hc (z ▸ List.mem_cons_self ..)]
      exact q
theorem madeT {l : Addr} {vs : Array Value} {ns : List Str} {Q : Value → Shared → Prop} (nh : A.handled = none) (il : s.heap.IsList l vs) (ev : StrsAre vs.toList ns) (fw : ns.length + 1 < scanBound)
    (q : ∀ (h' : Heap) (tk : Nat) (m : List Str), m.length ≤ ns.length → (∀ x, x ∈ m ↔ x ∈ ns) → TS prog w h' s.heap.objs.size m → (∀ b o, s.heap.get? b = some o → h'.get? b = some o) → Q (.ref s.heap.objs.size) { s with heap := h', toks := tk }) :
    wpAny (model prog w) A (call (.type "set") [.ref l]) Q E s := by
  have n0 : vs.size = ns.length := by
    rw [← Array.length_toList]
    exact ev.length
  obtain ⟨m1, m2, mro⟩ := F.called_set.mro
  have f1 := F.called_set.made
  have f2 := F.called_set.sub
  have f3 := F.called_set.notType
  have f4 := F.called_set.canCreate
  have f5 := F.typeCall_set_1 (.ref l)
  refine wpAny_call (codeAny_of_tree ?_)
  show wpAny _ _ (callAny (.type "set") _) _ _ _
  refine wpAny_pure ⟨Code.quiet_builtin _ (by decide +kernel), codeAny_builtin F.entry_type_call ?_⟩
  rw [Around.under_plain (weight_type_call_type "set" [.ref l] []) rfl]
  repeat any_goals (first | assumption | wp_step)
  refine codeAny_mono (code_set_led1 (.ref l) (E := E) (Q₁ := fun v s1 => v = .ref s.heap.objs.size ∧ s1 = { s with heap := s.heap.push (emptySet w) }) ⟨rfl, rfl⟩) fun fl s1 r1 => ?_
  match fl, r1 with
  | .error e, r1 => exact r1
  | .ok .next, r1 => exact r1.elim
  | .ok .brk, r1 => exact r1.elim
  | .ok .cont, r1 => exact r1.elim
  | .ok (.ret v), r1 =>
    obtain ⟨rfl, rfl⟩ := r1
    have at_ : (s.heap.push (emptySet w)).get? s.heap.objs.size = some (emptySet w) := Heap.get?_push_size _ rfl
    have ty : Shared.TypeIs { s with heap := s.heap.push (emptySet w) } (.ref s.heap.objs.size) "set" := ⟨_, at_, rfl⟩
    have g1 := F.called_set.init.lookup
    have g2 := F.called_set.init.bind (.ref s.heap.objs.size)
    repeat any_goals (first | assumption | wp_step)
    refine codeAny_mono (codeAny_call_builtin (R := wants (fun r s2 => r = .none ∧ ∃ h' tk m, s2 = { s with heap := h', toks := tk } ∧ List.length m ≤ ns.length ∧ (∀ x, x ∈ m ↔ x ∈ ns) ∧ TS prog w h' s.heap.objs.size m ∧ (∀ b o, s.heap.get? b = some o → h'.get? b = some o)) E)
      F.called_set.init.plain F.entry_set_init (check_set_init_1 ty ?_)) fun fl2 s2 r2 => ?_
    · obtain ⟨ol, oa, oc, on, od⟩ := il
      obtain ⟨cls0, dict0, data0, slots0⟩ := ol
      simp only at oc od
      subst oc
      subst od
      have oa1 : (s.heap.push (emptySet w)).get? l = some { cls := .type "list", dict := dict0, data := .seq vs on, slots := slots0 } := Heap.get?_push_of_some _ oa
      have t1 := F.sub_list_set
      have t2 := F.sub_list_frozenset
      have t3 : (Value.type "list" == Value.type "dict") = false := by decide
      have il1 : (s.heap.push (emptySet w)).IsList l vs := ⟨_, oa1, rfl, on, rfl⟩
      unfold Builtin.«set.__init__» noKeywords Builtin.Frozenset.updateFrom
      generalize eP : pyIter = PI
      wp_walk
      subst eP
      refine wpAny_pyIter_list il1 (wpAny_bind (wpAny_runValue ?_))
      have lt : l < s.heap.objs.size := Heap.lt_size oa
      have z1 : (s.heap.push (emptySet w)).objs.size = s.heap.objs.size + 1 := Heap.size_push ..
      have d1 : l ≠ (s.heap.push (emptySet w)).objs.size := by
        rw [z1]
        exact Nat.ne_of_lt (Nat.lt_succ_of_lt lt)
      have d2 : s.heap.objs.size ∉ [(s.heap.push (emptySet w)).objs.size, l] := by
        rw [z1]
        simp only [List.mem_cons, List.not_mem_nil, or_false, not_or]
        exact ⟨Nat.ne_of_lt (Nat.lt_succ_self _), Nat.ne_of_gt lt⟩
      have val : ∀ (i : Nat) (v : Value), vs[i]? = some v → ∃ k t, ns[i]? = some k ∧ v = .str k t := fun i v hv => by
        have hv2 : vs.toList[i]? = some v := by rw [Array.getElem?_toList]; exact hv
        have il2 := (List.getElem?_eq_some_iff.mp hv2).1
        have in2 : i < ns.length := by rw [← n0]; simpa using il2
        obtain ⟨tk, z⟩ := ev.get i _ (List.getElem?_eq_getElem in2)
        rw [hv2] at z
        exact ⟨_, tk, List.getElem?_eq_getElem in2, Option.some.inj z⟩
      have gone : ∀ b, s.heap.objs.size ≤ b → s.heap.get? b = none := fun b hb => by
        cases z : s.heap.get? b with
        | none => rfl
        | some o => exact absurd (Nat.lt_of_lt_of_le (Heap.lt_size z) hb) (Nat.lt_irrefl _)
      refine fill_txt ((Walks.list (by simp [nh]) _ l d1 vs).toS) d2 n0 fw val (vs.size - 0) 0 _ (by omega) (Nat.zero_le _) ⟨⟨_, Heap.get?_push_size _ rfl, rfl, rfl⟩, il1.push _⟩ ⟨[], Nat.le_refl _, (fun x => by simp), ts_new (Heap.get?_push_of_some _ at_)⟩ ?stop
      intro s3 m mv cc mm R
      have kp : ∀ b o, s.heap.get? b = some o → s3.heap.get? b = some o := fun b o e => by
        refine mv.heap b o (fun hm => ?_) (Heap.get?_push_of_some _ (Heap.get?_push_of_some _ e))
        rcases List.mem_cons.mp hm with hm | hm
        · rw [hm, gone _ (Nat.le_refl _)] at e
          cases e
        · rw [List.mem_singleton.mp hm, gone _ (by rw [z1]; exact Nat.le_succ _)] at e
          cases e
      obtain ⟨h3, g3, dr3, tk3, os3⟩ := s3
      have e1 : g3 = s.gens := mv.gens
      have e2 : dr3 = s.drawn := mv.drawn
      have e3 : os3 = s.os := mv.os
      subst e1
      subst e2
      subst e3
      show wpAny _ _ _ _ _ _
      refine wpAny_pure ?_
      show wpAny _ _ (ret Value.none) _ _ _
      rw [n0] at cc
      exact wpAny_pure ⟨rfl, h3, tk3, m, rfl, cc, mm, R, kp⟩
    · match fl2, r2 with
      | .error e, r2 => exact r2
      | .ok .next, r2 => exact r2.elim
      | .ok .brk, r2 => exact r2.elim
      | .ok .cont, r2 => exact r2.elim
      | .ok (.ret r), r2 =>
        obtain ⟨rfl, h', tk, m, rfl, cc, mm, R, kp⟩ := r2
        repeat any_goals (first | assumption | wp_step)
        exact q _ _ _ cc mm R kp
end
end SX

set_option Elab.async false
set_option linter.all false
set_option maxRecDepth 100000
set_option maxHeartbeats 4000000
/-! The rules set(list) and sorted(set), for texts. -/
namespace SX
open PySem PySem.Spec PyProof.Rows L2 PySem.Froz
def SetX (P : Program) (w : World) (a : Addr) (m : List Str) : HO := .ext fun h => TS P w h a m
theorem setX_ok {P : Program} {w : World} {H : Hp} {h : Heap} {a : Addr} {m : List Str} (R : TS P w h a m) : ObjOk P w H h a (SetX P w a m) := by
  obtain ⟨D, ho, _⟩ := id R
  exact ⟨R, ⟨_, ho⟩, fun h1 h2 p k => TS.at_ p k⟩
section
variable {X : Cx}
/-- set(xs) -/
def rSetX (K : PySem.W.Frag) (P : Program) (w : World) : List V → Hp → VK → Prop := fun vs H Q => ∃ (l : Addr) (xs : List Str), vs = [V.ref l] ∧ SqL K H l (xs.map V.str) ∧ xs.length < 64 ∧
  ∀ (a : Addr) (m : List Str), H a = none → m.length ≤ xs.length → (∀ x, x ∈ m ↔ x ∈ xs) → m.Nodup → Q (.ref a) (upd H a (SetX P w a m))
theorem cr_setX (hc : X.calm = true) : CallR X (.type "set") (rSetX X.K X.prog X.w) := by
  intro pins s σ H vs us Q I r h
  obtain ⟨l, xs, rfl, hl, few, q⟩ := h
  obtain ⟨its, rv, pl, hz⟩ := I.list hl
  obtain ⟨u, rfl, ru⟩ := vals1 r
  obtain rfl : u = Value.ref l := ru
  have hn : H s.heap.objs.size = none := I.hok.fresh (Nat.le_refl _)
  have sc : 64 < scanBound := by decide +kernel
  refine madeT (prog := X.prog) (w := X.w) (I.ok.hd hc) pl.isList (by simpa using rv.strs) (by omega) fun h' tk m lm mm R k => ?_
  obtain ⟨D, _, _, nd, _⟩ := id R
  exact ⟨.ref s.heap.objs.size, upd H s.heap.objs.size (SetX X.prog X.w s.heap.objs.size m), I.laid (t' := tk) k (Nat.le_refl _) (setX_ok R), rfl, q _ m hn lm mm nd⟩
def strOf : Value → Str
  | .str x _ => x
  | _ => ""
theorem strs_by : ∀ {vs : List Value}, (∀ v ∈ vs, ∃ x t, v = .str x t) → StrsAre vs (vs.map strOf)
  | [], _ => .nil
  | v :: vs, h => by
    obtain ⟨x, t, rfl⟩ := h v (List.mem_cons_self ..)
    exact .cons _ _ (strs_by (vs := vs) fun y hy => h y (List.mem_cons_of_mem _ hy))
/-- sorted of such a set -/
def rSortX (P : Program) (w : World) : List V → Hp → VK → Prop := fun vs H Q => ∃ (a : Addr) (m : List Str), vs = [V.ref a] ∧ H a = some (SetX P w a m) ∧ m.length < 64 ∧
  ∀ (ys : List Str) (p : Addr), ys.length = m.length → (∀ y, y ∈ ys ↔ y ∈ m) → sortedS ys = true → H p = none → Q (.ref p) (upd H p (.lst (ys.map V.str)))
theorem cr_sortX (hc : X.calm = true) : CallR X (.builtin "sorted") (rSortX X.prog X.w) := by
  intro pins s σ H vs us Q I r h
  obtain ⟨a, m, rfl, ha, few, q⟩ := h
  obtain ⟨u, rfl, ru⟩ := vals1 r
  obtain rfl : u = Value.ref a := ru
  have R0 : TS X.prog X.w s.heap a m := (I.hok a _ ha).1
  obtain ⟨⟨es, ep, t⟩, oa, F, nd, ris, led⟩ := R0
  have sc : 64 < scanBound := by decide +kernel
  have sz : es.size = m.length := F.sz
  have el : ElemsOf (strKind X.prog X.w) es.toList := F.el
  refine Calls.call_function_entry kind_sorted plain_sorted entry_sorted (args_sorted1 _) ?_
  unfold Builtin.«sorted»
  refine wpAny_bind (m := checkCount "sorted" 1 1 _) (wpAny_pure ?_)
  refine wpAny_bind (collect_set (A := X.A.in1) (I.ok.hd hc) ⟨_, oa, rfl, rfl⟩ F.fit (show es.size < scanBound by omega) ris led fun s1 vs k1 z1 g1 o1 pm => ?_)
  have vl : vs.length = m.length := by
    rw [pm.length_eq, List.length_map, Array.length_toList, sz]
  have isS : ∀ v ∈ vs, ∃ x u, v = .str x u := fun v hv => by
    obtain ⟨e, he, rfl⟩ := List.mem_map.mp (pm.mem_iff.mp hv)
    obtain ⟨⟨k, hk, _⟩, _⟩ := el e he
    obtain ⟨t, ev⟩ := Value.isStrOf_shape (x := k) (v := e.2) hk
    exact ⟨k, t, ev⟩
  have hS := strs_by isS
  have mem : ∀ x, x ∈ vs.map strOf ↔ x ∈ m := fun x => by
    rw [F.mem x]
    constructor
    · intro hx
      obtain ⟨v, hv, rfl⟩ := List.mem_map.mp hx
      obtain ⟨y, u, rfl⟩ := isS v hv
      obtain ⟨e, he, ee⟩ := List.mem_map.mp (pm.mem_iff.mp hv)
      exact ⟨e, he, by rw [ee]; exact is_str y u⟩
    · rintro ⟨e, he, hk⟩
      obtain ⟨t, ev⟩ := Value.isStrOf_shape (x := x) (v := e.2) hk
      refine List.mem_map.mpr ⟨e.2, pm.mem_iff.mpr (List.mem_map_of_mem (f := fun e : Int × Value => e.2) he), ?_⟩
      rw [ev]
      rfl
  refine wpAny_bind (wpAny_newList ?_ (by rw [vl, sizeLine_eq]; omega))
  have hoL : (s1.heap.push (seqObj "list" vs.toArray 0)).get? s1.heap.objs.size = some (seqObj "list" vs.toArray 0) := Heap.get?_push_size _ rfl
  refine wpAny_bind (wpAny_holding (wpAny_call_entry slot_list_sort ⟨_, hoL, rfl⟩ entry_list_sort (list_sort_treeK strKind_oneLt (s := { s1 with heap := s1.heap.push (seqObj "list" vs.toArray 0) }) hoL hS.keysOf (fun v₁ v₂ rest e => keyKind_strs (by rw [← e]; exact hS)) (by rw [vl]; omega) fun st' hp hs => ⟨_, rfl, ?_⟩) (args_list_sort _)))
  obtain ⟨ys, a1, a2, a3⟩ := sorted_out_str hS hp hs
  obtain ⟨n, hn⟩ := sortedHeap_at (vs := vs) (out := (arrOf st').map (·.2)) hoL
  have yl : ys.length = m.length := by rw [a2.length_eq, List.length_map, vl]
  have hlen : (ys.map V.str).length ≤ sizeLine := by
    rw [List.length_map, yl, sizeLine_eq]
    omega
  have fresh : H s1.heap.objs.size = none := I.hok.fresh z1
  refine wpAny_pure ⟨_, rfl, .ref s1.heap.objs.size, upd H s1.heap.objs.size (.lst (ys.map V.str)), ?_, rfl, q ys _ yl (fun y => (a2.mem_iff).trans (mem y)) a3 fresh⟩
  have kp : ∀ b u, s.heap.get? b = some u → (sortedHeap (s1.heap.push (seqObj "list" vs.toArray 0)) s1.heap.objs.size vs ((arrOf st').map (·.2))).get? b = some u := fun b u e => by
    have e1 := k1 b u e
    have lt := Heap.lt_size e1
    rw [sortedHeap_old (Nat.ne_of_lt lt) (by rw [size_push']; exact Nat.lt_succ_of_lt lt)]
    exact Heap.get?_push_of_some _ e1
  exact I.call' (ch := []) o1 (Un.laid kp z1 fresh) (I.hok.laid kp z1 ⟨hlen, ((arrOf st').map (·.2)).toList, n, vals_of_strs a1, by rw [Array.toArray_toList]; exact hn⟩) (show _ by rw [g1]; exact I.bare) (fun _ z => nomatch z)
end
end SX

set_option Elab.async false
set_option linter.all false
set_option maxRecDepth 100000
set_option maxHeartbeats 4000000
/-! _law_is_taken, _law_is_refused. -/
namespace K07
open PySem L2 L2.EV
abbrev sTaken : Stmt := top 22
abbrev sRefused : Stmt := top 23
theorem sl_app (a b : Str) : sl (a ++ b) = sl a ++ sl b := by
  show (Str.append a b).cps.toList = _
  simp [Str.append]
theorem sl_empty : sl ("" : Str) = [] := by decide +kernel
theorem sl_join : ∀ ys : List Str, sl (Str.join "" ys) = (ys.map sl).flatten
  | [] => rfl
  | [x] => by
    show sl x = _
    simp
  | x :: y :: r => by
    show sl (x ++ "" ++ Str.join "" (y :: r)) = _
    rw [sl_app, sl_app, sl_empty, sl_join (y :: r)]
    simp
theorem txt_join (ys : List Str) : sl (Txt.join "" ys) = (ys.map sl).flatten := by
  have z := PyProof.Rows.join_plain_closes "" ys
  rw [eq_of_beq z, sl_join]
theorem chs_one : ∀ {l : List Nat}, chs (Txt.join "" (l.map fun c => (⟨#[c]⟩ : Str))) = l.map fun c => (⟨#[c]⟩ : Str) := fun {l} => by
  unfold chs
  rw [txt_join, List.map_map]
  have e : ((l.map (sl ∘ fun c => (⟨#[c]⟩ : Str))).flatten) = l := by
    induction l with
    | nil => rfl
    | cons c l ih =>
      rw [List.map_cons, List.flatten_cons, ih]
      rfl
  rw [e]
/-- the sign of a code -/
def sgC (c : Nat) : Nat := if c ∈ mks then 64 else c
theorem sg_one (c : Nat) : sgOf c = ⟨#[sgC c]⟩ := by
  unfold sgOf sgC
  split
  · decide +kernel
  · rfl
theorem chs_sgs (p : Str) : chs (Txt.join "" (sgsOf p)) = sgsOf p := by
  have e : sgsOf p = ((sl p).dropLast.map sgC).map fun c => (⟨#[c]⟩ : Str) := by
    unfold sgsOf
    rw [List.map_map]
    exact List.map_congr_left fun c _ => sg_one c
  rw [e]
  exact chs_one
theorem all_is : sl ("@ABCDEFGH" : Str) = 64 :: mks := by decide +kernel
theorem all_nd : (64 :: mks).Nodup := by decide +kernel
theorem one_inj {a b : Nat} (h : (⟨#[a]⟩ : Str) = ⟨#[b]⟩) : a = b := by
  have z := congrArg sl h
  simpa [sl] using z
theorem cnt_is {p : Str} {m : List Str} (nd : m.Nodup) (mem : ∀ x, x ∈ m ↔ x ∈ ((sl p).filter fun c => decide (c ∈ 64 :: mks)).map fun c => (⟨#[c]⟩ : Str)) : m.length = cnt p := by
  have nd2 : (((64 :: mks).filter fun c => decide (c ∈ sl p)).map fun c => (⟨#[c]⟩ : Str)).Nodup := by
    have z : ((64 :: mks).filter fun c => decide (c ∈ sl p)).Nodup := List.Pairwise.filter _ all_nd
    exact List.Pairwise.map _ (fun a b ne h => ne (one_inj h)) z
  have same : ∀ x, x ∈ m ↔ x ∈ (((64 :: mks).filter fun c => decide (c ∈ sl p)).map fun c => (⟨#[c]⟩ : Str)) := fun x => by
    rw [mem x]
    constructor
    · intro h
      obtain ⟨c, hc, rfl⟩ := List.mem_map.mp h
      obtain ⟨a, b⟩ := List.mem_filter.mp hc
      exact List.mem_map.mpr ⟨c, List.mem_filter.mpr ⟨of_decide_eq_true b, decide_eq_true a⟩, rfl⟩
    · intro h
      obtain ⟨c, hc, rfl⟩ := List.mem_map.mp h
      obtain ⟨a, b⟩ := List.mem_filter.mp hc
      exact List.mem_map.mpr ⟨c, List.mem_filter.mpr ⟨of_decide_eq_true b, decide_eq_true a⟩, rfl⟩
  have a := List.Nodup.length_le_of_subset nd fun x hx => (same x).mp hx
  have b := List.Nodup.length_le_of_subset nd2 fun x hx => (same x).mpr hx
  unfold cnt
  rw [List.length_map] at a b
  omega
def spTaken : Sp := fun vs H Q _ => ∃ (r : V) (xs : List T3) (gs : List Int) (p : Str), vs = [r, .str p] ∧ Da H r (rdT xs gs) ∧ xs.length ≤ 100 ∧ p.length ≤ 60 ∧ ∀ H', Same H H' → Q (.bl (tkF xs gs p)) H'
def spRef : Sp := fun vs H Q _ => ∃ (r v : V) (xs : List T3) (gs : List Int) (o : Option Str), vs = [r, v] ∧ Da H r (rdT xs gs) ∧ RdD (rdT xs gs) ∧ xs.length ≤ 100 ∧ TxI H v o ∧ okO o = false ∧ ∀ H', Same H H' → Q (.bl true) H'
structure Ln (K : PySem.W.Frag) (mg : Str → Option Value) where
  T : Tt K mg
  di : mg "dict" = none
  se : mg "set" = none
  so : mg "sorted" = none
  fB : Addr
  dB : FuncData
  FB : Fun K "_law_table" "_law_table" sTable fB dB
  bB : Binds K dB ["reader"] []
  mB : mg "_law_table" = some (.ref fB)
  fL : Addr
  dL : FuncData
  FL : Fun K "_law_led" "_law_led" sLLed fL dL
  bL : Binds K dL ["table", "state", "signs"] []
  mL : mg "_law_led" = some (.ref fL)
  f1 : Addr
  d1 : FuncData
  F1 : Fun K "_law_is_taken" "_law_is_taken" sTaken f1 d1
  b1 : Binds K d1 ["reader", "text"] []
  m1 : mg "_law_is_taken" = some (.ref f1)
  f2 : Addr
  d2 : FuncData
  F2 : Fun K "_law_is_refused" "_law_is_refused" sRefused f2 d2
  b2 : Binds K d2 ["reader", "text"] []
  m2 : mg "_law_is_refused" = some (.ref f2)
abbrev NK : List Str := ["reader", "text", "marks", "signs", "state", "sign"]
section
variable {P : Program} {w : World} {K : PySem.W.Frag} {mg : Str → Option Value} {base : Heap}
theorem ok_takes0 (Z : Tt K mg) : FnOk P w K mg base CX0 5 Z.fT Z.dT ["reader", "text"] spTk0 := fnOk0 (ok_takes Z) fun vs H Q E h => by
  obtain ⟨r, xs, gs, p, rfl, da, rd, xl, pl, ok, q⟩ := h
  refine ⟨r, .str p, xs, gs, some p, rfl, da, rd, xl, ⟨rfl, pl⟩, fun p' e _ => ?_, fun h => ?_⟩
  · cases e
    exact q
  · have h : ltB p = false := h
    rw [ok] at h
    cases h
theorem scTaken : FnScope NK ["reader", "text"] (defScope sTaken) := ⟨rfl, rfl, rfl, by decide +kernel, rfl, by decide +kernel, by decide +kernel⟩
theorem ok_taken (Z : Ln K mg) : FnOk P w K mg base CX0 2 Z.f1 Z.d1 ["reader", "text"] spTaken := by
  have T := Z.T.T.R.Z.T
  have GB : FnOk P w K mg base CX0 1 Z.fB Z.dB ["reader"] spTable := ok_table Z.FB Z.di
  have GL : FnOk P w K mg base CX0 1 Z.fL Z.dL ["table", "state", "signs"] spLLed := ok_lled Z.FL
  refine Z.F1.ok scTaken (fun vs H Q E h => ?_) (fun cdv A outer s H vs Q E hr h => ?_)
  · obtain ⟨r, xs, gs, p, rfl, _⟩ := h
    rfl
  · obtain ⟨r, xs, gs, p, rfl, da, xl, pl, q⟩ := h
    refine ⟨_, pss_cons (ps_set (i := 2) scTaken.nd rfl (Or.inl rfl) (pe_callB (SX.cr_sortX rfl) (by rfl) Z.so (by decide +kernel) (pa_cons (pe_callTy (SX.cr_setX rfl) (by rfl) Z.se (by decide +kernel) (pa_cons
          (pe_lc (own := [("sign", 5)]) (g := gName 5) rfl scTaken.nd (pi_str (pv 1)) (blkOk_by (N := NK) (sc := defScope sTaken) (by decide +kernel)) (fun _ _ _ _ _ => pg_name (i := 5) scTaken.nd rfl (Or.inl rfl)) (fun _ _ _ _ _ => pts_one (pt_cmpR op_in_sign (pv 5) pe_str (by rfl))) (fun _ _ _ _ _ => pv 5)) pa_nil)) pa_nil)))
      (pss_cons (ps_set (i := 3) scTaken.nd rfl (Or.inl rfl) (pe_m1 PySem.F.slot_str_join PySem.F.type_str_join mt_join pe_str (pe_lc (own := [("sign", 5)]) (g := gName 5) rfl scTaken.nd (pi_str (pe_slice sl_str (pv 1) po_none (po_some (pe_un un_neg pe_int))))
          (blkOk_by (N := NK) (sc := defScope sTaken) (by decide +kernel)) (fun _ _ _ _ _ => pg_name (i := 5) scTaken.nd rfl (Or.inl rfl)) (fun _ _ _ _ _ => pts_nil)
          (fun _ _ _ _ _ => pe_ifExp (pt_cmpR op_in_sign (pv 5) pe_str (by rfl)) pe_str (pv 5)))))
      (pss_cons (ps_set (i := 4) scTaken.nd rfl (Or.inl rfl) (pe_call GL hr (by rfl) Z.mL Z.FL.kp Z.bL .nil pass0 (pa_cons (pe_call GB hr (by rfl) Z.mB Z.FB.kp Z.bB .nil pass0 (pa_cons (pv 0) pa_nil)) (pa_cons pe_int (pa_cons (pv 3) pa_nil)))))
      (pss_one (ps_ret (pe_and (pe_cmpR op_lt (pe_callB call_len_seq (by rfl) T.len PySem.boot_len (pa_cons (pv 2) pa_nil)) pe_int (nomark _)) (pe_and (pe_cmp (pc_notN (pv 4))) (pe_one (pe_cmpR op_in_seq (pv 4) (pe_ix ix_tup (pv 0) pe_int (fun _ _ => rfl)) (by rfl))))))))), ?_⟩
    obtain ⟨r0, rfl, ra⟩ := rda_of da
    have n60 : (sl p).length ≤ 60 := by rw [← len_sl]; exact pl
    refine ⟨_, rfl, _, rfl, fun D hD => ?_⟩
    refine lc_it walk_str (fun i H' => H' D = some (.lst (((((sl p).take i).filter fun c => decide (c ∈ 64 :: mks)).map fun c => (⟨#[c]⟩ : Str)).map V.str)) ∧ Same H H') ⟨upd_same, same_upd hD⟩ (fun _ _ _ _ => trivial) ?_ ?_
    · rintro i x H3z H3 hi ⟨hD3, s3⟩ ⟨rfl, ch, hc, rfl⟩
      have hc' : (sl p)[i]? = some ch := (Array.getElem?_toList ..).trans hc
      refine ⟨rfl, _, rfl, ch, _, rfl, rfl, _, rfl, ?_⟩
      rw [show ("@ABCDEFGH" : Str).cps.toList = 64 :: mks from all_is]
      rw [take_one' hc', List.filter_append, List.filter_cons]
      have ll : (((sl p).take i).filter fun c => decide (c ∈ 64 :: mks)).length ≤ 60 := by
        refine Nat.le_trans (List.length_filter_le ..) ?_
        rw [List.length_take]
        omega
      by_cases c : ch ∈ 64 :: mks
      · refine iteT' (decide_eq_true c) ?_
        rw [if_pos (decide_eq_true c)]
        refine ⟨_, rfl, _, hD3, by rw [List.length_map, List.length_map, sizeLine_eq]; omega, ?_, same_set hD s3⟩
        rw [List.map_append, List.map_append]
        exact upd_same
      · refine iteF' (decide_eq_false c) ?_
        rw [if_neg (fun z => c (of_decide_eq_true z)), List.filter_nil, List.append_nil]
        exact ⟨hD3, s3⟩
    rintro H3 ⟨hD3, s3⟩
    have e8 : p.cps.size = (sl p).length := len_sl _
    rw [e8, List.take_length] at hD3
    have fl : (((sl p).filter fun c => decide (c ∈ 64 :: mks)).map fun c => (⟨#[c]⟩ : Str)).length ≤ 60 := by
      rw [List.length_map]
      exact Nat.le_trans (List.length_filter_le ..) n60
    refine ⟨D, _, rfl, SqL.of hD3, by omega, fun a m ha lm mem nd => ?_⟩
    have ua := same_upd (o := SX.SetX P w a m) ha
    refine ⟨a, m, rfl, upd_same, by omega, fun ys q1 yl ym sy hq1 => ?_⟩
    have uq := same_upd (o := HO.lst (ys.map V.str)) hq1
    have cm := cnt_is nd mem
    generalize hG : upd (upd H3 a _) q1 _ = H4
    have eM : H4 q1 = some (.lst (ys.map V.str)) := by rw [← hG]; exact upd_same
    have s4 : Same H H4 := by rw [← hG]; exact (s3.trans ua).trans uq
    clear ua uq hq1 ym sy hG
    refine gName_go2 ?_
    have cs := cut_last (p := p)
    have cl : (cutS p none (some (-1))).length ≤ 60 := Nat.le_trans (cutS_length ..) pl
    refine ⟨⟨_, rfl⟩, _, rfl, 1, rfl, -1, rfl, p, rfl, (by rw [sizeLine_eq]; omega), ?_⟩
    generalize cutS p none (some (-1)) = cu at cs cl ⊢
    refine ⟨_, rfl, fun D2 hD2 => ?_⟩
    refine lc_it walk_str (fun i H' => H' D2 = some (.lst ((((sl cu).take i).map sgOf).map V.str)) ∧ Same H4 H') ⟨upd_same, same_upd hD2⟩ (fun _ _ _ _ => trivial) ?_ ?_
    · rintro i x H5z H5 hi ⟨hD5, s5⟩ ⟨rfl, ch, hc, rfl⟩
      have hc' : (sl cu)[i]? = some ch := (Array.getElem?_toList ..).trans hc
      have cl' : (sl cu).length ≤ 60 := by rw [← len_sl]; exact cl
      have fin : ∀ c : Str, c = sgOf ch → ∃ acc, H5 D2 = some (.lst acc) ∧ acc.length < sizeLine ∧ ((upd H5 D2 (.lst (acc ++ [V.str c]))) D2 = some (.lst ((((sl cu).take (i + 1)).map sgOf).map V.str)) ∧ Same H4 (upd H5 D2 (.lst (acc ++ [V.str c])))) := fun c e => by
        refine ⟨_, hD5, ?_, ?_, same_set hD2 s5⟩
        · rw [List.length_map, List.length_map, List.length_take, sizeLine_eq]
          omega
        · rw [take_one' hc', List.map_append, List.map_append, e]
          exact upd_same
      refine ⟨rfl, _, rfl, ch, _, rfl, rfl, _, rfl, ?_⟩
      by_cases c : ch ∈ mks
      · refine iteT' (decide_eq_true c) ?_
        exact fin "@" (by unfold sgOf; rw [if_pos c])
      · refine iteF' (decide_eq_false c) ?_
        refine ⟨_, rfl, ?_⟩
        exact fin _ (by unfold sgOf; rw [if_neg c])
    rintro H5 ⟨hD5, s5⟩
    have ln : cu.cps.size = (sl cu).length := len_sl cu
    rw [ln, List.take_length, cs] at hD5
    refine ⟨"", D2, _, rfl, rfl, .inl (SqL.of hD5), ?_, gName_go2 ?_⟩
    · have z0 : ("" : Str).length = 0 := by decide +kernel
      have one : ∀ l : List Nat, ((l.map sgOf).map fun x => x.length).sum = l.length := fun l => by
        induction l with
        | nil => rfl
        | cons c l ih =>
          rw [List.map_cons, List.map_cons, List.sum_cons, ih, List.length_cons, sg_one]
          show 1 + _ = _
          omega
      show (((sl p).dropLast.map sgOf).map fun x => x.length).sum + _ * _ ≤ 16777216
      rw [z0, Nat.mul_zero, one, List.length_dropLast]
      omega
    have s05 := s4.trans s5
    refine ⟨_, rfl, r0, xs, gs, rfl, ra.same s05, xl, fun H6 tb s6 tA => ⟨_, rfl, tb, 0, xs, _, rfl, tA, fun H7 s7 => gName_go2 ?_⟩⟩
    rw [show Txt.join "" ((sl p).dropLast.map sgOf) = Txt.join "" (sgsOf p) from rfl, chs_sgs]
    have s57 := s6.trans s7
    have s07 := s05.trans s57
    have eM7 := s57 _ _ (s5 _ _ eM)
    have z := q H7 s07
    unfold tkF at z
    refine ⟨_, rfl, q1, _, rfl, .inl (SqL.of eM7), _, 2, rfl, rfl, _, rfl, ?_⟩
    rw [List.length_map, yl, cm]
    by_cases c : cnt p < 2
    · refine iteT' (decide_eq_true (by omega)) ?_
      rw [decide_eq_true c, Bool.true_and] at z
      refine ⟨_, rfl, _, rfl, ?_⟩
      cases e : ldF xs (some 0) (sgsOf p) with
      | none =>
        rw [e] at z
        exact iteF' (by simp [oV]) z
      | some qq =>
        rw [e] at z
        refine iteT' (by simp [oV]) ?_
        obtain ⟨t1, t2, ts, h1, h2, h3, h4⟩ := ra.same s07
        refine ⟨_, rfl, _, rfl, r0, _, 1, .ref t2, rfl, rfl, SqT.of h1, rfl, t2, gs.map V.int, rfl, .inr (SqT.of h4), rfl, ints_flat gs, ?_⟩
        show Q (.bl (inV (.int qq) (gs.map V.int))) H7
        rw [in_ints]
        exact z
    · refine iteF' (decide_eq_false (by omega)) ?_
      rw [decide_eq_false c, Bool.false_and] at z
      exact z
theorem scRefused : FnScope ["reader", "text", "found"] ["reader", "text"] (defScope sRefused) := ⟨rfl, rfl, rfl, by decide +kernel, rfl, by decide +kernel, by decide +kernel⟩
theorem ok_ref (Z : Ln K mg) : FnOk P w K mg base CX0 6 Z.f2 Z.d2 ["reader", "text"] spRef := by
  have GT : FnOk P w K mg base (L2.CX P w) 5 Z.T.fT Z.T.dT ["reader", "text"] (spTk Z.T.T.O.C) := ok_takes Z.T
  refine Z.F2.ok scRefused (fun vs H Q E h => ?_) (fun cdv A outer s H vs Q E hr h => ?_)
  · obtain ⟨r, v, xs, gs, o, rfl, _⟩ := h
    rfl
  · obtain ⟨r, v, xs, gs, o, rfl, da, rd, xl, tx, no, q⟩ := h
    refine ⟨_, pss_cons (ps_set (i := 2) scRefused.nd rfl (Or.inl rfl) pe_bl)
      (pss_cons (ps_try_only (c := .ref Z.T.T.O.C) (Wout := fun _ _ _ _ => False) rfl rfl ⟨by rfl, by decide, .inl Z.T.T.O.m⟩ takes0
          (fun W pn xe tk _ => pss_one (ps_expr (pe_callS (E := WE W) GT hr (by rfl) Z.T.mT Z.T.FT.kp Z.T.bT (passAt tk) (pa_cons (pv 0) (pa_cons (pv 1) pa_nil)))))
          (fun a oe cls d pn hz hf => pss_one (ps_set (i := 2) scRefused.nd rfl (Or.inl rfl) pe_bl)))
      (pss_one (ps_ret (pv 2)))), ?_⟩
    refine ⟨_, rfl, _, rfl, r, v, xs, gs, o, rfl, da, rd, xl, tx, fun p e ok => ?_, fun e H' s1 => ⟨true, PySem.W.exm_ref Z.T.T.O.su Z.T.T.O.T.hd Z.T.T.O.ty Z.T.T.O.own, fun _ a na => ⟨_, rfl, q H' s1⟩, fun h => by cases h⟩⟩
    subst e
    have no : ltB p = false := no
    rw [no] at ok
    cases ok
end
end K07

set_option Elab.async false
set_option linter.all false
set_option maxRecDepth 100000
set_option maxHeartbeats 4000000
/-! The law. -/
namespace K07
open PySem L2 L2.EV
abbrev sLaw : Stmt := top 24
abbrev NL : List Str := ["script", "m", "turn", "reader", "k", "marks", "text", "odd", "found", "j"]
theorem ends_is {p : Str} {M : List Nat} {y : Nat} (e : sl p = M ++ [y]) : Txt.endswith p ";" = decide (y = 59) := by
  have ln : p.length = M.length + 1 := by rw [len_sl, e]; simp
  show (decide (0 + (";" : Str).length ≤ p.length) && Builtin.Str.subAt p ";" (p.length - (";" : Str).length)) = _
  rw [at_end]
  have d : decide (0 + (";" : Str).length ≤ p.length) = true := decide_eq_true (by rw [semi1]; omega)
  rw [d, Bool.true_and, e]
  by_cases h : y = 59
  · subst h
    simp
  · rw [decide_eq_false h]
    simp [h]
def Shw (d : PyData) : Prop := d.showable = true ∧ d.hasDict = false ∧ d.shown.length ≤ sizeLine ∧ d.depth ≤ 5
theorem sh_bool (b : Bool) : Shw (.bool b) := by
  have z : ∀ b : Bool, (PyData.bool b).showable = true ∧ (PyData.bool b).hasDict = false ∧ (PyData.bool b).shown.length ≤ 10 ∧ (PyData.bool b).depth ≤ 5 := by decide +kernel
  obtain ⟨h1, h2, h3, h4⟩ := z b
  exact ⟨h1, h2, by rw [sizeLine_eq]; omega, h4⟩
def mk5 : List Str := ["@", "A", "H", "AB", "@A"]
theorem mk5_ok : ∀ x ∈ mk5, x.length ≤ 2 ∧ ∀ c ∈ sl x, c ∈ sgs ∨ c ∈ mks := by decide +kernel
theorem ab_ok : ∀ c ∈ sl ("ab" : Str), c ∈ sgs ∨ c ∈ mks := by decide +kernel
theorem lt_text {cs : List Nat} (h : ∀ c ∈ cs, c ∈ sgs ∨ c ∈ mks) : ltB (Txt.join "" (cs.map fun c => (⟨#[c]⟩ : Str)) ++ ";") = true ∧ (Txt.join "" (cs.map fun c => (⟨#[c]⟩ : Str)) ++ ";").length = cs.length + 1 := by
  have e0 : sl (Txt.join "" (cs.map fun c => (⟨#[c]⟩ : Str))) = cs := by
    rw [txt_join, List.map_map]
    clear h
    induction cs with
    | nil => rfl
    | cons c l ih =>
      rw [List.map_cons, List.flatten_cons, ih]
      rfl
  have e : sl (Txt.join "" (cs.map fun c => (⟨#[c]⟩ : Str)) ++ ";") = cs ++ [59] := by rw [sl_app, e0, semi]
  refine ⟨?_, by rw [len_sl, e, List.length_append]; rfl⟩
  unfold ltB
  rw [ends_is e, e, List.dropLast_concat]
  rw [decide_eq_true rfl, Bool.true_and, List.all_eq_true]
  intro c hc
  rcases h c hc with z | z
  · rw [decide_eq_true z]
    rfl
  · rw [decide_eq_true z, Bool.or_true]
def handX : List T3 := [(0, "@", 1), (1, "@", 1)]
theorem hand_rd : RdD (rdT handX [0, 1]) := by
  have e : ("@" : Str) = sgn 0 := by decide +kernel
  refine ⟨2, handX, [0, 1], rfl, by decide, ⟨fun x hx => ?_, ?_, by decide⟩, by decide, by decide, by decide⟩
  · have cs : x = ((0, "@", 1) : T3) ∨ x = ((1, "@", 1) : T3) := by simpa [handX] using hx
    rcases cs with rfl | rfl
    · exact ⟨by decide, by decide, 0, 0, rfl, by decide, by decide, e, by decide⟩
    · exact ⟨by decide, by decide, 1, 0, rfl, by decide, by decide, e, by decide⟩
  · refine List.pairwise_cons.mpr ⟨fun y hy => ?_, List.pairwise_singleton _ _⟩
    cases List.mem_singleton.mp hy
    decide +kernel
def hand9 : List Str := [";", "@;", "A;", "AA;", "AB;", "@A;", "H@;", "@@;", "aA;"]
theorem hand_ok : ∀ p ∈ hand9, p.length ≤ 1000 ∧ ltB p = true := by decide +kernel
theorem hand_is : hand9.map (tkF handX [0, 1]) = [true, true, true, true, false, false, false, true, false] := by decide +kernel
structure Lall (K : PySem.W.Frag) (mg : Str → Option Value) where
  S : Ls K mg
  N : Ln K mg
  fB : Addr
  dB : FuncData
  Be : Fun K "_law_begun" "_law_begun" sBegun fB dB
  bB : Binds K dB ["script"] []
  mB : mg "_law_begun" = some (.ref fB)
  mi : mg "min" = none
  re : mg "repr" = none
def spLaw (K : PySem.W.Frag) : Sp := fun vs H Q _ => ∃ (a : Addr) (ns : List Int), vs = [.ref a] ∧ SqL K H a (ns.map V.int) ∧ ns.length ≤ 63 ∧ ∀ H', Q (.bl true) H'
section
variable {P : Program} {w : World} {K : PySem.W.Frag} {mg : Str → Option Value} {base : Heap}
theorem scLaw : FnScope NL ["script"] (defScope sLaw) := ⟨rfl, rfl, rfl, by decide +kernel, rfl, by decide +kernel, by decide +kernel⟩
theorem ok_law (L : Lall K mg) {f : Addr} {fd : FuncData} (F : Fun K "law" "law" sLaw f fd) : FnG P w K mg base CX0 7 f fd ["script"] (spLaw K) := by
  have GB : FnOk P w K mg base CX0 1 L.fB L.dB ["script"] (spBegun K) := ok_begun L.Be L.S.T
  have GX : FnOk P w K mg base CX0 1 L.S.f1 L.S.d1 ["m", "many"] spNext := ok_next L.S.N L.S.T
  have GS : FnOk P w K mg base CX0 2 L.S.f2 L.S.d2 ["m", "many"] spSome := ok_some L.S
  have GT : FnOk P w K mg base CX0 5 L.N.T.fT L.N.T.dT ["reader", "text"] spTk0 := ok_takes0 L.N.T
  have GI : FnOk P w K mg base CX0 2 L.N.f1 L.N.d1 ["reader", "text"] spTaken := ok_taken L.N
  have GR : FnOk P w K mg base CX0 6 L.N.f2 L.N.d2 ["reader", "text"] spRef := ok_ref L.N
  refine okG F scLaw (fun vs H Q E h => ?_) (fun cdv A outer s H vs Q E hr hgd h => ?_)
  · obtain ⟨a, ns, rfl, _⟩ := h
    rfl
  · obtain ⟨a, ns, rfl, hS, hlen, q⟩ := h
    have ggd : (A.deeper (PyProof.Rows.envOfC "law" (defScope sLaw) s.heap.objs.size f cdv)).guards = some [] := hgd
    have hu64 := hr.units
    have r1 := hr.mono (j := 1) (by decide)
    have r2 := hr.mono (j := 2) (by decide)
    have r5 := hr.mono (j := 5) (by decide)
    refine ⟨_, pss_cons (ps_set (i := 1) scLaw.nd rfl (Or.inr rfl) (pe_call GB r1 (by rfl) L.mB L.Be.kp L.bB .nil pass0 (pa_cons (pv 0) pa_nil)))
      (pss_cons (ps_for PassesOwn.never rfl (pi_range1 (by rfl) L.S.ra (pa_cons (pe_op op_add pe_int (pe_callB (call_min2 rfl) (by rfl) L.mi (by decide +kernel) (pa_cons (pe_callB call_len_seq (by rfl) L.S.T.len PySem.boot_len (pa_cons (pv 0) pa_nil)) (pa_cons pe_int pa_nil)))) pa_nil)) (pg_name (i := 2) scLaw.nd rfl (Or.inl rfl))
        (pss_cons (ps_set (i := 3) scLaw.nd rfl (Or.inr rfl) (pe_call GS r2 (by rfl) L.S.mP L.S.P.kp L.S.bP .nil pass0 (pa_cons (pv 1) (pa_cons (pe_op op_add pe_int (pe_call GX r1 (by rfl) L.S.mN L.S.N.kp L.S.bN .nil pass0 (pa_cons (pv 1) (pa_cons pe_int pa_nil)))) pa_nil))))
        (pss_cons (ps_for PassesOwn.never rfl (pi_range1 (by rfl) L.S.ra (pa_cons pe_int pa_nil)) (pg_name (i := 4) scLaw.nd rfl (Or.inl rfl))
          (pss_cons (ps_set (i := 5) scLaw.nd rfl (Or.inr rfl) (pe_ix ix_list (pe_lst (pa_cons pe_str (pa_cons pe_str (pa_cons pe_str (pa_cons pe_str (pa_cons pe_str pa_nil)))))) (pe_call GX r1 (by rfl) L.S.mN L.S.N.kp L.S.bN .nil pass0 (pa_cons (pv 1) (pa_cons pe_int pa_nil))) (fun _ _ => rfl)))
          (pss_cons (ps_set (i := 6) scLaw.nd rfl (Or.inl rfl) (pe_op op_add_str (pe_m1 PySem.F.slot_str_join PySem.F.type_str_join mt_join pe_str (pe_lc (own := [("j", 9)]) (g := gName 9) rfl scLaw.nd (pi_range1 (by rfl) L.S.ra (pa_cons (pe_call GX r1 (by rfl) L.S.mN L.S.N.kp L.S.bN .nil pass0 (pa_cons (pv 1) (pa_cons pe_int pa_nil))) pa_nil))
              (blkOk_by (N := NL) (sc := defScope sLaw) (by decide +kernel)) (fun _ _ _ _ _ => pg_name (i := 9) scLaw.nd rfl (Or.inl rfl)) (fun _ _ _ _ _ => pts_nil)
              (fun _ _ _ _ _ => pe_ix ix_str (pe_op op_add_str pe_str (pv 5)) (pe_call GX r1 (by rfl) L.S.mN L.S.N.kp L.S.bN .nil pass0 (pa_cons (pv 1) (pa_cons (pe_op op_add pe_int (pe_callB call_len_str (by rfl) L.S.T.len PySem.boot_len (pa_cons (pv 5) pa_nil))) pa_nil))) (fun _ _ => rfl)))) pe_str))
          (pss_one (ps_if (pt_cmpR op_ne (pe_callB (call_showV ggd hu64) (by rfl) L.re (by decide +kernel) (pa_cons (pe_call GT r5 (by rfl) L.N.T.mT L.N.T.FT.kp L.N.T.bT .nil pass0 (pa_cons (pv 3) (pa_cons (pv 6) pa_nil))) pa_nil)) (pe_callB (call_showV ggd hu64) (by rfl) L.re (by decide +kernel) (pa_cons (pe_call GI r2 (by rfl) L.N.m1 L.N.F1.kp L.N.b1 .nil pass0 (pa_cons (pv 3) (pa_cons (pv 6) pa_nil))) pa_nil)) (nomark _)) (pss_one (ps_ret pe_bl)) pss_nil)))))
        (pss_one (ps_for PassesOwn.never rfl (pi_list (pe_lst (pa_cons pe_non (pa_cons pe_int (pa_cons pe_str (pa_cons pe_str (pa_cons pe_str (pa_cons pe_str (pa_cons pe_str (pa_cons pe_str (pa_cons pe_str (pa_cons (pe_tup (pa_cons pe_str pa_nil)) (pa_cons (pe_lst (pa_cons pe_str pa_nil)) (pa_cons pe_dnewK (pa_cons pe_str pa_nil))))))))))))))) (pg_name (i := 7) scLaw.nd rfl (Or.inl rfl))
          (pss_one (ps_if (pt_not (pt_val (pe_call GR hr (by rfl) L.N.m2 L.N.F2.kp L.N.b2 .nil pass0 (pa_cons (pv 3) (pa_cons (pv 7) pa_nil))))) (pss_one (ps_ret pe_bl)) pss_nil)))))))
      (pss_cons (ps_set (i := 3) scLaw.nd rfl (Or.inr rfl) (pe_tup (pa_cons (pe_tup (pa_cons (pe_tup (pa_cons pe_int (pa_cons pe_str (pa_cons pe_int pa_nil)))) (pa_cons (pe_tup (pa_cons pe_int (pa_cons pe_str (pa_cons pe_int pa_nil)))) pa_nil))) (pa_cons (pe_tup (pa_cons pe_int (pa_cons pe_int pa_nil))) pa_nil))))
      (pss_cons (ps_setLc (i := 8) (own := [("text", 6)]) (g := gName 6) rfl scLaw.nd rfl rfl rfl (pi_list (pe_lst (pa_cons pe_str (pa_cons pe_str (pa_cons pe_str (pa_cons pe_str (pa_cons pe_str (pa_cons pe_str (pa_cons pe_str (pa_cons pe_str (pa_cons pe_str pa_nil)))))))))))
          (blkOk_by (N := NL) (sc := defScope sLaw) (by decide +kernel)) (fun _ _ _ _ _ => pg_name (i := 6) scLaw.nd rfl (Or.inl rfl)) (fun _ _ _ _ _ => pts_nil)
          (fun _ _ _ _ _ => pe_call GT r5 (by rfl) L.N.T.mT L.N.T.FT.kp L.N.T.bT .nil pass0 (pa_cons (pv 3) (pa_cons (pv 6) pa_nil))))
      (pss_one (ps_ret (pe_cmpR (op_eqD hu64) (pv 8) (pe_lst (pa_cons pe_bl (pa_cons pe_bl (pa_cons pe_bl (pa_cons pe_bl (pa_cons pe_bl (pa_cons pe_bl (pa_cons pe_bl (pa_cons pe_bl (pa_cons pe_bl pa_nil)))))))))) (nomark _))))))), ?_⟩
    refine ⟨_, rfl, a, ns, rfl, hS, by omega, fun m mc l0 H0 M0 hm hmc hl sm0 => ?_⟩
    have nl : (ns.map V.int).length ≤ 63 := by rw [List.length_map]; exact hlen
    refine ⟨_, rfl, a, _, rfl, .inl (sm0.seq hS), _, 4, rfl, 2, _, rfl, rfl, _, rfl, by split <;> omega, by split <;> omega, ?_⟩
    have hN : (2 + if (4 : Int) < ((ns.map V.int).length : Nat) then 4 else (((ns.map V.int).length : Nat) : Int)).toNat ≤ 6 := by split <;> omega
    generalize (2 + if (4 : Int) < ((ns.map V.int).length : Nat) then 4 else (((ns.map V.int).length : Nat) : Int)).toNat = N at hN ⊢
    refine for_it walk_range (fun i σ H' => ∃ (v2 v3 v4 v5 v6 v7 : Option V) (l : Addr) (k : Int), σ = [some (.ref a), some (.ref m), v2, v3, v4, v5, v6, v7, none, none] ∧ MAt H' m mc l k ∧ k ≤ 300 * i)
      ⟨none, none, none, none, none, none, l0, 0, rfl, M0, by omega⟩ (fun _ _ _ _ _ => trivial) ?_ ?_
    · rintro i x σ H1z H1 hi ⟨v2, v3, v4, v5, v6, v7, l1, k1, rfl, M1, kk1⟩ ⟨rfl, rfl⟩
      refine ⟨_, rfl, _, rfl, m, mc, l1, k1, 6, rfl, M1, by decide, by decide, by omega, fun r2' H2 l2 k2 a2 b2 g2 N2 f2 q2 => ⟨1, r2', rfl, rfl, ?_⟩⟩
      obtain ⟨r2', rfl⟩ := Int.eq_ofNat_of_zero_le a2
      refine ⟨m, mc, l2, k2, 1 + r2', by show [V.ref m, V.int ((1 : Int) + (r2' : Int))] = _; rw [show ((1 : Int) + (r2' : Int)) = ((1 + r2' : Nat) : Int) by omega], N2, by omega, by omega, by omega, fun rv d H3 l3 k3 da3 rd kk3 D3 => gName_go2 ?_⟩
      obtain ⟨nn, xs, gs, rfl, nn6, kp, gl, hg, sg⟩ := id rd
      have rd : RdD (rdT xs gs) := rd
      have da3 : Da (rt H3 m l3) rv (rdT xs gs) := da3
      have xl : xs.length ≤ 100 := by have := kp.len; omega
      have M3 := D3.at_
      refine ⟨_, rfl, by decide, by decide, for_it walk_range (fun j σ H' => ∃ (v4 v5 v6 : Option V) (l : Addr) (k : Int), σ = [some (.ref a), some (.ref m), some (.int (0 + (i : Int))), some rv, v4, v5, v6, v7, none, none] ∧ MAt H' m mc l k ∧ k ≤ k3 + 15 * j ∧ Da (rt H' m l) rv (rdT xs gs))
        ⟨v4, v5, v6, l3, k3, rfl, M3, by omega, da3⟩ (fun _ _ _ _ _ => trivial) ?_ ?_⟩
      · rintro j x σ H4z H4 hj ⟨v4, v5, v6, l4, k4, rfl, M4, kk4, da4⟩ ⟨rfl, rfl⟩
        have hj12 : j < 12 := hj
        refine ⟨(by show 5 ≤ sizeLine; decide), fun pl hpl => ?_⟩
        have u5 := same_upd (o := HO.lst (mk5.map V.str)) hpl
        have e5 : (upd H4 pl (.lst (mk5.map V.str))) pl = some (.lst (mk5.map V.str)) := upd_same
        have n5 := M4.l_some hpl
        generalize hG : upd H4 pl _ = H5
        have u5 : Same H4 H5 := by rw [← hG]; exact u5
        have e5 : H5 pl = some (.lst (mk5.map V.str)) := by rw [← hG]; exact e5
        clear hG
        have M5 := M4.same u5
        refine ⟨_, rfl, m, mc, l4, k4, 5, rfl, M5, by decide, by decide, by omega, fun r6 H6 l6 k6 a6 b6 g6 N6 f6 q6 => ?_⟩
        have d6 : Dr H5 H6 m mc l4 l6 k6 := ⟨N6, f6, q6⟩
        obtain ⟨r6, rfl⟩ := Int.eq_ofNat_of_zero_le a6
        have r6l : r6 < mk5.length := by show r6 < 5; omega
        obtain ⟨e6, n6⟩ := d6.lst M5 e5 n5
        have mo := mk5_ok _ (List.getElem_mem r6l)
        refine ⟨pl, _, (r6 : Int), .str mk5[r6], rfl, rfl, SqL.of e6, atI_nat (by rw [List.getElem?_map, List.getElem?_eq_getElem r6l]; rfl), gName_go2 ?_⟩
        generalize mk5[r6] = mk at mo
        have da6 := (Da.same (rt_same u5) _ _ da4).same (rt_dr d6)
        refine ⟨⟨_, rfl⟩, _, rfl, m, mc, l6, k6, 9, rfl, N6, by decide, by decide, by omega, fun r7 H7 l7 k7 a7 b7 g7 N7 f7 q7 => ?_⟩
        have d7 : Dr H6 H7 m mc l6 l7 k7 := ⟨N7, f7, q7⟩
        refine ⟨_, rfl, by omega, by omega, fun D hD => ?_⟩
        have nD0 := N7.l_some hD
        have nDm : D ≠ m := (ne_of_none N7.hm hD).symm
        have nDc : D ≠ mc := N7.c_some hD
        have abl : ("ab" : Str).length = 2 := by decide +kernel
        refine lc_it walk_range (fun i H' => ∃ (cs : List Nat) (l' : Addr) (k' : Int), H' D = some (.lst ((cs.map fun c => (⟨#[c]⟩ : Str)).map V.str)) ∧ D ≠ l' ∧ cs.length = i ∧ (∀ c ∈ cs, c ∈ sgs ∨ c ∈ mks) ∧ k' ≤ k7 + i ∧ Dr H7 H' m mc l7 l' k')
          ⟨[], l7, k7, upd_same, nD0, rfl, (fun c h => by cases h), by omega, (Dr.refl N7).same (same_upd hD)⟩ (fun _ _ _ _ => trivial) ?_ ?_
        · rintro i8 x H8z H8 hi8 ⟨cs, l8, k8, hD8, n8, lc, hcs, kk8, d8⟩ ⟨rfl, rfl⟩
          have hi9 : i8 < 9 := by omega
          refine ⟨rfl, _, rfl, _, _, rfl, rfl, (by rw [abl, sizeLine_eq]; omega), ?_⟩
          refine ⟨_, rfl, _, rfl, mk, rfl, by rw [sizeLine_eq]; omega, 2, mk.length, rfl, rfl, m, mc, l8, k8, _, rfl, d8.at_, by omega, by omega, by omega, fun r9 H9 l9 k9 a9 b9 g9 N9 f9 q9 => ?_⟩
          have d9 : Dr H8 H9 m mc l8 l9 k9 := ⟨N9, f9, q9⟩
          obtain ⟨e9, n9⟩ := d9.lst d8.at_ hD8 n8
          obtain ⟨r9, rfl⟩ := Int.eq_ofNat_of_zero_le a9
          have sla : sl ("ab" ++ mk) = sl ("ab" : Str) ++ sl mk := sl_app ..
          have len : (sl ("ab" ++ mk)).length = 2 + mk.length := by rw [sla, List.length_append, ← len_sl, ← len_sl, abl]
          have rl : r9 < (sl ("ab" ++ mk)).length := by omega
          have cokA : ∀ c ∈ sl ("ab" ++ mk), c ∈ sgs ∨ c ∈ mks := fun c z => by
            rw [sla] at z
            rcases List.mem_append.mp z with z | z
            · exact ab_ok _ z
            · exact mo.2 _ z
          have cok := cokA _ (List.getElem_mem rl)
          refine ⟨"ab" ++ mk, (r9 : Int), (sl ("ab" ++ mk))[r9], rfl, rfl, by rw [len_sl, len, sizeLine_eq]; omega, atI_nat (List.getElem?_eq_getElem rl), _, e9, by rw [List.length_map, List.length_map, lc, sizeLine_eq]; omega, ?_⟩
          generalize (sl ("ab" ++ mk))[r9] = ch at cok ⊢
          have dk := d8.trans d9
          refine ⟨cs ++ [ch], l9, k9, by rw [List.map_append, List.map_append]; exact upd_same, n9, by rw [List.length_append, lc]; rfl, fun c hc => ?_, by omega, ⟨N9.upd nDm nDc n9, dk.hl, fun b o z h1 h2 => ?_⟩⟩
          · rcases List.mem_append.mp hc with h | h
            · exact hcs c h
            · cases List.mem_singleton.mp h
              exact cok
          · rw [upd_ne (ne_of_none z hD)]
            exact dk.kp b o z h1 h2
        · rintro H8 ⟨cs, l8, k8, hD8, n8, lc, hcs, kk8, d8⟩
          obtain ⟨lt, ln⟩ := lt_text hcs
          have lc8 : cs.length ≤ 8 := by omega
          refine ⟨"", D, _, rfl, rfl, .inl (SqL.of hD8), ?_, ?_⟩
          · have z0 : ("" : Str).length = 0 := by decide +kernel
            have one : ∀ l : List Nat, ((l.map fun c => (⟨#[c]⟩ : Str)).map fun x => x.length).sum = l.length := fun l => by
              induction l with
              | nil => rfl
              | cons c l ih =>
                rw [List.map_cons, List.map_cons, List.sum_cons, ih, List.length_cons]
                show 1 + _ = _
                omega
            show ((cs.map fun c => (⟨#[c]⟩ : Str)).map fun x => x.length).sum + _ * _ ≤ 16777216
            rw [z0, Nat.mul_zero, one]
            omega
          have lj : (Txt.join "" (cs.map fun c => (⟨#[c]⟩ : Str))).length + (";" : Str).length ≤ 20 := by
            have z := ln
            have e : (Txt.join "" (cs.map fun c => (⟨#[c]⟩ : Str)) ++ ";").length = (Txt.join "" (cs.map fun c => (⟨#[c]⟩ : Str))).length + (";" : Str).length := by
              show (_ ++ _ : Array Nat).size = _
              rw [Array.size_append]
              rfl
            omega
          refine ⟨_, _, rfl, rfl, by rw [sizeLine_eq]; omega, gName_go2 ?_⟩
          generalize Txt.join "" (cs.map fun c => (⟨#[c]⟩ : Str)) ++ ";" = p at lt ln ⊢
          have da8 := (da6.same (rt_dr d7)).same (rt_dr d8)
          have da8' : Da H8 rv (rdT xs gs) := Da.same rt_sub _ _ da8
          obtain ⟨sh1, sh2, sh3, sh4⟩ := sh_bool (tkF xs gs p)
          refine ⟨_, rfl, _, rfl, rv, xs, gs, p, rfl, da8', rd, xl, by omega, lt, fun H9 s9 => ?_⟩
          refine ⟨.bl _, .bool (tkF xs gs p), rfl, Da.dp _ _ (.bl _), sh1, sh2, sh3, sh4, ?_⟩
          refine ⟨_, rfl, _, rfl, rv, xs, gs, p, rfl, Da.same s9 _ _ da8', xl, by omega, fun H10 s10 => ?_⟩
          refine ⟨.bl _, .bool (tkF xs gs p), rfl, Da.dp _ _ (.bl _), sh1, sh2, sh3, sh4, rfl, _, rfl, iteF' (by simp) ?_⟩
          have s810 := s9.trans s10
          exact ⟨_, _, _, l8, k8, rfl, d8.at_.same s810, by push_cast; omega, da8.same (rt_same s810)⟩
      · rintro σ H4 ⟨v4, v5, v6, l4, k4, rfl, M4, kk4, da4⟩
        have kk4 : k4 ≤ k3 + 15 * (12 : Int) := kk4
        have da4 : Da H4 rv (rdT xs gs) := Da.same rt_sub _ _ da4
        refine ⟨(by show 1 ≤ sizeLine; decide), fun pt hpt => ⟨(by show 1 ≤ sizeLine; decide), fun pu hpu => fun pd hpd => ⟨(by show 13 ≤ sizeLine; decide), fun po hpo => ?_⟩⟩⟩
        have u5 := same_upd (o := HO.tup [.str "a;"]) hpt
        have e5 := upd_same (H := H4) (a := pt) (o := HO.tup [.str "a;"])
        generalize upd H4 pt _ = H5 at u5 e5 hpu hpd hpo ⊢
        have u6 := same_upd (o := HO.lst [.str "a;"]) hpu
        have e6 := upd_same (H := H5) (a := pu) (o := HO.lst [.str "a;"])
        generalize upd H5 pu _ = H6 at u6 e6 hpd hpo ⊢
        have u7 := same_upd (o := HO.dK []) hpd
        have e7 := upd_same (H := H6) (a := pd) (o := HO.dK [])
        generalize upd H6 pd _ = H7 at u7 e7 hpo ⊢
        have all : ∀ x ∈ [V.non, .int 5, .str "", .str "a", .str "a;b;", .str ";;", .str "I;", .str "a b;", .str "-;", .ref pt, .ref pu, .ref pd, .str "a;\n"], ∃ o, TxI H7 x o ∧ okO o = false := fun x hx => by
          have cs : x = V.non ∨ x = .int 5 ∨ x = .str "" ∨ x = .str "a" ∨ x = .str "a;b;" ∨ x = .str ";;" ∨ x = .str "I;" ∨ x = .str "a b;" ∨ x = .str "-;" ∨ x = .ref pt ∨ x = .ref pu ∨ x = .ref pd ∨ x = .str "a;\n" := by simpa using hx
          rcases cs with rfl | rfl | rfl | rfl | rfl | rfl | rfl | rfl | rfl | rfl | rfl | rfl | rfl
          · exact ⟨none, .inl rfl, rfl⟩
          · exact ⟨none, .inr (.inl ⟨_, rfl⟩), rfl⟩
          · exact ⟨some "", ⟨rfl, by decide +kernel⟩, by decide +kernel⟩
          · exact ⟨some "a", ⟨rfl, by decide +kernel⟩, by decide +kernel⟩
          · exact ⟨some "a;b;", ⟨rfl, by decide +kernel⟩, by decide +kernel⟩
          · exact ⟨some ";;", ⟨rfl, by decide +kernel⟩, by decide +kernel⟩
          · exact ⟨some "I;", ⟨rfl, by decide +kernel⟩, by decide +kernel⟩
          · exact ⟨some "a b;", ⟨rfl, by decide +kernel⟩, by decide +kernel⟩
          · exact ⟨some "-;", ⟨rfl, by decide +kernel⟩, by decide +kernel⟩
          · exact ⟨none, .inr (.inr ⟨pt, _, rfl, u7 _ _ (u6 _ _ e5), .inl ⟨_, rfl⟩⟩), rfl⟩
          · exact ⟨none, .inr (.inr ⟨pu, _, rfl, u7 _ _ e6, .inr (.inl ⟨_, rfl⟩)⟩), rfl⟩
          · exact ⟨none, .inr (.inr ⟨pd, _, rfl, e7, .inr (.inr ⟨_, rfl⟩)⟩), rfl⟩
          · exact ⟨some "a;\n", ⟨rfl, by decide +kernel⟩, by decide +kernel⟩
        generalize [V.non, .int 5, .str "", .str "a", .str "a;b;", .str ";;", .str "I;", .str "a b;", .str "-;", .ref pt, .ref pu, .ref pd, .str "a;\n"] = os at all ⊢
        have u8 := same_upd (o := HO.lst os) hpo
        have e8 := upd_same (H := H7) (a := po) (o := HO.lst os)
        generalize upd H7 po _ = H8 at u8 e8 ⊢
        have s48 : Same H4 H8 := fun b o e => u8 _ _ (u7 _ _ (u6 _ _ (u5 _ _ e)))
        refine ⟨po, rfl, ⟨_, SqL.of e8⟩, for_it (walk_list (xs := os)) (fun j σ H' => ∃ (v7 : Option V), σ = [some (.ref a), some (.ref m), some (.int (0 + (i : Int))), some rv, v4, v5, v6, v7, none, none] ∧ Same H8 H')
          ⟨v7, rfl, Same.refl H8⟩ (fun j σ H' _ ⟨_, _, z⟩ => SqL.of (z _ _ e8)) ?_ ?_⟩
        · rintro j x σ H9z H9 hj ⟨v7, rfl, s9⟩ ⟨rfl, hx⟩
          obtain ⟨o, tx, no⟩ := all x (List.mem_of_getElem? hx)
          refine ⟨_, rfl, _, rfl, rv, x, xs, gs, o, rfl, Da.same (s48.trans s9) _ _ da4, rd, xl, (tx.same u8).same s9, no, fun H10 s10 => ?_⟩
          refine ⟨_, rfl, iteF' rfl ?_⟩
          exact ⟨_, rfl, s9.trans s10⟩
        · rintro σ H9 ⟨v7, rfl, s9⟩
          exact ⟨_, _, _, _, _, _, l4, k4, rfl, M4.same (s48.trans s9), by push_cast; omega⟩
    · rintro σ HE ⟨v2, v3, v4, v5, v6, v7, l, k, rfl, ME, kkE⟩
      refine ⟨(by show 3 ≤ sizeLine; decide), fun pa hpa => ⟨(by show 3 ≤ sizeLine; decide), fun pb hpb => ⟨(by show 2 ≤ sizeLine; decide), fun pc hpc => ⟨(by show 2 ≤ sizeLine; decide), fun pd hpd => ⟨(by show 2 ≤ sizeLine; decide), fun pr hpr => gName_go2 ?_⟩⟩⟩⟩⟩
      have u1 := same_upd (o := HO.tup [.int 0, .str "@", .int 1]) hpa
      have e1 := upd_same (H := HE) (a := pa) (o := HO.tup [.int 0, .str "@", .int 1])
      generalize upd HE pa _ = H1 at u1 e1 hpb hpc hpd hpr ⊢
      have u2 := same_upd (o := HO.tup [.int 1, .str "@", .int 1]) hpb
      have e2 := upd_same (H := H1) (a := pb) (o := HO.tup [.int 1, .str "@", .int 1])
      generalize upd H1 pb _ = H2 at u2 e2 hpc hpd hpr ⊢
      have u3 := same_upd (o := HO.tup [.ref pa, .ref pb]) hpc
      have e3 := upd_same (H := H2) (a := pc) (o := HO.tup [.ref pa, .ref pb])
      generalize upd H2 pc _ = H3 at u3 e3 hpd hpr ⊢
      have u4 := same_upd (o := HO.tup [.int 0, .int 1]) hpd
      have e4 := upd_same (H := H3) (a := pd) (o := HO.tup [.int 0, .int 1])
      generalize upd H3 pd _ = H4 at u4 e4 hpr ⊢
      have u5 := same_upd (o := HO.tup [.ref pc, .ref pd]) hpr
      have e5 := upd_same (H := H4) (a := pr) (o := HO.tup [.ref pc, .ref pd])
      generalize upd H4 pr _ = H5 at u5 e5 ⊢
      have da : Da H5 (.ref pr) (rdT handX [0, 1]) := .tup e5 (.cons (.tup (u5 _ _ (u4 _ _ e3)) (.cons (.tup (u5 _ _ (u4 _ _ (u3 _ _ (u2 _ _ e1)))) (.cons (.int _) (.cons (.str _) (.cons (.int _) .nil)))) (.cons (.tup (u5 _ _ (u4 _ _ (u3 _ _ e2))) (.cons (.int _) (.cons (.str _) (.cons (.int _) .nil)))) .nil))) (.cons (.tup (u5 _ _ e4) (.cons (.int _) (.cons (.int _) .nil))) .nil))
      refine ⟨(by show 9 ≤ sizeLine; decide), fun pl hpl => ?_⟩
      have u6 := same_upd (o := HO.lst (hand9.map V.str)) hpl
      have e6 : (upd H5 pl (.lst (hand9.map V.str))) pl = some (.lst (hand9.map V.str)) := upd_same
      generalize hG : upd H5 pl _ = H6
      have u6 : Same H5 H6 := by rw [← hG]; exact u6
      have e6 : H6 pl = some (.lst (hand9.map V.str)) := by rw [← hG]; exact e6
      clear hG
      refine ⟨pl, rfl, ⟨_, SqL.of e6⟩, fun D hD => ?_⟩
      refine lc_it (walk_list (xs := hand9.map V.str)) (fun i H' => H' D = some (.lst (((hand9.take i).map (tkF handX [0, 1])).map V.bl)) ∧ Same H6 H') ⟨upd_same, same_upd hD⟩ (fun i H' _ z => SqL.of (z.2 _ _ e6)) ?_ ?_
      · rintro i x H7z H7 hi ⟨hD7, s7⟩ ⟨rfl, hx⟩
        obtain ⟨p, hp, rfl⟩ : ∃ p, hand9[i]? = some p ∧ x = .str p := by
          rw [List.getElem?_map] at hx
          cases e : hand9[i]? with
          | none =>
            rw [e] at hx
            cases hx
          | some p =>
            rw [e] at hx
            exact ⟨p, rfl, (Option.some.inj hx).symm⟩
        obtain ⟨p1, p2⟩ := hand_ok p (List.mem_of_getElem? hp)
        refine ⟨rfl, _, rfl, _, rfl, .ref pr, handX, [0, 1], p, rfl, Da.same (u6.trans s7) _ _ da, hand_rd, by decide, p1, p2, fun H8 s8 => ?_⟩
        refine ⟨_, s8 _ _ hD7, ?_, ?_, same_set hD (s7.trans s8)⟩
        · rw [List.length_map, List.length_map, List.length_take, sizeLine_eq]
          show _ < 16777216
          have h9 : hand9.length = 9 := rfl
          omega
        · rw [take_one' hp, List.map_append, List.map_append]
          exact upd_same
      · rintro H7 ⟨hD7, s7⟩
        rw [List.length_map, List.take_length, hand_is] at hD7
        refine gName_go2 ?_
        refine ⟨_, rfl, (by show 9 ≤ sizeLine; decide), fun pw hpw => ?_⟩
        have u8 := same_upd (o := HO.lst [.bl true, .bl true, .bl true, .bl true, .bl false, .bl false, .bl false, .bl true, .bl false]) hpw
        have bs : ∀ {G : Hp} {b : Addr}, G b = some (.lst [.bl true, .bl true, .bl true, .bl true, .bl false, .bl false, .bl false, .bl true, .bl false]) → Da G (.ref b) (.list [.bool true, .bool true, .bool true, .bool true, .bool false, .bool false, .bool false, .bool true, .bool false]) := fun e =>
          .lst e (.cons (.bl _) (.cons (.bl _) (.cons (.bl _) (.cons (.bl _) (.cons (.bl _) (.cons (.bl _) (.cons (.bl _) (.cons (.bl _) (.cons (.bl _) .nil)))))))))
        refine ⟨.list [.bool true, .bool true, .bool true, .bool true, .bool false, .bool false, .bool false, .bool true, .bool false], .list [.bool true, .bool true, .bool true, .bool true, .bool false, .bool false, .bool false, .bool true, .bool false], Da.dp _ _ (bs (u8 _ _ hD7)), Da.dp _ _ (bs upd_same), by decide +kernel, by decide +kernel, ?_⟩
        rw [show PyData.eqv (.list [.bool true, .bool true, .bool true, .bool true, .bool false, .bool false, .bool false, .bool true, .bool false]) (.list [.bool true, .bool true, .bool true, .bool true, .bool false, .bool false, .bool false, .bool true, .bool false]) = true by decide +kernel]
        exact q _
end
end K07

set_option Elab.async false
set_option linter.all false
set_option maxRecDepth 100000
set_option maxHeartbeats 8000000
/-! What the top has written. -/
namespace K07
open PySem L2 L2.EV PySem.Spec PyProof.Rows
theorem oxc {K : PySem.W.Frag} {C N : Addr} {nm q : Str} {bs : List Value} {sn : List Str} {sub : List Value} {ab : Bool} {col : Option Bool} {dd : Option Addr} {k0 k1 k2 k3 k5 : Option Value} {B newId initId : String} {bm : List Value}
    (cl : K.lookup C = some (excClassObj nm q C N bs bm true sn sub ab col dd k0 k1 k2 k3 k5 newId)) (F : ExcBaseFacts B newId initId bm) (pas : ∀ self, refuseLoop self "__setattr__" bm = pure ()) (obj : bm.contains (.type "object") = true)
    (sa : PySem.W.findIn K (.ref C) "__setattr__" = some (some (.builtin "object.__setattr__"))) (ga : PySem.W.findIn K (.ref C) "__getattribute__" = some (some (.builtin "BaseException.__getattribute__")))
    (gg : PySem.W.findIn K (.ref C) "__getattr__" = some none) (exC : PySem.W.subIn K (.ref C) (.type "BaseException") = some true) (kC : PySem.W.keepIn K (.ref C) = true) (hd : PySem.W.hasDictIn K C = true)
    (ca : PySem.W.findIn K (.ref C) "__class__" = some (some (.builtin "object.__class__"))) (cn : PySem.W.specialIn K (.builtin "object.__class__") "__get__" = some (some (.builtin "getset_descriptor.__get__")))
    (ct : PySem.W.takesIn K (.builtin "object.__class__") = some true) (om : PySem.W.mroIn K C (.type "object") = some true) : OxC K C B newId initId bm :=
  ⟨F, ⟨nm, q, N, bs, sn, sub, ab, col, dd, k0, k1, k2, k3, k5, cl⟩, pas, obj, sa, ga, gg, exC, kC, hd, ca, cn, ct, om⟩
theorem fund_mk {K : PySem.W.Frag} {x qual : Str} {st : Stmt} {f T : Addr} {oc toc : Value} {od an tod : Option Addr} {osl tsl : Array (Option Value)} {n : Nat} {kV doc pm cdv ct : Value} (l : K.lookup f = some ⟨oc, od, .func (PySem.W.fnOf x qual (defArgs st) (defBody st) (defScope st) (.ref T) kV doc pm an cdv ct), osl⟩)
    (t : K.lookup T = some ⟨toc, tod, .seq #[.none] n, tsl⟩) (c : PySem.W.codeIn K cdv qual = true) (k : PySem.W.keepIn K (.ref f) = true) :
    FunD K x qual (defArgs st) (defBody st) (defScope st) [V.non] [] f (PySem.W.fnOf x qual (defArgs st) (defBody st) (defScope st) (.ref T) kV doc pm an cdv ct) :=
  ⟨⟨oc, od, .ref T, kV, doc, pm, an, cdv, ct, osl, rfl, l, c, .inr ⟨by simp, T, _, [.none], n, rfl, t, rfl, .cons rfl .nil⟩, .inl rfl⟩, k⟩
theorem all_mk {P : Program} {w : World} {K : PySem.W.Frag} {h : Heap} {mg : Str → Option Value} {fa C D f_ini f_ino f_iN f_iU f_iR f_iO f_iE f_iX f_iT f_ms f_lB f_lN f_lT f_lE f_lS f_lK f_lR f_la  : Addr}
    {od_iN an_iN : Option Addr} {sl_iN : Array (Option Value)} {oc_iN kV_iN dc_iN pm_iN cd_iN ct_iN : Value}
    {od_iU an_iU : Option Addr} {sl_iU : Array (Option Value)} {oc_iU kV_iU dc_iU pm_iU cd_iU ct_iU : Value}
    {od_iR an_iR : Option Addr} {sl_iR : Array (Option Value)} {oc_iR kV_iR dc_iR pm_iR cd_iR ct_iR : Value}
    {od_iO an_iO : Option Addr} {sl_iO : Array (Option Value)} {oc_iO kV_iO dc_iO pm_iO cd_iO ct_iO : Value}
    {od_iE an_iE : Option Addr} {sl_iE : Array (Option Value)} {oc_iE kV_iE dc_iE pm_iE cd_iE ct_iE : Value}
    {od_iX an_iX : Option Addr} {sl_iX : Array (Option Value)} {oc_iX kV_iX dc_iX pm_iX cd_iX ct_iX : Value}
    {od_iT an_iT : Option Addr} {sl_iT : Array (Option Value)} {oc_iT kV_iT dc_iT pm_iT cd_iT ct_iT : Value}
    {od_ms an_ms : Option Addr} {sl_ms : Array (Option Value)} {oc_ms kV_ms dc_ms pm_ms cd_ms ct_ms : Value}
    {od_lB an_lB : Option Addr} {sl_lB : Array (Option Value)} {oc_lB kV_lB dc_lB pm_lB cd_lB ct_lB : Value}
    {od_lN an_lN : Option Addr} {sl_lN : Array (Option Value)} {oc_lN kV_lN dc_lN pm_lN cd_lN ct_lN : Value}
    {od_lT an_lT : Option Addr} {sl_lT : Array (Option Value)} {oc_lT kV_lT dc_lT pm_lT cd_lT ct_lT : Value}
    {od_lE an_lE : Option Addr} {sl_lE : Array (Option Value)} {oc_lE kV_lE dc_lE pm_lE cd_lE ct_lE : Value}
    {od_lS an_lS : Option Addr} {sl_lS : Array (Option Value)} {oc_lS kV_lS dc_lS pm_lS cd_lS ct_lS : Value}
    {od_lK an_lK : Option Addr} {sl_lK : Array (Option Value)} {oc_lK kV_lK dc_lK pm_lK cd_lK ct_lK : Value}
    {od_lR an_lR : Option Addr} {sl_lR : Array (Option Value)} {oc_lR kV_lR dc_lR pm_lR cd_lR ct_lR : Value}
    {od_la an_la : Option Addr} {sl_la : Array (Option Value)} {oc_la kV_la dc_la pm_la cd_la ct_la : Value}
    {od_ini an_ini : Option Addr} {sl_ini : Array (Option Value)} {oc_ini kV_ini dc_ini pm_ini cd_ini ct_ini : Value}
    {od_ino an_ino : Option Addr} {sl_ino : Array (Option Value)} {oc_ino kV_ino dc_ino pm_ino cd_ino ct_ino : Value}
    {t_vS : Tok}
    {t_vT : Tok}
    {t_vK : Tok}
    (X : K.In h) (G : h.Ns mainGlobals mg) (hfa : mg "law" = some (.ref fa))
    (a_iN : PySem.W.nsIn K mainGlobals "is_number" = some (some (.ref f_iN)))
    (l_iN : K.lookup f_iN = some ⟨oc_iN, od_iN, .func (PySem.W.fnOf "is_number" "is_number" (defArgs sNum) (defBody sNum) (defScope sNum) .none kV_iN dc_iN pm_iN an_iN cd_iN ct_iN), sl_iN⟩) (c_iN : PySem.W.codeIn K cd_iN "is_number" = true) (k_iN : PySem.W.keepIn K (.ref f_iN) = true)
    (a_iU : PySem.W.nsIn K mainGlobals "is_rule" = some (some (.ref f_iU)))
    (l_iU : K.lookup f_iU = some ⟨oc_iU, od_iU, .func (PySem.W.fnOf "is_rule" "is_rule" (defArgs sRule) (defBody sRule) (defScope sRule) .none kV_iU dc_iU pm_iU an_iU cd_iU ct_iU), sl_iU⟩) (c_iU : PySem.W.codeIn K cd_iU "is_rule" = true) (k_iU : PySem.W.keepIn K (.ref f_iU) = true)
    (a_iR : PySem.W.nsIn K mainGlobals "need_reader" = some (some (.ref f_iR)))
    (l_iR : K.lookup f_iR = some ⟨oc_iR, od_iR, .func (PySem.W.fnOf "need_reader" "need_reader" (defArgs sNeedR) (defBody sNeedR) (defScope sNeedR) .none kV_iR dc_iR pm_iR an_iR cd_iR ct_iR), sl_iR⟩) (c_iR : PySem.W.codeIn K cd_iR "need_reader" = true) (k_iR : PySem.W.keepIn K (.ref f_iR) = true)
    (a_iO : PySem.W.nsIn K mainGlobals "rows_of" = some (some (.ref f_iO)))
    (l_iO : K.lookup f_iO = some ⟨oc_iO, od_iO, .func (PySem.W.fnOf "rows_of" "rows_of" (defArgs sRows) (defBody sRows) (defScope sRows) .none kV_iO dc_iO pm_iO an_iO cd_iO ct_iO), sl_iO⟩) (c_iO : PySem.W.codeIn K cd_iO "rows_of" = true) (k_iO : PySem.W.keepIn K (.ref f_iO) = true)
    (a_iE : PySem.W.nsIn K mainGlobals "led" = some (some (.ref f_iE)))
    (l_iE : K.lookup f_iE = some ⟨oc_iE, od_iE, .func (PySem.W.fnOf "led" "led" (defArgs sLed) (defBody sLed) (defScope sLed) .none kV_iE dc_iE pm_iE an_iE cd_iE ct_iE), sl_iE⟩) (c_iE : PySem.W.codeIn K cd_iE "led" = true) (k_iE : PySem.W.keepIn K (.ref f_iE) = true)
    (a_iX : PySem.W.nsIn K mainGlobals "need_line_text" = some (some (.ref f_iX)))
    (l_iX : K.lookup f_iX = some ⟨oc_iX, od_iX, .func (PySem.W.fnOf "need_line_text" "need_line_text" (defArgs sNLT) (defBody sNLT) (defScope sNLT) .none kV_iX dc_iX pm_iX an_iX cd_iX ct_iX), sl_iX⟩) (c_iX : PySem.W.codeIn K cd_iX "need_line_text" = true) (k_iX : PySem.W.keepIn K (.ref f_iX) = true)
    (a_iT : PySem.W.nsIn K mainGlobals "takes" = some (some (.ref f_iT)))
    (l_iT : K.lookup f_iT = some ⟨oc_iT, od_iT, .func (PySem.W.fnOf "takes" "takes" (defArgs sTakes) (defBody sTakes) (defScope sTakes) .none kV_iT dc_iT pm_iT an_iT cd_iT ct_iT), sl_iT⟩) (c_iT : PySem.W.codeIn K cd_iT "takes" = true) (k_iT : PySem.W.keepIn K (.ref f_iT) = true)
    (a_ms : PySem.W.nsIn K mainGlobals "message" = some (some (.ref f_ms)))
    (l_ms : K.lookup f_ms = some ⟨oc_ms, od_ms, .func (PySem.W.fnOf "message" "message" (defArgs sMsg) (defBody sMsg) (defScope sMsg) .none kV_ms dc_ms pm_ms an_ms cd_ms ct_ms), sl_ms⟩) (c_ms : PySem.W.codeIn K cd_ms "message" = true) (k_ms : PySem.W.keepIn K (.ref f_ms) = true)
    (a_lB : PySem.W.nsIn K mainGlobals "_law_begun" = some (some (.ref f_lB)))
    (l_lB : K.lookup f_lB = some ⟨oc_lB, od_lB, .func (PySem.W.fnOf "_law_begun" "_law_begun" (defArgs sBegun) (defBody sBegun) (defScope sBegun) .none kV_lB dc_lB pm_lB an_lB cd_lB ct_lB), sl_lB⟩) (c_lB : PySem.W.codeIn K cd_lB "_law_begun" = true) (k_lB : PySem.W.keepIn K (.ref f_lB) = true)
    (a_lN : PySem.W.nsIn K mainGlobals "_law_next" = some (some (.ref f_lN)))
    (l_lN : K.lookup f_lN = some ⟨oc_lN, od_lN, .func (PySem.W.fnOf "_law_next" "_law_next" (defArgs sNext) (defBody sNext) (defScope sNext) .none kV_lN dc_lN pm_lN an_lN cd_lN ct_lN), sl_lN⟩) (c_lN : PySem.W.codeIn K cd_lN "_law_next" = true) (k_lN : PySem.W.keepIn K (.ref f_lN) = true)
    (a_lT : PySem.W.nsIn K mainGlobals "_law_table" = some (some (.ref f_lT)))
    (l_lT : K.lookup f_lT = some ⟨oc_lT, od_lT, .func (PySem.W.fnOf "_law_table" "_law_table" (defArgs sTable) (defBody sTable) (defScope sTable) .none kV_lT dc_lT pm_lT an_lT cd_lT ct_lT), sl_lT⟩) (c_lT : PySem.W.codeIn K cd_lT "_law_table" = true) (k_lT : PySem.W.keepIn K (.ref f_lT) = true)
    (a_lE : PySem.W.nsIn K mainGlobals "_law_led" = some (some (.ref f_lE)))
    (l_lE : K.lookup f_lE = some ⟨oc_lE, od_lE, .func (PySem.W.fnOf "_law_led" "_law_led" (defArgs sLLed) (defBody sLLed) (defScope sLLed) .none kV_lE dc_lE pm_lE an_lE cd_lE ct_lE), sl_lE⟩) (c_lE : PySem.W.codeIn K cd_lE "_law_led" = true) (k_lE : PySem.W.keepIn K (.ref f_lE) = true)
    (a_lS : PySem.W.nsIn K mainGlobals "_law_some_reader" = some (some (.ref f_lS)))
    (l_lS : K.lookup f_lS = some ⟨oc_lS, od_lS, .func (PySem.W.fnOf "_law_some_reader" "_law_some_reader" (defArgs sSome) (defBody sSome) (defScope sSome) .none kV_lS dc_lS pm_lS an_lS cd_lS ct_lS), sl_lS⟩) (c_lS : PySem.W.codeIn K cd_lS "_law_some_reader" = true) (k_lS : PySem.W.keepIn K (.ref f_lS) = true)
    (a_lK : PySem.W.nsIn K mainGlobals "_law_is_taken" = some (some (.ref f_lK)))
    (l_lK : K.lookup f_lK = some ⟨oc_lK, od_lK, .func (PySem.W.fnOf "_law_is_taken" "_law_is_taken" (defArgs sTaken) (defBody sTaken) (defScope sTaken) .none kV_lK dc_lK pm_lK an_lK cd_lK ct_lK), sl_lK⟩) (c_lK : PySem.W.codeIn K cd_lK "_law_is_taken" = true) (k_lK : PySem.W.keepIn K (.ref f_lK) = true)
    (a_lR : PySem.W.nsIn K mainGlobals "_law_is_refused" = some (some (.ref f_lR)))
    (l_lR : K.lookup f_lR = some ⟨oc_lR, od_lR, .func (PySem.W.fnOf "_law_is_refused" "_law_is_refused" (defArgs sRefused) (defBody sRefused) (defScope sRefused) .none kV_lR dc_lR pm_lR an_lR cd_lR ct_lR), sl_lR⟩) (c_lR : PySem.W.codeIn K cd_lR "_law_is_refused" = true) (k_lR : PySem.W.keepIn K (.ref f_lR) = true)
    (a_la : PySem.W.nsIn K mainGlobals "law" = some (some (.ref f_la)))
    (l_la : K.lookup f_la = some ⟨oc_la, od_la, .func (PySem.W.fnOf "law" "law" (defArgs sLaw) (defBody sLaw) (defScope sLaw) .none kV_la dc_la pm_la an_la cd_la ct_la), sl_la⟩) (c_la : PySem.W.codeIn K cd_la "law" = true) (k_la : PySem.W.keepIn K (.ref f_la) = true)
    (aC : PySem.W.nsIn K mainGlobals "BadReader" = some (some (.ref C)))
    (OXC : OxC K C "ValueError" "ValueError.__new__" "ValueError.__init__" [.type "ValueError", .type "Exception", .type "BaseException", .type "object"])
    (iCC : PySem.W.findIn K (.ref C) "__init__" = some (some (.ref f_ini))) (tIC : PySem.W.typeIn K (.ref f_ini) = some (.type "function"))
    (n0 : PySem.W.findIn K (.ref C) "part" = some none) (n1 : PySem.W.findIn K (.ref C) "number" = some none)
    (l_ini : K.lookup f_ini = some ⟨oc_ini, od_ini, .func (PySem.W.fnOf "__init__" "BadReader.__init__" (defArgs sBadReader) (defBody sBadReader) (defScope sBadReader) .none kV_ini dc_ini pm_ini an_ini cd_ini ct_ini), sl_ini⟩) (c_ini : PySem.W.codeIn K cd_ini "BadReader.__init__" = true) (k_ini : PySem.W.keepIn K (.ref f_ini) = true)
    (suC : PySem.W.subIn K (.ref C) (.type "BaseException") = some true) (tyC : PySem.W.typeIn K (.ref C) = some (.type "type")) (owC : PySem.W.subIn K (.ref C) (.ref C) = some true)
    (aD : PySem.W.nsIn K mainGlobals "OutOfPlace" = some (some (.ref D)))
    (OXD : OxC K D "ValueError" "ValueError.__new__" "ValueError.__init__" [.type "ValueError", .type "Exception", .type "BaseException", .type "object"])
    (iCD : PySem.W.findIn K (.ref D) "__init__" = some (some (.ref f_ino))) (tID : PySem.W.typeIn K (.ref f_ino) = some (.type "function"))
    (l_ino : K.lookup f_ino = some ⟨oc_ino, od_ino, .func (PySem.W.fnOf "__init__" "OutOfPlace.__init__" (defArgs sOutOfPlace) (defBody sOutOfPlace) (defScope sOutOfPlace) .none kV_ino dc_ino pm_ino an_ino cd_ino ct_ino), sl_ino⟩) (c_ino : PySem.W.codeIn K cd_ino "OutOfPlace.__init__" = true) (k_ino : PySem.W.keepIn K (.ref f_ino) = true)
    (suD : PySem.W.subIn K (.ref D) (.type "BaseException") = some true) (tyD : PySem.W.typeIn K (.ref D) = some (.type "type")) (owD : PySem.W.subIn K (.ref D) (.ref D) = some true)
    (g_vS : PySem.W.nsIn K mainGlobals "SIGNS" = some (some (.str "abcdefghijklmnopqrstuvwxyz0123456789@" t_vS)))
    (g_vT : PySem.W.nsIn K mainGlobals "MOST_STATES" = some (some (.int 200 t_vT)))
    (g_vK : PySem.W.nsIn K mainGlobals "MARKS" = some (some (.str "ABCDEFGH" t_vK)))
    (z_isinstance : PySem.W.nsIn K mainGlobals "isinstance" = some none)
    (z_int : PySem.W.nsIn K mainGlobals "int" = some none)
    (z_bool : PySem.W.nsIn K mainGlobals "bool" = some none)
    (z_str : PySem.W.nsIn K mainGlobals "str" = some none)
    (z_tuple : PySem.W.nsIn K mainGlobals "tuple" = some none)
    (z_len : PySem.W.nsIn K mainGlobals "len" = some none)
    (z_all : PySem.W.nsIn K mainGlobals "all" = some none)
    (z_sorted : PySem.W.nsIn K mainGlobals "sorted" = some none)
    (z_enumerate : PySem.W.nsIn K mainGlobals "enumerate" = some none)
    (z_list : PySem.W.nsIn K mainGlobals "list" = some none)
    (z_range : PySem.W.nsIn K mainGlobals "range" = some none)
    (z_min : PySem.W.nsIn K mainGlobals "min" = some none)
    (z_set : PySem.W.nsIn K mainGlobals "set" = some none)
    (z_dict : PySem.W.nsIn K mainGlobals "dict" = some none)
    (z_repr : PySem.W.nsIn K mainGlobals "repr" = some none)
    (z_ValueError : PySem.W.nsIn K mainGlobals "ValueError" = some none)
    (v_V : PySem.W.findCls K (.type "ValueError") (.type "type") "__init__" = some (.val (.builtin "ValueError.__init__"))) :
    ∃ fd : FuncData, (∀ (s : Shared) (u : Value), BindsTo s fd ⟨[u], []⟩ [("script", u)]) ∧ ∀ base : Heap, K.In base → base.Ns mainGlobals mg → FnG P w K mg base CX0 7 fa fd ["script"] (spLaw K) := by
  have e := hfa.symm.trans (PySem.W.mg_of X G a_la)
  cases e
  have F_iN := fun_mk (st := sNum) l_iN c_iN k_iN
  have b_iN := F_iN.binds (ps := ["thing", "many"]) fun _ _ _ _ _ _ us hl => match us, hl with | [_, _], _ => rfl
  have m_iN := PySem.W.mg_of X G a_iN
  have F_iU := fun_mk (st := sRule) l_iU c_iU k_iU
  have b_iU := F_iU.binds (ps := ["thing"]) fun _ _ _ _ _ _ us hl => match us, hl with | [_], _ => rfl
  have m_iU := PySem.W.mg_of X G a_iU
  have F_iR := fun_mk (st := sNeedR) l_iR c_iR k_iR
  have b_iR := F_iR.binds (ps := ["thing"]) fun _ _ _ _ _ _ us hl => match us, hl with | [_], _ => rfl
  have m_iR := PySem.W.mg_of X G a_iR
  have F_iO := fun_mk (st := sRows) l_iO c_iO k_iO
  have b_iO := F_iO.binds (ps := ["reader"]) fun _ _ _ _ _ _ us hl => match us, hl with | [_], _ => rfl
  have m_iO := PySem.W.mg_of X G a_iO
  have F_iE := fun_mk (st := sLed) l_iE c_iE k_iE
  have b_iE := F_iE.binds (ps := ["rows", "state", "signs"]) fun _ _ _ _ _ _ us hl => match us, hl with | [_, _, _], _ => rfl
  have m_iE := PySem.W.mg_of X G a_iE
  have F_iX := fun_mk (st := sNLT) l_iX c_iX k_iX
  have b_iX := F_iX.binds (ps := ["thing"]) fun _ _ _ _ _ _ us hl => match us, hl with | [_], _ => rfl
  have m_iX := PySem.W.mg_of X G a_iX
  have F_iT := fun_mk (st := sTakes) l_iT c_iT k_iT
  have b_iT := F_iT.binds (ps := ["reader", "text"]) fun _ _ _ _ _ _ us hl => match us, hl with | [_, _], _ => rfl
  have m_iT := PySem.W.mg_of X G a_iT
  have F_ms := fun_mk (st := sMsg) l_ms c_ms k_ms
  have b_ms := F_ms.binds (ps := ["text"]) fun _ _ _ _ _ _ us hl => match us, hl with | [_], _ => rfl
  have m_ms := PySem.W.mg_of X G a_ms
  have F_lB := fun_mk (st := sBegun) l_lB c_lB k_lB
  have b_lB := F_lB.binds (ps := ["script"]) fun _ _ _ _ _ _ us hl => match us, hl with | [_], _ => rfl
  have m_lB := PySem.W.mg_of X G a_lB
  have F_lN := fun_mk (st := sNext) l_lN c_lN k_lN
  have b_lN := F_lN.binds (ps := ["m", "many"]) fun _ _ _ _ _ _ us hl => match us, hl with | [_, _], _ => rfl
  have m_lN := PySem.W.mg_of X G a_lN
  have F_lT := fun_mk (st := sTable) l_lT c_lT k_lT
  have b_lT := F_lT.binds (ps := ["reader"]) fun _ _ _ _ _ _ us hl => match us, hl with | [_], _ => rfl
  have m_lT := PySem.W.mg_of X G a_lT
  have F_lE := fun_mk (st := sLLed) l_lE c_lE k_lE
  have b_lE := F_lE.binds (ps := ["table", "state", "signs"]) fun _ _ _ _ _ _ us hl => match us, hl with | [_, _, _], _ => rfl
  have m_lE := PySem.W.mg_of X G a_lE
  have F_lS := fun_mk (st := sSome) l_lS c_lS k_lS
  have b_lS := F_lS.binds (ps := ["m", "many"]) fun _ _ _ _ _ _ us hl => match us, hl with | [_, _], _ => rfl
  have m_lS := PySem.W.mg_of X G a_lS
  have F_lK := fun_mk (st := sTaken) l_lK c_lK k_lK
  have b_lK := F_lK.binds (ps := ["reader", "text"]) fun _ _ _ _ _ _ us hl => match us, hl with | [_, _], _ => rfl
  have m_lK := PySem.W.mg_of X G a_lK
  have F_lR := fun_mk (st := sRefused) l_lR c_lR k_lR
  have b_lR := F_lR.binds (ps := ["reader", "text"]) fun _ _ _ _ _ _ us hl => match us, hl with | [_, _], _ => rfl
  have m_lR := PySem.W.mg_of X G a_lR
  have F_la := fun_mk (st := sLaw) l_la c_la k_la
  have b_la := F_la.binds (ps := ["script"]) fun _ _ _ _ _ _ us hl => match us, hl with | [_], _ => rfl
  have m_la := PySem.W.mg_of X G a_la
  have F_ini := fun_mk (st := sBadReader) l_ini c_ini k_ini
  have b_ini := F_ini.binds (ps := ["self", "part", "number"]) fun _ _ _ _ _ _ us hl => match us, hl with | [_, _, _], _ => rfl
  have F_ino := fun_mk (st := sOutOfPlace) l_ino c_ino k_ino
  have b_ino := F_ino.binds (ps := ["self", "text"]) fun _ _ _ _ _ _ us hl => match us, hl with | [_, _], _ => rfl
  have y_isinstance := PySem.W.mg_none_of X G z_isinstance
  have y_int := PySem.W.mg_none_of X G z_int
  have y_bool := PySem.W.mg_none_of X G z_bool
  have y_str := PySem.W.mg_none_of X G z_str
  have y_tuple := PySem.W.mg_none_of X G z_tuple
  have y_len := PySem.W.mg_none_of X G z_len
  have y_all := PySem.W.mg_none_of X G z_all
  have y_sorted := PySem.W.mg_none_of X G z_sorted
  have y_enumerate := PySem.W.mg_none_of X G z_enumerate
  have y_list := PySem.W.mg_none_of X G z_list
  have y_range := PySem.W.mg_none_of X G z_range
  have y_min := PySem.W.mg_none_of X G z_min
  have y_set := PySem.W.mg_none_of X G z_set
  have y_dict := PySem.W.mg_none_of X G z_dict
  have y_repr := PySem.W.mg_none_of X G z_repr
  have y_ValueError := PySem.W.mg_none_of X G z_ValueError
  have x_vS := PySem.W.mg_of X G g_vS
  have x_vT := PySem.W.mg_of X G g_vT
  have x_vK := PySem.W.mg_of X G g_vK
  have TF : TxtF mg := ⟨y_isinstance, y_int, y_bool, y_str, y_tuple, y_len, y_all, ⟨_, x_vS⟩⟩
  have TD : TxtD mg := ⟨y_list, y_int, y_len⟩
  have IV : BI K mg "ValueError" "ValueError" "ValueError.__init__" := ⟨y_ValueError, by decide +kernel, by kernel_rfl, v_V, by decide +kernel⟩
  let zO : Brd K mg := { C := C, f := f_ini, d := _, T := OXC, I := IV, F := F_ini, b := b_ini, m := PySem.W.mg_of X G aC, iC := iCC, tI := tIC, n0 := n0, n1 := n1, su := suC, ty := tyC, own := owC }
  let zP : Oop K mg := { C := D, f := f_ino, d := _, fM := f_ms, dM := _, T := OXD, I := IV, F := F_ino, b := b_ino, FM := F_ms, bM := b_ms, mM := m_ms, TM := ⟨y_isinstance, y_str⟩, m := PySem.W.mg_of X G aD, iC := iCD, tI := tID, su := suD, ty := tyD, own := owD }
  let zF : Fs K mg := { fN := f_iN, dN := _, N := F_iN, bN := b_iN, mN := m_iN, T := TF, en := y_enumerate }
  let zR : Rs K mg := { Z := zF, B := zO, fU := f_iU, dU := _, U := F_iU, bU := b_iU, mU := m_iU, states := ⟨_, x_vT⟩ }
  let zK : Tk K mg := { R := zR, O := zP, marks := ⟨_, x_vK⟩, f1 := f_iX, d1 := _, F1 := F_iX, b1 := b_iX, m1 := m_iX }
  let zT : Tt K mg := { T := zK, fR := f_iR, dR := _, FR := F_iR, bR := b_iR, mR := m_iR, fO := f_iO, dO := _, FO := F_iO, bO := b_iO, mO := m_iO, fL := f_iE, dL := _, FL := F_iE, bL := b_iE, mL := m_iE, fT := f_iT, dT := _, FT := F_iT, bT := b_iT, mT := m_iT }
  let zN : Ln K mg := { T := zT, di := y_dict, se := y_set, so := y_sorted, fB := f_lT, dB := _, FB := F_lT, bB := b_lT, mB := m_lT, fL := f_lE, dL := _, FL := F_lE, bL := b_lE, mL := m_lE, f1 := f_lK, d1 := _, F1 := F_lK, b1 := b_lK, m1 := m_lK, f2 := f_lR, d2 := _, F2 := F_lR, b2 := b_lR, m2 := m_lR }
  let zL : Ls K mg := { f1 := f_lN, d1 := _, N := F_lN, bN := b_lN, mN := m_lN, T := TD, ra := y_range, tu := y_tuple, f2 := f_lS, d2 := _, P := F_lS, bP := b_lS, mP := m_lS }
  let zA : Lall K mg := { S := zL, N := zN, fB := f_lB, dB := _, Be := F_lB, bB := b_lB, mB := m_lB, mi := y_min, re := y_repr }
  exact ⟨PySem.W.fnOf "law" "law" (defArgs sLaw) (defBody sLaw) (defScope sLaw) .none kV_la dc_la pm_la an_la cd_la ct_la, fun s u => .of_eq rfl, fun base _ _ => ok_law zA F_la⟩
theorem walk {l : PySem.W.OpenLaw} {q : Program} {loose : List Str} {XP : (Str → Option Value) → Heap → Prop} {YP : World → Heap → Prop} {d : DefRec} {K : Params → PySem.W.Frag} (hn : l.most = some 63) (hdf : d.params.defaults = [])
    (hY : ∀ (w : World) (h : Heap), YP w h → (K w.params).In h)
    (F : ∀ (w : World) (mg : Str → Option Value) (fa : Addr) (h : Heap), (K w.params).In h → h.Ns mainGlobals mg → mg d.name = some (.ref fa) →
      ∃ fd : FuncData, (∀ (s : Shared) (u : Value), BindsTo s fd ⟨[u], []⟩ [("script", u)]) ∧ ∀ base : Heap, (K w.params).In base → base.Ns mainGlobals mg → FnG l.prog w (K w.params) mg base CX0 7 fa fd ["script"] (spLaw (K w.params))) :
    PySem.W.WalkO q loose XP YP l.row.toRowW d [] (fun f vs => PySem.call f vs) :=
  walk_ofG (n := 63) (k := 7) (x := "script") (sp := spLaw) hn (by decide) hdf ⟨rfl, by decide, by decide⟩ hY F (fun _ _ a ns hl _ hS => ⟨a, ns, rfl, hS, hl, fun _ => rfl⟩)
end K07

set_option Elab.async false
set_option maxRecDepth 100000
open PySem PySem.W PyProof.Rows
set_option maxRecDepth 100000 in
set_option maxHeartbeats 0 in
theorem PySem.Challenge.cw_tornlines_k07_whole_texts_taken_holds : PySem.Challenge.rw_tornlines_k07_whole_texts_taken.Holds := by
  w_on; o_law; k_head; (case hw => w_witness2)
  k_fill
  refine K07.walk (l := PySem.Challenge.rw_tornlines_k07_whole_texts_taken) rfl rfl (fun w h Y => by first | exact PySem.W.kIn_of Y | exact PySem.W.km_in_of Y) ?F
  case F =>
    intro w mg fa h KX G hmg
    refine' K07.all_mk KX G hmg ?a_iN ?l_iN ?c_iN ?k_iN ?a_iU ?l_iU ?c_iU ?k_iU ?a_iR ?l_iR ?c_iR ?k_iR ?a_iO ?l_iO ?c_iO ?k_iO ?a_iE ?l_iE ?c_iE ?k_iE ?a_iX ?l_iX ?c_iX ?k_iX ?a_iT ?l_iT ?c_iT ?k_iT ?a_ms ?l_ms ?c_ms ?k_ms ?a_lB ?l_lB ?c_lB ?k_lB ?a_lN ?l_lN ?c_lN ?k_lN ?a_lT ?l_lT ?c_lT ?k_lT ?a_lE ?l_lE ?c_lE ?k_lE ?a_lS ?l_lS ?c_lS ?k_lS ?a_lK ?l_lK ?c_lK ?k_lK ?a_lR ?l_lR ?c_lR ?k_lR ?a_la ?l_la ?c_la ?k_la ?aC ?OXC ?iCC ?tIC ?n0 ?n1 ?l_ini ?c_ini ?k_ini ?suC ?tyC ?owC ?aD ?OXD ?iCD ?tID ?l_ino ?c_ino ?k_ino ?suD ?tyD ?owD ?g_vS ?g_vT ?g_vK ?z_isinstance ?z_int ?z_bool ?z_str ?z_tuple ?z_len ?z_all ?z_sorted ?z_enumerate ?z_list ?z_range ?z_min ?z_set ?z_dict ?z_repr ?z_ValueError ?v_V
    (case a_iN => k_is)
    (case l_iN => k_is)
    (case c_iN => k_is)
    (case k_iN => k_is)
    (case a_iU => k_is)
    (case l_iU => k_is)
    (case c_iU => k_is)
    (case k_iU => k_is)
    (case a_iR => k_is)
    (case l_iR => k_is)
    (case c_iR => k_is)
    (case k_iR => k_is)
    (case a_iO => k_is)
    (case l_iO => k_is)
    (case c_iO => k_is)
    (case k_iO => k_is)
    (case a_iE => k_is)
    (case l_iE => k_is)
    (case c_iE => k_is)
    (case k_iE => k_is)
    (case a_iX => k_is)
    (case l_iX => k_is)
    (case c_iX => k_is)
    (case k_iX => k_is)
    (case a_iT => k_is)
    (case l_iT => k_is)
    (case c_iT => k_is)
    (case k_iT => k_is)
    (case a_ms => k_is)
    (case l_ms => k_is)
    (case c_ms => k_is)
    (case k_ms => k_is)
    (case a_lB => k_is)
    (case l_lB => k_is)
    (case c_lB => k_is)
    (case k_lB => k_is)
    (case a_lN => k_is)
    (case l_lN => k_is)
    (case c_lN => k_is)
    (case k_lN => k_is)
    (case a_lT => k_is)
    (case l_lT => k_is)
    (case c_lT => k_is)
    (case k_lT => k_is)
    (case a_lE => k_is)
    (case l_lE => k_is)
    (case c_lE => k_is)
    (case k_lE => k_is)
    (case a_lS => k_is)
    (case l_lS => k_is)
    (case c_lS => k_is)
    (case k_lS => k_is)
    (case a_lK => k_is)
    (case l_lK => k_is)
    (case c_lK => k_is)
    (case k_lK => k_is)
    (case a_lR => k_is)
    (case l_lR => k_is)
    (case c_lR => k_is)
    (case k_lR => k_is)
    (case a_la => k_is)
    (case l_la => k_is)
    (case c_la => k_is)
    (case k_la => k_is)
    (case aC => k_is)
    case OXC =>
      refine' K07.oxc ?cl PySem.F.excBase_ValueError (fun self => PySem.F.store_ValueError.passes self) (by decide +kernel) ?sa ?ga ?gg ?exC ?kC ?hd ?ca ?cn ?ct ?om
      (case cl => k_is)
      (case sa => k_is)
      (case ga => k_is)
      (case gg => k_is)
      (case exC => k_is)
      (case kC => k_is)
      (case hd => k_is)
      (case ca => k_is)
      (case cn => k_is)
      (case ct => k_is)
      (case om => k_is)
    (case iCC => k_is)
    (case tIC => k_is)
    (case n0 => k_is)
    (case n1 => k_is)
    (case l_ini => k_is)
    (case c_ini => k_is)
    (case k_ini => k_is)
    (case suC => k_is)
    (case tyC => k_is)
    (case owC => k_is)
    (case aD => k_is)
    case OXD =>
      refine' K07.oxc ?cl PySem.F.excBase_ValueError (fun self => PySem.F.store_ValueError.passes self) (by decide +kernel) ?sa ?ga ?gg ?exC ?kC ?hd ?ca ?cn ?ct ?om
      (case cl => k_is)
      (case sa => k_is)
      (case ga => k_is)
      (case gg => k_is)
      (case exC => k_is)
      (case kC => k_is)
      (case hd => k_is)
      (case ca => k_is)
      (case cn => k_is)
      (case ct => k_is)
      (case om => k_is)
    (case iCD => k_is)
    (case tID => k_is)
    (case l_ino => k_is)
    (case c_ino => k_is)
    (case k_ino => k_is)
    (case suD => k_is)
    (case tyD => k_is)
    (case owD => k_is)
    (case g_vS => k_is)
    (case g_vT => k_is)
    (case g_vK => k_is)
    (case z_isinstance => k_is)
    (case z_int => k_is)
    (case z_bool => k_is)
    (case z_str => k_is)
    (case z_tuple => k_is)
    (case z_len => k_is)
    (case z_all => k_is)
    (case z_sorted => k_is)
    (case z_enumerate => k_is)
    (case z_list => k_is)
    (case z_range => k_is)
    (case z_min => k_is)
    (case z_set => k_is)
    (case z_dict => k_is)
    (case z_repr => k_is)
    (case z_ValueError => k_is)
    (case v_V => k_is)
#print axioms PySem.Challenge.cw_tornlines_k07_whole_texts_taken_holds
