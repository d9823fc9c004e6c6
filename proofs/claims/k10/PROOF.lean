import PyProof.Rows.All
import Wide.All
import OpenK.AllK
import Wide.FinOn
import KE.KExcInit
import KE.KExcIs
import HandS.ForMost
import HandS.Exc
import HandS.ExcInit
import HandS.Defaults
import HandS.IsInst
import HandS.Conv
import HandS.Small
import HandS.SortRule
import HandS.TupLe
import HandS.NamedTupSort
import PyProof.Rows.SortKeyStr
import PyProof.FString5
import HandS.StrMore
import HandS.Walk
import PyProof.Rows.StrLen
import PyProof.StrLawsAffix
import HandS.Set
import HandS.Strs
import HandS.SetBool
import KE.GoesMore
import HandS.TupAny
import HandS.WideBits
import HandS.TupLen
import HandS.SetKeys
import PyProof.EnumMake
import PyProof.Draws
import HandS.More
import KE.KeyNested
import KE.KDictKeyed
import HandS.Dict
import HandS.Zip
import HandS.TryMany
import HandS.ExcValue
import HandS.ExcOwn
import HandS.WordsExc
import HandS.TupSets
import HandS.Deep
import HandS.DeepEq
import PyProof.ReprRoads
import HandS.NoneIn
import KE.KDictPairs
import HandS.TryOnly
import HandS.ExcIs
import HandS.Text
import KE.KDictDisplayH
import HandS.SetFor
import HandS.SetTxt0
import HandS.Keys
import PyProof.StrBlock2
import PySem.Challenge.RW_tornlines_k10_whole_partings
set_option Elab.async false
set_option linter.all false
set_option maxRecDepth 100000
set_option maxHeartbeats 4000000
/-! Own exception classes over any built-in base: made with positional or keyword arguments, kept as values, their fields read, asked by isinstance. -/
namespace EV
open PySem PySem.W PySem.Calls PyProof.Rows PySem.HandSPX
open Builtin Builtin.ObjectAttr
section
variable {prog : Program} {w : World} {A : Around} {E : Value → Shared → Prop} {R : Result → Shared → Prop}
variable {hp : Heap} {g : Array GenState} {d : Drawn} {t : Nat} {os : OsState}
/-- an exception's first field, whatever its base -/
theorem put_first {K : W.Frag} {nm : Str} {tk : Tok} {v : Value} {x C : Addr} {fv : Array Value} {cd : ClassData}
    (X : K.In hp) (hx : hp.get? x = some { cls := .ref C, data := .fields fv }) (hcd : W.clsIn K C = some cd)
    (pas : refuseLoop (.ref x) "__setattr__" cd.mro = pure ()) (hob : cd.mro.contains (.type "object") = true) (hne : cd.mro.isEmpty = false)
    (hh : cd.hasDict = true) (ha : W.findIn K (.ref C) nm = some none)
    (hq : ∀ h' tk' dx, (∀ b o, b ≠ x → hp.get? b = some o → h'.get? b = some o) → hp.objs.size ≤ dx → dx ≠ x →
      h'.get? x = some { cls := .ref C, dict := some dx, data := .fields fv } → h'.Ns1 dx (fun y => if y = nm then some v else none) →
      R (.ok (.ret .none)) ⟨h', g, d, tk', os⟩) :
    codeAny (model prog w) A (.call (.builtin "object.__setattr__") ⟨[.ref x, .str nm tk, v], []⟩) R ⟨hp, g, d, t, os⟩ := by
  have J : W.InstAt hp x { cls := .ref C, data := .fields fv } C none := ⟨hx, rfl, rfl, trivial⟩
  have hxs : x ≠ hp.objs.size := Nat.ne_of_lt (Heap.lt_size hx)
  have isO : W.Looks (model prog w) hp (isInstance (.ref x) (.type "object")) true :=
    J.type.andThen (W.looks_mroIn X (by unfold W.mroIn; rw [hcd, Option.bind_some, if_neg (by rw [hne]; decide), hob]))
  refine codeAny_call_builtin F.store_object.slot.plain F.store_object.entry
    (@W.check_slot (model prog w) _ _ ⟨hp, g, d, t, os⟩ "object.__setattr__" "object" "__setattr__" (.ref x) [.str nm tk, v] [] _
      F.store_object.kind F.store_object.split isO (F.store_object.args (.ref x) (.str nm tk) v) ?_)
  have order : W.Looks (model prog w) hp (mroOf (.ref C)) cd.mro := (W.looks_clsIn X hcd).andThen .now
  have taker : W.Looks (model prog w) hp (storeTaker? none) none := .now
  have data : W.Looks (model prog w) hp (classData C) cd := W.looks_clsIn X hcd
  rw [W.osa_eq, refuse_eq]
  refine wpAny_bind (wpAny_bind (J.type.at (wpAny_bind (order.at ?_))))
  rw [pas]
  refine wpAny_pure (wpAny_bind (J.type.at (wpAny_bind ((W.looks_findIn X ha).at (wpAny_bind (taker.at ?_))))))
  show wpAny _ _ (storeInOwnDict (.ref x) (.ref C) (.str nm tk) nm v false) _ _ _
  obtain ⟨q1, q2, q3, q4, q5, q6, q7, q8, q9, q10, q11⟩ := cd
  dsimp only at hh
  subst hh
  unfold storeInOwnDict ownDictForStores
  repeat (first
    | with_reducible refine store_in_new ?_ ?_
    | with_reducible refine wpAny_loadPart_at hx ?_
    | with_reducible refine data.at ?_
    | wp_step)
  · exact ⟨_, #[], _, (Heap.get?_update_ne _ _ _ _ hxs.symm).trans (Heap.get?_push_at rfl rfl), rfl, fun e he => absurd he (by simp), fun _ => rfl⟩
  · intro h' tk' nsd same
    have hx1 : (hp.push { cls := .type "dict", data := .dict #[] }).get? x = some { cls := .ref C, data := .fields fv } := Heap.get?_push_of_some _ hx
    refine hq h' tk' hp.objs.size (fun b o nb q => ?_) (Nat.le_refl _) hxs.symm ?_ nsd
    · exact (same.2 b (Nat.ne_of_lt (Heap.lt_size q))).trans
        ((Heap.get?_update_ne _ _ _ _ nb).trans (Heap.get?_push_of_some _ q))
    · exact (same.2 x hxs).trans (Heap.get?_update_self _ hx1 rfl)
/-- a further field -/
theorem put_more {K : W.Frag} {nm : Str} {tk : Tok} {v : Value} {x C dx : Addr} {fv : Array Value} {cd : ClassData} {m0 : Str → Option Value} {nl : List Str}
    (X : K.In hp) (hx : hp.get? x = some { cls := .ref C, dict := some dx, data := .fields fv }) (nsd : hp.Ns1 dx m0) (wi : Within m0 nl) (hz : nl.length ≤ 1000)
    (hcd : W.clsIn K C = some cd) (pas : refuseLoop (.ref x) "__setattr__" cd.mro = pure ()) (hob : cd.mro.contains (.type "object") = true)
    (hne : cd.mro.isEmpty = false) (hh : cd.hasDict = true) (ha : W.findIn K (.ref C) nm = some none)
    (hq : ∀ h' tk', (∀ b o, b ≠ dx → hp.get? b = some o → h'.get? b = some o) → h'.Ns1 dx (fun y => if y = nm then some v else m0 y) →
      R (.ok (.ret .none)) ⟨h', g, d, tk', os⟩) :
    codeAny (model prog w) A (.call (.builtin "object.__setattr__") ⟨[.ref x, .str nm tk, v], []⟩) R ⟨hp, g, d, t, os⟩ := by
  obtain ⟨oD, _, _, hoD, _, _⟩ := nsd.count wi
  have J : W.InstAt hp x { cls := .ref C, dict := some dx, data := .fields fv } C (some oD) := ⟨hx, rfl, rfl, hoD⟩
  have isO : W.Looks (model prog w) hp (isInstance (.ref x) (.type "object")) true :=
    J.type.andThen (W.looks_mroIn X (by unfold W.mroIn; rw [hcd, Option.bind_some, if_neg (by rw [hne]; decide), hob]))
  refine codeAny_call_builtin F.store_object.slot.plain F.store_object.entry
    (@W.check_slot (model prog w) _ _ ⟨hp, g, d, t, os⟩ "object.__setattr__" "object" "__setattr__" (.ref x) [.str nm tk, v] [] _
      F.store_object.kind F.store_object.split isO (F.store_object.args (.ref x) (.str nm tk) v) ?_)
  have order : W.Looks (model prog w) hp (mroOf (.ref C)) cd.mro := (W.looks_clsIn X hcd).andThen .now
  have taker : W.Looks (model prog w) hp (storeTaker? none) none := .now
  have data : W.Looks (model prog w) hp (classData C) cd := W.looks_clsIn X hcd
  rw [W.osa_eq, refuse_eq]
  refine wpAny_bind (wpAny_bind (J.type.at (wpAny_bind (order.at ?_))))
  rw [pas]
  refine wpAny_pure (wpAny_bind (J.type.at (wpAny_bind ((W.looks_findIn X ha).at (wpAny_bind (taker.at ?_))))))
  show wpAny _ _ (storeInOwnDict (.ref x) (.ref C) (.str nm tk) nm v false) _ _ _
  obtain ⟨q1, q2, q3, q4, q5, q6, q7, q8, q9, q10, q11⟩ := cd
  dsimp only at hh
  subst hh
  unfold storeInOwnDict ownDictForStores
  repeat (first
    | with_reducible refine OEX.store_in_old nsd wi hz ?_
    | with_reducible refine wpAny_loadPart_at hx ?_
    | with_reducible refine data.at ?_
    | wp_step)
  intro h' tk' ns' same
  exact hq h' tk' (fun b o nb q => (same.2 b nb).trans q) ns'
end
/-! ### an own exception class called with keywords -/
section
variable {M : Model} {A : Around} {E : Value → Shared → Prop} {h : Heap} {g : Array GenState} {d : Drawn} {t : Nat} {os : OsState}
variable {nm q : Str} {C N : Addr} {bs bm : List Value} {hd : Bool} {sn : List Str} {sub : List Value} {ab : Bool} {col : Option Bool} {dd : Option Addr}
variable {k0 k1 k2 k3 k5 : Option Value} {B newId initId : String}
theorem check_newK (F : ExcBaseFacts B newId initId bm) {rest : List Value} {kw : List (Str × Value)} {Q : Unit → Shared → Prop}
    (hC : h.get? C = some (excClassObj nm q C N bs bm hd sn sub ab col dd k0 k1 k2 k3 k5 newId)) (hq : Q () ⟨h, g, d, t, os⟩) :
    wpAny M A (checkBuiltinCall newId ⟨.ref C :: rest, kw⟩) Q E ⟨h, g, d, t, os⟩ := by
  have hasIt : (Value.ref C :: bm).contains (.type B) = true := by rw [List.contains_cons, F.hasB, Bool.or_true]
  have star := F.noStar
  simp only [checkBuiltinCall, F.newKind, F.newSplit, F.newRow]
  repeat (first
    | refine wpAny_loadPart_at hC ?_
    | (refine wpAny_isSubtype_exc hC ?_; rw [hasIt])
    | refine wpAny_staticBase_exc hC ?_
    | refine wpAny_madeBy_exc hC ?_
    | simp only [bne_self_eq_false, Bool.false_eq_true, if_false]
    | wp_step)
  exact hq
end
section
variable {prog : Program} {w : World} {A : Around} {E : Value → Shared → Prop} {R : Result → Shared → Prop}
variable {h : Heap} {g : Array GenState} {d : Drawn} {t : Nat} {os : OsState}
variable {nm q : Str} {C N : Addr} {bs bm : List Value} {hd : Bool} {sn : List Str} {sub : List Value} {ab : Bool} {col : Option Bool} {dd : Option Addr}
variable {k0 k1 k2 k3 k5 : Option Value} {B newId initId : String}
theorem newK (F : ExcBaseFacts B newId initId bm) {rest : List Value} {kw : List (Str × Value)}
    (hC : h.get? C = some (excClassObj nm q C N bs bm hd sn sub ab col dd k0 k1 k2 k3 k5 newId))
    (hq : R (.ok (.ret (.ref (h.objs.size + 1)))) ⟨(h.push (W.kdv_tup rest)).push (excO C h.objs.size), g, d, t, os⟩) (hrest : rest.length ≤ sizeLine) :
    codeAny (model prog w) A (.builtin newId ⟨.ref C :: rest, kw⟩) R ⟨h, g, d, t, os⟩ := by
  have ends := F.ends
  have b1 : (Value.ref C :: bm).contains (.type B) = true := by rw [List.contains_cons, F.hasB, Bool.or_true]
  have b2 : (Value.ref C :: bm).contains (.type "AttributeError") = false := by rw [List.contains_cons, F.noAttr]; rfl
  have b3 : (Value.ref C :: bm).contains (.type "NameError") = false := by rw [List.contains_cons, F.noName]; rfl
  refine codeAny_builtinAt F.entry ?_
  unfold Builtin.«BaseException.__new__»
  refine PySem.wpAt_bind ?_
  show PySem.wpAt _ _ _ (stack >>= _) _ _ _
  refine PySem.wpAt_bind (PySem.wpAt_stack fun p below => PySem.wpAt_of_wpAny ?_)
  wp_walk
  refine PySem.wpAt_of_wpAny ?_
  rw [F.owner]
  repeat (first
    | with_reducible refine wpAny_madeHere_exc F.canon hC ?_
    | with_reducible refine wpAny_loadPart_at hC ?_
    | (with_reducible refine wpAny_isSubtype_exc hC ?_; first | rw [b1] | rw [b2] | rw [b3])
    | wp_step)
  show R _ _
  rw [Heap.size_push]
  exact hq
theorem typeCallK (F : ExcBaseFacts B newId initId bm) {rest : List Value} {kw : List (Str × Value)} {fI : Addr} {Q : Fin → Shared → Prop}
    (hC : h.get? C = some (excClassObj nm q C N bs bm hd sn sub ab col dd k0 k1 k2 k3 k5 newId))
    (hi : W.Looks (model prog w) h (typeLookup (.ref C) "__init__") (some (.ref fI)))
    (hb : ∀ self, W.Looks (model prog w) h (bindSpecial (.ref fI) self) (.ref fI, [self])) (hrest : rest.length ≤ sizeLine)
    (hq : codeAny (model prog w) A (.call (.ref fI) ⟨.ref (h.objs.size + 1) :: rest, kw⟩)
      (fun r s' => match r with | .ok (.ret v) => v = .none ∧ Q (.done (.ret (.ref (h.objs.size + 1)))) s' | .ok _ => False | .error e => E e s')
      ⟨(h.push (W.kdv_tup rest)).push (excO C h.objs.size), g, d, t, os⟩) :
    wpAny (model prog w) A (Builtin.«type.__call__» ⟨.ref C :: rest, kw⟩) Q E ⟨h, g, d, t, os⟩ := by
  repeat (first
    | with_reducible refine wpAny_loadPart_at hC ?_
    | with_reducible refine wpAny_madeBy_exc hC ?_
    | wp_step)
  refine codeAny_call_builtin_code (Code.quiet_builtin _ F.quiet) (check_newK F hC ?_)
  refine newK F hC ?_ hrest
  show wpAny _ _ _ _ _ _
  have kp : ∀ b o, h.get? b = some o → ((h.push (W.kdv_tup rest)).push (excO C h.objs.size)).get? b = some o :=
    fun b o e => Heap.get?_push_of_some _ (Heap.get?_push_of_some _ e)
  have hC1 := kp _ _ hC
  have new : ((h.push (W.kdv_tup rest)).push (excO C h.objs.size)).get? (h.objs.size + 1) = some (excO C h.objs.size) := by heap_get
  have self : (Value.ref C :: bm).contains (.ref C) = true := by simp
  have i1 := hi.keeps kp
  have b1 := (hb (.ref (h.objs.size + 1))).keeps kp
  unfold isInstance
  repeat (first
    | with_reducible refine wpAny_loadPart_at new ?_
    | (with_reducible refine wpAny_isSubtype_exc hC1 ?_; rw [self])
    | wp_step)
  show wpAny _ _ (typeLookup (.ref C) _) _ _ _
  refine i1.at ?_
  refine wpAny_holding (wpAny_bind (b1.at ?_))
  refine wpAny_bind (wpAny_call (codeAny_mono hq fun r s' z => ?_))
  rcases r with e | (v | _ | _ | _) <;> first | exact z | exact z.elim | skip
  obtain ⟨rfl, z⟩ := z
  first
    | exact wpAny_pure (wpAny_pure z)
    | (wp_walk; exact z)
theorem callK (F : ExcBaseFacts B newId initId bm) {rest : List Value} {kw : List (Str × Value)} {fI : Addr}
    (hC : h.get? C = some (excClassObj nm q C N bs bm hd sn sub ab col dd k0 k1 k2 k3 k5 newId))
    (hi : W.Looks (model prog w) h (typeLookup (.ref C) "__init__") (some (.ref fI)))
    (hb : ∀ self, W.Looks (model prog w) h (bindSpecial (.ref fI) self) (.ref fI, [self])) (hrest : rest.length ≤ sizeLine)
    (hq : codeAny (model prog w) (A.under (.builtin "type.__call__" ⟨.ref C :: rest, kw⟩)) (.call (.ref fI) ⟨.ref (h.objs.size + 1) :: rest, kw⟩)
      (W.InitBack (h.objs.size + 1) R) ⟨(h.push (W.kdv_tup rest)).push (excO C h.objs.size), g, d, t, os⟩) :
    codeAny (model prog w) A (.call (.ref C) ⟨rest, kw⟩) R ⟨h, g, d, t, os⟩ := by
  have f1 := tc_lookup
  have f2 := tc_bind (.ref C)
  have ty : (⟨h, g, d, t, os⟩ : Shared).TypeIs (.ref C) "type" := ⟨_, hC, rfl⟩
  refine codeAny_of_tree ?_
  show wpAny _ _ (callAny (.ref C) _) _ _ _
  repeat (any_goals (first
    | assumption
    | with_reducible refine wpAny_loadPart_at hC ?_
    | wp_step))
  refine ⟨rfl, ?_⟩
  refine codeAny_call_builtin_at (Code.quiet_builtin _ (by decide +kernel)) entry_typeCall ?_
  refine wpAny_check_type_call_sub hC ?_
  refine typeCallK F hC hi hb hrest (codeAny_mono hq fun r s' z => ?_)
  rcases r with e | (v | _ | _ | _) <;> exact z
end
end EV

set_option Elab.async false
set_option linter.all false
set_option maxRecDepth 100000
set_option maxHeartbeats 4000000
namespace L2
namespace EV
open PySem PySem.Spec PyProof.Rows _root_.EV
/-- what the written part says of an own exception class at C, straight under the built-in base B -/
structure OxC (K : PySem.W.Frag) (C : Addr) (B newId initId : String) (bm : List Value) : Prop where
  F : ExcBaseFacts B newId initId bm
  cls : ∃ nm q N bs sn sub ab col dd k0 k1 k2 k3 k5, K.lookup C = some (excClassObj nm q C N bs bm true sn sub ab col dd k0 k1 k2 k3 k5 newId)
  pas : ∀ self, refuseLoop self "__setattr__" bm = pure ()
  obj : bm.contains (.type "object") = true
  sa : PySem.W.findIn K (.ref C) "__setattr__" = some (some (.builtin "object.__setattr__"))
  ga : PySem.W.findIn K (.ref C) "__getattribute__" = some (some (.builtin "BaseException.__getattribute__"))
  gg : PySem.W.findIn K (.ref C) "__getattr__" = some none
  exC : PySem.W.subIn K (.ref C) (.type "BaseException") = some true
  kC : PySem.W.keepIn K (.ref C) = true
  hd : PySem.W.hasDictIn K C = true
  ca : PySem.W.findIn K (.ref C) "__class__" = some (some (.builtin "object.__class__"))
  cn : PySem.W.specialIn K (.builtin "object.__class__") "__get__" = some (some (.builtin "getset_descriptor.__get__"))
  ct : PySem.W.takesIn K (.builtin "object.__class__") = some true
  om : PySem.W.mroIn K C (.type "object") = some true
section
variable {X : Cx} {pins : List (Addr × Obj)} {σ : St} {H : Hp} {s : Shared} {a C dx : Addr} {f : Str} {y : V} {u : Value} {fs : List (Str × V)}
variable {Q : Unit → Shared → Prop} {E : Value → Shared → Prop} {A : Around} {B newId initId : String} {bm : List Value}
theorem OxC.data {K : PySem.W.Frag} (T : OxC K C B newId initId bm) : ∃ cd, PySem.W.clsIn K C = some cd ∧ cd.mro = .ref C :: bm ∧ cd.hasDict = true := by
  obtain ⟨nm, q, N, bs, sn, sub, ab, col, dd, k0, k1, k2, k3, k5, hC⟩ := T.cls
  refine ⟨{ name := nm, bases := bs, mro := .ref C :: bm, ns := N, qualname := q, hasDict := true, slotNames := sn, subclasses := sub, abstract := ab, collection := col, hasDel := false }, ?_, rfl, rfl⟩
  unfold PySem.W.clsIn
  rw [hC] <;> rfl
theorem OxC.look {K : PySem.W.Frag} (T : OxC K C B newId initId bm) {cd : ClassData} (e : cd.mro = .ref C :: bm) (self : Value) :
    refuseLoop self "__setattr__" cd.mro = pure () ∧ cd.mro.contains (.type "object") = true ∧ cd.mro.isEmpty = false := by
  rw [e, refuseLoop_ref]
  refine ⟨T.pas self, ?_, rfl⟩
  rw [List.contains_cons, T.obj, Bool.or_true]
/-- self.f = y, the first field -/
theorem ox_first (T : OxC X.K C B newId initId bm) (I : Inv X pins σ H s) (e : H a = some (exo a C none)) (no : PySem.W.findIn X.K (.ref C) f = some none) (ry : RelV y u)
    (h : ∀ dx s', H dx = none → dx ≠ a → Inv X pins σ (upd (upd H dx (exd dx [(f, y)])) a (exo a C (some dx))) s' → Q () s') :
    wpAny (model X.prog X.w) A (setAttr (.ref a) f u) Q E s := by
  obtain ⟨cd, hcl, hmr, hdi⟩ := T.data
  obtain ⟨l1, l2, l3⟩ := T.look hmr (.ref a)
  obtain ⟨t1, ho⟩ := exo_at I.hok e
  obtain ⟨hp, g, d, t, os⟩ := s
  refine PySem.W.set_plain I.kIn (ox := { cls := .ref C, dict := none, data := .fields #[.ref t1, .none, .none, .none, .bool false, .none] })
    (od := none) ⟨ho, rfl, rfl, trivial⟩ T.sa ?_
  refine put_first I.kIn ho hcl l1 l2 l3 hdi no fun h' tk' dx k big ne hx hn => ?_
  have free : H dx = none := I.hok.fresh big
  have old : ∀ {b : Addr} {o : Obj}, hp.get? b = some o → b ≠ dx := fun {b o} q => Nat.ne_of_lt (Nat.lt_of_lt_of_le (Heap.lt_size q) big)
  have nota : ∀ {b : Addr}, H b = none → b ≠ a := fun {b} n z => by
    subst z
    rw [e] at n
    cases n
  have un : Un X.fs [] H (upd (upd H dx (exd dx [(f, y)])) a (exo a C (some dx))) hp h' := by
    refine ⟨fun b o q n _ _ => k b o (nota n) q, fun b o q n _ _ => ⟨o.slots, k b o (nota n) q⟩, fun b o q n _ => ?_, fun b o q _ => ?_, fun b xs q => ?_, fun b o v q => ?_, fun b ps q => ⟨#[], ?_⟩⟩
    · rw [upd_ne (nota n), upd_ne (old q)]
      exact n
    · by_cases hb : b = a
      · subst hb
        exact ⟨_, hx⟩
      · exact ⟨o, k b o hb q⟩
    · rw [upd_ne (at_ne e q exo_tup), upd_ne (ne_of_none q free)]
      exact q
    · rw [upd_ne (at_ne e q exo_frz), upd_ne (ne_of_none q free)]
      exact q
    · rw [upd_ne (at_ne e q exo_tbl), upd_ne (ne_of_none q free), q]
      simp
  refine h dx _ free ne (I.un (t' := tk') un fun b o q => ?_)
  by_cases hb : b = a
  · subst hb
    rw [upd_same] at q
    cases q
    exact exo_ok hx
  · rw [upd_ne hb] at q
    by_cases hd : b = dx
    · subst hd
      rw [upd_same] at q
      cases q
      exact exd_ok hn (relO_put (fs := []) ry fun g => True.intro)
    · rw [upd_ne hd] at q
      refine (I.hok b o q).stay (fun c v hc z => k c v ?_ z) (fun c hc => ?_) fun c xs hc => ?_
      · rcases hc with hc | hc
        · subst hc
          exact hb
        · exact at_ne e hc exo_own
      · rw [upd_ne (at_ne e hc exo_own), upd_ne (ne_of_none hc free)]
        exact hc
      · rw [upd_ne (at_ne e hc exo_tup), upd_ne (ne_of_none hc free)]
        exact hc
/-- self.f = y, a further field -/
theorem ox_more (T : OxC X.K C B newId initId bm) (I : Inv X pins σ H s) (e : H a = some (exo a C (some dx))) (ed : H dx = some (exd dx fs)) (hl : fs.length ≤ 900)
    (no : PySem.W.findIn X.K (.ref C) f = some none) (ry : RelV y u) (h : ∀ s', Inv X pins σ (upd H dx (exd dx ((f, y) :: fs))) s' → Q () s') :
    wpAny (model X.prog X.w) A (setAttr (.ref a) f u) Q E s := by
  obtain ⟨cd, hcl, hmr, hdi⟩ := T.data
  obtain ⟨l1, l2, l3⟩ := T.look hmr (.ref a)
  obtain ⟨t1, ho⟩ := exo_at I.hok e
  obtain ⟨mA, hns, rel⟩ := exd_at I.hok ed
  have hw := within_of rel
  obtain ⟨hp, g, d, t, os⟩ := s
  obtain ⟨oD, _, _, hoD, _, _⟩ := hns.count hw
  refine PySem.W.set_plain I.kIn (ox := { cls := .ref C, dict := some dx, data := .fields #[.ref t1, .none, .none, .none, .bool false, .none] })
    (od := some oD) ⟨ho, rfl, rfl, hoD⟩ T.sa ?_
  refine put_more I.kIn ho hns hw (by rw [List.length_map]; omega) hcl l1 l2 l3 hdi no fun h' tk' k hn => ?_
  have there : ∃ o, h'.get? dx = some o := by
    obtain ⟨o, _, _, e', _⟩ := hn
    exact ⟨o, e'⟩
  refine h _ (I.write (t' := tk') (x := dx) (e := dx) (o := exd dx ((f, y) :: fs)) ?_ (.inl rfl) k there (exd_ok hn (relO_put ry rel)))
  rw [ed]
  exact True.intro
/-- B.__init__(self, ..) of an exception without fields: nothing of it is told -/
theorem ox_init {us : List Value} {Q : Value → Shared → Prop} (T : OxC X.K C B newId initId bm) (I : Inv X pins σ H s) (e : H a = some (exo a C none)) (hl : us.length ≤ sizeLine)
    (h : ∀ s', Inv X pins σ H s' → Q .none s') : wpAny (model X.prog X.w) A (call (.builtin initId) (.ref a :: us)) Q E s := by
  obtain ⟨nm, q, N, bs, sn, sub, ab, col, dd, k0, k1, k2, k3, k5, hC⟩ := T.cls
  obtain ⟨t1, ho⟩ := exo_at I.hok e
  obtain ⟨hp, g, d, t, os⟩ := s
  refine wpAny_call (PySem.HandSPX.init_base T.F (fun _ => rfl) (I.kIn _ _ hC) ho hl fun h' t2 k hx => ?_)
  have J := I.write (t' := t) (x := a) (e := a) (o := exo a C none) (by rw [e]; exact True.intro) (.inl rfl) k ⟨_, hx⟩ (exo_ok hx)
  have eu : upd H a (exo a C none) = H := by
    funext b
    by_cases hb : b = a
    · subst hb
      rw [upd_same, e]
    · rw [upd_ne hb]
  rw [eu] at J
  exact h _ J
end
/-! ### the readings -/
def tBin (K : PySem.W.Frag) (B newId initId : String) (bm : List Value) (ta : TA) : TE := fun σ H Q => ta σ H fun vs H1 =>
  ∃ (a C : Addr) (ws : List V), vs = .ref a :: ws ∧ ws.length ≤ 1000 ∧ OxC K C B newId initId bm ∧ H1 a = some (exo a C none) ∧ Q .non H1
def tPut (K : PySem.W.Frag) (B newId initId : String) (bm : List Value) (f : Str) (to te : TE) : TS := fun D σ H => te σ H fun y H1 => to σ H1 fun x H2 =>
  ∃ a C : Addr, x = .ref a ∧ OxC K C B newId initId bm ∧ PySem.W.findIn K (.ref C) f = some none ∧
    ((H2 a = some (exo a C none) ∧ ∀ dx, H2 dx = none → dx ≠ a → D.nx σ (upd (upd H2 dx (exd dx [(f, y)])) a (exo a C (some dx)))) ∨
      ∃ (dx : Addr) (fs : List (Str × V)), H2 a = some (exo a C (some dx)) ∧ H2 dx = some (exd dx fs) ∧ fs.length ≤ 900 ∧ D.nx σ (upd H2 dx (exd dx ((f, y) :: fs))))
/-- C(..) as a value: gV puts the exception itself, the values by position and those by name in the parameters' order -/
def tNew (C : Addr) (n m : Nat) (sp : Sp) (gV : List V → List V → List V) (t tk : TA) : TE := fun σ H Q => t σ H fun vs H1 => tk σ H1 fun zs H2 =>
  vs.length = n ∧ zs.length = m ∧ vs.length ≤ 1000 ∧ ∀ a, H2 a = none → sp (gV (.ref a :: vs) zs) (upd H2 a (exo a C none)) (fun v H3 => v = .non ∧ Q (.ref a) H3) (fun _ _ _ => False)
/-- e.f, e such an exception -/
def tFld (K : PySem.W.Frag) (f : Str) (te : TE) : TE := fun σ H Q => te σ H fun x H1 =>
  ∃ (a C dx : Addr) (B newId initId : String) (bm : List Value) (fs : List (Str × V)) (v : V), x = .ref a ∧ OxC K C B newId initId bm ∧ PySem.W.findIn K (.ref C) f = some none ∧
    H1 a = some (exo a C (some dx)) ∧ H1 dx = some (exd dx fs) ∧ fs.lookup f = some v ∧ Q v H1
/-- isinstance(e, c) -/
def rIsX (K : PySem.W.Frag) : List V → Hp → VK → Prop := fun xs H Q => ∃ (a C : Addr) (od : Option Addr) (fs : List (Str × V)) (B newId initId : String) (bm : List Value) (c : V) (u : Value) (b : Bool),
  xs = [.ref a, c] ∧ ClsV c u ∧ OxC K C B newId initId bm ∧ H a = some (exo a C od) ∧ (∀ dx, od = some dx → H dx = some (exd dx fs)) ∧ PySem.W.kitOne K (.ref C) u = some b ∧ Q (.bl b) H
section
variable {X : Cx} {o e : Expr} {es : List Expr} {to te : TE} {ta : TA} {f : Str} {p p' p1 p2 pos : Pos} {B newId initId : String} {bm : List Value}
theorem pe_bin {nB : Str} {pl : Sem Bool} (hg : Gl X nB) (hm : X.mg nB = none) (hv : bootBuiltins nB = some (.type B)) (ty : typeOf (.type B) = pure (.type "type"))
    (vV : PySem.W.findCls X.K (.type B) (.type "type") "__init__" = some (.val (.builtin initId))) (q4 : Manifest.isStub B = false) (ha : PA X (e :: es) ta) (q3 : PySem.W.handedIn (.builtin initId) = true)
    (hn1 : nB ≠ "__name__" := by decide) (hn2 : (nB == ("__debug__" : Str)) = false := by decide)
    (hc : eval (.Call (.Attribute (.Name nB p1) "__init__" p2) (e :: es) [] pos) X.env = (do
      let ov ← eval (.Name nB p1) X.env
      standAt p2.atName
      let (f, first) ← holding [ov] (getMethod ov "__init__" pl)
      callWith pos f first (backTo pos (starEach (e :: es) X.env)) (backToKw pos (keywordEach [] X.env))) := by rfl)
    (he : starEach (e :: es) X.env = (false, eval e X.env) :: starEach es X.env := by rfl) (hpl : (backTo pos (starEach es X.env)).any (·.1) = false := by rfl) :
    PE X (.Call (.Attribute (.Name nB p1) "__init__" p2) (e :: es) [] pos) (tBin X.K B newId initId bm ta) := by
  refine ⟨fun pins s σ H Q I h => ?_⟩
  refine PySem.W.methodCall_KW (ld_blt I hg hm hv ?_ hn1 hn2) hc
  obtain ⟨m, fr⟩ := I.fr
  refine PySem.W.method_type fr I.ok.mod.kin ty q4 vV q3 ?_
  show wpAny _ _ (callWith pos (Value.builtin initId) [] (backTo pos (starEach (e :: es) X.env)) []) _ _ _
  refine PyProof.Rows.callWith_method1 (thn (ha.run pos pins _ σ H _ (I.tok _) h) fun us s1 ⟨vs, H1, I1, r1, a, C, ws, ev, hl, T, ea, q⟩ => ?_) he hpl
  subst ev
  cases r1 with
  | @cons _ u0 _ ur ra rr =>
    obtain rfl : u0 = Value.ref a := ra
    have len : ur.length ≤ sizeLine := by
      have e1 := Paired.length rr
      rw [← e1, sizeLine_eq]
      omega
    exact ox_init T I1 ea len fun s' J => ⟨.non, H1, J, rfl, q⟩
/-- self.f = e -/
theorem ps_put (ho : PE X o to) (he : PE X e te) (hs : swapsWith e (some (.Attribute o f p')) pos.line X.env = pure false := by rfl) :
    PS X (.Assign [.Attribute o f p'] e pos) (tPut X.K B newId initId bm f to te) := by
  refine ⟨fun pins s σ H D I h => ?_⟩
  refine plainObj_wpAny_Assign_Attribute (thn (he.run pins s σ H _ I h) fun v s1 ⟨y, H1, I1, r1, q1⟩ => ?_) hs
  refine thn (ho.run pins s1 σ H1 _ I1 q1) fun u s2 ⟨x, H2, I2, r2, a, C, ex, T, no, q⟩ => ?_
  subst ex
  obtain rfl : u = Value.ref a := r2
  rcases q with ⟨ea, q⟩ | ⟨dx, fs, ea, ed, hl, q⟩
  · exact ox_first T I2 ea no r1 fun dx s' n ne J => ⟨σ, _, J, q dx n ne⟩
  · exact ox_more T I2 ea ed hl no r1 fun s' J => ⟨σ, _, J, q⟩
/-- e.f -/
theorem pe_xfld (he : PE X e te) (hb : attributeBase e f X.env (eval e X.env) = eval e X.env := by rfl) : PE X (.Attribute e f pos) (tFld X.K f te) := by
  refine ⟨fun pins s σ H Q I h => ?_⟩
  refine attr_of hb (thn (he.run pins s σ H _ I h) fun u s1 ⟨x, H1, I1, rx, a, C, dx, B, newId, initId, bm, fs, v, ex, T, no, ea, ed, l, q⟩ => ?_)
  subst ex
  obtain rfl : u = Value.ref a := rx
  obtain ⟨t1, ho⟩ := exo_at I1.hok ea
  obtain ⟨mA, hns, hr⟩ := exd_at I1.hok ed
  obtain ⟨od, hod, hl⟩ := lookIn_ns hns
  obtain ⟨u, hu, ru⟩ := RelO.some_of (v := v) (o := mA f) (by rw [← l]; exact hr f)
  have J : PySem.W.InstAt s1.heap a { cls := .ref C, dict := some dx, data := .fields #[.ref t1, .none, .none, .none, .bool false, .none] } C (some od) := ⟨ho, rfl, rfl, hod⟩
  exact HandSPX.exc_get I1.kIn J T.ga T.gg T.exC (PySem.W.findObj_own T.hd no rfl (by rw [hl, hu])) (handed_of ru) ⟨v, H1, I1.tok _, ru, q⟩
theorem call_isX : CallR X (.builtin "isinstance") (rIsX X.K) := by
  intro pins s σ H xs us Q I r h
  obtain ⟨a, C, od, fs, B, newId, initId, bm, c, u, b, rfl, k, T, ea, ed, e, q⟩ := h
  obtain ⟨u1, u2, rfl, r1, r2⟩ := vals2 r
  have e2 := k.eq r2
  subst e2
  obtain rfl : u1 = Value.ref a := r1
  obtain ⟨t1, ho⟩ := exo_at I.hok ea
  obtain ⟨cd, hcl, _⟩ := T.data
  have some_ : (PySem.W.clsIn X.K C).isSome = true := by rw [hcl]; rfl
  have fin : ∀ tk, EP X pins σ Q (.bool b) { s with toks := tk } := fun tk => ⟨.bl b, H, I.tok tk, rfl, q⟩
  cases od with
  | none =>
    have J : PySem.W.InstAt s.heap a { cls := .ref C, dict := none, data := .fields #[.ref t1, .none, .none, .none, .bool false, .none] } C none := ⟨ho, rfl, rfl, trivial⟩
    exact PySem.W.kia_one (PySem.W.kitx_exc some_ T.ga T.gg T.exC T.ca T.cn T.ct T.om) I.kIn J e (fun z => nomatch z) fin
  | some dx =>
    obtain ⟨mA, hns, hr⟩ := exd_at I.hok (ed dx rfl)
    obtain ⟨o', hod, hl⟩ := lookIn_ns hns
    have J : PySem.W.InstAt s.heap a { cls := .ref C, dict := some dx, data := .fields #[.ref t1, .none, .none, .none, .bool false, .none] } C (some o') := ⟨ho, rfl, rfl, hod⟩
    exact PySem.W.kia_one (PySem.W.kitx_exc some_ T.ga T.gg T.exC T.ca T.cn T.ct T.om) I.kIn J e (fun z => nomatch z) fin
end
/-! ### making one, kept as a value -/
section
variable {X : Cx} {CX : CXT} {k n : Nat} {fI C : Addr} {fd : FuncData} {ps ks : List Str} {sp : Sp} {x : Str} {p pos : Pos} {e : Expr} {es : List Expr} {kws : List Keyword}
variable {t tk : TA} {g : List Value → List Value → List Value} {gV : List V → List V → List V} {B newId initId : String} {bm : List Value}
theorem run_new {pins : List (Addr × Obj)} {σ : St} {H : Hp} {s : Shared} {Q : VK} {us ws : List Value} {vs zs : List V} (T : OxC X.K C B newId initId bm)
    (iC : PySem.W.findIn X.K (.ref C) "__init__" = some (some (.ref fI))) (tI : PySem.W.typeIn X.K (.ref fI) = some (.type "function"))
    (F : FnOk X.prog X.w X.K X.mg X.base CX k fI fd ps sp) (hr : Room (k + 1) X.A) (hb : KBn X.K fd ps (n + 1) ks g gV) (hx : Passes CX X (fun _ _ _ => False))
    (I : Inv X pins σ H s) (r : Vals vs us) (rz : Vals zs ws) (l1 : vs.length = n) (l2 : zs.length = ks.length) (l3 : vs.length ≤ 1000)
    (h : ∀ a, H a = none → sp (gV (.ref a :: vs) zs) (upd H a (exo a C none)) (fun v H3 => v = .non ∧ Q (.ref a) H3) (fun _ _ _ => False)) :
    wpAny (model X.prog X.w) X.A (call (.ref C) us (ks.zip ws)) (EP X pins σ Q) X.xe s := by
  obtain ⟨nm, q, N, bs, sn, sub, ab, col, dd, k0, k1, k2, k3, k5, hC⟩ := T.cls
  obtain ⟨hp, g1, dr, tk, os⟩ := s
  have big : hp.objs.size ≤ hp.objs.size + 1 := Nat.le_succ _
  have free : H (hp.objs.size + 1) = none := I.hok.fresh big
  have hq := h (hp.objs.size + 1) free
  have kp : ∀ b o, hp.get? b = some o → ((hp.push (PySem.W.kdv_tup us)).push (PySem.HandSPX.excO C hp.objs.size)).get? b = some o := fun b o e =>
    Heap.get?_push_of_some _ (Heap.get?_push_of_some _ e)
  have new : ((hp.push (PySem.W.kdv_tup us)).push (PySem.HandSPX.excO C hp.objs.size)).get? (hp.objs.size + 1) = some (PySem.HandSPX.excO C hp.objs.size) := by heap_get
  have I2 : Inv X pins σ (upd H (hp.objs.size + 1) (exo (hp.objs.size + 1) C none))
      ⟨(hp.push (PySem.W.kdv_tup us)).push (PySem.HandSPX.excO C hp.objs.size), g1, dr, tk, os⟩ :=
    I.laid (t' := tk) (a := hp.objs.size + 1) (o := exo (hp.objs.size + 1) C none) (h' := (hp.push (PySem.W.kdv_tup us)).push (PySem.HandSPX.excO C hp.objs.size)) kp big (exo_ok new)
  have ra : Vals (V.ref (hp.objs.size + 1) :: vs) (Value.ref (hp.objs.size + 1) :: us) := .cons rfl r
  have lu : us.length ≤ sizeLine := by
    have e1 := Paired.length r
    rw [← e1, sizeLine_eq]
    omega
  have n1 : (Value.ref (hp.objs.size + 1) :: us).length = n + 1 := by
    rw [List.length_cons, ← r.length, l1]
  refine wpAny_call (EV.callK T.F (I.kIn _ _ hC) (PySem.W.looks_findIn I.kIn iC) (fun self => PySem.W.bind_fn I.kIn self tI) lu
    (codeAny_mono (F.run _ X.stack _ _ ⟨Value.ref (hp.objs.size + 1) :: us, ks.zip ws⟩ (g (Value.ref (hp.objs.size + 1) :: us) ws) _ _ (fun _ _ _ => False)
      (hr.make C us (ks.zip ws)) (I2.env0.make C us (ks.zip ws)) (hb.to _ _ ws I2.kIn n1 (rz.length.symm.trans l2)) (hb.rel ra rz) hq) fun r s' hq' => ?_))
  cases r with
  | error er => exact hx pins σ _ _ er s' I2 hq'
  | ok fl =>
    cases fl with
    | ret u =>
      obtain ⟨v, H3, I3, rv, ev, q3⟩ := I2.after hq'
      subst ev
      exact ⟨rv, ⟨V.ref (hp.objs.size + 1), H3, I3, rfl, q3⟩⟩
    | next => exact False.elim hq'
    | brk => exact False.elim hq'
    | cont => exact False.elim hq'
/-- C(e, ..) -/
theorem pe_new (T : OxC X.K C B newId initId bm) (iC : PySem.W.findIn X.K (.ref C) "__init__" = some (some (.ref fI))) (tI : PySem.W.typeIn X.K (.ref fI) = some (.type "function"))
    (F : FnOk X.prog X.w X.K X.mg X.base CX k fI fd ps sp) (hr : Room (k + 1) X.A) (hb : KBn X.K fd ps (n + 1) [] g gV) (hx : Passes CX X (fun _ _ _ => False))
    (hg : Gl X x) (hm : X.mg x = some (.ref C)) (ha : PA X (e :: es) t) (hdb : (x == ("__debug__" : Str)) = false := by decide)
    (he : starEach (e :: es) X.env = (false, eval e X.env) :: starEach es X.env := by rfl) (hpl : (backTo pos (starEach es X.env)).any (·.1) = false := by rfl) :
    PE X (.Call (.Name x p) (e :: es) [] pos) (tNew C n 0 sp gV t tNil) := by
  refine ⟨fun pins s σ H Q I h => ?_⟩
  refine wpAny_Call_Name_kw (ld_glob I hg hm ?_ hdb)
  refine PySem.W.callWith_K (h₀ := X.base) I.ok.mod.kin T.kC (thn (ha.run pos pins s σ H _ I h) fun us s1 ⟨vs, H1, I1, r1, q1⟩ => ⟨I1.kIn, ?_⟩) he hpl
  obtain ⟨l1, _, l3, q2⟩ := q1
  exact run_new (ws := []) (zs := []) T iC tI F hr hb hx I1 r1 .nil l1 rfl l3 q2
/-- C(k = v, ..) -/
theorem pe_newK (T : OxC X.K C B newId initId bm) (iC : PySem.W.findIn X.K (.ref C) "__init__" = some (some (.ref fI))) (tI : PySem.W.typeIn X.K (.ref fI) = some (.type "function"))
    (F : FnOk X.prog X.w X.K X.mg X.base CX k fI fd ps sp) (hr : Room (k + 1) X.A) (hb : KBn X.K fd ps 1 ks g gV) (hx : Passes CX X (fun _ _ _ => False))
    (hg : Gl X x) (hm : X.mg x = some (.ref C)) (hkw : PK X kws tk) (hall : (backToKw pos (keywordEach kws X.env)).all (·.1.isSome) = true := by rfl)
    (hks : (backToKw pos (keywordEach kws X.env)).filterMap (·.1) = ks := by rfl) (hdb : (x == ("__debug__" : Str)) = false := by decide)
    (hpl : ((backTo pos (starEach [] X.env)).any (·.1) || (backToKw pos (keywordEach kws X.env)).any (·.1.isNone)) = false := by rfl) :
    PE X (.Call (.Name x p) [] kws pos) (tNew C 0 ks.length sp gV tNil tk) := by
  refine ⟨fun pins s σ H Q I h => ?_⟩
  refine wpAny_Call_Name_kw (ld_glob I hg hm ?_ hdb)
  refine PySem.W.callWith_KW0 (h₀ := X.base) I.ok.mod.kin T.kC hall ?_ hpl
  refine thn (hkw.run pos pins s σ H _ I h) fun ws s2 ⟨zs, H2, I2, rz, l1, l2, l3, q2⟩ => ⟨I2.kIn, ?_⟩
  rw [hks]
  exact run_new (us := []) (vs := []) T iC tI F hr hb hx I2 .nil rz rfl l2 (by decide) q2
end
end EV
end L2

set_option Elab.async false
set_option linter.all false
set_option maxRecDepth 100000
set_option maxHeartbeats 4000000
/-! Defs that show values by repr: a promise that is kept where no repr runs yet. -/
namespace L2
namespace EV
open PySem PySem.Spec PyProof.Rows _root_.EV
/-- FnOk, where no repr runs yet -/
structure FnG (P : Program) (w : World) (K : PySem.W.Frag) (mg : Str → Option Value) (base : Heap) (CX : CXT) (k : Nat) (f : Addr) (fd : FuncData) (ps : List Str) (sp : Sp) : Prop where
  len : ∀ vs H Q E, sp vs H Q E → vs.length = ps.length
  run : ∀ (A : Around) (outer : List Env) (s : Shared) (H : Hp) (args : Args) (us : List Value) (vs : List V) (Q : VK) (E : XK), Room k A → A.guards = some [] →
    Env0 P w K mg base A outer s H → BindsTo s fd args (ps.zip us) → Vals vs us → sp vs H Q E → codeAny (model P w) A (.call (.ref f) args) (CR CX outer P w H s Q E) s
section
variable {P : Program} {w : World} {K : PySem.W.Frag} {mg : Str → Option Value} {base : Heap}
theorem okG {x qual : Str} {st : Stmt} {f : Addr} {fd : FuncData} {N ps : List Str} {k : Nat} {sp : Sp} (F : Fun K x qual st f fd) (S : FnScope N ps (defScope st))
    (len : ∀ vs H Q E, sp vs H Q E → vs.length = ps.length)
    (hbody : ∀ (cdv : Value) (A : Around) (outer : List Env) (s : Shared) (H : Hp) (vs : List V) (Q : VK) (E : XK), Room k (A.deeper (envOfC qual (defScope st) s.heap.objs.size f cdv)) →
      A.guards = some [] → sp vs H Q E →
      ∃ t, PSs (cxOf CX0 P w K mg base N qual (defScope st) f cdv A outer s H E).nox (defBody st) t ∧ t { nx := fun _ H' => Q .non H', rt := Q } (start N vs) H) :
    FnG P w K mg base CX0 (k + 1) f fd ps sp := by
  obtain ⟨oc, od, kV, doc, pm, an, cdv, ct, osl, rfl, lk, hcd⟩ := F.ex
  refine ⟨len, fun A outer s H args us vs Q E hr hgd e0 hb r hsp => ?_⟩
  have hl := len _ _ _ _ hsp
  have keptB : ∀ b o, base.get? b = some o → s.heap.get? b = some o := fun b o e => (e0.bs b o e).1
  have KX : K.In s.heap := e0.mod.kin.keeps keptB
  have lim : s.heap.NoLimit := e0.mod.nolimit.keeps keptB
  have kinds : ∀ y ∈ ps.zip us, (defScope st).names.lookup y.1 = some .local ∨
      ((defScope st).names.lookup y.1 = some .cell ∧ ((cellsFrom (s.heap.objs.size + 1) (defScope st).names []).lookup y.1).isSome = true) := fun ⟨n, v⟩ hy =>
    (S.par n (List.of_mem_zip hy).1).elim .inl fun q => .inr ⟨q, PySem.W.cellsFrom_some _ _ _ (.inl q)⟩
  refine codeAny_call_function hr.depth (KX _ _ lk) rfl S.co S.gen rfl (PySem.W.codeRec_of KX hcd) (hb _ _ _ _ ?_)
  refine wpAny_newFunctionEnv_cells S.kind kinds fun env he s1 x => ?_
  subst he
  refine ⟨lim.keeps x.toInCall.keep, codeAny_func ?_⟩
  obtain ⟨t, ht0, hq⟩ := hbody cdv A outer s H vs Q E (hr.deeper _) hgd hsp
  have ht := ht0.nox
  have I : Inv (cxOf CX0 P w K mg base N qual (defScope st) f cdv A outer s H E) [] (start N vs) H s1 := inv_start S hr.hd e0 hl r x
  refine wpAny_mono (ht.run [] s1 (start N vs) H _ I hq) (fun fl s' hs => ?_) fun e s' hs => hs
  cases fl with
  | ret u =>
    obtain ⟨v, σ', H', J, rv, q⟩ := hs
    exact ⟨v, H', J.os, J.bare, J.base, J.hok, rv, q⟩
  | next =>
    obtain ⟨σ', H', J, q⟩ := hs
    exact ⟨V.non, H', J.os, J.bare, J.base, J.hok, rfl, q⟩
  | brk =>
    obtain ⟨_, _, _, q⟩ := hs
    exact False.elim q
  | cont =>
    obtain ⟨_, _, _, q⟩ := hs
    exact False.elim q
end
section
variable {X : Cx} {CX : CXT} {k : Nat} {f : Addr} {fd : FuncData} {ps : List Str} {sp : Sp} {x : Str} {p pos : Pos} {e : Expr} {es : List Expr} {t : TA} {E : XK}
/-- f(e, ..) of such a def -/
theorem pe_callG (F : FnG X.prog X.w X.K X.mg X.base CX k f fd ps sp) (hr : Room k X.A) (hgd : X.A.guards = some []) (hg : Gl X x) (hm : X.mg x = some (.ref f))
    (hk : PySem.W.keepIn X.K (.ref f) = true) (hb : Binds X.K fd ps []) (hx : Passes CX X E) (ha : PA X (e :: es) t) (hdb : (x == ("__debug__" : Str)) = false := by decide)
    (he : starEach (e :: es) X.env = (false, eval e X.env) :: starEach es X.env := by rfl) (hpl : (backTo pos (starEach es X.env)).any (·.1) = false := by rfl) :
    PE X (.Call (.Name x p) (e :: es) [] pos) (fun σ H Q => t σ H fun vs H1 => sp vs H1 Q E) := by
  refine ⟨fun pins s σ H Q I h => ?_⟩
  refine wpAny_Call_Name_kw (ld_glob I hg hm ?_ hdb)
  refine PySem.W.callWith_K (h₀ := X.base) I.ok.mod.kin hk (thn (ha.run pos pins s σ H _ I h) fun us s1 ⟨vs, H1, I1, r, q⟩ => ⟨I1.kIn, ?_⟩) he hpl
  have hl : us.length = ps.length := by
    rw [← r.length]
    exact F.len _ _ _ _ q
  have bn := hb s1 us I1.kIn (by rw [List.append_nil]; exact hl)
  rw [List.append_nil] at bn
  refine wpAny_call (codeAny_mono (F.run X.A X.stack s1 H1 ⟨us, []⟩ us vs Q E hr hgd I1.env0 bn r q) fun r2 s2 hq => ?_)
  cases r2 with
  | error er => exact hx pins σ H1 s1 er s2 I1 hq
  | ok fl =>
    cases fl with
    | ret u => exact I1.after hq
    | next => exact False.elim hq
    | brk => exact False.elim hq
    | cont => exact False.elim hq
end
/-- the law's own call, of a promise that is kept where no repr runs -/
theorem law_callG {P : Program} {w : World} {K : PySem.W.Frag} {mg mb : Str → Option Value} {k : Nat} {fa a : Addr} {fd : FuncData} {x : Str} {sp : Sp} {s1 : Shared} {vs : List Value} {ns : List Int}
    (KX : K.In s1.heap) (hns : s1.heap.Ns mainGlobals mg) (hb : s1.heap.Ns builtinsNs mb) (hbb : ∀ x : Str, x ≠ "__name__" → mb x = bootBuiltins x) (hlim : s1.heap.NoLimit) (hg : s1.gens = #[])
    (ha : s1.heap.get? a = some { cls := .type "list", data := .seq vs.toArray }) (hi : IntsAre vs ns) (hl : ns.length ≤ sizeLine) (hr : Room k callerA)
    (F : ∀ base : Heap, K.In base → base.Ns mainGlobals mg → FnG P w K mg base CX0 k fa fd [x] sp) (hbind : ∀ (s : Shared) (u : Value), BindsTo s fd ⟨[u], []⟩ [(x, u)])
    (hsp : ∀ H : Hp, Only H → SqL K H a (ns.map V.int) → sp [.ref a] H (fun v _ => v = .bl true) fun _ _ _ => False) :
    codeAny (model P w) callerA (.call (.ref fa) ⟨[.ref a], []⟩) (fun r s' => r = .ok (.ret (.bool true)) ∧ OldK s1.heap s'.heap ∧ s'.os = s1.os ∧ AllBare s'.gens) s1 := by
  have rv := vals_ints hi
  have lenV := hi.length
  have core : ∀ H : Hp, Only H → SqL K H a (ns.map V.int) → HOk P w H s1.heap → (∀ b, H b ≠ none → b = a) → (H a ≠ none → K.lookup a = none) →
      codeAny (model P w) callerA (.call (.ref fa) ⟨[.ref a], []⟩) (fun r s' => r = .ok (.ret (.bool true)) ∧ OldK s1.heap s'.heap ∧ s'.os = s1.os ∧ AllBare s'.gens) s1 := by
    intro H hO hS hok onlyA notK
    have noDict : ∀ {b : Addr} {o : Obj} {es : Array DictEntry} {ep : Nat}, s1.heap.get? b = some o → o.data = .dict es ep → H b = none := fun {b o es ep} e d => by
      cases q : H b with
      | none => rfl
      | some u =>
        obtain rfl : b = a := onlyA b (by rw [q]; simp)
        rw [ha] at e
        cases e
        exact nomatch (show Data.seq vs.toArray _ = Data.dict es ep from d)
    have nsK : ∀ {b : Addr} {m : Str → Option Value}, s1.heap.Ns b m → (hidT s1.heap H).Ns b m := fun {b m} ⟨o, es, ep, e, d, r⟩ => ⟨o, es, ep, hidT_get e (noDict e d), d, r⟩
    have kin : K.In (hidT s1.heap H) := fun b o e => hidT_get (KX b o e) (by
      cases q : H b with
      | none => rfl
      | some u =>
        obtain rfl : b = a := onlyA b (by rw [q]; simp)
        rw [notK (by rw [q]; simp)] at e
        cases e)
    obtain ⟨mc, c1, c2⟩ := hlim
    have hM : Mod K mg (hidT s1.heap H) := ⟨kin, nsK hns, ⟨mb, nsK hb, hbb⟩, ⟨mc, nsK c1, c2⟩⟩
    have noF : ∀ b, b ∉ frs [] := fun b z => absurd (show b ∈ ([] : List Addr) from z) (by simp)
    have e0 : Env0 P w K mg (hidT s1.heap H) callerA [] s1 H :=
      ⟨rfl, hM, fun b o e => of_hidT e, Nat.le_of_eq (hidT_size _ _), trivial, fun b z => absurd z (noF b), hok, .of_eq hg⟩
    refine codeAny_mono ((F _ kin (nsK hns)).run callerA [] s1 H ⟨[.ref a], []⟩ [.ref a] [.ref a] _ _ hr rfl e0 (hbind s1 (.ref a)) (.cons rfl .nil) (hsp H hO hS)) fun r s' h => ?_
    cases r with
    | error e => exact False.elim h
    | ok fl =>
      cases fl with
      | next => exact False.elim h
      | brk => exact False.elim h
      | cont => exact False.elim h
      | ret u =>
        obtain ⟨v, H', os, bare, un, hok', r', q⟩ := h
        obtain rfl : v = .bl true := q
        obtain rfl : u = Value.bool true := r'
        refine ⟨rfl, OldK.of_keep fun b o e => ?_, os, bare⟩
        cases q : H b with
        | none => exact un.keep b o e q (noF b) (by simp)
        | some u =>
          rcases hO b with z | ⟨ob, xs, z⟩
          · rw [q] at z
            cases z
          · obtain ⟨e1, _⟩ := hok b _ z
            obtain ⟨e2, _⟩ := hok' b _ (un.frzs b ob _ z)
            rw [e] at e1
            cases e1
            exact e2
  cases hk : K.lookup a with
  | some o =>
    have e := KX a o hk
    rw [ha] at e
    cases e
    refine core (fun _ => none) (fun _ => .inl rfl) (.inr ⟨_, vs.toArray, _, hk, rfl, rfl, rfl, ?_, by simpa using rv⟩) (fun b u z => ?_) (fun b z => absurd rfl z) fun z => absurd rfl z
    · rw [List.size_toArray, lenV]
      exact hl
    · exact nomatch (show (none : Option HO) = some u from z)
  | none =>
    refine core (fun b => if b = a then some (.frz { cls := .type "list", data := .seq vs.toArray } (.lst (ns.map V.int))) else none) (fun b => ?_)
      (.inl (.inr ⟨{ cls := .type "list", data := .seq vs.toArray }, if_pos rfl⟩)) (fun b u z => ?_) (fun b z => ?_) fun _ => hk
    · by_cases hb : b = a
      · exact .inr ⟨_, _, if_pos hb⟩
      · exact .inl (if_neg hb)
    · by_cases hb : b = a
      · have z2 := (if_pos hb).symm.trans z
        cases z2
        subst hb
        exact ⟨ha, by rw [List.length_map]; exact hl, vs, _, rv, ha⟩
      · exact nomatch (if_neg hb).symm.trans z
    · by_cases hb : b = a
      · exact hb
      · exact absurd (if_neg hb) z
theorem walk_ofG {l : PySem.W.OpenLaw} {n k : Nat} {q : Program} {loose : List Str} {XP : (Str → Option Value) → Heap → Prop} {YP : World → Heap → Prop} {d : DefRec} {K : Params → PySem.W.Frag} {sp : PySem.W.Frag → Sp} {x : Str}
    (hn : l.most = some n) (hn2 : n ≤ sizeLine) (hdf : d.params.defaults = []) (hr : Room k callerA) (hY : ∀ (w : World) (h : Heap), YP w h → (K w.params).In h)
    (F : ∀ (w : World) (mg : Str → Option Value) (fa : Addr) (h : Heap), (K w.params).In h → h.Ns mainGlobals mg → mg d.name = some (.ref fa) →
      ∃ fd : FuncData, (∀ (s : Shared) (u : Value), BindsTo s fd ⟨[u], []⟩ [(x, u)]) ∧
        ∀ base : Heap, (K w.params).In base → base.Ns mainGlobals mg → FnG l.prog w (K w.params) mg base CX0 k fa fd [x] (sp (K w.params)))
    (hsp : ∀ (K : PySem.W.Frag) (H : Hp) (a : Addr) (ns : List Int), ns.length ≤ n → Only H → SqL K H a (ns.map V.int) → sp K [.ref a] H (fun v _ => v = .bl true) fun _ _ _ => False) :
    PySem.W.WalkO q loose XP YP l.row.toRowW d [] (fun f vs => PySem.call f vs) := by
  refine Att.attach_call hn hdf fun w s0 s1 mg mb fa o pm cd doc a vs ns G Y ho hd hcd hmg hobj hints hlen hg => ?_
  have KX := hY w _ Y
  obtain ⟨fd, hb, hF⟩ := F w mg fa _ KX G.T.g hmg
  exact law_callG KX G.T.g G.T.b G.T.builtins G.T.nolimit hg hobj hints (Nat.le_trans hlen hn2) hr hF hb fun H hO hS => hsp _ H a ns hlen hO hS
end EV
end L2

set_option Elab.async false
set_option linter.all false
set_option maxRecDepth 100000
set_option maxHeartbeats 4000000
/-! repr of a list of data. -/
namespace L2
namespace EV
open PySem PySem.Spec PyProof.Rows _root_.EV
/-- v stands for d: data without dicts, or the dict {"a": 1} -/
inductive Sh (K : PySem.W.Frag) (H : Hp) : V → PyData → Prop
  | plain {v : V} {d : PyData} : Dp K H v d → d.hasDict = false → Sh K H v d
  | one {a : Addr} : H a = some (.dK [(Sum.inr "a", V.int 1)]) → Sh K H (.ref a) (.dict [(.str "a", .int 1)])
def Small (d : PyData) : Prop := d.showable = true ∧ d.shown.length ≤ 60 ∧ d.depth ≤ 5
inductive ShAll (K : PySem.W.Frag) (H : Hp) : List V → List PyData → Prop
  | nil : ShAll K H [] []
  | cons {v : V} {vs : List V} {d : PyData} {ds : List PyData} : Sh K H v d → Small d → ShAll K H vs ds → ShAll K H (v :: vs) (d :: ds)
section
variable {X : Cx} {pins : List (Addr × Obj)} {σ : St} {H : Hp} {s : Shared}
theorem sh_reads (I : Inv X pins σ H s) {v : V} {d : PyData} {u : Value} (h : Sh X.K H v d) (r : RelV v u) : ∃ as, Reads s.heap u d as ∧ (d.hasDict = true → sysModules ∉ as) := by
  cases h with
  | plain hd no =>
    obtain ⟨as, q⟩ := Dp.reads I d v u hd r
    exact ⟨as, q, fun z => by rw [no] at z; cases z⟩
  | @one a e =>
    obtain rfl : u = Value.ref a := r
    obtain ⟨_, nsys, vs, kv, o, es, ep, ho, ex, hd, _, pr, _⟩ := (show ObjOk X.prog X.w H s.heap a (.dK [(Sum.inr "a", V.int 1)]) from I.hok a _ e)
    cases kv with
    | @cons _ p _ ps hk kr =>
      cases kr
      obtain ⟨k, v⟩ := p
      obtain ⟨ek, t, ev⟩ := hk
      dsimp only at ek ev
      subst ek ev
      generalize hes : es.toList = l at pr
      cases pr with
      | @cons e1 _ l2 _ k1 k2 k3 =>
        cases k3
        obtain ⟨t2, ek⟩ : ∃ t2, e1.key = Value.str "a" t2 := Value.isStrOf_shape k1
        refine ⟨[a], Reads.dict (as := []) (bs := []) ho ex.1 hd ?_ ?_, fun _ z => ?_⟩
        · rw [hes]
          show ReadsAll s.heap [e1.key] [PyData.str "a"] []
          rw [ek]
          exact ReadsAll.cons (Reads.str _ _) ReadsAll.nil
        · rw [hes]
          show ReadsAll s.heap [e1.val] [PyData.int 1] []
          rw [k2]
          exact ReadsAll.cons (Reads.int _ _) ReadsAll.nil
        · obtain rfl : sysModules = a := by simpa using z
          simp at nsys
theorem sh_all (I : Inv X pins σ H s) : ∀ {vs : List V} {ds : List PyData} {us : List Value}, ShAll X.K H vs ds → Vals vs us →
    ∃ as bs, ReadsAll s.heap us ds as ∧ ReadAtMost s.heap (PyData.depthAll ds) bs ∧ ReprAllK X.prog X.w bs s.heap (PyData.depthAll ds) us (PyData.shownAll ds)
  | _, _, _, .nil, .nil => ⟨[], [], ReadsAll.nil, (fun _ h => nomatch h), by simp only [PyData.shownAll]; exact .nil⟩
  | _, _, _, .cons (d := d) (ds := ds) h sm t, .cons r rt => by
    obtain ⟨as1, q1, hsm⟩ := sh_reads I h r
    obtain ⟨as2, b2, q2, m2, k2⟩ := sh_all I t rt
    obtain ⟨b1, m1, k1⟩ := ReprK.of_reads (prog := X.prog) (w := X.w) q1 sm.1 hsm (Nat.le_trans sm.2.1 (by decide))
    refine ⟨as1 ++ as2, b1 ++ b2, ReadsAll.cons q1 q2, ?_, ?_⟩
    · simp only [PyData.depthAll]
      exact (m1.mono (Nat.le_max_left _ _)).append (m2.mono (Nat.le_max_right _ _))
    · simp only [PyData.depthAll, PyData.shownAll]
      exact .cons ((k1.more fun b hb => List.mem_append_left _ hb).level_le (Nat.le_max_left _ _)) (k2.more_le (fun b hb => List.mem_append_right _ hb) (Nat.le_max_right _ _))
theorem shall_depth {K : PySem.W.Frag} {H : Hp} : ∀ {vs : List V} {ds : List PyData}, ShAll K H vs ds → PyData.depthAll ds ≤ 5 ∧ (∀ t ∈ PyData.shownAll ds, t.length ≤ 60) ∧ (PyData.shownAll ds).length = vs.length
  | _, _, .nil => ⟨by simp only [PyData.depthAll]; omega, by simp [PyData.shownAll], by simp [PyData.shownAll]⟩
  | _, _, .cons h sm t => by
    obtain ⟨h1, h2, h3⟩ := shall_depth t
    refine ⟨by simp only [PyData.depthAll]; have := sm.2.2; omega, ?_, by simp [PyData.shownAll, h3]⟩
    intro t ht
    simp only [PyData.shownAll, List.mem_cons] at ht
    rcases ht with rfl | ht
    · exact sm.2.1
    · exact h2 t ht
theorem sum_le60 : ∀ {ts : List Str}, (∀ t ∈ ts, t.length ≤ 60) → (ts.map (·.length)).sum ≤ 60 * ts.length
  | [], _ => by simp
  | t :: ts, h => by
    have h1 := h t (List.mem_cons_self ..)
    have h2 := sum_le60 (ts := ts) fun t ht => h t (List.mem_cons_of_mem _ ht)
    simp only [List.map_cons, List.sum_cons, List.length_cons]
    omega
/-- repr(l), l a list of some data -/
def rShow (K : PySem.W.Frag) : List V → Hp → VK → Prop := fun xs H Q => ∃ (l : Addr) (v : V) (vs : List V) (ds : List PyData), xs = [.ref l] ∧ H l = some (.lst (v :: vs)) ∧ ShAll K H (v :: vs) ds ∧ vs.length ≤ 1000 ∧
  Q (.str (listText (PyData.shownAll ds))) H
theorem call_show (hgd : X.A.guards = some []) (hu : X.A.units + 64 < cLine) : CallR X (.builtin "repr") (rShow X.K) := by
  intro pins s σ H xs us Q I r h
  obtain ⟨l, v, vs, ds, rfl, e, sh, lz, q⟩ := h
  obtain ⟨u, rfl, ru⟩ := vals1 r
  obtain rfl : u = Value.ref l := ru
  obtain ⟨_, its, n, rv, ho⟩ := (show ObjOk X.prog X.w H s.heap l (.lst (v :: vs)) from I.hok l _ e)
  obtain ⟨as, bs, q1, m1, k1⟩ := sh_all I sh rv
  obtain ⟨dp, sz, ln⟩ := shall_depth sh
  have whole : Reads s.heap (.ref l) (.list ds) (l :: as) := Reads.list ho rfl rfl (by simpa using q1)
  have hna : l ∉ bs := not_mem_of_deeper whole (by simp only [PyData.depth]; omega) m1
  have hz : (listText (PyData.shownAll ds)).length ≤ sizeLine := by
    have h1 := listText_len_le (PyData.shownAll ds)
    have h2 := sum_le60 sz
    rw [ln, List.length_cons] at *
    rw [sizeLine_eq]
    omega
  cases rv with
  | @cons _ u1 _ ut r1 r2 =>
    refine call_repr_slot (by omega) ⟨_, ho, rfl⟩ PySem.F.slot_list_repr.toG ?_
    refine call_list_reprK ho rfl rfl hna (by simpa using k1.length_eq) (fun i y ey => k1.item i y (by simpa using ey)) (A := X.A.in1) hgd (fun b _ => Clear.nil b) ?_ (fun _ _ z => z) (fun h' t tk hk => ⟨_, _, rfl, ?_⟩) hz
    · show X.A.units + 1 + (PyData.depthAll ds + 1) < cLine
      omega
    · exact ⟨.str _, H, I.kept (t' := tk) hk, ⟨_, rfl⟩, q⟩
end
end EV
end L2

set_option Elab.async false
set_option linter.all false
set_option maxRecDepth 100000
set_option maxHeartbeats 4000000
/-! Tuples of an int, a text and an int: sorted, and <=. -/
namespace L2
open PySem PySem.Spec PyProof.Rows
abbrev T3 : Type := Int × Str × Int
abbrev sl (a : Str) : List Nat := a.cps.toList
theorem sl_inj {a b : Str} (h : sl a = sl b) : a = b := by
  cases a with
  | mk x =>
    cases b with
    | mk y =>
      have : x = y := Array.toList_inj.mp h
      rw [this]
/-- x is ahead of y -/
def lt3 (a b : T3) : Bool := if a.1 = b.1 then (if a.2.1 = b.2.1 then decide (a.2.2 < b.2.2) else decide (sl a.2.1 < sl b.2.1)) else decide (a.1 < b.1)
theorem lt3_iff {a b : T3} : lt3 a b = true ↔ a.1 < b.1 ∨ (a.1 = b.1 ∧ (sl a.2.1 < sl b.2.1 ∨ (a.2.1 = b.2.1 ∧ a.2.2 < b.2.2))) := by
  unfold lt3
  by_cases e1 : a.1 = b.1
  · rw [if_pos e1]
    by_cases e2 : a.2.1 = b.2.1
    · rw [if_pos e2, decide_eq_true_eq]
      refine ⟨fun h => .inr ⟨e1, .inr ⟨e2, h⟩⟩, ?_⟩
      rintro (h | ⟨_, h | ⟨_, h⟩⟩)
      · omega
      · rw [e2] at h
        exact absurd h (List.lt_irrefl _)
      · exact h
    · rw [if_neg e2, decide_eq_true_eq]
      refine ⟨fun h => .inr ⟨e1, .inl h⟩, ?_⟩
      rintro (h | ⟨_, h | ⟨h, _⟩⟩)
      · omega
      · exact h
      · exact absurd h e2
  · rw [if_neg e1, decide_eq_true_eq]
    refine ⟨fun h => .inl h, ?_⟩
    rintro (h | ⟨h, _⟩)
    · exact h
    · exact absurd h e1
theorem lt3_no {a b : T3} : lt3 a b = false ↔ ¬ (a.1 < b.1 ∨ (a.1 = b.1 ∧ (sl a.2.1 < sl b.2.1 ∨ (a.2.1 = b.2.1 ∧ a.2.2 < b.2.2)))) := by
  rw [← lt3_iff]
  cases lt3 a b <;> simp
theorem swo3 : SrtO.Swo lt3 := by
  refine ⟨fun x y h => ?_, fun x y z h1 h2 => ?_⟩
  · have a := lt3_iff.mp h
    refine lt3_no.mpr ?_
    rintro (h1 | ⟨h1, h2⟩)
    · rcases a with a | ⟨a, _⟩ <;> omega
    · rcases a with a | ⟨_, a⟩
      · omega
      · rcases h2 with h2 | ⟨h2, h3⟩
        · rcases a with a | ⟨a, _⟩
          · exact List.lt_asymm a h2
          · rw [a] at h2
            exact List.lt_irrefl _ h2
        · rcases a with a | ⟨_, a⟩
          · rw [h2] at a
            exact List.lt_irrefl _ a
          · omega
  · have a := lt3_no.mp h1
    have b := lt3_no.mp h2
    refine lt3_no.mpr ?_
    have a1 : ¬ y.1 < x.1 := fun q => a (.inl q)
    have b1 : ¬ z.1 < y.1 := fun q => b (.inl q)
    rintro (q | ⟨q1, q2⟩)
    · omega
    · have e1 : y.1 = x.1 := by omega
      have e2 : z.1 = y.1 := by omega
      have a2 : ¬ sl y.2.1 < sl x.2.1 := fun q => a (.inr ⟨e1, .inl q⟩)
      have b2 : ¬ sl z.2.1 < sl y.2.1 := fun q => b (.inr ⟨e2, .inl q⟩)
      have l1 : sl x.2.1 ≤ sl y.2.1 := List.not_lt.mp a2
      have l2 : sl y.2.1 ≤ sl z.2.1 := List.not_lt.mp b2
      rcases q2 with q2 | ⟨q2, q3⟩
      · exact absurd q2 (List.not_lt.mpr (List.le_trans l1 l2))
      · have e3 : sl y.2.1 = sl x.2.1 := by
          rw [q2] at l2
          exact List.le_antisymm l2 l1
        have e4 := sl_inj e3
        have a3 : ¬ y.2.2 < x.2.2 := fun q => a (.inr ⟨e1, .inr ⟨e4, q⟩⟩)
        have b3 : ¬ z.2.2 < y.2.2 := fun q => b (.inr ⟨e2, .inr ⟨q2.trans e4.symm, q⟩⟩)
        omega
theorem swo3k {α : Type} (k : α → T3) : SrtO.Swo fun v u : α => lt3 (k v) (k u) := ⟨fun x y => swo3.asym (k x) (k y), fun x y z => swo3.tr (k x) (k y) (k z)⟩
/-- v is a tuple of an int, a text and an int in the heap -/
def IsTrip (h : Heap) (v : Value) (x : T3) : Prop := ∃ a o t u r n, v = .ref a ∧ h.get? a = some o ∧ o.cls = .type "tuple" ∧ o.data = .seq #[.int x.1 t, .str x.2.1 u, .int x.2.2 r] n
theorem IsTrip.keeps {h h' : Heap} {v : Value} {x : T3} (p : IsTrip h v x) (k : ∀ b o, h.get? b = some o → o.cls = .type "tuple" → h'.get? b = some o) : IsTrip h' v x := by
  obtain ⟨a, o, t, u, r, n, e, ho, hc, hd⟩ := p
  exact ⟨a, o, t, u, r, n, e, k _ _ ho hc, hc, hd⟩
theorem firsts3 {h : Heap} : ∀ {vs : List Value}, (∀ v ∈ vs, ∃ x, IsTrip h v x) → ∃ fs : List Value, PySem.W.KatTups h vs fs ∧ fs.length = vs.length ∧ ∀ f ∈ fs, ∃ x t, f = Value.int x t
  | [], _ => ⟨[], PySem.W.KatTups.nil, rfl, fun _ hm => by simp at hm⟩
  | v :: vs, hp => by
    obtain ⟨fs, h1, h2, h3⟩ := firsts3 (vs := vs) fun v' hm => hp v' (List.mem_cons_of_mem _ hm)
    obtain ⟨x, a, o, t, u, r, n, e, ho, hc, hd⟩ := hp v (List.mem_cons_self ..)
    subst e
    refine ⟨.int x.1 t :: fs, PySem.W.KatTups.cons ho hc hd rfl h1, by rw [List.length_cons, List.length_cons, h2], fun f hm => ?_⟩
    rcases List.mem_cons.mp hm with rfl | hm
    · exact ⟨x.1, t, rfl⟩
    · exact h3 f hm
section
variable {prog : Program} {w : World} {A : Around} {E : Value → Shared → Prop} {s : Shared}
theorem trip_cmp {vs : List Value} {k : Value → T3} (hp : ∀ v ∈ vs, IsTrip s.heap v (k v)) : SrtO.Cmp prog w A s (tuples' true) (fun p => p.1 ∈ vs) (SrtO.lt2 fun v u => lt3 (k v) (k u)) := by
  intro p q hm hm'
  have h1 := hp _ hm
  have h2 := hp _ hm'
  show wpAny (model prog w) A (keyLt' (tuples' true) p.1 q.1) (fun r s' => s' = s ∧ r = lt3 (k p.1) (k q.1)) (fun _ _ => False) s
  generalize k p.1 = x at h1 ⊢
  generalize k q.1 = y at h2 ⊢
  obtain ⟨x1, x2, x3⟩ := x
  obtain ⟨y1, y2, y3⟩ := y
  obtain ⟨a, o, t, u, r, n, e, ho, hc, hd⟩ := h1
  obtain ⟨a', o', t', u', r', n', e', ho', hc', hd'⟩ := h2
  rw [e, e']
  unfold lt3
  refine PySem.W.kat_lt ho hd ho' hd' ?_
  show PySem.W.KatLex prog w A true (decide (3 < 3)) _ [(.int x1 t, .int y1 t'), (.str x2 u, .str y2 u'), (.int x3 r, .int y3 r')] 0 s
  refine PySem.W.kat_cons (SeqAt.EqAt.int_int x1 t y1 t' prog w _ _ ?_)
  refine PySem.W.kat_go (fun e1 => ?_) (fun e1 => ?_)
  · have ex : x1 = y1 := by simpa using e1
    subst ex
    refine PySem.W.kat_yes (PySem.W.kat_cons (SeqAt.EqAt.str_str x2 u y2 u' prog w _ _ ?_))
    refine PySem.W.kat_go (fun e2 => ?_) (fun e2 => ?_)
    · have ey : x2 = y2 := by simpa using e2
      subst ey
      refine PySem.W.kat_yes (PySem.W.kat_cons (SeqAt.EqAt.int_int x3 r y3 r' prog w _ _ ?_))
      refine PySem.W.kat_go (fun e3 => ?_) (fun e3 => ?_)
      · have ez : x3 = y3 := by simpa using e3
        subst ez
        refine PySem.W.kat_yes (PySem.W.kat_nil ⟨rfl, ?_⟩)
        simp
      · refine PySem.W.kat_no (PySem.W.kat_one _ _ (PyProof.Rows.lt_int ?_))
        refine (show s = s ∧ _ from ⟨rfl, ?_⟩)
        simp
    · have ey : ¬ x2 = y2 := by simpa using e2
      refine PySem.W.kat_no (PySem.W.kat_one _ _ (PyProof.Rows.lt_str ?_))
      refine (show s = s ∧ _ from ⟨rfl, ?_⟩)
      simp [ey]
  · have ex : ¬ x1 = y1 := by simpa using e1
    refine PySem.W.kat_no (oneLt_int ⟨rfl, ?_⟩)
    simp [ex]
theorem trips_sortable {a : Addr} {vs : List Value} {k : Value → T3} (h0 : 0 < vs.length) (hp : ∀ v ∈ vs, IsTrip s.heap v (k v)) (ha : ∀ o, s.heap.get? a = some o → o.cls ≠ .type "tuple") : SrtO.SortableO prog w A s a vs fun v u => lt3 (k v) (k u) := by
  intro h' keep
  have hp' : ∀ v ∈ vs, IsTrip h' v (k v) := fun v hm => (hp v hm).keeps fun b o e c => keep b o (fun z => by subst z; exact ha o e c) e
  obtain ⟨fs, h1, h2, h3⟩ := firsts3 fun v hm => ⟨_, hp' v hm⟩
  refine ⟨tuples' true, fun Q E hq => ?_, trip_cmp hp'⟩
  refine PySem.W.kat_kind (T := .type "int") h1 (by omega) (fun f hm => ?_) (by rfl) ?_
  · obtain ⟨x, t, rfl⟩ := h3 f hm
    exact PySem.W.Looks.now
  · have e : (Value.type "int" != Value.type "tuple") = true := by first | decide +kernel | rfl | decide
    rw [e]
    exact hq
theorem sorted_trips {l : Addr} {vs : List Value} {k : Value → T3} {Q : Value → Shared → Prop} (hl : s.heap.IsList l vs.toArray) (hz : vs.length ≤ sizeLine) (hp : ∀ v ∈ vs, IsTrip s.heap v (k v))
    (h : ∀ (h' : Heap) (d : Addr) (out : List Value), SrtO.Srtd (fun v u => lt3 (k v) (k u)) out → SrtO.Stb (fun v u => lt3 (k v) (k u)) out vs → (∀ b o, s.heap.get? b = some o → h'.get? b = some o) → s.heap.objs.size ≤ d → (∃ n, h'.get? d = some (seqObj "list" out.toArray n)) → Q (.ref d) { s with heap := h' }) :
    wpAny (model prog w) A (call (.builtin "sorted") [.ref l]) Q E s := by
  refine SrtO.sorted_ord (swo3k k) hl hz (fun h2 h₁ a ha kk => ?_) fun out hs hb => ?_
  · refine trips_sortable (s := { s with heap := h₁ }) (by omega) (fun v hm => (hp v hm).keeps fun b o e _ => (kk b o e).2) fun o e => ?_
    have e' : some o = some (seqObj "list" vs.toArray 0) := e.symm.trans ha
    cases e'
    intro c
    exact absurd (Value.type.inj c) (by decide)
  · exact h _ _ out hs hb (fun b o e => sortedAll_old e) (Nat.le_succ _) (sortedAll_at s.heap vs out.toArray)
end
/-- sorted(xs), xs a list of such tuples (k says which): a new list of the same ones -/
def rSorted3 (K : PySem.W.Frag) : List V → Hp → VK → Prop := fun vs H Q => ∃ (a : Addr) (xs : List V) (k : V → T3), vs = [V.ref a] ∧ SqL K H a xs ∧ (∀ x ∈ xs, ∃ t, x = V.ref t ∧ H t = some (.tup [.int (k x).1, .str (k x).2.1, .int (k x).2.2])) ∧
  ∀ ys p, SrtO.Srtd (fun x y => lt3 (k x) (k y)) ys → ys.Perm xs → H p = none → Q (.ref p) (upd H p (.lst ys))
theorem vals_3 {x y z : V} {us : List Value} (r : Vals [x, y, z] us) : ∃ u w' t', us = [u, w', t'] ∧ RelV x u ∧ RelV y w' ∧ RelV z t' := by
  cases r with
  | cons r1 r2 =>
    obtain ⟨u, w', rfl, r3, r4⟩ := vals2 r2
    exact ⟨_, u, w', rfl, r1, r3, r4⟩
section
variable {X : Cx}
theorem cr_sorted3 : CallR X (.builtin "sorted") (rSorted3 X.K) := by
  intro pins s σ H vs us Q I r h
  obtain ⟨a, xs, k, rfl, hs, hx, q⟩ := h
  obtain ⟨its, rv, hl, hz⟩ := I.list hs
  obtain ⟨u, rfl, ru⟩ := vals1 r
  obtain rfl : u = Value.ref a := ru
  obtain ⟨e1, e2⟩ := refs_back rv fun x m => by
    obtain ⟨t, e, _⟩ := hx x m
    exact ⟨t, e⟩
  refine sorted_trips (k := fun u => k (backV u)) hl.isList (by rw [← rv.length]; exact hz) (fun v hv => ?_) fun h' d out h1 h2 kp hd hn => ?_
  · obtain ⟨t, rfl⟩ := e2 v hv
    have hm : V.ref t ∈ xs := by rw [e1]; exact List.mem_map.mpr ⟨_, hv, rfl⟩
    obtain ⟨t', e, ht⟩ := hx _ hm
    cases e
    obtain ⟨_, its2, r2, o, ho, hc, n, hd⟩ := I.hok _ _ ht
    obtain ⟨u1, u2, u3, rfl, ri, rj, rk⟩ := vals_3 r2
    obtain ⟨t1, rfl⟩ := ri
    obtain ⟨t2, rfl⟩ := rj
    obtain ⟨t3, rfl⟩ := rk
    exact ⟨t, o, t1, t2, t3, n, rfl, ho, hc, hd⟩
  · have h3 : ∀ u ∈ out, ∃ a, u = Value.ref a := fun u hu => e2 u (h2.perm.mem_iff.mp hu)
    obtain ⟨n, hn⟩ := hn
    have hb : SrtO.Stb (fun x y => lt3 (k x) (k y)) (out.map backV) xs := by
      rw [e1]
      exact SrtO.Stb.map (swo3k k) backV h2
    refine ⟨.ref d, upd H d (.lst (out.map backV)), I.laid (t' := s.toks) kp hd ⟨?_, out, n, vals_back h3, hn⟩, rfl, q _ d (SrtO.srtd_map h1) hb.perm (I.hok.fresh hd)⟩
    rw [hb.len]
    exact hz
/-- x <= y of two such tuples -/
def rLe3 : R2 := fun x y H Q => ∃ (a b : Addr) (m n : T3), x = .ref a ∧ y = .ref b ∧ H a = some (.tup [.int m.1, .str m.2.1, .int m.2.2]) ∧ H b = some (.tup [.int n.1, .str n.2.1, .int n.2.2]) ∧ Q (.bl (!lt3 n m)) H
theorem le_lex (m n : T3) : Ob.lexAt (fun j => if j = 0 then m.1 == n.1 else if j = 1 then m.2.1 == n.2.1 else m.2.2 == n.2.2)
    (fun j => if j = 0 then decide (m.1 ≤ n.1) else if j = 1 then decide (sl m.2.1 ≤ sl n.2.1) else decide (m.2.2 ≤ n.2.2)) true 0 3 = !lt3 n m := by
  obtain ⟨m1, m2, m3⟩ := m
  obtain ⟨n1, n2, n3⟩ := n
  simp only [Ob.lexAt, lt3]
  by_cases e1 : m1 = n1
  · subst e1
    by_cases e2 : m2 = n2
    · subst e2
      by_cases e3 : m3 = n3
      · subst e3
        simp
      · simp only [beq_self_eq_true, if_true, Nat.zero_add, Nat.one_ne_zero, if_false, Nat.reduceAdd, Nat.reduceEqDiff, beq_iff_eq, e3]
        by_cases z : m3 ≤ n3
        · rw [decide_eq_true z, decide_eq_false (by omega)]
          rfl
        · rw [decide_eq_false z, decide_eq_true (by omega)]
          rfl
    · have e2' : ¬ n2 = m2 := fun z => e2 z.symm
      simp only [beq_self_eq_true, if_true, Nat.zero_add, Nat.one_ne_zero, if_false, beq_iff_eq, e2, e2']
      by_cases z : sl m2 ≤ sl n2
      · rw [decide_eq_true z, decide_eq_false (List.not_lt.mpr z)]
        rfl
      · rw [decide_eq_false z, decide_eq_true (List.not_le.mp z)]
        rfl
  · have e1' : ¬ n1 = m1 := fun z => e1 z.symm
    simp only [if_true, beq_iff_eq, e1, e1', if_false]
    by_cases z : m1 ≤ n1
    · rw [decide_eq_true z, decide_eq_false (by omega)]
      rfl
    · rw [decide_eq_false z, decide_eq_true (by omega)]
      rfl
theorem RcOp.le_str {A : Around} {s : Shared} (a b : Str) (t u : Tok) : Ob.RcOp .LtE A s (.str a t) (.str b u) (decide (sl a ≤ sl b)) := fun _ _ _ _ h => PySem.P.le_str (by
  have e : (!decide (b.cps.toList < a.cps.toList)) = decide (sl a ≤ sl b) := by
    by_cases z : sl a ≤ sl b
    · rw [decide_eq_true z, decide_eq_false (List.not_lt.mpr z)]
      rfl
    · rw [decide_eq_false z, decide_eq_true (List.not_le.mp z)]
      rfl
  rw [e]
  exact h)
theorem op_le3 (hu : X.A.units < cLine) : OpR X (compareOp .LtE) rLe3 := by
  intro pins s σ H x y v u Q I rx ry h
  obtain ⟨a, b, m, n, rfl, rfl, ha, hb, q⟩ := h
  cases rx
  cases ry
  obtain ⟨its, r1, p1, _⟩ := I.tuple (SqT.of ha)
  obtain ⟨its2, r2, p2, _⟩ := I.tuple (SqT.of hb)
  obtain ⟨u1, u2, u3, rfl, ⟨t1, rfl⟩, ⟨t2, rfl⟩, ⟨t3, rfl⟩⟩ := vals_3 r1
  obtain ⟨v1, v2, v3, rfl, ⟨w1, rfl⟩, ⟨w2, rfl⟩, ⟨w3, rfl⟩⟩ := vals_3 r2
  have R := Ob.RcOp.tuples_le (A := X.A) (s := s) (e := fun j => if j = 0 then m.1 == n.1 else if j = 1 then m.2.1 == n.2.1 else m.2.2 == n.2.2)
    (r := fun j => if j = 0 then decide (m.1 ≤ n.1) else if j = 1 then decide (sl m.2.1 ≤ sl n.2.1) else decide (m.2.2 ≤ n.2.2)) p1 p2 hu (fun j h1 h2 => by
    match j, h1 with
    | 0, _ => exact SeqAt.EqAt.int_int _ _ _ _
    | 1, _ => exact SeqAt.EqAt.str_str _ _ _ _
    | 2, _ => exact SeqAt.EqAt.int_int _ _ _ _) (fun j h1 h2 _ => by
    match j, h1 with
    | 0, _ => exact Ob.RcOp.le_int _ _ _ _
    | 1, _ => exact RcOp.le_str _ _ _ _
    | 2, _ => exact Ob.RcOp.le_int _ _ _ _)
  have e3 : Ob.lexAt (fun j => if j = 0 then m.1 == n.1 else if j = 1 then m.2.1 == n.2.1 else m.2.2 == n.2.2)
    (fun j => if j = 0 then decide (m.1 ≤ n.1) else if j = 1 then decide (sl m.2.1 ≤ sl n.2.1) else decide (m.2.2 ≤ n.2.2)) (decide (3 ≤ 3)) 0 (min 3 3) = !lt3 n m := le_lex m n
  have z : wpAny (model X.prog X.w) X.A (compareOp .LtE (.ref a) (.ref b)) (EP X pins σ Q) X.xe s := R X.prog X.w X.xe (EP X pins σ Q) ⟨.bl _, H, I, rfl, by
    rw [← e3] at q
    exact q⟩
  exact z
end
end L2

set_option Elab.async false
set_option linter.all false
set_option maxRecDepth 100000
set_option maxHeartbeats 4000000
/-! The law's draws. -/
namespace K10
open PySem L2 L2.EV
def top (i : Nat) : Stmt := PySem.Challenge.pw_tornlines_k10_whole_partings.main.body.getD i (.Pass ⟨0, 0, 0, 0⟩)
abbrev sBegun : Stmt := top 42
abbrev sNext : Stmt := top 43
/-! ### data of ints -/
theorem canLay_ints : ∀ ns : List Int, PyData.canLayAll0 (ns.map PyData.int) = true
  | [] => by simp [PyData.canLayAll0]
  | n :: ns => by simp [PyData.canLayAll0, PyData.canLay0, canLay_ints ns]
theorem depth_ints : ∀ ns : List Int, PyData.depthAll (ns.map PyData.int) = 0
  | [] => by simp [PyData.depthAll]
  | n :: ns => by simp [PyData.depthAll, PyData.depth, depth_ints ns]
theorem shaped_ints (ns : List Int) : SeqAt.shaped (.list (ns.map PyData.int)) = true := by
  show (PyData.canLay0 (.list (ns.map PyData.int)) && decide (PyData.depth (.list (ns.map PyData.int)) ≤ 64)) = true
  rw [Bool.and_eq_true]
  refine ⟨by simp only [PyData.canLay0]; exact canLay_ints ns, decide_eq_true ?_⟩
  simp only [PyData.depth, depth_ints]
  omega
theorem dp_ints {K : PySem.W.Frag} {H : Hp} : ∀ ns : List Int, DpAll K H (ns.map V.int) (ns.map PyData.int)
  | [] => .nil
  | n :: ns => .cons (.int n) (dp_ints ns)
theorem dp_list {K : PySem.W.Frag} {H : Hp} {a : Addr} {ns : List Int} (h : H a = some (.lst (ns.map V.int))) : Dp K H (.ref a) (.list (ns.map PyData.int)) := .lst (SqL.of h) (dp_ints ns)
theorem eqv_nil (ns : List Int) : PyData.eqv (.list (ns.map PyData.int)) (.list []) = ns.isEmpty := by
  cases ns <;> simp [PyData.eqv, PyData.eqvAll]
/-! ### the draws' dict -/
def mkv (c l : Addr) (k : Int) : List (Key × V) := [(Sum.inr "cells", .ref c), (Sum.inr "left", .ref l), (Sum.inr "at", .int k)]
theorem n1 : ¬ (("cells" : Str) = "left") := by decide +kernel
theorem n2 : ¬ (("cells" : Str) = "at") := by decide +kernel
theorem n3 : ¬ (("left" : Str) = "at") := by decide +kernel
theorem n1' : ¬ (("left" : Str) = "cells") := by decide +kernel
theorem n2' : ¬ (("at" : Str) = "cells") := by decide +kernel
theorem n3' : ¬ (("at" : Str) = "left") := by decide +kernel
theorem k1 {a b : Str} (h : ¬ a = b) : ¬ ((Sum.inr a : Key) = Sum.inr b) := fun z => h (Sum.inr.inj z)
theorem v_cells (c l : Addr) (k : Int) : valV (mkv c l k) (Sum.inr "cells" : Key) = some (.ref c) := by simp [valV, mkv, List.find?_cons]
theorem v_left (c l : Addr) (k : Int) : valV (mkv c l k) (Sum.inr "left" : Key) = some (.ref l) := by simp [valV, mkv, List.find?_cons, n1]
theorem v_at (c l : Addr) (k : Int) : valV (mkv c l k) (Sum.inr "at" : Key) = some (.int k) := by simp [valV, mkv, List.find?_cons, n2, n3]
theorem p_left (c l l' : Addr) (k : Int) : putK (mkv c l k) (Sum.inr "left" : Key) (.ref l') = mkv c l' k := by simp [putK, mkv, n1, n3']
theorem p_at (c l : Addr) (k k' : Int) : putK (mkv c l k) (Sum.inr "at" : Key) (.int k') = mkv c l k' := by simp [putK, mkv, n2, n3]
theorem mk_merge (c l : Addr) (k : Int) : mergeK [] (mkv c l k) = mkv c l k := by simp [mergeK, putK, mkv, n1, n2, n3]
structure MAt (H : Hp) (m c l : Addr) (k : Int) : Prop where
  hm : H m = some (.dK (mkv c l k))
  hc : ∃ cs : List Int, H c = some (.lst (cs.map V.int)) ∧ cs.length ≤ 1000
  hl : ∃ ls : List Int, H l = some (.lst (ls.map V.int)) ∧ ls.length ≤ 1000
  ne : c ≠ l
  k0 : 0 ≤ k
  k1 : k ≤ 1000000
/-- a drawn number from 0 to n - 1; only the dict and its list of great cells have changed -/
def spNext : Sp := fun vs H Q _ => ∃ (m c l : Addr) (k n : Int), vs = [.ref m, .int n] ∧ MAt H m c l k ∧ 0 < n ∧ n < 1073741824 ∧ k < 1000000 ∧
  ∀ (r : Int) (H' : Hp) (l' : Addr) (k' : Int), 0 ≤ r → r < n → k' ≤ k + 1 → MAt H' m c l' k' → (l' = l ∨ H l' = none) → (∀ b o, H b = some o → b ≠ m → b ≠ l → H' b = some o) → Q (.int r) H'
/-- the beginning -/
def spBegun (K : PySem.W.Frag) : Sp := fun vs H Q _ => ∃ (a : Addr) (ns : List Int), vs = [.ref a] ∧ SqL K H a (ns.map V.int) ∧ ns.length ≤ 1000 ∧
  ∀ (m c l : Addr) (H' : Hp), MAt H' m c l 0 → H m = none → H c = none → H l = none → Same H H' → Q (.ref m) H'
structure TxtD (mg : Str → Option Value) : Prop where
  list : mg "list" = none
  int : mg "int" = none
  len : mg "len" = none
theorem same_upd {H : Hp} {p : Addr} {o : HO} (h : H p = none) : Same H (upd H p o) := fun b u e => by
  rw [upd_ne (ne_of_none e h)]
  exact e
theorem MAt.same {H H' : Hp} {m c l : Addr} {k : Int} (M : MAt H m c l k) (s : Same H H') : MAt H' m c l k := by
  obtain ⟨h1, ⟨cs, h2, h3⟩, ⟨ls, h4, h5⟩, h6, h7, h8⟩ := M
  exact ⟨s _ _ h1, ⟨cs, s _ _ h2, h3⟩, ⟨ls, s _ _ h4, h5⟩, h6, h7, h8⟩
theorem MAt.set {H : Hp} {m c l : Addr} {k : Int} {ls : List Int} (M : MAt H m c l k) (hz : ls.length ≤ 1000) : MAt (upd H l (.lst (ls.map V.int))) m c l k := by
  obtain ⟨h1, ⟨cs, h2, h3⟩, ⟨ls0, h4, h5⟩, h6, h7, h8⟩ := M
  have ml : m ≠ l := ne_of h1 h4 (fun z => by cases z)
  exact ⟨by rw [upd_ne ml]; exact h1, ⟨cs, by rw [upd_ne h6]; exact h2, h3⟩, ⟨ls, upd_same, hz⟩, h6, h7, h8⟩
/-- another list of great cells -/
theorem MAt.turn {H : Hp} {m c l p : Addr} {k : Int} {ls : List Int} (M : MAt H m c l k) (hp : H p = none) (hz : ls.length ≤ 1000) : MAt (upd (upd H p (.lst (ls.map V.int))) m (.dK (mkv c p k))) m c p k := by
  obtain ⟨h1, ⟨cs, h2, h3⟩, ⟨ls0, h4, h5⟩, h6, h7, h8⟩ := M
  have mp : p ≠ m := (ne_of_none h1 hp).symm
  have cp : c ≠ p := ne_of_none h2 hp
  have cm : c ≠ m := ne_of h2 h1 (fun z => by cases z)
  exact ⟨upd_same, ⟨cs, by rw [upd_ne cm, upd_ne cp]; exact h2, h3⟩, ⟨ls, by rw [upd_ne mp]; exact upd_same, hz⟩, cp, h7, h8⟩
/-- another counter -/
theorem MAt.count {H : Hp} {m c l : Addr} {k k' : Int} (M : MAt H m c l k) (h0 : 0 ≤ k') (h1' : k' ≤ 1000000) : MAt (upd H m (.dK (mkv c l k'))) m c l k' := by
  obtain ⟨h1, ⟨cs, h2, h3⟩, ⟨ls0, h4, h5⟩, h6, h7, h8⟩ := M
  have lm : l ≠ m := ne_of h4 h1 (fun z => by cases z)
  have cm : c ≠ m := ne_of h2 h1 (fun z => by cases z)
  exact ⟨upd_same, ⟨cs, by rw [upd_ne cm]; exact h2, h3⟩, ⟨ls0, by rw [upd_ne lm]; exact h4, h5⟩, h6, h0, h1'⟩
section
variable {K : PySem.W.Frag} {σ : St} {H : Hp} {m c l : Addr} {k : Int}
theorem rd_left {Q : VK} (h0 : σ[0]? = some (some (.ref m))) (M : MAt H m c l k) (q : Q (.ref l) H) : tDGet (tVar 0) (tC (.str "left")) σ H Q := by
  have z : DGet H m (.str "left") (valV (mkv c l k) (Sum.inr "left" : Key)) := DGet.k (k := Sum.inr "left") M.hm
  rw [v_left] at z
  exact ⟨_, h0, m, _, rfl, z, q⟩
theorem rd_cells {Q : VK} (h0 : σ[0]? = some (some (.ref m))) (M : MAt H m c l k) (q : Q (.ref c) H) : tDGet (tVar 0) (tC (.str "cells")) σ H Q := by
  have z : DGet H m (.str "cells") (valV (mkv c l k) (Sum.inr "cells" : Key)) := DGet.k (k := Sum.inr "cells") M.hm
  rw [v_cells] at z
  exact ⟨_, h0, m, _, rfl, z, q⟩
theorem rd_at {Q : VK} (h0 : σ[0]? = some (some (.ref m))) (M : MAt H m c l k) (q : Q (.int k) H) : tDGet (tVar 0) (tC (.str "at")) σ H Q := by
  have z : DGet H m (.str "at") (valV (mkv c l k) (Sum.inr "at" : Key)) := DGet.k (k := Sum.inr "at") M.hm
  rw [v_at] at z
  exact ⟨_, h0, m, _, rfl, z, q⟩
/-- a list of ints against the empty one -/
theorem ne_empty {Q : Bool → Hp → Prop} {a : Addr} {ls : List Int} (hl : H a = some (.lst (ls.map V.int))) (q : ∀ p, H p = none → Q (!ls.isEmpty) (upd H p (.lst []))) :
    tLst tNil σ H fun y H2 => rNeD K (.ref a) y H2 fun x H' => ∃ k, x = .bl k ∧ Q k H' := by
  refine ⟨by decide, fun p hp => ⟨.list (ls.map PyData.int), .list [], dp_list (same_upd hp _ _ hl), .lst (SqL.of upd_same) .nil, shaped_ints ls, shaped_ints [], _, rfl, ?_⟩⟩
  rw [eqv_nil]
  exact q p hp
theorem cut_one (ls : List Int) : cutV (ls.map V.int) (some 1) none = (ls.drop 1).map V.int := by
  unfold cutV
  have e1 : HT.sIx (ls.map V.int).length 0 (some 1) = min 1 (ls.map V.int).length := HT.sIx_nat _ _ 1
  rw [e1, HT.sIx_none]
  cases ls with
  | nil => rfl
  | cons x r =>
    have e2 : min 1 ((x :: r).map V.int).length = 1 := by simp
    rw [e2]
    show List.take ((x :: r).map V.int).length.pred (r.map V.int) = r.map V.int
    exact List.take_of_length_le (by simp)
end
theorem byAll {P : Int → Prop} {G : Prop} (a : (∀ x, P x) → G) (b : ∀ x, P x) : G := a b
theorem iteF' {b : Bool} {A B : Prop} (h : b = false) (q : B) : if b = true then A else B := by
  rw [h]
  exact iteF q
theorem iteT' {b : Bool} {A B : Prop} (h : b = true) (q : A) : if b = true then A else B := by
  rw [h]
  exact iteT q
theorem seq_while {tc : TT} {tb u : TS} {D : Ends} {σ : St} {H : Hp} (W : Nat → Hp → Prop) (R : Hp → Prop) {j0 : Nat} (h0 : W j0 H) (hr : ∀ H2, R H2 → u D σ H2)
    (turn : (∀ H2, R H2 → u D σ H2) → ∀ j H1, W j H1 → tc σ H1 fun b H2 => if b = true then
      ∃ N : St → Hp → Prop, (∀ σ' H', N σ' H' → ∃ j', j' < j ∧ (σ' = σ ∧ W j' H')) ∧ tb { nx := N, rt := D.rt, bk := u D, ct := N } σ H2 else u D σ H2) :
    tSeq (tWhile tc tb) u D σ H := by
  refine ⟨fun j σ' H' => σ' = σ ∧ W j H', ⟨j0, rfl, h0⟩, ?_⟩
  rintro j σ' H1 ⟨rfl, w⟩
  exact turn hr j H1 w
section
variable {P : Program} {w : World} {K : PySem.W.Frag} {mg : Str → Option Value} {base : Heap}
theorem scN : FnScope ["m", "many", "rest", "k", "cell", "mixed"] ["m", "many"] (defScope sNext) := ⟨rfl, rfl, rfl, by decide +kernel, rfl, by decide +kernel, by decide +kernel⟩
theorem ok_next {f : Addr} {fd : FuncData} (F : Fun K "_law_next" "_law_next" sNext f fd) (T : TxtD mg) : FnOk P w K mg base CX0 1 f fd ["m", "many"] spNext := by
  refine F.ok scN (fun vs H Q E h => ?_) (fun cdv A outer s H vs Q E hr h => ?_)
  · obtain ⟨m, c, l, k, n, rfl, _⟩ := h
    rfl
  · obtain ⟨m, c, l, k, n, rfl, M, n0, n1, kk, q⟩ := h
    have hu := hu_of hr
    have hu2 := hr.units
    refine ⟨_, pss_cons (ps_while PassesOwn.never
        (pw_and (pt_cmpR (op_neD hu2) (pe_dget hu (pv 0) pe_str (fun _ _ => rfl)) (pe_lst pa_nil) (nomark _))
          (pw_and1 (pt_cmpR op_eq (pe_ix ix_list (pe_dget hu (pv 0) pe_str (fun _ _ => rfl)) pe_int (fun _ _ => rfl)) pe_int (nomark _)))).pt
        (pss_one (ps_dput hu (pv 0) pe_str (pe_slice sl_list (pe_dget hu (pv 0) pe_str (fun _ _ => rfl)) (po_some pe_int) po_none) rfl)))
      (pss_cons (ps_if (pt_cmpR (op_neD hu2) (pe_dget hu (pv 0) pe_str (fun _ _ => rfl)) (pe_lst pa_nil) (nomark _))
        (pss_cons (ps_set (i := 2) scN.nd rfl (Or.inl rfl) (pe_callTy call_int1 (by rfl) T.int (by decide +kernel) (pa_cons (pe_ix ix_list (pe_dget hu (pv 0) pe_str (fun _ _ => rfl)) pe_int (fun _ _ => rfl)) pa_nil)))
        (pss_cons (ps_asg (pe_op op_fdiv (pv 2) (pv 1)) (pg_sub (pe_dget hu (pv 0) pe_str (fun _ _ => rfl)) pe_int set_list))
        (pss_one (ps_ret (pe_op op_mod (pv 2) (pv 1)))))) pss_nil)
      (pss_cons (ps_set (i := 3) scN.nd rfl (Or.inl rfl) (pe_op op_add (pe_dget hu (pv 0) pe_str (fun _ _ => rfl)) pe_int))
      (pss_cons (ps_dput hu (pv 0) pe_str (pv 3) rfl)
      (pss_cons (ps_set (i := 4) scN.nd rfl (Or.inl rfl) (pe_ifExp (pt_cmpR (op_neD hu2) (pe_dget hu (pv 0) pe_str (fun _ _ => rfl)) (pe_lst pa_nil) (nomark _))
        (pe_ix ix_list (pe_dget hu (pv 0) pe_str (fun _ _ => rfl))
          (pe_op op_mod (pe_callTy call_int1 (by rfl) T.int (by decide +kernel) (pa_cons (pv 3) pa_nil)) (pe_callB call_len_seq (by rfl) T.len PySem.boot_len (pa_cons (pe_dget hu (pv 0) pe_str (fun _ _ => rfl)) pa_nil))) (fun _ _ => rfl))
        pe_int))
      (pss_cons (ps_set (i := 5) scN.nd rfl (Or.inl rfl) (pe_op op_mul (pe_callTy call_int1 (by rfl) T.int (by decide +kernel) (pa_cons
        (pe_op op_add (pe_op op_add (pe_op op_mod (pe_callTy call_int1 (by rfl) T.int (by decide +kernel) (pa_cons (pv 4) pa_nil)) pe_int) (pe_op op_mul pe_int (pv 3))) (pe_op op_mul (pe_op op_mul pe_int (pv 3)) (pv 3))) pa_nil)) pe_int))
      (pss_cons (ps_set (i := 5) scN.nd rfl (Or.inl rfl) (pe_op op_mul (pe_callTy call_int1 (by rfl) T.int (by decide +kernel) (pa_cons
        (pe_op op_add (pe_op op_mod (pe_callTy call_int1 (by rfl) T.int (by decide +kernel) (pa_cons (pv 5) pa_nil)) pe_int) (pe_op op_mul pe_int (pv 3))) pa_nil)) pe_int))
      (pss_one (ps_ret (pe_op op_mod (pe_callTy call_int1 (by rfl) T.int (by decide +kernel) (pa_cons
        (pe_op op_fdiv (pe_op op_mod (pe_callTy call_int1 (by rfl) T.int (by decide +kernel) (pa_cons (pv 5) pa_nil)) pe_int) pe_int) pa_nil)) (pv 1)))))))))), ?_⟩
    obtain ⟨ls0, hl0, ll0⟩ := id M.hl
    refine seq_while (fun j H1 => ∃ (l1 : Addr) (ls : List Int), MAt H1 m c l1 k ∧ H1 l1 = some (.lst (ls.map V.int)) ∧ ls.length = j ∧ (l1 = l ∨ H l1 = none) ∧ (∀ b o, H b = some o → b ≠ m → b ≠ l → H1 b = some o) ∧ ∃ o, H1 l = some o)
      (fun H1 => ∃ (l1 : Addr) (ls : List Int), MAt H1 m c l1 k ∧ H1 l1 = some (.lst (ls.map V.int)) ∧ (l1 = l ∨ H l1 = none) ∧ (∀ b o, H b = some o → b ≠ m → b ≠ l → H1 b = some o))
      ⟨l, ls0, M, hl0, rfl, .inl rfl, fun b o e _ _ => e, _, hl0⟩ ?_ ?_
    · rintro H1 ⟨l1, ls, M1, hl, fl, kp⟩
      refine rd_left rfl M1 (ne_empty hl fun p hp => ?_)
      have M2 := MAt.same M1 (same_upd (o := .lst []) hp)
      have hl2 : upd H1 p (.lst []) l1 = some (.lst (ls.map V.int)) := same_upd hp _ _ hl
      cases ls with
      | cons x r =>
        refine iteT' rfl ?_
        refine rd_left rfl M2 ?_
        refine ⟨l1, _, 0, .int x, rfl, rfl, SqL.of hl2, atI_nat (j := 0) rfl, .inl ⟨x, rfl, ?_⟩⟩
        refine ⟨_, rfl, _, rfl, x, n, rfl, rfl, ⟨n0, by omega⟩, ?_⟩
        refine rd_left rfl M2 ?_
        refine ⟨l1, _, 0, 0, rfl, rfl, hl2, by simp [ixN], ?_⟩
        refine ⟨_, rfl, _, rfl, x, n, rfl, rfl, n0, ?_⟩
        show Q (.int (x % n)) _
        have hz : ((x / n) :: r).length ≤ 1000 := by
          obtain ⟨ls', e1, e2⟩ := M2.hl
          rw [hl2] at e1
          have e3 := congrArg List.length (HO.lst.inj (Option.some.inj e1))
          simp only [List.length_map] at e3
          rw [List.length_cons] at e3 ⊢
          omega
        refine q (x % n) _ l1 k (Int.emod_nonneg _ (by omega)) (Int.emod_lt_of_pos _ n0) (by omega) (M2.set hz) fl fun b o e h1 h2 => ?_
        have h3 : b ≠ l1 := by
          rcases fl with z | z
          · rw [z]
            exact h2
          · exact ne_of_none e z
        rw [upd_ne h3]
        exact same_upd hp _ _ (kp b o e h1 h2)
      | nil =>
        refine iteF' rfl ?_
        refine rd_at rfl M2 ⟨k, 1, rfl, rfl, ?_⟩
        refine ⟨_, rfl, _, rfl, m, _, rfl, DPut.k (k := Sum.inr "at") M2.hm (small1000 (by show 3 ≤ 1000; decide)), ?_⟩
        rw [p_at]
        have M3 := M2.count (k' := k + 1) (by have := M2.k0; omega) (by omega)
        obtain ⟨cs, hc, lc⟩ := id M3.hc
        have k0 := M.k0
        have kp3 : ∀ b o, H b = some o → b ≠ m → b ≠ l → upd (upd H1 p (.lst [])) m (.dK (mkv c l1 (k + 1))) b = some o := fun b o e h1 h2 => by
          rw [upd_ne h1]
          exact same_upd hp _ _ (kp b o e h1 h2)
        refine rd_cells rfl M3 (ne_empty hc fun p3 hp3 => ?_)
        have M4 := MAt.same M3 (same_upd (o := .lst []) hp3)
        have hc4 := same_upd (o := .lst []) hp3 _ _ hc
        have kp4 : ∀ b o, H b = some o → b ≠ m → b ≠ l → upd (upd (upd H1 p (.lst [])) m (.dK (mkv c l1 (k + 1)))) p3 (.lst []) b = some o := fun b o e h1 h2 => same_upd hp3 _ _ (kp3 b o e h1 h2)
        apply byAll
        case a =>
          intro fin
          by_cases he : cs.isEmpty = true
          · refine iteF' (by rw [he]; rfl) ?_
            generalize (3 : Int) = x
            exact fin x
          · refine iteT' (by simpa using he) ?_
            refine rd_cells rfl M4 ?_
            have ne0 : 0 < cs.length := List.length_pos_iff.mpr (fun z => he (by rw [z]; rfl))
            have pos : (0 : Int) < ((cs.map V.int).length : Nat) := by
              simp only [List.length_map]
              omega
            refine ⟨_, rfl, .inl ⟨k + 1, rfl, ?_⟩⟩
            refine rd_cells rfl M4 ?_
            refine ⟨c, _, rfl, .inl (SqL.of hc4), k + 1, _, rfl, rfl, pos, ?_⟩
            have i0 := Int.emod_nonneg (k + 1) (Int.ne_of_gt pos)
            have i1 := Int.emod_lt_of_pos (k + 1) pos
            obtain ⟨j, hj⟩ := Int.eq_ofNat_of_zero_le i0
            have jl : j < cs.length := by
              simp only [List.length_map] at i1 hj
              omega
            obtain ⟨x, hx⟩ : ∃ x : Int, cs[j]? = some x := ⟨cs[j], List.getElem?_eq_getElem jl⟩
            refine ⟨c, _, _, V.int x, rfl, rfl, SqL.of hc4, ?_, ?_⟩
            · rw [hj]
              refine atI_nat ?_
              rw [List.getElem?_map, hx]
              rfl
            · exact fin x
        case b =>
          intro x
          have k2 : -(2 ^ 64) < k + 1 ∧ k + 1 < 2 ^ 64 := ⟨by omega, by omega⟩
          refine ⟨_, rfl, .inl ⟨x, rfl, _, _, rfl, rfl, (by show (0 : Int) < 2147483629; decide), _, rfl, _, _, rfl, rfl, .inl ⟨by decide, by decide⟩, _, _, rfl, rfl, _, rfl, _, _, rfl, rfl, .inl ⟨by decide, by decide⟩,
            _, rfl, _, _, rfl, rfl, .inr k2, _, _, rfl, rfl, .inl ⟨_, rfl, _, _, rfl, rfl, .inr ⟨by decide, by decide⟩, ?_⟩⟩⟩
          refine ⟨_, rfl, .inl ⟨_, rfl, _, _, rfl, rfl, (by show (0 : Int) < 2147483647; decide), _, rfl, _, _, rfl, rfl, .inl ⟨by decide, by decide⟩, _, _, rfl, rfl, .inl ⟨_, rfl, _, _, rfl, rfl, .inr ⟨by decide, by decide⟩, ?_⟩⟩⟩
          refine ⟨_, rfl, .inl ⟨_, rfl, _, _, rfl, rfl, (by show (0 : Int) < 2147483587; decide), _, _, rfl, rfl, ⟨by decide, by decide⟩, .inl ⟨_, rfl, _, rfl, _, _, rfl, rfl, n0, ?_⟩⟩⟩
          exact q _ _ l1 (k + 1) (Int.emod_nonneg _ (by omega)) (Int.emod_lt_of_pos _ n0) (by omega) M4 fl kp4
    · rintro out j H1 ⟨l1, ls, M1, hl, lj, fl, kp, lo⟩
      refine rd_left rfl M1 (ne_empty hl fun p hp => ?_)
      have M2 := MAt.same M1 (same_upd (o := .lst []) hp)
      have hl2 : upd H1 p (.lst []) l1 = some (.lst (ls.map V.int)) := same_upd hp _ _ hl
      have kp2 : ∀ b o, H b = some o → b ≠ m → b ≠ l → upd H1 p (.lst []) b = some o := fun b o e h1 h2 => same_upd hp _ _ (kp b o e h1 h2)
      have lo2 : ∃ o, upd H1 p (.lst []) l = some o := lo.elim fun o e => ⟨o, same_upd hp _ _ e⟩
      cases ls with
      | nil =>
        refine iteF' rfl (iteF' rfl ?_)
        exact out _ ⟨l1, [], M2, hl2, fl, kp2⟩
      | cons x r =>
        refine iteT' rfl (rd_left rfl M2 ⟨l1, _, 0, .int x, rfl, rfl, SqL.of hl2, atI_nat (j := 0) rfl, rfl, _, rfl, ?_⟩)
        refine ite2 (fun z => ?_) (fun z => ?_)
        · refine ⟨_, fun _ _ z => z, ?_⟩
          refine rd_left rfl M2 ⟨1, rfl, l1, _, rfl, SqL.of hl2, fun p2 hp2 => ?_⟩
          have M3 : MAt (upd (upd H1 p (.lst [])) p2 (.lst (cutV ((x :: r).map V.int) (some 1) none))) m c l1 k := MAt.same M2 (same_upd hp2)
          refine ⟨_, rfl, m, _, rfl, DPut.k (k := Sum.inr "left") M3.hm (small1000 (by show 3 ≤ 1000; decide)), ?_⟩
          rw [p_left, cut_one]
          have hz : ((x :: r).drop 1).length ≤ 1000 := by
            obtain ⟨ls', e1, e2⟩ := M2.hl
            rw [hl2] at e1
            have e3 := congrArg List.length (HO.lst.inj (Option.some.inj e1))
            simp only [List.length_map] at e3
            rw [List.length_cons] at e3
            simp only [List.drop_succ_cons, List.drop_zero]
            omega
          have mp : p2 ≠ m := (ne_of_none M2.hm hp2).symm
          refine ⟨r.length, by rw [← lj]; simp, rfl, p2, r, M2.turn hp2 hz, by rw [upd_ne mp]; exact upd_same, rfl, .inr ?_, fun b o e h1 h2 => ?_, ?_⟩
          · cases q0 : H p2 with
            | none => rfl
            | some o =>
              have a2 : p2 ≠ l := by
                obtain ⟨o, e⟩ := lo2
                exact (ne_of_none e hp2).symm
              rw [kp2 p2 o q0 mp a2] at hp2
              cases hp2
          · rw [upd_ne h1]
            exact same_upd hp2 _ _ (kp2 b o e h1 h2)
          · obtain ⟨o, e⟩ := lo2
            refine ⟨o, ?_⟩
            by_cases lm : l = m
            · subst lm
              rw [M.hm] at hl0
              cases hl0
            · rw [upd_ne lm]
              exact same_upd hp2 _ _ e
        · exact out _ ⟨l1, x :: r, M2, hl2, fl, kp2⟩
theorem scB : FnScope ["script", "cell"] ["script"] (defScope sBegun) := ⟨rfl, rfl, rfl, by decide +kernel, rfl, by decide +kernel, by decide +kernel⟩
theorem ok_begun {f : Addr} {fd : FuncData} (F : Fun K "_law_begun" "_law_begun" sBegun f fd) (T : TxtD mg) : FnOk P w K mg base CX0 1 f fd ["script"] (spBegun K) := by
  refine F.ok scB (fun vs H Q E h => ?_) (fun cdv A outer s H vs Q E hr h => ?_)
  · obtain ⟨a, ns, rfl, _⟩ := h
    rfl
  · obtain ⟨a, ns, rfl, hS, hl, q⟩ := h
    refine ⟨_, pss_one (ps_ret (pe_disp (pps_cons pe_str (pe_callTy call_list_of (by rfl) T.list (by decide +kernel) (pa_cons (pv 0) pa_nil))
      (pps_cons pe_str (pe_lc (own := [("cell", 1)]) (g := gName 1) rfl scB.nd (pi_list (pv 0)) (blkOk_by (N := ["script", "cell"]) (sc := defScope sBegun) (by decide +kernel))
        (fun _ _ _ _ _ => pg_name (i := 1) scB.nd rfl (Or.inl rfl)) (fun _ _ _ _ _ => pts_one (pt_cmpR op_ge (pv 1) (pe_op op_pow pe_int pe_int) (nomark _))) (fun _ _ _ _ _ => pv 1))
      (pps_cons pe_str pe_int pps_nil))) rfl rfl (by simp) (by decide))), ?_⟩
    intro m hm
    have s1 : Same H (upd H m (.dK [])) := same_upd hm
    refine ⟨_, rfl, a, ns.map V.int, rfl, .inl (s1.seq hS), fun c hc => ?_⟩
    have s2 := s1.trans (same_upd (o := .lst (ns.map V.int)) hc)
    refine ⟨_, rfl, a, rfl, ⟨_, s2.seq hS⟩, fun l hl0 => ?_⟩
    have mc : m ≠ c := ne_of_none upd_same hc
    have hm2 : upd (upd H m (.dK [])) c (.lst (ns.map V.int)) m = some (.dK []) := by
      rw [upd_ne mc]
      exact upd_same
    have ml : m ≠ l := ne_of_none hm2 hl0
    have cl : c ≠ l := ne_of_none (upd_same) hl0
    refine lc_list (K := K) (a := a) (xs := ns.map V.int) (fun i H' => ∃ acc : List Int, H' l = some (.lst (acc.map V.int)) ∧ acc.length ≤ i ∧ ∀ b o, upd (upd H m (.dK [])) c (.lst (ns.map V.int)) b = some o → H' b = some o)
      ⟨[], upd_same, Nat.le_refl _, fun b o e => same_upd hl0 _ _ e⟩ (fun i H' _ ⟨acc, _, _, k⟩ => Same.seq (s2.trans k) hS) ?_ ?_
    · rintro i x H' hi ⟨acc, ha, la, kp⟩
      obtain ⟨z, rfl⟩ : ∃ z, x = V.int z := by
        rw [List.getElem?_map] at hi
        cases e : ns[i]? with
        | none =>
          rw [e] at hi
          cases hi
        | some z =>
          rw [e] at hi
          exact ⟨z, (Option.some.inj hi).symm⟩
      have il : i < ns.length := by
        have := (List.getElem?_eq_some_iff.mp hi).1
        simpa using this
      refine ⟨rfl, _, rfl, 10, 18, rfl, rfl, ⟨by decide, by decide, by decide⟩, _, _, rfl, rfl, _, rfl, ?_⟩
      refine ite2 (fun _ => ⟨_, rfl, acc.map V.int, ha, ?_, acc ++ [z], ?_, ?_, fun b o e => ?_⟩) (fun _ => ⟨acc, ha, Nat.le_succ_of_le la, kp⟩)
      · rw [List.length_map]
        exact small1000 (by omega)
      · rw [List.map_append]
        exact upd_same
      · simp only [List.length_append, List.length_cons, List.length_nil]
        omega
      · rw [upd_ne (ne_of_none e hl0)]
        exact kp b o e
    · rintro H' ⟨acc, ha, la, kp⟩
      rw [List.length_map] at la
      refine ⟨kp _ _ hm2, mkv c l 0, rfl, (by show 3 ≤ 15; decide), ?_⟩
      rw [mk_merge]
      have lm : l ≠ m := ml.symm
      have cm : c ≠ m := mc.symm
      refine q m c l _ ⟨upd_same, ⟨ns, by rw [upd_ne cm]; exact kp _ _ upd_same, hl⟩, ⟨acc, by rw [upd_ne lm]; exact ha, by omega⟩, cl, by decide, by decide⟩ hm (s1.free hc) (s2.free hl0) fun b o e => ?_
      rw [upd_ne (ne_of_none e hm)]
      exact kp _ _ (s2 _ _ e)
end
end K10

set_option Elab.async false
set_option linter.all false
set_option maxRecDepth 100000
set_option maxHeartbeats 4000000
/-! is_number, is_piece, is_step: of what a framing holds. -/
namespace K10
open PySem L2 L2.EV
abbrev sNum : Stmt := top 11
abbrev sPc : Stmt := top 12
abbrev sStep : Stmt := top 13
def sgs : List Nat := sl ("abcdefghijklmnopqrstuvwxyz0123456789@" : Str)
theorem no59 : ¬ (59 ∈ sgs) := by decide +kernel
theorem semi : sl (";" : Str) = [59] := by decide +kernel
theorem semi1 : (";" : Str).length = 1 := by decide +kernel
/-- a piece; it ends a line if last -/
def Pc (p : Str) (last : Bool) : Prop := ∃ b : List Nat, sl p = b ++ (if last = true then [59] else []) ∧ b.length + (if last = true then 1 else 0) ≤ 8 ∧ (∀ c ∈ b, c ∈ sgs) ∧ (last = false → b ≠ [])
theorem len_sl (p : Str) : p.length = (sl p).length := by
  show p.cps.size = p.cps.toList.length
  simp
theorem pc_len {p : Str} {l : Bool} (h : Pc p l) : 1 ≤ p.length ∧ p.length ≤ 8 := by
  obtain ⟨b, e, h1, _, h2⟩ := h
  rw [len_sl, e, List.length_append]
  cases l with
  | true =>
    rw [if_pos rfl] at h1 ⊢
    simp only [List.length_cons, List.length_nil]
    omega
  | false =>
    have := List.length_pos_iff.mpr (h2 rfl)
    rw [if_neg (by simp)] at h1 ⊢
    simp only [List.length_nil]
    omega
theorem at_end {p : Str} : Builtin.Str.subAt p ";" (p.length - (";" : Str).length) = (((sl p).drop ((sl p).length - 1)).take 1 == [59]) := by
  rw [StrLaws.subAt_eq, semi1, len_sl]
  show (((sl p).drop _).take 1 == sl (";" : Str)) = _
  rw [semi]
theorem pc_last {p : Str} {l : Bool} (h : Pc p l) : (decide (0 + (";" : Str).length ≤ p.length) && Builtin.Str.subAt p ";" (p.length - (";" : Str).length)) = l := by
  have z := pc_len h
  rw [at_end]
  have d : decide (0 + (";" : Str).length ≤ p.length) = true := decide_eq_true (by rw [semi1]; omega)
  rw [d, Bool.true_and]
  obtain ⟨b, e, h1, hb, h2⟩ := h
  rw [e]
  cases l with
  | true =>
    rw [if_pos rfl]
    simp
  | false =>
    rw [if_neg (by simp), List.append_nil]
    obtain ⟨M, y, rfl⟩ := SrtO.snoc_of (l := b) (List.length_pos_iff.mpr (h2 rfl))
    have hy : y ∈ sgs := hb y (by simp)
    have ne : ¬ y = 59 := fun q => no59 (q ▸ hy)
    simp [ne]
theorem pc_ends {p : Str} {l : Bool} (h : Pc p l) : Txt.endswith p ";" = l := pc_last h
theorem pc_cut {p : Str} {l : Bool} (h : Pc p l) : ∀ c ∈ sl (Txt.removesuffix p ";"), c ∈ sgs := by
  have z := pc_last h
  rw [StrLaws.removesuffix_eq]
  rw [show (decide (0 + (";" : Str).length ≤ p.length) && Builtin.Str.subAt p ";" (p.length - (";" : Str).length)) = l from z]
  obtain ⟨b, e, h1, hb, h2⟩ := h
  intro c hc
  cases l with
  | true =>
    rw [if_pos rfl] at hc e
    rw [semi1, len_sl] at hc
    have e' : p.cps.toList = b ++ [59] := e
    simp only [e, e', List.drop_zero, List.length_append, List.length_cons, List.length_nil] at hc
    have : (b ++ [59]).take (b.length + (0 + 1) - 1 - 0) = b := by simp
    rw [this] at hc
    exact hb c (by simpa using hc)
  | false =>
    rw [if_neg (by simp)] at hc
    rw [e, if_neg (by simp), List.append_nil] at hc
    exact hb c hc
/-- is_number(n, many) -/
def spNum : Sp := fun vs H Q _ => ∃ n m : Int, vs = [.int n, .int m] ∧ Q (.bl (decide (0 ≤ n) && decide (n < m))) H
/-- is_piece(p), p a piece -/
def spPc : Sp := fun vs H Q _ => ∃ (p : Str) (l : Bool), vs = [.str p] ∧ Pc p l ∧ ∀ H', Same H H' → Q (.bl true) H'
/-- what a step is -/
def Stp (x : T3) : Prop := 0 ≤ x.1 ∧ x.1 < 6 ∧ Pc x.2.1 (decide (x.2.2 = 0)) ∧ 0 ≤ x.2.2 ∧ x.2.2 < 6
/-- a step at t -/
abbrev S3 (H : Hp) (t : Addr) (x : T3) : Prop := H t = some (.tup [.int x.1, .str x.2.1, .int x.2.2])
def spStep : Sp := fun vs H Q _ => ∃ (t : Addr) (x : T3), vs = [.ref t] ∧ S3 H t x ∧ Stp x ∧ ∀ H', Same H H' → Q (.bl true) H'
structure TxtF (mg : Str → Option Value) : Prop where
  isi : mg "isinstance" = none
  int : mg "int" = none
  bool : mg "bool" = none
  str : mg "str" = none
  tuple : mg "tuple" = none
  len : mg "len" = none
  all : mg "all" = none
  signs : ∃ t, mg "SIGNS" = some (.str "abcdefghijklmnopqrstuvwxyz0123456789@" t)
  mSigns : ∃ t, mg "MOST_SIGNS" = some (.int 8 t)
  many : ∃ t, mg "MANY_STANDINGS" = some (.int 6 t)
section
variable {P : Program} {w : World} {K : PySem.W.Frag} {mg : Str → Option Value} {base : Heap}
theorem scNum : FnScope ["thing", "many"] ["thing", "many"] (defScope sNum) := ⟨rfl, rfl, rfl, by decide +kernel, rfl, by decide +kernel, by decide +kernel⟩
theorem ok_num {f : Addr} {fd : FuncData} (F : Fun K "is_number" "is_number" sNum f fd) (T : TxtF mg) : FnOk P w K mg base CX0 1 f fd ["thing", "many"] spNum := by
  refine F.ok scNum (fun vs H Q E h => ?_) (fun cdv A outer s H vs Q E hr h => ?_)
  · obtain ⟨n, m, rfl, _⟩ := h
    rfl
  · obtain ⟨n, m, rfl, q⟩ := h
    refine ⟨_, pss_one (ps_ret (pe_and (pe_callB call_isi (by rfl) T.isi PyProof.Rows.boot_isinstance (pa_cons (pv 0) (pa_cons (pe_bltn (v := .ty "int") (by rfl) T.int (by decide +kernel) rfl) pa_nil)))
      (pe_and (pe_not (pe_callB call_isi (by rfl) T.isi PyProof.Rows.boot_isinstance (pa_cons (pv 0) (pa_cons (pe_bltn (v := .ty "bool") (by rfl) T.bool (by decide +kernel) rfl) pa_nil))))
        (pe_one (pe_chain op_le op_lt pe_int (pv 0) (pv 1)))))), ?_⟩
    refine ⟨_, rfl, .int n, .ty "int", .type "int", .type "int", true, rfl, .ty "int", .base (.int n), kit_ty (by decide +kernel), true, rfl, iteT ?_⟩
    refine ⟨_, rfl, .int n, .ty "bool", .type "int", .type "bool", false, rfl, .ty "bool", .base (.int n), kit_ty (by decide +kernel), false, rfl, true, rfl, iteT ?_⟩
    refine ⟨_, rfl, 0, n, rfl, rfl, _, rfl, ?_⟩
    refine ite2 (fun z => ?_) (fun z => ?_)
    · refine ⟨_, rfl, n, m, rfl, rfl, ?_⟩
      rw [z, Bool.true_and] at q
      exact q
    · rw [eq_false_of_ne_true z, Bool.false_and] at q
      exact q
theorem scPc : FnScope ["thing", "sign"] ["thing"] (defScope sPc) := ⟨rfl, rfl, rfl, by decide +kernel, rfl, by decide +kernel, by decide +kernel⟩
theorem ok_pc {f : Addr} {fd : FuncData} (F : Fun K "is_piece" "is_piece" sPc f fd) (T : TxtF mg) : FnOk P w K mg base CX0 1 f fd ["thing"] spPc := by
  refine F.ok scPc (fun vs H Q E h => ?_) (fun cdv A outer s H vs Q E hr h => ?_)
  · obtain ⟨p, l, rfl, _⟩ := h
    rfl
  · obtain ⟨p, l, rfl, hp, q⟩ := h
    obtain ⟨ts, eS⟩ := T.signs
    obtain ⟨tm, eM⟩ := T.mSigns
    refine ⟨_, pss_cons (ps_if (pw_or (pt_not (pt_val (pe_callB call_isi (by rfl) T.isi PyProof.Rows.boot_isinstance (pa_cons (pv 0) (pa_cons (pe_bltn (v := .ty "str") (by rfl) T.str (by decide +kernel) rfl) pa_nil)))))
        (pw_or1 (pt_not (pt_chain op_le op_le pe_int (pe_callB call_len_str (by rfl) T.len PySem.boot_len (pa_cons (pv 0) pa_nil)) (pe_glob (v := .int 8) (by rfl) eM ⟨_, rfl⟩))))).pt
        (pss_one (ps_ret pe_bl)) pss_nil)
      (pss_one (ps_ret (pe_callB (cr_all rfl) (by rfl) T.all (by decide +kernel) (pa_cons (pe_lc (own := [("sign", 1)]) (g := gName 1) rfl scPc.nd
        (pi_str (pe_m1 PySem.F.slot_str_removesuffix PySem.F.type_str_removesuffix mt_removesuffix (pv 0) pe_str)) (blkOk_by (N := ["thing", "sign"]) (sc := defScope sPc) (by decide +kernel))
        (fun _ _ _ _ _ => pg_name (i := 1) scPc.nd rfl (Or.inl rfl)) (fun _ _ _ _ _ => pts_nil) (fun _ _ _ _ _ => pe_cmpR op_in_sign (pv 1) (pe_glob (v := .str "abcdefghijklmnopqrstuvwxyz0123456789@") (by rfl) eS ⟨_, rfl⟩) (by rfl))) pa_nil)))), ?_⟩
    have z := pc_len hp
    refine ⟨_, rfl, .str p, .ty "str", .type "str", .type "str", true, rfl, .ty "str", .base (.str p), kit_ty (by decide +kernel), true, rfl, iteF ?_⟩
    refine ⟨.str p, rfl, p, rfl, by rw [sizeLine_eq]; omega, 1, p.length, rfl, rfl, _, rfl, iteT' (decide_eq_true (by omega)) ⟨p.length, 8, rfl, rfl, _, rfl, ?_⟩⟩
    refine iteF' (by rw [decide_eq_true (by omega)]; rfl) ?_
    refine ⟨_, rfl, ⟨p, rfl⟩, p, ";", rfl, rfl, by rw [sizeLine_eq]; omega, _, rfl, fun D hD => ?_⟩
    refine lc_it walk_str (fun i H' => H' D = some (.lst ((List.replicate i true).map V.bl)) ∧ ∀ b o, H b = some o → H' b = some o) ⟨upd_same, fun b o z => same_upd hD b o z⟩ (fun _ _ _ _ => trivial) ?_ ?_
    · rintro i x H1 H2 hi ⟨hl, kp⟩ ⟨rfl, c, hc, rfl⟩
      refine ⟨rfl, ⟨_, rfl, c, _, rfl, rfl, ?_⟩⟩
      have hm : c ∈ sgs := pc_cut hp c (List.mem_of_getElem? (by simpa using hc))
      refine ⟨_, hl, ?_, ?_, fun b o z => ?_⟩
      · rw [List.length_map, List.length_replicate, sizeLine_eq]
        have l1 := PyProof.Rows.len_removesuffix p ";"
        have l2 : (Txt.removesuffix p ";").cps.size = (Txt.removesuffix p ";").length := rfl
        omega
      · have e : decide (c ∈ ("abcdefghijklmnopqrstuvwxyz0123456789@" : Str).cps.toList) = true := decide_eq_true hm
        rw [e, List.replicate_succ', List.map_append]
        exact upd_same
      · rw [upd_ne (ne_of_none z hD)]
        exact kp b o z
    · rintro H1 ⟨hl, kp⟩
      refine ⟨D, _, rfl, SqL.of hl, ?_⟩
      rw [show (List.replicate (Txt.removesuffix p ";").cps.size true).all id = true by simp]
      exact q H1 kp
theorem scStep : FnScope ["thing", "start", "piece", "goal"] ["thing"] (defScope sStep) := ⟨rfl, rfl, rfl, by decide +kernel, rfl, by decide +kernel, by decide +kernel⟩
theorem ok_step {f fN fP : Addr} {fd fdN fdP : FuncData} (F : Fun K "is_step" "is_step" sStep f fd) (T : TxtF mg) (FN : Fun K "is_number" "is_number" sNum fN fdN) (bN : Binds K fdN ["thing", "many"] []) (mN : mg "is_number" = some (.ref fN))
    (FP : Fun K "is_piece" "is_piece" sPc fP fdP) (bP : Binds K fdP ["thing"] []) (mP : mg "is_piece" = some (.ref fP)) : FnOk P w K mg base CX0 2 f fd ["thing"] spStep := by
  have GN : FnOk P w K mg base CX0 1 fN fdN ["thing", "many"] spNum := ok_num FN T
  have GP : FnOk P w K mg base CX0 1 fP fdP ["thing"] spPc := ok_pc FP T
  refine F.ok scStep (fun vs H Q E h => ?_) (fun cdv A outer s H vs Q E hr h => ?_)
  · obtain ⟨t, x, rfl, _⟩ := h
    rfl
  · obtain ⟨t, x, rfl, e, hx, q⟩ := h
    obtain ⟨tm, eM⟩ := T.many
    refine ⟨_, pss_cons (ps_if (pw_or (pt_not (pt_val (pe_callB call_isi (by rfl) T.isi PyProof.Rows.boot_isinstance (pa_cons (pv 0) (pa_cons (pe_bltn (v := .ty "tuple") (by rfl) T.tuple (by decide +kernel) rfl) pa_nil)))))
        (pw_or1 (pt_cmpR op_ne (pe_callB call_len_seq (by rfl) T.len PySem.boot_len (pa_cons (pv 0) pa_nil)) pe_int (nomark _)))).pt
        (pss_one (ps_ret pe_bl)) pss_nil)
      (pss_cons (ps_asg (pv 0) (pg_tup rfl (pgs_cons (pg_name (i := 1) scStep.nd rfl (Or.inl rfl)) (pgs_cons (pg_name (i := 2) scStep.nd rfl (Or.inl rfl)) (pgs_cons (pg_name (i := 3) scStep.nd rfl (Or.inl rfl)) pgs_nil)))))
      (pss_cons (ps_if (pw_or (pt_not (pt_val (pe_call GN hr (by rfl) mN FN.kp bN .nil pass0 (pa_cons (pv 1) (pa_cons (pe_glob (v := .int 6) (by rfl) eM ⟨_, rfl⟩) pa_nil)))))
        (pw_or (pt_not (pt_val (pe_call GP hr (by rfl) mP FP.kp bP .nil pass0 (pa_cons (pv 2) pa_nil))))
          (pw_or1 (pt_not (pt_val (pe_call GN hr (by rfl) mN FN.kp bN .nil pass0 (pa_cons (pv 3) (pa_cons (pe_glob (v := .int 6) (by rfl) eM ⟨_, rfl⟩) pa_nil)))))))).pt
        (pss_one (ps_ret pe_bl)) pss_nil)
      (pss_one (ps_ret (pe_cmpR op_eq (pe_m1 PySem.F.slot_str_endswith PySem.F.type_str_endswith mt_endswith (pv 2) pe_str) (pe_cmpR op_eq (pv 3) pe_int (nomark _)) (nomark _)))))), ?_⟩
    obtain ⟨h0, h6, hp, g0, g6⟩ := hx
    refine ⟨_, rfl, .ref t, .ty "tuple", .type "tuple", .type "tuple", true, rfl, .ty "tuple", .base (.tup e), kit_ty (by decide +kernel), true, rfl, iteF ?_⟩
    refine ⟨_, rfl, t, _, rfl, .inr (SqT.of e), rfl, _, rfl, iteF ?_⟩
    refine ⟨_, rfl, t, _, rfl, SqT.of e, rfl, _, _, rfl, _, _, rfl, _, _, rfl, rfl, ?_⟩
    refine ⟨_, rfl, x.1, 6, rfl, _, rfl, ?_⟩
    refine iteF' (by rw [decide_eq_true h0, decide_eq_true h6]; rfl) ?_
    refine ⟨_, rfl, x.2.1, _, rfl, hp, fun H1 s1 => ⟨_, rfl, iteF ?_⟩⟩
    refine ⟨_, rfl, x.2.2, 6, rfl, _, rfl, ?_⟩
    refine iteF' (by rw [decide_eq_true g0, decide_eq_true g6]; rfl) ?_
    refine ⟨_, rfl, ⟨_, rfl⟩, x.2.1, _, rfl, rfl, ⟨_, rfl, rfl, rfl, ?_⟩⟩
    rw [pc_ends hp]
    have e1 : decide (V.int x.2.2 = V.int 0) = decide (x.2.2 = 0) := by
      rw [dec_int]
      by_cases z : x.2.2 = 0
      · rw [z]
        rfl
      · rw [decide_eq_false z]
        exact beq_eq_false_iff_ne.mpr z
    rw [e1, decide_eq_true rfl]
    exact q H1 s1
end
end K10

set_option Elab.async false
set_option linter.all false
set_option maxRecDepth 100000
set_option maxHeartbeats 4000000
/-! {elt for tg in iter if .. for tg1 in iter1 if ..}: a set of ints by a comprehension of two clauses. -/
namespace L2
namespace EV
open PySem PySem.Spec PyProof.Rows
/-- the comprehension itself -/
abbrev sc2 (elt t0 i0 t1 i1 : Expr) (f0 f1 : List Expr) (sc : Scope) (pos : Pos) : Expr := .SetComp elt [⟨t0, i0, f0, 0⟩, ⟨t1, i1, f1, 0⟩] sc pos
section
variable (elt t0 i0 t1 i1 : Expr) (f0 f1 : List Expr) (sc : Scope) (pos : Pos) (it acc : Value) (env : Env)
theorem turn_outer : compTurn (sc2 elt t0 i0 t1 i1 f0 f1 sc pos) 0 it acc env = (do
    standAt i0.pos
    match ← pyNext it with
    | none => pure (.done .next)
    | some u =>
      letOwnedTupleGo t0 it u
      assign t0 env u
      let mut go := true
      for c in f0 do
        if go then go ← isTrue c env (eval c env)
      if go then
        let xs ← eval i1 env
        standAt i1.pos
        let xs ← foldedSetIterable i1 env xs
        let _ ← runOwn (.compStart (sc2 elt t0 i0 t1 i1 f0 f1 sc pos) 1 (← holding [xs] (pyIter xs)) acc env) env
      again (.compLoop (sc2 elt t0 i0 t1 i1 f0 f1 sc pos) 0 it acc env)) := by rfl
theorem turn_inner : compTurn (sc2 elt t0 i0 t1 i1 f0 f1 sc pos) 1 it acc env = (do
    standAt i1.pos
    match ← pyNext it with
    | none => pure (.done .next)
    | some u =>
      letOwnedTupleGo t1 it u
      assign t1 env u
      let mut go := true
      for c in f1 do
        if go then go ← isTrue c env (eval c env)
      if go then
        (do let y ← eval elt env; standAt elt.pos; let _ ← call (.builtin "set.add") [acc, y])
      again (.compLoop (sc2 elt t0 i0 t1 i1 f0 f1 sc pos) 1 it acc env)) := by rfl
end
section
variable {prog : Program} {w : World} {A : Around} {R : Result → Shared → Prop} {s : Shared} {elt t0 i0 t1 i1 : Expr} {f0 f1 : List Expr} {sc : Scope} {pos : Pos} {it acc : Value} {env : Env}
/-- what is wanted of an error in the block -/
abbrev Erx (prog : Program) (w : World) (A : Around) (env : Env) (R : Result → Shared → Prop) : Value → Shared → Prop := notedBy (model prog w) A env fun e s' => R (.error e) s'
/-- the tests of a clause -/
abbrev tests (fs : List Expr) (env : Env) : Sem Bool := forIn fs true fun c r => if r = true then do let ok ← isTrue c env (eval c env); pure (ForInStep.yield ok) else pure (ForInStep.yield r)
theorem loop_outer (fold : ∀ x, foldedSetIterable i1 env x = pure x) (J : Nat → Shared → Prop)
    (turn : ∀ n s, J n s → wpAny (model prog w) A (pyNext it) (fun r s1 => match r with
      | none => R (.ok .next) s1
      | some u => wpAny (model prog w) A (letOwnedTupleGo t0 it u) (fun _ s2 => wpAny (model prog w) A (assign t0 env u) (fun _ s3 => wpAny (model prog w) A (tests f0 env) (fun ok s4 =>
          if ok = true then wpAny (model prog w) A (eval i1 env) (fun xs s5 => wpAny (model prog w) A (pyIter xs) (fun itv s6 =>
            codeAny (model prog w) A (.compStart (sc2 elt t0 i0 t1 i1 f0 f1 sc pos) 1 itv acc env) (fun r s' => (∃ fl, r = .ok fl) ∧ ∃ m, m < n ∧ J m s') s6) (Erx prog w A env R) s5) (Erx prog w A env R) s4
          else ∃ m, m < n ∧ J m s4) (Erx prog w A env R) s3) (Erx prog w A env R) s2) (Erx prog w A env R) s1) (Erx prog w A env R) s) (n : Nat) (h : J n s) :
    codeAny (model prog w) A (.compLoop (sc2 elt t0 i0 t1 i1 f0 f1 sc pos) 0 it acc env) R s := by
  refine codeAny_loop rfl J (fun n s hJ => ?_) n h
  show wpAny _ A ((compTurn (sc2 elt t0 i0 t1 i1 f0 f1 sc pos) 0 it acc env).onRaise (fun x => do noteFrame x env; theTreesLotGoes x)) _ _ s
  refine wpAny_noted ?_
  rw [turn_outer]
  refine wpAny_bind (wpAny_standAt (wpAny_bind (wpAny_mono (turn n s hJ) (fun r s1 q1 => ?_) fun _ _ z => z)))
  cases r with
  | none => exact wpAny_pure q1
  | some u =>
    refine wpAny_bind (wpAny_mono q1 (fun _ s2 q2 => ?_) fun _ _ z => z)
    refine wpAny_bind (wpAny_mono q2 (fun _ s3 q3 => ?_) fun _ _ z => z)
    refine wpAny_bind (wpAny_mono q3 (fun ok s4 q4 => ?_) fun _ _ z => z)
    cases ok with
    | false => exact wpAny_pure ⟨rfl, q4⟩
    | true =>
      refine wpAny_bind (wpAny_mono q4 (fun xs s5 q5 => ?_) fun _ _ z => z)
      refine wpAny_bind (wpAny_standAt (wpAny_bind (wpAny_of_eq (fold xs) ?_)))
      refine wpAny_bind (wpAny_holding (wpAny_mono q5 (fun itv s6 q6 => ?_) fun _ _ z => z))
      refine wpAny_bind (wpAny_runOwn ?_)
      rw [Around.mark_none]
      refine codeAny_mono q6 fun r s' hr => ?_
      obtain ⟨⟨fl, rfl⟩, hm⟩ := hr
      first
        | exact wpAny_pure ⟨rfl, hm⟩
        | exact wpAny_bind (wpAny_pure (wpAny_pure ⟨rfl, hm⟩))
theorem loop_inner (J : Nat → Shared → Prop)
    (turn : ∀ n s, J n s → wpAny (model prog w) A (pyNext it) (fun r s1 => match r with
      | none => R (.ok .next) s1
      | some u => wpAny (model prog w) A (letOwnedTupleGo t1 it u) (fun _ s2 => wpAny (model prog w) A (assign t1 env u) (fun _ s3 => wpAny (model prog w) A (tests f1 env) (fun ok s4 =>
          if ok = true then wpAny (model prog w) A (eval elt env) (fun y s5 => wpAny (model prog w) A (call (.builtin "set.add") [acc, y]) (fun _ s6 => ∃ m, m < n ∧ J m s6) (Erx prog w A env R) s5) (Erx prog w A env R) s4
          else ∃ m, m < n ∧ J m s4) (Erx prog w A env R) s3) (Erx prog w A env R) s2) (Erx prog w A env R) s1) (Erx prog w A env R) s) (n : Nat) (h : J n s) :
    codeAny (model prog w) A (.compLoop (sc2 elt t0 i0 t1 i1 f0 f1 sc pos) 1 it acc env) R s := by
  refine codeAny_loop rfl J (fun n s hJ => ?_) n h
  show wpAny _ A ((compTurn (sc2 elt t0 i0 t1 i1 f0 f1 sc pos) 1 it acc env).onRaise (fun x => do noteFrame x env; theTreesLotGoes x)) _ _ s
  refine wpAny_noted ?_
  rw [turn_inner]
  refine wpAny_bind (wpAny_standAt (wpAny_bind (wpAny_mono (turn n s hJ) (fun r s1 q1 => ?_) fun _ _ z => z)))
  cases r with
  | none => exact wpAny_pure q1
  | some u =>
    refine wpAny_bind (wpAny_mono q1 (fun _ s2 q2 => ?_) fun _ _ z => z)
    refine wpAny_bind (wpAny_mono q2 (fun _ s3 q3 => ?_) fun _ _ z => z)
    refine wpAny_bind (wpAny_mono q3 (fun ok s4 q4 => ?_) fun _ _ z => z)
    cases ok with
    | false => exact wpAny_pure ⟨rfl, q4⟩
    | true =>
      refine wpAny_bind (wpAny_bind (wpAny_mono q4 (fun y s5 q5 => ?_) fun _ _ z => z))
      refine wpAny_bind (wpAny_standAt (wpAny_bind (wpAny_mono q5 (fun _ s6 q6 => ?_) fun _ _ z => z)))
      exact wpAny_pure (wpAny_pure ⟨rfl, q6⟩)
/-- a clause's start: its walk is begun already, or begins here -/
theorem start_inner (h0 : codeAny (model prog w) A (.compLoop (sc2 elt t0 i0 t1 i1 f0 f1 sc pos) 1 it acc env) R s)
    (h : wpAny (model prog w) A (pyIter it) (fun itv s' => codeAny (model prog w) A (.compLoop (sc2 elt t0 i0 t1 i1 f0 f1 sc pos) 1 itv acc env) R s') (Erx prog w A env R) s) :
    codeAny (model prog w) A (.compStart (sc2 elt t0 i0 t1 i1 f0 f1 sc pos) 1 it acc env) R s := by
  refine codeAny_of_tree ?_
  show wpAny _ _ ((compStart (sc2 elt t0 i0 t1 i1 f0 f1 sc pos) 1 it acc env).onRaise (fun x => do noteFrame x env; standAt theWindowsPlace)) _ _ s
  refine wpAny_notedAt ?_
  unfold compStart
  show wpAny _ _ (ask >>= _) _ _ s
  refine wpAny_bind (wpAny_askSetting (wpAny_ite ?_))
  split
  · first
      | exact wpAny_bind (wpAny_pure (wpAny_pure (And.intro rfl h0)))
      | exact wpAny_pure (And.intro rfl h0)
  · refine wpAny_bind (wpAny_rule ?_)
    show wpAny _ _ (standAt i1.pos >>= _) _ _ s
    exact wpAny_bind (wpAny_standAt (wpAny_bind (wpAny_mono h (fun itv s' q => wpAny_pure (And.intro rfl q)) fun _ _ z => z)))
end
/-- the set at D has got y -/
def addedS (w : World) (D : Addr) (y : V) (H : Hp) (N : Hp → Prop) : Prop := ∃ (k : Int) (S : Int → Bool) (n : Nat), y = .int k ∧ H D = some (SetO w D S n) ∧ n + 1 < scanBound ∧
  N (upd H D (SetO w D (fun j => S j || decide (j = k)) (if S k = true then n else n + 1)))
/-- the reading: D the new set; behind the first clause's store and tests the second walk, from which Nx is reached -/
def tSc2 (w : World) (wi : TI) (g : TG) (tt : TT) (wi1 : TI) (g1 : TG) (tt1 : TT) (te : TE) (vs vs1 : List Nat) : TE := fun σ H Q => wi σ H fun J H1 => ∀ D, H1 D = none →
  ∃ W : Nat → Nat → Hp → Prop, (∃ m, W 0 m (upd H1 D (SetO w D (fun _ => false) 0))) ∧ ∀ i m H, W i m H →
    (J.stop i H ∧ Q (.ref D) H) ∨ (J.go i H ∧ ∃ Nx : Hp → Prop, (∀ H', Nx H' → ∃ m', m' < m ∧ W (i + 1) m' H') ∧ ∀ x H', J.yld i H x H' → g x (wipe σ vs) H' fun σ2 H2 => wipe σ2 vs = wipe σ vs ∧ tt σ2 H2 fun b H3 =>
      if b = true then wi1 σ2 H3 fun J1 H4 => ∃ W1 : Nat → Nat → Hp → Prop, (∃ m, W1 0 m H4) ∧ ∀ j k H, W1 j k H →
        (J1.stop j H ∧ Nx H) ∨ (J1.go j H ∧ ∃ Nx1 : Hp → Prop, (∀ H', Nx1 H' → ∃ k', k' < k ∧ W1 (j + 1) k' H') ∧ ∀ x H', J1.yld j H x H' → g1 x (wipe σ2 vs1) H' fun σ3 H5 => wipe σ3 vs1 = wipe σ2 vs1 ∧ tt1 σ3 H5 fun b H6 =>
          if b = true then te σ3 H6 fun y H7 => addedS w D y H7 Nx1 else Nx1 H6)
      else Nx H3)
section
variable {X : Cx}
theorem add_in {pins : List (Addr × Obj)} {σ : L2.St} {H : Hp} {s : Shared} {D : Addr} {y : V} {u : Value} {N : Hp → Prop} {Q : Value → Shared → Prop} (I : Inv X pins σ H s) (r : RelV y u) (a : addedS X.w D y H N)
    (h : ∀ H' s', Inv X pins σ H' s' → N H' → Q .none s') : wpAny (model X.prog X.w) X.A (call (.builtin "set.add") [.ref D, u]) Q X.xe s := by
  obtain ⟨k, S, n, rfl, hD, room, nx⟩ := a
  refine thn (mt_sadd pins s σ H (.ref D) [.int k] (.ref D) [u] (fun v H' => v = .non ∧ N H') I rfl (.cons r .nil) ⟨D, k, S, n, rfl, rfl, hD, room, rfl, nx⟩) fun v s' q => ?_
  obtain ⟨v', H', I', rv, rfl, nx'⟩ := q
  obtain rfl : v = Value.none := rv
  exact h H' s' I' nx'
variable {elt tg iter tg1 iter1 : Expr} {ifs ifs1 : List Expr} {scope : Scope} {own : List (Str × Nat)} {vs1 : List Nat} {pos : Pos} {wi wi1 : TI} {g g1 : TG} {tt tt1 : TT} {te : TE}
theorem pe_sc2 (hc : X.calm = true) (hN : X.N.Nodup) (hi : PI X tg iter wi) (ok : BlkOk X.N X.env.scope scope own) (hv : ∀ i ∈ vs1, i ∈ own.map (·.2))
    (blk : ∀ (s : Shared) (H : Hp) (C : Addr) (cl : List (Str × Addr)) (fp : List Addr), PG (X.blk s H scope (compEnvC scope cl C X.env) fp) tg g ∧ PTs (X.blk s H scope (compEnvC scope cl C X.env) fp) ifs tt ∧
      PI (X.blk s H scope (compEnvC scope cl C X.env) fp) tg1 iter1 wi1 ∧ PG (X.blk s H scope (compEnvC scope cl C X.env) fp) tg1 g1 ∧ PTs (X.blk s H scope (compEnvC scope cl C X.env) fp) ifs1 tt1 ∧
      PE (X.blk s H scope (compEnvC scope cl C X.env) fp) elt te)
    (fold : ∀ x, foldedSetIterable iter X.env x = pure x := by intro _; rfl) (fold1 : ∀ env x, foldedSetIterable iter1 env x = pure x := by intro _ _; rfl) :
    PE X (sc2 elt tg iter tg1 iter1 ifs ifs1 scope pos) (tSc2 X.w wi g tt wi1 g1 tt1 te (own.map (·.2)) vs1) := by
  refine ⟨fun pins s σ H Q I h => ?_⟩
  rw [PpSet.eval_SetComp]
  have cellOf : ∀ y ∈ scope.names, y.2 = .free → ∃ c, X.env.cells.lookup y.1 = some c := fun y hy e => (ok.free y hy e).elim (fun k => I.ok.has _ (.inl k)) fun k => I.ok.has _ (.inr k)
  refine wpAny_comprehension_free (use := none) rfl fold (closure_ok cellOf) ok.kind (fun y hy e => by rw [ok.uniq y hy, e]) (thn (hi.run pins s σ H _ I h) fun xv s1 hx => thn hx fun itv s2 h2 => ?_)
  obtain ⟨it, fp, tn, J, H2, e, I2, T, st2, f2, q⟩ := h2
  subst e
  refine PpSet.newSet_ok (newEnv_comp ?_)
  generalize hD : s2.heap.objs.size = D
  have freeD : H2 D = none := I2.hok.fresh (Nat.le_of_eq hD)
  obtain ⟨W, ⟨m0, w0⟩, turn⟩ := q D freeD
  generalize hso : ({ cls := .type "set", dict := none, data := .set #[] 0 (.fresh 0 0 (!X.w.params.followText "set-order")) } : Obj) = so
  have keepSo : ∀ b o, s2.heap.get? b = some o → (s2.heap.push so).get? b = some o := fun b o e => Heap.get?_push_of_some _ e
  have I3 : Inv X pins σ (upd H2 D (SetO X.w D (fun _ => false) 0)) { s2 with heap := s2.heap.push so } := by
    refine I2.laid (t' := s2.toks) keepSo (Nat.le_of_eq hD) ?_
    rw [← hD, ← hso]
    exact setO_new (setR_fresh X.w)
  generalize hs3 : ({ s2 with heap := s2.heap.push so } : Shared) = s3 at I3 ⊢
  have h3 : s3.heap = s2.heap.push so := by rw [← hs3]
  have below : ∀ b ∈ fp, b < s2.heap.objs.size := fun b hb => (T.obj _ _ st2 b hb).elim fun o e => Heap.lt_size e.1
  generalize hH3 : upd H2 D (SetO X.w D (fun _ => false) 0) = H3 at I3 w0 ⊢
  have f3 : ∀ b ∈ fp, FpOk X pins H3 b ∧ b < s3.heap.objs.size := fun b hb => by
    have lt := below b hb
    refine ⟨⟨?_, (f2 b hb).2⟩, by rw [h3, Heap.size_push]; exact Nat.lt_succ_of_lt lt⟩
    rw [← hH3, upd_ne (by rw [← hD]; exact Nat.ne_of_lt lt)]
    exact (f2 b hb).1
  have st3 : tn 0 s3.heap := T.keep _ _ _ st2 fun b _ o e => by rw [h3]; exact keepSo b o e
  have I4 := block_start I3 ok hN f3
  obtain ⟨pg, pt, pi1, pg1, pt1, pe⟩ := blk s3 H3 s3.heap.objs.size (cellsFrom (s3.heap.objs.size + 1) scope.names (cloFrom X.env.cells scope.names [])) fp
  show codeAny _ _ (.compStart (sc2 elt tg iter tg1 iter1 ifs ifs1 scope pos) 0 (.ref it) (.ref D) (compEnvC scope (cellsFrom (s3.heap.objs.size + 1) scope.names (cloFrom X.env.cells scope.names [])) s3.heap.objs.size X.env))
    (compPost (model X.prog X.w) X.A X.xe none (EP X pins σ Q) (.ref D) s3.heap.objs.size) { s3 with heap := pushCells (s3.heap.push { cls := .type "dict", data := .dict #[] }) scope.names }
  generalize hce : compEnvC scope (cellsFrom (s3.heap.objs.size + 1) scope.names (cloFrom X.env.cells scope.names [])) s3.heap.objs.size X.env = ce at I4 pg pt pi1 pg1 pt1 pe ⊢
  have locals : ce.locals = s3.heap.objs.size := by
    subst hce
    rfl
  generalize hs4 : ({ s3 with heap := pushCells (s3.heap.push { cls := .type "dict", data := .dict #[] }) scope.names } : Shared) = s4 at I4 ⊢
  have st4 : tn 0 s4.heap := T.keep _ _ _ st3 fun b _ o e => by
    rw [← hs4]
    exact pushCells_keeps _ _ _ _ (Heap.get?_push_of_some _ e)
  have clearOf : ∀ {H' : Hp}, H3 = H' → ∀ b ∈ fp, H' b = none := fun e b hb => by
    rw [← e]
    exact (f3 b hb).1.1
  -- a record of the outer walk, within the block
  have outer : ∀ {σ' : L2.St} {H' : Hp} {s' : Shared}, Inv (X.blk s3 H3 scope ce fp) [] σ' H' s' → (∀ b ∈ fp, H' b = none) → ∀ b ∈ fp, FpOk (X.blk s3 H3 scope ce fp) [] H' b := fun I' clear b hb =>
    ⟨clear b hb, (I'.ok.exf b hb).1, I'.ok.exfs b hb, .inl hb, fun x c e => (I'.ok.exf b hb).2 x c e, fun p hp => by simp at hp⟩
  -- what the outer loop keeps
  let Keep : Nat → Shared → Prop := fun n s' => ∃ i H', Inv (X.blk s3 H3 scope ce fp) [] (wipe σ (own.map (·.2))) H' s' ∧ tn i s'.heap ∧ (∀ b ∈ fp, H' b = none) ∧ W i n H'
  have loop : codeAny (model X.prog X.w) X.A (.compLoop (sc2 elt tg iter tg1 iter1 ifs ifs1 scope pos) 0 (.ref it) (.ref D) ce) (compPost (model X.prog X.w) X.A X.xe none (EP X pins σ Q) (.ref D) s3.heap.objs.size) s4 := by
    refine loop_outer (fold1 ce) Keep ?_ m0 ⟨0, H3, I4, st4, clearOf rfl, w0⟩
    rintro n s5 ⟨i, H5, I5, st5, n5, w5⟩
    rcases turn i n H5 w5 with ⟨stop, done⟩ | ⟨go, Nx, hNx, one⟩
    · refine thnF (T.done (X.blk s3 H3 scope ce fp) rfl rfl rfl hc i [] s5 _ H5 (fun _ _ => False) I5 (outer I5 n5) st5 stop) fun r s6 ⟨hr, I6⟩ => ?_
      subst hr
      have I7 : Inv X pins σ H5 s6 := I3.call' (ch := fp) I6.os I6.base I6.hok I6.bare fun b hb => by
        obtain ⟨⟨z1, z2, z3, z4, z5, z6⟩, _⟩ := f3 b hb
        exact ⟨z4, z2, z5, z6⟩
      have free5 : H5 s3.heap.objs.size = none := by
        have z : H5 ce.locals = none := I6.free
        rw [locals] at z
        exact z
      obtain ⟨m, hn, _⟩ := I6.loc
      have hn : s6.heap.Ns ce.locals m := hn
      rw [locals] at hn
      obtain ⟨y0, y1, y2, y3, y4, y5⟩ := I3.fpOk (Nat.le_refl _) free5
      refine ⟨m, hn, fun h'' sb => ?_⟩
      exact ⟨.ref D, H5, I7.turned (t' := s6.toks) (fun b o nb e => (sb.2 b nb).trans e) y0 y1 y3 y4 y5, rfl, done⟩
    · refine thnF (T.item (X.blk s3 H3 scope ce fp) rfl rfl rfl hc i [] s5 _ H5 (fun _ _ => False) I5 (outer I5 n5) st5 go) fun r s6 ⟨u, hr, h6⟩ => ?_
      subst hr
      refine thnF h6 fun _ s7 ⟨x, H7, I7, r7, y7, st7, n7⟩ => ?_
      refine thnF (pg.run _ s7 _ H7 x u _ (I7.pinned (outer I7 n7) (T.obj _ _ st7)) r7 (one x H7 y7)) fun _ s8 ⟨σ8, H8, I8, hw8, q8⟩ => ?_
      refine thnF (pt.run _ s8 σ8 H8 _ I8 q8) fun b s9 ⟨H9, I9, q9⟩ => ?_
      have len8 : (wipe σ (own.map (·.2))).length = σ8.length := by rw [← hw8, wipe_length]
      have know8 : ∀ (j : Nat) v, (wipe σ (own.map (·.2)))[j]? = some (some v) → σ8[j]? = some (some v) ∧ j ∉ own.map (·.2) := fun j v e => by
        rw [← hw8] at e
        exact wipe_some e
      -- the turn's end, from any slots that know what the block knew
      have fin : ∀ {σ9 : L2.St} {s' : Shared} {H' : Hp}, Inv (X.blk s3 H3 scope ce fp) ([] ++ pinsAt fp s7.heap) σ9 H' s' → (wipe σ (own.map (·.2))).length = σ9.length →
          (∀ (j : Nat) v, (wipe σ (own.map (·.2)))[j]? = some (some v) → σ9[j]? = some (some v)) → Nx H' → ∃ m, m < n ∧ Keep m s' := fun {σ9 s' H'} I' hl hk nx => by
        obtain ⟨m', lt, w'⟩ := hNx H' nx
        have pinned : ∀ b ∈ fp, ∀ o, s7.heap.get? b = some o → s'.heap.get? b = some o ∧ H' b = none := fun b hb o e => by
          have z := I'.pin (b, o) (List.mem_append_right _ (List.mem_append_right _ (mem_pinsAt hb e)))
          exact ⟨z.1, z.2.1⟩
        refine ⟨m', lt, i + 1, H', (I'.unpinned (pins := [])).weak hl hk, T.keep _ _ _ st7 fun b hb o e => (pinned b hb o e).1, fun b hb => ?_, w'⟩
        obtain ⟨o, e, _⟩ := T.obj _ _ st7 b hb
        exact (pinned b hb o e).2
      cases b with
      | false =>
        simp only [Bool.false_eq_true, if_false] at q9 ⊢
        exact fin I9 len8 (fun j v e => (know8 j v e).1) q9
      | true =>
        simp only [if_true] at q9 ⊢
        refine thnF (pi1.run _ s9 σ8 H9 _ I9 q9) fun xv s10 hx => thnF hx fun itv s11 h11 => ?_
        obtain ⟨it1, fp1, tn1, J1, H11, e1, I11, T1, st11, f11, W1, ⟨m1, w1⟩, turn1⟩ := h11
        subst e1
        have inner : ∀ {H' : Hp}, (∀ b ∈ fp1, H' b = none) → ∀ b ∈ fp1, FpOk (X.blk s3 H3 scope ce fp) ([] ++ pinsAt fp s7.heap) H' b := fun clear b hb => ⟨clear b hb, (f11 b hb).2⟩
        let Keep1 : Nat → Shared → Prop := fun k s' => ∃ j H', Inv (X.blk s3 H3 scope ce fp) ([] ++ pinsAt fp s7.heap) (wipe σ8 vs1) H' s' ∧ tn1 j s'.heap ∧ (∀ b ∈ fp1, H' b = none) ∧ W1 j k H'
        have loop1 : codeAny (model X.prog X.w) X.A (.compLoop (sc2 elt tg iter tg1 iter1 ifs ifs1 scope pos) 1 (.ref it1) (.ref D) ce) (fun r s' => (∃ fl, r = .ok fl) ∧ ∃ m, m < n ∧ Keep m s') s11 := by
          refine loop_inner Keep1 ?_ m1 ⟨0, H11, I11.weak (wipe_length _ _) (fun j v e => (wipe_some e).1), st11, fun b hb => (f11 b hb).1, w1⟩
          rintro k s12 ⟨j, H12, I12, st12, n12, w12⟩
          rcases turn1 j k H12 w12 with ⟨stop1, nx1⟩ | ⟨go1, Nx1, hNx1, one1⟩
          · refine thnF (T1.done (X.blk s3 H3 scope ce fp) rfl rfl rfl hc j _ s12 (wipe σ8 vs1) H12 (fun _ _ => False) I12 (inner n12) st12 stop1) fun r s13 ⟨hr, I13⟩ => ?_
            subst hr
            refine ⟨⟨_, rfl⟩, fin I13 (len8.trans (wipe_length σ8 vs1).symm) (fun j v e => ?_) nx1⟩
            obtain ⟨z1, z2⟩ := know8 j v e
            rw [wipe_out fun z => z2 (hv j z)]
            exact z1
          · refine thnF (T1.item (X.blk s3 H3 scope ce fp) rfl rfl rfl hc j _ s12 (wipe σ8 vs1) H12 (fun _ _ => False) I12 (inner n12) st12 go1) fun r s13 ⟨u1, hr, h13⟩ => ?_
            subst hr
            refine thnF h13 fun _ s14 ⟨x1, H14, I14, r14, y14, st14, n14⟩ => ?_
            refine thnF (pg1.run _ s14 (wipe σ8 vs1) H14 x1 u1 _ (I14.pinned (inner n14) (T1.obj _ _ st14)) r14 (one1 x1 H14 y14)) fun _ s15 ⟨σ15, H15, I15, hw15, q15⟩ => ?_
            refine thnF (pt1.run _ s15 σ15 H15 _ I15 q15) fun b1 s16 ⟨H16, I16, q16⟩ => ?_
            have fin1 : ∀ {s' : Shared} {H' : Hp}, Inv (X.blk s3 H3 scope ce fp) (([] ++ pinsAt fp s7.heap) ++ pinsAt fp1 s14.heap) σ15 H' s' → Nx1 H' → ∃ m, m < k ∧ Keep1 m s' := fun {s' H'} I' nx => by
              obtain ⟨m', lt, w'⟩ := hNx1 H' nx
              have pinned : ∀ b ∈ fp1, ∀ o, s14.heap.get? b = some o → s'.heap.get? b = some o ∧ H' b = none := fun b hb o e => by
                have z := I'.pin (b, o) (List.mem_append_right _ (List.mem_append_right _ (mem_pinsAt hb e)))
                exact ⟨z.1, z.2.1⟩
              refine ⟨m', lt, j + 1, H', I'.unpinned.weak (by rw [← hw15, wipe_length]) (fun j v e => by rw [← hw15] at e; exact (wipe_some e).1), T1.keep _ _ _ st14 fun b hb o e => (pinned b hb o e).1, fun b hb => ?_, w'⟩
              obtain ⟨o, e, _⟩ := T1.obj _ _ st14 b hb
              exact (pinned b hb o e).2
            cases b1 with
            | false =>
              simp only [Bool.false_eq_true, if_false] at q16 ⊢
              exact fin1 I16 q16
            | true =>
              simp only [if_true] at q16 ⊢
              refine thnF (pe.run _ s16 σ15 H16 _ I16 q16) fun z s17 ⟨yv, H17, I17, r17, ad⟩ => ?_
              exact thnF (add_in (X := X.blk s3 H3 scope ce fp) (Q := fun _ s' => ∃ m, m < k ∧ Keep1 m s') I17 r17 ad fun H' s18 I18 nx => fin1 I18 nx) fun _ _ z => z
        exact start_inner loop1 (T1.self X.A 0 _ _ _ st11 loop1)
  exact PpSet.codeAny_compStart_set loop (T.self X.A 0 _ _ _ st4 loop)
end
end EV
end L2

set_option Elab.async false
set_option linter.all false
set_option maxRecDepth 100000
set_option maxHeartbeats 4000000
/-! enumerate over a tuple. -/
namespace PySem
open Sem (wp)
open AutoSeq1 (wpAny_loadPart')
theorem meets_enumerate_newT (l : Addr) (items : Array Value) (n : Nat) (dct : Option Addr) (sl : Array (Option Value)) :
    Meets (Builtin.«enumerate.__new__» ⟨[.type "enumerate", .ref l], []⟩) (fun _ R s => s.heap.get? l = some { cls := .type "tuple", dict := dct, data := .seq items n, slots := sl } ∧
      R (.ok (.ret (.ref (s.heap.push { cls := .type "tuple_iterator", data := .fields #[.ref l, .int 0 0] }).objs.size)))
        { s with heap := (s.heap.push { cls := .type "tuple_iterator", data := .fields #[.ref l, .int 0 0] }).push { cls := .type "enumerate", data := .fields #[.none, .bool false, .ref s.heap.objs.size, rawInt 0, .none, .none] } }) :=
  .of_wp fun prog w A R s h => by
    obtain ⟨hp, g, d, tk, os⟩ := s; obtain ⟨hl, h⟩ := h
    have hsub := sub_enumerate
    have hL : Heap.IsTuple (Shared.heap ⟨hp, g, d, tk, os⟩) l items := ⟨_, hl, rfl, n, rfl⟩
    wp_walk using wpAny_loadPart' hl
    refine wpAny_stack_any fun st => wpAny_pure ?_
    split
    · rename_i c _ _ _ _ _
      cases (c == Value.type "enumerate")
      · wp_walk using wpAny_loadPart' hl, wpAny_pyIter_tuple hL
        exact ⟨_, rfl, h⟩
      · wp_walk using wpAny_loadPart' hl, wpAny_pyIter_tuple hL
        exact ⟨_, rfl, h⟩
    · wp_walk using wpAny_loadPart' hl, wpAny_pyIter_tuple hL
      exact ⟨_, rfl, h⟩
section
variable {prog : Program} {w : World} {A : Around} {E : Value → Shared → Prop} {s : Shared}
theorem call_enumerate_tuple {l : Addr} {items : Array Value} {Q : Value → Shared → Prop} (hL : s.heap.IsTuple l items)
    (h : ∀ h', IsEnum h' (s.heap.objs.size + 1) s.heap.objs.size 0 .none → h'.IsTupleIter s.heap.objs.size l 0 → h'.objs.size = s.heap.objs.size + 2 →
      (∀ b o, s.heap.get? b = some o → h'.get? b = some o) → Q (.ref (s.heap.objs.size + 1)) { s with heap := h' }) :
    wpAny (model prog w) A (call (.type "enumerate") [.ref l]) Q E s := by
  obtain ⟨⟨c, dct, dt, sl⟩, hl, hc, n, hd⟩ := hL
  replace hc : c = .type "tuple" := hc
  replace hd : dt = .seq items n := hd
  subst hc hd
  refine callType_new F.called_enumerate (by decide) (F.typeCall_enumerate_1 _) (F.newCall_enumerate_1 _) (fun obj => F.args_object_init_2 obj _) F.entry_enumerate_new
    (meets_enumerate_newT l items n dct sl) ⟨hl, ?_⟩
  have hz : (s.heap.push { cls := .type "tuple_iterator", data := .fields #[.ref l, .int 0 0] }).objs.size = s.heap.objs.size + 1 := Heap.size_push ..
  show _ ∧ _
  rw [hz]
  have he : IsEnum ((s.heap.push { cls := .type "tuple_iterator", data := .fields #[.ref l, .int 0 0] }).push
      { cls := .type "enumerate", data := .fields #[.none, .bool false, .ref s.heap.objs.size, rawInt 0, .none, .none] }) (s.heap.objs.size + 1) s.heap.objs.size 0 .none := by
    have := Heap.get?_push_size (s.heap.push { cls := .type "tuple_iterator", data := .fields #[.ref l, .int 0 0] })
      (o := { cls := .type "enumerate", data := .fields #[.none, .bool false, .ref s.heap.objs.size, rawInt 0, .none, .none] }) rfl
    rw [hz] at this; exact this
  refine ⟨⟨_, he, rfl⟩, h _ he ⟨_, Heap.get?_push_of_some _ (Heap.get?_push_size _ rfl), rfl, rfl⟩ (by rw [Heap.size_push, hz]) fun b o x => Heap.get?_push_of_some _ (Heap.get?_push_of_some _ x)⟩
end
end PySem
namespace L2
open PySem PySem.Spec PyProof.Rows
def IteT (K : PySem.W.Frag) (a : Addr) : It :=
  ⟨fun i H => ∃ (xs : List V) (x : V), SqT K H a xs ∧ xs[i]? = some x, fun i H v H' => ∃ T x, v = .ref T ∧ H T = none ∧ H' = upd H T (.tup [.int (i : Nat), x]) ∧ ∀ xs, SqT K H a xs → xs[i]? = some x, fun i H => ∃ xs : List V, SqT K H a xs ∧ xs.length = i⟩
theorem turn_enumT {P : Program} {w : World} {K : PySem.W.Frag} {elts : List Expr} {kk : Nat} {tpos : Pos} (a e it : Addr) (hai : a ≠ it) (hae : a ≠ e) :
    Turn P w K (.Tuple elts kk tpos) (IteT K a) [e, it] e (fun i h => (∃ old, IsEnum h e it ((i : Nat) : Int) old) ∧ h.IsTupleIter it a i ∧ e ≠ it) where
  mem := by simp
  obj := fun i h st b hb => by
    obtain ⟨⟨old, he⟩, ⟨o, ho, hc, hd⟩, _⟩ := st
    have e' : b = e ∨ b = it := by simpa using hb
    rcases e' with z | z
    · rw [z]; exact ⟨_, he, fun v q => nomatch q⟩
    · rw [z]; exact ⟨o, ho, fun v q => by rw [hd] at q; cases q⟩
  keep := fun i h h' st k => let ⟨⟨old, he⟩, hi, hne⟩ := st; ⟨⟨old, k e (by simp) _ he⟩, hi.at fun o q => k it (by simp) o q, hne⟩
  item := by
    intro X hP hw hK hc i pins s σ H E I hf st hg
    subst hP hw hK
    obtain ⟨⟨old, he⟩, hit, hne⟩ := st
    obtain ⟨xs, x, hq, hx⟩ := hg
    obtain ⟨its, rv, p, hz⟩ := I.tuple hq
    obtain ⟨u, hu, ru⟩ := rv.get hx
    have hel : e < s.heap.objs.size := Heap.lt_size he
    have hil : it < s.heap.objs.size := by obtain ⟨_, q, _⟩ := hit; exact Heap.lt_size q
    have hlt : i < its.toArray.size := by
      have := (List.getElem?_eq_some_iff.mp hu).1
      simpa using this
    refine wpAny_pyNext_enum_itemD (Draws.tuple (A := X.A.in1) (show X.A.in1.handled = none from I.ok.hd hc) it a hai its.toArray) he ⟨hit, show s.heap.IsTuple a its.toArray from p⟩ hlt hne (by simp [hne, Ne.symm hae]) fun u' h' tk hu' ho st' hT hsz hk => ?_
    have e0 : u' = u := by
      have q1 : its[i]? = some u' := by simpa using hu'
      rw [hu] at q1
      exact (Option.some.inj q1).symm
    subst e0
    obtain ⟨hit', _⟩ := st'
    refine ⟨_, rfl, wpAny_letOwnedTupleGo_enum (s := { s with heap := h', toks := tk + 1 }) ho fun h'' he' sb => ?_⟩
    have hT2 : h''.get? s.heap.objs.size = some { cls := .type "tuple", data := .seq #[.int i tk, u'] } := (sb.2 _ (Nat.ne_of_gt hel)).trans hT
    have new : ObjOk X.prog X.w (upd H s.heap.objs.size (.tup [.int (i : Nat), x])) h'' s.heap.objs.size (.tup [.int (i : Nat), x]) :=
      ⟨by show 2 ≤ sizeLine; decide, [.int i tk, u'], .cons ⟨_, rfl⟩ (.cons ru .nil), ⟨_, hT2, rfl, _, rfl⟩⟩
    have I1 : Inv X pins σ (upd H s.heap.objs.size (.tup [.int (i : Nat), x])) { s with heap := h'', toks := tk + 1 } :=
      I.turnedNew (ch := [e, it]) (fun b ob hb q => (sb.2 b (fun z => hb (by simp [z]))).trans (hk b ob (fun z => hb (by simp [z])) (fun z => hb (by simp [z])) q)) hf (Nat.le_refl _) new
    refine ⟨.ref s.heap.objs.size, _, I1, rfl, ⟨_, x, rfl, I.hok.fresh (Nat.le_refl _), rfl, fun ys hy => by rw [I.tuple_inj hy hq]; exact hx⟩, ⟨⟨u', ?_⟩, hit'.at fun o q => (sb.2 it (Ne.symm hne)).trans q, hne⟩, fun b hb => ?_⟩
    · have e1 : ((i + 1 : Nat) : Int) = (i : Int) + 1 := by omega
      rw [e1]; exact he'
    · have hb' : b < s.heap.objs.size := by
        have e' : b = e ∨ b = it := by simpa using hb
        rcases e' with z | z
        · rw [z]; exact hel
        · rw [z]; exact hil
      rw [upd_ne (Nat.ne_of_lt hb')]
      exact (hf b hb).1
  done := by
    intro X hP hw hK hc i pins s σ H E I hf st hg
    subst hP hw hK
    obtain ⟨⟨old, he⟩, hit, hne⟩ := st
    obtain ⟨xs, hq, hx⟩ := hg
    obtain ⟨its, rv, p, hz⟩ := I.tuple hq
    obtain ⟨f0, f1, f2, f3, f4, f5⟩ := hf it (by simp)
    have hl := rv.length
    have hn : its.toArray.size = i := by simp; omega
    exact wpAny_pyNext_enum_endD (Draws.tuple (A := X.A.in1) (show X.A.in1.handled = none from I.ok.hd hc) it a hai its.toArray) he ⟨hn.symm ▸ hit, show s.heap.IsTuple a its.toArray from p⟩ fun h' eb => ⟨rfl, I.turned (t' := s.toks) (fun b o hb q => eb b o hb q) f0 f1 f3 f4 f5⟩
  self := fun A i s Q E st h => let ⟨⟨_, he⟩, _⟩ := st; wpAny_pyIter_enum he h
def iEnumT (K : PySem.W.Frag) (ta : TA) : TI := fun σ H R => ta σ H fun vs H1 => ∃ a xs, vs = [.ref a] ∧ SqT K H1 a xs ∧ R (IteT K a) H1
theorem pi_enumT {X : Cx} {e : Expr} {ta : TA} {p pos tpos : Pos} {elts : List Expr} {kk : Nat} (hg : Gl X "enumerate") (hm : X.mg "enumerate" = none) (ha : PA X [e] ta) (hs : starEach [e] X.env = [(false, eval e X.env)] := by rfl) :
    PI X (.Tuple elts kk tpos) (.Call (.Name "enumerate" p) [e] [] pos) (iEnumT X.K ta) := by
  refine ⟨fun pins s σ H R I h => ?_⟩
  refine Call_ (ld_blt I hg hm boot_enumerate (PyProof.Rows.callWith_type1 (thn (ha.run pos pins s σ H _ I h) fun us s1 ⟨vs, H1, I1, r1, q1⟩ => ?_) hs rfl))
  obtain ⟨a, xs, ex, hq, q⟩ := q1
  subst ex
  cases r1 with
  | cons r rr =>
    cases rr
    cases r
    obtain ⟨its, rv, p', hz⟩ := I1.tuple hq
    have hal : a < s1.heap.objs.size := by
      obtain ⟨o, q, _⟩ := id p'
      exact Heap.lt_size q
    refine call_enumerate_tuple (show s1.heap.IsTuple a its.toArray from p') fun h' he hit hsz hk => wpAny_pyIter_enum he ?_
    have I2 : Inv X pins σ H1 { s1 with heap := h' } := I1.kept (t' := s1.toks) hk
    refine ⟨s1.heap.objs.size + 1, [s1.heap.objs.size + 1, s1.heap.objs.size], _, _, H1, rfl, I2, turn_enumT a (s1.heap.objs.size + 1) s1.heap.objs.size (Nat.ne_of_lt hal) (Nat.ne_of_lt (Nat.lt_succ_of_lt hal)), ⟨⟨.none, he⟩, hit, Nat.succ_ne_self _⟩, fun b hb => ?_, q⟩
    have e' : b = s1.heap.objs.size + 1 ∨ b = s1.heap.objs.size := by simpa using hb
    have hle : s1.heap.objs.size ≤ b := by
      rcases e' with z | z
      · rw [z]; exact Nat.le_add_right _ _
      · rw [z]; exact Nat.le_refl _
    exact I1.fpOk hle (I1.hok.fresh hle)
theorem walk_enumT {K : PySem.W.Frag} {a : Addr} {xs : List V} : Walk (IteT K a) xs.length (fun H => SqT K H a xs) (YPair (fun i => some (.int (i : Nat))) (fun i => xs[i]?)) := by
  refine ⟨fun i _ hi q => ⟨xs, xs[i], q, by simp [hi]⟩, fun _ q => ⟨xs, q, rfl⟩, fun i H v H' _ q y => ?_⟩
  obtain ⟨T, x, h1, h2, h3, h4⟩ := y
  exact ⟨T, .int (i : Nat), x, h1, h2, h3, rfl, h4 xs q⟩
end L2

set_option Elab.async false
set_option linter.all false
set_option maxRecDepth 100000
set_option maxHeartbeats 4000000
/-! Framings; listed_standings. -/
namespace K10
open PySem L2 L2.EV
abbrev sListed : Stmt := top 14
/-- a framing at f -/
def FrA (H : Hp) (f : Addr) (fr : List T3) : Prop := ∃ ts : List Addr, H f = some (.tup (ts.map V.ref)) ∧ ts.length = fr.length ∧ ∀ (i : Nat) t x, ts[i]? = some t → fr[i]? = some x → S3 H t x
theorem FrA.same {H H' : Hp} {f : Addr} {fr : List T3} (h : FrA H f fr) (s : Same H H') : FrA H' f fr := by
  obtain ⟨ts, e, l, c⟩ := h
  exact ⟨ts, s _ _ e, l, fun i t x h1 h2 => s _ _ (c i t x h1 h2)⟩
structure Frm (fr : List T3) (last : Nat) : Prop where
  l0 : 1 ≤ fr.length
  l1 : fr.length ≤ 16
  stp : ∀ x ∈ fr, Stp x
  srt : fr.Pairwise (fun x y => lt3 x y = true)
  up : ∀ k : Nat, 1 ≤ k → k ≤ last → ∃ x ∈ fr, x.2.2 = (k : Int) ∧ 0 ≤ x.1 ∧ x.1 < k
  dn : ∀ k : Nat, k ≤ last → ∃ x ∈ fr, x.1 = (k : Int) ∧ (x.2.2 = 0 ∨ ((k : Int) < x.2.2 ∧ x.2.2 ≤ last))
  lo : ∀ x ∈ fr, x.1 ≤ last ∧ x.2.2 ≤ last
  l5 : last ≤ 5
/-- what is closed under the steps, from b on, holds all standings -/
theorem Frm.all {fr : List T3} {last : Nat} (F : Frm fr last) {S : Int → Prop} {b : Nat} (hb : b ≤ last) (c0 : ∀ x ∈ fr, x.1 = (b : Int) → S x.2.2) (c : ∀ x ∈ fr, S x.1 → S x.2.2) : ∀ k : Nat, k ≤ last → S k := by
  have go : ∀ n k : Nat, last - k ≤ n → k ≤ last → (k = b ∨ S (k : Int)) → S 0 := by
    intro n
    induction n with
    | zero =>
      intro k h hk z
      obtain ⟨x, hx, e1, e2⟩ := F.dn k hk
      have e3 : S x.2.2 := by
        rcases z with z | z
        · subst z
          exact c0 x hx e1
        · exact c x hx (by rw [e1]; exact z)
      rcases e2 with e2 | ⟨e2, e4⟩
      · rw [← e2]
        exact e3
      · omega
    | succ n ih =>
      intro k h hk z
      obtain ⟨x, hx, e1, e2⟩ := F.dn k hk
      have e3 : S x.2.2 := by
        rcases z with z | z
        · subst z
          exact c0 x hx e1
        · exact c x hx (by rw [e1]; exact z)
      rcases e2 with e2 | ⟨e2, e4⟩
      · rw [← e2]
        exact e3
      · obtain ⟨j, hj⟩ := Int.eq_ofNat_of_zero_le (show 0 ≤ x.2.2 by omega)
        rw [hj] at e2 e3 e4
        exact ih j (by omega) (by omega) (.inr e3)
  have s0 : S 0 := go (last - b) b (Nat.le_refl _) hb (.inl rfl)
  have al : ∀ n k : Nat, k ≤ n → k ≤ last → S (k : Int) := by
    intro n
    induction n with
    | zero =>
      intro k h _
      obtain rfl : k = 0 := by omega
      exact s0
    | succ n ih =>
      intro k h hk
      by_cases z : k = 0
      · subst z
        exact s0
      · obtain ⟨x, hx, e1, e2, e3⟩ := F.up k (by omega) hk
        rw [← e1]
        obtain ⟨j, hj⟩ := Int.eq_ofNat_of_zero_le e2
        exact c x hx (by
          rw [hj]
          exact ih j (by omega) (by omega))
  exact fun k hk => al k k (Nat.le_refl _) hk
theorem sc_it {J : It} {n : Nat} {G : Hp → Prop} {Y : Nat → Hp → V → Hp → Prop} (w : Walk J n G Y) {H0 : Hp} {Qd : Hp → Prop} {body : V → Hp → (Hp → Prop) → Prop} (Pv : Nat → Hp → Prop) (h0 : Pv 0 H0) (hG : ∀ i H, i ≤ n → Pv i H → G H)
    (hs : ∀ i x H H', i < n → Pv i H → Y i H x H' → body x H' (Pv (i + 1))) (hd : ∀ H, Pv n H → Qd H) :
    ∃ W : Nat → Nat → Hp → Prop, (∃ m, W 0 m H0) ∧ ∀ i m H, W i m H → (J.stop i H ∧ Qd H) ∨ (J.go i H ∧ ∃ Nx : Hp → Prop, (∀ H', Nx H' → ∃ m', m' < m ∧ W (i + 1) m' H') ∧ ∀ x H', J.yld i H x H' → body x H' Nx) := by
  refine ⟨fun i m H => m = n - i ∧ i ≤ n ∧ Pv i H, ⟨n, by simp, Nat.zero_le _, h0⟩, ?_⟩
  rintro i m H ⟨rfl, hi, p⟩
  have q := hG i H hi p
  by_cases hlt : i < n
  · exact .inr ⟨w.goes i H hlt q, Pv (i + 1), fun H' p' => ⟨n - (i + 1), by omega, rfl, hlt, p'⟩, fun x H' y => hs i x H H' hlt p (w.yields i H x H' hlt q y)⟩
  · have e : i = n := by omega
    subst e
    exact .inl ⟨w.stops H q, hd H p⟩
theorem at_step {H : Hp} {ts : List Addr} {fr : List T3} {i : Nat} {x : V} (hl : ts.length = fr.length) (ht : ∀ (i : Nat) t x, ts[i]? = some t → fr[i]? = some x → S3 H t x) (hx : (ts.map V.ref)[i]? = some x) :
    ∃ t y, fr[i]? = some y ∧ x = .ref t ∧ S3 H t y := by
  rw [List.getElem?_map] at hx
  cases e : ts[i]? with
  | none =>
    rw [e] at hx
    cases hx
  | some t =>
    rw [e] at hx
    have il : i < fr.length := by
      have := (List.getElem?_eq_some_iff.mp e).1
      omega
    exact ⟨t, fr[i], List.getElem?_eq_getElem il, (Option.some.inj hx).symm, ht i t _ e (List.getElem?_eq_getElem il)⟩
/-- listed_standings(framing): a new list of numbers up to last -/
def spListed : Sp := fun vs H Q _ => ∃ (f : Addr) (fr : List T3) (last : Nat), vs = [.ref f] ∧ FrA H f fr ∧ Frm fr last ∧
  ∀ (H' : Hp) (p : Addr) (ns : List Int), Same H H' → H p = none → H' p = some (.lst (ns.map V.int)) → ns.length ≤ 32 → (∀ k ∈ ns, 0 ≤ k ∧ k ≤ last) → Q (.ref p) H'
theorem pe_sc2s {X : Cx} {elt tg iter tg1 iter1 : Expr} {ifs ifs1 : List Expr} {scope : Scope} {own : List (Str × Nat)} {vs1 : List Nat} {pos : Pos} {wi wi1 : TI} {g g1 : TG} {tt tt1 : TT} {te : TE} (hc : X.calm = true) (hN : X.N.Nodup) (hi : PI X tg iter wi) (ok : BlkOk X.N X.env.scope scope own) (hv : ∀ i ∈ vs1, i ∈ own.map (·.2))
    (b1 : ∀ (s : Shared) (H : Hp) (C : Addr) (cl : List (Str × Addr)) (fp : List Addr), PG (X.blk s H scope (compEnvC scope cl C X.env) fp) tg g)
    (b2 : ∀ (s : Shared) (H : Hp) (C : Addr) (cl : List (Str × Addr)) (fp : List Addr), PTs (X.blk s H scope (compEnvC scope cl C X.env) fp) ifs tt)
    (b3 : ∀ (s : Shared) (H : Hp) (C : Addr) (cl : List (Str × Addr)) (fp : List Addr), PI (X.blk s H scope (compEnvC scope cl C X.env) fp) tg1 iter1 wi1)
    (b4 : ∀ (s : Shared) (H : Hp) (C : Addr) (cl : List (Str × Addr)) (fp : List Addr), PG (X.blk s H scope (compEnvC scope cl C X.env) fp) tg1 g1)
    (b5 : ∀ (s : Shared) (H : Hp) (C : Addr) (cl : List (Str × Addr)) (fp : List Addr), PTs (X.blk s H scope (compEnvC scope cl C X.env) fp) ifs1 tt1)
    (b6 : ∀ (s : Shared) (H : Hp) (C : Addr) (cl : List (Str × Addr)) (fp : List Addr), PE (X.blk s H scope (compEnvC scope cl C X.env) fp) elt te)
    (fold : ∀ x, foldedSetIterable iter X.env x = pure x := by intro _; rfl) (fold1 : ∀ env x, foldedSetIterable iter1 env x = pure x := by intro _ _; rfl) :
    PE X (.SetComp elt [⟨tg, iter, ifs, 0⟩, ⟨tg1, iter1, ifs1, 0⟩] scope pos) (tSc2 X.w wi g tt wi1 g1 tt1 te (own.map (·.2)) vs1) :=
  pe_sc2 hc hN hi ok hv (fun s H C cl fp => ⟨b1 s H C cl fp, b2 s H C cl fp, b3 s H C cl fp, b4 s H C cl fp, b5 s H C cl fp, b6 s H C cl fp⟩) fold fold1
theorem same_set {D : Addr} {H H' : Hp} {o : HO} (hD : H D = none) (k : Same H H') : Same H (upd H' D o) := fun b u e => by
  rw [upd_ne (ne_of_none e hD)]
  exact k _ _ e
theorem scan64 : 64 < scanBound := by decide +kernel
section
variable {P : Program} {w : World} {K : PySem.W.Frag} {mg : Str → Option Value} {base : Heap}
theorem scListed : FnScope ["framing", "start", "piece", "goal", "standing"] ["framing"] (defScope sListed) := ⟨rfl, rfl, rfl, by decide +kernel, rfl, by decide +kernel, by decide +kernel⟩
theorem ok_listed {f : Addr} {fd : FuncData} (F : Fun K "listed_standings" "listed_standings" sListed f fd) (hs : mg "sorted" = none) : FnOk P w K mg base CX0 1 f fd ["framing"] spListed := by
  refine F.ok scListed (fun vs H Q E h => ?_) (fun cdv A outer s H vs Q E hr h => ?_)
  · obtain ⟨f, fr, last, rfl, _⟩ := h
    rfl
  · obtain ⟨f, fr, last, rfl, fa, fm, q⟩ := h
    refine ⟨_, pss_one (ps_ret (pe_callB (cr_sortedSet rfl) (by rfl) hs (by decide +kernel) (pa_cons (pe_sc2s (g := gTup K 3 (gCons (gName 1) (gCons (gName 2) (gCons (gName 3) gNil)))) (tt := tYes) (wi1 := iTup K (tTup (tCons (tVar 1) (tCons (tVar 3) tNil)))) (g1 := gName 4) (tt1 := tYes) (te := tVar 4) (own := [("start", 1), ("piece", 2), ("goal", 3), ("standing", 4)]) (vs1 := [4]) rfl scListed.nd (pi_tup (pv 0))
      (blkOk_by (N := ["framing", "start", "piece", "goal", "standing"]) (sc := defScope sListed) (by decide +kernel)) (by decide)
      (fun _ _ _ _ _ => pg_tup rfl (pgs_cons (pg_name (i := 1) scListed.nd rfl (Or.inl rfl)) (pgs_cons (pg_name (i := 2) scListed.nd rfl (Or.inl rfl)) (pgs_cons (pg_name (i := 3) scListed.nd rfl (Or.inl rfl)) pgs_nil)))) (fun _ _ _ _ _ => pts_nil)
      (fun _ _ _ _ _ => pi_tup (pe_tup (pa_cons (pv 1) (pa_cons (pv 3) pa_nil)))) (fun _ _ _ _ _ => pg_name (i := 4) scListed.nd rfl (Or.inl rfl)) (fun _ _ _ _ _ => pts_nil) (fun _ _ _ _ _ => pv 4)) pa_nil))), ?_⟩
    obtain ⟨ts, hf, hl, ht⟩ := id fa
    refine ⟨_, rfl, f, rfl, ⟨_, SqT.of hf⟩, fun D hD => ?_⟩
    refine sc_it (walk_tup (xs := ts.map V.ref)) (fun i H' => Same H H' ∧ ∃ (S : Int → Bool) (n : Nat), H' D = some (SetO w D S n) ∧ n ≤ 2 * i ∧ ∀ k, S k = true → 0 ≤ k ∧ k ≤ last)
      ⟨same_upd hD, _, _, upd_same, Nat.le_refl _, fun k z => by cases z⟩ (fun i H' _ z => SqT.of (z.1 _ _ hf)) ?_ ?_
    · rintro i x H1 H2 hi ⟨sm, S, n, hS, hn, hk⟩ ⟨rfl, hx⟩
      obtain ⟨t, y, hy, rfl, e3⟩ := at_step (i := i) hl ht hx
      have e4 : H2 t = _ := sm _ _ e3
      obtain ⟨b1, b2, _, b3, b4⟩ := fm.stp y (List.mem_of_getElem? hy)
      obtain ⟨b5, b6⟩ := fm.lo y (List.mem_of_getElem? hy)
      refine ⟨t, _, rfl, SqT.of e4, rfl, _, _, rfl, _, _, rfl, _, _, rfl, rfl, rfl, ?_⟩
      refine ⟨_, rfl, _, rfl, (by show 2 ≤ sizeLine; decide), fun p hp => ⟨p, rfl, ⟨_, SqT.of upd_same⟩, ?_⟩⟩
      refine sc_it (walk_tup (xs := [V.int y.1, V.int y.2.2])) (fun j H' => Same H H' ∧ H' p = some (.tup [V.int y.1, V.int y.2.2]) ∧ ∃ (S : Int → Bool) (n : Nat), H' D = some (SetO w D S n) ∧ n ≤ 2 * i + j ∧ ∀ k, S k = true → 0 ≤ k ∧ k ≤ last)
        ⟨fun b u e => same_upd hp _ _ (sm _ _ e), upd_same, S, n, by rw [upd_ne (ne_of_none hS hp)]; exact hS, hn, hk⟩ (fun j H' _ z => SqT.of z.2.1) ?_ ?_
      · rintro j x H2 H3 hj ⟨sm2, hp2, S2, n2, hS2, hn2, hk2⟩ ⟨rfl, hx2⟩
        have hj2 : j < 2 := hj
        obtain ⟨k, rfl, k0, k1⟩ : ∃ k : Int, x = .int k ∧ 0 ≤ k ∧ k ≤ last := by
          match j, hj2 with
          | 0, _ => exact ⟨y.1, (Option.some.inj hx2).symm, b1, b5⟩
          | 1, _ => exact ⟨y.2.2, (Option.some.inj hx2).symm, b3, b6⟩
        have sc := scan64
        have l1 := fm.l1
        have hi2 : i < fr.length := (List.getElem?_eq_some_iff.mp hy).1
        refine ⟨rfl, _, rfl, k, S2, n2, rfl, hS2, by omega, same_set hD sm2, ?_, _, _, upd_same, ?_, fun k2 z => ?_⟩
        · rw [upd_ne (ne_of hp2 hS2 (fun z => by cases z))]
          exact hp2
        · split <;> omega
        · rw [Bool.or_eq_true] at z
          rcases z with z | z
          · exact hk2 k2 z
          · have e5 : k2 = k := of_decide_eq_true z
            rw [e5]
            exact ⟨k0, k1⟩
      · rintro H2 ⟨sm2, hp2, S2, n2, hS2, hn2, hk2⟩
        refine ⟨sm2, S2, n2, hS2, ?_, hk2⟩
        have hn3 : n2 ≤ 2 * i + 2 := hn2
        omega
    · rintro H1 ⟨sm, S, n, hS, hn, hk⟩
      refine ⟨D, S, n, rfl, hS, ?_, fun ns p _ h2 h3 h4 => ?_⟩
      · have := fm.l1
        simp only [List.length_map] at hn
        omega
      · refine q _ p ns ?_ ?_ upd_same ?_ ?_
        · exact fun b u e => by
            rw [upd_ne (ne_of_none (sm _ _ e) h4)]
            exact sm _ _ e
        · exact sm.free h4
        · have := fm.l1
          simp only [List.length_map] at hn
          omega
        · exact fun k z => hk k ((h2 k).mp z)
end
end K10

set_option Elab.async false
set_option linter.all false
set_option maxRecDepth 100000
set_option maxHeartbeats 4000000
/-! ways_from: all standings are found. -/
namespace K10
open PySem L2 L2.EV
abbrev sWays : Stmt := top 15
abbrev has (kvs : List (Key × V)) (g : Int) : Bool := (valV kvs (Sum.inl g : Key)).isSome
/-- ways_from(framing, b): a new dict that has all standings -/
def spWays : Sp := fun vs H Q _ => ∃ (f : Addr) (fr : List T3) (last b : Nat), vs = [.ref f, .int b] ∧ FrA H f fr ∧ Frm fr last ∧ b ≤ last ∧
  ∀ (H' : Hp) (d : Addr) (kvs : List (Key × V)), Same H H' → H d = none → H' d = some (.dK kvs) → (∀ k : Nat, k ≤ last → has kvs k = true) → Q (.ref d) H'
/-- the standings up to last that are not found -/
def miss (last : Nat) (kvs : List (Key × V)) : Nat := ((List.range (last + 1)).filter fun k : Nat => !has kvs k).length
theorem miss_le {last : Nat} {kvs : List (Key × V)} : miss last kvs ≤ last + 1 := by
  have := List.length_filter_le (fun k : Nat => !has kvs k) (List.range (last + 1))
  rw [List.length_range] at this
  exact this
theorem filt_lt {α : Type} {p q : α → Bool} : ∀ {l : List α} {a : α}, a ∈ l → p a = true → q a = false → (∀ x, q x = true → p x = true) → (l.filter q).length < (l.filter p).length
  | x :: l, a, hm, hp, hq, h => by
    have le : ∀ m : List α, (m.filter q).length ≤ (m.filter p).length := fun m => by
      induction m with
      | nil => exact Nat.le_refl _
      | cons y m ih =>
        rw [List.filter_cons, List.filter_cons]
        by_cases z : q y = true
        · rw [if_pos z, if_pos (h y z), List.length_cons, List.length_cons]
          omega
        · rw [if_neg z]
          split
          · rw [List.length_cons]
            omega
          · exact ih
    rw [List.filter_cons, List.filter_cons]
    rcases List.mem_cons.mp hm with z | z
    · subst z
      rw [if_pos hp, if_neg (by rw [hq]; simp), List.length_cons]
      have := le l
      omega
    · have ih := filt_lt z hp hq h
      by_cases y : q x = true
      · rw [if_pos y, if_pos (h x y), List.length_cons, List.length_cons]
        omega
      · rw [if_neg y]
        split
        · rw [List.length_cons]
          omega
        · exact ih
theorem has_put {kvs : List (Key × V)} {g k : Int} {v : V} : has (putK kvs (Sum.inl g) v) k = (decide (k = g) || has kvs k) := by
  unfold has
  rw [valV_put]
  by_cases e : k = g
  · subst e
    rw [if_pos rfl, decide_eq_true rfl]
    rfl
  · rw [if_neg (fun z => e (Sum.inl.inj z)), decide_eq_false e, Bool.false_or]
theorem miss_put {last : Nat} {kvs : List (Key × V)} {g : Int} {v : V} (h0 : 0 ≤ g) (h1 : g ≤ last) (n : has kvs g = false) : miss last (putK kvs (Sum.inl g) v) < miss last kvs := by
  obtain ⟨a, rfl⟩ := Int.eq_ofNat_of_zero_le h0
  refine filt_lt (a := a) (List.mem_range.mpr (by omega)) (by simp only [n, Bool.not_false]) ?_ ?_
  · rw [has_put, decide_eq_true rfl]
    rfl
  · intro x hx
    rw [has_put] at hx
    cases z : has kvs x with
    | false => rfl
    | true =>
      rw [z] at hx
      simp at hx
/-- the rows: tuples of a way and a standing -/
def Rows (H : Hp) (last n : Nat) (ps : List (Addr × Int)) : Prop := ∀ q ∈ ps, 0 ≤ q.2 ∧ q.2 ≤ last ∧ ∃ (wy : Addr) (xs : List V), H q.1 = some (.tup [.ref wy, .int q.2]) ∧ H wy = some (.tup xs) ∧ xs.length ≤ n
def KeepT (H H' : Hp) : Prop := ∀ a xs, H a = some (.tup xs) → H' a = some (.tup xs)
theorem Rows.keep {H H' : Hp} {last n m : Nat} {ps : List (Addr × Int)} (h : Rows H last n ps) (k : KeepT H H') (l : n ≤ m) : Rows H' last m ps := fun q hq => by
  obtain ⟨h0, h1, wy, xs, e1, e2, e3⟩ := h q hq
  exact ⟨h0, h1, wy, xs, k _ _ e1, k _ _ e2, Nat.le_trans e3 l⟩
theorem Same.keepT {H H' : Hp} (s : Same H H') : KeepT H H' := fun a xs e => s _ _ e
theorem KeepT.trans {H H' H2 : Hp} (a : KeepT H H') (b : KeepT H' H2) : KeepT H H2 := fun x xs e => b _ _ (a _ _ e)
theorem keepT_upd {H : Hp} {d : Addr} {o : HO} {o' : HO} (e : H d = some o') (n : ∀ xs, o' ≠ .tup xs) : KeepT H (upd H d o) := fun a xs h => by
  by_cases z : a = d
  · subst z
    rw [e] at h
    exact absurd (Option.some.inj h) (n xs)
  · rw [upd_ne z]
    exact h
/-- t + u, u not empty: the result is somewhere, all else stays -/
def rCatS (K : PySem.W.Frag) : R2 := fun x y H Q => ∃ a b xs ys, x = .ref a ∧ y = .ref b ∧ SqT K H a xs ∧ H b = some (.tup ys) ∧ ys ≠ [] ∧ xs.length + ys.length ≤ sizeLine ∧ ∀ p H', Same H H' → H' p = some (.tup (xs ++ ys)) → Q (.ref p) H'
theorem op_catS {X : Cx} : OpR X (binaryOp .Add) (rCatS X.K) := by
  intro pins s σ H x y v u Q I rx ry h
  obtain ⟨a, b, xs, ys, rfl, rfl, ha, hb, hn, hz, q⟩ := h
  refine op_catA pins s σ H _ _ v u Q I rx ry ⟨a, b, xs, ys, rfl, rfl, ha, SqT.of hb, hz, fun z => ?_, fun _ z => absurd z hn, fun _ _ p hp => q p _ (same_upd hp) upd_same⟩
  subst z
  exact q b H (fun _ _ e => e) (by rw [hb]; rfl)
structure Co (H0 H : Hp) (d r u : Addr) (last m0 : Nat) (ps qs : List (Addr × Int)) (kvs : List (Key × V)) : Prop where
  sm : Same H0 H
  hd : H d = some (.dK kvs)
  hr : H r = some (.lst (ps.map fun q => V.ref q.1))
  hu : H u = some (.lst (qs.map fun q => V.ref q.1))
  rp : Rows H last kvs.length ps
  rq : Rows H last kvs.length qs
  cnt : kvs.length + miss last kvs ≤ last + 1
  me : (qs = [] ∧ miss last kvs ≤ m0) ∨ miss last kvs < m0
  ql : qs.length ≤ kvs.length
theorem Co.same {H0 H H' : Hp} {d r u : Addr} {last m0 : Nat} {ps qs : List (Addr × Int)} {kvs : List (Key × V)} (C : Co H0 H d r u last m0 ps qs kvs) (s : Same H H') : Co H0 H' d r u last m0 ps qs kvs :=
  ⟨C.sm.trans s, s _ _ C.hd, s _ _ C.hr, s _ _ C.hu, C.rp.keep (Same.keepT s) (Nat.le_refl _), C.rq.keep (Same.keepT s) (Nat.le_refl _), C.cnt, C.me, C.ql⟩
/-- what is reached from a standing that stands in the rows, or is found -/
def Clo (fr : List T3) (b : Nat) (kvs : List (Key × V)) (open_ : Int → T3 → Prop) : Prop := ∀ x ∈ fr, (x.1 = (b : Int) ∨ has kvs x.1 = true) → open_ x.1 x ∨ has kvs x.2.2 = true
section
variable {P : Program} {w : World} {K : PySem.W.Frag} {mg : Str → Option Value} {base : Heap}
theorem scWays : FnScope ["framing", "begin", "found", "rows", "further", "way", "standing", "number", "start", "piece", "goal"] ["framing", "begin"] (defScope sWays) := ⟨rfl, rfl, rfl, by decide +kernel, rfl, by decide +kernel, by decide +kernel⟩
theorem ok_ways {f : Addr} {fd : FuncData} (F : Fun K "ways_from" "ways_from" sWays f fd) (he : mg "enumerate" = none) : FnOk P w K mg base CX0 1 f fd ["framing", "begin"] spWays := by
  refine F.ok scWays (fun vs H Q E h => ?_) (fun cdv A outer s H vs Q E hr h => ?_)
  · obtain ⟨f, fr, last, b, rfl, _⟩ := h
    rfl
  · obtain ⟨f, fr, last, b, rfl, fa, fm, hb, q⟩ := h
    have hu := hu_of hr
    refine ⟨_, pss_cons (ps_set (i := 2) scWays.nd rfl (Or.inl rfl) pe_dnewK)
      (pss_cons (ps_set (i := 3) scWays.nd rfl (Or.inl rfl) (pe_lst (pa_cons (pe_tup (pa_cons (pe_tup pa_nil) (pa_cons (pv 1) pa_nil))) pa_nil)))
      (pss_cons (ps_while PassesOwn.never (pt_truth (pv 3) (fun _ => rfl))
        (pss_cons (ps_set (i := 4) scWays.nd rfl (Or.inl rfl) (pe_lst pa_nil))
        (pss_cons (ps_for PassesOwn.never rfl (pi_list (pv 3)) (pg_tup rfl (pgs_cons (pg_name (i := 5) scWays.nd rfl (Or.inl rfl)) (pgs_cons (pg_name (i := 6) scWays.nd rfl (Or.inl rfl)) pgs_nil)))
          (pss_one (ps_for PassesOwn.never rfl (pi_enumT (by rfl) he (pa_cons (pv 0) pa_nil)) (pg_tup rfl (pgs_cons (pg_name (i := 7) scWays.nd rfl (Or.inl rfl)) (pgs_cons (pg_tup rfl (pgs_cons (pg_name (i := 8) scWays.nd rfl (Or.inl rfl)) (pgs_cons (pg_name (i := 9) scWays.nd rfl (Or.inl rfl)) (pgs_cons (pg_name (i := 10) scWays.nd rfl (Or.inl rfl)) pgs_nil)))) pgs_nil)))
            (pss_one (ps_if (pw_and (pt_cmpR op_eq (pv 8) (pv 6) (nomark _)) (pw_and1 (pt_cmp (pc_dnotin hu (pv 10) (pv 2)) (by rfl)))).pt
              (pss_cons (ps_dput hu (pv 2) (pv 10) (pe_op op_catS (pv 5) (pe_tup (pa_cons (pv 7) pa_nil))) rfl)
                (pss_one (ps_expr (pe_bm PySem.F.plainAttrs_list PySem.F.slot_list_append PySem.F.type_list_append mt_append (pv 4) (pa_cons (pe_tup (pa_cons (pe_dget hu (pv 2) (pv 10) (fun _ _ => rfl)) (pa_cons (pv 10) pa_nil))) pa_nil)))))
              pss_nil)))))
        (pss_one (ps_set (i := 3) scWays.nd rfl (Or.inl rfl) (pv 4))))))
      (pss_one (ps_ret (pv 2))))), ?_⟩
    intro d hd0
    have sd := same_upd (o := HO.dK []) hd0
    refine ⟨by decide, fun e0 he0 => ⟨_, rfl, (by show 2 ≤ sizeLine; decide), fun p0 hp0 => ⟨(by show 1 ≤ sizeLine; decide), fun r hr0 => ?_⟩⟩⟩
    have s1 := same_upd (o := HO.tup []) he0
    have s2 := same_upd (o := HO.tup [V.ref e0, V.int (b : Int)]) hp0
    have s3 := same_upd (o := HO.lst [V.ref p0]) hr0
    refine ⟨fun j σ H' => ∃ (r : Addr) (kvs : List (Key × V)) (ps : List (Addr × Int)) (v4 v5 v6 v7 v8 v9 v10 : Option V), σ = [some (.ref f), some (.int b), some (.ref d), some (.ref r), v4, v5, v6, v7, v8, v9, v10] ∧
      Same H H' ∧ H' d = some (.dK kvs) ∧ H' r = some (.lst (ps.map fun q => V.ref q.1)) ∧ Rows H' last kvs.length ps ∧ kvs.length + miss last kvs ≤ last + 1 ∧ Clo fr b kvs (fun g _ => ∃ q ∈ ps, q.2 = g) ∧ j = 2 * miss last kvs + (if ps = [] then 0 else 1), ⟨_, r, [], [(p0, (b : Int))], none, none, none, none, none, none, none, rfl, ?_, ?_, ?_, ?_, ?_, ?_, rfl⟩, ?_⟩
    · exact sd.trans (s1.trans (s2.trans s3))
    · exact s3 _ _ (s2 _ _ (s1 _ _ upd_same))
    · exact upd_same
    · intro q hq
      have e : q = (p0, (b : Int)) := by simpa using hq
      subst e
      refine ⟨by show (0 : Int) ≤ (b : Int); omega, by show (b : Int) ≤ last; omega, e0, [], s3 _ _ upd_same, s3 _ _ (s2 _ _ upd_same), Nat.le_refl _⟩
    · have := miss_le (last := last) (kvs := [])
      simp only [List.length_nil]
      omega
    · intro x hx h
      rcases h with h | h
      · exact .inl ⟨_, List.mem_singleton.mpr rfl, h.symm⟩
      · cases h
    · rintro j σ H1 ⟨r, kvs, ps, v4, v5, v6, v7, v8, v9, v10, rfl, sm, hd, hr, rp, cnt, clo, rfl⟩
      refine ⟨_, rfl, _, .inl ⟨_, SqL.of hr, rfl⟩, ?_⟩
      by_cases hps : ps = []
      · subst hps
        refine iteF' rfl ?_
        refine ⟨_, rfl, q H1 d kvs sm hd0 hd fun k hk => ?_⟩
        have c2 : ∀ x ∈ fr, (x.1 = (b : Int) ∨ has kvs x.1 = true) → has kvs x.2.2 = true := fun x hx h => by
          rcases clo x hx h with ⟨_, z, _⟩ | z
          · cases z
          · exact z
        exact fm.all (S := fun g => has kvs g = true) hb (fun x hx e => c2 x hx (.inl e)) (fun x hx e => c2 x hx (.inr e)) k hk
      · refine iteT' (by cases ps; exact absurd rfl hps; rfl) ?_
        refine ⟨_, fun _ _ z => z, ?_⟩
        refine ⟨by decide, fun u hu0 => ?_⟩
        have su := same_upd (o := HO.lst []) hu0
        have hur : u ≠ r := (ne_of_none hr hu0).symm
        have hu00 : H u = none := sm.free hu0
        refine ⟨_, rfl, r, rfl, ⟨_, SqL.of (su _ _ hr)⟩, for_it (walk_list (xs := ps.map fun q => V.ref q.1)) (fun i σ H' => ∃ (kvs2 : List (Key × V)) (qs : List (Addr × Int)) (v5 v6 v7 v8 v9 v10 : Option V), σ = [some (.ref f), some (.int b), some (.ref d), some (.ref r), some (.ref u), v5, v6, v7, v8, v9, v10] ∧
          Co H H' d r u last (miss last kvs) ps qs kvs2 ∧ Clo fr b kvs2 (fun g _ => (∃ q ∈ ps.drop i, q.2 = g) ∨ ∃ q ∈ qs, q.2 = g))
          ⟨kvs, [], v5, v6, v7, v8, v9, v10, rfl, ⟨sm.trans su, su _ _ hd, su _ _ hr, upd_same, rp.keep (Same.keepT su) (Nat.le_refl _), (fun q hq => by cases hq), cnt, .inl ⟨rfl, Nat.le_refl _⟩, Nat.zero_le _⟩, fun x hx h => (clo x hx h).imp (fun z => .inl z) id⟩
          (fun i σ H' _ ⟨_, _, _, _, _, _, _, _, _, C, _⟩ => SqL.of C.hr) ?_ ?_⟩
        · rintro i v σ H2 H3 hi ⟨kvs2, qs, v5, v6, v7, v8, v9, v10, rfl, C, cl⟩ ⟨rfl, hv⟩
          obtain ⟨q1, hq1, rfl⟩ : ∃ q1, ps[i]? = some q1 ∧ v = V.ref q1.1 := by
            rw [List.getElem?_map] at hv
            cases e : ps[i]? with
            | none =>
              rw [e] at hv
              cases hv
            | some q1 =>
              rw [e] at hv
              exact ⟨q1, rfl, (Option.some.inj hv).symm⟩
          obtain ⟨g0, g1, wy, xs, e1, e2, e3⟩ := C.rp q1 (List.mem_of_getElem? hq1)
          have dq : ps.drop i = q1 :: ps.drop (i + 1) := by
            have il := (List.getElem?_eq_some_iff.mp hq1).1
            rw [List.drop_eq_getElem_cons il]
            have := (List.getElem?_eq_some_iff.mp hq1).2
            rw [this]
          obtain ⟨ts, hf, hl, ht⟩ := id fa
          refine ⟨_, _, rfl, SqT.of e1, rfl, _, _, rfl, _, _, rfl, rfl, ?_⟩
          refine ⟨_, rfl, f, _, rfl, SqT.of (C.sm _ _ hf), for_it (walk_enumT (xs := ts.map V.ref)) (fun k σ H' => ∃ (kvs3 : List (Key × V)) (qs3 : List (Addr × Int)) (v7 v8 v9 v10 : Option V), σ = [some (.ref f), some (.int b), some (.ref d), some (.ref r), some (.ref u), some (.ref wy), some (.int q1.2), v7, v8, v9, v10] ∧
            Co H H' d r u last (miss last kvs) ps qs3 kvs3 ∧ H' wy = some (.tup xs) ∧ xs.length ≤ kvs3.length ∧ Clo fr b kvs3 (fun g x => ((∃ q ∈ ps.drop (i + 1), q.2 = g) ∨ ∃ q ∈ qs3, q.2 = g) ∨ (g = q1.2 ∧ x ∈ fr.drop k)))
            ⟨kvs2, qs, v7, v8, v9, v10, rfl, C, e2, e3, fun x hx h => ?_⟩
            (fun k σ H' _ ⟨_, _, _, _, _, _, _, C', _⟩ => SqT.of (C'.sm _ _ hf)) ?_ ?_⟩
          · rcases cl x hx h with (⟨q, z, e⟩ | z) | z
            · rw [dq] at z
              rcases List.mem_cons.mp z with z | z
              · subst z
                exact .inl (.inr ⟨e.symm, by simpa using hx⟩)
              · exact .inl (.inl (.inl ⟨q, z, e⟩))
            · exact .inl (.inl (.inr z))
            · exact .inr z
          · rintro k x σ H3 H4 hk ⟨kvs3, qs3, v7, v8, v9, v10, rfl, C3, w3, wl, cl3⟩ ⟨T, xi, xo, rfl, nT, rfl, h1, h2⟩
            cases h1
            obtain ⟨t, y, hy, rfl, e4⟩ := at_step (i := k) hl ht h2
            have uT := same_upd (o := HO.tup [V.int (k : Nat), V.ref t]) nT
            have C4 := C3.same uT
            have t4 := uT _ _ (C3.sm _ _ e4)
            have w4 := uT _ _ w3
            have hym : y ∈ fr := List.mem_of_getElem? hy
            obtain ⟨b1, b2, _, b3, b4⟩ := fm.stp y hym
            obtain ⟨b5, b6⟩ := fm.lo y hym
            have dk : fr.drop k = y :: fr.drop (k + 1) := by
              have il := (List.getElem?_eq_some_iff.mp hy).1
              rw [List.drop_eq_getElem_cons il]
              have := (List.getElem?_eq_some_iff.mp hy).2
              rw [this]
            -- the step is done with
            have go : ∀ (kvs4 : List (Key × V)) (qs4 : List (Addr × Int)), (∀ g : Int, has kvs4 g = true → has kvs3 g = true ∨ ∃ q ∈ qs4, q.2 = g) → (∀ g : Int, has kvs3 g = true → has kvs4 g = true) → (∀ q ∈ qs3, q ∈ qs4) → (y.1 = q1.2 → has kvs4 y.2.2 = true) →
                Clo fr b kvs4 (fun g x => ((∃ q ∈ ps.drop (i + 1), q.2 = g) ∨ ∃ q ∈ qs4, q.2 = g) ∨ (g = q1.2 ∧ x ∈ fr.drop (k + 1))) := fun kvs4 qs4 n1 n2 n3 n4 x hx h => by
              have old : x.1 = (b : Int) ∨ has kvs3 x.1 = true → ((((∃ q ∈ ps.drop (i + 1), q.2 = x.1) ∨ ∃ q ∈ qs4, q.2 = x.1) ∨ (x.1 = q1.2 ∧ x ∈ fr.drop (k + 1))) ∨ has kvs4 x.2.2 = true) := fun h => by
                rcases cl3 x hx h with ((z | ⟨q, z, e⟩) | ⟨z1, z2⟩) | z
                · exact .inl (.inl (.inl z))
                · exact .inl (.inl (.inr ⟨q, n3 q z, e⟩))
                · rw [dk] at z2
                  rcases List.mem_cons.mp z2 with z2 | z2
                  · subst z2
                    exact .inr (n4 z1)
                  · exact .inl (.inr ⟨z1, z2⟩)
                · exact .inr (n2 _ z)
              rcases h with h | h
              · exact old (.inl h)
              · rcases n1 _ h with z | z
                · exact old (.inr z)
                · exact .inl (.inl (.inr z))
            refine ⟨T, _, rfl, SqT.of upd_same, rfl, _, _, rfl, _, _, rfl, ⟨t, _, rfl, SqT.of t4, rfl, _, _, rfl, _, _, rfl, _, _, rfl, rfl, rfl, ?_⟩⟩
            refine ⟨_, rfl, _, rfl, rfl, _, rfl, ?_⟩
            refine ite2 (fun z => ?_) (fun z => ?_)
            · have z1 : y.1 = q1.2 := V.int.inj (of_decide_eq_true z)
              refine ⟨_, rfl, _, rfl, d, _, rfl, DGet.k (k := Sum.inl y.2.2) C4.hd, _, rfl, ?_⟩
              refine ite2 (fun y1 => ?_) (fun y1 => ?_)
              · have no : has kvs3 y.2.2 = false := by
                  cases e : has kvs3 y.2.2 with
                  | false => rfl
                  | true =>
                    have e' : (valV kvs3 (Sum.inl y.2.2 : Key)).isSome = true := e
                    rw [e'] at y1
                    cases y1
                have mp := miss_put (v := V.non) b3 b6 no
                have l5 := fm.l5
                have c3 := C3.cnt
                refine ⟨_, rfl, ⟨_, rfl, (by show 1 ≤ sizeLine; decide), fun p hp => ⟨wy, p, xs, [V.int (k : Nat)], rfl, rfl, SqT.of (same_upd hp _ _ w4), upd_same, (fun z => by cases z), ?_, fun nw H5 s5 n5 => ?_⟩⟩⟩
                · rw [sizeLine_eq]
                  simp only [List.length_cons, List.length_nil]
                  omega
                have C5 := (C4.same (same_upd (o := HO.tup [V.int (k : Nat)]) hp)).same s5
                have hdu : d ≠ u := ne_of C5.hd C5.hu (fun z => by cases z)
                have hdr : d ≠ r := ne_of C5.hd C5.hr (fun z => by cases z)
                refine ⟨_, rfl, _, rfl, d, _, rfl, DPut.k (k := Sum.inl y.2.2) C5.hd (by rw [sizeLine_eq]; omega), ?_⟩
                have hn : valV kvs3 (Sum.inl y.2.2 : Key) = none := by
                  cases e : valV kvs3 (Sum.inl y.2.2 : Key) with
                  | none => rfl
                  | some v =>
                    have e' : has kvs3 y.2.2 = true := by
                      show (valV kvs3 (Sum.inl y.2.2 : Key)).isSome = true
                      rw [e]
                      rfl
                    rw [e'] at no
                    cases no
                generalize hH6 : upd H5 d (.dK (putK kvs3 (Sum.inl y.2.2) (.ref nw))) = H6
                have k6 : KeepT H5 H6 := by
                  rw [← hH6]
                  exact keepT_upd C5.hd (fun xs z => by cases z)
                have d6 : H6 d = some (.dK (putK kvs3 (Sum.inl y.2.2) (.ref nw))) := by
                  rw [← hH6]
                  exact upd_same
                have u6 : H6 u = some (.lst (qs3.map fun q => V.ref q.1)) := by
                  rw [← hH6, upd_ne hdu.symm]
                  exact C5.hu
                have r6 : H6 r = some (.lst (ps.map fun q => V.ref q.1)) := by
                  rw [← hH6, upd_ne hdr.symm]
                  exact C5.hr
                have m6 : Same H H6 := by
                  rw [← hH6]
                  exact same_set hd0 C5.sm
                have g6 : valV (putK kvs3 (Sum.inl y.2.2) (V.ref nw)) (Sum.inl y.2.2 : Key) = some (.ref nw) := by
                  rw [valV_put, if_pos rfl]
                have n6 := k6 _ _ n5
                have ml := miss_le (last := last) (kvs := kvs3)
                have mp2 := miss_put (v := V.ref nw) b3 b6 no
                have pe : (putK kvs3 (Sum.inl y.2.2 : Key) (V.ref nw)).length = kvs3.length + 1 := by
                  rw [putK_new _ hn, List.length_append]
                  rfl
                have ql := C3.ql
                refine ⟨_, rfl, ?_, _, rfl, _, rfl, ⟨d, _, rfl, by rw [← g6]; exact DGet.k (k := Sum.inl y.2.2) d6, _, rfl, (by show 2 ≤ sizeLine; decide), fun p7 hp7 => ⟨u, qs3.map (fun q => V.ref q.1), _, rfl, rfl, same_upd hp7 _ _ u6, by rw [sizeLine_eq, List.length_map]; omega, ?_⟩⟩⟩
                · exact .inl ⟨rfl, _, SqL.of u6⟩
                have k7 := Same.keepT (same_upd (o := HO.tup [V.ref nw, V.int y.2.2]) hp7)
                have hd7 := same_upd (o := HO.tup [V.ref nw, V.int y.2.2]) hp7 _ _ d6
                have hu7 := same_upd (o := HO.tup [V.ref nw, V.int y.2.2]) hp7 _ _ u6
                have hr7 := same_upd (o := HO.tup [V.ref nw, V.int y.2.2]) hp7 _ _ r6
                have k8 := keepT_upd (o := .lst (qs3.map (fun q => V.ref q.1) ++ [V.ref p7])) hu7 (fun xs z => by cases z)
                have kk : KeepT H5 _ := (k6.trans k7).trans k8
                refine ⟨putK kvs3 (Sum.inl y.2.2) (.ref nw), qs3 ++ [(p7, y.2.2)], _, _, _, _, rfl, ⟨same_set hu00 (m6.trans (same_upd hp7)), ?_, ?_, ?_, ?_, ?_, by rw [pe]; omega, .inr ?_, by rw [pe, List.length_append]; simp only [List.length_cons, List.length_nil]; omega⟩, ?_, by rw [pe]; omega, ?_⟩
                · rw [upd_ne hdu]
                  exact hd7
                · rw [upd_ne hur.symm]
                  exact hr7
                · rw [List.map_append]
                  exact upd_same
                · exact C5.rp.keep kk (by rw [pe]; omega)
                · intro q hq
                  rcases List.mem_append.mp hq with hq | hq
                  · exact C5.rq.keep kk (by rw [pe]; omega) q hq
                  · have e : q = (p7, y.2.2) := by simpa using hq
                    subst e
                    refine ⟨b3, b6, nw, xs ++ [V.int (k : Nat)], k8 _ _ upd_same, k8 _ _ (k7 _ _ n6), ?_⟩
                    rw [pe, List.length_append]
                    simp only [List.length_cons, List.length_nil]
                    omega
                · rcases C3.me with ⟨_, z⟩ | z <;> omega
                · exact kk _ _ ((same_upd (o := HO.tup [V.int (k : Nat)]) hp |>.trans s5) _ _ w4)
                · refine go _ _ (fun g h => ?_) (fun g h => ?_) (fun q h => List.mem_append_left _ h) (fun _ => ?_)
                  · rw [has_put] at h
                    rcases (Bool.or_eq_true _ _).mp h with h | h
                    · exact .inr ⟨_, List.mem_append_right _ (List.mem_singleton.mpr rfl), (of_decide_eq_true h).symm⟩
                    · exact .inl h
                  · rw [has_put, h, Bool.or_true]
                  · rw [has_put, decide_eq_true rfl]
                    rfl
              · have yes : has kvs3 y.2.2 = true := by
                  cases e : has kvs3 y.2.2 with
                  | true => rfl
                  | false =>
                    have e' : (valV kvs3 (Sum.inl y.2.2 : Key)).isSome = false := e
                    rw [e'] at y1
                    exact absurd rfl y1
                exact ⟨kvs3, qs3, _, _, _, _, rfl, C4, w4, wl, go kvs3 qs3 (fun g h => .inl h) (fun g h => h) (fun q h => h) (fun _ => yes)⟩
            · have z1 : ¬ y.1 = q1.2 := fun e => z (decide_eq_true (congrArg V.int e))
              refine iteF ?_
              exact ⟨kvs3, qs3, _, _, _, _, rfl, C4, w4, wl, go kvs3 qs3 (fun g h => .inl h) (fun g h => h) (fun q h => h) (fun e => absurd e z1)⟩
          · rintro σ H3 ⟨kvs3, qs3, v7, v8, v9, v10, rfl, C3, w3, wl, cl3⟩
            refine ⟨kvs3, qs3, _, _, v7, v8, v9, v10, rfl, C3, fun x hx h => ?_⟩
            rcases cl3 x hx h with (z | ⟨_, z⟩) | z
            · exact .inl z
            · rw [show (ts.map V.ref).length = fr.length by simp [hl], List.drop_length] at z
              cases z
            · exact .inr z
        · rintro σ H2 ⟨kvs2, qs, v5, v6, v7, v8, v9, v10, rfl, C, cl⟩
          refine ⟨_, rfl, _, ?_, u, kvs2, qs, some (.ref u), v5, v6, v7, v8, v9, v10, rfl, C.sm, C.hd, C.hu, C.rq, C.cnt, fun x hx h => ?_, rfl⟩
          · rw [if_neg hps]
            rcases C.me with ⟨z, y⟩ | z
            · rw [if_pos z]
              omega
            · split <;> omega
          · rcases cl x hx h with (z | z) | z
            · rw [List.length_map, List.drop_length] at z
              obtain ⟨_, z, _⟩ := z
              cases z
            · exact .inl z
            · exact .inr z
end
end K10

set_option Elab.async false
set_option linter.all false
set_option maxRecDepth 100000
set_option maxHeartbeats 4000000
/-! is_joined, need_framing. -/
namespace K10
open PySem L2 L2.EV
abbrev sJoined : Stmt := top 16
abbrev sNeedF : Stmt := top 17
def spJoined : Sp := fun vs H Q _ => ∃ (f : Addr) (fr : List T3) (last : Nat), vs = [.ref f] ∧ FrA H f fr ∧ Frm fr last ∧ ∀ H', Same H H' → Q (.bl true) H'
def spNeedF : Sp := fun vs H Q _ => ∃ (f : Addr) (fr : List T3) (last : Nat), vs = [.ref f] ∧ FrA H f fr ∧ Frm fr last ∧ ∀ H', Same H H' → Q (.ref f) H'
/-- the defs that need_framing calls -/
structure Fs (K : PySem.W.Frag) (mg : Str → Option Value) where
  fN : Addr
  fP : Addr
  fS : Addr
  fL : Addr
  fW : Addr
  fJ : Addr
  fF : Addr
  dN : FuncData
  dP : FuncData
  dS : FuncData
  dL : FuncData
  dW : FuncData
  dJ : FuncData
  dF : FuncData
  N : Fun K "is_number" "is_number" sNum fN dN
  P : Fun K "is_piece" "is_piece" sPc fP dP
  S : Fun K "is_step" "is_step" sStep fS dS
  L : Fun K "listed_standings" "listed_standings" sListed fL dL
  W : Fun K "ways_from" "ways_from" sWays fW dW
  J : Fun K "is_joined" "is_joined" sJoined fJ dJ
  F : Fun K "need_framing" "need_framing" sNeedF fF dF
  bN : Binds K dN ["thing", "many"] []
  bP : Binds K dP ["thing"] []
  bS : Binds K dS ["thing"] []
  bL : Binds K dL ["framing"] []
  bW : Binds K dW ["framing", "begin"] []
  bJ : Binds K dJ ["framing"] []
  bF : Binds K dF ["thing"] []
  mN : mg "is_number" = some (.ref fN)
  mP : mg "is_piece" = some (.ref fP)
  mS : mg "is_step" = some (.ref fS)
  mL : mg "listed_standings" = some (.ref fL)
  mW : mg "ways_from" = some (.ref fW)
  mJ : mg "is_joined" = some (.ref fJ)
  mF : mg "need_framing" = some (.ref fF)
  T : TxtF mg
  so : mg "sorted" = none
  en : mg "enumerate" = none
  ms : ∃ t, mg "MOST_STEPS" = some (.int 16 t)
section
variable {P : Program} {w : World} {K : PySem.W.Frag} {mg : Str → Option Value} {base : Heap}
theorem scJoined : FnScope ["framing", "reached", "standing"] ["framing"] (defScope sJoined) := ⟨rfl, rfl, rfl, by decide +kernel, rfl, by decide +kernel, by decide +kernel⟩
theorem ok_joined (Z : Fs K mg) : FnOk P w K mg base CX0 2 Z.fJ Z.dJ ["framing"] spJoined := by
  have GL : FnOk P w K mg base CX0 1 Z.fL Z.dL ["framing"] spListed := ok_listed Z.L Z.so
  have GW : FnOk P w K mg base CX0 1 Z.fW Z.dW ["framing", "begin"] spWays := ok_ways Z.W Z.en
  refine Z.J.ok scJoined (fun vs H Q E h => ?_) (fun cdv A outer s H vs Q E hr h => ?_)
  · obtain ⟨f, fr, last, rfl, _⟩ := h
    rfl
  · obtain ⟨f, fr, last, rfl, fa, fm, q⟩ := h
    have hu := hu_of hr
    refine ⟨_, pss_cons (ps_set (i := 1) scJoined.nd rfl (Or.inl rfl) (pe_call GW hr (by rfl) Z.mW Z.W.kp Z.bW .nil pass0 (pa_cons (pv 0) (pa_cons pe_int pa_nil))))
      (pss_cons (ps_for PassesOwn.never rfl (pi_list (pe_call GL hr (by rfl) Z.mL Z.L.kp Z.bL .nil pass0 (pa_cons (pv 0) pa_nil))) (pg_name (i := 2) scJoined.nd rfl (Or.inl rfl))
        (pss_one (ps_if (pw_or (pt_cmp (pc_dnotin hu (pv 2) (pv 1)) (by rfl)) (pw_or1 (pt_cmp (pc_dnotin hu pe_int (pe_call GW hr (by rfl) Z.mW Z.W.kp Z.bW .nil pass0 (pa_cons (pv 0) (pa_cons (pv 2) pa_nil)))) (by rfl)))).pt
          (pss_one (ps_ret pe_bl)) pss_nil)))
      (pss_one (ps_ret pe_bl))), ?_⟩
    refine ⟨_, rfl, f, fr, last, 0, rfl, fa, fm, Nat.zero_le _, fun H1 d kvs s1 n1 e1 h1 => ?_⟩
    refine ⟨_, rfl, f, fr, last, rfl, fa.same s1, fm, fun H2 p ns s2 n2 e2 l2 k2 => ⟨p, rfl, ⟨_, SqL.of e2⟩, for_it (walk_list (xs := ns.map V.int)) (fun i σ H' => ∃ v2 : Option V, σ = [some (.ref f), some (.ref d), v2] ∧ Same H2 H')
      ⟨none, rfl, fun _ _ e => e⟩ (fun i σ H' _ ⟨_, _, z⟩ => SqL.of (z _ _ e2)) ?_ ?_⟩⟩
    · rintro i x σ H3 H4 hi ⟨v2, rfl, s3⟩ ⟨rfl, hx⟩
      obtain ⟨k, hk, rfl⟩ : ∃ k : Int, k ∈ ns ∧ x = .int k := by
        rw [List.getElem?_map] at hx
        cases e : ns[i]? with
        | none =>
          rw [e] at hx
          cases hx
        | some k =>
          rw [e] at hx
          exact ⟨k, List.mem_of_getElem? e, (Option.some.inj hx).symm⟩
      obtain ⟨k0, k1⟩ := k2 k hk
      obtain ⟨b, rfl⟩ := Int.eq_ofNat_of_zero_le k0
      have hb : b ≤ last := by omega
      have hb' : (valV kvs (Sum.inl (b : Int) : Key)).isSome = true := h1 b hb
      refine ⟨_, rfl, _, rfl, d, _, rfl, DGet.k (k := Sum.inl (b : Int)) (s3 _ _ (s2 _ _ e1)), _, rfl, iteF' (by rw [hb']; rfl) ?_⟩
      refine ⟨_, rfl, _, rfl, f, fr, last, b, rfl, (fa.same s1).same (s2.trans s3), fm, hb, fun H5 d5 kvs5 s5 n5 e5 h5 => ?_⟩
      have h0' : (valV kvs5 (Sum.inl (0 : Int) : Key)).isSome = true := h5 0 (Nat.zero_le _)
      refine ⟨d5, _, rfl, DGet.k (k := Sum.inl (0 : Int)) e5, _, rfl, iteF' (by rw [h0']; rfl) ?_⟩
      exact ⟨_, rfl, s3.trans s5⟩
    · rintro σ H3 ⟨v2, rfl, s3⟩
      exact q H3 (s1.trans (s2.trans s3))
theorem scNeedF : FnScope ["thing", "number", "step"] ["thing"] (defScope sNeedF) := ⟨rfl, rfl, rfl, by decide +kernel, rfl, by decide +kernel, by decide +kernel⟩
theorem ok_needF (Z : Fs K mg) : FnOk P w K mg base CX0 3 Z.fF Z.dF ["thing"] spNeedF := by
  have GS : FnOk P w K mg base CX0 2 Z.fS Z.dS ["thing"] spStep := ok_step Z.S Z.T Z.N Z.bN Z.mN Z.P Z.bP Z.mP
  have GJ : FnOk P w K mg base CX0 2 Z.fJ Z.dJ ["framing"] spJoined := ok_joined Z
  refine Z.F.ok scNeedF (fun vs H Q E h => ?_) (fun cdv A outer s H vs Q E hr h => ?_)
  · obtain ⟨f, fr, last, rfl, _⟩ := h
    rfl
  · obtain ⟨f, fr, last, rfl, fa, fm, q⟩ := h
    have hu := hu_of hr
    have hu0 : (A.deeper (PyProof.Rows.envOfC "need_framing" (defScope sNeedF) s.heap.objs.size Z.fF cdv)).units < cLine := by omega
    obtain ⟨tm, eM⟩ := Z.ms
    refine ⟨_, pss_cons (ps_if (pw_or (pt_not (pt_val (pe_callB call_isi (by rfl) Z.T.isi PyProof.Rows.boot_isinstance (pa_cons (pv 0) (pa_cons (pe_bltn (v := .ty "tuple") (by rfl) Z.T.tuple (by decide +kernel) rfl) pa_nil)))))
        (pw_or1 (pt_not (pt_chain op_le op_le pe_int (pe_callB call_len_seq (by rfl) Z.T.len PySem.boot_len (pa_cons (pv 0) pa_nil)) (pe_glob (v := .int 16) (by rfl) eM ⟨_, rfl⟩))))).pt
        (pss_one ps_never) pss_nil)
      (pss_cons (ps_for PassesOwn.never rfl (pi_enumT (by rfl) Z.en (pa_cons (pv 0) pa_nil)) (pg_tup rfl (pgs_cons (pg_name (i := 1) scNeedF.nd rfl (Or.inl rfl)) (pgs_cons (pg_name (i := 2) scNeedF.nd rfl (Or.inl rfl)) pgs_nil)))
        (pss_one (ps_if (pw_or (pt_not (pt_val (pe_call GS hr (by rfl) Z.mS Z.S.kp Z.bS .nil pass0 (pa_cons (pv 2) pa_nil))))
          (pw_or1 (pw_and (pt_cmpR op_gt (pv 1) pe_int (nomark _)) (pw_and1 (pt_cmpR (op_le3 hu0) (pv 2) (pe_ix ix_tup (pv 0) (pe_op op_sub (pv 1) pe_int) (fun _ _ => rfl)) (nomark _)))).pt)).pt
          (pss_one ps_never) pss_nil)))
      (pss_cons (ps_if (pt_not (pt_val (pe_call GJ hr (by rfl) Z.mJ Z.J.kp Z.bJ .nil pass0 (pa_cons (pv 0) pa_nil)))) (pss_one ps_never) pss_nil)
      (pss_one (ps_ret (pv 0))))), ?_⟩
    obtain ⟨ts, hf, hl, ht⟩ := id fa
    have l0 := fm.l0
    have l1 := fm.l1
    refine ⟨_, rfl, .ref f, .ty "tuple", .type "tuple", .type "tuple", true, rfl, .ty "tuple", .base (.tup hf), kit_ty (by decide +kernel), true, rfl, iteF ?_⟩
    refine ⟨_, rfl, f, _, rfl, .inr (SqT.of hf), 1, _, rfl, rfl, _, rfl, iteT' (decide_eq_true (by simp; omega)) ⟨_, 16, rfl, rfl, _, rfl, ?_⟩⟩
    refine iteF' (by rw [decide_eq_true (by simp; omega)]; rfl) ?_
    refine ⟨_, rfl, f, _, rfl, SqT.of hf, for_it (walk_enumT (xs := ts.map V.ref)) (fun i σ H' => ∃ v1 v2 : Option V, σ = [some (.ref f), v1, v2] ∧ Same H H')
      ⟨none, none, rfl, fun _ _ e => e⟩ (fun i σ H' _ ⟨_, _, _, z⟩ => SqT.of (z _ _ hf)) ?_ ?_⟩
    · rintro i x σ H1 H2 hi ⟨v1, v2, rfl, s1⟩ ⟨T, xi, xo, rfl, nT, rfl, h1, h2⟩
      cases h1
      obtain ⟨t, y, hy, rfl, e4⟩ := at_step (i := i) hl ht h2
      have s2 := s1.trans (same_upd (o := HO.tup [V.int (i : Nat), V.ref t]) nT)
      refine ⟨T, _, rfl, SqT.of upd_same, rfl, _, _, rfl, _, _, rfl, rfl, ?_⟩
      refine ⟨_, rfl, t, y, rfl, s2 _ _ e4, fm.stp y (List.mem_of_getElem? hy), fun H3 s3 => ⟨_, rfl, iteF ?_⟩⟩
      refine ⟨_, rfl, (i : Int), 0, rfl, rfl, _, rfl, ?_⟩
      refine ite2 (fun z => ?_) (fun z => ?_)
      · have z1 : (0 : Int) < i := of_decide_eq_true z
        obtain ⟨j, rfl⟩ : ∃ j, i = j + 1 := ⟨i - 1, by omega⟩
        have jl : j < fr.length := by
          have := (List.getElem?_eq_some_iff.mp hy).1
          omega
        have jt : j < ts.length := by omega
        have e5 := ht j ts[j] fr[j] (List.getElem?_eq_getElem jt) (List.getElem?_eq_getElem jl)
        have lt : lt3 fr[j] y = true := by
          have h3 := List.pairwise_iff_getElem.mp fm.srt j (j + 1) jl (List.getElem?_eq_some_iff.mp hy).1 (by omega)
          rw [(List.getElem?_eq_some_iff.mp hy).2] at h3
          exact h3
        refine ⟨_, rfl, _, rfl, _, rfl, _, _, rfl, rfl, f, _, (j : Int), V.ref ts[j], rfl, ?_, SqT.of (s3 _ _ (s2 _ _ hf)), atI_nat ?_, t, ts[j], y, fr[j], rfl, rfl, s3 _ _ (s2 _ _ e4), s3 _ _ (s2 _ _ e5), _, rfl, ?_⟩
        · show V.int (((j + 1 : Nat) : Int) - 1) = V.int (j : Int)
          congr 1
          omega
        · rw [List.getElem?_map, List.getElem?_eq_getElem jt]
          rfl
        · refine iteF' (by rw [lt]; rfl) ?_
          exact ⟨_, _, rfl, s2.trans s3⟩
      · refine iteF ?_
        exact ⟨_, _, rfl, s2.trans s3⟩
    · rintro σ H1 ⟨v1, v2, rfl, s1⟩
      refine ⟨_, rfl, f, fr, last, rfl, fa.same s1, fm, fun H2 s2 => ⟨_, rfl, iteF ⟨_, rfl, q H2 (s1.trans s2)⟩⟩⟩
end
end K10

set_option Elab.async false
set_option linter.all false
set_option maxRecDepth 100000
set_option maxHeartbeats 4000000
/-! place_bits. -/
namespace K10
open PySem L2 L2.EV
abbrev sBits : Stmt := top 21
/-- a step by its number, the places ahead of its piece -/
def stq (fr : List T3) (n : Nat) : T3 := fr.getD n (0, "", 0)
def pln (fr : List T3) (n : Nat) : Nat := (stq fr n).2.1.length
def off (fr : List T3) : Nat → Nat
  | 0 => 0
  | n + 1 => off fr n + pln fr n
theorem stq_at {fr : List T3} {k : Nat} {x : T3} (h : fr[k]? = some x) : stq fr k = x := by
  unfold stq
  rw [List.getD_eq_getElem?_getD, h]
  rfl
/-- a place as a key -/
def plK (n a : Nat) : List Key := [.inl (n : Int), .inl (a : Int)]
theorem plK_inj {n a m b : Nat} : plK n a = plK m b ↔ n = m ∧ a = b := by
  unfold plK
  constructor
  · intro h
    have h1 := (List.cons.inj h).1
    have h2 := (List.cons.inj (List.cons.inj h).2).1
    have e1 := Sum.inl.inj h1
    have e2 := Sum.inl.inj h2
    omega
  · rintro ⟨rfl, rfl⟩
    rfl
def rowB (fr : List T3) (n a : Nat) : List (List Key × V) := (List.range a).map fun j => (plK n j, V.int (2 ^ (off fr n + j) : Nat))
def allB (fr : List T3) : Nat → List (List Key × V)
  | 0 => []
  | n + 1 => allB fr n ++ rowB fr n (pln fr n)
theorem rowB_succ (fr : List T3) (n a : Nat) : rowB fr n (a + 1) = rowB fr n a ++ [(plK n a, V.int (2 ^ (off fr n + a) : Nat))] := by
  unfold rowB
  rw [List.range_succ, List.map_append]
  rfl
theorem allB_len (fr : List T3) : ∀ n, (allB fr n).length = off fr n
  | 0 => rfl
  | n + 1 => by
    show (allB fr n ++ rowB fr n (pln fr n)).length = _
    rw [List.length_append, allB_len fr n]
    unfold rowB
    rw [List.length_map, List.length_range]
    rfl
theorem valV_app {xs ys : List (List Key × V)} {k : List Key} : valV (xs ++ ys) k = (valV xs k).or (valV ys k) := by
  unfold valV
  rw [List.find?_append]
  cases xs.find? (fun x => decide (x.1 = k)) <;> rfl
theorem rowB_val (fr : List T3) (n m j : Nat) : ∀ a : Nat, valV (rowB fr n a) (plK m j) = if m = n ∧ j < a then some (V.int (2 ^ (off fr n + j) : Nat)) else none
  | 0 => by rw [if_neg (by omega)]; rfl
  | a + 1 => by
    rw [rowB_succ, valV_app, rowB_val fr n m j a]
    by_cases c : m = n ∧ j < a
    · rw [if_pos c, if_pos ⟨c.1, by omega⟩]
      rfl
    · rw [if_neg c]
      by_cases e : m = n ∧ j = a
      · obtain ⟨rfl, rfl⟩ := e
        rw [if_pos ⟨rfl, by omega⟩]
        show valV [(plK m j, _)] (plK m j) = _
        unfold valV
        simp
      · rw [if_neg (by omega)]
        show valV [(plK n a, _)] (plK m j) = none
        unfold valV
        have : ¬ plK n a = plK m j := fun z => by
          have := plK_inj.mp z
          omega
        simp [this]
theorem allB_val (fr : List T3) (m j : Nat) : ∀ n : Nat, valV (allB fr n) (plK m j) = if m < n ∧ j < pln fr m then some (V.int (2 ^ (off fr m + j) : Nat)) else none
  | 0 => by rw [if_neg (by omega)]; rfl
  | n + 1 => by
    show valV (allB fr n ++ rowB fr n (pln fr n)) _ = _
    rw [valV_app, allB_val fr m j n, rowB_val]
    by_cases c : m < n ∧ j < pln fr m
    · rw [if_pos c, Option.some_or, if_pos ⟨by omega, c.2⟩]
    · rw [if_neg c]
      by_cases e : m = n ∧ j < pln fr n
      · obtain ⟨rfl, h⟩ := e
        rw [if_pos ⟨rfl, h⟩, if_pos ⟨by omega, h⟩]
        rfl
      · rw [if_neg e, if_neg (fun z => by
          rcases Nat.lt_or_ge m n with y | y
          · exact c ⟨y, z.2⟩
          · have : m = n := by omega
            subst this
            exact e ⟨rfl, z.2⟩)]
        rfl
theorem put_new {xs : List (List Key × V)} {k : List Key} {v : V} (h : valV xs k = none) : putK xs k v = xs ++ [(k, v)] := by
  unfold putK
  have e : (xs.any fun x => decide (x.1 = k)) = false := by
    unfold valV at h
    cases hf : xs.find? (fun x => decide (x.1 = k)) with
    | some y => rw [hf] at h; cases h
    | none =>
      rw [List.find?_eq_none] at hf
      cases ha : xs.any fun x => decide (x.1 = k) with
      | false => rfl
      | true =>
        obtain ⟨x, hx, hd⟩ := List.any_eq_true.mp ha
        exact absurd hd (hf x hx)
  rw [e]
  rfl
theorem off_le {fr : List T3} {last : Nat} (fm : Frm fr last) : ∀ n, n ≤ fr.length → off fr n ≤ 8 * n
  | 0, _ => Nat.le_refl _
  | n + 1, h => by
    have ih := off_le fm n (by omega)
    have e : fr[n]? = some fr[n] := List.getElem?_eq_getElem (by omega)
    have p := (pc_len (fm.stp _ (List.mem_of_getElem? e)).2.2.1).2
    show off fr n + pln fr n ≤ _
    unfold pln
    rw [stq_at e]
    omega
def spBits : Sp := fun vs H Q _ => ∃ (f : Addr) (fr : List T3) (last : Nat), vs = [.ref f] ∧ FrA H f fr ∧ Frm fr last ∧ ∀ H' p, Same H H' → H p = none → H' p = some (.dT (allB fr fr.length)) → Q (.ref p) H'
structure Bt (K : PySem.W.Frag) (mg : Str → Option Value) where
  f : Addr
  d : FuncData
  F : Fun K "place_bits" "place_bits" sBits f d
  b : Binds K d ["framing"] []
  m : mg "place_bits" = some (.ref f)
  len : mg "len" = none
  ra : mg "range" = none
  en : mg "enumerate" = none
section
variable {P : Program} {w : World} {K : PySem.W.Frag} {mg : Str → Option Value} {base : Heap}
abbrev NB : List Str := ["framing", "bits", "number", "start", "piece", "goal", "at"]
theorem scBits : FnScope NB ["framing"] (defScope sBits) := ⟨rfl, rfl, rfl, by decide +kernel, rfl, by decide +kernel, by decide +kernel⟩
theorem ok_bits (G : Bt K mg) : FnOk P w K mg base CX0 1 G.f G.d ["framing"] spBits := by
  refine G.F.ok scBits (fun vs H Q E h => ?_) (fun cdv A outer s H vs Q E hr h => ?_)
  · obtain ⟨f, fr, last, rfl, _⟩ := h
    rfl
  · obtain ⟨f, fr, last, rfl, fa, fm, q⟩ := h
    have hu := hu_of hr
    refine ⟨_, pss_cons (ps_set (i := 1) scBits.nd rfl (Or.inl rfl) pe_dnewT)
      (pss_cons (ps_for PassesOwn.never rfl (pi_enumT (by rfl) G.en (pa_cons (pv 0) pa_nil)) (pg_tup rfl (pgs_cons (pg_name (i := 2) scBits.nd rfl (Or.inl rfl)) (pgs_cons (pg_tup rfl (pgs_cons (pg_name (i := 3) scBits.nd rfl (Or.inl rfl)) (pgs_cons (pg_name (i := 4) scBits.nd rfl (Or.inl rfl)) (pgs_cons (pg_name (i := 5) scBits.nd rfl (Or.inl rfl)) pgs_nil)))) pgs_nil)))
        (pss_one (ps_for PassesOwn.never rfl (pi_range1 (by rfl) G.ra (pa_cons (pe_callB call_len_str (by rfl) G.len PySem.boot_len (pa_cons (pv 4) pa_nil)) pa_nil)) (pg_name (i := 6) scBits.nd rfl (Or.inl rfl))
          (pss_one (ps_dput hu (pv 1) (pe_tup (pa_cons (pv 2) (pa_cons (pv 6) pa_nil))) (pe_op op_oneShl pe_int (pe_callB call_len_dT (by rfl) G.len PySem.boot_len (pa_cons (pv 1) pa_nil))) rfl)))))
      (pss_one (ps_ret (pv 1)))), ?_⟩
    obtain ⟨ts, hf, tl, tt⟩ := id fa
    refine fun B hB => ?_
    have uB := same_upd (o := HO.dT []) hB
    have pw : ∀ k y, fr[k]? = some y → y.2.1.length = pln fr k := fun k y hy => by
      unfold pln
      rw [stq_at hy]
    refine ⟨_, rfl, f, _, rfl, SqT.of (uB _ _ hf), for_it (walk_enumT (xs := ts.map V.ref)) (fun i σ H' => ∃ (v2 v3 v4 v5 v6 : Option V), σ = [some (.ref f), some (.ref B), v2, v3, v4, v5, v6] ∧ Same H H' ∧ H' B = some (.dT (allB fr i)))
      ⟨none, none, none, none, none, rfl, uB, upd_same⟩ (fun i σ H' _ ⟨_, _, _, _, _, _, z, _⟩ => SqT.of (z _ _ hf)) ?_ ?_⟩
    · rintro i y σ H1 H2 hi ⟨v2, v3, v4, v5, v6, rfl, s1, hb⟩ ⟨T, xi, xo, rfl, nT, rfl, h1, h2⟩
      cases h1
      have h2 : (ts.map V.ref)[i]? = some xo := h2
      obtain ⟨tp, ht, rfl⟩ : ∃ tp, ts[i]? = some tp ∧ xo = .ref tp := by
        rw [List.getElem?_map] at h2
        cases e : ts[i]? with
        | none => rw [e] at h2; cases h2
        | some tp => rw [e] at h2; exact ⟨tp, rfl, (Option.some.inj h2).symm⟩
      have kl : i < fr.length := by rw [← tl]; exact (List.getElem?_eq_some_iff.mp ht).1
      obtain ⟨st, hst⟩ : ∃ st, fr[i]? = some st := ⟨fr[i], List.getElem?_eq_getElem kl⟩
      have h3 := tt i tp st ht hst
      have uT := same_upd (o := HO.tup [V.int (i : Nat), V.ref tp]) nT
      have s2 := s1.trans uT
      have hb2 := uT _ _ hb
      have pe := pw i st hst
      have p8 := (pc_len (fm.stp _ (List.mem_of_getElem? hst)).2.2.1).2
      have ol := off_le fm i (by omega)
      have fl := fm.l1
      refine ⟨T, _, rfl, SqT.of upd_same, rfl, _, _, rfl, _, _, rfl, tp, _, rfl, SqT.of (s2 _ _ h3), rfl, _, _, rfl, _, _, rfl, _, _, rfl, rfl, rfl, ?_⟩
      clear uT hb s1
      generalize upd H1 T (.tup [V.int (i : Nat), V.ref tp]) = H3 at s2 hb2 ⊢
      refine ⟨_, rfl, st.2.1, rfl, by rw [sizeLine_eq]; omega, _, rfl, by omega, by omega, for_it walk_range (fun j σ H' => ∃ v6 : Option V, σ = [some (.ref f), some (.ref B), some (.int (i : Nat)), some (.int st.1), some (.str st.2.1), some (.int st.2.2), v6] ∧ Same H H' ∧ H' B = some (.dT (allB fr i ++ rowB fr i j)))
        ⟨v6, rfl, s2, by rw [hb2]; unfold rowB; simp⟩ (fun _ _ _ _ _ => trivial) ?_ ?_⟩
      · rintro j y σ H4 H5 hj ⟨v6, rfl, s4, hb4⟩ ⟨rfl, rfl⟩
        have ej : (fun i : Nat => V.int (0 + (i : Int))) j = V.int (j : Int) := by
          show V.int (0 + (j : Int)) = _
          rw [Int.zero_add]
        rw [ej]
        have jl : j < pln fr i := by rw [Int.toNat_natCast] at hj; omega
        have lb : (allB fr i ++ rowB fr i j).length = off fr i + j := by
          rw [List.length_append, allB_len]
          unfold rowB
          rw [List.length_map, List.length_range]
        refine ⟨_, rfl, B, _, rfl, hb4, off fr i + j, rfl, by rw [lb], by omega, ?_⟩
        refine ⟨_, rfl, _, rfl, _, rfl, (by show 2 ≤ sizeLine; decide), fun tk ntk => ?_⟩
        have uk := same_upd (o := HO.tup [V.int (i : Nat), V.int (j : Int)]) ntk
        refine ⟨B, _, rfl, DPut.t (k := plK i j) (uk _ _ hb4) upd_same (by rw [lb, sizeLine_eq]; omega), ?_⟩
        refine ⟨_, rfl, same_set hB (s4.trans uk), ?_⟩
        rw [upd_same, put_new, rowB_succ, List.append_assoc]
        · rfl
        · rw [valV_app, allB_val, rowB_val, if_neg (by omega), if_neg (by omega)]
          rfl
      · rintro σ H4 ⟨v6, rfl, s4, hb4⟩
        refine ⟨_, _, _, _, _, rfl, s4, ?_⟩
        rw [hb4, Int.toNat_natCast, pe]
        rfl
    · rintro σ H1 ⟨v2, v3, v4, v5, v6, rfl, s1, hb⟩
      rw [List.length_map, tl] at hb
      exact ⟨_, rfl, q H1 B s1 hB hb⟩
end
end K10

set_option Elab.async false
set_option linter.all false
set_option maxRecDepth 100000
set_option maxHeartbeats 4000000
/-! a[i] op= n for a list of ints; dicts of one key each. -/
namespace L2
open PySem PySem.Spec PyProof.Rows HT
section
variable {X : Cx}
/-- a[i] of a list, i not negative -/
def gtY (K : PySem.W.Frag) : V → V → Hp → VK → Prop := fun x y H Q => ∃ p xs v, ∃ i : Nat, x = .ref p ∧ y = .int (i : Int) ∧ SqL K H p xs ∧ xs[i]? = some v ∧ Q v H
theorem get_listY : PGet X (gtY X.K) := by
  intro pins s σ H o i ov iv Q I ro ri h
  obtain ⟨p, xs, z, k, rfl, rfl, hq, he, q⟩ := h
  cases ro
  obtain ⟨t, rfl⟩ := ri
  obtain ⟨its, r, pl, hz⟩ := I.list hq
  obtain ⟨w, ew, rw'⟩ := r.get he
  have hn := line63
  have hl := r.length
  have il := (List.getElem?_eq_some_iff.mp he).1
  exact wpAny_getItem_list pl.isList (by omega) (by omega) (by rw [Int.toNat_natCast]; simpa using ew) ⟨z, H, I, rw', q⟩
theorem ip_orY : PIp X .BitOr (rI0 fun i j => .int (Builtin.bitOr i j)) := fun pins s σ H x y v u Q I r1 r2 h => iop_or pins s σ H x y v u Q I r1 r2 h
end
/-! dicts told by a list of keys and one of values -/
section
variable {α κ : Type} [DecidableEq κ] (g : α → κ)
def zk (ks : List α) (a : List V) : List (κ × V) := (ks.zip a).map fun z => (g z.1, z.2)
theorem zk_len {ks : List α} {a : List V} (h : a.length = ks.length) : (zk g ks a).length = ks.length := by
  unfold zk
  rw [List.length_map, List.length_zip, h, Nat.min_self]
theorem zk_snoc {k : α} {v : V} : ∀ {ks : List α} {a : List V}, a.length = ks.length → zk g (ks ++ [k]) (a ++ [v]) = zk g ks a ++ [(g k, v)]
  | [], [], _ => rfl
  | [], _ :: _, h => by cases h
  | _ :: _, [], h => by cases h
  | s :: ks, c :: a, h => by
    show (g s, c) :: zk g (ks ++ [k]) (a ++ [v]) = (g s, c) :: (zk g ks a ++ [(g k, v)])
    rw [zk_snoc (by simpa using h)]
theorem zk_none (hg : ∀ a b, g a = g b → a = b) {k : α} : ∀ {ks : List α} {a : List V}, ¬ k ∈ ks → valV (zk g ks a) (g k) = none
  | [], _, _ => rfl
  | _ :: _, [], _ => rfl
  | s :: ks, c :: a, h => by
    show valV ((g s, c) :: zk g ks a) (g k) = none
    rw [valV_neg (fun z => h (by rw [hg _ _ z]; exact List.mem_cons_self ..))]
    exact zk_none hg fun z => h (List.mem_cons_of_mem _ z)
theorem zk_at (hg : ∀ a b, g a = g b → a = b) {k : α} {v : V} : ∀ {ks : List α} {a : List V} {i : Nat}, ks.Nodup → ks[i]? = some k → a[i]? = some v → valV (zk g ks a) (g k) = some v
  | [], _, _, _, h, _ => by simp at h
  | _ :: _, [], _, _, _, h => by simp at h
  | s :: ks, c :: a, 0, _, h1, h2 => by
    have h1 : s = k := by simpa using h1
    have h2 : c = v := by simpa using h2
    show valV ((g s, c) :: zk g ks a) (g k) = _
    rw [valV_pos (by show g s = g k; rw [h1]), h2]
  | s :: ks, c :: a, i + 1, nd, h1, h2 => by
    have h1 : ks[i]? = some k := by simpa using h1
    obtain ⟨n1, n2⟩ := List.nodup_cons.mp nd
    show valV ((g s, c) :: zk g ks a) (g k) = _
    rw [valV_neg (fun z => n1 (by rw [hg _ _ z]; exact List.mem_of_getElem? h1))]
    exact zk_at hg n2 h1 (by simpa using h2)
end
end L2

set_option Elab.async false
set_option linter.all false
set_option maxRecDepth 100000
set_option maxHeartbeats 4000000
/-! What the signs lead to: lists of pairs under each sign. -/
namespace K10
open PySem L2 L2.EV
/-- the first places of a standing, of the first i steps -/
def firB (fr : List T3) : Nat → Int → Nat
  | 0, _ => 0
  | i + 1, g => firB fr i g + if (stq fr i).1 = g then 2 ^ off fr i else 0
abbrev En : Type := Nat × Nat × Nat
def chr (fr : List T3) (n a : Nat) : Nat := (sl (stq fr n).2.1).getD a 0
def fur (fr : List T3) (n a : Nat) : Nat := if a + 1 < pln fr n then 2 ^ (off fr n + (a + 1)) else firB fr fr.length (stq fr n).2.2
def rowE (fr : List T3) (n a : Nat) : List En := (List.range a).map fun j => (chr fr n j, 2 ^ (off fr n + j), fur fr n j)
def allE (fr : List T3) : Nat → List En
  | 0 => []
  | n + 1 => allE fr n ++ rowE fr n (pln fr n)
theorem rowE_succ (fr : List T3) (n a : Nat) : rowE fr n (a + 1) = rowE fr n a ++ [(chr fr n a, 2 ^ (off fr n + a), fur fr n a)] := by
  unfold rowE
  rw [List.range_succ, List.map_append]
  rfl
/-- the keys as they are first come to -/
def addN (ks : List Nat) (c : Nat) : List Nat := if c ∈ ks then ks else ks ++ [c]
def csE (es : List En) : List Nat := es.foldl (fun ks e => addN ks e.1) []
theorem csE_snoc (es : List En) (e : En) : csE (es ++ [e]) = addN (csE es) e.1 := by
  unfold csE
  rw [List.foldl_append]
  rfl
theorem addN_mem (ks : List Nat) (c x : Nat) : x ∈ addN ks c ↔ x ∈ ks ∨ x = c := by
  unfold addN
  by_cases h : c ∈ ks
  · rw [if_pos h]
    exact ⟨.inl, fun z => z.elim id fun y => y ▸ h⟩
  · rw [if_neg h, List.mem_append, List.mem_singleton]
def ofS (es : List En) (c : Nat) : List (Nat × Nat) := (es.filter fun e => decide (e.1 = c)).map (·.2)
theorem ofS_snoc (es : List En) (e : En) (c : Nat) : ofS (es ++ [e]) c = ofS es c ++ if e.1 = c then [e.2] else [] := by
  unfold ofS
  rw [List.filter_append, List.map_append, List.filter_cons]
  by_cases h : e.1 = c
  · simp [h]
  · simp [h]
theorem ofS_none {es : List En} {c : Nat} (h : ∀ e ∈ es, e.1 ≠ c) : ofS es c = [] := by
  unfold ofS
  have : (es.filter fun e => decide (e.1 = c)) = [] := List.filter_eq_nil_iff.mpr fun e he => by simpa using h e he
  rw [this]
  rfl
/-- a pair of bits at t -/
def P2 (H : Hp) (t : Addr) (p : Nat × Nat) : Prop := H t = some (.tup [.int (p.1 : Nat), .int (p.2 : Nat)])
def PrA (H : Hp) (l : Addr) (ps : List (Nat × Nat)) : Prop := ∃ ts : List Addr, H l = some (.lst (ts.map V.ref)) ∧ ts.length = ps.length ∧ ∀ (i : Nat) t p, ts[i]? = some t → ps[i]? = some p → P2 H t p
theorem PrA.keep {H H' : Hp} {l : Addr} {ps : List (Nat × Nat)} (h : PrA H l ps) (e : H' l = H l) (k : KeepT H H') : PrA H' l ps := by
  obtain ⟨ts, a, b, c⟩ := h
  exact ⟨ts, e.trans a, b, fun i t p h1 h2 => k _ _ (c i t p h1 h2)⟩
def sgK (c : Nat) : Key := .inr ⟨#[c]⟩
theorem sgK_inj (a b : Nat) (h : sgK a = sgK b) : a = b := by
  have := congrArg (fun x : Str => x.cps.toList) (Sum.inr.inj h)
  simpa using this
theorem none_of {H H' : Hp} {a : Addr} (s : Same H H') (h : H' a = none) : H a = none := by
  cases e : H a with
  | none => rfl
  | some o => rw [s _ _ e] at h; cases h
structure LdA (H0 H : Hp) (D : Addr) (ks : List Nat) (es : List En) (ls : List Addr) : Prop where
  s : Same H0 H
  nD : H0 D = none
  hD : H D = some (.dK (zk sgK ks (ls.map V.ref)))
  l : ls.length = ks.length
  ndk : ks.Nodup
  nd : ls.Nodup
  n0 : ∀ l ∈ ls, H0 l = none
  at_ : ∀ (i : Nat) c l, ks[i]? = some c → ls[i]? = some l → PrA H l (ofS es c)
  sub : ∀ e ∈ es, e.1 ∈ ks
section
variable {H0 H H' : Hp} {D : Addr} {ks : List Nat} {es : List En} {ls : List Addr}
theorem LdA.same (h : LdA H0 H D ks es ls) (s : Same H H') : LdA H0 H' D ks es ls :=
  ⟨h.s.trans s, h.nD, s _ _ h.hD, h.l, h.ndk, h.nd, h.n0, fun i c l h1 h2 => by
    have z := h.at_ i c l h1 h2
    obtain ⟨ts, e, _⟩ := id z
    exact z.keep (by rw [s _ _ e, e]) (Same.keepT s), h.sub⟩
theorem LdA.lst_at (h : LdA H0 H D ks es ls) {l : Addr} (hl : l ∈ ls) : ∃ (i : Nat) (c : Nat), ks[i]? = some c ∧ ls[i]? = some l ∧ PrA H l (ofS es c) := by
  obtain ⟨i, hi⟩ := List.mem_iff_getElem?.mp hl
  have il := (List.getElem?_eq_some_iff.mp hi).1
  have ik : i < ks.length := by rw [← h.l]; exact il
  exact ⟨i, _, List.getElem?_eq_getElem ik, hi, h.at_ i _ l (List.getElem?_eq_getElem ik) hi⟩
theorem LdA.val (h : LdA H0 H D ks es ls) {c : Nat} (hc : c ∈ ks) : ∃ l, l ∈ ls ∧ valV (zk sgK ks (ls.map V.ref)) (sgK c) = some (.ref l) ∧ PrA H l (ofS es c) := by
  obtain ⟨i, hi⟩ := List.mem_iff_getElem?.mp hc
  have ik := (List.getElem?_eq_some_iff.mp hi).1
  have il : i < ls.length := by rw [h.l]; exact ik
  have e := List.getElem?_eq_getElem il
  exact ⟨_, List.getElem_mem il, zk_at sgK sgK_inj h.ndk hi (by rw [List.getElem?_map, e]; rfl), h.at_ i c _ hi e⟩
theorem LdA.find (h : LdA H0 H D ks es ls) {c : Nat} (hc : c ∈ ks) : ∃ (i : Nat) (l : Addr) (ts : List Addr), ks[i]? = some c ∧ ls[i]? = some l ∧ valV (zk sgK ks (ls.map V.ref)) (sgK c) = some (.ref l) ∧ H l = some (.lst (ts.map V.ref)) ∧ ts.length = (ofS es c).length := by
  obtain ⟨i, hi⟩ := List.mem_iff_getElem?.mp hc
  have ik := (List.getElem?_eq_some_iff.mp hi).1
  have il : i < ls.length := by rw [h.l]; exact ik
  have e := List.getElem?_eq_getElem il
  obtain ⟨ts, h1, h2, _⟩ := h.at_ i c _ hi e
  exact ⟨i, _, ts, hi, e, zk_at sgK sgK_inj h.ndk hi (by rw [List.getElem?_map, e]; rfl), h1, h2⟩
theorem ofS_len (es : List En) (c : Nat) : (ofS es c).length ≤ es.length := by
  unfold ofS
  rw [List.length_map]
  exact List.length_filter_le _ _
theorem csE_len (es : List En) : (csE es).length ≤ es.length := by
  have z : ∀ (es : List En) (ks : List Nat), (es.foldl (fun ks e => addN ks e.1) ks).length ≤ ks.length + es.length := by
    intro es
    induction es with
    | nil => exact fun ks => Nat.le_refl _
    | cons e es ih =>
      intro ks
      have := ih (addN ks e.1)
      have a : (addN ks e.1).length ≤ ks.length + 1 := by
        unfold addN
        by_cases c : e.1 ∈ ks
        · rw [if_pos c]; omega
        · rw [if_neg c, List.length_append]; exact Nat.le_refl _
      rw [List.foldl_cons, List.length_cons]
      omega
  have := z es []
  unfold csE
  simpa using this
theorem allE_len (fr : List T3) : ∀ n, (allE fr n).length = off fr n
  | 0 => rfl
  | n + 1 => by
    show (allE fr n ++ rowE fr n (pln fr n)).length = _
    rw [List.length_append, allE_len fr n]
    unfold rowE
    rw [List.length_map, List.length_range]
    rfl
theorem LdA.neD (h : LdA H0 H D ks es ls) {l : Addr} (hl : l ∈ ls) : l ≠ D := fun z => by
  obtain ⟨_, _, _, _, ts, e, _⟩ := h.lst_at hl
  rw [z, h.hD] at e
  cases e
theorem LdA.base {H1 : Hp} (h : LdA H1 H D ks es ls) (s : Same H0 H1) : LdA H0 H D ks es ls :=
  ⟨s.trans h.s, none_of s h.nD, h.hD, h.l, h.ndk, h.nd, fun l hl => none_of s (h.n0 l hl), h.at_, h.sub⟩
theorem LdA.new (hD : H D = none) : LdA H (upd H D (.dK [])) D [] [] [] :=
  ⟨same_upd hD, hD, upd_same, rfl, List.nodup_nil, List.nodup_nil, (fun l hl => nomatch hl), (fun i c l h => by cases h), (fun e he => nomatch he)⟩
theorem csE_nd (es : List En) : ∀ ks : List Nat, ks.Nodup → (es.foldl (fun ks e => addN ks e.1) ks).Nodup := by
  induction es with
  | nil => exact fun ks h => h
  | cons e es ih =>
    intro ks h
    refine ih _ ?_
    show (addN ks e.1).Nodup
    unfold addN
    by_cases c : e.1 ∈ ks
    · rw [if_pos c]
      exact h
    · rw [if_neg c]
      refine List.nodup_append.mpr ⟨h, by simp, fun a ha b hb => ?_⟩
      rw [List.mem_singleton.mp hb]
      exact fun z => c (z ▸ ha)
/-- a sign that is new -/
theorem LdA.key (h : LdA H0 H D ks es ls) {c : Nat} {l : Addr} (hc : ¬ c ∈ ks) (hl : H l = none) :
    LdA H0 (upd (upd H l (.lst [])) D (.dK (zk sgK ks (ls.map V.ref) ++ [(sgK c, .ref l)]))) D (ks ++ [c]) es (ls ++ [l]) := by
  have u := same_upd (o := HO.lst []) hl
  have nl : l ≠ D := fun z => by rw [z, h.hD] at hl; cases hl
  have k : KeepT H (upd (upd H l (.lst [])) D (.dK (zk sgK ks (ls.map V.ref) ++ [(sgK c, .ref l)]))) := (Same.keepT u).trans (keepT_upd (u _ _ h.hD) (fun xs z => by cases z))
  refine ⟨fun b o z => ?_, h.nD, ?_, by rw [List.length_append, List.length_append, h.l]; rfl, ?_, ?_, fun x hx => ?_, fun i d m h1 h2 => ?_, fun e he => List.mem_append_left _ (h.sub e he)⟩
  · rw [upd_ne (ne_of_none z h.nD)]
    exact u _ _ (h.s _ _ z)
  · rw [upd_same, List.map_append]
    show _ = some (HO.dK (zk sgK (ks ++ [c]) (ls.map V.ref ++ [V.ref l])))
    rw [zk_snoc sgK (by rw [List.length_map, h.l])]
  · refine List.nodup_append.mpr ⟨h.ndk, by simp, fun a ha b hb => ?_⟩
    rw [List.mem_singleton.mp hb]
    exact fun z => hc (z ▸ ha)
  · refine List.nodup_append.mpr ⟨h.nd, by simp, fun a ha b hb => ?_⟩
    rw [List.mem_singleton.mp hb]
    intro z
    obtain ⟨_, _, _, _, ts, e, _⟩ := h.lst_at ha
    rw [z, hl] at e
    cases e
  · rcases List.mem_append.mp hx with hx | hx
    · exact h.n0 x hx
    · rw [List.mem_singleton.mp hx]
      exact none_of h.s hl
  · by_cases ci : i < ks.length
    · rw [List.getElem?_append_left ci] at h1
      rw [List.getElem?_append_left (by rw [h.l]; exact ci)] at h2
      have z := h.at_ i d m h1 h2
      obtain ⟨ts, e, _⟩ := id z
      exact z.keep (by rw [upd_ne (h.neD (List.mem_of_getElem? h2)), u _ _ e, e]) k
    · rw [List.getElem?_append_right (by omega)] at h1
      rw [List.getElem?_append_right (by rw [h.l]; omega), h.l] at h2
      cases j : i - ks.length with
      | succ n => rw [j] at h1; simp at h1
      | zero =>
        rw [j] at h1 h2
        have e1 : c = d := by simpa using h1
        have e2 : l = m := by simpa using h2
        subst e1 e2
        rw [ofS_none fun e he z => hc (by rw [← z]; exact h.sub e he)]
        exact ⟨[], by rw [upd_ne nl]; exact upd_same, rfl, fun i t p h1 h2 => by cases h1⟩
/-- a pair more under a sign that is there -/
theorem LdA.push (h : LdA H0 H D ks es ls) {i : Nat} {c : Nat} {l T : Addr} {ts : List Addr} {p : Nat × Nat} (hc : ks[i]? = some c) (hi : ls[i]? = some l) (hl : H l = some (.lst (ts.map V.ref))) (hT : P2 H T p) :
    LdA H0 (upd H l (.lst (ts.map V.ref ++ [V.ref T]))) D ks (es ++ [(c, p)]) ls := by
  have lm := List.mem_of_getElem? hi
  have k : KeepT H (upd H l (.lst (ts.map V.ref ++ [V.ref T]))) := keepT_upd hl (fun xs z => by cases z)
  refine ⟨fun b o z => ?_, h.nD, by rw [upd_ne (h.neD lm).symm]; exact h.hD, h.l, h.ndk, h.nd, h.n0, fun j d m h1 h2 => ?_, fun e he => ?_⟩
  · rw [upd_ne (ne_of_none z (h.n0 l lm))]
    exact h.s _ _ z
  · have z := h.at_ j d m h1 h2
    rw [ofS_snoc]
    by_cases e : c = d
    · subst e
      have ij : i = j := (List.getElem?_inj (List.getElem?_eq_some_iff.mp hc).1 h.ndk).mp (hc.trans h1.symm)
      subst ij
      rw [hi] at h2
      cases h2
      obtain ⟨ts', e1, e2, e3⟩ := z
      rw [hl] at e1
      have e4 : ts = ts' := by
        have := HO.lst.inj (Option.some.inj e1)
        exact (List.map_inj_right fun a b q => by cases q; rfl).mp this
      subst e4
      rw [if_pos rfl]
      refine ⟨ts ++ [T], by rw [List.map_append]; exact upd_same, by rw [List.length_append, List.length_append, e2]; rfl, fun x t q g1 g2 => ?_⟩
      by_cases cx : x < ts.length
      · rw [List.getElem?_append_left cx] at g1
        rw [List.getElem?_append_left (by rw [← e2]; exact cx)] at g2
        exact k _ _ (e3 x t q g1 g2)
      · rw [List.getElem?_append_right (by omega)] at g1
        rw [List.getElem?_append_right (by rw [← e2]; omega), ← e2] at g2
        cases j : x - ts.length with
        | succ n => rw [j] at g1; simp at g1
        | zero =>
          rw [j] at g1 g2
          have q1 : T = t := by simpa using g1
          have q2 : p = q := by simpa using g2
          subst q1 q2
          exact k _ _ hT
    · rw [if_neg e, List.append_nil]
      have ml : m ≠ l := fun q => e (by
        subst q
        have ij : i = j := (List.getElem?_inj (List.getElem?_eq_some_iff.mp hi).1 h.nd).mp (hi.trans h2.symm)
        subst ij
        rw [hc] at h1
        exact Option.some.inj h1)
      exact z.keep (upd_ne ml) k
  · rcases List.mem_append.mp he with he | he
    · exact h.sub e he
    · rw [List.mem_singleton.mp he]
      exact List.mem_of_getElem? hc
end
end K10

set_option Elab.async false
set_option linter.all false
set_option maxRecDepth 100000
set_option maxHeartbeats 2000000
/-! enumerate of a text. -/
namespace L2
open PySem PySem.Spec PyProof.Rows
/-- the signs of a text with their numbers, in new pairs -/
def ItES (x : Str) : It :=
  ⟨fun i _ => i < x.cps.size, fun i H v H' => ∃ T c, v = .ref T ∧ H T = none ∧ H' = upd H T (.tup [.int (i : Nat), .str ⟨#[c]⟩]) ∧ x.cps[i]? = some c, fun i _ => x.cps.size = i⟩
theorem drawsT {prog : Program} {w : World} {A : Around} (hh : A.handled = none) (it : Addr) (x : Str) (t : Tok) :
    Draws prog w A it [it] x.cps.size (fun i v => ∃ c u, x.cps[i]? = some c ∧ v = .str ⟨#[c]⟩ u) (fun i h => h.IsStrIter it (strIterType x) x t i) := by
  unfold strIterType
  split
  · exact Draws.strAscii hh it x t
  · exact Draws.strWide hh it x t
theorem turn_ES {P : Program} {w : World} {K : PySem.W.Frag} {elts : List Expr} {kk : Nat} {tpos : Pos} (x : Str) (t : Tok) (e it : Addr) (ne : e ≠ it) :
    Turn P w K (.Tuple elts kk tpos) (ItES x) [e, it] e (fun i h => (∃ old, IsEnum h e it (i : Int) old) ∧ h.IsStrIter it (strIterType x) x t i) where
  mem := List.mem_cons_self ..
  obj := fun i h ⟨⟨old, he⟩, ⟨o, ho, _, hd⟩⟩ b hb => by
    rcases List.mem_cons.mp hb with rfl | hb
    · exact ⟨_, he, fun v q => nomatch q⟩
    · rw [List.mem_singleton.mp hb]
      exact ⟨o, ho, fun v q => by rw [hd] at q; cases q⟩
  keep := fun i h h' ⟨⟨old, he⟩, ⟨o, ho, r⟩⟩ k => ⟨⟨old, k e (List.mem_cons_self ..) _ he⟩, ⟨o, k it (by simp) _ ho, r⟩⟩
  item := by
    intro X hP hw hK hc i pins s σ H E I hf ⟨⟨old, he⟩, hi⟩ hg
    subst hP hw hK
    have le : e < s.heap.objs.size := Heap.lt_size he
    have li : it < s.heap.objs.size := by obtain ⟨_, q, _⟩ := id hi; exact Heap.lt_size q
    refine wpAny_pyNext_enum_itemD (drawsT (A := X.A.in1) (show X.A.in1.handled = none from I.ok.hd hc) it x t) he hi hg ne (by simpa using ne) fun u h1 tk hu ho hi1 hT _ kp => ?_
    obtain ⟨c, tc, hcx, rfl⟩ := hu
    refine ⟨_, rfl, wpAny_letOwnedTupleGo_enum (s := { s with heap := h1, toks := tk + 1 }) ho fun h2 he2 sb => ?_⟩
    have up : ∀ b, b ≠ e → h2.get? b = h1.get? b := fun b hb => sb.2 b hb
    have ok : ObjOk X.prog X.w (upd H s.heap.objs.size (.tup [.int (i : Nat), .str ⟨#[c]⟩])) h2 s.heap.objs.size (.tup [.int (i : Nat), .str ⟨#[c]⟩]) :=
      ⟨by show 2 ≤ sizeLine; decide, [.int i tk, .str ⟨#[c]⟩ tc], .cons ⟨_, rfl⟩ (.cons ⟨_, rfl⟩ .nil), ⟨_, (up _ (Nat.ne_of_gt le)).trans hT, rfl, _, rfl⟩⟩
    have J : Inv X pins σ (upd H s.heap.objs.size (.tup [.int (i : Nat), .str ⟨#[c]⟩])) { s with heap := h2, toks := tk + 1 } :=
      I.turnedNew (ch := [e, it]) (fun b ob hb q => (up b fun z => hb (by simp [z])).trans (kp b ob (fun z => hb (by simp [z])) (fun z => hb (by simp [z])) q)) hf (Nat.le_refl _) ok
    refine ⟨.ref s.heap.objs.size, _, J, rfl, ⟨_, c, rfl, I.hok.fresh (Nat.le_refl _), rfl, hcx⟩, ⟨⟨_, by rw [show ((i + 1 : Nat) : Int) = (i : Int) + 1 by omega]; exact he2⟩, ?_⟩, fun b hb => ?_⟩
    · obtain ⟨o, q, r⟩ := hi1
      exact ⟨o, (up it (Ne.symm ne)).trans q, r⟩
    · have lb : b < s.heap.objs.size := by
        rcases List.mem_cons.mp hb with rfl | hb
        · exact le
        · rw [List.mem_singleton.mp hb]
          exact li
      rw [upd_ne (Nat.ne_of_lt lb)]
      exact (hf b hb).1
  done := by
    intro X hP hw hK hc i pins s σ H E I hf ⟨⟨old, he⟩, hi⟩ hg
    subst hP hw hK
    obtain ⟨f0, f1, f2, f3, f4, f5⟩ := hf it (by simp)
    have hg : x.cps.size = i := hg
    subst hg
    exact wpAny_pyNext_enum_endD (drawsT (A := X.A.in1) (show X.A.in1.handled = none from I.ok.hd hc) it x t) he hi fun h1 eb => ⟨rfl, I.turned (t' := s.toks) (fun b o hb q => eb b o hb q) f0 f1 f3 f4 f5⟩
  self := fun A i s Q E ⟨⟨_, he⟩, _⟩ h => wpAny_pyIter_enum he h
def iES (ta : TA) : TI := fun σ H R => ta σ H fun vs H1 => ∃ x, vs = [.str x] ∧ R (ItES x) H1
theorem pi_enumS {X : Cx} {e : Expr} {ta : TA} {p pos tpos : Pos} {elts : List Expr} {kk : Nat} (hg : Gl X "enumerate") (hm : X.mg "enumerate" = none) (ha : PA X [e] ta) (hs : starEach [e] X.env = [(false, eval e X.env)] := by rfl) :
    PI X (.Tuple elts kk tpos) (.Call (.Name "enumerate" p) [e] [] pos) (iES ta) := by
  refine ⟨fun pins s σ H R I h => Call_ (ld_blt I hg hm boot_enumerate (PyProof.Rows.callWith_type1 (thn (ha.run pos pins s σ H _ I h) fun us s1 ⟨vs, H1, I1, r1, x, ex, q⟩ => ?_) hs rfl))⟩
  subst ex
  obtain ⟨u, rfl, ru⟩ := vals1 r1
  obtain ⟨t, rfl⟩ := ru
  refine call_enumerate_str fun h1 he hi hsz hk => wpAny_pyIter_enum he ?_
  have J : Inv X pins σ H1 { s1 with heap := h1 } := I1.kept (t' := s1.toks) hk
  refine ⟨s1.heap.objs.size + 1, [s1.heap.objs.size + 1, s1.heap.objs.size], _, _, H1, rfl, J, turn_ES x t _ s1.heap.objs.size (Nat.succ_ne_self _), ⟨⟨.none, he⟩, hi⟩, fun b hb => ?_, q⟩
  have lb : s1.heap.objs.size ≤ b := by
    rcases List.mem_cons.mp hb with rfl | hb
    · exact Nat.le_succ _
    · rw [List.mem_singleton.mp hb]
      exact Nat.le_refl _
  exact I1.fpOk lb (I1.hok.fresh lb)
theorem walk_ES {x : Str} : Walk (ItES x) x.cps.size (fun _ => True) (fun i H v H' => ∃ T c, v = .ref T ∧ H T = none ∧ H' = upd H T (.tup [.int (i : Nat), .str ⟨#[c]⟩]) ∧ x.cps[i]? = some c) :=
  ⟨fun _ _ hi _ => hi, fun _ _ => rfl, fun _ _ _ _ _ _ y => y⟩
end L2

set_option Elab.async false
set_option linter.all false
set_option maxRecDepth 100000
set_option maxHeartbeats 4000000
/-! sign_leads. -/
namespace K10
open PySem L2 L2.EV
abbrev sLeads : Stmt := top 22
def fr6 (fr : List T3) (i : Nat) : List Nat := (List.range 6).map fun g : Nat => firB fr i (g : Int)
def nV (n : Nat) : V := .int (n : Nat)
theorem off_mono {fr : List T3} : ∀ {n m : Nat}, n ≤ m → off fr n ≤ off fr m := by
  intro n m h
  induction m with
  | zero => rw [Nat.le_zero.mp h]; exact Nat.le_refl _
  | succ m ih =>
    rcases Nat.lt_or_ge m n with c | c
    · have : n = m + 1 := by omega
      rw [this]; exact Nat.le_refl _
    · exact Nat.le_trans (ih c) (Nat.le_add_right _ _)
theorem fr6_at {fr : List T3} {i g : Nat} (h : g < 6) : (fr6 fr i)[g]? = some (firB fr i (g : Int)) := by
  unfold fr6
  rw [List.getElem?_map, List.getElem?_range h]
  rfl
theorem fr6_set {fr : List T3} {i g : Nat} (h : (stq fr i).1 = (g : Int)) (g6 : g < 6) : (fr6 fr i).set g (firB fr i (g : Int) + 2 ^ off fr i) = fr6 fr (i + 1) := by
  apply List.ext_getElem?
  intro j
  by_cases c : j < 6
  · rw [fr6_at c]
    by_cases e : g = j
    · subst e
      rw [List.getElem?_set_self (by unfold fr6; simpa using g6)]
      show some _ = some (firB fr i (g : Int) + if (stq fr i).1 = (g : Int) then 2 ^ off fr i else 0)
      rw [if_pos h]
    · rw [List.getElem?_set_ne e, fr6_at c]
      show some _ = some (firB fr i (j : Int) + if (stq fr i).1 = (j : Int) then 2 ^ off fr i else 0)
      rw [if_neg (fun z => e (by omega))]
      rfl
  · have l1 : ∀ i, (fr6 fr i).length = 6 := fun i => by unfold fr6; simp
    rw [List.getElem?_eq_none (by rw [List.length_set, l1]; omega), List.getElem?_eq_none (by rw [l1]; omega)]
theorem firB_zero (fr : List T3) : (fr6 fr 0) = List.replicate 6 0 := by
  unfold fr6
  rfl
def spLeads : Sp := fun vs H Q _ => ∃ (f : Addr) (fr : List T3) (last : Nat), vs = [.ref f] ∧ FrA H f fr ∧ Frm fr last ∧
  ∀ H' p D ls, Same H H' → H' p = some (.tup [nV (firB fr fr.length 0), .ref D]) → LdA H H' D (csE (allE fr fr.length)) (allE fr fr.length) ls → Q (.ref p) H'
structure Lz (K : PySem.W.Frag) (mg : Str → Option Value) where
  B : Bt K mg
  f : Addr
  d : FuncData
  F : Fun K "sign_leads" "sign_leads" sLeads f d
  b : Binds K d ["framing"] []
  m : mg "sign_leads" = some (.ref f)
  most : ∃ t, mg "MANY_STANDINGS" = some (.int 6 t)
section
variable {P : Program} {w : World} {K : PySem.W.Frag} {mg : Str → Option Value} {base : Heap}
abbrev NLz : List Str := ["framing", "bits", "firsts", "number", "start", "piece", "goal", "leads", "at", "sign", "further", "standing"]
theorem scLeads : FnScope NLz ["framing"] (defScope sLeads) := ⟨rfl, rfl, rfl, by decide +kernel, rfl, by decide +kernel, by decide +kernel⟩
theorem ok_leads (G : Lz K mg) : FnOk P w K mg base CX0 2 G.f G.d ["framing"] spLeads := by
  have GB : FnOk P w K mg base CX0 1 G.B.f G.B.d ["framing"] spBits := ok_bits G.B
  refine G.F.ok scLeads (fun vs H Q E h => ?_) (fun cdv A outer s H vs Q E hr h => ?_)
  · obtain ⟨f, fr, last, rfl, _⟩ := h
    rfl
  · obtain ⟨f, fr, last, rfl, fa, fm, q⟩ := h
    have hu := hu_of hr
    have hr1 := hr.mono (j := 1) (by omega)
    obtain ⟨tm, eM⟩ := G.most
    refine ⟨_, pss_cons (ps_set (i := 1) scLeads.nd rfl (Or.inl rfl) (pe_call GB hr1 (by rfl) G.B.m G.B.F.kp G.B.b .nil pass0 (pa_cons (pv 0) pa_nil)))
      (pss_cons (ps_setLc (i := 2) (own := [("standing", 11)]) (g := gName 11) (te := tC (.int 0)) rfl scLeads.nd rfl rfl (by rfl) (pi_range1 (by rfl) G.B.ra (pa_cons (pe_glob (v := .int 6) (by rfl) eM ⟨_, rfl⟩) pa_nil))
        (blkOk_by (N := NLz) (sc := defScope sLeads) (by decide +kernel)) (fun _ _ _ _ _ => pg_name (i := 11) scLeads.nd rfl (Or.inl rfl)) (fun _ _ _ _ _ => pts_nil) (fun _ _ _ _ _ => pe_int))
      (pss_cons (ps_for PassesOwn.never rfl (pi_enumT (by rfl) G.B.en (pa_cons (pv 0) pa_nil)) (pg_tup rfl (pgs_cons (pg_name (i := 3) scLeads.nd rfl (Or.inl rfl)) (pgs_cons (pg_tup rfl (pgs_cons (pg_name (i := 4) scLeads.nd rfl (Or.inl rfl)) (pgs_cons (pg_name (i := 5) scLeads.nd rfl (Or.inl rfl)) (pgs_cons (pg_name (i := 6) scLeads.nd rfl (Or.inl rfl)) pgs_nil)))) pgs_nil)))
        (pss_one (ps_augS (pv 2) (pv 4) get_listY (pe_dget hu (pv 1) (pe_tup (pa_cons (pv 3) (pa_cons pe_int pa_nil))) (fun _ _ => rfl)) ip_add set_list)))
      (pss_cons (ps_set (i := 7) scLeads.nd rfl (Or.inl rfl) pe_dnewK)
      (pss_cons (ps_for PassesOwn.never rfl (pi_enumT (by rfl) G.B.en (pa_cons (pv 0) pa_nil)) (pg_tup rfl (pgs_cons (pg_name (i := 3) scLeads.nd rfl (Or.inl rfl)) (pgs_cons (pg_tup rfl (pgs_cons (pg_name (i := 4) scLeads.nd rfl (Or.inl rfl)) (pgs_cons (pg_name (i := 5) scLeads.nd rfl (Or.inl rfl)) (pgs_cons (pg_name (i := 6) scLeads.nd rfl (Or.inl rfl)) pgs_nil)))) pgs_nil)))
        (pss_one (ps_for PassesOwn.never rfl (pi_enumS (by rfl) G.B.en (pa_cons (pv 5) pa_nil)) (pg_tup rfl (pgs_cons (pg_name (i := 8) scLeads.nd rfl (Or.inl rfl)) (pgs_cons (pg_name (i := 9) scLeads.nd rfl (Or.inl rfl)) pgs_nil)))
          (pss_cons (ps_set (i := 10) scLeads.nd rfl (Or.inl rfl) (pe_dget2 hu (pv 1) (pe_tup (pa_cons (pv 3) (pa_cons (pe_op op_add (pv 8) pe_int) pa_nil))) (pe_ix ix_list (pv 2) (pv 6) (fun _ _ => rfl)) ⟨rfl, rfl, rfl, rfl⟩))
          (pss_one (ps_expr (pe_bm PySem.F.plainAttrs_list PySem.F.slot_list_append PySem.F.type_list_append mt_append (pe_dsetd (pv 7) (pv 9) (pe_lst pa_nil) ⟨rfl, rfl, rfl, rfl⟩)
            (pa_cons (pe_tup (pa_cons (pe_dget hu (pv 1) (pe_tup (pa_cons (pv 3) (pa_cons (pv 8) pa_nil))) (fun _ _ => rfl)) (pa_cons (pv 10) pa_nil))) pa_nil))))))))
      (pss_one (ps_ret (pe_tup (pa_cons (pe_ix ix_list (pv 2) pe_int (fun _ _ => rfl)) (pa_cons (pv 7) pa_nil))))))))), ?_⟩
    obtain ⟨ts, hf, tl, tt⟩ := id fa
    have fl := fm.l1
    have step : ∀ (i : Nat) (xo : V), (ts.map V.ref)[i]? = some xo → ∃ tp st, xo = .ref tp ∧ fr[i]? = some st ∧ S3 H tp st ∧ i < fr.length := fun i xo h2 => by
      rw [List.getElem?_map] at h2
      cases e : ts[i]? with
      | none => rw [e] at h2; cases h2
      | some tp =>
        rw [e] at h2
        have kl : i < fr.length := by rw [← tl]; exact (List.getElem?_eq_some_iff.mp e).1
        exact ⟨tp, fr[i], (Option.some.inj h2).symm, List.getElem?_eq_getElem kl, tt i tp _ e (List.getElem?_eq_getElem kl), kl⟩
    have std : ∀ (i : Nat) st, fr[i]? = some st → ∃ a b : Nat, st.1 = (a : Int) ∧ st.2.2 = (b : Int) ∧ a < 6 ∧ b < 6 := fun i st hst => by
      have m := List.mem_of_getElem? hst
      have sp := fm.stp _ m
      have lo := fm.lo _ m
      have l5 := fm.l5
      exact ⟨st.1.toNat, st.2.2.toNat, by have := sp.1; omega, by have := sp.2.2.2.1; omega, by have := sp.1; omega, by have := sp.2.2.2.1; omega⟩
    refine ⟨_, rfl, f, fr, last, rfl, fa, fm, fun H1 B s1 nB hB => ?_⟩
    refine ⟨6, rfl, by decide, by decide, fun F hF => ?_⟩
    have nF : H F = none := none_of s1 hF
    have uF := same_upd (o := HO.lst []) hF
    have FB : F ≠ B := fun z => by rw [z, hB] at hF; cases hF
    refine lc_it walk_range (fun i H' => H' F = some (.lst ((List.replicate i 0).map nV)) ∧ Same H1 H') ⟨upd_same, uF⟩ (fun _ _ _ _ => trivial) ?_ ?_
    · rintro i y H2 H3 hi ⟨hl, kp⟩ ⟨rfl, rfl⟩
      refine ⟨rfl, _, hl, ?_, ?_, fun b o z => ?_⟩
      · rw [List.length_map, List.length_replicate, sizeLine_eq]
        have : i < 6 := hi
        omega
      · rw [List.replicate_succ', List.map_append]
        exact upd_same
      · rw [upd_ne (ne_of_none z hF)]
        exact kp b o z
    · rintro H2 ⟨hl, s2⟩
      have s12 := s1.trans s2
      have hl : H2 F = some (.lst ((fr6 fr 0).map nV)) := hl
      have hB2 := s2 _ _ hB
      refine ⟨_, rfl, f, _, rfl, SqT.of (s12 _ _ hf), for_it (walk_enumT (xs := ts.map V.ref)) (fun i σ H' => ∃ (v3 v4 v5 v6 : Option V), σ = [some (.ref f), some (.ref B), some (.ref F), v3, v4, v5, v6, none, none, none, none, none] ∧ Same H H' ∧ H' F = some (.lst ((fr6 fr i).map nV)) ∧ H' B = some (.dT (allB fr fr.length)))
        ⟨none, none, none, none, rfl, s12, hl, hB2⟩ (fun i σ H' _ ⟨_, _, _, _, _, z, _⟩ => SqT.of (z _ _ hf)) ?_ ?_⟩
      · rintro i y σ H3 H4 hi ⟨v3, v4, v5, v6, rfl, s3, hF3, hB3⟩ ⟨T, xi, xo, rfl, nT, rfl, h1, h2⟩
        cases h1
        obtain ⟨tp, st, rfl, hst, h3, kl⟩ := step i xo h2
        obtain ⟨ga, gb, ea, eb, a6, b6⟩ := std i st hst
        have uT := same_upd (o := HO.tup [V.int (i : Nat), V.ref tp]) nT
        have s4 := s3.trans uT
        refine ⟨T, _, rfl, SqT.of upd_same, rfl, _, _, rfl, _, _, rfl, tp, _, rfl, SqT.of (s4 _ _ h3), rfl, _, _, rfl, _, _, rfl, _, _, rfl, rfl, rfl, ?_⟩
        have hF4 := uT _ _ hF3
        have hB4 := uT _ _ hB3
        clear uT
        generalize upd H3 T (.tup [V.int (i : Nat), V.ref tp]) = H5 at s4 hF4 hB4 ⊢
        have fat : ((fr6 fr i).map nV)[ga]? = some (nV (firB fr i (ga : Int))) := by rw [List.getElem?_map, fr6_at a6]; rfl
        refine ⟨_, rfl, _, rfl, F, _, _, ga, rfl, by rw [ea], SqL.of hF4, fat, ?_⟩
        refine ⟨_, rfl, _, rfl, (by show 2 ≤ sizeLine; decide), fun tk ntk => ?_⟩
        have uk := same_upd (o := HO.tup [V.int (i : Nat), V.int 0]) ntk
        have p0 : 0 < pln fr i := by
          unfold pln
          rw [stq_at hst]
          exact (pc_len (fm.stp _ (List.mem_of_getElem? hst)).2.2.1).1
        have bv : valV (allB fr fr.length) (plK i 0) = some (nV (2 ^ off fr i)) := by
          rw [allB_val, if_pos ⟨kl, p0⟩]
          rfl
        refine ⟨B, nV (2 ^ off fr i), rfl, by rw [← bv]; exact DGet.t (k := plK i 0) (uk _ _ hB4) upd_same, ?_⟩
        refine ⟨_, _, rfl, rfl, F, _, st.1, ga, rfl, rfl, uk _ _ hF4, ?_, ?_⟩
        · rw [ea]
          unfold ixN
          rw [if_pos (by omega), if_pos (by rw [List.length_map]; unfold fr6; simp; omega)]
          rfl
        · refine ⟨_, _, _, _, rfl, same_set nF (s4.trans uk), ?_, by rw [upd_ne FB.symm]; exact uk _ _ hB4⟩
          rw [upd_same, ← fr6_set (by rw [stq_at hst]; exact ea) a6, List.map_set]
          rfl
      · rintro σ H3 ⟨v3, v4, v5, v6, rfl, s3, hF3, hB3⟩
        rw [List.length_map, tl] at hF3
        refine fun D nD => ?_
        have uD := same_upd (o := HO.dK []) nD
        have L0 := LdA.new nD
        have fz : ∀ {g : Nat}, g < 6 → atI ((fr6 fr fr.length).map nV) (g : Int) = some (nV (firB fr fr.length (g : Int))) := fun h => atI_nat (by rw [List.getElem?_map, fr6_at h]; rfl)
        clear hF hl hB2 s12 uF uD
        refine ⟨_, rfl, f, _, rfl, SqT.of (L0.s _ _ (s3 _ _ hf)), for_it (walk_enumT (xs := ts.map V.ref)) (fun i σ H' => ∃ (v3 v4 v5 v6 v8 v9 v10 : Option V) (ls : List Addr), σ = [some (.ref f), some (.ref B), some (.ref F), v3, v4, v5, v6, some (.ref D), v8, v9, v10, none] ∧ LdA H3 H' D (csE (allE fr i)) (allE fr i) ls)
          ⟨v3, v4, v5, v6, none, none, none, [], rfl, L0⟩ (fun i σ H' _ ⟨_, _, _, _, _, _, _, _, _, z⟩ => SqT.of (z.s _ _ (s3 _ _ hf))) ?_ ?_⟩
        · rintro i y σ H4 H5 hi ⟨v3, v4, v5, v6, v8, v9, v10, ls, rfl, L4⟩ ⟨T, xi, xo, rfl, nT, rfl, h1, h2⟩
          cases h1
          obtain ⟨tp, st, rfl, hst, h3, kl⟩ := step i xo h2
          obtain ⟨ga, gb, ea, eb, a6, b6⟩ := std i st hst
          have uT := same_upd (o := HO.tup [V.int (i : Nat), V.ref tp]) nT
          have L5 := L4.same uT
          refine ⟨T, _, rfl, SqT.of upd_same, rfl, _, _, rfl, _, _, rfl, tp, _, rfl, SqT.of (L5.s _ _ (s3 _ _ h3)), rfl, _, _, rfl, _, _, rfl, _, _, rfl, rfl, rfl, ?_⟩
          clear uT L4
          generalize upd H4 T (.tup [V.int (i : Nat), V.ref tp]) = H6 at L5 ⊢
          have pe : st.2.1.length = pln fr i := by unfold pln; rw [stq_at hst]
          have p8 := (pc_len (fm.stp _ (List.mem_of_getElem? hst)).2.2.1).2
          refine ⟨_, rfl, st.2.1, rfl, for_it walk_ES (fun j σ H' => ∃ (v8 v9 v10 : Option V) (ls : List Addr), σ = [some (.ref f), some (.ref B), some (.ref F), some (.int (i : Nat)), some (.int st.1), some (.str st.2.1), some (.int st.2.2), some (.ref D), v8, v9, v10, none] ∧ LdA H3 H' D (csE (allE fr i ++ rowE fr i j)) (allE fr i ++ rowE fr i j) ls)
            ⟨v8, v9, v10, ls, rfl, by unfold rowE; simpa using L5⟩ (fun _ _ _ _ _ => trivial) ?_ ?_⟩
          · rintro j y σ H7 H8 hj ⟨v8, v9, v10, ls, rfl, L7⟩ ⟨T2, c, rfl, nT2, rfl, hc⟩
            have jl : j < pln fr i := by rw [← pe]; exact hj
            have ec : chr fr i j = c := by
              unfold chr
              rw [stq_at hst, List.getD_eq_getElem?_getD]
              have : (sl st.2.1)[j]? = some c := by
                show st.2.1.cps.toList[j]? = some c
                rw [Array.getElem?_toList]
                exact hc
              rw [this]
              rfl
            have uT := same_upd (o := HO.tup [V.int (j : Nat), V.str ⟨#[c]⟩]) nT2
            have L8 := L7.same uT
            refine ⟨T2, _, rfl, SqT.of upd_same, rfl, _, _, rfl, _, _, rfl, rfl, ?_⟩
            clear uT L7
            generalize upd H7 T2 (.tup [V.int (j : Nat), V.str ⟨#[c]⟩]) = H9 at L8 ⊢
            have hB9 := L8.s _ _ hB3
            have hF9 := L8.s _ _ hF3
            refine ⟨_, rfl, B, rfl, .inr ⟨_, .inl hB9⟩, _, rfl, _, rfl, _, _, rfl, rfl, (by show 2 ≤ sizeLine; decide), fun tk ntk => ?_⟩
            have uk := same_upd (o := HO.tup [V.int (i : Nat), V.int ((j : Int) + 1)]) ntk
            have L9 := L8.same uk
            refine ⟨_, rfl, _, rfl, F, _, st.2.2, nV (firB fr fr.length (gb : Int)), rfl, rfl, SqL.of (uk _ _ hF9), by rw [eb]; exact fz b6, ?_⟩
            refine ⟨_, DGet.t (k := plK i (j + 1)) (uk _ _ hB9) upd_same, ?_⟩
            have ef : ((valV (allB fr fr.length) (plK i (j + 1))).getD (nV (firB fr fr.length (gb : Int)))) = nV (fur fr i j) := by
              rw [allB_val]
              unfold fur
              by_cases z : j + 1 < pln fr i
              · rw [if_pos ⟨kl, z⟩, if_pos z]
                rfl
              · rw [if_neg (fun y => z y.2), if_neg z, stq_at hst, eb]
                rfl
            rw [ef]
            clear L8
            generalize upd H9 tk (.tup [V.int (i : Nat), V.int ((j : Int) + 1)]) = HA at L9 uk ⊢
            have hBA := L9.s _ _ hB3
            have hes : allE fr i ++ rowE fr i (j + 1) = (allE fr i ++ rowE fr i j) ++ [(c, 2 ^ (off fr i + j), fur fr i j)] := by rw [rowE_succ, ec, List.append_assoc]
            have lE : (allE fr i ++ rowE fr i j).length ≤ 1000 := by
              rw [List.length_append, allE_len]
              unfold rowE
              rw [List.length_map, List.length_range]
              have := off_le fm i (by omega)
              omega
            have bv : valV (allB fr fr.length) (plK i j) = some (nV (2 ^ (off fr i + j))) := by
              rw [allB_val, if_pos ⟨kl, jl⟩]
              rfl
            rw [hes, csE_snoc]
            have lK := csE_len (allE fr i ++ rowE fr i j)
            generalize allE fr i ++ rowE fr i j = es at L9 lE lK ⊢
            generalize csE es = ks at L9 lK ⊢
            have lo := ofS_len es c
            refine ⟨_, rfl, D, rfl, .inl ⟨_, .inl L9.hD⟩, _, rfl, by decide, fun l nl => ?_⟩
            have ul := same_upd (o := HO.lst []) nl
            have LA := L9.same ul
            refine ⟨_, sgK c, LA.hD, rfl, by rw [zk_len sgK (by rw [List.length_map, L9.l]), sizeLine_eq]; omega, fun v hv => ?_, fun hn => ?_⟩
            · have hc : c ∈ ks := Classical.byContradiction fun z => by
                rw [zk_none sgK sgK_inj z] at hv
                cases hv
              obtain ⟨i0, l0, t0, g1, g2, g3, g4, g5⟩ := LA.find hc
              rw [g3] at hv
              cases hv
              refine ⟨.inl ⟨rfl, _, SqL.of g4⟩, _, rfl, _, rfl, _, rfl, (by show 2 ≤ sizeLine; decide), fun tq ntq => ?_⟩
              have uq := same_upd (o := HO.tup [V.int (i : Nat), V.int (j : Nat)]) ntq
              have LC := LA.same uq
              refine ⟨B, nV (2 ^ (off fr i + j)), rfl, by rw [← bv]; exact DGet.t (k := plK i j) (LC.s _ _ hB3) upd_same, _, rfl, (by show 2 ≤ sizeLine; decide), fun tp2 ntp2 => ?_⟩
              have up := same_upd (o := HO.tup [nV (2 ^ (off fr i + j)), nV (fur fr i j)]) ntp2
              have LD := LC.same up
              refine ⟨l0, t0.map V.ref, _, rfl, rfl, up _ _ (uq _ _ g4), by rw [List.length_map, sizeLine_eq]; omega, ?_⟩
              have LE := LD.push (p := (2 ^ (off fr i + j), fur fr i j)) g1 g2 (up _ _ (uq _ _ g4)) upd_same
              exact ⟨_, _, _, _, rfl, by rw [show addN ks c = ks from if_pos hc]; exact LE⟩
            · have hc : ¬ c ∈ ks := fun z => by
                obtain ⟨_, _, _, _, _, g3, _⟩ := L9.find z
                rw [g3] at hn
                cases hn
              rw [putK_new _ hn]
              have LB := L9.key hc nl
              have nD2 : l ≠ D := fun z => by rw [z, L9.hD] at nl; cases nl
              have g1 : (ks ++ [c])[ks.length]? = some c := by simp
              have g2 : (ls ++ [l])[ks.length]? = some l := by rw [← L9.l]; simp
              have g4 : (upd (upd HA l (.lst [])) D (.dK (zk sgK ks (ls.map V.ref) ++ [(sgK c, .ref l)]))) l = some (.lst (([] : List Addr).map V.ref)) := by
                rw [upd_ne nD2]
                exact upd_same
              refine ⟨.inl ⟨rfl, _, SqL.of g4⟩, _, rfl, _, rfl, _, rfl, (by show 2 ≤ sizeLine; decide), fun tq ntq => ?_⟩
              have uq := same_upd (o := HO.tup [V.int (i : Nat), V.int (j : Nat)]) ntq
              have LC := LB.same uq
              refine ⟨B, nV (2 ^ (off fr i + j)), rfl, by rw [← bv]; exact DGet.t (k := plK i j) (LC.s _ _ hB3) upd_same, _, rfl, (by show 2 ≤ sizeLine; decide), fun tp2 ntp2 => ?_⟩
              have up := same_upd (o := HO.tup [nV (2 ^ (off fr i + j)), nV (fur fr i j)]) ntp2
              have LD := LC.same up
              refine ⟨l, ([] : List Addr).map V.ref, _, rfl, rfl, up _ _ (uq _ _ g4), by rw [sizeLine_eq]; decide, ?_⟩
              have LE := LD.push (p := (2 ^ (off fr i + j), fur fr i j)) g1 g2 (up _ _ (uq _ _ g4)) upd_same
              exact ⟨_, _, _, _, rfl, by rw [show addN ks c = ks ++ [c] from if_neg hc]; exact LE⟩
          · rintro σ H7 ⟨v8, v9, v10, ls, rfl, L7⟩
            have L8 : LdA H3 H7 D (csE (allE fr (i + 1))) (allE fr (i + 1)) ls := by
              have e : st.2.1.cps.size = pln fr i := pe
              rw [e] at L7
              exact L7
            exact ⟨_, _, _, _, _, _, _, ls, rfl, L8⟩
        · rintro σ H4 ⟨v3, v4, v5, v6, v8, v9, v10, ls, rfl, L4⟩
          rw [List.length_map, tl] at L4
          refine ⟨_, rfl, F, _, 0, nV (firB fr fr.length 0), rfl, rfl, SqL.of (L4.s _ _ hF3), fz (g := 0) (by decide), _, rfl, (by show 2 ≤ sizeLine; decide), fun p np => ?_⟩
          have up := same_upd (o := HO.tup [nV (firB fr fr.length 0), V.ref D]) np
          exact q _ p D ls (s3.trans (L4.s.trans up)) upd_same ((L4.base s3).same up)
end
end K10

set_option Elab.async false
set_option linter.all false
set_option maxRecDepth 100000
set_option maxHeartbeats 4000000
/-! places_behind, places_ahead. -/
namespace K10
open PySem L2 L2.EV PyProof.Rows
abbrev sBeh : Stmt := top 23
abbrev sAhd : Stmt := top 24
def behF (ps : List (Nat × Nat)) (S : Nat) : Nat := ps.foldl (fun b p => if S &&& p.1 = 0 then b else b ||| p.2) 0
def ahdF (ps : List (Nat × Nat)) (S : Nat) : Nat := ps.foldl (fun b p => if S &&& p.2 = 0 then b else b ||| p.1) 0
def spBeh (f : List (Nat × Nat) → Nat → Nat) : Sp := fun vs H Q _ => ∃ (l : Addr) (ps : List (Nat × Nat)) (S : Nat), vs = [.ref l, nV S] ∧ PrA H l ps ∧ Q (nV (f ps S)) H
structure Bh (K : PySem.W.Frag) (mg : Str → Option Value) where
  f1 : Addr
  f2 : Addr
  d1 : FuncData
  d2 : FuncData
  F : Fun K "places_behind" "places_behind" sBeh f1 d1
  G : Fun K "places_ahead" "places_ahead" sAhd f2 d2
  b1 : Binds K d1 ["pairs", "places"] []
  b2 : Binds K d2 ["pairs", "places"] []
  m1 : mg "places_behind" = some (.ref f1)
  m2 : mg "places_ahead" = some (.ref f2)
theorem and_nn (a b : Nat) : Builtin.bitAnd (a : Nat) (b : Nat) = ((a &&& b : Nat) : Int) := by
  rw [bitAnd_pp (by omega) (by omega), Int.toNat_natCast, Int.toNat_natCast]
theorem or_nn (a b : Nat) : Builtin.bitOr (a : Nat) (b : Nat) = ((a ||| b : Nat) : Int) := by
  rw [Bits.bitOr_pp (by omega) (by omega), Int.toNat_natCast, Int.toNat_natCast]
section
variable {P : Program} {w : World} {K : PySem.W.Frag} {mg : Str → Option Value} {base : Heap}
theorem scBeh : FnScope ["pairs", "places", "behind", "place", "goals"] ["pairs", "places"] (defScope sBeh) := ⟨rfl, rfl, rfl, by decide +kernel, rfl, by decide +kernel, by decide +kernel⟩
theorem scAhd : FnScope ["pairs", "places", "ahead", "place", "goals"] ["pairs", "places"] (defScope sAhd) := ⟨rfl, rfl, rfl, by decide +kernel, rfl, by decide +kernel, by decide +kernel⟩
theorem pr_at {H : Hp} {ts : List Addr} {ps : List (Nat × Nat)} (hl : ts.length = ps.length) (ht : ∀ (i : Nat) t p, ts[i]? = some t → ps[i]? = some p → P2 H t p) {i : Nat} {x : V} (hx : (ts.map V.ref)[i]? = some x) : ∃ t p, x = .ref t ∧ ps[i]? = some p ∧ P2 H t p := by
  rw [List.getElem?_map] at hx
  cases e : ts[i]? with
  | none => rw [e] at hx; cases hx
  | some t =>
    rw [e] at hx
    have il : i < ps.length := by rw [← hl]; exact (List.getElem?_eq_some_iff.mp e).1
    exact ⟨t, _, (Option.some.inj hx).symm, List.getElem?_eq_getElem il, ht i t _ e (List.getElem?_eq_getElem il)⟩
theorem fold_take {α β : Type} (f : β → α → β) (b : β) {l : List α} {i : Nat} {a : α} (h : l[i]? = some a) : (l.take (i + 1)).foldl f b = f ((l.take i).foldl f b) a := by
  rw [List.take_succ, h, List.foldl_append]
  rfl
theorem ok_beh (G : Bh K mg) : FnOk P w K mg base CX0 1 G.f1 G.d1 ["pairs", "places"] (spBeh behF) := by
  refine G.F.ok scBeh (fun vs H Q E h => ?_) (fun cdv A outer s H vs Q E hr h => ?_)
  · obtain ⟨l, ps, S, rfl, _⟩ := h
    rfl
  · obtain ⟨l, ps, S, rfl, hp, q⟩ := h
    obtain ⟨ts, hl, tl, tt⟩ := hp
    refine ⟨_, pss_cons (ps_set (i := 2) scBeh.nd rfl (Or.inl rfl) pe_int)
      (pss_cons (ps_for PassesOwn.never rfl (pi_list (pv 0)) (pg_tup rfl (pgs_cons (pg_name (i := 3) scBeh.nd rfl (Or.inl rfl)) (pgs_cons (pg_name (i := 4) scBeh.nd rfl (Or.inl rfl)) pgs_nil)))
        (pss_one (ps_if (pt_cmpR op_ne (pe_op op_and (pv 1) (pv 3)) pe_int (nomark _)) (pss_one (ps_aug (i := 2) scBeh.nd rfl (Or.inl rfl) (pv 4) ip_orY)) pss_nil)))
      (pss_one (ps_ret (pv 2)))), ?_⟩
    refine ⟨_, rfl, l, rfl, ⟨_, SqL.of hl⟩, for_it (walk_list (xs := ts.map V.ref)) (fun i σ H' => ∃ v3 v4 : Option V, σ = [some (.ref l), some (nV S), some (nV (behF (ps.take i) S)), v3, v4] ∧ H' = H)
      ⟨none, none, rfl, rfl⟩ (fun i σ H' _ ⟨_, _, _, z⟩ => by rw [z]; exact SqL.of hl) ?_ ?_⟩
    · rintro i x σ H1 H2 hi ⟨v3, v4, rfl, rfl⟩ ⟨rfl, hx⟩
      obtain ⟨t, p, rfl, hpi, h2⟩ := pr_at tl tt hx
      refine ⟨t, _, rfl, SqT.of h2, rfl, _, _, rfl, _, _, rfl, rfl, ?_⟩
      refine ⟨_, rfl, _, rfl, _, _, rfl, rfl, rfl, _, rfl, ?_⟩
      have e : (!decide (V.int (Builtin.bitAnd (S : Int) (p.1 : Int)) = V.int 0)) = decide (¬ S &&& p.1 = 0) := by
        rw [and_nn]
        by_cases c : S &&& p.1 = 0
        · simp [c]
        · simp [c]
      have st := fold_take (fun b p => if S &&& p.1 = 0 then b else b ||| p.2) 0 hpi
      by_cases c : S &&& p.1 = 0
      · refine iteF' (e.trans (by simp [c])) ?_
        rw [show behF (ps.take (i + 1)) S = behF (ps.take i) S by unfold behF; rw [st, if_pos c]]
        exact ⟨_, _, rfl, rfl⟩
      · refine iteT' (e.trans (by simp [c])) ?_
        refine ⟨_, rfl, _, rfl, _, _, rfl, rfl, ?_⟩
        have en : V.int (Builtin.bitOr (behF (ps.take i) S : Nat) (p.2 : Nat)) = nV (behF (ps.take (i + 1)) S) := by
          rw [or_nn, show behF (ps.take (i + 1)) S = behF (ps.take i) S ||| p.2 by unfold behF; rw [st, if_neg c]]
          rfl
        rw [← en]
        exact ⟨_, _, rfl, rfl⟩
    · rintro σ H1 ⟨v3, v4, rfl, rfl⟩
      refine ⟨_, rfl, ?_⟩
      rw [List.length_map, tl, List.take_length]
      exact q
theorem ok_ahd (G : Bh K mg) : FnOk P w K mg base CX0 1 G.f2 G.d2 ["pairs", "places"] (spBeh ahdF) := by
  refine G.G.ok scAhd (fun vs H Q E h => ?_) (fun cdv A outer s H vs Q E hr h => ?_)
  · obtain ⟨l, ps, S, rfl, _⟩ := h
    rfl
  · obtain ⟨l, ps, S, rfl, hp, q⟩ := h
    obtain ⟨ts, hl, tl, tt⟩ := hp
    refine ⟨_, pss_cons (ps_set (i := 2) scAhd.nd rfl (Or.inl rfl) pe_int)
      (pss_cons (ps_for PassesOwn.never rfl (pi_list (pv 0)) (pg_tup rfl (pgs_cons (pg_name (i := 3) scAhd.nd rfl (Or.inl rfl)) (pgs_cons (pg_name (i := 4) scAhd.nd rfl (Or.inl rfl)) pgs_nil)))
        (pss_one (ps_if (pt_cmpR op_ne (pe_op op_and (pv 1) (pv 4)) pe_int (nomark _)) (pss_one (ps_aug (i := 2) scAhd.nd rfl (Or.inl rfl) (pv 3) ip_orY)) pss_nil)))
      (pss_one (ps_ret (pv 2)))), ?_⟩
    refine ⟨_, rfl, l, rfl, ⟨_, SqL.of hl⟩, for_it (walk_list (xs := ts.map V.ref)) (fun i σ H' => ∃ v3 v4 : Option V, σ = [some (.ref l), some (nV S), some (nV (ahdF (ps.take i) S)), v3, v4] ∧ H' = H)
      ⟨none, none, rfl, rfl⟩ (fun i σ H' _ ⟨_, _, _, z⟩ => by rw [z]; exact SqL.of hl) ?_ ?_⟩
    · rintro i x σ H1 H2 hi ⟨v3, v4, rfl, rfl⟩ ⟨rfl, hx⟩
      obtain ⟨t, p, rfl, hpi, h2⟩ := pr_at tl tt hx
      refine ⟨t, _, rfl, SqT.of h2, rfl, _, _, rfl, _, _, rfl, rfl, ?_⟩
      refine ⟨_, rfl, _, rfl, _, _, rfl, rfl, rfl, _, rfl, ?_⟩
      have e : (!decide (V.int (Builtin.bitAnd (S : Int) (p.2 : Int)) = V.int 0)) = decide (¬ S &&& p.2 = 0) := by
        rw [and_nn]
        by_cases c : S &&& p.2 = 0
        · simp [c]
        · simp [c]
      have st := fold_take (fun b p => if S &&& p.2 = 0 then b else b ||| p.1) 0 hpi
      by_cases c : S &&& p.2 = 0
      · refine iteF' (e.trans (by simp [c])) ?_
        rw [show ahdF (ps.take (i + 1)) S = ahdF (ps.take i) S by unfold ahdF; rw [st, if_pos c]]
        exact ⟨_, _, rfl, rfl⟩
      · refine iteT' (e.trans (by simp [c])) ?_
        refine ⟨_, rfl, _, rfl, _, _, rfl, rfl, ?_⟩
        have en : V.int (Builtin.bitOr (ahdF (ps.take i) S : Nat) (p.1 : Nat)) = nV (ahdF (ps.take (i + 1)) S) := by
          rw [or_nn, show ahdF (ps.take (i + 1)) S = ahdF (ps.take i) S ||| p.1 by unfold ahdF; rw [st, if_neg c]]
          rfl
        rw [← en]
        exact ⟨_, _, rfl, rfl⟩
    · rintro σ H1 ⟨v3, v4, rfl, rfl⟩
      refine ⟨_, rfl, ?_⟩
      rw [List.length_map, tl, List.take_length]
      exact q
end
end K10

set_option Elab.async false
set_option linter.all false
set_option maxRecDepth 100000
set_option maxHeartbeats 4000000
/-! The signs in their order. -/
namespace K10
open PySem L2 L2.EV PyProof.Rows PySem.Spec
def ch1 (c : Nat) : Str := ⟨#[c]⟩
theorem ch1_inj {a b : Nat} (h : ch1 a = ch1 b) : a = b := by
  have := congrArg (fun x : Str => x.cps.toList) h
  simpa [ch1] using this
theorem rising_one : ∀ (cs : List Nat) (p : Nat), risingS (ch1 p) (cs.map ch1) = true → (∀ c ∈ cs, p ≤ c) ∧ cs.Pairwise (· ≤ ·)
  | [], _, _ => ⟨fun c h => (by cases h), .nil⟩
  | x :: cs, p, h => by
    have h : (!ltCps [x] [p] && risingS (ch1 x) (cs.map ch1)) = true := h
    rw [Bool.and_eq_true] at h
    obtain ⟨a, b⟩ := rising_one cs x h.2
    have px : p ≤ x := by
      have h1 := h.1
      simp [ltCps] at h1
      exact h1
    refine ⟨fun c hc => ?_, List.pairwise_cons.mpr ⟨a, b⟩⟩
    rcases List.mem_cons.mp hc with rfl | hc
    · exact px
    · exact Nat.le_trans px (a c hc)
theorem sorted_one : ∀ {cs : List Nat}, sortedS (cs.map ch1) = true → cs.Pairwise (· ≤ ·)
  | [], _ => .nil
  | x :: cs, h => by
    obtain ⟨a, b⟩ := rising_one cs x h
    exact List.pairwise_cons.mpr ⟨a, b⟩
/-- the signs of some entries, ascending, but for the line's end -/
def sgO (es : List En) : List Nat := ((csE es).mergeSort (fun a b => decide (a ≤ b))).filter fun c => decide (c ≠ 59)
theorem sgO_of {es : List En} {ys : List Str} (h : ys.Perm ((csE es).map ch1)) (s : sortedS ys = true) : ys = ((csE es).mergeSort (fun a b => decide (a ≤ b))).map ch1 := by
  have z : ∃ cs : List Nat, ys = cs.map ch1 ∧ cs.Perm (csE es) := by
    refine ⟨ys.map fun y => y.cps.toList.headD 0, ?_, ?_⟩
    · rw [List.map_map]
      refine (List.map_id' ys).symm.trans (List.map_congr_left fun y hy => ?_)
      obtain ⟨c, _, rfl⟩ := List.mem_map.mp (h.mem_iff.mp hy)
      rfl
    · have := h.map fun y : Str => y.cps.toList.headD 0
      rw [List.map_map] at this
      have e : ((fun y : Str => y.cps.toList.headD 0) ∘ ch1) = id := by
        funext c
        rfl
      rw [e, List.map_id] at this
      exact this
  obtain ⟨cs, rfl, hp⟩ := z
  have p1 := sorted_one s
  have p2 : ((csE es).mergeSort (fun a b => decide (a ≤ b))).Pairwise (· ≤ ·) :=
    (List.pairwise_mergeSort (le := fun a b : Nat => decide (a ≤ b)) (fun a b c h1 h2 => decide_eq_true (Nat.le_trans (of_decide_eq_true h1) (of_decide_eq_true h2))) (fun a b => by
      have := Nat.le_total a b
      simpa using this) _).imp fun h => of_decide_eq_true h
  rw [List.Perm.eq_of_pairwise (fun a b _ _ h1 h2 => Nat.le_antisymm h1 h2) p1 p2 (hp.trans (List.mergeSort_perm _ _).symm)]
theorem semi59 : (";" : Str) = ⟨#[59]⟩ := by decide +kernel
theorem zk_fst {α κ : Type} (g : α → κ) : ∀ {ks : List α} {a : List V}, a.length = ks.length → (zk g ks a).map (·.1) = ks.map g
  | [], [], _ => rfl
  | [], _ :: _, h => by cases h
  | _ :: _, [], h => by cases h
  | s :: ks, c :: a, h => by
    show g s :: (zk g ks a).map (·.1) = g s :: ks.map g
    rw [zk_fst g (by simpa using h)]
theorem sum_cast : ∀ ns : List Nat, (ns.map fun n : Nat => (n : Int)).sum = ((ns.sum : Nat) : Int)
  | [] => rfl
  | n :: ns => by
    rw [List.map_cons, List.sum_cons, List.sum_cons, sum_cast ns]
    omega
theorem map_take1 {α β : Type} (f : α → β) {l : List α} {i : Nat} {a : α} (h : l[i]? = some a) : (l.take (i + 1)).map f = (l.take i).map f ++ [f a] := by
  rw [List.take_succ, h, List.map_append]
  rfl
/-- the signs in a list -/
def SgA (H : Hp) (S : Addr) (es : List En) : Prop := H S = some (.lst ((sgO es).map fun c => V.str (ch1 c)))
theorem sgO_len (es : List En) : (sgO es).length ≤ (csE es).length := by
  unfold sgO
  refine Nat.le_trans (List.length_filter_le _ _) ?_
  rw [List.length_mergeSort]
  exact Nat.le_refl _
theorem sgO_mem {es : List En} {c : Nat} (h : c ∈ sgO es) : c ∈ csE es := by
  unfold sgO at h
  exact (List.mergeSort_perm _ _).mem_iff.mp (List.mem_filter.mp h).1
end K10

set_option Elab.async false
set_option linter.all false
set_option maxRecDepth 100000
set_option maxHeartbeats 4000000
/-! trials_of. -/
namespace K10
open PySem L2 L2.EV PyProof.Rows PySem.Spec
abbrev sTrials : Stmt := top 25
@[irreducible] def endF (es : List En) : Nat := ((ofS es 59).map (·.1)).sum
/-- what the dict of a framing's signs keeps -/
structure EsOk (es : List En) : Prop where
  s59 : 59 ∈ csE es
  few : (csE es).length < 64
  l : es.length ≤ 1000
/-- a set of places that some signs lead from to the end -/
inductive Trl (es : List En) : Nat → Prop
  | e : Trl es (endF es)
  | go {c t : Nat} : c ∈ sgO es → Trl es t → Trl es (ahdF (ofS es c) t)
def spTrials : Sp := fun vs H Q _ => ∃ (D : Addr) (H0 : Hp) (es : List En) (ls : List Addr), vs = [.ref D] ∧ LdA H0 H D (csE es) es ls ∧ EsOk es ∧
  ∀ H' p (ts : List Nat), Same H H' → H p = none → H' p = some (.lst (ts.map nV)) → ts[0]? = some (endF es) → ts.length ≤ 400 → (∀ t ∈ ts, Trl es t) → Q (.ref p) H'
/-- the trials and what was found, over time -/
structure Tz (H H' : Hp) (R Fd : Addr) (e : Nat) (Pd : Nat → Prop) (ts : List Nat) : Prop where
  s : Same H H'
  hR : H' R = some (.lst (ts.map nV))
  hF : ∃ kvs : List (Key × V), H' Fd = some (.dK kvs) ∧ kvs.length ≤ ts.length
  t0 : ts[0]? = some e
  nR : H R = none
  nF : H Fd = none
  tr : ∀ t ∈ ts, Pd t
structure Tq (K : PySem.W.Frag) (mg : Str → Option Value) where
  B : Bh K mg
  f : Addr
  d : FuncData
  F : Fun K "trials_of" "trials_of" sTrials f d
  b : Binds K d ["leads"] []
  m : mg "trials_of" = some (.ref f)
  len : mg "len" = none
  su : mg "sum" = none
  so : mg "sorted" = none
  most : ∃ t, mg "MOST_TRIALS" = some (.int 256 t)
section
variable {P : Program} {w : World} {K : PySem.W.Frag} {mg : Str → Option Value} {base : Heap}
abbrev NTq : List Str := ["leads", "ends", "signs", "trials", "found", "at", "sign", "ahead", "place", "goals"]
theorem scTrials : FnScope NTq ["leads"] (defScope sTrials) := ⟨rfl, rfl, rfl, by decide +kernel, rfl, by decide +kernel, by decide +kernel⟩
theorem ok_trials (G : Tq K mg) : FnOk P w K mg base CX0 2 G.f G.d ["leads"] spTrials := by
  have GA : FnOk P w K mg base CX0 1 G.B.f2 G.B.d2 ["pairs", "places"] (spBeh ahdF) := ok_ahd G.B
  refine G.F.ok scTrials (fun vs H Q E h => ?_) (fun cdv A outer s H vs Q E hr h => ?_)
  · obtain ⟨D, H0, es, ls, rfl, _⟩ := h
    rfl
  · obtain ⟨D, H0, es, ls, rfl, L, ok, q⟩ := h
    have hu := hu_of hr
    have hr1 := hr.mono (j := 1) (by omega)
    obtain ⟨tm, eM⟩ := G.most
    refine ⟨_, pss_cons (ps_set (i := 1) scTrials.nd rfl (Or.inl rfl) (pe_callB (cr_sum rfl) (by rfl) G.su (by decide +kernel) (pa_cons (pe_lc (own := [("place", 8), ("goals", 9)]) (g := gTup K 2 (gCons (gName 8) (gCons (gName 9) gNil))) (te := tVar 8) rfl scTrials.nd (pi_list (pe_dget hu (pv 0) pe_str (fun _ _ => rfl)))
        (blkOk_by (N := NTq) (sc := defScope sTrials) (by decide +kernel)) (fun _ _ _ _ _ => pg_tup rfl (pgs_cons (pg_name (i := 8) scTrials.nd rfl (Or.inl rfl)) (pgs_cons (pg_name (i := 9) scTrials.nd rfl (Or.inl rfl)) pgs_nil))) (fun _ _ _ _ _ => pts_nil) (fun _ _ _ _ _ => pv 8)) pa_nil)))
      (pss_cons (ps_setLc (i := 2) (own := [("sign", 6)]) (g := gName 6) (tt := tTest (tOp rNe (tVar 6) (tC (.str ";")))) (te := tVar 6) rfl scTrials.nd rfl rfl (by rfl) (pi_list (pe_callB (call_sortedD rfl) (by rfl) G.so (by decide +kernel) (pa_cons (pv 0) pa_nil)))
        (blkOk_by (N := NTq) (sc := defScope sTrials) (by decide +kernel)) (fun _ _ _ _ _ => pg_name (i := 6) scTrials.nd rfl (Or.inl rfl)) (fun _ _ _ _ _ => pts_one (pt_cmpR op_ne (pv 6) pe_str (nomark _))) (fun _ _ _ _ _ => pv 6))
      (pss_cons (ps_set (i := 3) scTrials.nd rfl (Or.inl rfl) (pe_lst (pa_cons (pv 1) pa_nil)))
      (pss_cons (ps_set (i := 4) scTrials.nd rfl (Or.inl rfl) (pe_disp (pps_cons (pv 1) pe_bl pps_nil) rfl rfl (by simp) (by decide)))
      (pss_cons (ps_set (i := 5) scTrials.nd rfl (Or.inl rfl) pe_int)
      (pss_cons (ps_while PassesOwn.never (pw_and (pt_cmpR op_lt (pv 5) (pe_callB call_len_seq (by rfl) G.len PySem.boot_len (pa_cons (pv 3) pa_nil)) (nomark _)) (pw_and1 (pt_cmpR op_lt (pe_callB call_len_seq (by rfl) G.len PySem.boot_len (pa_cons (pv 3) pa_nil)) (pe_glob (v := .int 256) (by rfl) eM ⟨_, rfl⟩) (nomark _)))).pt
        (pss_cons (ps_for PassesOwn.never rfl (pi_list (pv 2)) (pg_name (i := 6) scTrials.nd rfl (Or.inl rfl))
          (pss_cons (ps_set (i := 7) scTrials.nd rfl (Or.inl rfl) (pe_call GA hr1 (by rfl) G.B.m2 G.B.G.kp G.B.b2 .nil pass0 (pa_cons (pe_dget hu (pv 0) (pv 6) (fun _ _ => rfl)) (pa_cons (pe_ix ix_list (pv 3) (pv 5) (fun _ _ => rfl)) pa_nil))))
          (pss_one (ps_if (pt_cmp (pc_dnotin hu (pv 7) (pv 4)))
            (pss_cons (ps_dput hu (pv 4) (pv 7) pe_bl rfl) (pss_one (ps_expr (pe_bm PySem.F.plainAttrs_list PySem.F.slot_list_append PySem.F.type_list_append mt_append (pv 3) (pa_cons (pv 7) pa_nil))))) pss_nil))))
        (pss_one (ps_aug (i := 5) scTrials.nd rfl (Or.inl rfl) pe_int ip_add))))
      (pss_one (ps_ret (pv 3)))))))), ?_⟩
    obtain ⟨i0, l0, t0, g1, g2, g3, g4, g5⟩ := L.find ok.s59
    obtain ⟨t1, h1, tl, tt⟩ := L.at_ i0 59 l0 g1 g2
    have e59 : valV (zk sgK (csE es) (ls.map V.ref)) (.inr ";" : Key) = some (.ref l0) := by
      rw [semi59]
      exact g3
    refine ⟨_, rfl, D, .ref l0, rfl, by rw [← e59]; exact DGet.k (k := .inr ";") L.hD, l0, rfl, ⟨_, SqL.of h1⟩, fun C nC => ?_⟩
    refine lc_it (walk_list (xs := t1.map V.ref)) (fun i H' => H' C = some (.lst (((ofS es 59).take i).map fun p => nV p.1)) ∧ Same H H') ⟨upd_same, same_upd nC⟩ (fun i H' _ z => SqL.of (z.2 _ _ h1)) ?_ ?_
    · rintro i x H1 H2 hi ⟨hl, kp⟩ ⟨rfl, hx⟩
      obtain ⟨t, p, rfl, hpi, h2⟩ := pr_at tl tt hx
      refine ⟨t, _, rfl, SqT.of (kp _ _ h2), rfl, _, _, rfl, _, _, rfl, rfl, rfl, ?_⟩
      refine ⟨_, rfl, _, hl, ?_, ?_, fun b o z => ?_⟩
      · rw [List.length_map, List.length_take, sizeLine_eq]
        have := ofS_len es 59
        have := ok.l
        omega
      · rw [map_take1 _ hpi]
        exact upd_same
      · rw [upd_ne (ne_of_none z nC)]
        exact kp b o z
    · rintro H1 ⟨hC, s1⟩
      rw [List.length_map, tl, List.take_length] at hC
      have hC2 : H1 C = some (.lst ((((ofS es 59).map (·.1)).map fun n : Nat => (n : Int)).map V.int)) := by
        rw [hC, List.map_map, List.map_map]
        rfl
      refine ⟨C, _, rfl, SqL.of hC2, ?_⟩
      rw [sum_cast, show (((ofS es 59).map (·.1)).sum) = endF es from (endF.eq_1 es).symm]
      have L1 := L.same s1
      refine ⟨_, rfl, D, _, (csE es).map ch1, rfl, .inl L1.hD, ?_, by rw [List.length_map]; exact ok.few, fun ys Y hpm hso nY => ?_⟩
      · rw [zk_fst sgK (by rw [List.length_map, L.l]), List.map_map]
        rfl
      have ey := sgO_of hpm hso
      subst ey
      have uY := same_upd (o := HO.lst ((((csE es).mergeSort (fun a b => decide (a ≤ b))).map ch1).map V.str)) nY
      refine ⟨Y, rfl, ⟨_, SqL.of upd_same⟩, fun S nS => ?_⟩
      have hY := upd_same (H := H1) (a := Y) (o := HO.lst ((((csE es).mergeSort (fun a b => decide (a ≤ b))).map ch1).map V.str))
      generalize upd H1 Y (.lst ((((csE es).mergeSort (fun a b => decide (a ≤ b))).map ch1).map V.str)) = H2 at uY nS hY ⊢
      have s2 := s1.trans uY
      have lm : ((csE es).mergeSort (fun a b => decide (a ≤ b))).length < 64 := by rw [List.length_mergeSort]; exact ok.few
      have eO : sgO es = ((csE es).mergeSort (fun a b => decide (a ≤ b))).filter fun c => decide (c ≠ 59) := rfl
      generalize (csE es).mergeSort (fun a b => decide (a ≤ b)) = cs at hY lm eO
      refine lc_it (walk_list (xs := (cs.map ch1).map V.str)) (fun i H' => H' S = some (.lst (((cs.take i).filter fun c => decide (c ≠ 59)).map fun c => V.str (ch1 c))) ∧ Same H2 H') ⟨upd_same, same_upd nS⟩ (fun i H' _ z => SqL.of (z.2 _ _ hY)) ?_ ?_
      · rintro i x H3 H4 hi ⟨hl, kp⟩ ⟨rfl, hx⟩
        rw [List.map_map, List.getElem?_map] at hx
        cases hc : cs[i]? with
        | none => rw [hc] at hx; cases hx
        | some c =>
          rw [hc] at hx
          have hx : V.str (ch1 c) = x := Option.some.inj hx
          subst hx
          refine ⟨rfl, _, rfl, rfl, _, rfl, ?_⟩
          have et : (!decide (V.str (ch1 c) = V.str ";")) = decide (c ≠ 59) := by
            have e1 : decide (V.str (ch1 c) = V.str ";") = decide (c = 59) := by
              rw [semi59]
              exact decide_eq_decide.mpr ⟨fun z => ch1_inj (b := 59) (V.str.inj z), fun z => by rw [z]; rfl⟩
            rw [e1]
            by_cases z : c = 59
            · simp [z]
            · simp [z]
          by_cases z : c = 59
          · refine iteF' (et.trans (by simp [z])) ⟨?_, kp⟩
            rw [List.take_succ, hc, List.filter_append]
            simpa [z] using hl
          · refine iteT' (et.trans (by simp [z])) ⟨_, rfl, _, hl, ?_, ?_, fun b o y => ?_⟩
            · rw [List.length_map, sizeLine_eq]
              have := List.length_filter_le (fun c => decide (c ≠ 59)) (cs.take i)
              rw [List.length_take] at this
              omega
            · rw [List.take_succ, hc, List.filter_append, List.map_append, upd_same]
              simp [z]
            · rw [upd_ne (ne_of_none y nS)]
              exact kp b o y
      · rintro H3 ⟨hS, s3⟩
        rw [List.length_map, List.length_map, List.take_length, ← eO] at hS
        have s4 := s2.trans s3
        have L3 := L.same s4
        clear hC hC2 hY uY nY nC lm eO L1 g4 h1 tt
        refine ⟨_, rfl, (by show 1 ≤ sizeLine; decide), fun R nR => ?_⟩
        have uR := same_upd (o := HO.lst [nV (endF es)]) nR
        refine fun Fd nFd => ?_
        have uF := same_upd (o := HO.dK []) nFd
        refine ⟨_, rfl, upd_same, [(.inl ((endF es : Nat) : Int), .bl true)], rfl, by simp, ?_⟩
        have RF : R ≠ Fd := fun z => by rw [← z] at nFd; rw [upd_same] at nFd; cases nFd
        have T0 : Tz H3 (upd (upd (upd H3 R (.lst [V.int ((endF es : Nat) : Int)])) Fd (.dK [])) Fd (.dK (mergeK [] [(.inl ((endF es : Nat) : Int), .bl true)]))) R Fd (endF es) (Trl es) [endF es] := by
          refine ⟨fun b o z => ?_, ?_, ⟨_, upd_same, by simp [mergeK, putK]⟩, rfl, nR, none_of uR nFd, fun t ht => by rw [List.mem_singleton.mp ht]; exact .e⟩
          · have bF : b ≠ Fd := ne_of_none z (none_of uR nFd)
            rw [upd_ne bF, upd_ne bF]
            exact uR _ _ z
          · rw [upd_ne RF, upd_ne RF]
            exact upd_same
        generalize upd (upd (upd H3 R (.lst [V.int ((endF es : Nat) : Int)])) Fd (.dK [])) Fd (.dK (mergeK [] [(.inl ((endF es : Nat) : Int), .bl true)])) = H5 at T0 ⊢
        clear uR uF nFd
        refine ⟨fun n σ H' => ∃ (at0 : Nat) (v6 v7 : Option V) (ts : List Nat), σ = [some (.ref D), some (nV (endF es)), some (.ref S), some (.ref R), some (.ref Fd), some (nV at0), v6, v7, none, none] ∧ Tz H3 H' R Fd (endF es) (Trl es) ts ∧ ts.length ≤ 400 ∧ n = 256 - at0,
          ⟨256, 0, none, none, [endF es], rfl, T0, by simp, rfl⟩, ?_⟩
        clear T0
        rintro n σ H6 ⟨at0, v6, v7, ts, rfl, T6, l4, rfl⟩
        have fin : ∀ v6 v7, tRet (tVar 3) { nx := fun x H' => Q V.non H', rt := Q } [some (.ref D), some (nV (endF es)), some (.ref S), some (.ref R), some (.ref Fd), some (nV at0), v6, v7, none, none] H6 := fun v6 v7 => by
          exact ⟨_, rfl, q H6 R ts (s4.trans T6.s) (none_of s4 T6.nR) T6.hR T6.t0 l4 T6.tr⟩
        refine ⟨_, rfl, _, rfl, R, _, rfl, .inl (SqL.of T6.hR), _, _, rfl, rfl, _, rfl, ?_⟩
        rw [List.length_map]
        by_cases c1 : at0 < ts.length
        · refine iteT' (decide_eq_true (by omega)) ?_
          refine ⟨_, rfl, R, _, rfl, .inl (SqL.of T6.hR), _, 256, rfl, rfl, _, rfl, ?_⟩
          rw [List.length_map]
          by_cases c2 : ts.length < 256
          · refine iteT' (decide_eq_true (by omega)) ?_
            refine ⟨fun σ' H' => ∃ (v6 v7 : Option V) (ts : List Nat), σ' = [some (.ref D), some (nV (endF es)), some (.ref S), some (.ref R), some (.ref Fd), some (nV (at0 + 1)), v6, v7, none, none] ∧ Tz H3 H' R Fd (endF es) (Trl es) ts ∧ ts.length ≤ 400,
              fun σ' H' ⟨v6, v7, ts, e1, e2, e3⟩ => ⟨256 - (at0 + 1), by omega, at0 + 1, v6, v7, ts, e1, e2, e3, rfl⟩, ?_⟩
            have lS := sgO_len es
            have few := ok.few
            refine ⟨_, rfl, S, rfl, ⟨_, SqL.of (T6.s _ _ hS)⟩, for_it (walk_list (xs := (sgO es).map fun c => V.str (ch1 c))) (fun i σ H' => ∃ (v6 v7 : Option V) (ts : List Nat), σ = [some (.ref D), some (nV (endF es)), some (.ref S), some (.ref R), some (.ref Fd), some (nV at0), v6, v7, none, none] ∧ Tz H3 H' R Fd (endF es) (Trl es) ts ∧ ts.length ≤ 255 + i ∧ at0 < ts.length)
              ⟨v6, v7, ts, rfl, T6, by omega, c1⟩ (fun i σ H' _ ⟨_, _, _, _, z, _⟩ => SqL.of (z.s _ _ hS)) ?_ ?_⟩
            · rintro i x σ H7 H8 hi ⟨v6, v7, ts, rfl, T7, l7, at7⟩ ⟨rfl, hx⟩
              rw [List.getElem?_map] at hx
              cases hc : (sgO es)[i]? with
              | none => rw [hc] at hx; cases hx
              | some c =>
                rw [hc] at hx
                have hx : V.str (ch1 c) = x := Option.some.inj hx
                subst hx
                have cm := sgO_mem (List.mem_of_getElem? hc)
                have L7 := L3.same T7.s
                obtain ⟨lc, _, vc, pc⟩ := L7.val cm
                have ia : atI (ts.map nV) (at0 : Int) = some (nV (ts[at0]'at7)) := atI_nat (by rw [List.getElem?_map, List.getElem?_eq_getElem at7]; rfl)
                refine ⟨_, rfl, _, rfl, D, .ref lc, rfl, by rw [← vc]; exact DGet.k (k := sgK c) L7.hD, _, rfl, _, rfl, R, _, _, _, rfl, rfl, SqL.of T7.hR, ia, lc, ofS es c, ts[at0]'at7, rfl, pc, ?_⟩
                have hi2 : i < (sgO es).length := (List.getElem?_eq_some_iff.mp hc).1
                have tra : Trl es (ahdF (ofS es c) (ts[at0]'at7)) := .go (List.mem_of_getElem? hc) (T7.tr _ (List.getElem_mem at7))
                generalize ahdF (ofS es c) (ts[at0]'at7) = ah at tra ⊢
                obtain ⟨kvs, hk, lk⟩ := T7.hF
                refine ⟨_, rfl, _, rfl, Fd, valV kvs (.inl ((ah : Nat) : Int)), rfl, DGet.k (k := .inl ((ah : Nat) : Int)) hk, _, rfl, ?_⟩
                have nFR : R ≠ Fd := fun z => by
                  have := T7.hR
                  rw [z, hk] at this
                  cases this
                by_cases cz : (valV kvs (.inl ((ah : Nat) : Int) : Key)).isSome = true
                · refine iteF' (by rw [cz]; rfl) ?_
                  exact ⟨_, _, ts, rfl, T7, by omega, at7⟩
                · refine iteT' (by rw [eq_false_of_ne_true cz]; rfl) ?_
                  refine ⟨_, rfl, _, rfl, Fd, _, rfl, DPut.k (k := .inl ((ah : Nat) : Int)) hk (by rw [sizeLine_eq]; omega), ?_⟩
                  have hR2 : (upd H8 Fd (.dK (putK kvs (.inl ((ah : Nat) : Int)) (.bl true)))) R = some (.lst (ts.map nV)) := by
                    rw [upd_ne nFR]
                    exact T7.hR
                  refine ⟨_, rfl, .inl ⟨rfl, _, SqL.of hR2⟩, _, rfl, R, ts.map nV, _, rfl, rfl, hR2, by rw [List.length_map, sizeLine_eq]; omega, ?_⟩
                  refine ⟨_, _, ts ++ [ah], rfl, ⟨fun b o z => ?_, by rw [List.map_append]; exact upd_same, ⟨_, by rw [upd_ne nFR.symm]; exact upd_same, ?_⟩, ?_, T7.nR, T7.nF, fun t ht => (List.mem_append.mp ht).elim (T7.tr t) fun z => by rw [List.mem_singleton.mp z]; exact tra⟩, ?_, ?_⟩
                  · rw [upd_ne (ne_of_none z T7.nR), upd_ne (ne_of_none z T7.nF)]
                    exact T7.s _ _ z
                  · have := length_putK kvs (Sum.inl ((ah : Nat) : Int) : Key) (.bl true)
                    rw [List.length_append, List.length_singleton]
                    omega
                  · rw [List.getElem?_append_left (by omega)]
                    exact T7.t0
                  · rw [List.length_append, List.length_singleton]
                    omega
                  · rw [List.length_append, List.length_singleton]
                    omega
            · rintro σ H7 ⟨v6, v7, ts, rfl, T7, l7, at7⟩
              rw [List.length_map] at l7
              exact ⟨_, rfl, _, _, rfl, rfl, v6, v7, ts, rfl, T7, by omega⟩
          · refine iteF' (decide_eq_false (by omega)) ?_
            exact fin v6 v7
        · refine iteF' (decide_eq_false (by omega)) ?_
          exact fin v6 v7
end
end K10

set_option Elab.async false
set_option linter.all false
set_option maxRecDepth 100000
set_option maxHeartbeats 4000000
/-! The sets of places that are come to, one after the other. -/
namespace K10
open PySem L2 L2.EV
def bh (es : List En) (c S : Nat) : Nat := behF (ofS es c) S
def addB (es : List En) (S : Nat) (ls : List Nat) (c : Nat) : List Nat := if bh es c S = 0 then ls else addN ls (bh es c S)
def addL (es : List En) (S : Nat) (ls cs : List Nat) : List Nat := cs.foldl (addB es S) ls
def rw1 (es : List En) (S : Nat) (ls : List Nat) (c : Nat) : List (Nat × Nat) := if bh es c S = 0 then [] else [(c, ls.idxOf (bh es c S))]
def rwF (es : List En) (S : Nat) (ls cs : List Nat) : List (Nat × Nat) := (cs.map (rw1 es S ls)).flatten
def expl (es : List En) (f : Nat) : Nat → List Nat
  | 0 => [f]
  | k + 1 => match (expl es f k)[k]? with
    | none => expl es f k
    | some S => addL es S (expl es f k) (sgO es)
theorem addL_snoc (es : List En) (S : Nat) (ls cs : List Nat) (c : Nat) : addL es S ls (cs ++ [c]) = addB es S (addL es S ls cs) c := by
  unfold addL
  rw [List.foldl_append]
  rfl
theorem addN_pre (ls : List Nat) (b : Nat) : ls <+: addN ls b := by
  unfold addN
  by_cases h : b ∈ ls
  · rw [if_pos h]
    exact List.prefix_refl _
  · rw [if_neg h]
    exact List.prefix_append _ _
theorem addB_pre (es : List En) (S : Nat) (ls : List Nat) (c : Nat) : ls <+: addB es S ls c := by
  unfold addB
  by_cases h : bh es c S = 0
  · rw [if_pos h]
    exact List.prefix_refl _
  · rw [if_neg h]
    exact addN_pre _ _
theorem addL_pre (es : List En) (S : Nat) : ∀ (cs ls : List Nat), ls <+: addL es S ls cs
  | [], ls => List.prefix_refl _
  | c :: cs, ls => (addB_pre es S ls c).trans (addL_pre es S cs _)
theorem addN_in (ls : List Nat) (b : Nat) : b ∈ addN ls b := (addN_mem ls b b).mpr (.inr rfl)
theorem addL_in {es : List En} {S c : Nat} (h : ¬ bh es c S = 0) : ∀ {cs ls : List Nat}, c ∈ cs → bh es c S ∈ addL es S ls cs
  | d :: cs, ls, hc => by
    rcases List.mem_cons.mp hc with rfl | hc
    · refine (addL_pre es S cs _).subset ?_
      unfold addB
      rw [if_neg h]
      exact addN_in _ _
    · exact addL_in h (cs := cs) hc
theorem addN_nd {ls : List Nat} (h : ls.Nodup) (b : Nat) : (addN ls b).Nodup := by
  unfold addN
  by_cases c : b ∈ ls
  · rw [if_pos c]
    exact h
  · rw [if_neg c]
    refine List.nodup_append.mpr ⟨h, by simp, fun x hx y hy => ?_⟩
    rw [List.mem_singleton.mp hy]
    exact fun z => c (z ▸ hx)
theorem addB_nd {es : List En} {S : Nat} {ls : List Nat} (h : ls.Nodup) (c : Nat) : (addB es S ls c).Nodup := by
  unfold addB
  by_cases z : bh es c S = 0
  · rw [if_pos z]
    exact h
  · rw [if_neg z]
    exact addN_nd h _
theorem addL_nd {es : List En} {S : Nat} : ∀ {cs ls : List Nat}, ls.Nodup → (addL es S ls cs).Nodup
  | [], _, h => h
  | c :: cs, _, h => addL_nd (cs := cs) (addB_nd h c)
theorem addL_all {es : List En} {S : Nat} {P : Nat → Prop} : ∀ {cs ls : List Nat}, (∀ x ∈ ls, P x) → (∀ c ∈ cs, ¬ bh es c S = 0 → P (bh es c S)) → ∀ x ∈ addL es S ls cs, P x
  | [], _, h, _ => h
  | c :: cs, ls, h, hb => addL_all (cs := cs) (fun x hx => by
      unfold addB at hx
      by_cases z : bh es c S = 0
      · rw [if_pos z] at hx
        exact h x hx
      · rw [if_neg z] at hx
        rcases (addN_mem _ _ _).mp hx with y | y
        · exact h x y
        · rw [y]
          exact hb c (List.mem_cons_self ..) z) fun c hc => hb c (List.mem_cons_of_mem _ hc)
theorem idx_pre {ls ms : List Nat} {b : Nat} (h : ls <+: ms) (hb : b ∈ ls) : ms.idxOf b = ls.idxOf b := by
  obtain ⟨t, rfl⟩ := h
  rw [List.idxOf_append, if_pos hb]
theorem rwF_pre {es : List En} {S : Nat} {ls ms cs : List Nat} (h : ls <+: ms) (hb : ∀ c ∈ cs, ¬ bh es c S = 0 → bh es c S ∈ ls) : rwF es S ms cs = rwF es S ls cs := by
  unfold rwF
  congr 1
  refine List.map_congr_left fun c hc => ?_
  unfold rw1
  by_cases z : bh es c S = 0
  · rw [if_pos z, if_pos z]
  · rw [if_neg z, if_neg z, idx_pre h (hb c hc z)]
/-- a row, one sign more -/
theorem rwF_snoc (es : List En) (S : Nat) (ls cs : List Nat) (c : Nat) : rwF es S (addL es S ls (cs ++ [c])) (cs ++ [c]) = rwF es S (addL es S ls cs) cs ++ rw1 es S (addB es S (addL es S ls cs) c) c := by
  rw [addL_snoc]
  have e : rwF es S (addB es S (addL es S ls cs) c) cs = rwF es S (addL es S ls cs) cs := rwF_pre (addB_pre _ _ _ _) fun d hd z => addL_in z hd
  unfold rwF at e ⊢
  rw [List.map_append, List.flatten_append, e]
  simp
theorem rwF_len (es : List En) (S : Nat) (ls cs : List Nat) : (rwF es S ls cs).length ≤ cs.length := by
  unfold rwF
  induction cs with
  | nil => exact Nat.le_refl _
  | cons c cs ih =>
    rw [List.map_cons, List.flatten_cons, List.length_append, List.length_cons]
    have : (rw1 es S ls c).length ≤ 1 := by
      unfold rw1
      by_cases z : bh es c S = 0
      · rw [if_pos z]; exact Nat.zero_le _
      · rw [if_neg z]; exact Nat.le_refl _
    omega
/-- all sets lie in a list, and there are at most 200 kinds of them: what has one kind is alike good and leads on to the same -/
structure Inn (es : List En) (f : Nat) (U : List Nat) : Prop where
  f0 : f ∈ U
  go : ∀ S ∈ U, ∀ c ∈ sgO es, ¬ bh es c S = 0 → bh es c S ∈ U
  l : U.length ≤ 4000
  kn : ∃ κ : Nat → Nat, (∀ S ∈ U, κ S < 200) ∧ ∀ S ∈ U, ∀ T ∈ U, κ S = κ T → ((S &&& endF es = 0) ↔ (T &&& endF es = 0)) ∧ ∀ c ∈ sgO es, bh es c S = bh es c T
theorem expl_nd (es : List En) (f : Nat) : ∀ k, (expl es f k).Nodup
  | 0 => by simp [expl]
  | k + 1 => by
    unfold expl
    cases h : (expl es f k)[k]? with
    | none => exact expl_nd es f k
    | some S => exact addL_nd (expl_nd es f k)
theorem expl_in {es : List En} {f : Nat} {U : List Nat} (I : Inn es f U) : ∀ k, ∀ x ∈ expl es f k, x ∈ U
  | 0 => fun x hx => by
    unfold expl at hx
    rw [List.mem_singleton.mp hx]
    exact I.f0
  | k + 1 => by
    unfold expl
    cases h : (expl es f k)[k]? with
    | none => exact expl_in I k
    | some S => exact addL_all (expl_in I k) fun c hc z => I.go S (expl_in I k S (List.mem_of_getElem? h)) c hc z
theorem expl_len {es : List En} {f : Nat} {U : List Nat} (I : Inn es f U) (k : Nat) : (expl es f k).length ≤ 4000 :=
  Nat.le_trans ((expl_nd es f k).length_le_of_subset fun x hx => expl_in I k x hx) I.l
theorem expl_pre (es : List En) (f : Nat) (k : Nat) : expl es f k <+: expl es f (k + 1) := by
  show _ <+: (match (expl es f k)[k]? with
    | none => expl es f k
    | some S => addL es S (expl es f k) (sgO es))
  cases h : (expl es f k)[k]? with
  | none => exact List.prefix_refl _
  | some S => exact addL_pre _ _ _ _
theorem expl_step {es : List En} {f k S : Nat} (h : (expl es f k)[k]? = some S) : expl es f (k + 1) = addL es S (expl es f k) (sgO es) := by
  show (match (expl es f k)[k]? with
    | none => expl es f k
    | some S => addL es S (expl es f k) (sgO es)) = _
  rw [h]
end K10

set_option Elab.async false
set_option linter.all false
set_option maxRecDepth 100000
set_option maxHeartbeats 4000000
/-! Sets of places by their bits; what has one kind passes alike. -/
namespace K10
open PySem L2 L2.EV
theorem mem_ofS {es : List En} {c : Nat} {p : Nat × Nat} : p ∈ ofS es c ↔ (c, p) ∈ es := by
  unfold ofS
  rw [List.mem_map]
  constructor
  · rintro ⟨e, he, rfl⟩
    obtain ⟨h1, h2⟩ := List.mem_filter.mp he
    have : e.1 = c := by simpa using h2
    rw [← this]
    exact h1
  · intro h
    exact ⟨(c, p), List.mem_filter.mpr ⟨h, by simp⟩, rfl⟩
theorem and_some {a b : Nat} : (¬ a &&& b = 0) ↔ ∃ x, a.testBit x = true ∧ b.testBit x = true := by
  constructor
  · intro h
    refine Classical.byContradiction fun z => h ?_
    apply Nat.eq_of_testBit_eq
    intro i
    rw [Nat.testBit_and, Nat.zero_testBit]
    cases e1 : a.testBit i
    · rfl
    · cases e2 : b.testBit i
      · rfl
      · exact absurd ⟨i, e1, e2⟩ z
  · rintro ⟨x, h1, h2⟩ z
    have : (a &&& b).testBit x = true := by rw [Nat.testBit_and, h1, h2]; rfl
    rw [z, Nat.zero_testBit] at this
    cases this
theorem behF_bit {S i : Nat} : ∀ {ps : List (Nat × Nat)} {a : Nat}, (ps.foldl (fun b p => if S &&& p.1 = 0 then b else b ||| p.2) a).testBit i = true ↔ a.testBit i = true ∨ ∃ p ∈ ps, (¬ S &&& p.1 = 0) ∧ p.2.testBit i = true
  | [], a => by simp
  | p :: ps, a => by
    rw [List.foldl_cons, behF_bit]
    constructor
    · rintro (h | ⟨q, hq, r⟩)
      · by_cases c : S &&& p.1 = 0
        · rw [if_pos c] at h
          exact .inl h
        · rw [if_neg c, Nat.testBit_or, Bool.or_eq_true] at h
          rcases h with h | h
          · exact .inl h
          · exact .inr ⟨p, List.mem_cons_self .., c, h⟩
      · exact .inr ⟨q, List.mem_cons_of_mem _ hq, r⟩
    · rintro (h | ⟨q, hq, c, r⟩)
      · refine .inl ?_
        by_cases c : S &&& p.1 = 0
        · rw [if_pos c]
          exact h
        · rw [if_neg c, Nat.testBit_or, h]
          rfl
      · rcases List.mem_cons.mp hq with rfl | hq
        · refine .inl ?_
          rw [if_neg c, Nat.testBit_or, r, Bool.or_true]
        · exact .inr ⟨q, hq, c, r⟩
theorem bh_bit {es : List En} {c S i : Nat} : (bh es c S).testBit i = true ↔ ∃ p, (c, p) ∈ es ∧ (¬ S &&& p.1 = 0) ∧ p.2.testBit i = true := by
  unfold bh behF
  rw [behF_bit, Nat.zero_testBit]
  constructor
  · rintro (h | ⟨p, hp, r⟩)
    · cases h
    · exact ⟨p, mem_ofS.mp hp, r⟩
  · rintro ⟨p, hp, r⟩
    exact .inr ⟨p, mem_ofS.mpr hp, r⟩
theorem ahd_fold (S : Nat) : ∀ (ps : List (Nat × Nat)) (a : Nat), ps.foldl (fun b p => if S &&& p.2 = 0 then b else b ||| p.1) a = (ps.map fun p => (p.2, p.1)).foldl (fun b p => if S &&& p.1 = 0 then b else b ||| p.2) a
  | [], _ => rfl
  | p :: ps, a => by
    rw [List.foldl_cons, List.map_cons, List.foldl_cons]
    exact ahd_fold S ps _
theorem ahd_bit {es : List En} {c t i : Nat} : (ahdF (ofS es c) t).testBit i = true ↔ ∃ p, (c, p) ∈ es ∧ (¬ t &&& p.2 = 0) ∧ p.1.testBit i = true := by
  unfold ahdF
  rw [ahd_fold, behF_bit, Nat.zero_testBit]
  constructor
  · rintro (h | ⟨p, hp, r⟩)
    · cases h
    · obtain ⟨q, hq, rfl⟩ := List.mem_map.mp hp
      exact ⟨q, mem_ofS.mp hq, r⟩
  · rintro ⟨p, hp, r⟩
    exact .inr ⟨(p.2, p.1), List.mem_map.mpr ⟨p, mem_ofS.mpr hp, rfl⟩, r⟩
/-- a set meets what leads to some places just where what it leads to meets them -/
theorem ahd_adj {es : List En} {c S t : Nat} : (¬ S &&& ahdF (ofS es c) t = 0) ↔ ¬ bh es c S &&& t = 0 := by
  rw [and_some, and_some]
  constructor
  · rintro ⟨x, h1, h2⟩
    obtain ⟨p, hp, h3, h4⟩ := ahd_bit.mp h2
    obtain ⟨y, h5, h6⟩ := and_some.mp h3
    exact ⟨y, bh_bit.mpr ⟨p, hp, and_some.mpr ⟨x, h1, h4⟩, h6⟩, h5⟩
  · rintro ⟨y, h1, h2⟩
    obtain ⟨p, hp, h3, h4⟩ := bh_bit.mp h1
    obtain ⟨x, h5, h6⟩ := and_some.mp h3
    exact ⟨x, h5, ahd_bit.mpr ⟨p, hp, and_some.mpr ⟨y, h2, h4⟩, h6⟩⟩
theorem trl_alike {es : List En} {t S T : Nat} (h : Trl es t) (e : (S &&& endF es = 0) ↔ (T &&& endF es = 0)) (b : ∀ c ∈ sgO es, bh es c S = bh es c T) : (¬ S &&& t = 0) ↔ ¬ T &&& t = 0 := by
  cases h with
  | e => exact not_congr e
  | go hc _ => rw [ahd_adj, ahd_adj, b _ hc]
/-- a list of at most 200 kinds -/
theorem kinds_few {α : Type} {l : List α} {κ : α → Nat} {β : Type} {F : α → β} (h1 : ∀ x ∈ l, κ x < 200) (h2 : ∀ x ∈ l, ∀ y ∈ l, κ x = κ y → F x = F y) : ∃ L : List β, L.length ≤ 200 ∧ ∀ x ∈ l, F x ∈ L := by
  refine ⟨((List.range 200).filterMap fun k => l.find? fun x => decide (κ x = k)).map F, ?_, fun x hx => ?_⟩
  · rw [List.length_map]
    exact Nat.le_trans (List.length_filterMap_le _ _) (by rw [List.length_range]; exact Nat.le_refl _)
  · obtain ⟨y, hy⟩ : ∃ y, (l.find? fun y => decide (κ y = κ x)) = some y := by
      cases e : l.find? fun y => decide (κ y = κ x) with
      | some y => exact ⟨y, rfl⟩
      | none =>
        have := List.find?_eq_none.mp e x hx
        exact absurd (decide_eq_true rfl) this
    have ky : κ y = κ x := by simpa using List.find?_some hy
    refine List.mem_map.mpr ⟨y, List.mem_filterMap.mpr ⟨κ x, List.mem_range.mpr (h1 x hx), hy⟩, ?_⟩
    exact h2 y (List.mem_of_find?_eq_some hy) x hx ky
/-- few ways to pass the trials -/
theorem few_keys {es : List En} {f : Nat} {U ts : List Nat} (I : Inn es f U) (tr : ∀ t ∈ ts, Trl es t) : ∃ L : List (List Bool), L.length ≤ 200 ∧ ∀ S ∈ U, (ts.map fun t => decide (¬ S &&& t = 0)) ∈ L := by
  obtain ⟨κ, k1, k2⟩ := I.kn
  refine kinds_few (κ := κ) (F := fun S => ts.map fun t => decide (¬ S &&& t = 0)) k1 fun S hS T hT e => ?_
  obtain ⟨a, b⟩ := k2 S hS T hT e
  exact List.map_congr_left fun t ht => decide_eq_decide.mpr (trl_alike (tr t ht) a b)
end K10

set_option Elab.async false
set_option linter.all false
set_option maxRecDepth 100000
set_option maxHeartbeats 4000000
/-! Dicts whose keys are nested tuples (of ints, bools, texts, None and such tuples). -/
namespace L2
open PySem PySem.Spec PyProof.Rows
mutual
/-- the value is that key -/
inductive NK (B : Bool) (H : Hp) : NestedKey → V → Prop
  | none : NK B H .none .non
  | bl {b i} : B = true → i = (if b = true then 1 else 0) → NK B H (.num i) (.bl b)
  | int (i) : NK B H (.num i) (.int i)
  | str (x) : NK B H (.text x) (.str x)
  | tup {q xs ks} : H q = some (.tup xs) → NKs B H ks xs → NK B H (.tup ks) (.ref q)
inductive NKs (B : Bool) (H : Hp) : List NestedKey → List V → Prop
  | nil : NKs B H [] []
  | cons {k x ks xs} : NK B H k x → NKs B H ks xs → NKs B H (k :: ks) (x :: xs)
end
mutual
theorem NK.nis {P : Program} {w : World} {B : Bool} {H : Hp} {h : Heap} (ok : HOk P w H h) : ∀ (k : NestedKey) (x : V) (u : Value), NK B H k x → RelV x u → NestedIs h k u
  | .none, _, _, v, r => by cases v; cases r; exact .none
  | .num i, _, _, v, r => by
    cases v with
    | bl _ e => cases r; exact .bool e
    | int _ => obtain ⟨t, rfl⟩ := r; exact .int _ _
  | .text x, _, _, v, r => by cases v; obtain ⟨t, rfl⟩ := r; exact .text _ _
  | .tup ks, _, _, v, r => by
    cases v with
    | @tup q xs _ hq hk =>
      cases r
      obtain ⟨_, its, rv, o, h1, h2, n, h3⟩ := (show ObjOk P w H h q (.tup xs) from ok q _ hq)
      exact .tup h1 h2 h3 (by simpa using NKs.nis ok ks _ _ hk rv)
theorem NKs.nis {P : Program} {w : World} {B : Bool} {H : Hp} {h : Heap} (ok : HOk P w H h) : ∀ (ks : List NestedKey) (xs : List V) (us : List Value), NKs B H ks xs → Vals xs us → NestedAll h ks us
  | [], _, _, v, r => by cases v; cases r; exact .nil
  | k :: ks, _, _, v, r => by
    cases v with
    | cons v1 v2 =>
      cases r with
      | cons r1 r2 => exact .cons (NK.nis ok k _ _ v1 r1) (NKs.nis ok ks _ _ v2 r2)
end
mutual
theorem NK.keep {B : Bool} {H H' : Hp} (ht : ∀ b ys, H b = some (.tup ys) → H' b = some (.tup ys)) : ∀ (k : NestedKey) (x : V), NK B H k x → NK B H' k x
  | .none, _, v => by cases v; exact .none
  | .num i, _, v => by
    cases v with
    | bl h e => exact .bl h e
    | int _ => exact .int _
  | .text x, _, v => by cases v; exact .str _
  | .tup ks, _, v => by
    cases v with
    | tup hq hk => exact .tup (ht _ _ hq) (NKs.keep ht ks _ hk)
theorem NKs.keep {B : Bool} {H H' : Hp} (ht : ∀ b ys, H b = some (.tup ys) → H' b = some (.tup ys)) : ∀ (ks : List NestedKey) (xs : List V), NKs B H ks xs → NKs B H' ks xs
  | [], _, v => by cases v; exact .nil
  | k :: ks, _, v => by
    cases v with
    | cons v1 v2 => exact .cons (NK.keep ht k _ v1) (NKs.keep ht ks _ v2)
end
/-- at b stands that key -/
def KeyB (B : Bool) (H : Hp) (k : NestedKey) (b : Addr) : Prop := NK B H k (.ref b) ∧ k.depth ≤ 8
theorem KeyB.is {P : Program} {w : World} {B : Bool} {H : Hp} {h : Heap} {k : NestedKey} {b : Addr} (ok : HOk P w H h) (z : KeyB B H k b) : (nestedKind P w).is h k b := ⟨NK.nis ok k _ _ z.1 rfl, z.2⟩
theorem KeyB.keep {B : Bool} {H H' : Hp} {k : NestedKey} {b : Addr} (z : KeyB B H k b) (ht : ∀ b ys, H b = some (.tup ys) → H' b = some (.tup ys)) : KeyB B H' k b := ⟨NK.keep ht k _ z.1, z.2⟩

abbrev NEnt := NestedKey × Addr × V
abbrev NPair : List NEnt → List (NestedKey × Addr × Value) → Prop := Paired fun p q => p.1 = q.1 ∧ p.2.1 = q.2.1 ∧ RelV p.2.2 q.2.2
def rows1 (xs : List NEnt) : List (NestedKey × V) := xs.map fun x => (x.1, x.2.2)
def putX (xs : List NEnt) (k : NestedKey) (b : Addr) (y : V) : List NEnt :=
  if (xs.any fun x => decide (x.1 = k)) = true then xs.map (fun x => if x.1 = k then (x.1, x.2.1, y) else x) else xs ++ [(k, b, y)]
theorem rows1_any (k : NestedKey) : ∀ xs : List NEnt, ((rows1 xs).any fun x => decide (x.1 = k)) = xs.any fun x => decide (x.1 = k)
  | [] => rfl
  | x :: xs => by
    show ((x.1, x.2.2) :: rows1 xs).any _ = _
    rw [List.any_cons, List.any_cons, rows1_any k xs]
theorem rows1_put (xs : List NEnt) (k : NestedKey) (b : Addr) (y : V) : rows1 (putX xs k b y) = putK (rows1 xs) k y := by
  unfold putX putK
  rw [rows1_any]
  by_cases q : (xs.any fun x => decide (x.1 = k)) = true
  · rw [if_pos q, if_pos q]
    unfold rows1
    rw [List.map_map, List.map_map]
    refine List.map_congr_left fun x _ => ?_
    show ((if x.1 = k then (x.1, x.2.1, y) else x).1, (if x.1 = k then (x.1, x.2.1, y) else x).2.2) = if x.1 = k then (x.1, y) else (x.1, x.2.2)
    by_cases e : x.1 = k
    · rw [if_pos e, if_pos e]
    · rw [if_neg e, if_neg e]
  · rw [if_neg q, if_neg q]
    unfold rows1
    rw [List.map_append]
    rfl
theorem NPair.val {xs : List NEnt} {ys : List (NestedKey × Addr × Value)} (r : NPair xs ys) (k : NestedKey) : RelO (valV (rows1 xs) k) ((atKey ys k).map (·.2)) := by
  induction r with
  | nil => exact True.intro
  | @cons p q ps qs h t ih =>
    obtain ⟨h1, _, h2⟩ := h
    show RelO (valV ((p.1, p.2.2) :: rows1 ps) k) _
    by_cases e : p.1 = k
    · have e' : q.1 = k := h1.symm.trans e
      have b : atKey (q :: qs) k = some q.2 := by simp [atKey, List.find?_cons, e']
      rw [valV_pos (p := (p.1, p.2.2)) e, b]; exact h2
    · have e' : ¬ q.1 = k := fun z => e (h1.trans z)
      have b : atKey (q :: qs) k = atKey qs k := by simp [atKey, List.find?_cons, e']
      rw [valV_neg (p := (p.1, p.2.2)) e, b]; exact ih
theorem NPair.repl {xs : List NEnt} {ys : List (NestedKey × Addr × Value)} (r : NPair xs ys) (k : NestedKey) {y : V} {u : Value} (ry : RelV y u) :
    NPair (xs.map fun x => if x.1 = k then (x.1, x.2.1, y) else x) (ys.map (putAt k u)) := by
  induction r with
  | nil => exact .nil
  | @cons p q ps qs h t ih =>
    rw [List.map_cons, List.map_cons]
    refine .cons ?_ ih
    obtain ⟨h1, h2, h3⟩ := h
    unfold putAt
    by_cases e : p.1 = k
    · rw [if_pos e, if_pos (h1.symm.trans e)]; exact ⟨h1, h2, ry⟩
    · rw [if_neg e, if_neg (fun z => e (h1.trans z))]; exact ⟨h1, h2, h3⟩
theorem NPair.put {xs : List NEnt} {ys : List (NestedKey × Addr × Value)} (r : NPair xs ys) (k : NestedKey) (b : Addr) {y : V} {u : Value} (ry : RelV y u) : NPair (putX xs k b y) (storedH ys k b u) := by
  have e : (xs.any fun x => decide (x.1 = k)) = (atKey ys k).isSome := by
    rw [← rows1_any, valV_any, (r.val k).isSome_eq, Option.isSome_map]
  unfold putX storedH
  rw [e]
  by_cases q : (atKey ys k).isSome = true
  · rw [if_pos q, if_pos q]; exact r.repl k ry
  · rw [if_neg q, if_neg q]; exact Paired.snoc r ⟨rfl, rfl, ry⟩
def KeysX (B : Bool) (H : Hp) (xs : List NEnt) : Prop := ∀ x ∈ xs, KeyB B H x.1 x.2.1
theorem KeysX.keep {B : Bool} {H H' : Hp} {xs : List NEnt} (z : KeysX B H xs) (ht : ∀ b ys, H b = some (.tup ys) → H' b = some (.tup ys)) : KeysX B H' xs := fun x hx => (z x hx).keep ht
theorem KeysX.put {B : Bool} {H : Hp} {xs : List NEnt} {k : NestedKey} {b : Addr} {y : V} (z : KeysX B H xs) (kb : KeyB B H k b) : KeysX B H (putX xs k b y) := by
  unfold putX
  split
  · intro x hx
    obtain ⟨x0, h0, rfl⟩ := List.mem_map.mp hx
    have := z x0 h0
    split <;> exact this
  · intro x hx
    rcases List.mem_append.mp hx with h | h
    · exact z x h
    · rw [List.mem_singleton.mp h]; exact kb
theorem NPair.all {P : Program} {w : World} {B : Bool} {H : Hp} {h : Heap} (ok : HOk P w H h) {xs : List NEnt} {ys : List (NestedKey × Addr × Value)} (r : NPair xs ys) (z : KeysX B H xs) : ∀ y ∈ ys, (nestedKind P w).is h y.1 y.2.1 := by
  induction r with
  | nil => intro y hy; exact nomatch hy
  | @cons p q ps qs hh t ih =>
    intro y hy
    rcases List.mem_cons.mp hy with e | hy
    · subst e
      rw [← hh.1, ← hh.2.1]
      exact (z p (List.mem_cons_self ..)).is ok
    · exact ih (fun x hx => z x (List.mem_cons_of_mem _ hx)) y hy

def DNf (P : Program) (w : World) (d : Addr) (xs : List NEnt) (h : Heap) : Prop := xs.length ≤ sizeLine ∧ (d == sysModules) = false ∧ ∃ ys : List (NestedKey × Addr × Value), NPair xs ys ∧
  ∃ o es ep, h.get? d = some o ∧ o.ExactDict ∧ o.data = .dict es ep ∧ es.toList = ys.map (entryOfKey (nestedKind P w)) ∧ (ys.map (·.1)).Nodup
def DNo (P : Program) (w : World) (d : Addr) (xs : List NEnt) : HO := .ext (DNf P w d xs)
theorem DNf.stay {P : Program} {w : World} {d : Addr} {xs : List NEnt} {h1 h2 : Heap} (z : DNf P w d xs h1) (k : ∀ o, h1.get? d = some o → h2.get? d = some o) : DNf P w d xs h2 := by
  obtain ⟨a, b, ys, r, o, es, ep, ho, q⟩ := z
  exact ⟨a, b, ys, r, o, es, ep, k o ho, q⟩
theorem DNf.ok {P : Program} {w : World} {H : Hp} {h : Heap} {d : Addr} {xs : List NEnt} (z : DNf P w d xs h) : ObjOk P w H h d (DNo P w d xs) := by
  refine ⟨z, ?_, fun h1 h2 x k => x.stay k⟩
  obtain ⟨_, _, _, _, o, _, _, ho, _⟩ := z
  exact ⟨o, ho⟩
/-- at d stands a dict with these keys and values -/
def DNr (P : Program) (w : World) (B : Bool) (H : Hp) (d : Addr) (kvs : List (NestedKey × V)) : Prop := ∃ xs, rows1 xs = kvs ∧ Rd H d (DNo P w d xs) ∧ KeysX B H xs
/-- .. that may be written -/
def DN (P : Program) (w : World) (B : Bool) (H : Hp) (d : Addr) (kvs : List (NestedKey × V)) : Prop := ∃ xs, rows1 xs = kvs ∧ H d = some (DNo P w d xs) ∧ KeysX B H xs
theorem DN.rd {P : Program} {w : World} {B : Bool} {H : Hp} {d : Addr} {kvs : List (NestedKey × V)} (z : DN P w B H d kvs) : DNr P w B H d kvs := let ⟨xs, a, b, c⟩ := z; ⟨xs, a, .inl b, c⟩
theorem DN.keep {P : Program} {w : World} {B : Bool} {H H' : Hp} {d : Addr} {kvs : List (NestedKey × V)} (z : DN P w B H d kvs) (e : H' d = H d) (ht : ∀ b ys, H b = some (.tup ys) → H' b = some (.tup ys)) : DN P w B H' d kvs :=
  let ⟨xs, a, b, c⟩ := z; ⟨xs, a, e.trans b, c.keep ht⟩
theorem DN.new {P : Program} {w : World} {B : Bool} {H : Hp} {d : Addr} : DN P w B (upd H d (DNo P w d [])) d [] := ⟨[], rfl, upd_same, fun x hx => nomatch hx⟩
section
variable {P : Program} {w : World} {B : Bool} {H : Hp} {h : Heap} {a : Addr} {kvs : List (NestedKey × V)}
theorem rows1_len (xs : List NEnt) : (rows1 xs).length = xs.length := by simp [rows1]
theorem dn_rd (ok : HOk P w H h) (e : DNr P w B H a kvs) : kvs.length ≤ sizeLine ∧ (a == sysModules) = false ∧ ∃ xs ys, rows1 xs = kvs ∧ KeysX B H xs ∧ NPair xs ys ∧ h.DictOfH (nestedKind P w) a ys := by
  obtain ⟨xs, rfl, rd, kx⟩ := e
  obtain ⟨⟨z, hd, ys, r, o, es, ep, h1, h2, h3, h4, h5⟩, _, _⟩ := (show ObjOk P w H h a (DNo P w a xs) from rd_of ok rd)
  exact ⟨by rw [rows1_len]; exact z, hd, xs, ys, rfl, kx, r, o, es, ep, h1, h2, h3, h4, NPair.all ok r kx, h5⟩
end
section
variable {B : Bool} {X : Cx} {pins : List (Addr × Obj)} {σ : St} {H : Hp} {s : Shared} {a b : Addr} {v : V} {u r : Value} {A : Around} {E : Value → Shared → Prop} {kvs : List (NestedKey × V)} {k : NestedKey}
theorem n_room (hu : A.units + 9 < cLine) : (nestedKind X.prog X.w).room A.in1 := by show A.units + 1 + 8 < cLine; omega
theorem n_getItem {Q : Value → Shared → Prop} (hu : A.units + 9 < cLine) (I : Inv X pins σ H s) (e : DNr X.prog X.w B H a kvs) (kb : KeyB B H k b) (hv : valV kvs k = some v) (h : ∀ w' s', Inv X pins σ H s' → RelV v w' → Q w' s') :
    wpAny (model X.prog X.w) A (getItem (.ref a) (.ref b)) Q E s := by
  obtain ⟨z, hd, xs, ys, rfl, kx, rel, dd⟩ := dn_rd I.hok e
  obtain ⟨w', hw, rw'⟩ := RelO.some_of (v := v) (o := (atKey ys k).map (·.2)) (by rw [← hv]; exact rel.val k)
  obtain ⟨p, hp, hp2⟩ := Option.map_eq_some_iff.mp hw
  refine wpAny_getItem_heap (n_room (X := X) hu) (kb.is I.hok) dd hp ?_
  rw [hp2]
  exact h w' _ (I.tok _) rw'
theorem n_in {Q : Value → Shared → Prop} (hu : A.units + 9 < cLine) (I : Inv X pins σ H s) (e : DNr X.prog X.w B H a kvs) (kb : KeyB B H k b) (h : ∀ s', Inv X pins σ H s' → Q (.bool (valV kvs k).isSome) s') :
    wpAny (model X.prog X.w) A (compareOp .In (.ref b) (.ref a)) Q E s := by
  obtain ⟨z, hd, xs, ys, rfl, kx, rel, dd⟩ := dn_rd I.hok e
  refine wpAny_in_heap (n_room (X := X) hu) (kb.is I.hok) hd dd ?_
  have q := (rel.val k).isSome_eq
  rw [Option.isSome_map] at q
  rw [← q]
  exact h _ (I.tok _)
theorem n_notIn {Q : Value → Shared → Prop} (hu : A.units + 9 < cLine) (I : Inv X pins σ H s) (e : DNr X.prog X.w B H a kvs) (kb : KeyB B H k b) (h : ∀ s', Inv X pins σ H s' → Q (.bool (!(valV kvs k).isSome)) s') :
    wpAny (model X.prog X.w) A (compareOp .NotIn (.ref b) (.ref a)) Q E s := by
  obtain ⟨z, hd, xs, ys, rfl, kx, rel, dd⟩ := dn_rd I.hok e
  refine wpAny_notIn_heap (n_room (X := X) hu) (kb.is I.hok) hd dd ?_
  have q := (rel.val k).isSome_eq
  rw [Option.isSome_map] at q
  rw [← q]
  exact h _ (I.tok _)
/-- what may have been made of H by writing the dict at a -/
def OnlyAt (H H' : Hp) (a : Addr) : Prop := ∀ c, c ≠ a → H' c = H c
theorem n_put {h' : Heap} {t' : Nat} {xs : List NEnt} (I : Inv X pins σ H s) (e : H a = some (DNo X.prog X.w a xs)) (kx : KeysX B H xs) (hs : Heap.SameBut a s.heap h') (z : DNf X.prog X.w a xs s.heap) (kb : KeyB B H k b) (rv : RelV v u) (hl : xs.length < sizeLine)
    {ys : List (NestedKey × Addr × Value)} (rel : NPair xs ys) (dd : h'.DictOfH (nestedKind X.prog X.w) a (storedH ys k b u)) :
    ∃ H', Inv X pins σ H' { s with heap := h', toks := t' } ∧ OnlyAt H H' a ∧ DN X.prog X.w B H' a (putK (rows1 xs) k v) := by
  obtain ⟨o, es, ep, h1, h2, h3, h4, _, h5⟩ := dd
  have hn : ∀ c ys, H c = some (.tup ys) → c ≠ a := fun c ys ec q => by rw [q, e] at ec; exact nomatch (show some (DNo X.prog X.w a xs) = some (HO.tup ys) from ec)
  have ln : (putX xs k b v).length ≤ sizeLine := by
    have h6 := length_putK (rows1 xs) k v
    rw [← rows1_put xs k b v, rows1_len, rows1_len] at h6
    omega
  have nw : DNf X.prog X.w a (putX xs k b v) h' := ⟨ln, z.2.1, _, rel.put k b rv, o, es, ep, h1, h2, h3, h4, h5⟩
  refine ⟨upd H a (DNo X.prog X.w a (putX xs k b v)), ?_, fun c hc => upd_ne hc, putX xs k b v, rows1_put xs k b v, upd_same, ?_⟩
  · exact d_write (ob := DNo X.prog X.w a (putX xs k b v)) I (by rw [e]; exact True.intro) hs ⟨o, h1⟩ nw.ok
  · exact (kx.put kb).keep fun c ys ec => by rw [upd_ne (hn c ys ec)]; exact ec
theorem n_setItem {Q : Unit → Shared → Prop} (hu : A.units + 9 < cLine) (I : Inv X pins σ H s) (e : DN X.prog X.w B H a kvs) (kb : KeyB B H k b) (hl : kvs.length < sizeLine) (rv : RelV v r)
    (h : ∀ H' s', Inv X pins σ H' s' → OnlyAt H H' a → DN X.prog X.w B H' a (putK kvs k v) → Q () s') :
    wpAny (model X.prog X.w) A (setItem (.ref a) (.ref b) r) Q E s := by
  obtain ⟨xs, rfl, ex, kx⟩ := e
  obtain ⟨zf, _, _⟩ := (show ObjOk X.prog X.w H s.heap a (DNo X.prog X.w a xs) from I.hok a _ ex)
  obtain ⟨z, hd, ys, rel, o, es, ep, h1, h2, h3, h4, h5⟩ := id zf
  have dd : s.heap.DictOfH (nestedKind X.prog X.w) a ys := ⟨o, es, ep, h1, h2, h3, h4, NPair.all I.hok rel kx, h5⟩
  rw [rows1_len] at hl
  refine wpAny_setItem_heap (hsz := by rw [← Paired.length rel]; exact z) (n_room (X := X) hu) (kb.is I.hok) dd fun h' dd' hs => ?_
  obtain ⟨H', I', q1, q2⟩ := n_put (t' := s.toks + (nestedKind X.prog X.w).draws k) I ex kx hs zf kb rv hl rel dd'
  exact h H' _ I' q1 q2
theorem n_setd {d : V} {Q : Value → Shared → Prop} (hu : A.units + 9 < cLine) (I : Inv X pins σ H s) (e : DN X.prog X.w B H a kvs) (kb : KeyB B H k b) (hl : kvs.length < sizeLine) (rd : RelV d r)
    (h1 : ∀ v, valV kvs k = some v → ∀ (w' : Value) (s' : Shared), Inv X pins σ H s' → RelV v w' → Q w' s')
    (h2 : valV kvs k = none → ∀ H' (w' : Value) (s' : Shared), Inv X pins σ H' s' → OnlyAt H H' a → DN X.prog X.w B H' a (putK kvs k d) → RelV d w' → Q w' s') :
    wpAny (model X.prog X.w) A (call (.builtin "dict.setdefault") [.ref a, .ref b, r]) Q E s := by
  obtain ⟨xs, rfl, ex, kx⟩ := e
  obtain ⟨zf, _, _⟩ := (show ObjOk X.prog X.w H s.heap a (DNo X.prog X.w a xs) from I.hok a _ ex)
  obtain ⟨z, hd, ys, rel, o, es, ep, g1, g2, g3, g4, g5⟩ := id zf
  have dd : s.heap.DictOfH (nestedKind X.prog X.w) a ys := ⟨o, es, ep, g1, g2, g3, g4, NPair.all I.hok rel kx, g5⟩
  rw [rows1_len] at hl
  refine call_setdefault_heap (hsz := by rw [← Paired.length rel]; exact z) (n_room (X := X) hu) (kb.is I.hok) hd dd (fun p hp => ?_) fun hn h' dd' hs => ?_
  · have q := rel.val k
    rw [hp] at q
    cases q0 : valV (rows1 xs) k with
    | none => rw [q0] at q; exact (show False from q).elim
    | some v0 => rw [q0] at q; exact h1 v0 q0 _ _ (I.tok _) q
  · have q := rel.val k
    rw [hn] at q
    cases q0 : valV (rows1 xs) k with
    | some v0 => rw [q0] at q; exact (show False from q).elim
    | none =>
      obtain ⟨H', I', q1, q2⟩ := n_put (t' := s.toks + (nestedKind X.prog X.w).draws k) I ex kx hs zf kb rd hl rel dd'
      exact h2 q0 H' _ _ I' q1 q2 rd
theorem n_typeIs (I : Inv X pins σ H s) (e : DNr X.prog X.w B H a kvs) : s.TypeIs (.ref a) "dict" := by
  obtain ⟨_, _, _, _, _, _, _, dd⟩ := dn_rd I.hok e
  exact dd.typeIs
theorem n_noDict (I : Inv X pins σ H s) (e : DNr X.prog X.w B H a kvs) : ∀ b, Value.ref a = .ref b → ∃ ob, s.heap.get? b = some ob ∧ ob.dict = none := fun b q => by
  cases q
  obtain ⟨_, _, _, _, _, _, _, ob, _, _, h1, h2, _⟩ := dn_rd I.hok e
  exact ⟨ob, h1, h2.2.1⟩
theorem n_new {P : Program} {w : World} {H : Hp} (h : Heap) (hb : sysModules < h.objs.size) : ObjOk P w H (h.push { cls := .type "dict", data := .dict #[] }) h.objs.size (DNo P w h.objs.size []) :=
  DNf.ok ⟨Nat.zero_le _, beq_eq_false_iff_ne.mpr (Ne.symm (Nat.ne_of_lt hb)), [], .nil, _, #[], 0, Heap.get?_push_size _ rfl, ⟨rfl, rfl, rfl⟩, rfl, rfl, List.nodup_nil⟩
end
end L2

set_option Elab.async false
set_option linter.all false
set_option maxRecDepth 100000
set_option maxHeartbeats 4000000
/-! Rules over dicts whose keys are nested tuples. -/
namespace L2
open PySem PySem.Spec PyProof.Rows
def tNNew (P : Program) (w : World) : TE := fun _ H Q => ∀ p, H p = none → Q (.ref p) (upd H p (DNo P w p []))
section
variable (P : Program) (w : World) (B : Bool)
def tNGet (td ty : TE) : TE := fun σ H Q => td σ H fun x H1 => ty σ H1 fun y H2 => ∃ a b kvs k v, x = .ref a ∧ y = .ref b ∧ DNr P w B H2 a kvs ∧ KeyB B H2 k b ∧ valV kvs k = some v ∧ Q v H2
def tNIn (ty td : TE) : TE := fun σ H Q => ty σ H fun y H1 => td σ H1 fun x H2 => ∃ a b kvs k, x = .ref a ∧ y = .ref b ∧ DNr P w B H2 a kvs ∧ KeyB B H2 k b ∧ Q (.bl (valV kvs k).isSome) H2
def tNNotIn (ty td : TE) : TE := fun σ H Q => ty σ H fun y H1 => td σ H1 fun x H2 => ∃ a b kvs k, x = .ref a ∧ y = .ref b ∧ DNr P w B H2 a kvs ∧ KeyB B H2 k b ∧ Q (.bl (!(valV kvs k).isSome)) H2
def sNPut (td ty tv : TE) : TS := fun D σ H => tv σ H fun v H1 => td σ H1 fun x H2 => ty σ H2 fun y H3 => ∃ a b kvs k, x = .ref a ∧ y = .ref b ∧ DN P w B H3 a kvs ∧ KeyB B H3 k b ∧ kvs.length < sizeLine ∧
  ∀ H4, OnlyAt H3 H4 a → DN P w B H4 a (putK kvs k v) → D.nx σ H4
def tNSetd (td ty tx : TE) : TE := fun σ H Q => td σ H fun x H1 => ∃ a kvs0, x = .ref a ∧ DNr P w B H1 a kvs0 ∧ ty σ H1 fun y H2 => tx σ H2 fun z H3 => ∃ b kvs k, y = .ref b ∧ DN P w B H3 a kvs ∧ KeyB B H3 k b ∧ kvs.length < sizeLine ∧
  (∀ v, valV kvs k = some v → Q v H3) ∧ (valV kvs k = none → ∀ H4, OnlyAt H3 H4 a → DN P w B H4 a (putK kvs k z) → Q z H4)
def rLenN : List V → Hp → VK → Prop := fun xs H Q => ∃ (p : Addr) (kvs : List (NestedKey × V)), xs = [.ref p] ∧ DNr P w B H p kvs ∧ Q (.int ((kvs.length : Nat) : Int)) H
def IsKeysN (B : Bool) (H : Hp) (kvs : List (NestedKey × V)) (bs : List Addr) : Prop := Paired (fun p b => KeyB B H p.1 b) kvs bs
end
section
variable {B : Bool} {X : Cx} {o i e f value : Expr} {pos pos' tpos apos cpos : Pos} {td ty tv tx : TE}
theorem pe_nnew : PE X (.Dict [] [] pos) (tNNew X.prog X.w) := ⟨fun pins s σ H Q I h =>
  wpAny_Dict_empty ⟨.ref s.heap.objs.size, _, I.laid (a := s.heap.objs.size) (o := DNo X.prog X.w s.heap.objs.size []) (t' := s.toks) (fun _ _ q => Heap.get?_push_of_some _ q) (Nat.le_refl _) (n_new s.heap I.big), rfl, h _ (I.hok.fresh (Nat.le_refl _))⟩⟩
theorem pe_nget (hu : X.A.units + 9 < cLine) (ho : PE X o td) (hi : PE X i ty) (hs : NoSl i) : PE X (.Subscript o i pos) (tNGet X.prog X.w B td ty) := by
  refine ⟨fun pins s σ H Q I h => ?_⟩
  refine subD_of PySem.F.slot_dict_getitem.lookup hs (thn (ho.run pins s σ H _ I h) fun u s1 ⟨x, H1, I1, rx, q1⟩ => thn (hi.run pins s1 σ H1 _ I1 q1) fun iv s2 ⟨y, H2, I2, ry, a, b, kvs, k, v, ex, ey, g, kb, hv, q2⟩ => ?_)
  subst ex ey
  obtain rfl : u = Value.ref a := rx
  obtain rfl : iv = Value.ref b := ry
  exact ⟨n_typeIs I2 g, n_getItem hu I2 g kb hv fun w' s3 I3 rw' => ⟨v, H2, I3, rw', q2⟩⟩
theorem pc_nin (hu : X.A.units + 9 < cLine) (hi : PE X i ty) (ho : PE X o td) : PC X .In i o (tNIn X.prog X.w B ty td) := by
  refine ⟨fun pins s σ H Q I h => ?_⟩
  refine thn (hi.run pins s σ H _ I h) fun iv s1 ⟨y, H1, I1, ry, q1⟩ => thn (ho.run pins s1 σ H1 _ I1 q1) fun u s2 ⟨x, H2, I2, rx, a, b, kvs, k, ex, ey, g, kb, q2⟩ => ?_
  subst ex ey
  obtain rfl : u = Value.ref a := rx
  obtain rfl : iv = Value.ref b := ry
  exact n_in hu I2 g kb fun s3 I3 => ⟨.bl (valV kvs k).isSome, H2, I3, rfl, q2⟩
theorem pc_nnotin (hu : X.A.units + 9 < cLine) (hi : PE X i ty) (ho : PE X o td) : PC X .NotIn i o (tNNotIn X.prog X.w B ty td) := by
  refine ⟨fun pins s σ H Q I h => ?_⟩
  refine thn (hi.run pins s σ H _ I h) fun iv s1 ⟨y, H1, I1, ry, q1⟩ => thn (ho.run pins s1 σ H1 _ I1 q1) fun u s2 ⟨x, H2, I2, rx, a, b, kvs, k, ex, ey, g, kb, q2⟩ => ?_
  subst ex ey
  obtain rfl : u = Value.ref a := rx
  obtain rfl : iv = Value.ref b := ry
  exact n_notIn hu I2 g kb fun s3 I3 => ⟨.bl (!(valV kvs k).isSome), H2, I3, rfl, q2⟩
theorem ps_nput (hu : X.A.units + 9 < cLine) (ho : PE X o td) (hi : PE X i ty) (hv : PE X value tv) (hs : swapsWith value (some (.Subscript o i pos')) pos.line X.env = pure false) :
    PS X (.Assign [.Subscript o i pos'] value pos) (sNPut X.prog X.w B td ty tv) := by
  refine ⟨fun pins s σ H D I h => ?_⟩
  refine wpAny_Assign_Subscript (thn (hv.run pins s σ H _ I h) fun r s1 ⟨v, H1, I1, rv, q1⟩ => thn (ho.run pins s1 σ H1 _ I1 q1) fun u s2 ⟨x, H2, I2, rx, q2⟩ => thn (hi.run pins s2 σ H2 _ I2 q2) fun iv s3 ⟨y, H3, I3, ry, a, b, kvs, k, ex, ey, g, kb, hl, q3⟩ => ?_) hs
  subst ex ey
  obtain rfl : u = Value.ref a := rx
  obtain rfl : iv = Value.ref b := ry
  exact n_setItem hu I3 g kb hl rv fun H4 s4 I4 c1 c2 => ⟨σ, H4, I4, q3 H4 c1 c2⟩
theorem pe_nsetd (hu : X.A.units + 9 < cLine) (ho : PE X o td) (he : PE X e ty) (hf : PE X f tx) (m : M2 X o "setdefault" apos e f cpos) : PE X (.Call (.Attribute o "setdefault" apos) [e, f] [] cpos) (tNSetd X.prog X.w B td ty tx) := by
  refine ⟨fun pins s σ H Q I h => ?_⟩
  refine wpAny_Call_method m.base m.few m.line PySem.F.plainAttrs_dict PySem.F.slot_dict_setdefault PySem.F.type_dict_setdefault (thn (ho.run pins s σ H _ I h) fun u s1 ⟨x, H1, I1, rx, a, kvs0, ex, d, q1⟩ => ?_)
  subst ex
  obtain rfl : u = Value.ref a := rx
  refine ⟨n_typeIs I1 d, n_noDict I1 d, ?_⟩
  rw [m.trees]
  refine Calls.callWith_builtin rfl (Calls.evalArgs_plain (Calls.spliced_cons (thn (he.run pins s1 σ H1 _ I1 q1) fun iv s2 ⟨y, H2, I2, ry, q2⟩ =>
    Calls.spliced_cons (thn (hf.run pins s2 σ H2 _ I2 q2) fun fv s3 ⟨z, H3, I3, rz, b, kvs, k, ey, g, kb, hl, q3, q4⟩ => Calls.spliced_nil ?_))))
  subst ey
  obtain rfl : iv = Value.ref b := ry
  exact n_setd hu I3 g kb hl rz (fun v hv w' s4 I4 rw' => ⟨v, _, I4, rw', q3 v hv⟩) fun hn H4 w' s4 I4 c1 c2 rw' => ⟨z, _, I4, rw', q4 hn H4 c1 c2⟩
theorem call_len_dN : CallR X (.builtin "len") (rLenN X.prog X.w B) := by
  intro pins s σ H xs us Q I r h
  obtain ⟨p, kvs, rfl, hp, q⟩ := h
  obtain ⟨u, rfl, rx⟩ := vals1 r
  obtain rfl : u = .ref p := rx
  obtain ⟨z, hd, xs, ys, rfl, kx, rel, dd⟩ := dn_rd I.hok hp
  have hl : (rows1 xs).length = ys.length := by rw [rows1_len]; exact Paired.length rel
  refine call_len_dictH hd dd (by rw [← hl]; rw [sizeLine_eq] at z; omega) ?_
  rw [← hl]
  exact ⟨.int (((rows1 xs).length : Nat) : Int), H, I.tok _, ⟨_, rfl⟩, q⟩
theorem isKeysN_of {H : Hp} {xs : List NEnt} {ys : List (NestedKey × Addr × Value)} (r : NPair xs ys) (kx : KeysX B H xs) : IsKeysN B H (rows1 xs) (ys.map fun x => x.2.1) := by
  unfold IsKeysN
  induction r with
  | nil => exact Paired.nil
  | @cons p q ps qs h t ih =>
    refine Paired.cons ?_ (ih fun x hx => kx x (List.mem_cons_of_mem _ hx))
    show KeyB B H p.1 q.2.1
    rw [← h.2.1]
    exact kx p (List.mem_cons_self ..)
/-- what was read of a dict's entries, one by one, is its keys' addresses -/
theorem read_keys {P : Program} {w : World} {ys : List (NestedKey × Addr × Value)} {es : Array DictEntry} {acc : Array Value} (he : es.toList = ys.map (entryOfKey (nestedKind P w))) (hn : acc.size = es.size)
    (hv : ∀ (j : Nat) (v : Value), acc[j]? = some v → ∃ en : DictEntry, es[j]? = some en ∧ v = en.key) : acc.toList = (ys.map (·.2.1)).map Value.ref := by
  have ly : ys.length = es.size := by
    have z := congrArg List.length he
    simpa using z.symm
  refine List.ext_getElem (by simp [hn, ly]) fun j h1 h2 => ?_
  have j1 : j < acc.size := by simpa using h1
  have j2 : j < ys.length := by omega
  obtain ⟨en, e1, e2⟩ := hv j acc[j] (Array.getElem?_eq_getElem j1)
  have e3 : es.toList[j]? = some (entryOfKey (nestedKind P w) ys[j]) := by rw [he, List.getElem?_map, List.getElem?_eq_getElem j2]; rfl
  rw [Array.getElem?_toList, e1] at e3
  have e4 : en.key = Value.ref (ys[j]).2.1 := by rw [Option.some.inj e3]; rfl
  simp only [Array.getElem_toList, List.getElem_map]
  rw [e2, e4]
theorem refs_are : ∀ l : List Addr, Vals (l.map V.ref) (l.map Value.ref)
  | [] => .nil
  | _ :: l => .cons rfl (refs_are l)
theorem call_list_dN (hc : X.calm = true) : CallR X (.type "list") (fun xs H Q => ∃ d kvs, xs = [V.ref d] ∧ DNr X.prog X.w B H d kvs ∧ ∀ p bs, H p = none → IsKeysN B H kvs bs → Q (.ref p) (upd H p (.lst (bs.map V.ref)))) := by
  rintro pins s σ H _ us Q I r ⟨d, kvs, rfl, hd, q⟩
  obtain rfl := Vals.ref1 r
  obtain ⟨z, low, xs, ys, rfl, kx, pr, o, es, ep, ho, hx, hdt, he, _, _⟩ := dn_rd I.hok hd
  have ly : ys.length = es.size := by
    have z := congrArg List.length he
    simpa using z.symm
  have lx : (rows1 xs).length = ys.length := by rw [rows1_len]; exact Paired.length pr
  have small : es.size ≤ sizeLine := by omega
  refine PySem.W.kdl_call (kdl_raw low hx hdt) (I.ok.hd hc) ho small fun h2 tk acc c kp e it => ?_
  have ea := read_keys he it.1 it.2
  have new : ObjOk X.prog X.w (upd H s.heap.objs.size (.lst ((ys.map (·.2.1)).map V.ref))) h2 s.heap.objs.size (.lst ((ys.map (·.2.1)).map V.ref)) := by
    refine ⟨by simp only [List.length_map]; omega, acc.toList, c, by rw [ea]; exact refs_are _, ?_⟩
    simpa using e
  exact ⟨.ref s.heap.objs.size, _, I.laid (t' := tk) kp (Nat.le_refl _) new, rfl, q _ _ (I.hok.fresh (Nat.le_refl _)) (isKeysN_of pr kx)⟩
end
end L2

set_option Elab.async false
set_option linter.all false
set_option maxRecDepth 100000
set_option maxHeartbeats 4000000
/-! What spread keeps. -/
namespace K10
open PySem L2 L2.EV
def nK (n : Nat) : Key := .inl ((n : Nat) : Int)
theorem nK_inj (a b : Nat) (h : nK a = nK b) : a = b := by
  have := Sum.inl.inj h
  omega
def idxV (m : Nat) : List V := (List.range m).map nV
theorem idxV_len (m : Nat) : (idxV m).length = m := by
  unfold idxV
  rw [List.length_map, List.length_range]
theorem idxV_succ (m : Nat) : idxV (m + 1) = idxV m ++ [nV m] := by
  unfold idxV
  rw [List.range_succ, List.map_append]
  rfl
/-- a row: pairs of a sign and a number -/
def P3 (H : Hp) (p : Addr) (x : Nat × Nat) : Prop := H p = some (.tup [.str (ch1 x.1), nV x.2])
def At3p (H : Hp) (ps : List Addr) (r : List (Nat × Nat)) : Prop := ps.length = r.length ∧ ∀ (i : Nat) p x, ps[i]? = some p → r[i]? = some x → P3 H p x
theorem At3p.keep {H H' : Hp} {ps : List Addr} {r : List (Nat × Nat)} (h : At3p H ps r) (k : KeepT H H') : At3p H' ps r := ⟨h.1, fun i p x h1 h2 => k _ _ (h.2 i p x h1 h2)⟩
theorem snoc_at {α β : Type} {ps : List α} {r : List β} {p : α} {x : β} {R : α → β → Prop} (l : ps.length = r.length) (h : ∀ (i : Nat) a b, ps[i]? = some a → r[i]? = some b → R a b) (hp : R p x) :
    ∀ (i : Nat) a b, (ps ++ [p])[i]? = some a → (r ++ [x])[i]? = some b → R a b := fun i a b h1 h2 => by
  by_cases c : i < ps.length
  · rw [List.getElem?_append_left c] at h1
    rw [List.getElem?_append_left (by rw [← l]; exact c)] at h2
    exact h i a b h1 h2
  · rw [List.getElem?_append_right (by omega)] at h1
    rw [List.getElem?_append_right (by rw [← l]; omega), ← l] at h2
    cases j : i - ps.length with
    | succ n => rw [j] at h1; simp at h1
    | zero =>
      rw [j] at h1 h2
      have e1 : p = a := by simpa using h1
      have e2 : x = b := by simpa using h2
      subst e1 e2
      exact hp
theorem At3p.snoc {H : Hp} {ps : List Addr} {r : List (Nat × Nat)} {p : Addr} {x : Nat × Nat} (h : At3p H ps r) (hp : P3 H p x) : At3p H (ps ++ [p]) (r ++ [x]) :=
  ⟨by rw [List.length_append, List.length_append, h.1]; rfl, snoc_at h.1 h.2 hp⟩
def RwA (H : Hp) (t : Addr) (r : List (Nat × Nat)) : Prop := ∃ ps : List Addr, H t = some (.tup (ps.map V.ref)) ∧ At3p H ps r
theorem RwA.keep {H H' : Hp} {t : Addr} {r : List (Nat × Nat)} (h : RwA H t r) (k : KeepT H H') : RwA H' t r := let ⟨ps, a, b⟩ := h; ⟨ps, k _ _ a, b.keep k⟩
/-- the keys of unlike: each once, all among some -/
def UnK (u : List NestedKey) (kvs : List (NestedKey × V)) : Prop := (kvs.map (·.1)).Nodup ∧ ∀ k ∈ kvs.map (·.1), k ∈ u
theorem UnK.len {u : List NestedKey} {kvs : List (NestedKey × V)} (h : UnK u kvs) : kvs.length ≤ u.length := by
  have := h.1.length_le_of_subset h.2
  rwa [List.length_map] at this
theorem UnK.put {u : List NestedKey} {kvs : List (NestedKey × V)} {k : NestedKey} (h : UnK u kvs) (hk : k ∈ u) (v : V) : UnK u (putK kvs k v) := by
  unfold putK
  by_cases c : (kvs.any fun kv => decide (kv.1 = k)) = true
  · rw [if_pos c]
    have e : (kvs.map fun kv => if kv.1 = k then (kv.1, v) else kv).map (·.1) = kvs.map (·.1) := by
      rw [List.map_map]
      refine List.map_congr_left fun kv _ => ?_
      show (if kv.1 = k then (kv.1, v) else kv).1 = kv.1
      split <;> rfl
    unfold UnK
    rw [e]
    exact h
  · rw [if_neg c]
    have n : ¬ k ∈ kvs.map (·.1) := fun z => by
      obtain ⟨kv, h1, h2⟩ := List.mem_map.mp z
      exact c (List.any_eq_true.mpr ⟨kv, h1, decide_eq_true h2⟩)
    unfold UnK
    rw [List.map_append]
    refine ⟨List.nodup_append.mpr ⟨h.1, by simp, fun a ha b hb e => ?_⟩, fun x hx => ?_⟩
    · have hb : b = k := by simpa using hb
      exact n (hb ▸ e ▸ ha)
    · rcases List.mem_append.mp hx with z | z
      · exact h.2 x z
      · have hb : x = k := by simpa using z
        rw [hb]
        exact hk
structure Swp (P : Program) (w : World) (H H' : Hp) (Nb Li Un Rw Gd : Addr) (ls : List Nat) (rows : List (List (Nat × Nat))) (gs : List Bool) (u : List NestedKey) : Prop where
  s : Same H H'
  hNb : H' Nb = some (.dK (zk nK ls (idxV ls.length)))
  hLi : H' Li = some (.lst (ls.map nV))
  hUn : ∃ kvs, DN P w true H' Un kvs ∧ UnK u kvs
  hRw : ∃ rts : List Addr, H' Rw = some (.lst (rts.map V.ref)) ∧ rts.length = rows.length ∧ ∀ (i : Nat) t r, rts[i]? = some t → rows[i]? = some r → RwA H' t r
  hGd : H' Gd = some (.lst (gs.map V.bl))
  n1 : H Nb = none
  n2 : H Li = none
  n3 : H Un = none
  n4 : H Rw = none
  n5 : H Gd = none
  d1 : Li ≠ Rw
  d2 : Li ≠ Gd
  d3 : Rw ≠ Gd
section
variable {P : Program} {w : World} {H H' H'' : Hp} {Nb Li Un Rw Gd : Addr} {ls : List Nat} {rows : List (List (Nat × Nat))} {gs : List Bool} {u : List NestedKey}
theorem dn_at {B : Bool} {d : Addr} {kvs : List (NestedKey × V)} (z : DN P w B H d kvs) : ∃ xs, H d = some (DNo P w d xs) := let ⟨xs, _, e, _⟩ := z; ⟨xs, e⟩
theorem Swp.same (h : Swp P w H H' Nb Li Un Rw Gd ls rows gs u) (s : Same H' H'') : Swp P w H H'' Nb Li Un Rw Gd ls rows gs u := by
  obtain ⟨kvs, z, l⟩ := h.hUn
  obtain ⟨xs, e⟩ := dn_at z
  obtain ⟨rts, r1, r2, r3⟩ := h.hRw
  exact ⟨h.s.trans s, s _ _ h.hNb, s _ _ h.hLi, ⟨kvs, z.keep (by rw [s _ _ e, e]) (fun b ys q => s _ _ q), l⟩, ⟨rts, s _ _ r1, r2, fun i t r h1 h2 => (r3 i t r h1 h2).keep (Same.keepT s)⟩, s _ _ h.hGd, h.n1, h.n2, h.n3, h.n4, h.n5, h.d1, h.d2, h.d3⟩
/-- unlike has one more -/
theorem Swp.un (h : Swp P w H H' Nb Li Un Rw Gd ls rows gs u) {kvs : List (NestedKey × V)} {u2 : List NestedKey} (o : OnlyAt H' H'' Un) (z : DN P w true H'' Un kvs) (l : UnK u2 kvs) : Swp P w H H'' Nb Li Un Rw Gd ls rows gs u2 ∧ KeepT H' H'' ∧ ∀ b o, H' b = some o → b ≠ Un → H'' b = some o := by
  obtain ⟨kv0, z0, _⟩ := h.hUn
  obtain ⟨xs, e⟩ := dn_at z0
  obtain ⟨rts, r1, r2, r3⟩ := h.hRw
  have ne : ∀ {a : Addr} {ob : HO}, H' a = some ob → (∀ xs, ob ≠ DNo P w Un xs) → a ≠ Un := fun {a ob} q n k => by
    rw [k, e] at q
    exact n xs (Option.some.inj q).symm
  have kt : KeepT H' H'' := fun a ys q => by
    rw [o a (ne q fun xs k => by unfold DNo at k; cases k)]
    exact q
  have st : ∀ {a : Addr} {ob : HO}, H' a = some ob → (∀ xs, ob ≠ DNo P w Un xs) → H'' a = some ob := fun q n => by
    rw [o _ (ne q n)]
    exact q
  refine ⟨⟨fun b ob q => ?_, st h.hNb (fun xs k => by unfold DNo at k; cases k), st h.hLi (fun xs k => by unfold DNo at k; cases k), ⟨kvs, z, l⟩, ⟨rts, st r1 (fun xs k => by unfold DNo at k; cases k), r2, fun i t r h1 h2 => (r3 i t r h1 h2).keep kt⟩, st h.hGd (fun xs k => by unfold DNo at k; cases k), h.n1, h.n2, h.n3, h.n4, h.n5, h.d1, h.d2, h.d3⟩, kt, fun b ob q n => by rw [o b n]; exact q⟩
  rw [o b (fun k => by rw [k, h.n3] at q; cases q)]
  exact h.s _ _ q
/-- a change at one address that is none of these -/
theorem Swp.else_ (h : Swp P w H H' Nb Li Un Rw Gd ls rows gs u) {a : Addr} {xs : List V} {ob : HO} (ha : H a = none) (he : H' a = some (.lst xs)) (d1 : a ≠ Li) (d2 : a ≠ Rw) (d3 : a ≠ Gd) : Swp P w H (upd H' a ob) Nb Li Un Rw Gd ls rows gs u := by
  obtain ⟨kv0, z0, l0⟩ := h.hUn
  obtain ⟨ys, e⟩ := dn_at z0
  obtain ⟨rts, r1, r2, r3⟩ := h.hRw
  have nU : Un ≠ a := fun k => by rw [k, he] at e; unfold DNo at e; cases e
  have nN : Nb ≠ a := fun k => by have := h.hNb; rw [k, he] at this; cases this
  have kt : KeepT H' (upd H' a ob) := keepT_upd he (fun xs z => by cases z)
  exact ⟨fun b o q => by rw [upd_ne (fun k => by rw [k, ha] at q; cases q)]; exact h.s _ _ q, by rw [upd_ne nN]; exact h.hNb, by rw [upd_ne d1.symm]; exact h.hLi, ⟨kv0, z0.keep (upd_ne nU) (fun b ys q => kt b ys q), l0⟩,
    ⟨rts, by rw [upd_ne d2.symm]; exact r1, r2, fun i t r h1 h2 => (r3 i t r h1 h2).keep kt⟩, by rw [upd_ne d3.symm]; exact h.hGd, h.n1, h.n2, h.n3, h.n4, h.n5, h.d1, h.d2, h.d3⟩
/-- a new set -/
theorem Swp.new (h : Swp P w H H' Nb Li Un Rw Gd ls rows gs u) (b : Nat) : Swp P w H (upd (upd H' Nb (.dK (zk nK ls (idxV ls.length) ++ [(nK b, nV ls.length)]))) Li (.lst (ls.map nV ++ [nV b]))) Nb Li Un Rw Gd (ls ++ [b]) rows gs u ∧
    KeepT H' (upd (upd H' Nb (.dK (zk nK ls (idxV ls.length) ++ [(nK b, nV ls.length)]))) Li (.lst (ls.map nV ++ [nV b]))) := by
  obtain ⟨kv0, z0, l0⟩ := h.hUn
  obtain ⟨ys, e⟩ := dn_at z0
  obtain ⟨rts, r1, r2, r3⟩ := h.hRw
  have nUN : Un ≠ Nb := fun k => by have := h.hNb; rw [← k, e] at this; unfold DNo at this; cases this
  have nUL : Un ≠ Li := fun k => by have := h.hLi; rw [← k, e] at this; unfold DNo at this; cases this
  have nNL : Nb ≠ Li := fun k => by have := h.hLi; rw [← k, h.hNb] at this; cases this
  have nRN : Rw ≠ Nb := fun k => by rw [k, h.hNb] at r1; cases r1
  have nGN : Gd ≠ Nb := fun k => by have := h.hGd; rw [k, h.hNb] at this; cases this
  have k1 : KeepT H' (upd H' Nb (.dK (zk nK ls (idxV ls.length) ++ [(nK b, nV ls.length)]))) := keepT_upd h.hNb (fun xs z => by cases z)
  have hL2 : (upd H' Nb (.dK (zk nK ls (idxV ls.length) ++ [(nK b, nV ls.length)]))) Li = some (.lst (ls.map nV)) := by rw [upd_ne nNL.symm]; exact h.hLi
  have kt := k1.trans (keepT_upd (o := .lst (ls.map nV ++ [nV b])) hL2 (fun xs z => by cases z))
  refine ⟨⟨fun c o q => ?_, ?_, by rw [List.map_append]; exact upd_same, ⟨kv0, z0.keep (by rw [upd_ne nUL, upd_ne nUN]) (fun b ys q => kt b ys q), l0⟩, ⟨rts, by rw [upd_ne h.d1.symm, upd_ne nRN]; exact r1, r2, fun i t r h1 h2 => (r3 i t r h1 h2).keep kt⟩, by rw [upd_ne h.d2.symm, upd_ne nGN]; exact h.hGd, h.n1, h.n2, h.n3, h.n4, h.n5, h.d1, h.d2, h.d3⟩, kt⟩
  · rw [upd_ne (fun k => by rw [k, h.n2] at q; cases q), upd_ne (fun k => by rw [k, h.n1] at q; cases q)]
    exact h.s _ _ q
  · rw [upd_ne nNL, upd_same, List.length_append, List.length_singleton, idxV_succ, zk_snoc nK (idxV_len _)]
/-- a row more -/
theorem Swp.row (h : Swp P w H H' Nb Li Un Rw Gd ls rows gs u) {t : Addr} {r : List (Nat × Nat)} {rts : List Addr} (hr : H' Rw = some (.lst (rts.map V.ref))) (ht : RwA H' t r) : Swp P w H (upd H' Rw (.lst (rts.map V.ref ++ [V.ref t]))) Nb Li Un Rw Gd ls (rows ++ [r]) gs u := by
  obtain ⟨kv0, z0, l0⟩ := h.hUn
  obtain ⟨ys, e⟩ := dn_at z0
  obtain ⟨rts2, r1, r2, r3⟩ := h.hRw
  have er : rts = rts2 := by
    rw [hr] at r1
    exact (List.map_inj_right fun a b q => by cases q; rfl).mp (HO.lst.inj (Option.some.inj r1))
  subst er
  have nU : Un ≠ Rw := fun k => by rw [k, r1] at e; unfold DNo at e; cases e
  have nN : Nb ≠ Rw := fun k => by have := h.hNb; rw [k, r1] at this; cases this
  have kt : KeepT H' (upd H' Rw (.lst (rts.map V.ref ++ [V.ref t]))) := keepT_upd r1 (fun xs z => by cases z)
  refine ⟨fun b o q => ?_, by rw [upd_ne nN]; exact h.hNb, by rw [upd_ne h.d1]; exact h.hLi, ⟨kv0, z0.keep (upd_ne nU) (fun b ys q => kt b ys q), l0⟩, ⟨rts ++ [t], by rw [List.map_append]; exact upd_same, by rw [List.length_append, List.length_append, r2]; rfl, snoc_at r2 (fun i a b h1 h2 => (r3 i a b h1 h2).keep kt) (ht.keep kt)⟩, by rw [upd_ne h.d3.symm]; exact h.hGd, h.n1, h.n2, h.n3, h.n4, h.n5, h.d1, h.d2, h.d3⟩
  rw [upd_ne (fun k => by rw [k, h.n4] at q; cases q)]
  exact h.s _ _ q
/-- one more of good or not -/
theorem Swp.good (h : Swp P w H H' Nb Li Un Rw Gd ls rows gs u) (b : Bool) : Swp P w H (upd H' Gd (.lst (gs.map V.bl ++ [V.bl b]))) Nb Li Un Rw Gd ls rows (gs ++ [b]) u := by
  obtain ⟨kv0, z0, l0⟩ := h.hUn
  obtain ⟨ys, e⟩ := dn_at z0
  obtain ⟨rts, r1, r2, r3⟩ := h.hRw
  have nU : Un ≠ Gd := fun k => by have := h.hGd; rw [← k, e] at this; unfold DNo at this; cases this
  have nN : Nb ≠ Gd := fun k => by have := h.hGd; rw [← k, h.hNb] at this; cases this
  have kt : KeepT H' (upd H' Gd (.lst (gs.map V.bl ++ [V.bl b]))) := keepT_upd h.hGd (fun xs z => by cases z)
  refine ⟨fun c o q => ?_, by rw [upd_ne nN]; exact h.hNb, by rw [upd_ne h.d2]; exact h.hLi, ⟨kv0, z0.keep (upd_ne nU) (fun b ys q => kt b ys q), l0⟩, ⟨rts, by rw [upd_ne h.d3]; exact r1, r2, fun i t r h1 h2 => (r3 i t r h1 h2).keep kt⟩, by rw [List.map_append]; exact upd_same, h.n1, h.n2, h.n3, h.n4, h.n5, h.d1, h.d2, h.d3⟩
  rw [upd_ne (fun k => by rw [k, h.n5] at q; cases q)]
  exact h.s _ _ q
end
end K10

set_option Elab.async false
set_option linter.all false
set_option maxRecDepth 100000
set_option maxHeartbeats 4000000
/-! spread. -/
namespace K10
open PySem L2 L2.EV PyProof.Rows PySem.Spec
abbrev sSpread : Stmt := top 26
structure Sd (K : PySem.W.Frag) (mg : Str → Option Value) where
  Z : Lz K mg
  T : Tq K mg
  f : Addr
  d : FuncData
  F : Fun K "spread" "spread" sSpread f d
  b : Binds K d ["framing"] []
  m : mg "spread" = some (.ref f)
  tu : mg "tuple" = none
  most : ∃ t, mg "MOST_STATES" = some (.int 200 t)
def pk (es : List En) (f j : Nat) : Nat := (expl es f j).getD j 0
def rowsK (es : List En) (f k : Nat) : List (List (Nat × Nat)) := (List.range k).map fun j => rwF es (pk es f j) (expl es f (j + 1)) (sgO es)
def gdK (es : List En) (f k : Nat) : List Bool := (List.range k).map fun j => decide (¬ pk es f j &&& endF es = 0)
theorem rowsK_succ (es : List En) (f k : Nat) : rowsK es f (k + 1) = rowsK es f k ++ [rwF es (pk es f k) (expl es f (k + 1)) (sgO es)] := by
  unfold rowsK
  rw [List.range_succ, List.map_append]
  rfl
theorem gdK_succ (es : List En) (f k : Nat) : gdK es f (k + 1) = gdK es f k ++ [decide (¬ pk es f k &&& endF es = 0)] := by
  unfold gdK
  rw [List.range_succ, List.map_append]
  rfl
theorem rowsK_len (es : List En) (f k : Nat) : (rowsK es f k).length = k := by unfold rowsK; simp
def RowsL (H : Hp) (Rw : Addr) (rows : List (List (Nat × Nat))) : Prop := ∃ rts : List Addr, H Rw = some (.lst (rts.map V.ref)) ∧ rts.length = rows.length ∧ ∀ (i : Nat) t r, rts[i]? = some t → rows[i]? = some r → RwA H t r
@[irreducible] def esF (fr : List T3) : List En := allE fr fr.length
@[irreducible] def f0F (fr : List T3) : Nat := firB fr fr.length 0
def spSpread : Sp := fun vs H Q _ => ∃ (f : Addr) (fr : List T3) (last : Nat) (U : List Nat), vs = [.ref f] ∧ FrA H f fr ∧ Frm fr last ∧ EsOk (esF fr) ∧ Inn (esF fr) (f0F fr) U ∧
  ∀ H' p Rw Gd (N : Nat), Same H H' → H' p = some (.tup [.ref Rw, .ref Gd]) → (expl (esF fr) (f0F fr) N).length = N → RowsL H' Rw (rowsK (esF fr) (f0F fr) N) → H' Gd = some (.lst ((gdK (esF fr) (f0F fr) N).map V.bl)) → Q (.ref p) H'
theorem nks_bl {H : Hp} : ∀ bs : List Bool, NKs true H (bs.map fun b => NestedKey.num (if b = true then 1 else 0)) (bs.map V.bl)
  | [] => .nil
  | b :: bs => .cons (.bl rfl rfl) (nks_bl bs)
theorem depth_bl : ∀ bs : List Bool, NestedKey.depthAll (bs.map fun b => NestedKey.num (if b = true then 1 else 0)) = 0
  | [] => rfl
  | b :: bs => by
    show max (NestedKey.depth (NestedKey.num _)) (NestedKey.depthAll _) = 0
    rw [depth_bl bs]
    rfl
section
variable {P : Program} {w : World} {K : PySem.W.Frag} {mg : Str → Option Value} {base : Heap}
abbrev NSp : List Str := ["framing", "first", "leads", "signs", "trials", "numbers", "listed", "unlike", "rows", "good", "places", "passed", "row", "sign", "behind", "trial"]
theorem scSpread : FnScope NSp ["framing"] (defScope sSpread) := ⟨rfl, rfl, rfl, by decide +kernel, rfl, by decide +kernel, by decide +kernel⟩
theorem ok_spread (G : Sd K mg) : FnOk P w K mg base CX0 3 G.f G.d ["framing"] spSpread := by
  have GL : FnOk P w K mg base CX0 2 G.Z.f G.Z.d ["framing"] spLeads := ok_leads G.Z
  have GT : FnOk P w K mg base CX0 2 G.T.f G.T.d ["leads"] spTrials := ok_trials G.T
  have GB : FnOk P w K mg base CX0 1 G.T.B.f1 G.T.B.d1 ["pairs", "places"] (spBeh behF) := ok_beh G.T.B
  refine G.F.ok scSpread (fun vs H Q E h => ?_) (fun cdv A outer s H vs Q E hr h => ?_)
  · obtain ⟨f, fr, last, U, rfl, _⟩ := h
    rfl
  · obtain ⟨f, fr, last, U, rfl, fa, fm, ok, inn, q⟩ := h
    have hu := hu_of hr
    have hu9 : (A.deeper (PyProof.Rows.envOfC "spread" (defScope sSpread) s.heap.objs.size G.f cdv)).units + 9 < cLine := by have := hr.un; omega
    have hr1 := hr.mono (j := 1) (by omega)
    obtain ⟨tm, eM⟩ := G.most
    refine ⟨_, pss_cons (ps_asg (pe_call GL hr (by rfl) G.Z.m G.Z.F.kp G.Z.b .nil pass0 (pa_cons (pv 0) pa_nil)) (pg_tup rfl (pgs_cons (pg_name (i := 1) scSpread.nd rfl (Or.inl rfl)) (pgs_cons (pg_name (i := 2) scSpread.nd rfl (Or.inl rfl)) pgs_nil))))
      (pss_cons (ps_setLc (i := 3) (own := [("sign", 13)]) (g := gName 13) (tt := tTest (tOp rNe (tVar 13) (tC (.str ";")))) (te := tVar 13) rfl scSpread.nd rfl rfl (by rfl) (pi_list (pe_callB (call_sortedD rfl) (by rfl) G.T.so (by decide +kernel) (pa_cons (pv 2) pa_nil)))
        (blkOk_by (N := NSp) (sc := defScope sSpread) (by decide +kernel)) (fun _ _ _ _ _ => pg_name (i := 13) scSpread.nd rfl (Or.inl rfl)) (fun _ _ _ _ _ => pts_one (pt_cmpR op_ne (pv 13) pe_str (nomark _))) (fun _ _ _ _ _ => pv 13))
      (pss_cons (ps_set (i := 4) scSpread.nd rfl (Or.inl rfl) (pe_call GT hr (by rfl) G.T.m G.T.F.kp G.T.b .nil pass0 (pa_cons (pv 2) pa_nil)))
      (pss_cons (ps_set (i := 5) scSpread.nd rfl (Or.inl rfl) (pe_disp (pps_cons (pv 1) pe_int pps_nil) rfl rfl (by simp) (by decide)))
      (pss_cons (ps_set (i := 6) scSpread.nd rfl (Or.inl rfl) (pe_lst (pa_cons (pv 1) pa_nil)))
      (pss_cons (ps_set (i := 7) scSpread.nd rfl (Or.inl rfl) pe_nnew)
      (pss_cons (ps_set (i := 8) scSpread.nd rfl (Or.inl rfl) (pe_lst pa_nil))
      (pss_cons (ps_set (i := 9) scSpread.nd rfl (Or.inl rfl) (pe_lst pa_nil))
      (pss_cons (ps_while PassesOwn.never (pt_cmpR op_lt (pe_callB call_len_seq (by rfl) G.T.len PySem.boot_len (pa_cons (pv 8) pa_nil)) (pe_callB call_len_seq (by rfl) G.T.len PySem.boot_len (pa_cons (pv 6) pa_nil)) (nomark _))
        (pss_cons (ps_set (i := 10) scSpread.nd rfl (Or.inr rfl) (pe_ix ix_list (pv 6) (pe_callB call_len_seq (by rfl) G.T.len PySem.boot_len (pa_cons (pv 8) pa_nil)) (fun _ _ => rfl)))
        (pss_cons (ps_set (i := 11) scSpread.nd rfl (Or.inl rfl) (pe_callTy call_tuple_of (by rfl) G.tu (by decide +kernel) (pa_cons (pe_lc (own := [("trial", 15)]) (g := gName 15) (te := tOp rNe (tOp (rI0 fun i j => .int (Builtin.bitAnd i j)) (tVar 10) (tVar 15)) (tC (.int 0))) rfl scSpread.nd (pi_list (pv 4))
          (blkOk_by (N := NSp) (sc := defScope sSpread) (by decide +kernel)) (fun _ _ _ _ _ => pg_name (i := 15) scSpread.nd rfl (Or.inl rfl)) (fun _ _ _ _ _ => pts_nil) (fun _ _ _ _ _ => pe_cmpR op_ne (pe_op op_and (pv 10) (pv 15)) pe_int (nomark _))) pa_nil)))
        (pss_cons (ps_nput (B := true) hu9 (pv 7) (pv 11) pe_bl rfl)
        (pss_cons (ps_if (pt_cmpR op_gt (pe_callB (call_len_dN (B := true)) (by rfl) G.T.len PySem.boot_len (pa_cons (pv 7) pa_nil)) (pe_glob (v := .int 200) (by rfl) eM ⟨_, rfl⟩) (nomark _)) pss_never pss_nil)
        (pss_cons (ps_set (i := 12) scSpread.nd rfl (Or.inl rfl) (pe_lst pa_nil))
        (pss_cons (ps_for PassesOwn.never rfl (pi_list (pv 3)) (pg_name (i := 13) scSpread.nd rfl (Or.inl rfl))
          (pss_cons (ps_set (i := 14) scSpread.nd rfl (Or.inl rfl) (pe_call GB hr1 (by rfl) G.T.B.m1 G.T.B.F.kp G.T.B.b1 .nil pass0 (pa_cons (pe_dget hu (pv 2) (pv 13) (fun _ _ => rfl)) (pa_cons (pv 10) pa_nil))))
          (pss_one (ps_if (pt_cmpR op_ne (pv 14) pe_int (nomark _))
            (pss_cons (ps_if (pt_cmp (pc_dnotin hu (pv 14) (pv 5)))
              (pss_cons (ps_dput hu (pv 5) (pv 14) (pe_callB call_len_seq (by rfl) G.T.len PySem.boot_len (pa_cons (pv 6) pa_nil)) rfl)
              (pss_one (ps_expr (pe_bm PySem.F.plainAttrs_list PySem.F.slot_list_append PySem.F.type_list_append mt_append (pv 6) (pa_cons (pv 14) pa_nil))))) pss_nil)
            (pss_one (ps_expr (pe_bm PySem.F.plainAttrs_list PySem.F.slot_list_append PySem.F.type_list_append mt_append (pv 12) (pa_cons (pe_tup (pa_cons (pv 13) (pa_cons (pe_dget hu (pv 5) (pv 14) (fun _ _ => rfl)) pa_nil))) pa_nil))))) pss_nil))))
        (pss_cons (ps_expr (pe_bm PySem.F.plainAttrs_list PySem.F.slot_list_append PySem.F.type_list_append mt_append (pv 8) (pa_cons (pe_callTy call_tuple_of (by rfl) G.tu (by decide +kernel) (pa_cons (pv 12) pa_nil)) pa_nil)))
        (pss_one (ps_expr (pe_bm PySem.F.plainAttrs_list PySem.F.slot_list_append PySem.F.type_list_append mt_append (pv 9) (pa_cons (pe_ix ix_tup (pv 11) pe_int (fun _ _ => rfl)) pa_nil))))))))))))
      (pss_one (ps_ret (pe_tup (pa_cons (pv 8) (pa_cons (pv 9) pa_nil))))))))))))), ?_⟩
    refine ⟨_, rfl, f, fr, last, rfl, fa, fm, fun H1 p1 D ls s1 e1 L1 => ?_⟩
    refine ⟨p1, _, rfl, SqT.of e1, rfl, _, _, rfl, _, _, rfl, rfl, ?_⟩
    clear e1
    rw [show allE fr fr.length = esF fr from (esF.eq_1 fr).symm] at L1
    have ef0 : firB fr fr.length 0 = f0F fr := (f0F.eq_1 fr).symm
    rw [ef0]
    generalize esF fr = es at L1 ok inn q ⊢
    generalize f0F fr = f0 at inn q ⊢
    refine ⟨_, rfl, D, _, (csE es).map ch1, rfl, .inl L1.hD, ?_, by rw [List.length_map]; exact ok.few, fun ys Y hpm hso nY => ?_⟩
    · rw [zk_fst sgK (by rw [List.length_map, L1.l]), List.map_map]
      rfl
    have ey := sgO_of hpm hso
    subst ey
    have uY := same_upd (o := HO.lst ((((csE es).mergeSort (fun a b => decide (a ≤ b))).map ch1).map V.str)) nY
    refine ⟨Y, rfl, ⟨_, SqL.of upd_same⟩, fun S nS => ?_⟩
    have hY := upd_same (H := H1) (a := Y) (o := HO.lst ((((csE es).mergeSort (fun a b => decide (a ≤ b))).map ch1).map V.str))
    generalize upd H1 Y (.lst ((((csE es).mergeSort (fun a b => decide (a ≤ b))).map ch1).map V.str)) = H2 at uY nS hY ⊢
    have s2 := s1.trans uY
    have lm : ((csE es).mergeSort (fun a b => decide (a ≤ b))).length < 64 := by rw [List.length_mergeSort]; exact ok.few
    have eO : sgO es = ((csE es).mergeSort (fun a b => decide (a ≤ b))).filter fun c => decide (c ≠ 59) := rfl
    generalize (csE es).mergeSort (fun a b => decide (a ≤ b)) = cs at hY lm eO
    refine lc_it (walk_list (xs := (cs.map ch1).map V.str)) (fun i H' => H' S = some (.lst (((cs.take i).filter fun c => decide (c ≠ 59)).map fun c => V.str (ch1 c))) ∧ Same H2 H') ⟨upd_same, same_upd nS⟩ (fun i H' _ z => SqL.of (z.2 _ _ hY)) ?_ ?_
    · rintro i x H3 H4 hi ⟨hl, kp⟩ ⟨rfl, hx⟩
      rw [List.map_map, List.getElem?_map] at hx
      cases hc : cs[i]? with
      | none => rw [hc] at hx; cases hx
      | some c =>
        rw [hc] at hx
        have hx : V.str (ch1 c) = x := Option.some.inj hx
        subst hx
        refine ⟨rfl, _, rfl, rfl, _, rfl, ?_⟩
        have et : (!decide (V.str (ch1 c) = V.str ";")) = decide (c ≠ 59) := by
          have e1 : decide (V.str (ch1 c) = V.str ";") = decide (c = 59) := by
            rw [semi59]
            exact decide_eq_decide.mpr ⟨fun z => ch1_inj (b := 59) (V.str.inj z), fun z => by rw [z]; rfl⟩
          rw [e1]
          by_cases z : c = 59
          · simp [z]
          · simp [z]
        by_cases z : c = 59
        · refine iteF' (et.trans (by simp [z])) ⟨?_, kp⟩
          rw [List.take_succ, hc, List.filter_append]
          simpa [z] using hl
        · refine iteT' (et.trans (by simp [z])) ⟨_, rfl, _, hl, ?_, ?_, fun b o y => ?_⟩
          · rw [List.length_map, sizeLine_eq]
            have := List.length_filter_le (fun c => decide (c ≠ 59)) (cs.take i)
            rw [List.length_take] at this
            omega
          · rw [List.take_succ, hc, List.filter_append, List.map_append, upd_same]
            simp [z]
          · rw [upd_ne (ne_of_none y nS)]
            exact kp b o y
    · rintro H3 ⟨hS, s3⟩
      rw [List.length_map, List.length_map, List.take_length, ← eO] at hS
      have s13 := s2.trans s3
      have L3 := L1.same (uY.trans s3)
      clear hY uY nY lm eO s2 s3 hpm hso
      refine ⟨_, rfl, D, H, es, ls, rfl, L3, ok, fun H4 Tr ts s4 nT hT t0 tl ttr => ?_⟩
      obtain ⟨KB, kbl, kbin⟩ := few_keys inn ttr
      obtain ⟨KL, eKL⟩ : ∃ KL : List NestedKey, KL = KB.map fun bs => NestedKey.tup (bs.map fun b => NestedKey.num (if b = true then 1 else 0)) := ⟨_, rfl⟩
      have kll : KL.length ≤ 200 := by rw [eKL, List.length_map]; exact kbl
      have kin : ∀ X ∈ U, NestedKey.tup ((ts.map fun t => decide (¬ X &&& t = 0)).map fun b => NestedKey.num (if b = true then 1 else 0)) ∈ KL := fun X hX => by
        rw [eKL]
        exact List.mem_map.mpr ⟨_, kbin X hX, rfl⟩
      clear eKL kbin ttr
      have L4 := L3.same s4
      have hS4 := s4 _ _ hS
      refine fun Nb nNb => ?_
      refine ⟨_, rfl, upd_same, [(.inl ((f0 : Nat) : Int), .int 0)], rfl, by simp, ?_⟩
      have hNb : (upd (upd H4 Nb (.dK [])) Nb (.dK (mergeK [] [(.inl ((f0 : Nat) : Int), .int 0)]))) Nb = some (.dK (zk nK [f0] (idxV 1))) := by
        rw [upd_same]
        simp [mergeK, putK, zk, idxV, nK, nV]
      have uN : Same H4 (upd (upd H4 Nb (.dK [])) Nb (.dK (mergeK [] [(.inl ((f0 : Nat) : Int), .int 0)]))) := fun b o z => by
        have := ne_of_none z nNb
        rw [upd_ne this, upd_ne this]
        exact z
      generalize upd (upd H4 Nb (.dK [])) Nb (.dK (mergeK [] [(.inl ((f0 : Nat) : Int), .int 0)])) = H5 at hNb uN ⊢
      refine ⟨_, rfl, (by show 1 ≤ sizeLine; decide), fun Li nLi => ?_⟩
      have uL := same_upd (o := HO.lst [nV f0]) nLi
      refine fun Un nUn => ?_
      have uU := same_upd (o := DNo P w Un []) nUn
      refine ⟨by decide, fun Rw nRw => ?_⟩
      have uR := same_upd (o := HO.lst []) nRw
      refine ⟨by decide, fun Gd nGd => ?_⟩
      have uG := same_upd (o := HO.lst []) nGd
      have W0 : Swp P w H4 (upd (upd (upd (upd H5 Li (.lst [nV f0])) Un (DNo P w Un [])) Rw (.lst [])) Gd (.lst [])) Nb Li Un Rw Gd (expl es f0 0) (rowsK es f0 0) (gdK es f0 0) KL := by
        have a1 := uL.trans (uU.trans (uR.trans uG))
        refine ⟨uN.trans a1, a1 _ _ hNb, (uU.trans (uR.trans uG)) _ _ upd_same, ⟨[], ?_, ⟨List.nodup_nil, fun k h => nomatch h⟩⟩, ⟨[], uG _ _ upd_same, rfl, fun i t r h => by cases h⟩, upd_same, nNb, none_of uN nLi, none_of (uN.trans uL) nUn, none_of (uN.trans (uL.trans uU)) nRw, none_of (uN.trans (uL.trans (uU.trans uR))) nGd, ?_, ?_, ?_⟩
        · refine ⟨[], rfl, ?_, fun x hx => nomatch hx⟩
          exact (uR.trans uG) _ _ upd_same
        · exact ne_of_none (uU _ _ upd_same) nRw
        · exact ne_of_none ((uU.trans uR) _ _ upd_same) nGd
        · exact ne_of_none (upd_same) nGd
      generalize (upd (upd (upd (upd H5 Li (.lst [V.int ((f0 : Nat) : Int)])) Un (DNo P w Un [])) Rw (.lst [])) Gd (.lst [])) = H6 at W0 ⊢
      clear uG uR uU uL hNb uN nNb nLi nUn nRw nGd
      refine ⟨fun n σ H' => ∃ (k : Nat) (v10 v11 v12 v13 v14 : Option V), σ = [some (.ref f), some (nV f0), some (.ref D), some (.ref S), some (.ref Tr), some (.ref Nb), some (.ref Li), some (.ref Un), some (.ref Rw), some (.ref Gd), v10, v11, v12, v13, v14, none] ∧
        Swp P w H4 H' Nb Li Un Rw Gd (expl es f0 k) (rowsK es f0 k) (gdK es f0 k) KL ∧ k ≤ (expl es f0 k).length ∧ n = 9000 - k, ⟨9000, 0, none, none, none, none, none, rfl, W0, Nat.zero_le _, rfl⟩, ?_⟩
      clear W0
      rintro n σ H7 ⟨k, v10, v11, v12, v13, v14, rfl, W7, kl, rfl⟩
      obtain ⟨rts, r1, r2, r3⟩ := id W7.hRw
      rw [rowsK_len] at r2
      have el := expl_len inn k
      refine ⟨_, rfl, Rw, _, rfl, .inl (SqL.of r1), _, rfl, Li, _, rfl, .inl (SqL.of W7.hLi), _, _, rfl, rfl, _, rfl, ?_⟩
      rw [List.length_map, List.length_map, r2]
      by_cases c : k < (expl es f0 k).length
      · refine iteT' (decide_eq_true (by omega)) ?_
        refine ⟨fun σ' H' => ∃ (v10 v11 v12 v13 v14 : Option V), σ' = [some (.ref f), some (nV f0), some (.ref D), some (.ref S), some (.ref Tr), some (.ref Nb), some (.ref Li), some (.ref Un), some (.ref Rw), some (.ref Gd), v10, v11, v12, v13, v14, none] ∧
          Swp P w H4 H' Nb Li Un Rw Gd (expl es f0 (k + 1)) (rowsK es f0 (k + 1)) (gdK es f0 (k + 1)) KL ∧ k + 1 ≤ (expl es f0 (k + 1)).length,
          fun σ' H' ⟨v10, v11, v12, v13, v14, e1, e2, e3⟩ => ⟨9000 - (k + 1), by omega, k + 1, v10, v11, v12, v13, v14, e1, e2, e3, rfl⟩, ?_⟩
        have ex := List.getElem?_eq_getElem c
        have epk : pk es f0 k = (expl es f0 k)[k]'c := by
          unfold pk
          rw [List.getD_eq_getElem?_getD, ex]
          rfl
        have est := expl_step ex
        rw [← epk] at ex est
        generalize hpk : pk es f0 k = X at ex est
        have iX : atI ((expl es f0 k).map nV) (k : Int) = some (nV X) := atI_nat (by rw [List.getElem?_map, ex]; rfl)
        refine ⟨_, rfl, _, rfl, Rw, _, rfl, .inl (SqL.of r1), Li, _, _, nV X, rfl, rfl, SqL.of W7.hLi, by rw [List.length_map, r2]; exact iX, ?_⟩
        -- passed
        refine ⟨_, rfl, Tr, rfl, ⟨_, SqL.of (W7.s _ _ hT)⟩, fun C nC => ?_⟩
        refine lc_it (walk_list (xs := ts.map nV)) (fun i H' => H' C = some (.lst ((((ts.take i).map fun t => decide (¬ X &&& t = 0))).map V.bl)) ∧ Same H7 H') ⟨upd_same, same_upd nC⟩ (fun i H' _ z => SqL.of (z.2 _ _ (W7.s _ _ hT))) ?_ ?_
        · rintro i x H8 H9 hi ⟨hl, kp⟩ ⟨rfl, hx⟩
          rw [List.getElem?_map] at hx
          cases hc : ts[i]? with
          | none => rw [hc] at hx; cases hx
          | some t =>
            rw [hc] at hx
            have hx : nV t = x := Option.some.inj hx
            subst hx
            refine ⟨rfl, _, rfl, _, rfl, _, _, rfl, rfl, rfl, ?_⟩
            have e : (!decide (V.int (Builtin.bitAnd (X : Int) (t : Int)) = V.int 0)) = decide (¬ X &&& t = 0) := by
              rw [and_nn]
              by_cases c : X &&& t = 0
              · simp [c]
              · simp [c]
            refine ⟨_, hl, ?_, ?_, fun b o z => ?_⟩
            · rw [List.length_map, List.length_map, List.length_take, sizeLine_eq]
              omega
            · rw [map_take1 _ hc, List.map_append, upd_same]
              exact congrArg (fun z => some (HO.lst (_ ++ [V.bl z]))) e
            · rw [upd_ne (ne_of_none z nC)]
              exact kp b o z
        · rintro H8 ⟨hC, s8⟩
          rw [List.length_map, List.take_length] at hC
          refine ⟨C, _, rfl, .inl ⟨SqL.of hC, fun pt npt => ?_⟩⟩
          have up := same_upd (o := HO.tup ((ts.map fun t => decide (¬ X &&& t = 0)).map V.bl)) npt
          have W8 := W7.same (s8.trans up)
          have hpt := upd_same (H := H8) (a := pt) (o := HO.tup ((ts.map fun t => decide (¬ X &&& t = 0)).map V.bl))
          generalize upd H8 pt (.tup ((ts.map fun t => decide (¬ X &&& t = 0)).map V.bl)) = H9 at W8 hpt ⊢
          clear up npt hC s8 nC
          obtain ⟨kvs, dn, lk⟩ := W8.hUn
          refine ⟨_, rfl, _, rfl, Un, pt, kvs, _, rfl, rfl, dn, ⟨.tup hpt (nks_bl _), ?_⟩, by have := lk.len; rw [sizeLine_eq]; omega, fun HA oa dn2 => ?_⟩
          · simp only [NestedKey.depth]
            rw [depth_bl]
            decide
          have lk2 : UnK KL (putK kvs (.tup ((ts.map fun t => decide (¬ X &&& t = 0)).map fun b => NestedKey.num (if b = true then 1 else 0))) (.bl true)) := lk.put (kin X (expl_in inn k X (List.mem_of_getElem? ex))) _
          have lk3 := lk2.len
          obtain ⟨WA, kA, mA⟩ := W8.un oa dn2 lk2
          have hptA := kA _ _ hpt
          refine ⟨_, rfl, Un, _, rfl, dn2.rd, _, 200, rfl, rfl, _, rfl, iteF' (decide_eq_false (by omega)) ?_⟩
          clear W8 dn dn2 oa lk lk2 lk3 hpt kA mA
          refine ⟨by decide, fun Ro nRo => ?_⟩
          have uO := same_upd (o := HO.lst []) nRo
          have WB := WA.same uO
          have hptB := uO _ _ hptA
          have o0 : H4 Ro = none := none_of WA.s nRo
          have dO : ∀ {a : Addr} {ob : HO}, HA a = some ob → Ro ≠ a := fun q z => by rw [← z, nRo] at q; cases q
          obtain ⟨rtA, rA1, _, _⟩ := WA.hRw
          have dL := dO WA.hLi
          have dR := dO rA1
          have dG := dO WA.hGd
          have hRo := upd_same (H := HA) (a := Ro) (o := HO.lst [])
          generalize upd HA Ro (.lst []) = HB at WB hptB hRo ⊢
          clear uO WA hptA nRo dO rA1
          have lS := sgO_len es
          have few := ok.few
          refine ⟨_, rfl, S, rfl, ⟨_, SqL.of (WB.s _ _ hS4)⟩, for_it (walk_list (xs := (sgO es).map fun c => V.str (ch1 c))) (fun i σ H' => ∃ (v13 v14 : Option V), σ = [some (.ref f), some (nV f0), some (.ref D), some (.ref S), some (.ref Tr), some (.ref Nb), some (.ref Li), some (.ref Un), some (.ref Rw), some (.ref Gd), some (nV X), some (.ref pt), some (.ref Ro), v13, v14, none] ∧
            Swp P w H4 H' Nb Li Un Rw Gd (addL es X (expl es f0 k) ((sgO es).take i)) (rowsK es f0 k) (gdK es f0 k) KL ∧ H' pt = some (.tup ((ts.map fun t => decide (¬ X &&& t = 0)).map V.bl)) ∧
            ∃ ps : List Addr, H' Ro = some (.lst (ps.map V.ref)) ∧ At3p H' ps (rwF es X (addL es X (expl es f0 k) ((sgO es).take i)) ((sgO es).take i)))
            ⟨_, _, rfl, WB, hptB, [], hRo, rfl, fun i p x h => by cases h⟩ (fun i σ H' _ ⟨_, _, _, z, _⟩ => SqL.of (z.s _ _ hS4)) ?_ ?_⟩
          · rintro i x σ HC HD hi ⟨v13, v14, rfl, WC, hptC, ps, hps, aps⟩ ⟨rfl, hx⟩
            rw [List.getElem?_map] at hx
            cases hc : (sgO es)[i]? with
            | none => rw [hc] at hx; cases hx
            | some cc =>
              rw [hc] at hx
              have hx : V.str (ch1 cc) = x := Option.some.inj hx
              subst hx
              have i2 : i < (sgO es).length := (List.getElem?_eq_some_iff.mp hc).1
              have tk : (sgO es).take (i + 1) = (sgO es).take i ++ [cc] := by rw [List.take_succ, hc]; rfl
              have LC := L4.same WC.s
              obtain ⟨lc, _, vc, pc⟩ := LC.val (sgO_mem (List.mem_of_getElem? hc))
              refine ⟨_, rfl, _, rfl, D, .ref lc, rfl, by rw [← vc]; exact DGet.k (k := sgK cc) LC.hD, _, rfl, lc, ofS es cc, X, rfl, pc, ?_⟩
              rw [tk, rwF_snoc, addL_snoc]
              have hb : behF (ofS es cc) X = bh es cc X := rfl
              rw [hb]
              have lA : (addL es X (expl es f0 k) ((sgO es).take i)).length ≤ 4000 := Nat.le_trans ((addL_nd (expl_nd es f0 k)).length_le_of_subset fun x hx => addL_all (expl_in inn k) (fun c hc z => inn.go X (expl_in inn k X (List.mem_of_getElem? ex)) c (List.mem_of_mem_take hc) z) x hx) inn.l
              have ndA : (addL es X (expl es f0 k) ((sgO es).take i)).Nodup := addL_nd (expl_nd es f0 k)
              have lr := rwF_len es X (addL es X (expl es f0 k) ((sgO es).take i)) ((sgO es).take i)
              rw [List.length_take] at lr
              generalize rwF es X (addL es X (expl es f0 k) ((sgO es).take i)) ((sgO es).take i) = rr at aps lr ⊢
              generalize addL es X (expl es f0 k) ((sgO es).take i) = la at WC lA ndA ⊢
              have lp := aps.1
              generalize hbb : bh es cc X = b
              unfold addB rw1
              rw [hbb]
              by_cases b0 : b = 0
              · rw [if_pos b0, if_pos b0, List.append_nil]
                refine ⟨_, rfl, rfl, _, rfl, iteF' (by simp [nV, b0]) ?_⟩
                exact ⟨_, _, rfl, WC, hptC, ps, hps, aps⟩
              · rw [if_neg b0, if_neg b0]
                refine ⟨_, rfl, rfl, _, rfl, iteT' (by simp [nV]; exact b0) ?_⟩
                refine ⟨_, rfl, _, rfl, Nb, valV (zk nK la (idxV la.length)) (nK b), rfl, DGet.k (k := nK b) WC.hNb, _, rfl, ?_⟩
                by_cases bi : b ∈ la
                · have hv : valV (zk nK la (idxV la.length)) (nK b) = some (nV (la.idxOf b)) := by
                    have il := List.idxOf_lt_length_of_mem bi
                    refine zk_at nK nK_inj (i := la.idxOf b) (by exact ndA) ?_ ?_
                    · rw [List.getElem?_eq_getElem il, List.getElem_idxOf]
                    · unfold idxV
                      rw [List.getElem?_map, List.getElem?_range il]
                      rfl
                  refine iteF' (by rw [hv]; rfl) ?_
                  refine ⟨_, rfl, .inl ⟨rfl, _, SqL.of hps⟩, _, rfl, _, rfl, _, rfl, Nb, nV (la.idxOf b), rfl, by rw [← hv]; exact DGet.k (k := nK b) WC.hNb, (by show 2 ≤ sizeLine; decide), fun tq ntq => ?_⟩
                  have uq := same_upd (o := HO.tup [V.str (ch1 cc), nV (la.idxOf b)]) ntq
                  have W2 := WC.same uq
                  have hp2 := uq _ _ hps
                  refine ⟨Ro, ps.map V.ref, _, rfl, rfl, hp2, by rw [List.length_map, sizeLine_eq]; omega, ?_⟩
                  have kt : KeepT _ (upd _ Ro (.lst (ps.map V.ref ++ [V.ref tq]))) := keepT_upd hp2 (fun xs z => by cases z)
                  rw [show addN la b = la from if_pos bi]
                  refine ⟨_, _, rfl, W2.else_ o0 hp2 dL dR dG, kt _ _ (uq _ _ hptC), ps ++ [tq], by rw [List.map_append]; exact upd_same, ?_⟩
                  exact ((aps).keep ((Same.keepT uq).trans kt)).snoc (kt _ _ upd_same)
                · have hv := zk_none nK nK_inj (a := idxV la.length) bi
                  refine iteT' (by rw [hv]; rfl) ?_
                  refine ⟨_, rfl, Li, _, rfl, .inl (SqL.of WC.hLi), _, rfl, _, rfl, Nb, _, rfl, DPut.k (k := nK b) WC.hNb (by rw [zk_len nK (idxV_len _), sizeLine_eq]; omega), ?_⟩
                  rw [putK_new _ hv, List.length_map]
                  obtain ⟨WN, kN⟩ := WC.new b
                  have nNL : Li ≠ Nb := fun z => by have := WC.hLi; rw [z, WC.hNb] at this; cases this
                  have hL2 : (upd HD Nb (.dK (zk nK la (idxV la.length) ++ [(nK b, nV la.length)]))) Li = some (.lst (la.map nV)) := by rw [upd_ne nNL]; exact WC.hLi
                  refine ⟨_, rfl, .inl ⟨rfl, _, SqL.of hL2⟩, _, rfl, Li, la.map nV, _, rfl, rfl, hL2, by rw [List.length_map, sizeLine_eq]; omega, ?_⟩
                  have nRN : Ro ≠ Nb := fun z => by rw [z, WC.hNb] at hps; cases hps
                  have hpsN : (upd (upd HD Nb (.dK (zk nK la (idxV la.length) ++ [(nK b, nV la.length)]))) Li (.lst (la.map nV ++ [nV b]))) Ro = some (.lst (ps.map V.ref)) := by
                    rw [upd_ne dL, upd_ne nRN]
                    exact hps
                  have hv2 : valV (zk nK (la ++ [b]) (idxV (la ++ [b]).length)) (nK b) = some (nV la.length) := by
                    rw [List.length_append, List.length_singleton, idxV_succ, zk_snoc nK (idxV_len _), valV_snoc _ _ _ _ hv, if_pos rfl]
                  have ei : (la ++ [b]).idxOf b = la.length := by
                    rw [List.idxOf_append, if_neg bi]
                    simp
                  have ea : addN la b = la ++ [b] := if_neg bi
                  rw [ea, ei]
                  refine ⟨_, rfl, .inl ⟨rfl, _, SqL.of hpsN⟩, _, rfl, _, rfl, _, rfl, Nb, nV la.length, rfl, by rw [← hv2]; exact DGet.k (k := nK b) WN.hNb, (by show 2 ≤ sizeLine; decide), fun tq ntq => ?_⟩
                  have uq := same_upd (o := HO.tup [V.str (ch1 cc), nV la.length]) ntq
                  have W2 := WN.same uq
                  have hp2 := uq _ _ hpsN
                  refine ⟨Ro, ps.map V.ref, _, rfl, rfl, hp2, by rw [List.length_map, sizeLine_eq]; omega, ?_⟩
                  have kt : KeepT _ (upd _ Ro (.lst (ps.map V.ref ++ [V.ref tq]))) := keepT_upd hp2 (fun xs z => by cases z)
                  refine ⟨_, _, rfl, W2.else_ o0 hp2 dL dR dG, kt _ _ (uq _ _ (kN _ _ hptC)), ps ++ [tq], by rw [List.map_append]; exact upd_same, ?_⟩
                  exact ((aps.keep kN).keep ((Same.keepT uq).trans kt)).snoc (kt _ _ upd_same)
          · rintro σ HC ⟨v13, v14, rfl, WC, hptC, ps, hps, aps⟩
            rw [List.length_map, List.take_length, ← est] at WC aps
            obtain ⟨rtC, rC1, rC2, rC3⟩ := id WC.hRw
            refine ⟨_, rfl, .inl ⟨rfl, _, SqL.of rC1⟩, _, rfl, Ro, _, rfl, .inl ⟨SqL.of hps, fun tr ntr => ?_⟩⟩
            have ut := same_upd (o := HO.tup (ps.map V.ref)) ntr
            have WD := WC.same ut
            have rD := ut _ _ rC1
            rw [rowsK_len] at rC2
            refine ⟨Rw, rtC.map V.ref, _, rfl, rfl, rD, by rw [List.length_map, sizeLine_eq]; omega, ?_⟩
            have WE := WD.row (r := rwF es X (expl es f0 (k + 1)) (sgO es)) rD ⟨ps, upd_same, aps.keep (Same.keepT ut)⟩
            have kE : KeepT _ (upd _ Rw (.lst (rtC.map V.ref ++ [V.ref tr]))) := keepT_upd rD (fun xs z => by cases z)
            have hpE := kE _ _ (ut _ _ hptC)
            have tz : ts[0]? = some (endF es) := t0
            have i0 : atI ((ts.map fun t => decide (¬ X &&& t = 0)).map V.bl) 0 = some (V.bl (decide (¬ X &&& endF es = 0))) := atI_nat (j := 0) (by rw [List.getElem?_map, List.getElem?_map, tz]; rfl)
            refine ⟨_, rfl, .inl ⟨rfl, _, SqL.of WE.hGd⟩, _, rfl, pt, _, 0, _, rfl, rfl, SqT.of hpE, i0, Gd, (gdK es f0 k).map V.bl, _, rfl, rfl, WE.hGd, ?_, ?_⟩
            · unfold gdK
              rw [List.length_map, List.length_map, List.length_range, sizeLine_eq]
              omega
            · refine ⟨_, _, _, _, _, rfl, ?_, ?_⟩
              · rw [rowsK_succ, gdK_succ, hpk]
                exact WE.good _
              · rw [est]
                have := (addL_pre es X (sgO es) (expl es f0 k)).length_le
                omega
      · refine iteF' (decide_eq_false (by omega)) ?_
        have ek : (expl es f0 k).length = k := by omega
        refine ⟨_, rfl, _, rfl, (by show 2 ≤ sizeLine; decide), fun p np => ?_⟩
        have up := same_upd (o := HO.tup [V.ref Rw, V.ref Gd]) np
        exact q _ p Rw Gd k (s13.trans (s4.trans (W7.s.trans up))) upd_same ek (W7.same up).hRw ((W7.same up).hGd)
end
end K10

set_option Elab.async false
set_option linter.all false
set_option maxRecDepth 100000
set_option maxHeartbeats 4000000
/-! merged: a partition that is made finer until it stays. -/
namespace K10
open PySem L2 L2.EV
section
variable {α : Type} [DecidableEq α]
/-- all that stand in a list, once, as they are first come to -/
def addG (ks : List α) (k : α) : List α := if k ∈ ks then ks else ks ++ [k]
def dedG (ks : List α) : List α := ks.foldl addG []
theorem dedG_snoc (ks : List α) (k : α) : dedG (ks ++ [k]) = addG (dedG ks) k := by
  unfold dedG
  rw [List.foldl_append]
  rfl
theorem addG_mem {ks : List α} {k x : α} : x ∈ addG ks k ↔ x ∈ ks ∨ x = k := by
  unfold addG
  by_cases h : k ∈ ks
  · rw [if_pos h]
    exact ⟨.inl, fun z => z.elim id fun y => y ▸ h⟩
  · rw [if_neg h, List.mem_append, List.mem_singleton]
theorem addG_nd {ks : List α} {k : α} (h : ks.Nodup) : (addG ks k).Nodup := by
  unfold addG
  by_cases c : k ∈ ks
  · rw [if_pos c]
    exact h
  · rw [if_neg c]
    refine List.nodup_append.mpr ⟨h, by simp, fun x hx y hy => ?_⟩
    rw [List.mem_singleton.mp hy]
    exact fun z => c (z ▸ hx)
theorem addG_pre (ks : List α) (k : α) : ks <+: addG ks k := by
  unfold addG
  by_cases h : k ∈ ks
  · rw [if_pos h]
    exact List.prefix_refl _
  · rw [if_neg h]
    exact List.prefix_append _ _
theorem fold_pre : ∀ (ks acc : List α), acc <+: ks.foldl addG acc
  | [], acc => List.prefix_refl _
  | k :: ks, acc => (addG_pre acc k).trans (fold_pre ks _)
theorem dedG_pre (ks : List α) (i : Nat) : dedG (ks.take i) <+: dedG ks := by
  have e : dedG ks = (ks.drop i).foldl addG (dedG (ks.take i)) := by
    unfold dedG
    rw [← List.foldl_append, List.take_append_drop]
  rw [e]
  exact fold_pre _ _
theorem dedG_mem (x : α) (ks : List α) : x ∈ dedG ks ↔ x ∈ ks := by
  have z : ∀ (ks acc : List α), x ∈ ks.foldl addG acc ↔ x ∈ acc ∨ x ∈ ks := by
    intro ks
    induction ks with
    | nil => exact fun acc => by simp
    | cons k ks ih =>
      intro acc
      rw [List.foldl_cons, ih, addG_mem, List.mem_cons]
      constructor
      · rintro ((h | h) | h)
        · exact .inl h
        · exact .inr (.inl h)
        · exact .inr (.inr h)
      · rintro (h | h | h)
        · exact .inl (.inl h)
        · exact .inl (.inr h)
        · exact .inr h
  unfold dedG
  rw [z]
  simp
theorem dedG_nd (ks : List α) : (dedG ks).Nodup := by
  have z : ∀ (ks acc : List α), acc.Nodup → (ks.foldl addG acc).Nodup := by
    intro ks
    induction ks with
    | nil => exact fun acc h => h
    | cons k ks ih => exact fun acc h => ih _ (addG_nd h)
  exact z ks [] List.nodup_nil
theorem dedG_len (ks : List α) : (dedG ks).length ≤ ks.length := (dedG_nd ks).length_le_of_subset fun x hx => (dedG_mem x ks).mp hx
theorem fold_len : ∀ (ks acc : List α), (ks.foldl addG acc).length ≤ acc.length + ks.length
  | [], acc => Nat.le_refl _
  | k :: ks, acc => by
    have := fold_len ks (addG acc k)
    have a : (addG acc k).length ≤ acc.length + 1 := by
      unfold addG
      by_cases c : k ∈ acc
      · rw [if_pos c]; omega
      · rw [if_neg c, List.length_append]; exact Nat.le_refl _
    rw [List.foldl_cons, List.length_cons]
    omega
theorem nd_of_fold : ∀ (ks acc : List α), (ks.foldl addG acc).length = acc.length + ks.length → ks.Nodup ∧ ∀ x ∈ ks, ¬ x ∈ acc
  | [], _, _ => ⟨List.nodup_nil, fun x h => nomatch h⟩
  | k :: ks, acc, h => by
    rw [List.foldl_cons, List.length_cons] at h
    have b := fold_len ks (addG acc k)
    by_cases c : k ∈ acc
    · have e : addG acc k = acc := if_pos c
      rw [e] at h b
      omega
    · have e : addG acc k = acc ++ [k] := if_neg c
      rw [e] at h b
      obtain ⟨n, d⟩ := nd_of_fold ks (acc ++ [k]) (by rw [h, List.length_append, List.length_singleton]; omega)
      refine ⟨List.nodup_cons.mpr ⟨fun z => d k z (List.mem_append_right _ (List.mem_singleton.mpr rfl)), n⟩, fun x hx => ?_⟩
      rcases List.mem_cons.mp hx with rfl | hx
      · exact c
      · exact fun z => d x hx (List.mem_append_left _ z)
theorem nd_of_sub {l m : List α} (h : l.Nodup) (s : ∀ x ∈ l, x ∈ m) (le : m.length ≤ l.length) : m.Nodup := by
  have h1 : l.length ≤ (dedG m).length := h.length_le_of_subset fun x hx => (dedG_mem x m).mpr (s x hx)
  have h2 := dedG_len m
  exact (nd_of_fold m [] (by
    show (dedG m).length = 0 + m.length
    omega)).1
end
/-- few kinds, few unlike ones -/
theorem ded_few {α : Type} [DecidableEq α] {l : List α} {κ : Nat → Nat} (h1 : ∀ i, i < l.length → κ i < 200) (h2 : ∀ i j, i < l.length → j < l.length → κ i = κ j → l[i]? = l[j]?) : (dedG l).length ≤ 200 := by
  obtain ⟨L, hL, hm⟩ := kinds_few (l := List.range l.length) (κ := κ) (F := fun i => l[i]?) (fun x hx => h1 x (List.mem_range.mp hx)) fun x hx y hy e => h2 x y (List.mem_range.mp hx) (List.mem_range.mp hy) e
  have nd : ((dedG l).map some).Nodup := List.pairwise_map.mpr ((dedG_nd l).imp fun h e => h (Option.some.inj e))
  have := nd.length_le_of_subset fun o ho => by
    obtain ⟨x, hx, rfl⟩ := List.mem_map.mp ho
    obtain ⟨i, hi⟩ := List.mem_iff_getElem?.mp ((dedG_mem x l).mp hx)
    have z := hm i (List.mem_range.mpr (List.getElem?_eq_some_iff.mp hi).1)
    rw [hi] at z
    exact z
  rw [List.length_map] at this
  omega
theorem idxG_pre {β : Type} [BEq β] [LawfulBEq β] {ks ms : List β} {b : β} (h : ks <+: ms) (hb : b ∈ ks) : ms.idxOf b = ks.idxOf b := by
  obtain ⟨t, rfl⟩ := h
  rw [List.idxOf_append, if_pos hb]
abbrev Ky : Type := Nat × List (Nat × Nat)
def kyF (kinds : List Nat) (kind : Nat) (row : List (Nat × Nat)) : Ky := (kind, row.map fun x => (x.1, kinds.getD x.2 0))
def keysF (kinds : List Nat) (rows : List (List (Nat × Nat))) : List Ky := (kinds.zip rows).map fun z => kyF kinds z.1 z.2
def finF (kinds : List Nat) (rows : List (List (Nat × Nat))) : List Nat := (keysF kinds rows).map fun k => (dedG (keysF kinds rows)).idxOf k
/-- how many kinds there are -/
def cntF (kinds : List Nat) : Nat := (dedG kinds).length
theorem keysF_len {kinds : List Nat} {rows : List (List (Nat × Nat))} (h : kinds.length = rows.length) : (keysF kinds rows).length = rows.length := by
  unfold keysF
  rw [List.length_map, List.length_zip, h, Nat.min_self]
theorem finF_len {kinds : List Nat} {rows : List (List (Nat × Nat))} (h : kinds.length = rows.length) : (finF kinds rows).length = rows.length := by
  unfold finF
  rw [List.length_map, keysF_len h]
theorem keysF_fst {kinds : List Nat} {rows : List (List (Nat × Nat))} (h : kinds.length = rows.length) : (keysF kinds rows).map (·.1) = kinds := by
  unfold keysF
  rw [List.map_map]
  show ((kinds.zip rows).map fun z => z.1) = kinds
  exact List.map_fst_zip (by omega)
/-- the finer ones are as many as there are keys -/
theorem cnt_fin (kinds : List Nat) (rows : List (List (Nat × Nat))) : cntF (finF kinds rows) = (dedG (keysF kinds rows)).length := by
  have h1 : (dedG (finF kinds rows)).length ≤ (List.range (dedG (keysF kinds rows)).length).length := (dedG_nd _).length_le_of_subset fun x hx => by
    obtain ⟨k, hk, rfl⟩ := List.mem_map.mp ((dedG_mem x _).mp hx)
    exact List.mem_range.mpr (List.idxOf_lt_length_of_mem ((dedG_mem k _).mpr hk))
  have h2 : (List.range (dedG (keysF kinds rows)).length).length ≤ (dedG (finF kinds rows)).length := List.nodup_range.length_le_of_subset fun x hx => by
    have hl := List.mem_range.mp hx
    refine (dedG_mem x _).mpr (List.mem_map.mpr ⟨(dedG (keysF kinds rows))[x]'hl, (dedG_mem _ _).mp (List.getElem_mem hl), ?_⟩)
    exact (dedG_nd _).idxOf_getElem x hl
  rw [List.length_range] at h1 h2
  exact Nat.le_antisymm h1 h2
/-- finer ones are no fewer -/
theorem cnt_le {kinds : List Nat} {rows : List (List (Nat × Nat))} (h : kinds.length = rows.length) : cntF kinds ≤ (dedG (keysF kinds rows)).length := by
  have : (dedG kinds).length ≤ ((dedG (keysF kinds rows)).map (·.1)).length := (dedG_nd _).length_le_of_subset fun x hx => by
    have hk := (dedG_mem x _).mp hx
    rw [← keysF_fst h] at hk
    obtain ⟨k, hm, rfl⟩ := List.mem_map.mp hk
    exact List.mem_map.mpr ⟨k, (dedG_mem k _).mpr hm, rfl⟩
  rw [List.length_map] at this
  exact this
/-- where they are as many, the kinds tell the keys -/
theorem key_of_kind {kinds : List Nat} {rows : List (List (Nat × Nat))} (h : kinds.length = rows.length) (e : (dedG (keysF kinds rows)).length = cntF kinds) {a b : Ky} (ha : a ∈ keysF kinds rows) (hb : b ∈ keysF kinds rows) (k : a.1 = b.1) : a = b := by
  have sub : ∀ x ∈ dedG kinds, x ∈ (dedG (keysF kinds rows)).map (·.1) := fun x hx => by
    have hk := (dedG_mem x _).mp hx
    rw [← keysF_fst h] at hk
    obtain ⟨k, hm, rfl⟩ := List.mem_map.mp hk
    exact List.mem_map.mpr ⟨k, (dedG_mem k _).mpr hm, rfl⟩
  have nd : ((dedG (keysF kinds rows)).map (·.1)).Nodup := by
    have le : ((dedG (keysF kinds rows)).map (·.1)).length ≤ (dedG kinds).length := by
      rw [List.length_map, e]
      exact Nat.le_refl _
    exact nd_of_sub (dedG_nd kinds) sub le
  obtain ⟨i, hi⟩ := List.mem_iff_getElem?.mp ((dedG_mem a _).mpr ha)
  obtain ⟨j, hj⟩ := List.mem_iff_getElem?.mp ((dedG_mem b _).mpr hb)
  have e1 : ((dedG (keysF kinds rows)).map (·.1))[i]? = some a.1 := by rw [List.getElem?_map, hi]; rfl
  have e2 : ((dedG (keysF kinds rows)).map (·.1))[j]? = some a.1 := by rw [List.getElem?_map, hj, k]; rfl
  have ij : i = j := (List.getElem?_inj (List.getElem?_eq_some_iff.mp e1).1 nd).mp (e1.trans e2.symm)
  subst ij
  rw [hi] at hj
  exact Option.some.inj hj
end K10

set_option Elab.async false
set_option linter.all false
set_option maxRecDepth 100000
set_option maxHeartbeats 4000000
/-! len(set(xs)) of any list of ints. -/
namespace L2
open PySem PySem.Spec PyProof.Rows
/-- what was met first, told by a fold -/
theorem met_fold (val : Nat → Int) : ∀ i, firstMet val i = ((List.range i).map val).foldl K10.addG [] := by
  intro i
  unfold firstMet
  congr 1
  funext acc x
  unfold K10.addG step_dedup
  by_cases c : x ∈ acc
  · rw [if_pos c]
    simp [c]
  · rw [if_neg c]
    simp [c]
theorem range_vals (ns : List Int) : (List.range ns.length).map (fun i => ns.getD i 0) = ns := by
  apply List.ext_getElem?
  intro i
  rw [List.getElem?_map]
  by_cases h : i < ns.length
  · rw [List.getElem?_range h]
    show some (ns.getD i 0) = _
    rw [List.getD_eq_getElem?_getD, List.getElem?_eq_getElem h]
    rfl
  · rw [List.getElem?_eq_none (by simpa using h), List.getElem?_eq_none (by omega)]
    rfl
def tLenSetY (K : PySem.W.Frag) (ta : TE) : TE := fun σ H Q => ta σ H fun x H1 => ∃ (l : Addr) (ns : List Int), x = .ref l ∧ SqL K H1 l (ns.map V.int) ∧ ns.length ≤ 4000 ∧ Q (.int ((K10.dedG ns).length : Nat)) H1
theorem pe_lenSetY {X : Cx} {a : Expr} {ta : TE} {p p2 q pos : Pos} (hg : Gl X "len") (hm : X.mg "len" = none) (hg2 : Gl X "set") (hm2 : X.mg "set" = none) (ha : PE X a ta) (hc : X.calm = true := by rfl)
    (na : starEach [a] X.env = (false, eval a X.env) :: starEach [] X.env := by rfl) : PE X (.Call (.Name "len" p) [.Call (.Name "set" p2) [a] [] q] [] pos) (tLenSetY X.K ta) := by
  refine ⟨fun pins s σ H Q I h => Call_ (ld_blt I hg hm boot_len (PyProof.Rows.callWith_builtin1 (PyProof.Rows.args_cons (Call_ (ld_blt I hg2 hm2 boot_set (PyProof.Rows.callWith_type1 (PyProof.Rows.args_cons
    (thn (ha.run pins s σ H _ I h) fun v s1 ⟨x, H1, I1, r1, l, ns, ex, hq, hl, q1⟩ => PyProof.Rows.args_nil ?_) na) na rfl))) rfl) rfl rfl))⟩
  subst ex
  cases r1
  obtain ⟨its, r, pl, _⟩ := I1.list hq
  have size : its.toArray.size = ns.length := by rw [List.size_toArray, ← r.length, List.length_map]
  refine call_set_list (I1.ok.hd hc) pl.isList (by simpa using RZ.intsAre_vals r) (by rw [size]; unfold scanBound; omega) fun h1 tk S keep => PyProof.Rows.args_nil ?_
  rw [size, met_fold, range_vals] at S
  obtain ⟨o, es, ep, t, ho, hex, hd, _, _, _, hf, hn⟩ := S
  have few : (ns.foldl K10.addG []).length ≤ ns.length := K10.dedG_len ns
  exact call_len_set ho hex hd hf (by rw [hn]; omega) ⟨.int ((K10.dedG ns).length : Nat), H1, (I1.kept (h' := h1) (t' := tk) fun b o e => keep b o (Heap.lt_size e) e).tok _, ⟨_, by rw [hn]; rfl⟩, q1⟩
end L2
namespace K10
theorem dedG_cast : ∀ (ns : List Nat), (dedG (ns.map fun n : Nat => (n : Int))) = (dedG ns).map fun n : Nat => (n : Int) := by
  have z : ∀ (ns acc : List Nat), ((ns.map fun n : Nat => (n : Int)).foldl addG (acc.map fun n : Nat => (n : Int))) = (ns.foldl addG acc).map fun n : Nat => (n : Int) := by
    intro ns
    induction ns with
    | nil => exact fun acc => rfl
    | cons n ns ih =>
      intro acc
      rw [List.map_cons, List.foldl_cons, List.foldl_cons, ← ih]
      congr 1
      unfold addG
      by_cases c : n ∈ acc
      · rw [if_pos c, if_pos (List.mem_map.mpr ⟨n, c, rfl⟩)]
      · rw [if_neg c, if_neg (fun h => by
          obtain ⟨m, hm, e⟩ := List.mem_map.mp h
          have : m = n := by omega
          exact c (this ▸ hm)), List.map_append]
        rfl
  exact fun ns => z ns []
end K10

set_option Elab.async false
set_option linter.all false
set_option maxRecDepth 100000
set_option maxHeartbeats 4000000
/-! merged. -/
namespace K10
open PySem L2 L2.EV PyProof.Rows PySem.Spec
abbrev sMerged : Stmt := top 27
def mergeF : Nat → List (List (Nat × Nat)) → List Nat → List Nat
  | 0, rows, kinds => finF kinds rows
  | n + 1, rows, kinds => if (dedG (keysF kinds rows)).length = cntF kinds then finF kinds rows else mergeF n rows (finF kinds rows)
def k0F (gs : List Bool) : List Nat := gs.map fun b => if b = true then 1 else 0
/-- what has one kind stays alike -/
def Rsp (κ : Nat → Nat) (n : Nat) (l : List Nat) : Prop := ∀ i j, i < n → j < n → κ i = κ j → l[i]? = l[j]?
theorem rsp_key {κ : Nat → Nat} {rows : List (List (Nat × Nat))} {kinds : List Nat} (hl : kinds.length = rows.length) (hr : ∀ i j, i < rows.length → j < rows.length → κ i = κ j → rows[i]? = rows[j]?) (hk : Rsp κ rows.length kinds) :
    ∀ i j, i < rows.length → j < rows.length → κ i = κ j → (keysF kinds rows)[i]? = (keysF kinds rows)[j]? := fun i j hi hj e => by
  unfold keysF
  have z : ∀ i, i < rows.length → (kinds.zip rows)[i]? = some (kinds.getD i 0, rows.getD i []) := fun i hi => by
    refine List.getElem?_zip_eq_some.mpr ⟨?_, ?_⟩
    · show kinds[i]? = some (kinds.getD i 0)
      rw [List.getD_eq_getElem?_getD, List.getElem?_eq_getElem (by omega)]
      rfl
    · show rows[i]? = some (rows.getD i [])
      rw [List.getD_eq_getElem?_getD, List.getElem?_eq_getElem hi]
      rfl
  rw [List.getElem?_map, List.getElem?_map, z i hi, z j hj]
  simp only [List.getD_eq_getElem?_getD]
  rw [hk i j hi hj e, hr i j hi hj e]
theorem rsp_fin {κ : Nat → Nat} {rows : List (List (Nat × Nat))} {kinds : List Nat} (hl : kinds.length = rows.length) (hr : ∀ i j, i < rows.length → j < rows.length → κ i = κ j → rows[i]? = rows[j]?) (hk : Rsp κ rows.length kinds) : Rsp κ rows.length (finF kinds rows) := fun i j hi hj e => by
  unfold finF
  rw [List.getElem?_map, List.getElem?_map, rsp_key hl hr hk i j hi hj e]
theorem rsp_merge {κ : Nat → Nat} {rows : List (List (Nat × Nat))} (hr : ∀ i j, i < rows.length → j < rows.length → κ i = κ j → rows[i]? = rows[j]?) : ∀ (n : Nat) {kinds : List Nat}, kinds.length = rows.length → Rsp κ rows.length kinds → Rsp κ rows.length (mergeF n rows kinds)
  | 0, _, hl, hk => rsp_fin hl hr hk
  | n + 1, kinds, hl, hk => by
    show Rsp κ rows.length (if (dedG (keysF kinds rows)).length = cntF kinds then finF kinds rows else mergeF n rows (finF kinds rows))
    split
    · exact rsp_fin hl hr hk
    · exact rsp_merge hr n (finF_len hl) (rsp_fin hl hr hk)
theorem rsp_k0 {κ : Nat → Nat} {gs : List Bool} {n : Nat} (h : ∀ i j, i < n → j < n → κ i = κ j → gs[i]? = gs[j]?) : Rsp κ n (k0F gs) := fun i j hi hj e => by
  unfold k0F
  rw [List.getElem?_map, List.getElem?_map, h i j hi hj e]
def rInt1 : List V → Hp → VK → Prop := fun xs H Q => (∃ i, xs = [.int i] ∧ Q (.int i) H) ∨ ∃ k, xs = [.bl k] ∧ Q (.int (if k then 1 else 0)) H
structure RwOk (rows : List (List (Nat × Nat))) (gs : List Bool) : Prop where
  l : rows.length ≤ 4000
  kn : ∃ κ : Nat → Nat, (∀ i, i < rows.length → κ i < 200) ∧ ∀ i j, i < rows.length → j < rows.length → κ i = κ j → rows[i]? = rows[j]? ∧ gs[i]? = gs[j]?
  at_ : ∀ r ∈ rows, r.length ≤ 64 ∧ ∀ x ∈ r, x.2 < rows.length
def spMerged : Sp := fun vs H Q _ => ∃ (Rw Gd : Addr) (rows : List (List (Nat × Nat))) (gs : List Bool), vs = [.ref Rw, .ref Gd] ∧ RowsL H Rw rows ∧ H Gd = some (.lst (gs.map V.bl)) ∧ gs.length = rows.length ∧ RwOk rows gs ∧
  ∀ H' p, Same H H' → H p = none → H' p = some (.lst ((mergeF 201 rows (k0F gs)).map nV)) → Q (.ref p) H'
def kyK (k : Ky) : NestedKey := .tup [.num k.1, .tup (k.2.map fun x => .tup [.text (ch1 x.1), .num x.2])]
theorem kyK_inj (a b : Ky) (h : kyK a = kyK b) : a = b := by
  have key : ∀ {r t : List (Nat × Nat)}, (r.map fun x => NestedKey.tup [.text (ch1 x.1), .num x.2]) = (t.map fun x => NestedKey.tup [.text (ch1 x.1), .num x.2]) → r = t := by
    intro r
    induction r with
    | nil => intro t h; cases t with
      | nil => rfl
      | cons y t => cases h
    | cons x r ih =>
      intro t h
      cases t with
      | nil => cases h
      | cons y t =>
        rw [List.map_cons, List.map_cons] at h
        have h1 := (List.cons.inj h).1
        have h2 := NestedKey.tup.inj h1
        have e1 := ch1_inj (NestedKey.text.inj (List.cons.inj h2).1)
        have e2 := NestedKey.num.inj (List.cons.inj (List.cons.inj h2).2).1
        have e3 : x = y := Prod.ext e1 (by omega)
        rw [e3, ih (List.cons.inj h).2]
  have h2 := NestedKey.tup.inj h
  have e1 := NestedKey.num.inj (List.cons.inj h2).1
  have e2 := NestedKey.tup.inj (List.cons.inj (List.cons.inj h2).2).1
  exact Prod.ext (by omega) (key e2)
theorem nks_rw {H : Hp} : ∀ {r : List (Nat × Nat)} {ps : List Addr}, At3p H ps r → NKs false H (r.map fun x => NestedKey.tup [.text (ch1 x.1), .num x.2]) (ps.map V.ref)
  | [], [], _ => .nil
  | [], _ :: _, h => by cases h.1
  | _ :: _, [], h => by cases h.1
  | x :: r, p :: ps, h => .cons (.tup (h.2 0 p x rfl rfl) (.cons (.str _) (.cons (.int _) .nil))) (nks_rw ⟨by have := h.1; simpa using this, fun i a b h1 h2 => h.2 (i + 1) a b (by simpa using h1) (by simpa using h2)⟩)
theorem depth_rw : ∀ r : List (Nat × Nat), NestedKey.depthAll (r.map fun x => NestedKey.tup [.text (ch1 x.1), .num x.2]) ≤ 1
  | [] => by simp [NestedKey.depthAll]
  | x :: r => by
    have := depth_rw r
    simp only [List.map_cons, NestedKey.depthAll, NestedKey.depth]
    omega
theorem key_ky {H : Hp} {b t : Addr} {k : Ky} (h : H b = some (.tup [nV k.1, .ref t])) (ht : RwA H t k.2) : KeyB false H (kyK k) b := by
  obtain ⟨ps, e, a⟩ := ht
  refine ⟨.tup h (.cons (.int _) (.cons (.tup e (nks_rw a)) .nil)), ?_⟩
  have := depth_rw k.2
  unfold kyK
  simp only [NestedKey.depth, NestedKey.depthAll]
  omega
/-- the numbers of the keys, and what is finer -/
structure Mw (P : Program) (w : World) (H H' : Hp) (Nb Fi : Addr) (ks : List Ky) (fs : List Nat) : Prop where
  s : Same H H'
  hN : DN P w false H' Nb (zk kyK ks (idxV ks.length))
  hF : H' Fi = some (.lst (fs.map nV))
  n1 : H Nb = none
  n2 : H Fi = none
  nd : ks.Nodup
theorem Mw.same {P : Program} {w : World} {H H' H'' : Hp} {Nb Fi : Addr} {ks : List Ky} {fs : List Nat} (h : Mw P w H H' Nb Fi ks fs) (s : Same H' H'') : Mw P w H H'' Nb Fi ks fs := by
  obtain ⟨xs, e⟩ := dn_at h.hN
  exact ⟨h.s.trans s, h.hN.keep (by rw [s _ _ e, e]) (fun b ys q => s _ _ q), s _ _ h.hF, h.n1, h.n2, h.nd⟩
theorem Mw.ne {P : Program} {w : World} {H H' : Hp} {Nb Fi : Addr} {ks : List Ky} {fs : List Nat} (h : Mw P w H H' Nb Fi ks fs) : Fi ≠ Nb := fun z => by
  obtain ⟨xs, e⟩ := dn_at h.hN
  have := h.hF
  rw [z, e] at this
  unfold DNo at this
  cases this
theorem Mw.push {P : Program} {w : World} {H H' : Hp} {Nb Fi : Addr} {ks : List Ky} {fs : List Nat} (h : Mw P w H H' Nb Fi ks fs) (n : Nat) : Mw P w H (upd H' Fi (.lst (fs.map nV ++ [nV n]))) Nb Fi ks (fs ++ [n]) := by
  have kt : KeepT H' (upd H' Fi (.lst (fs.map nV ++ [nV n]))) := keepT_upd h.hF (fun xs z => by cases z)
  exact ⟨fun b o z => by rw [upd_ne (fun q => by rw [q, h.n2] at z; cases z)]; exact h.s _ _ z, h.hN.keep (upd_ne h.ne.symm) (fun b ys q => kt b ys q), by rw [List.map_append]; exact upd_same, h.n1, h.n2, h.nd⟩
theorem Mw.new {P : Program} {w : World} {H H' H'' : Hp} {Nb Fi : Addr} {ks : List Ky} {fs : List Nat} {k : Ky} (h : Mw P w H H' Nb Fi ks fs) (hk : ¬ k ∈ ks) (o : OnlyAt H' H'' Nb) (z : DN P w false H'' Nb (putK (zk kyK ks (idxV ks.length)) (kyK k) (nV ks.length))) : Mw P w H H'' Nb Fi (ks ++ [k]) fs := by
  rw [putK_new _ (zk_none kyK kyK_inj hk)] at z
  refine ⟨fun b ob q => by rw [o b (fun e => by rw [e, h.n1] at q; cases q)]; exact h.s _ _ q, ?_, by rw [o _ h.ne]; exact h.hF, h.n1, h.n2, ?_⟩
  · rw [List.length_append, List.length_singleton, idxV_succ, zk_snoc kyK (idxV_len _)]
    exact z
  · refine List.nodup_append.mpr ⟨h.nd, by simp, fun x hx y hy => ?_⟩
    rw [List.mem_singleton.mp hy]
    exact fun e => hk (e ▸ hx)
structure Mg (K : PySem.W.Frag) (mg : Str → Option Value) where
  f : Addr
  d : FuncData
  F : Fun K "merged" "merged" sMerged f d
  b : Binds K d ["rows", "good"] []
  m : mg "merged" = some (.ref f)
  len : mg "len" = none
  se : mg "set" = none
  int : mg "int" = none
  tu : mg "tuple" = none
  zi : mg "zip" = none
  most : ∃ t, mg "MOST_STATES" = some (.int 200 t)
section
variable {P : Program} {w : World} {K : PySem.W.Frag} {mg : Str → Option Value} {base : Heap}
abbrev NMg : List Str := ["rows", "good", "kinds", "many", "numbers", "finer", "kind", "row", "key", "flag", "sign", "state"]
theorem scMerged : FnScope NMg ["rows", "good"] (defScope sMerged) := ⟨rfl, rfl, rfl, by decide +kernel, rfl, by decide +kernel, by decide +kernel⟩
theorem ok_merged (G : Mg K mg) : FnOk P w K mg base CX0 1 G.f G.d ["rows", "good"] spMerged := by
  refine G.F.ok scMerged (fun vs H Q E h => ?_) (fun cdv A outer s H vs Q E hr h => ?_)
  · obtain ⟨Rw, Gd, rows, gs, rfl, _⟩ := h
    rfl
  · obtain ⟨Rw, Gd, rows, gs, rfl, hRw, hGd, lg, ok, q⟩ := h
    have hu9 : (A.deeper (PyProof.Rows.envOfC "merged" (defScope sMerged) s.heap.objs.size G.f cdv)).units + 9 < cLine := by have := hr.un; omega
    obtain ⟨tm, eM⟩ := G.most
    refine ⟨_, pss_cons (ps_set (i := 2) scMerged.nd rfl (Or.inr rfl) (pe_lc (own := [("flag", 9)]) (g := gName 9) (te := tCB rInt1 (tCons (tVar 9) tNil)) rfl scMerged.nd (pi_list (pv 1))
        (blkOk_by (N := NMg) (sc := defScope sMerged) (by decide +kernel)) (fun _ _ _ _ _ => pg_name (i := 9) scMerged.nd rfl (Or.inl rfl)) (fun _ _ _ _ _ => pts_nil) (fun _ _ _ _ _ => pe_callTy call_int1 (by rfl) G.int (by decide +kernel) (pa_cons (pv 9) pa_nil))))
      (pss_cons (ps_set (i := 3) scMerged.nd rfl (Or.inl rfl) (pe_lenSetY (by rfl) G.len (by rfl) G.se (pv 2)))
      (pss_one (ps_while PassesOwn.never (pt_val pe_bl)
        (pss_cons (ps_set (i := 4) scMerged.nd rfl (Or.inl rfl) pe_nnew)
        (pss_cons (ps_set (i := 5) scMerged.nd rfl (Or.inl rfl) (pe_lst pa_nil))
        (pss_cons (ps_for PassesOwn.never rfl (pi_zip (by rfl) G.zi (pa_cons (pv 2) (pa_cons (pv 0) pa_nil))) (pg_tup rfl (pgs_cons (pg_name (i := 6) scMerged.nd rfl (Or.inl rfl)) (pgs_cons (pg_name (i := 7) scMerged.nd rfl (Or.inl rfl)) pgs_nil)))
          (pss_cons (ps_set (i := 8) scMerged.nd rfl (Or.inl rfl) (pe_tup (pa_cons (pv 6) (pa_cons (pe_callTy call_tuple_of (by rfl) G.tu (by decide +kernel) (pa_cons (pe_lc (own := [("sign", 10), ("state", 11)]) (g := gTup K 2 (gCons (gName 10) (gCons (gName 11) gNil))) (te := tTup (tCons (tVar 10) (tCons (tOp (rIxL K) (tVar 2) (tVar 11)) tNil))) rfl scMerged.nd (pi_tup (pv 7))
              (blkOk_by (N := NMg) (sc := defScope sMerged) (by decide +kernel)) (fun _ _ _ _ _ => pg_tup rfl (pgs_cons (pg_name (i := 10) scMerged.nd rfl (Or.inl rfl)) (pgs_cons (pg_name (i := 11) scMerged.nd rfl (Or.inl rfl)) pgs_nil))) (fun _ _ _ _ _ => pts_nil)
              (fun _ _ _ _ _ => pe_tup (pa_cons (pv 10) (pa_cons (pe_ix ix_list (pv 2) (pv 11) (fun _ _ => rfl)) pa_nil)))) pa_nil)) pa_nil))))
          (pss_one (ps_expr (pe_bm PySem.F.plainAttrs_list PySem.F.slot_list_append PySem.F.type_list_append mt_append (pv 5) (pa_cons (pe_nsetd (B := false) hu9 (pv 4) (pv 8) (pe_callB (call_len_dN (B := false)) (by rfl) G.len PySem.boot_len (pa_cons (pv 4) pa_nil)) ⟨rfl, rfl, rfl, rfl⟩) pa_nil))))))
        (pss_cons (ps_if (pt_cmpR op_gt (pe_callB (call_len_dN (B := false)) (by rfl) G.len PySem.boot_len (pa_cons (pv 4) pa_nil)) (pe_glob (v := .int 200) (by rfl) eM ⟨_, rfl⟩) (nomark _)) pss_never pss_nil)
        (pss_cons (ps_if (pt_cmpR op_eq (pe_callB (call_len_dN (B := false)) (by rfl) G.len PySem.boot_len (pa_cons (pv 4) pa_nil)) (pv 3) (nomark _)) (pss_one (ps_ret (pv 5))) pss_nil)
        (pss_cons (ps_set (i := 2) scMerged.nd rfl (Or.inr rfl) (pv 5))
        (pss_one (ps_set (i := 3) scMerged.nd rfl (Or.inl rfl) (pe_callB (call_len_dN (B := false)) (by rfl) G.len PySem.boot_len (pa_cons (pv 4) pa_nil))))))))))))), ?_⟩
    obtain ⟨rts, r1, r2, r3⟩ := hRw
    have rl := ok.l
    obtain ⟨κ, kp1, kp2⟩ := ok.kn
    have kpr : ∀ i j, i < rows.length → j < rows.length → κ i = κ j → rows[i]? = rows[j]? := fun i j hi hj e => (kp2 i j hi hj e).1
    have cfew : ∀ {kinds : List Nat}, kinds.length = rows.length → Rsp κ rows.length kinds → cntF kinds ≤ 200 := fun {kinds} hl hk => ded_few (κ := κ) (fun i hi => kp1 i (by omega)) fun i j hi hj e => hk i j (by omega) (by omega) e
    have kfew : ∀ {kinds : List Nat}, kinds.length = rows.length → Rsp κ rows.length kinds → (dedG (keysF kinds rows)).length ≤ 200 := fun {kinds} hl hk => ded_few (κ := κ) (fun i hi => kp1 i (by rw [keysF_len hl] at hi; exact hi)) fun i j hi hj e => rsp_key hl kpr hk i j (by rw [keysF_len hl] at hi; exact hi) (by rw [keysF_len hl] at hj; exact hj) e
    refine ⟨_, rfl, Gd, rfl, ⟨_, SqL.of hGd⟩, fun K0 nK0 => ?_⟩
    refine lc_it (walk_list (xs := gs.map V.bl)) (fun i H' => H' K0 = some (.lst ((k0F (gs.take i)).map nV)) ∧ Same H H') ⟨upd_same, same_upd nK0⟩ (fun i H' _ z => SqL.of (z.2 _ _ hGd)) ?_ ?_
    · rintro i x H1 H2 hi ⟨hl, kp⟩ ⟨rfl, hx⟩
      rw [List.getElem?_map] at hx
      cases hc : gs[i]? with
      | none => rw [hc] at hx; cases hx
      | some g =>
        rw [hc] at hx
        have hx : V.bl g = x := Option.some.inj hx
        subst hx
        refine ⟨rfl, _, rfl, .inr ⟨g, rfl, _, hl, ?_, ?_, fun b o z => ?_⟩⟩
        · unfold k0F
          rw [List.length_map, List.length_map, List.length_take, sizeLine_eq]
          omega
        · unfold k0F
          rw [map_take1 _ hc, List.map_append, upd_same]
          cases g <;> rfl
        · rw [upd_ne (ne_of_none z nK0)]
          exact kp b o z
    · rintro H1 ⟨hK, s1⟩
      rw [List.length_map, List.take_length] at hK
      have hK2 : H1 K0 = some (.lst (((k0F gs).map fun n : Nat => (n : Int)).map V.int)) := by
        rw [hK, List.map_map]
        rfl
      have kl0 : (k0F gs).length = rows.length := by unfold k0F; rw [List.length_map, lg]
      refine ⟨_, rfl, K0, _, rfl, SqL.of hK2, by rw [List.length_map, kl0]; omega, ?_⟩
      rw [dedG_cast, List.length_map]
      refine ⟨fun n σ H' => ∃ (Kd : Addr) (kinds : List Nat) (v4 v5 v6 v7 v8 : Option V), σ = [some (.ref Rw), some (.ref Gd), some (.ref Kd), some (nV (cntF kinds)), v4, v5, v6, v7, v8, none, none, none] ∧ Same H H' ∧ H' Kd = some (.lst (kinds.map nV)) ∧ kinds.length = rows.length ∧
        mergeF 201 rows (k0F gs) = mergeF n rows kinds ∧ 201 ≤ cntF kinds + n ∧ Rsp κ rows.length kinds, ⟨201, K0, k0F gs, none, none, none, none, none, rfl, s1, hK, kl0, rfl, by omega, rsp_k0 fun i j hi hj e => (kp2 i j hi hj e).2⟩, ?_⟩
      clear hK hK2 kl0 s1 nK0
      rintro n σ H2 ⟨Kd, kinds, v4, v5, v6, v7, v8, rfl, s2, hKd, kl, em, cn, rsp⟩
      have cl := cfew kl rsp
      have kf := kfew kl rsp
      obtain ⟨m, rfl⟩ : ∃ m, n = m + 1 := ⟨n - 1, by omega⟩
      refine ⟨_, rfl, iteT' rfl ?_⟩
      refine ⟨fun σ' H' => ∃ (Kd : Addr) (kinds : List Nat) (v4 v5 v6 v7 v8 : Option V), σ' = [some (.ref Rw), some (.ref Gd), some (.ref Kd), some (nV (cntF kinds)), v4, v5, v6, v7, v8, none, none, none] ∧ Same H H' ∧ H' Kd = some (.lst (kinds.map nV)) ∧ kinds.length = rows.length ∧
        mergeF 201 rows (k0F gs) = mergeF m rows kinds ∧ 201 ≤ cntF kinds + m ∧ Rsp κ rows.length kinds, fun σ' H' z => ⟨m, Nat.lt_succ_self m, z⟩, ?_⟩
      refine fun Nb nNb => ?_
      have u1 := same_upd (o := DNo P w Nb []) nNb
      refine ⟨by decide, fun Fi nFi => ?_⟩
      have u2 := same_upd (o := HO.lst []) nFi
      have M0 : Mw P w H2 (upd (upd H2 Nb (DNo P w Nb [])) Fi (.lst [])) Nb Fi (dedG ((keysF kinds rows).take 0)) (((keysF kinds rows).take 0).map fun k => (dedG (keysF kinds rows)).idxOf k) :=
        ⟨u1.trans u2, ⟨[], rfl, u2 _ _ upd_same, fun x hx => nomatch hx⟩, upd_same, nNb, none_of u1 nFi, List.nodup_nil⟩
      have kyl := keysF_len kl
      have dl : (dedG (keysF kinds rows)).length ≤ rows.length := by rw [← kyl]; exact dedG_len _
      refine ⟨_, rfl, _, rfl, Kd, Rw, _, _, rfl, SqL.of (M0.s _ _ hKd), SqL.of (M0.s _ _ (s2 _ _ r1)), for_it (walk_zip (n := rows.length) (by rw [List.length_map, List.length_map, kl, r2, Nat.min_self])) (fun i σ H' => ∃ (v6 v7 v8 : Option V), σ = [some (.ref Rw), some (.ref Gd), some (.ref Kd), some (nV (cntF kinds)), some (.ref Nb), some (.ref Fi), v6, v7, v8, none, none, none] ∧
        Mw P w H2 H' Nb Fi (dedG ((keysF kinds rows).take i)) (((keysF kinds rows).take i).map fun k => (dedG (keysF kinds rows)).idxOf k))
        ⟨v6, v7, v8, rfl, M0⟩ (fun i σ H' _ ⟨_, _, _, _, z⟩ => ⟨SqL.of (z.s _ _ hKd), SqL.of (z.s _ _ (s2 _ _ r1))⟩) ?_ ?_⟩
      · rintro i y σ H3 H4 hi ⟨v6, v7, v8, rfl, M3⟩ ⟨T, xk, xr, rfl, nT, rfl, g1, g2⟩
        have ik : i < kinds.length := by rw [kl]; exact hi
        have ir : i < rts.length := by rw [r2]; exact hi
        have g1 : (kinds.map nV)[i]? = some xk := g1
        have g2 : (rts.map V.ref)[i]? = some xr := g2
        have ek := List.getElem?_eq_getElem ik
        have er := List.getElem?_eq_getElem ir
        have eo := List.getElem?_eq_getElem (l := rows) hi
        rw [List.getElem?_map, ek] at g1
        rw [List.getElem?_map, er] at g2
        cases g1
        cases g2
        have hrow := r3 i _ _ er eo
        have hkey : (keysF kinds rows)[i]? = some (kyF kinds (kinds[i]'ik) (rows[i]'hi)) := by
          unfold keysF
          have ez : (kinds.zip rows)[i]? = some (kinds[i]'ik, rows[i]'hi) := List.getElem?_zip_eq_some.mpr ⟨ek, eo⟩
          rw [List.getElem?_map, ez]
          rfl
        obtain ⟨row64, rowlt⟩ := ok.at_ _ (List.mem_of_getElem? eo)
        generalize kinds[i]'ik = kd at ek hkey ⊢
        generalize rts[i]'ir = rt at er hrow ⊢
        generalize rows[i]'hi = row at eo hrow hkey row64 rowlt ⊢
        have uT := same_upd (o := HO.tup [nV kd, V.ref rt]) nT
        have M4 := M3.same uT
        refine ⟨T, _, rfl, SqT.of upd_same, rfl, _, _, rfl, _, _, rfl, rfl, ?_⟩
        clear M3 uT
        generalize upd H3 T (.tup [nV kd, V.ref rt]) = H5 at M4 ⊢
        have hr5 : RwA H5 rt row := hrow.keep ((Same.keepT s2).trans (Same.keepT M4.s))
        obtain ⟨ps, ep, ap⟩ := hr5
        refine ⟨_, rfl, _, rfl, rt, rfl, ⟨_, SqT.of ep⟩, fun C nC => ?_⟩
        refine lc_it (walk_tup (xs := ps.map V.ref)) (fun j H' => ∃ cs : List Addr, H' C = some (.lst (cs.map V.ref)) ∧ At3p H' cs ((row.take j).map fun x => (x.1, kinds.getD x.2 0)) ∧ Same H5 H') ⟨[], upd_same, ⟨rfl, fun j t e h => by cases h⟩, same_upd nC⟩ (fun j H' _ ⟨_, _, _, z⟩ => SqT.of (z _ _ ep)) ?_ ?_
        · rintro j x H6 H7 hj ⟨cs, hC, aC, s6⟩ ⟨rfl, hx⟩
          rw [List.getElem?_map] at hx
          cases hp : ps[j]? with
          | none => rw [hp] at hx; cases hx
          | some p =>
            rw [hp] at hx
            cases hx
            have jr : j < row.length := by rw [← ap.1]; exact (List.getElem?_eq_some_iff.mp hp).1
            have ej := List.getElem?_eq_getElem jr
            have h3 := s6 _ _ (ap.2 j p _ hp ej)
            have lt := rowlt _ (List.mem_of_getElem? ej)
            generalize row[j]'jr = x at ej h3 lt
            have ix : atI (kinds.map nV) ((x.2 : Nat) : Int) = some (nV (kinds.getD x.2 0)) := atI_nat (by
              rw [List.getElem?_map, List.getD_eq_getElem?_getD, List.getElem?_eq_getElem (by rw [kl]; exact lt)]
              rfl)
            refine ⟨p, _, rfl, SqT.of h3, rfl, _, _, rfl, _, _, rfl, rfl, rfl, ?_⟩
            refine ⟨_, rfl, _, rfl, _, rfl, Kd, _, _, _, rfl, rfl, SqL.of (s6 _ _ (M4.s _ _ hKd)), ix, (by show 2 ≤ sizeLine; decide), fun tq ntq => ?_⟩
            have uq := same_upd (o := HO.tup [V.str (ch1 x.1), nV (kinds.getD x.2 0)]) ntq
            have hC2 := uq _ _ hC
            have kt := (Same.keepT uq).trans (keepT_upd (o := .lst (cs.map V.ref ++ [V.ref tq])) hC2 (fun xs z => by cases z))
            refine ⟨_, hC2, ?_, cs ++ [tq], by rw [List.map_append]; exact upd_same, ?_, fun b o z => ?_⟩
            · rw [List.length_map, aC.1, List.length_map, List.length_take, sizeLine_eq]
              omega
            · rw [map_take1 _ ej]
              exact (aC.keep kt).snoc ((keepT_upd (o := .lst (cs.map V.ref ++ [V.ref tq])) hC2 (fun xs z => by cases z)) _ _ upd_same)
            · rw [upd_ne (fun q => by rw [q] at z; rw [nC] at z; cases z)]
              exact uq _ _ (s6 _ _ z)
        · rintro H6 ⟨cs, hC, aC, s6⟩
          rw [List.length_map, ap.1, List.take_length] at aC
          refine ⟨C, _, rfl, .inl ⟨SqL.of hC, fun tr ntr => ?_⟩⟩
          have ur := same_upd (o := HO.tup (cs.map V.ref)) ntr
          refine ⟨(by show 2 ≤ sizeLine; decide), fun tk ntk => ?_⟩
          have uk := same_upd (o := HO.tup [nV kd, V.ref tr]) ntk
          have M7 := M4.same (s6.trans (ur.trans uk))
          have hK7 : KeyB false _ (kyK (kyF kinds kd row)) tk := key_ky (H := upd (upd H6 tr (.tup (cs.map V.ref))) tk (.tup [nV kd, V.ref tr])) (k := kyF kinds kd row) (t := tr) upd_same ⟨cs, uk _ _ upd_same, (aC.keep ((Same.keepT ur).trans (Same.keepT uk)))⟩
          generalize upd (upd H6 tr (.tup (cs.map V.ref))) tk (.tup [nV kd, V.ref tr]) = H7 at M7 hK7 ⊢
          have tk1 : (keysF kinds rows).take (i + 1) = (keysF kinds rows).take i ++ [kyF kinds kd row] := by rw [List.take_succ, hkey]; rfl
          have pre := dedG_pre (keysF kinds rows) (i + 1)
          rw [tk1, dedG_snoc] at pre
          rw [tk1, dedG_snoc, List.map_append]
          have l1 : (dedG ((keysF kinds rows).take i)).length ≤ 4000 := by
            have a := dedG_len ((keysF kinds rows).take i)
            rw [List.length_take, kyl] at a
            omega
          have l2 : (((keysF kinds rows).take i).map fun k => (dedG (keysF kinds rows)).idxOf k).length ≤ 4000 := by
            rw [List.length_map, List.length_take]
            omega
          have ei : [kyF kinds kd row].map (fun k => (dedG (keysF kinds rows)).idxOf k) = [(addG (dedG ((keysF kinds rows).take i)) (kyF kinds kd row)).idxOf (kyF kinds kd row)] := by
            rw [List.map_cons, List.map_nil, idxG_pre pre (addG_mem.mpr (.inr rfl))]
          rw [ei]
          generalize (((keysF kinds rows).take i).map fun k => (dedG (keysF kinds rows)).idxOf k) = fs at M7 l2 ⊢
          generalize dedG ((keysF kinds rows).take i) = ks at M7 l1 ⊢
          generalize kyF kinds kd row = ky at hK7 ⊢
          have rd := M7.hN.rd
          refine ⟨_, rfl, .inl ⟨rfl, _, SqL.of M7.hF⟩, _, rfl, Nb, _, rfl, rd, _, rfl, _, rfl, Nb, _, rfl, rd, tk, _, kyK ky, rfl, M7.hN, hK7, by rw [zk_len kyK (idxV_len _), sizeLine_eq]; omega, fun v hv => ?_, fun hn H8 oa dn => ?_⟩
          · have bi : ky ∈ ks := Classical.byContradiction fun z => by
              rw [zk_none kyK kyK_inj z] at hv
              cases hv
            have hv2 : valV (zk kyK ks (idxV ks.length)) (kyK ky) = some (nV (ks.idxOf ky)) := by
              have il := List.idxOf_lt_length_of_mem bi
              refine zk_at kyK kyK_inj (i := ks.idxOf ky) M7.nd ?_ ?_
              · rw [List.getElem?_eq_getElem il, List.getElem_idxOf]
              · unfold idxV
                rw [List.getElem?_map, List.getElem?_range il]
                rfl
            rw [hv2] at hv
            cases hv
            have ea : addG ks ky = ks := if_pos bi
            rw [ea]
            refine ⟨Fi, fs.map nV, _, rfl, rfl, M7.hF, by rw [List.length_map, sizeLine_eq]; omega, ?_⟩
            exact ⟨_, _, _, rfl, M7.push _⟩
          · have bi : ¬ ky ∈ ks := fun z => by
              have il := List.idxOf_lt_length_of_mem z
              rw [zk_at kyK kyK_inj (i := ks.idxOf ky) (v := nV (ks.idxOf ky)) M7.nd (by rw [List.getElem?_eq_getElem il, List.getElem_idxOf]) (by
                unfold idxV
                rw [List.getElem?_map, List.getElem?_range il]
                rfl)] at hn
              cases hn
            have ez : V.int (((zk kyK ks (idxV ks.length)).length : Nat) : Int) = nV ks.length := by rw [zk_len kyK (idxV_len _)]; rfl
            rw [ez] at dn ⊢
            have M8 := M7.new bi oa dn
            have ea : addG ks ky = ks ++ [ky] := if_neg bi
            have ei2 : (ks ++ [ky]).idxOf ky = ks.length := by
              rw [List.idxOf_append, if_neg bi]
              simp
            rw [ea, ei2]
            refine ⟨Fi, fs.map nV, _, rfl, rfl, M8.hF, by rw [List.length_map, sizeLine_eq]; omega, ?_⟩
            exact ⟨_, _, _, rfl, M8.push _⟩
      · rintro σ H3 ⟨v6, v7, v8, rfl, M3⟩
        have tk : (keysF kinds rows).take rows.length = keysF kinds rows := List.take_of_length_le (by omega)
        rw [tk] at M3
        have efin : ((keysF kinds rows).map fun k => (dedG (keysF kinds rows)).idxOf k) = finF kinds rows := rfl
        rw [efin] at M3
        have rd := M3.hN.rd
        have zl : (zk kyK (dedG (keysF kinds rows)) (idxV (dedG (keysF kinds rows)).length)).length = (dedG (keysF kinds rows)).length := zk_len kyK (idxV_len _)
        refine ⟨_, rfl, Nb, _, rfl, rd, _, 200, rfl, rfl, _, rfl, iteF' (decide_eq_false (by rw [zl]; omega)) ?_⟩
        refine ⟨_, rfl, Nb, _, rfl, rd, _, rfl, rfl, _, rfl, ?_⟩
        rw [zl]
        have lF := finF_len kl
        by_cases c : (dedG (keysF kinds rows)).length = cntF kinds
        · refine iteT' (decide_eq_true (by rw [c]; rfl)) ?_
          have e2 : mergeF (m + 1) rows kinds = finF kinds rows := if_pos c
          rw [e2] at em
          refine ⟨_, rfl, q H3 Fi (s2.trans M3.s) (none_of s2 M3.n2) (by rw [em]; exact M3.hF)⟩
        · refine iteF' (decide_eq_false (fun z => c (by have := V.int.inj z; omega))) ?_
          have e2 : mergeF (m + 1) rows kinds = mergeF m rows (finF kinds rows) := if_neg c
          rw [e2] at em
          have cl2 := cnt_le (rows := rows) kl
          have cf := cnt_fin kinds rows
          refine ⟨_, rfl, _, rfl, Nb, _, rfl, rd, ?_⟩
          rw [zl, ← cf]
          exact ⟨Fi, finF kinds rows, _, _, _, _, _, rfl, s2.trans M3.s, M3.hF, lF, em, by omega, rsp_fin kl kpr rsp⟩
end
end K10

set_option Elab.async false
set_option linter.all false
set_option maxRecDepth 100000
set_option maxHeartbeats 4000000
/-! told_reader: what it keeps. -/
namespace K10
open PySem L2 L2.EV
abbrev R3 : Type := Nat × Nat × Nat
def addS (F : Nat → Nat) (sm : List Nat) (x : Nat × Nat) : List Nat := if F x.2 ∈ sm.map F then sm else sm ++ [x.2]
def smp (F : Nat → Nat) (rows : List (List (Nat × Nat))) : Nat → List Nat
  | 0 => [0]
  | k + 1 => match (smp F rows k)[k]? with
    | none => smp F rows k
    | some s => (rows.getD s []).foldl (addS F) (smp F rows k)
def sk (F : Nat → Nat) (rows : List (List (Nat × Nat))) (j : Nat) : Nat := (smp F rows j).getD j 0
/-- the rules of one state: the numbers by the samples that are there behind it -/
def rl1 (F : Nat → Nat) (sm : List Nat) (j : Nat) (r : List (Nat × Nat)) : List R3 := r.map fun x => (j, x.1, (sm.map F).idxOf (F x.2))
def rulesK (F : Nat → Nat) (rows : List (List (Nat × Nat))) : Nat → List R3
  | 0 => []
  | k + 1 => rulesK F rows k ++ rl1 F (smp F rows (k + 1)) k (rows.getD (sk F rows k) [])
def takenK (F : Nat → Nat) (rows : List (List (Nat × Nat))) (gs : List Bool) : Nat → List Nat
  | 0 => []
  | k + 1 => takenK F rows gs k ++ if gs.getD (sk F rows k) false = true then [k] else []
theorem addS_pre (F : Nat → Nat) (sm : List Nat) (x : Nat × Nat) : sm <+: addS F sm x := by
  unfold addS
  by_cases c : F x.2 ∈ sm.map F
  · rw [if_pos c]
    exact List.prefix_refl _
  · rw [if_neg c]
    exact List.prefix_append _ _
theorem foldS_pre (F : Nat → Nat) : ∀ (r : List (Nat × Nat)) (sm : List Nat), sm <+: r.foldl (addS F) sm
  | [], sm => List.prefix_refl _
  | x :: r, sm => (addS_pre F sm x).trans (foldS_pre F r _)
theorem addS_in (F : Nat → Nat) (sm : List Nat) (x : Nat × Nat) : F x.2 ∈ (addS F sm x).map F := by
  unfold addS
  by_cases c : F x.2 ∈ sm.map F
  · rw [if_pos c]
    exact c
  · rw [if_neg c, List.map_append]
    exact List.mem_append_right _ (List.mem_singleton.mpr rfl)
theorem foldS_in (F : Nat → Nat) : ∀ (r : List (Nat × Nat)) (sm : List Nat) (x : Nat × Nat), x ∈ r → F x.2 ∈ (r.foldl (addS F) sm).map F
  | y :: r, sm, x, h => by
    rcases List.mem_cons.mp h with rfl | h
    · obtain ⟨t, e⟩ := foldS_pre F r (addS F sm x)
      rw [List.foldl_cons, ← e, List.map_append]
      exact List.mem_append_left _ (addS_in F sm x)
    · exact foldS_in F r _ x h
theorem addS_nd {F : Nat → Nat} {sm : List Nat} (h : (sm.map F).Nodup) (x : Nat × Nat) : ((addS F sm x).map F).Nodup := by
  unfold addS
  by_cases c : F x.2 ∈ sm.map F
  · rw [if_pos c]
    exact h
  · rw [if_neg c, List.map_append]
    refine List.nodup_append.mpr ⟨h, by simp, fun a ha b hb => ?_⟩
    rw [List.mem_singleton.mp hb]
    exact fun z => c (z ▸ ha)
theorem foldS_nd {F : Nat → Nat} : ∀ {r : List (Nat × Nat)} {sm : List Nat}, (sm.map F).Nodup → ((r.foldl (addS F) sm).map F).Nodup
  | [], _, h => h
  | x :: r, _, h => foldS_nd (r := r) (addS_nd h x)
theorem addS_all {F : Nat → Nat} {P : Nat → Prop} {sm : List Nat} {x : Nat × Nat} (h : ∀ s ∈ sm, P s) (hx : P x.2) : ∀ s ∈ addS F sm x, P s := by
  unfold addS
  by_cases c : F x.2 ∈ sm.map F
  · rw [if_pos c]
    exact h
  · rw [if_neg c]
    intro s hs
    rcases List.mem_append.mp hs with z | z
    · exact h s z
    · rw [List.mem_singleton.mp z]
      exact hx
theorem foldS_all {F : Nat → Nat} {P : Nat → Prop} : ∀ {r : List (Nat × Nat)} {sm : List Nat}, (∀ s ∈ sm, P s) → (∀ x ∈ r, P x.2) → ∀ s ∈ r.foldl (addS F) sm, P s
  | [], _, h, _ => h
  | x :: r, _, h, hr => foldS_all (r := r) (addS_all h (hr x (List.mem_cons_self ..))) fun y hy => hr y (List.mem_cons_of_mem _ hy)
theorem smp_step {F : Nat → Nat} {rows : List (List (Nat × Nat))} {k s : Nat} (h : (smp F rows k)[k]? = some s) : smp F rows (k + 1) = (rows.getD s []).foldl (addS F) (smp F rows k) := by
  show (match (smp F rows k)[k]? with
    | none => smp F rows k
    | some s => (rows.getD s []).foldl (addS F) (smp F rows k)) = _
  rw [h]
theorem smp_nd (F : Nat → Nat) (rows : List (List (Nat × Nat))) : ∀ k, ((smp F rows k).map F).Nodup
  | 0 => by simp [smp]
  | k + 1 => by
    cases h : (smp F rows k)[k]? with
    | none =>
      have e : smp F rows (k + 1) = smp F rows k := by
        show (match (smp F rows k)[k]? with
          | none => smp F rows k
          | some s => (rows.getD s []).foldl (addS F) (smp F rows k)) = _
        rw [h]
      rw [e]
      exact smp_nd F rows k
    | some s =>
      rw [smp_step h]
      exact foldS_nd (smp_nd F rows k)
theorem smp_lt {F : Nat → Nat} {rows : List (List (Nat × Nat))} {gs : List Bool} (ok : RwOk rows gs) (h0 : 0 < rows.length) : ∀ k, ∀ s ∈ smp F rows k, s < rows.length
  | 0 => fun s hs => by
    rw [List.mem_singleton.mp hs]
    exact h0
  | k + 1 => by
    cases h : (smp F rows k)[k]? with
    | none =>
      have e : smp F rows (k + 1) = smp F rows k := by
        show (match (smp F rows k)[k]? with
          | none => smp F rows k
          | some s => (rows.getD s []).foldl (addS F) (smp F rows k)) = _
        rw [h]
      rw [e]
      exact smp_lt ok h0 k
    | some s =>
      rw [smp_step h]
      have sl := smp_lt ok h0 k s (List.mem_of_getElem? h)
      refine foldS_all (smp_lt ok h0 k) fun x hx => ?_
      rw [List.getD_eq_getElem?_getD, List.getElem?_eq_getElem sl] at hx
      exact (ok.at_ _ (List.getElem_mem sl)).2 x hx
theorem nd_lt {l : List Nat} {F : Nat → Nat} {n : Nat} (nd : (l.map F).Nodup) (h : ∀ s ∈ l, s < n) : l.length ≤ n := by
  have : l.Nodup := (List.pairwise_map.mp nd).imp fun h e => h (congrArg F e)
  have := this.length_le_of_subset (l₂ := List.range n) fun x hx => List.mem_range.mpr (h x hx)
  rw [List.length_range] at this
  exact this
theorem takenK_len (F : Nat → Nat) (rows : List (List (Nat × Nat))) (gs : List Bool) : ∀ k, (takenK F rows gs k).length ≤ k
  | 0 => Nat.le_refl _
  | k + 1 => by
    have ih := takenK_len F rows gs k
    show (takenK F rows gs k ++ if gs.getD (sk F rows k) false = true then [k] else []).length ≤ k + 1
    rw [List.length_append]
    by_cases g : gs.getD (sk F rows k) false = true
    · rw [if_pos g, List.length_singleton]; omega
    · rw [if_neg g, List.length_nil]; omega
theorem rl1_len (F : Nat → Nat) (sm : List Nat) (j : Nat) (r : List (Nat × Nat)) : (rl1 F sm j r).length = r.length := by
  unfold rl1
  rw [List.length_map]
theorem getD_row {rows : List (List (Nat × Nat))} {gs : List Bool} (ok : RwOk rows gs) (s : Nat) : (rows.getD s []).length ≤ 64 := by
  rw [List.getD_eq_getElem?_getD]
  cases h : rows[s]? with
  | none => exact Nat.zero_le _
  | some r => exact (ok.at_ _ (List.mem_of_getElem? h)).1
theorem rulesK_len {F : Nat → Nat} {rows : List (List (Nat × Nat))} {gs : List Bool} (ok : RwOk rows gs) : ∀ k, (rulesK F rows k).length ≤ 64 * k
  | 0 => Nat.le_refl _
  | k + 1 => by
    have ih := rulesK_len (F := F) ok k
    have g := getD_row ok (sk F rows k)
    show (rulesK F rows k ++ rl1 F (smp F rows (k + 1)) k (rows.getD (sk F rows k) [])).length ≤ _
    rw [List.length_append, rl1_len]
    omega
theorem rl1_pre {F : Nat → Nat} {sm sn : List Nat} {j : Nat} {r : List (Nat × Nat)} (h : sm <+: sn) (hr : ∀ x ∈ r, F x.2 ∈ sm.map F) : rl1 F sn j r = rl1 F sm j r := by
  unfold rl1
  refine List.map_congr_left fun x hx => ?_
  obtain ⟨t, rfl⟩ := h
  rw [List.map_append, List.idxOf_append, if_pos (hr x hx)]
theorem rl1_snoc {F : Nat → Nat} {sm : List Nat} {j : Nat} {r : List (Nat × Nat)} (x : Nat × Nat) : rl1 F ((r ++ [x]).foldl (addS F) sm) j (r ++ [x]) = rl1 F (r.foldl (addS F) sm) j r ++ [(j, x.1, ((addS F (r.foldl (addS F) sm) x).map F).idxOf (F x.2))] := by
  rw [List.foldl_append]
  have e := rl1_pre (j := j) (addS_pre F (r.foldl (addS F) sm) x) (fun y hy => foldS_in F r sm y hy)
  show rl1 F (addS F (r.foldl (addS F) sm) x) j (r ++ [x]) = _
  unfold rl1 at e ⊢
  rw [List.map_append, e]
  rfl
def P4 (H : Hp) (p : Addr) (x : R3) : Prop := H p = some (.tup [nV x.1, .str (ch1 x.2.1), nV x.2.2])
structure Sr (H H' : Hp) (Nb Sm Ru Ta : Addr) (F : Nat → Nat) (sm : List Nat) (rules : List R3) (tk : List Nat) : Prop where
  s : Same H H'
  hNb : H' Nb = some (.dK (zk nK (sm.map F) (idxV sm.length)))
  hSm : H' Sm = some (.lst (sm.map nV))
  hRu : ∃ rs : List Addr, H' Ru = some (.lst (rs.map V.ref)) ∧ rs.length = rules.length ∧ ∀ (i : Nat) p x, rs[i]? = some p → rules[i]? = some x → P4 H' p x
  hTa : H' Ta = some (.lst (tk.map nV))
  n1 : H Nb = none
  n2 : H Sm = none
  n3 : H Ru = none
  n4 : H Ta = none
  d1 : Sm ≠ Ru
  d2 : Sm ≠ Ta
  d3 : Ru ≠ Ta
section
variable {H H' H'' : Hp} {Nb Sm Ru Ta : Addr} {F : Nat → Nat} {sm tk : List Nat} {rules : List R3}
theorem Sr.same (h : Sr H H' Nb Sm Ru Ta F sm rules tk) (s : Same H' H'') : Sr H H'' Nb Sm Ru Ta F sm rules tk := by
  obtain ⟨rs, a, b, c⟩ := h.hRu
  exact ⟨h.s.trans s, s _ _ h.hNb, s _ _ h.hSm, ⟨rs, s _ _ a, b, fun i p x h1 h2 => s _ _ (c i p x h1 h2)⟩, s _ _ h.hTa, h.n1, h.n2, h.n3, h.n4, h.d1, h.d2, h.d3⟩
theorem Sr.new (h : Sr H H' Nb Sm Ru Ta F sm rules tk) (b : Nat) : Sr H (upd (upd H' Nb (.dK (zk nK (sm.map F) (idxV sm.length) ++ [(nK (F b), nV sm.length)]))) Sm (.lst (sm.map nV ++ [nV b]))) Nb Sm Ru Ta F (sm ++ [b]) rules tk := by
  obtain ⟨rs, r1, r2, r3⟩ := h.hRu
  have nNS : Nb ≠ Sm := fun k => by have := h.hSm; rw [← k, h.hNb] at this; cases this
  have nRN : Ru ≠ Nb := fun k => by rw [k, h.hNb] at r1; cases r1
  have nTN : Ta ≠ Nb := fun k => by have := h.hTa; rw [k, h.hNb] at this; cases this
  have k1 : KeepT H' (upd H' Nb (.dK (zk nK (sm.map F) (idxV sm.length) ++ [(nK (F b), nV sm.length)]))) := keepT_upd h.hNb (fun xs z => by cases z)
  have hS2 : (upd H' Nb (.dK (zk nK (sm.map F) (idxV sm.length) ++ [(nK (F b), nV sm.length)]))) Sm = some (.lst (sm.map nV)) := by rw [upd_ne nNS.symm]; exact h.hSm
  have kt := k1.trans (keepT_upd (o := .lst (sm.map nV ++ [nV b])) hS2 (fun xs z => by cases z))
  refine ⟨fun c o q => ?_, ?_, by rw [List.map_append]; exact upd_same, ⟨rs, by rw [upd_ne h.d1.symm, upd_ne nRN]; exact r1, r2, fun i p x h1 h2 => kt _ _ (r3 i p x h1 h2)⟩, by rw [upd_ne h.d2.symm, upd_ne nTN]; exact h.hTa, h.n1, h.n2, h.n3, h.n4, h.d1, h.d2, h.d3⟩
  · rw [upd_ne (fun k => by rw [k, h.n2] at q; cases q), upd_ne (fun k => by rw [k, h.n1] at q; cases q)]
    exact h.s _ _ q
  · rw [upd_ne nNS, upd_same, List.length_append, List.length_singleton, idxV_succ, List.map_append]
    show _ = some (HO.dK (zk nK (sm.map F ++ [F b]) (idxV sm.length ++ [nV sm.length])))
    rw [zk_snoc nK (by rw [idxV_len, List.length_map])]
theorem Sr.rule (h : Sr H H' Nb Sm Ru Ta F sm rules tk) {p : Addr} {x : R3} {rs : List Addr} (hr : H' Ru = some (.lst (rs.map V.ref))) (hp : P4 H' p x) : Sr H (upd H' Ru (.lst (rs.map V.ref ++ [V.ref p]))) Nb Sm Ru Ta F sm (rules ++ [x]) tk := by
  obtain ⟨rs2, r1, r2, r3⟩ := h.hRu
  have er : rs = rs2 := by
    rw [hr] at r1
    exact (List.map_inj_right fun a b q => by cases q; rfl).mp (HO.lst.inj (Option.some.inj r1))
  subst er
  have nN : Nb ≠ Ru := fun k => by have := h.hNb; rw [k, r1] at this; cases this
  have kt : KeepT H' (upd H' Ru (.lst (rs.map V.ref ++ [V.ref p]))) := keepT_upd r1 (fun xs z => by cases z)
  refine ⟨fun b o q => by rw [upd_ne (fun k => by rw [k, h.n3] at q; cases q)]; exact h.s _ _ q, by rw [upd_ne nN]; exact h.hNb, by rw [upd_ne h.d1]; exact h.hSm, ⟨rs ++ [p], by rw [List.map_append]; exact upd_same, by rw [List.length_append, List.length_append, r2]; rfl, snoc_at r2 (fun i a b h1 h2 => kt _ _ (r3 i a b h1 h2)) (kt _ _ hp)⟩, by rw [upd_ne h.d3.symm]; exact h.hTa, h.n1, h.n2, h.n3, h.n4, h.d1, h.d2, h.d3⟩
theorem Sr.take (h : Sr H H' Nb Sm Ru Ta F sm rules tk) (n : Nat) : Sr H (upd H' Ta (.lst (tk.map nV ++ [nV n]))) Nb Sm Ru Ta F sm rules (tk ++ [n]) := by
  obtain ⟨rs, r1, r2, r3⟩ := h.hRu
  have nN : Nb ≠ Ta := fun k => by have := h.hTa; rw [← k, h.hNb] at this; cases this
  have kt : KeepT H' (upd H' Ta (.lst (tk.map nV ++ [nV n]))) := keepT_upd h.hTa (fun xs z => by cases z)
  exact ⟨fun b o q => by rw [upd_ne (fun k => by rw [k, h.n4] at q; cases q)]; exact h.s _ _ q, by rw [upd_ne nN]; exact h.hNb, by rw [upd_ne h.d2]; exact h.hSm, ⟨rs, by rw [upd_ne h.d3]; exact r1, r2, fun i p x h1 h2 => kt _ _ (r3 i p x h1 h2)⟩, by rw [List.map_append]; exact upd_same, h.n1, h.n2, h.n3, h.n4, h.d1, h.d2, h.d3⟩
end
end K10

set_option Elab.async false
set_option linter.all false
set_option maxRecDepth 100000
set_option maxHeartbeats 4000000
/-! told_reader. -/
namespace K10
open PySem L2 L2.EV PyProof.Rows PySem.Spec
abbrev sTold : Stmt := top 28
/-- a reader at p -/
def RtA (H : Hp) (p : Addr) (rules : List R3) (tk : List Nat) : Prop := ∃ (a b : Addr) (rs : List Addr), H p = some (.tup [.ref a, .ref b]) ∧ H a = some (.tup (rs.map V.ref)) ∧ rs.length = rules.length ∧ (∀ (i : Nat) q x, rs[i]? = some q → rules[i]? = some x → P4 H q x) ∧ H b = some (.tup (tk.map nV))
def spTold : Sp := fun vs H Q _ => ∃ (Rw Gd : Addr) (rows : List (List (Nat × Nat))) (gs : List Bool), vs = [.ref Rw, .ref Gd] ∧ RowsL H Rw rows ∧ H Gd = some (.lst (gs.map V.bl)) ∧ gs.length = rows.length ∧ RwOk rows gs ∧ 0 < rows.length ∧
  ∀ H' p (N : Nat), Same H H' → (smp (fun i => (mergeF 201 rows (k0F gs)).getD i 0) rows N).length = N →
    RtA H' p (rulesK (fun i => (mergeF 201 rows (k0F gs)).getD i 0) rows N) (takenK (fun i => (mergeF 201 rows (k0F gs)).getD i 0) rows gs N) → Q (.ref p) H'
structure Tr (K : PySem.W.Frag) (mg : Str → Option Value) where
  M : Mg K mg
  f : Addr
  d : FuncData
  F : Fun K "told_reader" "told_reader" sTold f d
  b : Binds K d ["rows", "good"] []
  m : mg "told_reader" = some (.ref f)
section
variable {P : Program} {w : World} {K : PySem.W.Frag} {mg : Str → Option Value} {base : Heap}
abbrev NTr : List Str := ["rows", "good", "kinds", "numbers", "samples", "rules", "taken", "state", "sample", "sign", "further"]
theorem scTold : FnScope NTr ["rows", "good"] (defScope sTold) := ⟨rfl, rfl, rfl, by decide +kernel, rfl, by decide +kernel, by decide +kernel⟩
theorem mergeF_len : ∀ (n : Nat) {rows : List (List (Nat × Nat))} {kinds : List Nat}, kinds.length = rows.length → (mergeF n rows kinds).length = rows.length
  | 0, _, _, h => finF_len h
  | n + 1, rows, kinds, h => by
    show (if (dedG (keysF kinds rows)).length = cntF kinds then finF kinds rows else mergeF n rows (finF kinds rows)).length = _
    by_cases c : (dedG (keysF kinds rows)).length = cntF kinds
    · rw [if_pos c]
      exact finF_len h
    · rw [if_neg c]
      exact mergeF_len n (finF_len h)
theorem joinH1 {P ok : Hp → Prop} {G : Prop} (a : (∀ Hx, ok Hx → P Hx) → G) (b : ∀ Hx, ok Hx → P Hx) : G := a b
theorem ok_told (G : Tr K mg) : FnOk P w K mg base CX0 2 G.f G.d ["rows", "good"] spTold := by
  have GM : FnOk P w K mg base CX0 1 G.M.f G.M.d ["rows", "good"] spMerged := ok_merged G.M
  refine G.F.ok scTold (fun vs H Q E h => ?_) (fun cdv A outer s H vs Q E hr h => ?_)
  · obtain ⟨Rw, Gd, rows, gs, rfl, _⟩ := h
    rfl
  · obtain ⟨Rw, Gd, rows, gs, rfl, hRw, hGd, lg, ok, h0, q⟩ := h
    have hu := hu_of hr
    refine ⟨_, pss_cons (ps_set (i := 2) scTold.nd rfl (Or.inl rfl) (pe_call GM hr (by rfl) G.M.m G.M.F.kp G.M.b .nil pass0 (pa_cons (pv 0) (pa_cons (pv 1) pa_nil))))
      (pss_cons (ps_set (i := 3) scTold.nd rfl (Or.inl rfl) (pe_disp (pps_cons (pe_ix ix_list (pv 2) pe_int (fun _ _ => rfl)) pe_int pps_nil) rfl rfl (by simp) (by decide)))
      (pss_cons (ps_set (i := 4) scTold.nd rfl (Or.inl rfl) (pe_lst (pa_cons pe_int pa_nil)))
      (pss_cons (ps_set (i := 5) scTold.nd rfl (Or.inl rfl) (pe_lst pa_nil))
      (pss_cons (ps_set (i := 6) scTold.nd rfl (Or.inl rfl) (pe_lst pa_nil))
      (pss_cons (ps_set (i := 7) scTold.nd rfl (Or.inl rfl) pe_int)
      (pss_cons (ps_while PassesOwn.never (pt_cmpR op_lt (pv 7) (pe_callB call_len_seq (by rfl) G.M.len PySem.boot_len (pa_cons (pv 4) pa_nil)) (nomark _))
        (pss_cons (ps_set (i := 8) scTold.nd rfl (Or.inl rfl) (pe_ix ix_list (pv 4) (pv 7) (fun _ _ => rfl)))
        (pss_cons (ps_if (pt_val (pe_ix ix_list (pv 1) (pv 8) (fun _ _ => rfl))) (pss_one (ps_expr (pe_bm PySem.F.plainAttrs_list PySem.F.slot_list_append PySem.F.type_list_append mt_append (pv 6) (pa_cons (pv 7) pa_nil)))) pss_nil)
        (pss_cons (ps_for PassesOwn.never rfl (pi_tup (pe_ix ix_list (pv 0) (pv 8) (fun _ _ => rfl))) (pg_tup rfl (pgs_cons (pg_name (i := 9) scTold.nd rfl (Or.inl rfl)) (pgs_cons (pg_name (i := 10) scTold.nd rfl (Or.inl rfl)) pgs_nil)))
          (pss_cons (ps_if (pt_cmp (pc_dnotin hu (pe_ix ix_list (pv 2) (pv 10) (fun _ _ => rfl)) (pv 3)))
            (pss_cons (ps_dput hu (pv 3) (pe_ix ix_list (pv 2) (pv 10) (fun _ _ => rfl)) (pe_callB call_len_seq (by rfl) G.M.len PySem.boot_len (pa_cons (pv 4) pa_nil)) rfl)
            (pss_one (ps_expr (pe_bm PySem.F.plainAttrs_list PySem.F.slot_list_append PySem.F.type_list_append mt_append (pv 4) (pa_cons (pv 10) pa_nil))))) pss_nil)
          (pss_one (ps_expr (pe_bm PySem.F.plainAttrs_list PySem.F.slot_list_append PySem.F.type_list_append mt_append (pv 5) (pa_cons (pe_tup (pa_cons (pv 7) (pa_cons (pv 9) (pa_cons (pe_dget hu (pv 3) (pe_ix ix_list (pv 2) (pv 10) (fun _ _ => rfl)) (fun _ _ => rfl)) pa_nil)))) pa_nil))))))
        (pss_one (ps_aug (i := 7) scTold.nd rfl (Or.inl rfl) pe_int ip_add))))))
      (pss_one (ps_ret (pe_tup (pa_cons (pe_callTy call_tuple_of (by rfl) G.M.tu (by decide +kernel) (pa_cons (pv 5) pa_nil)) (pa_cons (pe_callTy call_tuple_of (by rfl) G.M.tu (by decide +kernel) (pa_cons (pv 6) pa_nil)) pa_nil))))))))))), ?_⟩
    obtain ⟨rts, r1, r2, r3⟩ := id hRw
    have rl := ok.l
    refine ⟨_, rfl, _, rfl, Rw, Gd, rows, gs, rfl, hRw, hGd, lg, ok, fun H1 Kd s1 nKd hK => ?_⟩
    have Ll : (mergeF 201 rows (k0F gs)).length = rows.length := mergeF_len 201 (by unfold k0F; rw [List.length_map, lg])
    generalize mergeF 201 rows (k0F gs) = L at hK Ll q ⊢
    have fat : ∀ {i : Nat}, i < rows.length → atI (L.map nV) (i : Int) = some (nV (L.getD i 0)) := fun {i} h => atI_nat (by
      rw [List.getElem?_map, List.getD_eq_getElem?_getD, List.getElem?_eq_getElem (by rw [Ll]; exact h)]
      rfl)
    refine fun Nb nNb => ?_
    have uN0 := same_upd (o := HO.dK []) nNb
    refine ⟨_, rfl, Kd, _, 0, nV (L.getD 0 0), rfl, rfl, SqL.of (uN0 _ _ hK), fat h0, upd_same, [(.inl ((L.getD 0 0 : Nat) : Int), .int 0)], rfl, by simp, ?_⟩
    have hNb : (upd (upd H1 Nb (.dK [])) Nb (.dK (mergeK [] [(.inl ((L.getD 0 0 : Nat) : Int), .int 0)]))) Nb = some (.dK (zk nK [L.getD 0 0] (idxV 1))) := by
      rw [upd_same]
      simp [mergeK, putK, zk, idxV, nK, nV]
    have uN : Same H1 (upd (upd H1 Nb (.dK [])) Nb (.dK (mergeK [] [(.inl ((L.getD 0 0 : Nat) : Int), .int 0)]))) := fun b o z => by
      have := ne_of_none z nNb
      rw [upd_ne this, upd_ne this]
      exact z
    generalize upd (upd H1 Nb (.dK [])) Nb (.dK (mergeK [] [(.inl ((L.getD 0 0 : Nat) : Int), .int 0)])) = H2 at hNb uN ⊢
    clear uN0
    refine ⟨(by show 1 ≤ sizeLine; decide), fun Sm nSm => ?_⟩
    have uS := same_upd (o := HO.lst [V.int 0]) nSm
    refine ⟨by decide, fun Ru nRu => ?_⟩
    have uR := same_upd (o := HO.lst []) nRu
    refine ⟨by decide, fun Ta nTa => ?_⟩
    have uT := same_upd (o := HO.lst []) nTa
    have S0 : Sr H1 (upd (upd (upd H2 Sm (.lst [V.int 0])) Ru (.lst [])) Ta (.lst [])) Nb Sm Ru Ta (fun i => L.getD i 0) (smp (fun i => L.getD i 0) rows 0) (rulesK (fun i => L.getD i 0) rows 0) (takenK (fun i => L.getD i 0) rows gs 0) := by
      have a1 := uS.trans (uR.trans uT)
      exact ⟨uN.trans a1, a1 _ _ hNb, (uR.trans uT) _ _ upd_same, ⟨[], uT _ _ upd_same, rfl, fun i p x h => by cases h⟩, upd_same, nNb, none_of uN nSm, none_of (uN.trans uS) nRu, none_of (uN.trans (uS.trans uR)) nTa, ne_of_none upd_same nRu, ne_of_none (uR _ _ upd_same) nTa, ne_of_none upd_same nTa⟩
    generalize (upd (upd (upd H2 Sm (.lst [V.int 0])) Ru (.lst [])) Ta (.lst [])) = H3 at S0 ⊢
    clear uS uR uT hNb uN nNb nSm nRu nTa
    generalize hF : (fun i => L.getD i 0) = F at S0 q
    have fat2 : ∀ {i : Nat}, i < rows.length → atI (L.map nV) (i : Int) = some (nV (F i)) := fun {i} h => by rw [← hF]; exact fat h
    clear fat hF
    refine ⟨fun n σ H' => ∃ (k : Nat) (v8 v9 v10 : Option V), σ = [some (.ref Rw), some (.ref Gd), some (.ref Kd), some (.ref Nb), some (.ref Sm), some (.ref Ru), some (.ref Ta), some (nV k), v8, v9, v10] ∧
      Sr H1 H' Nb Sm Ru Ta F (smp F rows k) (rulesK F rows k) (takenK F rows gs k) ∧ k ≤ (smp F rows k).length ∧ n = 9000 - k, ⟨9000, 0, none, none, none, rfl, S0, Nat.zero_le _, rfl⟩, ?_⟩
    clear S0
    rintro n σ H4 ⟨k, v8, v9, v10, rfl, S4, kl, rfl⟩
    have slt := smp_lt (F := F) ok h0 k
    have sl := nd_lt (smp_nd F rows k) slt
    refine ⟨_, rfl, _, rfl, Sm, _, rfl, .inl (SqL.of S4.hSm), _, _, rfl, rfl, _, rfl, ?_⟩
    rw [List.length_map]
    by_cases c : k < (smp F rows k).length
    · refine iteT' (decide_eq_true (by omega)) ?_
      refine ⟨fun σ' H' => ∃ (v8 v9 v10 : Option V), σ' = [some (.ref Rw), some (.ref Gd), some (.ref Kd), some (.ref Nb), some (.ref Sm), some (.ref Ru), some (.ref Ta), some (nV (k + 1)), v8, v9, v10] ∧
        Sr H1 H' Nb Sm Ru Ta F (smp F rows (k + 1)) (rulesK F rows (k + 1)) (takenK F rows gs (k + 1)) ∧ k + 1 ≤ (smp F rows (k + 1)).length,
        fun σ' H' ⟨v8, v9, v10, e1, e2, e3⟩ => ⟨9000 - (k + 1), by omega, k + 1, v8, v9, v10, e1, e2, e3, rfl⟩, ?_⟩
      have ex := List.getElem?_eq_getElem c
      have esk : sk F rows k = (smp F rows k)[k]'c := by
        unfold sk
        rw [List.getD_eq_getElem?_getD, ex]
        rfl
      have est := smp_step ex
      rw [← esk] at ex est
      generalize hX : sk F rows k = X at ex est
      have Xl : X < rows.length := slt X (List.mem_of_getElem? ex)
      have iX : atI ((smp F rows k).map nV) (k : Int) = some (nV X) := atI_nat (by rw [List.getElem?_map, ex]; rfl)
      have Xg : X < gs.length := by rw [lg]; exact Xl
      have ig : atI (gs.map V.bl) (X : Int) = some (V.bl (gs.getD X false)) := atI_nat (by
        rw [List.getElem?_map, List.getD_eq_getElem?_getD, List.getElem?_eq_getElem Xg]
        rfl)
      refine ⟨_, rfl, _, rfl, Sm, _, _, nV X, rfl, rfl, SqL.of S4.hSm, iX, ?_⟩
      refine ⟨_, rfl, _, rfl, Gd, _, _, _, rfl, rfl, SqL.of (S4.s _ _ (s1 _ _ hGd)), ig, _, rfl, ?_⟩
      apply joinH1 (ok := fun Hx => Sr H1 Hx Nb Sm Ru Ta F (smp F rows k) (rulesK F rows k) (takenK F rows gs k ++ if gs.getD X false = true then [k] else []))
      · intro fin
        by_cases g : gs.getD X false = true
        · refine iteT' g ?_
          have lt := takenK_len F rows gs k
          refine ⟨_, rfl, .inl ⟨rfl, _, SqL.of S4.hTa⟩, _, rfl, Ta, (takenK F rows gs k).map nV, _, rfl, rfl, S4.hTa, by rw [List.length_map, sizeLine_eq]; omega, ?_⟩
          exact fin _ (by rw [if_pos g]; exact S4.take k)
        · refine iteF' (eq_false_of_ne_true g) ?_
          exact fin _ (by rw [if_neg g, List.append_nil]; exact S4)
      · intro H5 S5
        have Xr : X < rts.length := by rw [r2]; exact Xl
        have ert := List.getElem?_eq_getElem Xr
        have erow := List.getElem?_eq_getElem Xl
        have hrow := r3 X _ _ ert erow
        have grow : rows.getD X [] = rows[X]'Xl := by rw [List.getD_eq_getElem?_getD, erow]; rfl
        obtain ⟨row64, rowlt⟩ := ok.at_ _ (List.mem_of_getElem? erow)
        have irt : atI (rts.map V.ref) (X : Int) = some (V.ref (rts[X]'Xr)) := atI_nat (by rw [List.getElem?_map, ert]; rfl)
        generalize rts[X]'Xr = rt at hrow irt
        rw [grow] at est
        have ruk : rulesK F rows (k + 1) = rulesK F rows k ++ rl1 F (smp F rows (k + 1)) k (rows[X]'Xl) := by
          show rulesK F rows k ++ rl1 F (smp F rows (k + 1)) k (rows.getD (sk F rows k) []) = _
          rw [hX, grow]
        have tkk : takenK F rows gs (k + 1) = takenK F rows gs k ++ if gs.getD X false = true then [k] else [] := by
          show takenK F rows gs k ++ (if gs.getD (sk F rows k) false = true then [k] else []) = _
          rw [hX]
        rw [← tkk] at S5
        generalize rows[X]'Xl = row at hrow row64 rowlt est ruk
        obtain ⟨ps, ep, ap⟩ := hrow.keep ((Same.keepT s1).trans (Same.keepT S5.s))
        have rul := rulesK_len (F := F) ok k
        refine ⟨_, rfl, _, rfl, Rw, _, _, .ref rt, rfl, rfl, SqL.of (S5.s _ _ (s1 _ _ r1)), irt, rt, rfl, ⟨_, SqT.of ep⟩, for_it (walk_tup (xs := ps.map V.ref)) (fun j σ H' => ∃ (v9 v10 : Option V), σ = [some (.ref Rw), some (.ref Gd), some (.ref Kd), some (.ref Nb), some (.ref Sm), some (.ref Ru), some (.ref Ta), some (nV k), some (nV X), v9, v10] ∧ KeepT H5 H' ∧
          Sr H1 H' Nb Sm Ru Ta F ((row.take j).foldl (addS F) (smp F rows k)) (rulesK F rows k ++ rl1 F ((row.take j).foldl (addS F) (smp F rows k)) k (row.take j)) (takenK F rows gs (k + 1)))
          ⟨_, _, rfl, fun a xs e => e, by simpa [rl1] using S5⟩ (fun j σ H' _ ⟨_, _, _, z, _⟩ => SqT.of (z _ _ ep)) ?_ ?_⟩
        · rintro j y σ H6 H7 hj ⟨v9, v10, rfl, k6, S6⟩ ⟨rfl, hx⟩
          rw [List.getElem?_map] at hx
          cases hp : ps[j]? with
          | none => rw [hp] at hx; cases hx
          | some p =>
            rw [hp] at hx
            cases hx
            have jr : j < row.length := by rw [← ap.1]; exact (List.getElem?_eq_some_iff.mp hp).1
            have ej := List.getElem?_eq_getElem jr
            have h3 := k6 _ _ (ap.2 j p _ hp ej)
            have lt := rowlt _ (List.mem_of_getElem? ej)
            generalize row[j]'jr = x at ej h3 lt
            have tk : row.take (j + 1) = row.take j ++ [x] := by rw [List.take_succ, ej]; rfl
            rw [tk, rl1_snoc, List.foldl_append, ← List.append_assoc]
            have e1 : List.foldl (addS F) ((row.take j).foldl (addS F) (smp F rows k)) [x] = addS F ((row.take j).foldl (addS F) (smp F rows k)) x := rfl
            rw [e1]
            have lrl : (rulesK F rows k ++ rl1 F ((row.take j).foldl (addS F) (smp F rows k)) k (row.take j)).length ≤ 64 * k + 64 := by
              rw [List.length_append, rl1_len, List.length_take]
              omega
            have lsm : ((row.take j).foldl (addS F) (smp F rows k)).length ≤ 4000 := by
              refine Nat.le_trans (nd_lt (foldS_nd (smp_nd F rows k)) (foldS_all slt fun y hy => rowlt y (List.mem_of_mem_take hy))) ok.l
            have ndm : (((row.take j).foldl (addS F) (smp F rows k)).map F).Nodup := foldS_nd (smp_nd F rows k)
            generalize rulesK F rows k ++ rl1 F ((row.take j).foldl (addS F) (smp F rows k)) k (row.take j) = rules at S6 lrl ⊢
            generalize (row.take j).foldl (addS F) (smp F rows k) = sm at S6 lsm ndm ⊢
            show _
            have ix := fat2 lt
            refine ⟨p, _, rfl, SqT.of h3, rfl, _, _, rfl, _, _, rfl, rfl, ?_⟩
            refine ⟨_, rfl, _, rfl, Kd, _, _, nV (F x.2), rfl, rfl, SqL.of (S6.s _ _ hK), ix, _, rfl, Nb, valV (zk nK (sm.map F) (idxV sm.length)) (nK (F x.2)), rfl, DGet.k (k := nK (F x.2)) S6.hNb, _, rfl, ?_⟩
            apply joinH1 (ok := fun Hx => KeepT H7 Hx ∧ Sr H1 Hx Nb Sm Ru Ta F (addS F sm x) rules (takenK F rows gs (k + 1)))
            · intro fin
              by_cases bi : F x.2 ∈ sm.map F
              · have il := List.idxOf_lt_length_of_mem bi
                have hv : valV (zk nK (sm.map F) (idxV sm.length)) (nK (F x.2)) = some (nV ((sm.map F).idxOf (F x.2))) := zk_at nK nK_inj (i := (sm.map F).idxOf (F x.2)) ndm (by rw [List.getElem?_eq_getElem il, List.getElem_idxOf]) (by
                  unfold idxV
                  rw [List.length_map] at il
                  rw [List.getElem?_map, List.getElem?_range il]
                  rfl)
                refine iteF' (by rw [hv]; rfl) ?_
                exact fin _ ⟨fun a xs e => e, by rw [show addS F sm x = sm from if_pos bi]; exact S6⟩
              · have hv := zk_none nK nK_inj (a := idxV sm.length) bi
                refine iteT' (by rw [hv]; rfl) ?_
                refine ⟨_, rfl, Sm, _, rfl, .inl (SqL.of S6.hSm), _, rfl, _, rfl, _, rfl, Kd, _, _, nV (F x.2), rfl, rfl, SqL.of (S6.s _ _ hK), ix, Nb, _, rfl, DPut.k (k := nK (F x.2)) S6.hNb (by rw [zk_len nK (by rw [idxV_len, List.length_map]), List.length_map, sizeLine_eq]; omega), ?_⟩
                rw [putK_new _ hv, List.length_map]
                have SN := S6.new x.2
                have nNS : Sm ≠ Nb := fun z => by have := S6.hSm; rw [z, S6.hNb] at this; cases this
                have hS2 : (upd H7 Nb (.dK (zk nK (sm.map F) (idxV sm.length) ++ [(nK (F x.2), nV sm.length)]))) Sm = some (.lst (sm.map nV)) := by rw [upd_ne nNS]; exact S6.hSm
                have k7 : KeepT H7 (upd (upd H7 Nb (.dK (zk nK (sm.map F) (idxV sm.length) ++ [(nK (F x.2), nV sm.length)]))) Sm (.lst (sm.map nV ++ [nV x.2]))) := (keepT_upd S6.hNb (fun xs z => by cases z)).trans (keepT_upd hS2 (fun xs z => by cases z))
                refine ⟨_, rfl, .inl ⟨rfl, _, SqL.of hS2⟩, _, rfl, Sm, sm.map nV, _, rfl, rfl, hS2, by rw [List.length_map, sizeLine_eq]; omega, ?_⟩
                exact fin _ ⟨k7, by rw [show addS F sm x = sm ++ [x.2] from if_neg bi]; exact SN⟩
            · intro H8 ⟨k8, S8⟩
              have bi := addS_in F sm x
              have ndn := addS_nd ndm x
              generalize addS F sm x = sn at S8 bi ndn ⊢
              have il := List.idxOf_lt_length_of_mem bi
              have hv : valV (zk nK (sn.map F) (idxV sn.length)) (nK (F x.2)) = some (nV ((sn.map F).idxOf (F x.2))) := zk_at nK nK_inj (i := (sn.map F).idxOf (F x.2)) ndn (by rw [List.getElem?_eq_getElem il, List.getElem_idxOf]) (by
                unfold idxV
                rw [List.length_map] at il
                rw [List.getElem?_map, List.getElem?_range il]
                rfl)
              obtain ⟨rs, q1, q2, q3⟩ := id S8.hRu
              refine ⟨_, rfl, .inl ⟨rfl, _, SqL.of q1⟩, _, rfl, _, rfl, _, rfl, _, rfl, _, rfl, Kd, _, _, nV (F x.2), rfl, rfl, SqL.of (S8.s _ _ hK), ix, Nb, nV ((sn.map F).idxOf (F x.2)), rfl, by rw [← hv]; exact DGet.k (k := nK (F x.2)) S8.hNb, (by show 3 ≤ sizeLine; decide), fun tq ntq => ?_⟩
              have uq := same_upd (o := HO.tup [nV k, V.str (ch1 x.1), nV ((sn.map F).idxOf (F x.2))]) ntq
              have S9 := S8.same uq
              have q9 := uq _ _ q1
              refine ⟨Ru, rs.map V.ref, _, rfl, rfl, q9, by rw [List.length_map, q2, sizeLine_eq]; omega, ?_⟩
              refine ⟨_, _, rfl, (k6.trans k8).trans ((Same.keepT uq).trans (keepT_upd q9 (fun xs z => by cases z))), ?_⟩
              exact S9.rule (x := (k, x.1, (sn.map F).idxOf (F x.2))) q9 upd_same
        · rintro σ H6 ⟨v9, v10, rfl, k6, S6⟩
          rw [List.length_map, ap.1, List.take_length, ← est, ← ruk] at S6
          refine ⟨_, rfl, _, _, rfl, rfl, _, _, _, rfl, S6, ?_⟩
          have := (foldS_pre F row (smp F rows k)).length_le
          rw [est]
          omega
    · refine iteF' (decide_eq_false (by omega)) ?_
      have ek : (smp F rows k).length = k := by omega
      obtain ⟨rs, q1, q2, q3⟩ := id S4.hRu
      refine ⟨_, rfl, Ru, _, rfl, .inl ⟨SqL.of q1, fun a na => ?_⟩⟩
      have ua := same_upd (o := HO.tup (rs.map V.ref)) na
      have S5 := S4.same ua
      refine ⟨_, rfl, Ta, _, rfl, .inl ⟨SqL.of S5.hTa, fun b nb => ?_⟩⟩
      have ub := same_upd (o := HO.tup ((takenK F rows gs k).map nV)) nb
      refine ⟨(by show 2 ≤ sizeLine; decide), fun p np => ?_⟩
      have up := same_upd (o := HO.tup [V.ref a, V.ref b]) np
      have sall := (ua.trans ub).trans up
      exact q _ p k (s1.trans (S4.s.trans sall)) ek ⟨a, b, rs, upd_same, (ub.trans up) _ _ upd_same, q2, fun i z x h1 h2 => sall _ _ (q3 i z x h1 h2), up _ _ upd_same⟩
end
end K10

set_option Elab.async false
set_option linter.all false
set_option maxRecDepth 100000
set_option maxHeartbeats 4000000
/-! strict. -/
namespace K10
open PySem L2 L2.EV
theorem expl_mono (es : List En) (f k : Nat) : ∀ n, expl es f k <+: expl es f (k + n)
  | 0 => List.prefix_refl _
  | n + 1 => (expl_mono es f k n).trans (expl_pre es f (k + n))
theorem expl_stay {es : List En} {f k : Nat} (h : (expl es f k).length ≤ k) : ∀ n, expl es f (k + n) = expl es f k
  | 0 => rfl
  | n + 1 => by
    have ih := expl_stay h n
    show (match (expl es f (k + n))[k + n]? with
      | none => expl es f (k + n)
      | some S => addL es S (expl es f (k + n)) (sgO es)) = _
    rw [ih, List.getElem?_eq_none (by omega)]
theorem expl_uniq {es : List En} {f N M : Nat} (h : (expl es f N).length = N) (g : (expl es f M).length = M) : N = M := by
  rcases Nat.le_total N M with c | c
  · obtain ⟨d, rfl⟩ := Nat.exists_eq_add_of_le c
    rw [expl_stay (by omega) d] at g
    omega
  · obtain ⟨d, rfl⟩ := Nat.exists_eq_add_of_le c
    rw [expl_stay (by omega) d] at h
    omega
theorem smp_pre (F : Nat → Nat) (rows : List (List (Nat × Nat))) (k : Nat) : smp F rows k <+: smp F rows (k + 1) := by
  show _ <+: (match (smp F rows k)[k]? with
    | none => smp F rows k
    | some s => (rows.getD s []).foldl (addS F) (smp F rows k))
  cases h : (smp F rows k)[k]? with
  | none => exact List.prefix_refl _
  | some s => exact foldS_pre F _ _
theorem smp_mono (F : Nat → Nat) (rows : List (List (Nat × Nat))) (k : Nat) : ∀ n, smp F rows k <+: smp F rows (k + n)
  | 0 => List.prefix_refl _
  | n + 1 => (smp_mono F rows k n).trans (smp_pre F rows (k + n))
theorem smp_stay {F : Nat → Nat} {rows : List (List (Nat × Nat))} {k : Nat} (h : (smp F rows k).length ≤ k) : ∀ n, smp F rows (k + n) = smp F rows k
  | 0 => rfl
  | n + 1 => by
    have ih := smp_stay h n
    show (match (smp F rows (k + n))[k + n]? with
      | none => smp F rows (k + n)
      | some s => (rows.getD s []).foldl (addS F) (smp F rows (k + n))) = _
    rw [ih, List.getElem?_eq_none (by omega)]
theorem smp_uniq {F : Nat → Nat} {rows : List (List (Nat × Nat))} {N M : Nat} (h : (smp F rows N).length = N) (g : (smp F rows M).length = M) : N = M := by
  rcases Nat.le_total N M with c | c
  · obtain ⟨d, rfl⟩ := Nat.exists_eq_add_of_le c
    rw [smp_stay (by omega) d] at g
    omega
  · obtain ⟨d, rfl⟩ := Nat.exists_eq_add_of_le c
    rw [smp_stay (by omega) d] at h
    omega
/-- how many sets there are -/
@[irreducible] def nE (fr : List T3) : Nat := (expl (esF fr) (f0F fr) 4000).length
theorem nE_of {fr : List T3} {U : List Nat} (I : Inn (esF fr) (f0F fr) U) {N : Nat} (h : (expl (esF fr) (f0F fr) N).length = N) : nE fr = N := by
  have l := expl_len I N
  obtain ⟨d, e⟩ := Nat.exists_eq_add_of_le (show N ≤ 4000 by omega)
  unfold nE
  rw [e, expl_stay (by omega) d]
  exact h
@[irreducible] def rowsF (fr : List T3) : List (List (Nat × Nat)) := rowsK (esF fr) (f0F fr) (nE fr)
@[irreducible] def gdF (fr : List T3) : List Bool := gdK (esF fr) (f0F fr) (nE fr)
@[irreducible] def kdF (fr : List T3) : Nat → Nat := fun i => (mergeF 201 (rowsF fr) (k0F (gdF fr))).getD i 0
@[irreducible] def nS (fr : List T3) : Nat := (smp (kdF fr) (rowsF fr) 4000).length
@[irreducible] def rulesF (fr : List T3) : List R3 := rulesK (kdF fr) (rowsF fr) (nS fr)
@[irreducible] def takenF (fr : List T3) : List Nat := takenK (kdF fr) (rowsF fr) (gdF fr) (nS fr)
theorem rwF_idx {es : List En} {S : Nat} {ls cs : List Nat} (h : ∀ c ∈ cs, ¬ bh es c S = 0 → bh es c S ∈ ls) : ∀ x ∈ rwF es S ls cs, x.2 < ls.length := by
  intro x hx
  unfold rwF at hx
  obtain ⟨r, hr, hx⟩ := List.mem_flatten.mp hx
  obtain ⟨c, hc, rfl⟩ := List.mem_map.mp hr
  unfold rw1 at hx
  by_cases z : bh es c S = 0
  · rw [if_pos z] at hx
    cases hx
  · rw [if_neg z] at hx
    rw [List.mem_singleton.mp hx]
    exact List.idxOf_lt_length_of_mem (h c hc z)
theorem rows_ok {es : List En} {f : Nat} {U : List Nat} (eo : EsOk es) (I : Inn es f U) {N : Nat} (h : (expl es f N).length = N) : RwOk (rowsK es f N) (gdK es f N) := by
  have l := expl_len I N
  have inU : ∀ i, i < N → pk es f i ∈ U := fun i hi => by
    have jl : i < (expl es f i).length := by
      rcases Nat.lt_or_ge i (expl es f i).length with z | z
      · exact z
      · obtain ⟨d, e⟩ := Nat.exists_eq_add_of_le (Nat.le_of_lt hi)
        have st := expl_stay z d
        rw [← e] at st
        rw [st] at h
        omega
    refine expl_in I i _ ?_
    unfold pk
    rw [List.getD_eq_getElem?_getD, List.getElem?_eq_getElem jl]
    exact List.getElem_mem jl
  obtain ⟨κ, k1, k2⟩ := I.kn
  refine ⟨by rw [rowsK_len]; omega, ⟨fun i => κ (pk es f i), fun i hi => ?_, fun i j hi hj e => ?_⟩, fun r hr => ?_⟩
  · rw [rowsK_len] at hi
    exact k1 _ (inU i hi)
  · rw [rowsK_len] at hi hj
    obtain ⟨a, b⟩ := k2 _ (inU i hi) _ (inU j hj) e
    refine ⟨?_, ?_⟩
    · unfold rowsK
      rw [List.getElem?_map, List.getElem?_map, List.getElem?_range hi, List.getElem?_range hj]
      refine congrArg some ?_
      have step : ∀ m, m < N → ∀ c ∈ sgO es, ¬ bh es c (pk es f m) = 0 → bh es c (pk es f m) ∈ expl es f (m + 1) := fun m hm c hc z => by
        have jl : m < (expl es f m).length := by
          rcases Nat.lt_or_ge m (expl es f m).length with z | z
          · exact z
          · obtain ⟨d, e⟩ := Nat.exists_eq_add_of_le (Nat.le_of_lt hm)
            have st := expl_stay z d
            rw [← e] at st
            rw [st] at h
            omega
        have ex : (expl es f m)[m]? = some (pk es f m) := by
          unfold pk
          rw [List.getD_eq_getElem?_getD, List.getElem?_eq_getElem jl]
          rfl
        rw [expl_step ex]
        exact addL_in z hc
      have pre : ∀ m, m < N → expl es f (m + 1) <+: expl es f N := fun m hm => by
        obtain ⟨d, e⟩ := Nat.exists_eq_add_of_le (show m + 1 ≤ N by omega)
        rw [e]
        exact expl_mono es f (m + 1) d
      show rwF es (pk es f i) (expl es f (i + 1)) (sgO es) = rwF es (pk es f j) (expl es f (j + 1)) (sgO es)
      rw [← rwF_pre (pre i hi) (step i hi), ← rwF_pre (pre j hj) (step j hj)]
      unfold rwF
      congr 1
      refine List.map_congr_left fun c hc => ?_
      unfold rw1
      rw [b c hc]
    · unfold gdK
      rw [List.getElem?_map, List.getElem?_map, List.getElem?_range hi, List.getElem?_range hj]
      exact congrArg some (decide_eq_decide.mpr (not_congr a))
  unfold rowsK at hr
  obtain ⟨j, hj, rfl⟩ := List.mem_map.mp hr
  have jN := List.mem_range.mp hj
  have a := rwF_len es (pk es f j) (expl es f (j + 1)) (sgO es)
  have b := sgO_len es
  have c := eo.few
  refine ⟨by omega, fun x hx => ?_⟩
  rw [rowsK_len]
  have jl : j < (expl es f j).length := by
    rcases Nat.lt_or_ge j (expl es f j).length with z | z
    · exact z
    · obtain ⟨d, e⟩ := Nat.exists_eq_add_of_le (Nat.le_of_lt jN)
      have st := expl_stay z d
      rw [← e] at st
      rw [st] at h
      omega
  have ex : (expl es f j)[j]? = some (pk es f j) := by
    rw [List.getElem?_eq_getElem jl]
    unfold pk
    rw [List.getD_eq_getElem?_getD, List.getElem?_eq_getElem jl]
    rfl
  have e1 := expl_step ex
  have lt := rwF_idx (fun c hc z => by rw [e1]; exact addL_in z hc) x hx
  obtain ⟨d, e⟩ := Nat.exists_eq_add_of_le (show j + 1 ≤ N by omega)
  have pl := (expl_mono es f (j + 1) d).length_le
  rw [← e, h] at pl
  omega
theorem nE_pos (fr : List T3) : 0 < nE fr := by
  have := (expl_mono (esF fr) (f0F fr) 0 4000).length_le
  rw [Nat.zero_add] at this
  unfold nE
  exact this
theorem gdK_len (es : List En) (f k : Nat) : (gdK es f k).length = k := by unfold gdK; simp
end K10

set_option Elab.async false
set_option linter.all false
set_option maxRecDepth 100000
set_option maxHeartbeats 4000000
/-! strict. -/
namespace K10
open PySem L2 L2.EV
abbrev sStrict : Stmt := top 38
def spStrict : Sp := fun vs H Q _ => ∃ (f : Addr) (fr : List T3) (last : Nat) (U : List Nat), vs = [.ref f] ∧ FrA H f fr ∧ Frm fr last ∧ EsOk (esF fr) ∧ Inn (esF fr) (f0F fr) U ∧ ∀ H' p, Same H H' → RtA H' p (rulesF fr) (takenF fr) → Q (.ref p) H'
structure Sk (K : PySem.W.Frag) (mg : Str → Option Value) where
  Z : Fs K mg
  S : Sd K mg
  T : Tr K mg
  f : Addr
  d : FuncData
  F : Fun K "strict" "strict" sStrict f d
  b : Binds K d ["framing"] []
  m : mg "strict" = some (.ref f)
section
variable {P : Program} {w : World} {K : PySem.W.Frag} {mg : Str → Option Value} {base : Heap}
theorem scStrict : FnScope ["framing", "rows", "good"] ["framing"] (defScope sStrict) := ⟨rfl, rfl, rfl, by decide +kernel, rfl, by decide +kernel, by decide +kernel⟩
theorem RowsL.same {H H' : Hp} {Rw : Addr} {rows : List (List (Nat × Nat))} (h : RowsL H Rw rows) (s : Same H H') : RowsL H' Rw rows := by
  obtain ⟨rts, a, b, c⟩ := h
  exact ⟨rts, s _ _ a, b, fun i t r h1 h2 => (c i t r h1 h2).keep (Same.keepT s)⟩
theorem ok_strict (G : Sk K mg) : FnOk P w K mg base CX0 4 G.f G.d ["framing"] spStrict := by
  have GN : FnOk P w K mg base CX0 3 G.Z.fF G.Z.dF ["thing"] spNeedF := ok_needF G.Z
  have GS : FnOk P w K mg base CX0 3 G.S.f G.S.d ["framing"] spSpread := ok_spread G.S
  have GT : FnOk P w K mg base CX0 2 G.T.f G.T.d ["rows", "good"] spTold := ok_told G.T
  refine G.F.ok scStrict (fun vs H Q E h => ?_) (fun cdv A outer s H vs Q E hr h => ?_)
  · obtain ⟨f, fr, last, U, rfl, _⟩ := h
    rfl
  · obtain ⟨f, fr, last, U, rfl, fa, fm, eo, inn, q⟩ := h
    have hr2 := hr.mono (j := 2) (by omega)
    refine ⟨_, pss_cons (ps_expr (pe_call GN hr (by rfl) G.Z.mF G.Z.F.kp G.Z.bF .nil pass0 (pa_cons (pv 0) pa_nil)))
      (pss_cons (ps_asg (pe_call GS hr (by rfl) G.S.m G.S.F.kp G.S.b .nil pass0 (pa_cons (pv 0) pa_nil)) (pg_tup rfl (pgs_cons (pg_name (i := 1) scStrict.nd rfl (Or.inl rfl)) (pgs_cons (pg_name (i := 2) scStrict.nd rfl (Or.inl rfl)) pgs_nil))))
      (pss_one (ps_ret (pe_call GT hr2 (by rfl) G.T.m G.T.F.kp G.T.b .nil pass0 (pa_cons (pv 1) (pa_cons (pv 2) pa_nil)))))), ?_⟩
    refine ⟨_, rfl, f, fr, last, rfl, fa, fm, fun H1 s1 => ?_⟩
    refine ⟨_, rfl, f, fr, last, U, rfl, fa.same s1, fm, eo, inn, fun H2 p Rw Gd N s2 ep eN hR hG => ?_⟩
    refine ⟨p, _, rfl, SqT.of ep, rfl, _, _, rfl, _, _, rfl, rfl, ?_⟩
    have en := nE_of inn eN
    subst en
    have ok : RwOk (rowsF fr) (gdF fr) := by
      unfold rowsF gdF
      exact rows_ok eo inn eN
    refine ⟨_, rfl, _, rfl, Rw, Gd, rowsF fr, gdF fr, rfl, (by unfold rowsF; exact hR), (by unfold gdF; exact hG), ?_, ok, ?_, fun H3 z M s3 eM rd => ?_⟩
    · unfold gdF rowsF
      rw [gdK_len, rowsK_len]
    · unfold rowsF
      rw [rowsK_len]
      exact nE_pos fr
    · have eM : (smp (kdF fr) (rowsF fr) M).length = M := by
        unfold kdF
        exact eM
      have em : nS fr = M := by
        have lt := nd_lt (smp_nd (kdF fr) (rowsF fr) M) (smp_lt ok (by unfold rowsF; rw [rowsK_len]; exact nE_pos fr) M)
        have := ok.l
        obtain ⟨d, e⟩ := Nat.exists_eq_add_of_le (show M ≤ 4000 by
          have : (rowsF fr).length ≤ 4000 := ok.l
          omega)
        unfold nS
        rw [e, smp_stay (by omega) d]
        exact eM
      subst em
      exact q H3 z (s1.trans (s2.trans s3)) (by unfold rulesF takenF kdF; exact rd)
end
end K10

set_option Elab.async false
set_option linter.all false
set_option maxRecDepth 100000
set_option maxHeartbeats 4000000
/-! The signs of a right framing. -/
namespace K10
open PySem L2 L2.EV
theorem csE_mem {es : List En} {x : Nat} : x ∈ csE es ↔ ∃ e ∈ es, e.1 = x := by
  have z : ∀ (es : List En) (ks : List Nat), x ∈ es.foldl (fun ks e => addN ks e.1) ks ↔ x ∈ ks ∨ ∃ e ∈ es, e.1 = x := by
    intro es
    induction es with
    | nil => exact fun ks => by simp
    | cons e es ih =>
      intro ks
      rw [List.foldl_cons, ih, addN_mem]
      constructor
      · rintro ((h | h) | ⟨y, hy, h⟩)
        · exact .inl h
        · exact .inr ⟨e, List.mem_cons_self .., h.symm⟩
        · exact .inr ⟨y, List.mem_cons_of_mem _ hy, h⟩
      · rintro (h | ⟨y, hy, h⟩)
        · exact .inl (.inl h)
        · rcases List.mem_cons.mp hy with rfl | hy
          · exact .inl (.inr h.symm)
          · exact .inr ⟨y, hy, h⟩
  unfold csE
  rw [z]
  simp
theorem allE_mem {fr : List T3} {e : En} : ∀ {n : Nat}, e ∈ allE fr n ↔ ∃ i j, i < n ∧ j < pln fr i ∧ e = (chr fr i j, 2 ^ (off fr i + j), fur fr i j)
  | 0 => ⟨fun h => (by cases h), fun ⟨i, j, h, _⟩ => absurd h (by omega)⟩
  | n + 1 => by
    show e ∈ allE fr n ++ rowE fr n (pln fr n) ↔ _
    rw [List.mem_append, allE_mem]
    unfold rowE
    constructor
    · rintro (⟨i, j, h1, h2, h3⟩ | h)
      · exact ⟨i, j, by omega, h2, h3⟩
      · obtain ⟨j, hj, rfl⟩ := List.mem_map.mp h
        exact ⟨n, j, by omega, List.mem_range.mp hj, rfl⟩
    · rintro ⟨i, j, h1, h2, rfl⟩
      rcases Nat.lt_or_ge i n with c | c
      · exact .inl ⟨i, j, c, h2, rfl⟩
      · have : i = n := by omega
        subst this
        exact .inr (List.mem_map.mpr ⟨j, List.mem_range.mpr h2, rfl⟩)
theorem chr_at {fr : List T3} {i j : Nat} (hj : j < pln fr i) : (sl (stq fr i).2.1)[j]? = some (chr fr i j) := by
  have l : (sl (stq fr i).2.1).length = pln fr i := by
    unfold pln
    rw [len_sl]
  have jl : j < (sl (stq fr i).2.1).length := by omega
  unfold chr
  rw [List.getD_eq_getElem?_getD, List.getElem?_eq_getElem jl]
  rfl
theorem stq_pc {fr : List T3} {last : Nat} (fm : Frm fr last) {i : Nat} (hi : i < fr.length) : Pc (stq fr i).2.1 (decide ((stq fr i).2.2 = 0)) := by
  have e := List.getElem?_eq_getElem hi
  rw [stq_at e]
  exact (fm.stp _ (List.mem_of_getElem? e)).2.2.1
theorem esF_mem {fr : List T3} {e : En} : e ∈ esF fr ↔ ∃ i j, i < fr.length ∧ j < pln fr i ∧ e = (chr fr i j, 2 ^ (off fr i + j), fur fr i j) := by
  unfold esF
  exact allE_mem
theorem es_ok {fr : List T3} {last : Nat} (fm : Frm fr last) : EsOk (esF fr) := by
  unfold esF
  refine ⟨?_, ?_, ?_⟩
  · obtain ⟨x, hx, _, h0⟩ := fm.dn last (Nat.le_refl _)
    have h0 : x.2.2 = 0 := by omega
    obtain ⟨i, hi⟩ := List.mem_iff_getElem?.mp hx
    have il := (List.getElem?_eq_some_iff.mp hi).1
    have pc := stq_pc fm il
    rw [stq_at hi, h0] at pc
    obtain ⟨b, e, _⟩ := pc
    rw [decide_eq_true rfl, if_pos rfl] at e
    have pl : pln fr i = b.length + 1 := by
      unfold pln
      rw [stq_at hi, len_sl, e]
      simp
    refine csE_mem.mpr ⟨(chr fr i b.length, 2 ^ (off fr i + b.length), fur fr i b.length), allE_mem.mpr ⟨i, b.length, il, by omega, rfl⟩, ?_⟩
    have c := chr_at (fr := fr) (i := i) (j := b.length) (by omega)
    rw [stq_at hi, e] at c
    have c2 : (b ++ [59])[b.length]? = some 59 := by simp
    rw [c2] at c
    exact (Option.some.inj c).symm
  · have nd : (csE (allE fr fr.length)).Nodup := csE_nd _ [] List.nodup_nil
    have le := nd.length_le_of_subset (l₂ := 59 :: sgs) fun x hx => by
      obtain ⟨e, he, rfl⟩ := csE_mem.mp hx
      obtain ⟨i, j, hi, hj, rfl⟩ := allE_mem.mp he
      have c := chr_at hj
      obtain ⟨b, eb, _, hb, _⟩ := stq_pc fm hi
      rw [eb] at c
      have m := List.mem_of_getElem? c
      rcases List.mem_append.mp m with m | m
      · exact List.mem_cons_of_mem _ (hb _ m)
      · by_cases z : decide ((stq fr i).2.2 = 0) = true
        · rw [if_pos z] at m
          rw [List.mem_singleton.mp m]
          exact List.mem_cons_self ..
        · rw [if_neg z] at m
          cases m
    have l38 : (59 :: sgs).length = 38 := by decide +kernel
    omega
  · rw [allE_len]
    have := off_le fm fr.length (Nat.le_refl _)
    have := fm.l1
    omega
end K10

set_option Elab.async false
set_option linter.all false
set_option maxRecDepth 100000
set_option maxHeartbeats 4000000
/-! A set of places by its bits. -/
namespace K10
open PySem L2 L2.EV
theorem off_inj {fr : List T3} {i j k l : Nat} (hj : j < pln fr i) (hl : l < pln fr k) (h : off fr i + j = off fr k + l) : i = k ∧ j = l := by
  rcases Nat.lt_trichotomy i k with c | c | c
  · have := off_mono (fr := fr) (show i + 1 ≤ k from c)
    have e : off fr (i + 1) = off fr i + pln fr i := rfl
    omega
  · subst c
    exact ⟨rfl, by omega⟩
  · have := off_mono (fr := fr) (show k + 1 ≤ i from c)
    have e : off fr (k + 1) = off fr k + pln fr k := rfl
    omega
theorem and_pow {a b : Nat} (h : ¬ (2 ^ a &&& 2 ^ b) = 0) : a = b := by
  refine Classical.byContradiction fun c => h ?_
  apply Nat.eq_of_testBit_eq
  intro i
  rw [Nat.testBit_and, Nat.testBit_two_pow, Nat.testBit_two_pow, Nat.zero_testBit]
  by_cases x : a = i
  · have y : ¬ b = i := fun z => c (x.trans z.symm)
    simp [x, y]
  · simp [x]
def rnF (es : List En) (f : Nat) (cs : List Nat) : Nat := cs.foldl (fun S c => bh es c S) f
theorem rnF_snoc (es : List En) (f : Nat) (cs : List Nat) (c : Nat) : rnF es f (cs ++ [c]) = bh es c (rnF es f cs) := by
  unfold rnF
  rw [List.foldl_append]
  rfl
theorem sgs_59 : ¬ (59 : Nat) ∈ sgs := by decide +kernel
theorem bh_no {es : List En} {c S : Nat} (h : ∀ e ∈ es, e.1 ≠ c) : bh es c S = 0 := by
  unfold bh
  rw [ofS_none h]
  rfl
theorem pow_inj {a b : Nat} (h : 2 ^ a = 2 ^ b) : a = b := by
  rcases Nat.lt_trichotomy a b with c | c | c
  · have := Nat.pow_lt_pow_right (a := 2) (by decide) c
    omega
  · exact c
  · have := Nat.pow_lt_pow_right (a := 2) (by decide) c
    omega
theorem and_bit {S x : Nat} : (¬ S &&& 2 ^ x = 0) ↔ S.testBit x = true := by
  rw [and_some]
  constructor
  · rintro ⟨y, h1, h2⟩
    rw [Nat.testBit_two_pow, decide_eq_true_iff] at h2
    rw [h2]
    exact h1
  · exact fun h => ⟨x, h, by rw [Nat.testBit_two_pow]; exact decide_eq_true rfl⟩
theorem bit_add {a b i : Nat} (h : a < 2 ^ b) : (a + 2 ^ b).testBit i = true ↔ a.testBit i = true ∨ i = b := by
  rw [Nat.add_comm]
  rcases Nat.lt_trichotomy i b with c | c | c
  · rw [Nat.testBit_two_pow_add_gt c]
    exact ⟨.inl, fun z => z.elim id fun y => absurd y (by omega)⟩
  · subst c
    rw [Nat.testBit_two_pow_add_eq, Nat.testBit_lt_two_pow h]
    exact ⟨fun _ => .inr rfl, fun _ => rfl⟩
  · have l : 2 ^ b + a < 2 ^ i := by
      have := Nat.pow_le_pow_right (n := 2) (by decide) (show b + 1 ≤ i from c)
      rw [Nat.pow_succ] at this
      omega
    have l2 : a < 2 ^ i := by omega
    rw [Nat.testBit_lt_two_pow l, Nat.testBit_lt_two_pow l2]
    exact ⟨fun z => (by cases z), fun z => z.elim (fun y => by cases y) fun y => absurd y (by omega)⟩
/-- a sum of unlike powers by its bits -/
theorem sum_bits : ∀ {ps : List Nat} {a : Nat}, (∀ x ∈ ps, ∃ b, x = 2 ^ b ∧ a < 2 ^ b) → ps.Pairwise (· < ·) → ∀ i, (a + ps.sum).testBit i = true ↔ a.testBit i = true ∨ 2 ^ i ∈ ps
  | [], a, _, _, i => by simp
  | x :: ps, a, h, p, i => by
    obtain ⟨b, rfl, hb⟩ := h x (List.mem_cons_self ..)
    obtain ⟨p1, p2⟩ := List.pairwise_cons.mp p
    rw [List.sum_cons, ← Nat.add_assoc, sum_bits (ps := ps) (a := a + 2 ^ b) (fun y hy => ?_) p2 i, bit_add hb, List.mem_cons]
    · constructor
      · rintro ((z | rfl) | z)
        · exact .inl z
        · exact .inr (.inl rfl)
        · exact .inr (.inr z)
      · rintro (z | z | z)
        · exact .inl (.inl z)
        · exact .inl (.inr (pow_inj z))
        · exact .inr z
    · obtain ⟨d, rfl, _⟩ := h y (List.mem_cons_of_mem _ hy)
      refine ⟨d, rfl, ?_⟩
      have lt := p1 _ hy
      have bd : b < d := (Nat.pow_lt_pow_iff_right (by decide)).mp lt
      have := Nat.pow_le_pow_right (n := 2) (by decide) (show b + 1 ≤ d from bd)
      rw [Nat.pow_succ] at this
      omega
section
variable {fr : List T3} {last : Nat} (fm : Frm fr last)
include fm
theorem pln_pos {i : Nat} (hi : i < fr.length) : 0 < pln fr i := by
  have e := List.getElem?_eq_getElem hi
  have p := (pc_len (fm.stp _ (List.mem_of_getElem? e)).2.2.1).1
  unfold pln
  rw [stq_at e]
  omega
theorem firB_bit {g : Int} : ∀ {n : Nat}, n ≤ fr.length → firB fr n g < 2 ^ off fr n ∧ ∀ x, (firB fr n g).testBit x = true ↔ ∃ m, m < n ∧ (stq fr m).1 = g ∧ x = off fr m
  | 0, _ => by
    refine ⟨Nat.two_pow_pos _, fun x => ?_⟩
    show (0 : Nat).testBit x = true ↔ _
    rw [Nat.zero_testBit]
    exact ⟨fun z => (by cases z), fun ⟨m, h, _⟩ => absurd h (by omega)⟩
  | n + 1, h => by
    obtain ⟨l, ih⟩ := firB_bit (g := g) (n := n) (by omega)
    have pp := pln_pos fm (show n < fr.length by omega)
    have lt : 2 ^ (off fr n + 1) ≤ 2 ^ off fr (n + 1) := Nat.pow_le_pow_right (by decide) (by
      show off fr n + 1 ≤ off fr n + pln fr n
      omega)
    rw [Nat.pow_succ] at lt
    show firB fr n g + (if (stq fr n).1 = g then 2 ^ off fr n else 0) < _ ∧ ∀ x, (firB fr n g + (if (stq fr n).1 = g then 2 ^ off fr n else 0)).testBit x = true ↔ _
    by_cases c : (stq fr n).1 = g
    · rw [if_pos c]
      refine ⟨by omega, fun x => ?_⟩
      rw [bit_add l, ih]
      constructor
      · rintro (⟨m, h1, h2, h3⟩ | rfl)
        · exact ⟨m, by omega, h2, h3⟩
        · exact ⟨n, by omega, c, rfl⟩
      · rintro ⟨m, h1, h2, rfl⟩
        rcases Nat.lt_or_ge m n with z | z
        · exact .inl ⟨m, z, h2, rfl⟩
        · have : m = n := by omega
          subst this
          exact .inr rfl
    · rw [if_neg c, Nat.add_zero]
      refine ⟨by omega, fun x => ?_⟩
      rw [ih]
      constructor
      · rintro ⟨m, h1, h2, h3⟩
        exact ⟨m, by omega, h2, h3⟩
      · rintro ⟨m, h1, h2, rfl⟩
        rcases Nat.lt_or_ge m n with z | z
        · exact ⟨m, z, h2, rfl⟩
        · have : m = n := by omega
          subst this
          exact absurd h2 c
omit fm in
theorem allE_up : ∀ n, ((allE fr n).map fun e : En => e.2.1).Pairwise (· < ·) ∧ ∀ x ∈ (allE fr n).map fun e : En => e.2.1, x < 2 ^ off fr n
  | 0 => ⟨.nil, fun x h => by cases h⟩
  | n + 1 => by
    obtain ⟨h1, h2⟩ := allE_up n
    have er : (rowE fr n (pln fr n)).map (fun e : En => e.2.1) = (List.range (pln fr n)).map fun j => 2 ^ (off fr n + j) := by
      unfold rowE
      rw [List.map_map]
      rfl
    show ((allE fr n ++ rowE fr n (pln fr n)).map _).Pairwise _ ∧ ∀ x ∈ (allE fr n ++ rowE fr n (pln fr n)).map _, x < 2 ^ (off fr n + pln fr n)
    rw [List.map_append, er]
    refine ⟨List.pairwise_append.mpr ⟨h1, ?_, fun x hx y hy => ?_⟩, fun x hx => ?_⟩
    · rw [List.pairwise_map]
      exact List.pairwise_lt_range.imp fun z => Nat.pow_lt_pow_right (by decide) (by omega)
    · obtain ⟨j, _, rfl⟩ := List.mem_map.mp hy
      exact Nat.lt_of_lt_of_le (h2 x hx) (Nat.pow_le_pow_right (by decide) (by omega))
    · rcases List.mem_append.mp hx with hx | hx
      · exact Nat.lt_of_lt_of_le (h2 x hx) (Nat.pow_le_pow_right (by decide) (by omega))
      · obtain ⟨j, hj, rfl⟩ := List.mem_map.mp hx
        have := List.mem_range.mp hj
        exact Nat.pow_lt_pow_right (by decide) (by omega)
omit fm in
theorem end_bit {x : Nat} : (endF (esF fr)).testBit x = true ↔ ∃ i j, i < fr.length ∧ j < pln fr i ∧ chr fr i j = 59 ∧ x = off fr i + j := by
  have mem : ∀ y, y ∈ (ofS (esF fr) 59).map (·.1) ↔ ∃ i j, i < fr.length ∧ j < pln fr i ∧ chr fr i j = 59 ∧ y = 2 ^ (off fr i + j) := fun y => by
    rw [List.mem_map]
    constructor
    · rintro ⟨p, hp, rfl⟩
      obtain ⟨i, j, hi, hj, e⟩ := esF_mem.mp (mem_ofS.mp hp)
      exact ⟨i, j, hi, hj, (congrArg Prod.fst e).symm, congrArg (fun z : En => z.2.1) e⟩
    · rintro ⟨i, j, hi, hj, c, rfl⟩
      refine ⟨(2 ^ (off fr i + j), fur fr i j), mem_ofS.mpr (esF_mem.mpr ⟨i, j, hi, hj, by rw [c]⟩), rfl⟩
  have pw : ((ofS (esF fr) 59).map (·.1)).Pairwise (· < ·) := by
    have h := (allE_up (fr := fr) fr.length).1
    unfold ofS
    rw [esF.eq_1 fr]
    rw [List.map_map]
    rw [List.pairwise_map] at h ⊢
    exact h.filter _
  have z := sum_bits (a := 0) (ps := (ofS (esF fr) 59).map (·.1)) (fun y hy => by
    obtain ⟨i, j, _, _, _, rfl⟩ := (mem y).mp hy
    exact ⟨_, rfl, Nat.two_pow_pos _⟩) pw x
  rw [Nat.zero_add, Nat.zero_testBit] at z
  unfold endF
  rw [z]
  constructor
  · rintro (h | h)
    · cases h
    · obtain ⟨i, j, hi, hj, c, e⟩ := (mem _).mp h
      exact ⟨i, j, hi, hj, c, pow_inj e⟩
  · rintro ⟨i, j, hi, hj, c, rfl⟩
    exact .inr ((mem _).mpr ⟨i, j, hi, hj, c, rfl⟩)
end
end K10

set_option Elab.async false
set_option linter.all false
set_option maxRecDepth 100000
set_option maxHeartbeats 4000000
/-! try: .. except (A, B, ..) as e: the caught error is kept as a value behind the suite. Raising an own exception that was made by its own __init__. -/
namespace L2
namespace EV
open PySem PySem.Spec PyProof.Rows _root_.EV
/-- an exception that was caught, at a -/
def exh (cls : Value) (d : Option Addr) (a : Addr) : HO := .ext fun h => ∃ (oe : Obj) (vs : Array Value), h.get? a = some oe ∧ Zc cls d oe ∧ oe.data = .fields vs
theorem exh_ok {P : Program} {w : World} {H : Hp} {h : Heap} {a : Addr} {cls : Value} {d : Option Addr} {oe : Obj} {vs : Array Value} (e : h.get? a = some oe) (z : Zc cls d oe) (hd : oe.data = .fields vs) : ObjOk P w H h a (exh cls d a) :=
  ⟨⟨oe, vs, e, z, hd⟩, ⟨oe, e⟩, fun _ _ ⟨o, v, q, r⟩ k => ⟨o, v, k o q, r⟩⟩
theorem exh_at {P : Program} {w : World} {H : Hp} {h : Heap} {a : Addr} {cls : Value} {d : Option Addr} (hok : HOk P w H h) (e : H a = some (exh cls d a)) : ∃ (oe : Obj) (vs : Array Value), h.get? a = some oe ∧ Zc cls d oe ∧ oe.data = .fields vs := by
  have q : ObjOk P w H h a (.ext fun h => ∃ (oe : Obj) (vs : Array Value), h.get? a = some oe ∧ Zc cls d oe ∧ oe.data = .fields vs) := hok a _ e
  exact q.1
theorem flies_keeps {B : Heap} {l : List Env} {a : Addr} {Z : Obj → Prop} {h h' : Heap} (f : HandSPX.FlyingZ B l a Z h) (k : ∀ b o, h.get? b = some o → h'.get? b = some o) : HandSPX.FlyingZ B l a Z h' := by
  obtain ⟨f1, f2, f3, oe, vs, T, oT, ts, e1, e2, e3, e4, e5, e6, e7, e8, e9⟩ := f
  exact ⟨fun b o q => k b o (f1 b o q), f2, f3.of_keeps fun b o q _ => ⟨o, k b o q, rfl⟩, oe, vs, T, oT, ts, k _ _ e1, e2, e3, e4, e5, e6, k _ _ e7, e8, e9⟩
/-! ### does one of several classes match -/
section
variable {M : Model} {K : PySem.W.Frag} {h : Heap} {cls : Value}
theorem all_cls : ∀ {cs : List Value} {b : Bool}, PySem.W.exmAny K cls cs = some b → ∀ c ∈ cs, ∃ v, PySem.W.exmOne K cls c = some v
  | c :: r, b, e, x, hx => by
    obtain ⟨b1, d1, h1, h2, _⟩ := PySem.W.exmAny_cons e
    rcases List.mem_cons.mp hx with rfl | hx
    · exact ⟨_, h1⟩
    · exact all_cls h2 x hx
section
variable {A : Around} {E : Value → Shared → Prop} {s : Shared}
theorem loop_exc (X : K.In h) (k0 : ∀ b o, h.get? b = some o → s.heap.get? b = some o) {R : PUnit → Shared → Prop} (r : R ⟨⟩ s) : ∀ l : List Value, (∀ c ∈ l, ∃ v, PySem.W.exmOne K cls c = some v) →
    wpAny M A (forIn l PUnit.unit fun c _ => do
        if (!(← isExcClass c)) = true then do
          rule "try.except-non-exception-class"
          raiseErrorWords "TypeError" "catching classes that do not inherit from BaseException is not allowed"
          pure (ForInStep.yield PUnit.unit)
        else pure (ForInStep.yield PUnit.unit)) R E s := by
  intro l
  induction l with
  | nil => exact fun _ => wpAny_pure r
  | cons c l ih =>
    intro hl
    obtain ⟨v, hv⟩ := hl c (List.mem_cons_self ..)
    obtain ⟨i1, _⟩ := PySem.W.exm_cls (M := M) X hv
    rw [List.forIn_cons]
    refine wpAny_bind (wpAny_bind ((i1.keeps k0).here ?_))
    simp only [Bool.not_true, Bool.false_eq_true, if_false]
    exact wpAny_pure (ih fun x hx => hl x (List.mem_cons_of_mem _ hx))
theorem loop_sub (X : K.In h) (k0 : ∀ b o, h.get? b = some o → s.heap.get? b = some o) {R : Option Bool × Unit → Shared → Prop} : ∀ (l : List Value) (b : Bool), PySem.W.exmAny K cls l = some b → R (if b = true then (some true, ()) else (none, ())) s →
    wpAny M A (forIn l ((none, ()) : Option Bool × Unit) fun c _ => do
        if (← isSubtype cls c) = true then pure (ForInStep.done (some true, ())) else pure (ForInStep.yield (none, ()))) R E s := by
  intro l
  induction l with
  | nil =>
    intro b e r
    have : some false = some b := e
    cases this
    exact wpAny_pure r
  | cons c l ih =>
    intro b e r
    obtain ⟨b1, d1, h1, h2, rfl⟩ := PySem.W.exmAny_cons e
    obtain ⟨_, S1⟩ := PySem.W.exm_cls (M := M) X h1
    rw [List.forIn_cons]
    refine wpAny_bind (wpAny_bind ((S1.keeps k0).here ?_))
    cases b1 with
    | true =>
      rw [Bool.true_or] at r
      simp only [if_true]
      exact wpAny_pure (wpAny_pure r)
    | false =>
      rw [Bool.false_or] at r
      simp only [Bool.false_eq_true, if_false]
      exact wpAny_pure (ih _ h2 r)
end
theorem match_list {cs : List Value} {b : Bool} {tp e : Addr} (X : K.In h) (LT : PySem.W.Looks M h (typeOf (.ref e)) cls) (hp : h.get? tp = some { cls := .type "tuple", data := .seq cs.toArray }) (hx : PySem.W.exmAny K cls cs = some b) :
    PySem.W.Looks M h (excMatches (.ref e) (.ref tp)) b := by
  intro A Q E s k0 q
  have L0 : PySem.W.Looks M h (isInstance (.ref tp) (.type "tuple")) true := ((PySem.W.Looks.ld hp).andThen .now).andThen (PySem.W.Looks.of_pure isSubtype_tuple_tuple)
  have hp' := k0 _ _ hp
  unfold excMatches
  refine wpAny_bind ((L0.keeps k0).here ?_)
  rw [if_pos rfl]
  have ec : ((some cs.toArray).getD #[]).toList = cs := by simp
  refine wpAny_bind ?_
  refine wpAny_seqItems hp' rfl ?_
  refine wpAny_bind (wpAny_pure ?_)
  show wpAny _ _ (do
      forIn ((some cs.toArray).getD #[]).toList PUnit.unit _
      _) _ _ _
  rw [ec]
  refine wpAny_bind (loop_exc X k0 ?_ cs (all_cls hx))
  refine wpAny_bind ((LT.keeps k0).here ?_)
  refine wpAny_bind (loop_sub X k0 cs b hx ?_)
  cases b with
  | true => exact wpAny_pure q
  | false => exact wpAny_pure q
end
/-! ### the rule -/
/-- classes by their names -/
inductive ClsL (X : Cx) : List Expr → List Value → Prop
  | nil : ClsL X [] []
  | cons {x : Str} {c : Value} {p : Pos} {es : List Expr} {cs : List Value} : Names X x c → ClsL X es cs → ClsL X (.Name x p :: es) (c :: cs)
theorem ClsL.suite {X : Cx} {a : Addr} {pn : List (Addr × Obj)} : ∀ {es : List Expr} {cs : List Value}, ClsL X es cs → ClsL (X.suite a pn) es cs
  | _, _, .nil => .nil
  | _, _, .cons hc r => .cons (X := X.suite a pn) hc r.suite
theorem cls_read {Y : Cx} {pins : List (Addr × Obj)} {σ : St} {H : Hp} {s : Shared} (I : Inv Y pins σ H s) {pos : Pos} {E : Value → Shared → Prop} : ∀ {es : List Expr} {cs : List Value} {Q : List Value → Shared → Prop}, ClsL Y es cs → Q cs s →
    wpAny (model Y.prog Y.w) Y.A (spliced (backTo pos (starEach es Y.env))) Q E s
  | _, _, _, .nil, q => wpAny_items_nil q
  | _, _, Q, .cons (c := c) (es := es) (cs := cs) hc r, q => wpAny_items_cons (by
      have rest : wpAny (model Y.prog Y.w) Y.A (spliced (backTo pos (starEach es Y.env))) (fun vs s2 => Q (c :: vs) s2) E s := cls_read I r q
      obtain ⟨hg, hd, hm | ⟨hm, hv, hn⟩⟩ := hc
      · exact ld_glob I hg hm rest hd
      · exact ld_blt I hg hm hv rest hn hd)
theorem ClsL.len {X : Cx} : ∀ {es : List Expr} {cs : List Value}, ClsL X es cs → cs.length = es.length
  | _, _, .nil => rfl
  | _, _, .cons _ r => by rw [List.length_cons, List.length_cons, r.len]
/-- what is pinned is tracked from now on -/
theorem inv_hold {X : Cx} {pins : List (Addr × Obj)} {σ : St} {H : Hp} {s : Shared} {a : Addr} {oe : Obj} {vs : Array Value} {cls : Value} {d : Option Addr} (I : Inv X ((a, oe) :: pins) σ H s) (hm : ∀ p, p ∈ (a, oe) :: (X.pn ++ pins) → p ∈ X.pn ++ ((a, oe) :: pins)) (z : Zc cls d oe) (hd : oe.data = .fields vs)
    (n0 : X.s_0.heap.get? a = none) (np : ∀ p ∈ X.pn ++ pins, p.1 ≠ a) : Inv X pins σ (upd H a (exh cls d a)) s := by
  obtain ⟨e, n, ne, nf, dc⟩ := I.pin (a, oe) (hm _ (List.mem_cons_self ..))
  have ne : a ≠ X.env.locals := ne
  have n : H a = none := n
  have old : ∀ b o, X.s_0.heap.get? b = some o → b ≠ a := fun b o q z => by
    rw [z, n0] at q
    cases q
  refine ⟨I.ok, I.os, I.bare, ⟨I.base.keep, I.base.slot, fun b o q m hx => ?_, I.base.there, fun b xs q => ?_, fun b o u q => ?_, fun b ps q => ?_⟩, I.loc, I.cell, ?_, fun x c q => ?_, fun p hp => ?_, ?_, I.len⟩
  · rw [upd_ne (old b o q)]
    exact I.base.free b o q m hx
  · have z := I.base.tups b xs q
    rw [upd_ne (ne_of_none z n)]
    exact z
  · have z := I.base.frzs b o u q
    rw [upd_ne (ne_of_none z n)]
    exact z
  · obtain ⟨m, z⟩ := I.base.tbls b ps q
    exact ⟨m, by rw [upd_ne (ne_of_none z n)]; exact z⟩
  · rw [upd_ne ne.symm]
    exact I.free
  · have nc : c ≠ a := fun z => by
      obtain ⟨v, o, q1, q2⟩ := I.cell x c q
      rw [z] at q1
      have e' : s.heap.get? a = some oe := e
      rw [e'] at q1
      cases q1
      rw [hd] at q2
      cases q2
    rw [upd_ne nc]
    exact I.freeC x c q
  · obtain ⟨e1, e2, e3, e4, e5⟩ := I.pin p (hm p (List.mem_cons_of_mem _ hp))
    exact ⟨e1, by rw [upd_ne (np p hp)]; exact e2, e3, e4, e5⟩
  · exact I.hok.laidN (fun _ _ q => q) n (exh_ok e z hd)
/-- what the clause wishes of an exception of the body: it is of one of the classes; behind the suite it stands at a -/
def wKeep (K : PySem.W.Frag) (n : Nat) (cs : List Value) (i : Nat) (ts : Addr → Value → Option Addr → TS) (D : Ends) : WX := fun cls d σ H => σ.length = n → PySem.W.exmAny K cls cs = some true ∧
  ∀ a, H a = none → ts a cls d { nx := fun σ' H' => D.nx (σ'.set i none) (upd H' a (exh cls d a)), rt := fun _ _ => False } (σ.set i (some (.ref a))) H
section
variable {X : Cx} {n : Str} {cs : List Value} {es : List Expr} {kx i : Nat} {body suite : List Stmt} {b0 : Stmt} {tpos pos hpos : Pos} {tb : WX → TS} {ts : Addr → Value → Option Addr → TS}
theorem ps_try_keep (hs : X.stack = X.env :: X.outer) (hf : X.env.frame = some X.env.locals) (hex : X.ex = []) (hN : X.N.Nodup) (hi : X.N[i]? = some n) (hln : X.env.kindOf n = some .local) (hc : ClsL X es cs) (hl : es.length ≤ 1000)
    (hb : ∀ (W : WX) (pn : List (Addr × Obj)) (xe : Value → Shared → Prop), Takes (X.tr pn xe) W → PassesOwn (model X.prog X.w) X.A X.env xe → PSs (X.tr pn xe) body (tb W))
    (hsu : ∀ (a : Addr) (oe : Obj) (cls : Value) (d : Option Addr) (pn : List (Addr × Obj)), Zc cls d oe → (∃ vs, oe.data = .fields vs) → PSs (X.suite a ((a, oe) :: pn)) (b0 :: suite) (ts a cls d)) :
    PS X (.Try body [.ExceptHandler (some (.Tuple es kx tpos)) (some n) (b0 :: suite) hpos] [] [] pos) (fun D σ H => tb (wKeep X.K X.N.length cs i ts D) D σ H) := by
  refine ⟨fun pins s σ H D I h => ?_⟩
  have ok := I.ok
  have hfr : X.A.frames = some (X.env :: X.outer) := by rw [ok.frames, hs]
  have loc : Loc X.env.scope n := .inl hln
  have B0 := hb (wKeep X.K X.N.length cs i ts D) (X.pn ++ pins) (fun e s1 => wpAny (model X.prog X.w) X.A (noteFrame e X.env) (fun _ s2 => wpAny (model X.prog X.w) X.A (setFlight e none) (fun _ s3 =>
    wpAny (model X.prog X.w) X.A (handleBy e X.env [.ExceptHandler (some (.Tuple es kx tpos)) (some n) (b0 :: suite) hpos]) (SP X pins D) X.xe s3) X.xe s2) X.xe s1)
  refine wpAny_Try_except (wpAny_mono ((B0 (fun u s' caught => ?_) PassesOwn.looking).run [] s σ H D (I.toTry _) h) (fun f s1 went => ?_) fun _ _ z => z)
  · obtain ⟨a, B, sI, pins', σ', H', cls, d, rfl, J', nb, up, sky, na, os, ag, hW⟩ := caught
    obtain ⟨hit, hyes⟩ := hW J'.len
    have J : Inv X pins σ' H' sI := J'.ofTry ok
    show wpAny (model X.prog X.w) X.A (noteFrame (.ref a) X.env) _ _ _
    refine Sky.land Zc.steady hfr hf (by rw [← hs]; exact sky) fun h3 fl3 up3 => ?_
    have J3 : Inv X pins σ' H' { s' with heap := h3 } := J.landed nb fl3.1 (up.trans up3) os ag
    obtain ⟨oe3, vs3, he3, hz3, hd3⟩ := fl3.there
    have nfr : a ∉ frs (X.env :: X.outer) := fun hm => by
      obtain ⟨_, o, q, nd⟩ := fl3.2.2.1.mem hm
      rw [he3] at q
      cases q
      exact nd _ hd3
    have nL : a ≠ X.env.locals := fun z => nfr (List.mem_filterMap.mpr ⟨X.env, List.mem_cons_self, by rw [hf, z]⟩)
    have nF : a ∉ X.fs := fun hm => by
      obtain ⟨e, he, q⟩ := List.mem_filterMap.mp hm
      exact nfr (List.mem_filterMap.mpr ⟨e, List.mem_cons_of_mem _ he, q⟩)
    have nI : sI.heap.get? a = none := by
      cases q : sI.heap.get? a with
      | none => rfl
      | some o =>
        have z := nb a o q (by rw [hs]; exact nfr)
        rw [fl3.2.1] at z
        cases z
    have n0 : X.s_0.heap.get? a = none := by
      cases q : X.s_0.heap.get? a with
      | none => rfl
      | some o =>
        obtain ⟨o', z⟩ := J.base.there a o q (by rw [hex]; exact fun z => nomatch z)
        rw [nI] at z
        cases z
    have np : ∀ p ∈ X.pn ++ pins, p.1 ≠ a := fun p hp z => by
      have q := (J.pin p hp).1
      rw [z, nI] at q
      cases q
    have S3 := J3.suite he3 hd3 na nL nF
    refine wpAny_handleBy_cons (codeAny_handlers_test ?_) (by intro q; cases q)
    refine wpAny_Tuple (cls_read S3 hc.suite ⟨by rw [hc.len, sizeLine_eq]; omega, ?_⟩)
    have k5 : ∀ b o, h3.get? b = some o → (h3.push { cls := .type "tuple", data := .seq cs.toArray }).get? b = some o := fun _ _ z => Heap.get?_push_of_some _ z
    have LT : PySem.W.Looks (model X.prog X.w) (h3.push { cls := .type "tuple", data := .seq cs.toArray }) (typeOf (.ref a)) cls := fun A Q E s k q => wpAny_typeOf_ref (k _ _ (k5 _ _ he3)) (by rw [hz3.1]; exact q)
    refine (match_list (M := model X.prog X.w) (J3.kIn.keeps k5) LT (Heap.get?_push_size h3 rfl) hit).here ?_
    refine codeAny_handlers_suite_as ?_
    refine HandSPX.lands_againZ (flies_keeps fl3 k5) fun h4 fl4 up4 => ?_
    have J4 : Inv X pins σ' H' { s' with heap := h4 } := J.landed nb fl4.1 (((up.trans up3).trans (Heap.UpToSlots.of_keeps k5)).trans up4) os ag
    obtain ⟨oe4, vs4, he4, hz4, hd4⟩ := fl4.there
    have S4 := J4.suite he4 hd4 na nL nF
    refine store_ok (X := X.suite a ((a, oe4) :: (X.pn ++ pins))) (v := .ref a) S4 hN hi loc rfl (fun s5 S5 => ?_) (.inr hln)
    refine wpAny_mono ((hsu a oe4 cls d (X.pn ++ pins) hz4 ⟨_, hd4⟩).run [] s5 _ H' _ S5 (hyes a na)) (fun f s6 hsp => ?_) (fun _ _ z => False.elim z)
    cases f with
    | next =>
      obtain ⟨σ6, H6, S6, q6⟩ := hsp
      have K6 : Inv X ((a, oe4) :: pins) σ6 H6 s6 := ⟨ok, S6.os, S6.bare, S6.base, S6.loc, S6.cell, S6.free, S6.freeC, fun p hp => S6.pin p (by
        show p ∈ ((a, oe4) :: (X.pn ++ pins)) ++ []
        rw [List.append_nil]
        rcases List.mem_append.mp hp with z | z
        · exact List.mem_cons_of_mem _ (List.mem_append_left _ z)
        · rcases List.mem_cons.mp z with z | z
          · rw [z]
            exact List.mem_cons_self ..
          · exact List.mem_cons_of_mem _ (List.mem_append_right _ z)), S6.hok, S6.len⟩
      refine gone_ok K6 hN hi hln fun s7 J7 => ⟨_, _, inv_hold J7 (fun p hp => ?_) hz4 hd4 n0 np, q6⟩
      rcases List.mem_cons.mp hp with z | z
      · rw [z]
        exact List.mem_append_right _ (List.mem_cons_self ..)
      · rcases List.mem_append.mp z with z | z
        · exact List.mem_append_left _ z
        · exact List.mem_append_right _ (List.mem_cons_of_mem _ z)
    | brk =>
      obtain ⟨_, _, _, z⟩ := hsp
      exact False.elim z
    | cont =>
      obtain ⟨_, _, _, z⟩ := hsp
      exact False.elim z
    | ret u =>
      obtain ⟨_, _, _, _, _, z⟩ := hsp
      exact False.elim z
  · cases f with
    | next =>
      obtain ⟨σ', H', J', q⟩ := went
      exact wpAny_execs_nil ⟨σ', H', J'.ofTry ok, q⟩
    | brk =>
      obtain ⟨σ', H', J', q⟩ := went
      exact ⟨σ', H', J'.ofTry ok, q⟩
    | cont =>
      obtain ⟨σ', H', J', q⟩ := went
      exact ⟨σ', H', J'.ofTry ok, q⟩
    | ret u =>
      obtain ⟨v, σ', H', J', r, q⟩ := went
      exact ⟨v, σ', H', J'.ofTry ok, r, q⟩
end
/-! ### raise C(..), C with its own __init__ -/
theorem pmk_own2 {X : Cx} {e : Expr} {te : TE} (hx : X.ex = []) (he : PE X e te) :
    PMk X e (fun σ H Q => te σ H fun x H1 => ∃ (a C : Addr) (od : Option Addr), x = .ref a ∧ H1 a = some (exo a C od) ∧ Fr0 X.H_0 a ∧ Raises X (.ref C) ∧ Q (.ref C) od (delH H1 a)) := by
  intro pins s σ H Q I h
  refine wpAny_mono (he.run pins s σ H _ I h) (fun u s1 hu => ?_) fun _ _ x => x
  obtain ⟨v, H1, I1, r1, a, C, od, rfl, ha, h0, hr, q⟩ := hu
  cases r1
  obtain ⟨t1, ho⟩ := exo_at I1.hok ha
  obtain ⟨G, gs, ga, J⟩ := I1.untrack ha h0 hx
  exact ⟨a, _, _, { s1 with heap := G }, delH H1 a, .ref C, od, rfl, J, gs, ga, ho, ⟨rfl, rfl⟩, rfl, rfl, delH_same, rfl, I1.bare, hr, q⟩
/-! ### isinstance of a caught one -/
def rIsC (K : PySem.W.Frag) : List V → Hp → VK → Prop := fun xs H Q => ∃ (a C : Addr) (B newId initId : String) (bm : List Value) (c : V) (u : Value) (b : Bool),
  xs = [.ref a, c] ∧ ClsV c u ∧ OxC K C B newId initId bm ∧ H a = some (exh (.ref C) none a) ∧ PySem.W.kitOne K (.ref C) u = some b ∧ Q (.bl b) H
theorem call_isC {X : Cx} : CallR X (.builtin "isinstance") (rIsC X.K) := by
  intro pins s σ H xs us Q I r h
  obtain ⟨a, C, B, newId, initId, bm, c, u, b, rfl, k, T, ea, e, q⟩ := h
  obtain ⟨u1, u2, rfl, r1, r2⟩ := vals2 r
  have e2 := k.eq r2
  subst e2
  obtain rfl : u1 = Value.ref a := r1
  obtain ⟨oe, vs, ho, hz, hd⟩ := exh_at I.hok ea
  obtain ⟨cd, hcl, _⟩ := T.data
  have some_ : (PySem.W.clsIn X.K C).isSome = true := by rw [hcl]; rfl
  have J : PySem.W.InstAt s.heap a oe C none := ⟨ho, hz.1, by unfold PySem.W.notCls; rw [hd], by rw [hz.2]; exact trivial⟩
  exact PySem.W.kia_one (PySem.W.kitx_exc some_ T.ga T.gg T.exC T.ca T.cn T.ct T.om) I.kIn J e (fun z => nomatch z) fun tk => ⟨.bl b, H, I.tok tk, rfl, q⟩
end EV
end L2

set_option Elab.async false
set_option linter.all false
set_option maxRecDepth 100000
set_option maxHeartbeats 4000000
/-! t[::-1] of a tuple. -/
namespace L2
namespace EV
open PySem PySem.Spec PyProof.Rows _root_.EV PySem.Builtin
theorem rev_adjust (n : Nat) : Slice.sliceAdjust none none (-1) (n : Int) = ((n : Int) - 1, -1) := by
  unfold Slice.sliceAdjust
  simp
theorem rev_places (n : Nat) : Slice.slicePlaces ((n : Int) - 1) (-1) (-1) = n := by
  unfold Slice.slicePlaces
  rw [if_neg (by decide)]
  by_cases h : 0 < n
  · rw [if_pos (by omega)]
    simp only [Int.neg_neg, Int.ediv_one]
    omega
  · rw [if_neg (by omega)]
    omega
theorem fm_congr {α β : Type} {f g : α → Option β} : ∀ {l : List α}, (∀ x ∈ l, f x = g x) → l.filterMap f = l.filterMap g
  | [], _ => rfl
  | x :: l, h => by
    rw [List.filterMap_cons, List.filterMap_cons, h x (List.mem_cons_self ..), fm_congr fun y hy => h y (List.mem_cons_of_mem _ hy)]
theorem rev_pick (xs : Array Value) : ((List.range xs.size).filterMap fun (k : Nat) => xs[((xs.size : Int) - 1 + (k : Int) * -1).toNat]?) = xs.toList.reverse := by
  have e : ∀ k ∈ List.range xs.size, xs[((xs.size : Int) - 1 + (k : Int) * -1).toNat]? = xs.toList.reverse[k]? := fun k hk => by
    have hk := List.mem_range.mp hk
    have z : ((xs.size : Int) - 1 + (k : Int) * -1).toNat = xs.size - 1 - k := by omega
    rw [z, List.getElem?_reverse (by simpa using hk)]
    simp
  rw [fm_congr e]
  have g : ∀ l : List Value, (List.range l.length).filterMap (fun k => l[k]?) = l := fun l => by
    have z := PySem.W.krv_all l.toArray
    simpa using z
  have z := g xs.toList.reverse
  simpa using z
section
variable {prog : Program} {w : World} {A : Around} {E : Value → Shared → Prop} {s : Shared}
theorem rev_applied {sl : Addr} {vk : Value} {n : Nat} {Q : Int × Int × Nat → Shared → Prop} (hs : s.heap.IsSliceOf sl .none .none vk) (pk : IsPart vk (some (-1))) (h : Q ((n : Int) - 1, -1, n) s) :
    wpAny (model prog w) A (Slice.sliceApplied (.ref sl) (pure (n : Int))) Q E s := by
  obtain ⟨os, hos, _, hds⟩ := id hs
  unfold Slice.sliceApplied Slice.sliceFields
  refine wpAny_bind (wpAny_bind (wpAny_field hos hds (x := .none) rfl (wpAny_bind (wpAny_field hos hds (x := .none) rfl (wpAny_bind (wpAny_field hos hds (x := vk) rfl (wpAny_pure ?_)))))))
  refine wpAny_bind (HT.slicePart_ pk ?_)
  show wpAny _ _ (if ((-1 : Int) == 0) = true then _ else _) _ _ s
  rw [if_neg (by decide)]
  refine wpAny_bind (slicePart_none (wpAny_bind (slicePart_none (wpAny_bind (wpAny_pure ?_)))))
  show wpAny _ _ (match Slice.sliceAdjust none none (-1) (n : Int) with | (lo, hi) => pure (lo, (-1 : Int), Slice.slicePlaces lo hi (-1))) _ _ s
  rw [rev_adjust]
  show wpAny _ _ (pure ((n : Int) - 1, (-1 : Int), Slice.slicePlaces ((n : Int) - 1) (-1) (-1))) _ _ s
  rw [rev_places]
  exact wpAny_pure h
theorem rev_item {t sl : Addr} {items : Array Value} {vk : Value} {Q : Value → Shared → Prop} (ht : IsTup s.heap t items) (hs : s.heap.IsSliceOf sl .none .none vk) (pk : IsPart vk (some (-1))) (hz : items.size ≤ sizeLine)
    (h : Q (.ref s.heap.objs.size) { s with heap := s.heap.push { cls := .type "tuple", data := .seq items.toList.reverse.toArray } }) : wpAny (model prog w) A (getItem (.ref t) (.ref sl)) Q E s := by
  have ok : sizeOk (.seq items.toList.reverse.toArray) := by
    show items.toList.reverse.toArray.size ≤ sizeLine
    rw [List.size_toArray, List.length_reverse, Array.length_toList]
    exact hz
  obtain ⟨os, hos, hcs, _⟩ := id hs
  have hTs : s.TypeIs (.ref sl) "slice" := ⟨os, hos, hcs⟩
  unfold getItem
  try with_reducible refine wpAny_holding ?_
  first | refine wpAny_bind (wpAny_pure ?_) | skip
  refine wpAny_bind (wpAny_sequenceKey ht.typeIs (by decide) ?_)
  refine wpAny_bind (wpAny_callSpecial?_slot (name := Str.ofString "__getitem__") ht.typeIs PyProof.Rows.slot_tuple_getitem (wpAny_call_entry PyProof.Rows.slot_tuple_getitem ht.typeIs entry_tuple_getitem ?_ (args_tuple_getitem _ _)))
  show wpAny _ _ (Tuple.tupleItemsOf (.ref t) >>= _) _ _ s
  refine wpAny_bind (tupleItemsOf_ ht (wpAny_bind (wpAny_typeOf hTs ?_)))
  rw [if_pos (by decide)]
  refine wpAny_bind (rev_applied hs pk ?_)
  show wpAny _ _ (if ((((items.size : Nat) : Int) - 1) == 0 && (-1 : Int) == 1 && items.size == items.size) = true then _ else _) _ _ s
  rw [if_neg (by simp), rev_pick]
  first
    | exact wpAny_bind (m := Tuple.tupleExact _) (wpAny_newObj_type (wpAny_pure ⟨_, rfl, wpAny_pure h⟩) ok)
    | exact wpAny_bind (m := Tuple.tupleExact _) (wpAny_newObj_type (wpAny_bind (wpAny_pure (wpAny_pure ⟨_, rfl, wpAny_pure h⟩))) ok)
    | exact wpAny_bind (wpAny_bind (m := Tuple.tupleExact _) (wpAny_newObj_type (wpAny_pure (wpAny_pure ⟨_, rfl, wpAny_pure h⟩)) ok))
    | exact wpAny_bind (wpAny_bind (m := Tuple.tupleExact _) (wpAny_newObj_type (wpAny_pure ⟨_, rfl, wpAny_pure h⟩) ok))
end
def tRevT (K : PySem.W.Frag) (te tk : TE) : TE := fun σ H Q => te σ H fun x H1 => tPart tk σ H1 fun o H2 => o = some (-1) ∧ ∃ a xs, x = .ref a ∧ H2 a = some (.tup xs) ∧ ∀ p, H2 p = none → Q (.ref p) (upd H2 p (.tup xs.reverse))
theorem vals_revs : ∀ {zs : List V} {ws : List Value}, Vals zs ws → Vals zs.reverse ws.reverse
  | _, _, .nil => .nil
  | _, _, .cons r t => by
    rw [List.reverse_cons, List.reverse_cons]
    exact (vals_revs t).append (.cons r .nil)
section
variable {X : Cx} {e k : Expr} {te tk : TE} {pos p2 : Pos}
theorem pe_revT {ops : Value → Value → List Value} (he : PE X e te) (hk : PE X k tk) (hs : ∀ o i : Value, subscripted (.Slice none none (some k) p2) false o i = operate (ops o i) (getItem o i)) : PE X (.Subscript e (.Slice none none (some k) p2) pos) (tRevT X.K te tk) := by
  refine ⟨fun pins s σ H Q I h => ?_⟩
  refine Subscript_ (thn (he.run pins s σ H _ I h) fun v s1 ⟨x, H1, I1, r1, q1⟩ => ?_)
  refine wpAny_Slice (thn (po_none.run pins s1 σ H1 (fun o H' => o = none ∧ H' = H1) I1 ⟨rfl, rfl⟩) fun vl s2 ⟨l, H2, I2, pl, q2⟩ => thn (po_none.run pins s2 σ H2 (fun o H' => o = none ∧ H' = H2) I2 ⟨rfl, rfl⟩) fun vu s3 ⟨u, H3, I3, pu, q3⟩ => ?_)
  obtain ⟨rfl, rfl⟩ := q2
  obtain ⟨rfl, rfl⟩ := q3
  cases pl
  cases pu
  refine thn ((po_some hk).run pins s3 σ _ _ I3 q1) fun vk s4 ⟨o, H4, I4, pk, ho, a, xs, ex, ea, q4⟩ => ?_
  subst ex ho
  obtain rfl : v = Value.ref a := r1
  have I5 : Inv X pins σ H4 { s4 with heap := s4.heap.push { cls := .type "slice", data := .fields #[.none, .none, vk] } } := I4.kept (t' := s4.toks) fun b ob q => Heap.get?_push_of_some _ q
  obtain ⟨its, r, ht, hz⟩ := I5.tuple (SqT.of ea)
  have hg := rev_item (prog := X.prog) (w := X.w) (A := X.A) (E := X.xe) (Q := EP X pins σ Q) (s := { s4 with heap := s4.heap.push { cls := .type "slice", data := .fields #[.none, .none, vk] } }) ht (Heap.IsSliceOf.new ..) pk (by rw [List.size_toArray, ← r.length]; exact hz) ?_
  · exact tail_any ht.typeIs PyProof.Rows.slot_tuple_getitem.lookup hg (hs _ _)
  · rw [List.toList_toArray]
    have fr : H4 (s4.heap.push { cls := .type "slice", data := .fields #[.none, .none, vk] }).objs.size = none := I5.hok.fresh (Nat.le_refl _)
    refine ⟨.ref (s4.heap.push { cls := .type "slice", data := .fields #[.none, .none, vk] }).objs.size, _, I5.laid (t' := s4.toks) (a := (s4.heap.push { cls := .type "slice", data := .fields #[.none, .none, vk] }).objs.size) (o := .tup xs.reverse)
      (h' := (s4.heap.push { cls := .type "slice", data := .fields #[.none, .none, vk] }).push { cls := .type "tuple", data := .seq its.reverse.toArray }) (fun b o q => Heap.get?_push_of_some _ q) (Nat.le_refl _) ?_, rfl, q4 _ fr⟩
    exact ⟨by rw [List.length_reverse]; exact hz, its.reverse, vals_revs r, ⟨_, Heap.get?_push_size _ rfl, rfl, 0, rfl⟩⟩
end
end EV
end L2

set_option Elab.async false
set_option linter.all false
set_option maxRecDepth 100000
set_option maxHeartbeats 4000000
/-! Pairs of an int and a text: <, <=. Raising an own exception whose __init__ has put fields. -/
namespace L2
open PySem PySem.Spec PyProof.Rows
abbrev IS : Type := Int × Str
def ltIS (a b : IS) : Bool := if a.1 = b.1 then decide (sl a.2 < sl b.2) else decide (a.1 < b.1)
def tIS (a : IS) : HO := .tup [.int a.1, .str a.2]
def rLtIS : R2 := fun x y H Q => ∃ (a b : Addr) (m n : IS), x = .ref a ∧ y = .ref b ∧ H a = some (tIS m) ∧ H b = some (tIS n) ∧ Q (.bl (ltIS m n)) H
def rLeIS : R2 := fun x y H Q => ∃ (a b : Addr) (m n : IS), x = .ref a ∧ y = .ref b ∧ H a = some (tIS m) ∧ H b = some (tIS n) ∧ Q (.bl (!ltIS n m)) H
theorem lexP_lt (m n : IS) : Ob.lexAt (fun j => if j = 0 then m.1 == n.1 else m.2 == n.2) (fun j => if j = 0 then decide (m.1 < n.1) else decide (sl m.2 < sl n.2)) false 0 2 = ltIS m n := by
  obtain ⟨m1, m2⟩ := m
  obtain ⟨n1, n2⟩ := n
  simp only [Ob.lexAt, ltIS]
  by_cases e1 : m1 = n1
  · subst e1
    by_cases e2 : m2 = n2
    · subst e2
      have z : ¬ sl m2 < sl m2 := List.lt_irrefl _
      simp
    · simp [e2]
  · simp [e1]
theorem lexP_le (m n : IS) : Ob.lexAt (fun j => if j = 0 then m.1 == n.1 else m.2 == n.2) (fun j => if j = 0 then decide (m.1 ≤ n.1) else decide (sl m.2 ≤ sl n.2)) true 0 2 = !ltIS n m := by
  obtain ⟨m1, m2⟩ := m
  obtain ⟨n1, n2⟩ := n
  simp only [Ob.lexAt, ltIS]
  by_cases e1 : m1 = n1
  · subst e1
    by_cases e2 : m2 = n2
    · subst e2
      have z : ¬ sl m2 < sl m2 := List.lt_irrefl _
      simp
    · have e2' : ¬ n2 = m2 := fun z => e2 z.symm
      simp only [beq_self_eq_true, if_true, Nat.zero_add, Nat.one_ne_zero, if_false, beq_iff_eq, e2]
      by_cases z : sl m2 ≤ sl n2
      · rw [decide_eq_true z, decide_eq_false (List.not_lt.mpr z)]
        rfl
      · rw [decide_eq_false z, decide_eq_true (List.not_le.mp z)]
        rfl
  · have e1' : ¬ n1 = m1 := fun z => e1 z.symm
    simp only [if_true, beq_iff_eq, e1, e1', if_false]
    by_cases z : m1 ≤ n1
    · rw [decide_eq_true z, decide_eq_false (by omega)]
      rfl
    · rw [decide_eq_false z, decide_eq_true (by omega)]
      rfl
theorem lt_strR {A : Around} {s : Shared} (a b : Str) (t u : Tok) : Ob.RcOp .Lt A s (.str a t) (.str b u) (decide (sl a < sl b)) := fun _ _ _ _ h => PyProof.Rows.lt_str h
section
variable {X : Cx}
theorem vals_2 {x y : V} {us : List Value} (r : Vals [x, y] us) : ∃ u w', us = [u, w'] ∧ RelV x u ∧ RelV y w' := by
  cases r with
  | cons r1 r =>
    cases r with
    | cons r2 r =>
      cases r
      exact ⟨_, _, rfl, r1, r2⟩
theorem op_ltIS (hu : X.A.units < cLine) : OpR X (compareOp .Lt) rLtIS := by
  intro pins s σ H x y v u Q I rx ry h
  obtain ⟨a, b, m, n, rfl, rfl, ha, hb, q⟩ := h
  cases rx
  cases ry
  obtain ⟨its, r1, p1, _⟩ := I.tuple (SqT.of ha)
  obtain ⟨its2, r2, p2, _⟩ := I.tuple (SqT.of hb)
  obtain ⟨u1, u2, rfl, ⟨t1, rfl⟩, ⟨t2, rfl⟩⟩ := vals_2 r1
  obtain ⟨v1, v2, rfl, ⟨w1, rfl⟩, ⟨w2, rfl⟩⟩ := vals_2 r2
  have R := Ob.RcOp.tuples_lt (A := X.A) (s := s) (e := fun j => if j = 0 then m.1 == n.1 else m.2 == n.2) (r := fun j => if j = 0 then decide (m.1 < n.1) else decide (sl m.2 < sl n.2)) p1 p2 hu
    (fun j h1 h2 => by
      match j, h1 with
      | 0, _ => exact SeqAt.EqAt.int_int _ _ _ _
      | 1, _ => exact SeqAt.EqAt.str_str _ _ _ _)
    (fun j h1 h2 _ => by
      match j, h1 with
      | 0, _ => exact Ob.RcOp.lt_int _ _ _ _
      | 1, _ => exact lt_strR _ _ _ _)
  have e3 : Ob.lexAt (fun j => if j = 0 then m.1 == n.1 else m.2 == n.2) (fun j => if j = 0 then decide (m.1 < n.1) else decide (sl m.2 < sl n.2)) (decide (2 < 2)) 0 (min 2 2) = ltIS m n := lexP_lt m n
  have z : wpAny (model X.prog X.w) X.A (compareOp .Lt (.ref a) (.ref b)) (EP X pins σ Q) X.xe s := R X.prog X.w X.xe (EP X pins σ Q) ⟨.bl _, H, I, rfl, by
    rw [← e3] at q
    exact q⟩
  exact z
theorem op_leIS (hu : X.A.units < cLine) : OpR X (compareOp .LtE) rLeIS := by
  intro pins s σ H x y v u Q I rx ry h
  obtain ⟨a, b, m, n, rfl, rfl, ha, hb, q⟩ := h
  cases rx
  cases ry
  obtain ⟨its, r1, p1, _⟩ := I.tuple (SqT.of ha)
  obtain ⟨its2, r2, p2, _⟩ := I.tuple (SqT.of hb)
  obtain ⟨u1, u2, rfl, ⟨t1, rfl⟩, ⟨t2, rfl⟩⟩ := vals_2 r1
  obtain ⟨v1, v2, rfl, ⟨w1, rfl⟩, ⟨w2, rfl⟩⟩ := vals_2 r2
  have R := Ob.RcOp.tuples_le (A := X.A) (s := s) (e := fun j => if j = 0 then m.1 == n.1 else m.2 == n.2) (r := fun j => if j = 0 then decide (m.1 ≤ n.1) else decide (sl m.2 ≤ sl n.2)) p1 p2 hu
    (fun j h1 h2 => by
      match j, h1 with
      | 0, _ => exact SeqAt.EqAt.int_int _ _ _ _
      | 1, _ => exact SeqAt.EqAt.str_str _ _ _ _)
    (fun j h1 h2 _ => by
      match j, h1 with
      | 0, _ => exact Ob.RcOp.le_int _ _ _ _
      | 1, _ => exact RcOp.le_str _ _ _ _)
  have e3 : Ob.lexAt (fun j => if j = 0 then m.1 == n.1 else m.2 == n.2) (fun j => if j = 0 then decide (m.1 ≤ n.1) else decide (sl m.2 ≤ sl n.2)) (decide (2 ≤ 2)) 0 (min 2 2) = !ltIS n m := lexP_le m n
  have z : wpAny (model X.prog X.w) X.A (compareOp .LtE (.ref a) (.ref b)) (EP X pins σ Q) X.xe s := R X.prog X.w X.xe (EP X pins σ Q) ⟨.bl _, H, I, rfl, by
    rw [← e3] at q
    exact q⟩
  exact z
end
namespace EV
/-- an exception's fields, told as those of one that flies -/
theorem exd_told {X : Cx} {pins : List (Addr × Obj)} {σ : L2.St} {H : Hp} {s : Shared} {d : Addr} {fs : List (Str × V)} (I : Inv X pins σ H s) (e : H d = some (exd d fs)) : Inv X pins σ (upd H d (.xd fs)) s := by
  obtain ⟨mA, hns, rel⟩ := exd_at I.hok e
  obtain ⟨od, ho, _⟩ := lookIn_ns hns
  exact I.write (h' := s.heap) (t' := s.toks) (x := d) (e := d) (o := .xd fs) (by rw [e]; exact True.intro) (.inl rfl) (fun b u _ q => q) (by
    obtain ⟨o, es, ep, e1, _⟩ := hns
    exact ⟨_, e1⟩) ⟨mA, hns, rel⟩
theorem pmk_own3 {X : Cx} {e : Expr} {te : TE} (hx : X.ex = []) (he : PE X e te) :
    PMk X e (fun σ H Q => te σ H fun x H1 => ∃ (a C d : Addr) (fs : List (Str × V)), x = .ref a ∧ H1 a = some (exo a C (some d)) ∧ d ≠ a ∧ H1 d = some (exd d fs) ∧ Fr0 X.H_0 a ∧ Raises X (.ref C) ∧ Q (.ref C) (some d) (upd (delH H1 a) d (.xd fs))) := by
  intro pins s σ H Q I h
  refine wpAny_mono (he.run pins s σ H _ I h) (fun u s1 hu => ?_) fun _ _ x => x
  obtain ⟨v, H1, I1, r1, a, C, d, fs, rfl, ha, nda, hd, h0, hr, q⟩ := hu
  cases r1
  obtain ⟨t1, ho⟩ := exo_at I1.hok ha
  obtain ⟨G, gs, ga, J⟩ := I1.untrack ha h0 hx
  have hd' : delH H1 a d = some (exd d fs) := by
    rw [delH_ne nda]
    exact hd
  have J2 := exd_told J hd'
  have na : upd (delH H1 a) d (.xd fs) a = none := by
    rw [upd_ne nda.symm]
    exact delH_same
  exact ⟨a, _, _, { s1 with heap := G }, _, .ref C, some d, rfl, J2, gs, ga, ho, ⟨rfl, rfl⟩, rfl, rfl, na, rfl, I1.bare, hr, q⟩
end EV
end L2

set_option Elab.async false
set_option linter.all false
set_option maxRecDepth 100000
set_option maxHeartbeats 4000000
/-! Data of any form; is_number of it. -/
namespace L2
open PySem PySem.Spec PyProof.Rows
/-- t[lo:hi]: somewhere, all else stays -/
def rSlW (K : PySem.W.Frag) : V → Option Int → Option Int → Hp → VK → Prop := fun x lo hi H Q => ∃ a xs, x = .ref a ∧ H a = some (.tup xs) ∧ ∀ p H', Same H H' → H' p = some (.tup (cutV xs lo hi)) → Q (.ref p) H'
theorem sl_tupS {X : Cx} : SlR X (rSlW X.K) := by
  intro pins s σ H x v vl vu lo hi sl Q I rx hs pl pu h
  obtain ⟨a, xs, rfl, ha, q⟩ := h
  refine sl_tupA pins s σ H _ v vl vu lo hi sl Q I rx hs pl pu ⟨a, xs, rfl, SqT.of ha, fun z => ?_, fun _ p hp => q p _ (K10.same_upd hp) upd_same⟩
  refine q a H (fun _ _ e => e) ?_
  rw [ha]
  unfold cutV
  rw [z.1, z.2]
  simp
end L2
namespace K10
open PySem L2 L2.EV
theorem cutTo {xs : List V} {n : Nat} : cutV xs none (some (n : Int)) = xs.take n := by
  unfold cutV
  rw [HT.sIx_nat, HT.sIx_none, List.drop_zero, Nat.sub_zero]
  by_cases h : n ≤ xs.length
  · rw [Nat.min_eq_left h]
  · rw [Nat.min_eq_right (by omega), List.take_of_length_le (Nat.le_refl _), List.take_of_length_le (by omega)]
theorem cutFrom {xs : List V} {n : Nat} : cutV xs (some (n : Int)) none = xs.drop n := by
  unfold cutV
  rw [HT.sIx_nat, HT.sIx_none]
  by_cases h : n ≤ xs.length
  · rw [Nat.min_eq_left h]
    exact List.take_of_length_le (by rw [List.length_drop]; omega)
  · rw [Nat.min_eq_right (by omega), List.drop_of_length_le (Nat.le_refl _), List.drop_of_length_le (by omega)]
    simp
mutual
/-- v stands for d, all of its lists and tuples tracked -/
inductive Da (H : Hp) : V → PyData → Prop
  | non : Da H .non .none
  | bl (b : Bool) : Da H (.bl b) (.bool b)
  | int (i : Int) : Da H (.int i) (.int i)
  | str (x : Str) : Da H (.str x) (.str x)
  | lst {a : Addr} {xs : List V} {ds : List PyData} : H a = some (.lst xs) → DaAll H xs ds → Da H (.ref a) (.list ds)
  | tup {a : Addr} {xs : List V} {ds : List PyData} : H a = some (.tup xs) → DaAll H xs ds → Da H (.ref a) (.tuple ds)
inductive DaAll (H : Hp) : List V → List PyData → Prop
  | nil : DaAll H [] []
  | cons {v : V} {vs : List V} {d : PyData} {ds : List PyData} : Da H v d → DaAll H vs ds → DaAll H (v :: vs) (d :: ds)
end
mutual
theorem Da.same {H H' : Hp} (s : Same H H') : ∀ (d : PyData) (v : V), Da H v d → Da H' v d
  | .none, _, h => by cases h; exact .non
  | .bool b, _, h => by cases h; exact .bl b
  | .int i, _, h => by cases h; exact .int i
  | .str x, _, h => by cases h; exact .str x
  | .list ds, _, h => by
    cases h with
    | lst e ha => exact .lst (s _ _ e) (DaAll.same s ds _ ha)
  | .tuple ds, _, h => by
    cases h with
    | tup e ha => exact .tup (s _ _ e) (DaAll.same s ds _ ha)
  | .dict _, _, h => by cases h
theorem DaAll.same {H H' : Hp} (s : Same H H') : ∀ (ds : List PyData) (vs : List V), DaAll H vs ds → DaAll H' vs ds
  | [], _, h => by cases h; exact .nil
  | d :: ds, _, h => by
    cases h with
    | cons h1 h2 => exact .cons (Da.same s d _ h1) (DaAll.same s ds _ h2)
end
mutual
theorem Da.dp {K : PySem.W.Frag} {H : Hp} : ∀ (d : PyData) (v : V), Da H v d → Dp K H v d
  | .none, _, h => by cases h; exact .non
  | .bool b, _, h => by cases h; exact .bl b
  | .int i, _, h => by cases h; exact .int i
  | .str x, _, h => by cases h; exact .str x
  | .list ds, _, h => by
    cases h with
    | lst e ha => exact .lst (SqL.of e) (DaAll.dp ds _ ha)
  | .tuple ds, _, h => by
    cases h with
    | tup e ha => exact .tup (SqT.of e) (DaAll.dp ds _ ha)
  | .dict _, _, h => by cases h
theorem DaAll.dp {K : PySem.W.Frag} {H : Hp} : ∀ (ds : List PyData) (vs : List V), DaAll H vs ds → DpAll K H vs ds
  | [], _, h => by cases h; exact .nil
  | d :: ds, _, h => by
    cases h with
    | cons h1 h2 => exact .cons (Da.dp d _ h1) (DaAll.dp ds _ h2)
end
theorem DaAll.len {H : Hp} : ∀ {vs : List V} {ds : List PyData}, DaAll H vs ds → vs.length = ds.length
  | _, _, .nil => rfl
  | _, _, .cons _ t => by rw [List.length_cons, List.length_cons, t.len]
theorem DaAll.at_ {H : Hp} : ∀ {vs : List V} {ds : List PyData} {i : Nat} {v : V}, DaAll H vs ds → vs[i]? = some v → ∃ d, ds[i]? = some d ∧ Da H v d
  | _, _, 0, _, .cons h _, e => by
    cases e
    exact ⟨_, rfl, h⟩
  | _, _, i + 1, _, .cons _ t, e => t.at_ (i := i) (by simpa using e)
  | _, _, _, _, .nil, e => by simp at e
theorem DaAll.at' {H : Hp} : ∀ {vs : List V} {ds : List PyData} {i : Nat} {d : PyData}, DaAll H vs ds → ds[i]? = some d → ∃ v, vs[i]? = some v ∧ Da H v d
  | _, _, 0, _, .cons h _, e => by
    cases e
    exact ⟨_, rfl, h⟩
  | _, _, i + 1, _, .cons _ t, e => t.at' (i := i) (by simpa using e)
  | _, _, _, _, .nil, e => by simp at e
theorem DaAll.app {H : Hp} : ∀ {vs ws : List V} {ds es : List PyData}, DaAll H vs ds → DaAll H ws es → DaAll H (vs ++ ws) (ds ++ es)
  | _, _, _, _, .nil, q => q
  | _, _, _, _, .cons h t, q => .cons h (t.app q)
theorem DaAll.drop {H : Hp} : ∀ {vs : List V} {ds : List PyData} (n : Nat), DaAll H vs ds → DaAll H (vs.drop n) (ds.drop n)
  | _, _, 0, h => h
  | _, _, n + 1, .nil => .nil
  | _, _, n + 1, .cons _ t => t.drop n
theorem DaAll.take {H : Hp} : ∀ {vs : List V} {ds : List PyData} (n : Nat), DaAll H vs ds → DaAll H (vs.take n) (ds.take n)
  | _, _, 0, h => .nil
  | _, _, n + 1, .nil => .nil
  | _, _, n + 1, .cons h t => .cons h (t.take n)
theorem DaAll.rev {H : Hp} : ∀ {vs : List V} {ds : List PyData}, DaAll H vs ds → DaAll H vs.reverse ds.reverse
  | _, _, .nil => .nil
  | _, _, .cons h t => by
    rw [List.reverse_cons, List.reverse_cons]
    exact t.rev.app (.cons h .nil)
/-! ### of which type -/
def isTup : PyData → Bool
  | .tuple _ => true
  | _ => false
def isInt : PyData → Bool
  | .int _ => true
  | .bool _ => true
  | _ => false
def isBl : PyData → Bool
  | .bool _ => true
  | _ => false
theorem Da.ty {K : PySem.W.Frag} {H : Hp} {v : V} {d : PyData} (h : Da H v d) : ∃ t : Value, TyX K H v t ∧ PySem.W.kitOne K t (.type "tuple") = some (isTup d) ∧ PySem.W.kitOne K t (.type "int") = some (isInt d) ∧ PySem.W.kitOne K t (.type "bool") = some (isBl d) := by
  cases h with
  | non => exact ⟨_, .base .non, kit_ty (r := false) (by decide +kernel), kit_ty (r := false) (by decide +kernel), kit_ty (r := false) (by decide +kernel)⟩
  | bl b => exact ⟨_, .base (.bl b), kit_ty (r := false) (by decide +kernel), kit_ty (r := true) (by decide +kernel), kit_ty (r := true) (by decide +kernel)⟩
  | int i => exact ⟨_, .base (.int i), kit_ty (r := false) (by decide +kernel), kit_ty (r := true) (by decide +kernel), kit_ty (r := false) (by decide +kernel)⟩
  | str x => exact ⟨_, .base (.str x), kit_ty (r := false) (by decide +kernel), kit_ty (r := false) (by decide +kernel), kit_ty (r := false) (by decide +kernel)⟩
  | lst e _ => exact ⟨_, .base (.lst e), kit_ty (r := false) (by decide +kernel), kit_ty (r := false) (by decide +kernel), kit_ty (r := false) (by decide +kernel)⟩
  | tup e _ => exact ⟨_, .base (.tup e), kit_ty (r := true) (by decide +kernel), kit_ty (r := false) (by decide +kernel), kit_ty (r := false) (by decide +kernel)⟩
/-! ### numbers, entries -/
def numD (m : Int) : PyData → Option Int
  | .int i => if 0 ≤ i ∧ i < m then some i else none
  | _ => none
theorem numD_some {m i : Int} {d : PyData} (h : numD m d = some i) : d = .int i ∧ 0 ≤ i ∧ i < m := by
  cases d with
  | int j =>
    have h : (if 0 ≤ j ∧ j < m then some j else none) = some i := h
    by_cases c : 0 ≤ j ∧ j < m
    · rw [if_pos c] at h
      cases h
      exact ⟨rfl, c⟩
    · rw [if_neg c] at h
      cases h
  | _ => cases h
def spNumD : Sp := fun vs H Q _ => ∃ (v : V) (d : PyData) (m : Int), vs = [v, .int m] ∧ Da H v d ∧ Q (.bl (numD m d).isSome) H
section
variable {P : Program} {w : World} {K : PySem.W.Frag} {mg : Str → Option Value} {base : Heap}
theorem ok_numD {f : Addr} {fd : FuncData} (F : Fun K "is_number" "is_number" sNum f fd) (T : TxtF mg) : FnOk P w K mg base CX0 1 f fd ["thing", "many"] spNumD := by
  refine F.ok scNum (fun vs H Q E h => ?_) (fun cdv A outer s H vs Q E hr h => ?_)
  · obtain ⟨v, d, m, rfl, _⟩ := h
    rfl
  · obtain ⟨v, d, m, rfl, da, q⟩ := h
    refine ⟨_, pss_one (ps_ret (pe_and (pe_callB call_isi (by rfl) T.isi PyProof.Rows.boot_isinstance (pa_cons (pv 0) (pa_cons (pe_bltn (v := .ty "int") (by rfl) T.int (by decide +kernel) rfl) pa_nil)))
      (pe_and (pe_not (pe_callB call_isi (by rfl) T.isi PyProof.Rows.boot_isinstance (pa_cons (pv 0) (pa_cons (pe_bltn (v := .ty "bool") (by rfl) T.bool (by decide +kernel) rfl) pa_nil))))
        (pe_one (pe_chain op_le op_lt pe_int (pv 0) (pv 1)))))), ?_⟩
    obtain ⟨t, ty, _, ki, kb⟩ := da.ty (K := K)
    refine ⟨_, rfl, v, .ty "int", t, .type "int", isInt d, rfl, .ty "int", ty, ki, isInt d, rfl, ?_⟩
    cases da with
    | int n =>
      refine iteT ?_
      refine ⟨_, rfl, .int n, .ty "bool", t, .type "bool", false, rfl, .ty "bool", ty, kb, false, rfl, true, rfl, iteT ?_⟩
      refine ⟨_, rfl, 0, n, rfl, rfl, _, rfl, ?_⟩
      have q : Q (.bl (if 0 ≤ n ∧ n < m then some n else none).isSome) H := q
      refine ite2 (fun z => ?_) (fun z => ?_)
      · have z1 : 0 ≤ n := of_decide_eq_true z
        refine ⟨_, rfl, n, m, rfl, rfl, ?_⟩
        by_cases c : n < m
        · rw [if_pos ⟨z1, c⟩] at q
          show Q (.bl (decide (n < m))) H
          rw [decide_eq_true c]
          exact q
        · rw [if_neg (fun k => c k.2)] at q
          show Q (.bl (decide (n < m))) H
          rw [decide_eq_false c]
          exact q
      · have z1 : ¬ 0 ≤ n := fun k => z (decide_eq_true k)
        rw [if_neg (fun k => z1 k.1)] at q
        exact q
    | bl b =>
      refine iteT ?_
      exact ⟨_, rfl, .bl b, .ty "bool", t, .type "bool", true, rfl, .ty "bool", ty, kb, true, rfl, false, rfl, iteF q⟩
    | non => exact iteF q
    | str x => exact iteF q
    | lst e h => exact iteF q
    | tup e h => exact iteF q
end
end K10

set_option Elab.async false
set_option linter.all false
set_option maxRecDepth 100000
set_option maxHeartbeats 4000000
/-! BadReader; is_rule of any data. -/
namespace K10
open PySem L2 L2.EV
def spTwo (C : Addr) (f g : Str) : Sp := fun vs H Q _ => ∃ (a : Addr) (x y : V), vs = [.ref a, x, y] ∧ H a = some (exo a C none) ∧
  ∀ dx, H dx = none → dx ≠ a → Q .non (upd (upd (upd H dx (exd dx [(f, x)])) a (exo a C (some dx))) dx (exd dx [(g, y), (f, x)]))
/-- what is asked of a built-in base, for B.__init__(self, ..) -/
structure BI (K : PySem.W.Frag) (mg : Str → Option Value) (nB : Str) (B initId : String) : Prop where
  mg : mg nB = none
  bt : bootBuiltins nB = some (.type B)
  ty : typeOf (.type B) = pure (.type "type")
  vV : PySem.W.findCls K (.type B) (.type "type") "__init__" = some (.val (.builtin initId))
  st : Manifest.isStub B = false
def gP : List Value → List Value → List Value := fun us _ => us
def vP : List V → List V → List V := fun vs _ => vs
theorem kb_pos {K : PySem.W.Frag} {fd : FuncData} {ps : List Str} {n : Nat} (b : Binds K fd ps []) (hn : ps.length = n) : KBn K fd ps n [] gP vP := by
  refine ⟨fun s us ws X l1 l2 => ?_, fun r _ => r⟩
  have z := b s us X (by rw [List.append_nil, l1, hn])
  rw [List.append_nil] at z
  exact z
abbrev bmVE : List Value := [.type "ValueError", .type "Exception", .type "BaseException", .type "object"]
section
variable {P : Program} {w : World} {K : PySem.W.Frag} {mg : Str → Option Value} {base : Heap}
abbrev sBadReader : Stmt := inClass (top 3) 0
theorem scBadReader : FnScope ["self", "part", "number"] ["self", "part", "number"] (defScope sBadReader) := ⟨rfl, rfl, rfl, by decide +kernel, rfl, by decide +kernel, by decide +kernel⟩
theorem ok_BadReader {f C : Addr} {fd : FuncData} (F : Fun K "__init__" "BadReader.__init__" sBadReader f fd) (T : OxC K C "ValueError" "ValueError.__new__" "ValueError.__init__" [.type "ValueError", .type "Exception", .type "BaseException", .type "object"]) (I : BI K mg "ValueError" "ValueError" "ValueError.__init__")
    (n0 : PySem.W.findIn K (.ref C) "part" = some none) (n1 : PySem.W.findIn K (.ref C) "number" = some none) : FnOk P w K mg base CX0 1 f fd ["self", "part", "number"] (spTwo C "part" "number") := by
  refine F.ok scBadReader (fun vs H Q E h => ?_) (fun cdv A outer s H vs Q E hr h => ?_)
  · obtain ⟨a, x, y, rfl, _⟩ := h
    rfl
  · obtain ⟨a, x, y, rfl, e, q⟩ := h
    refine ⟨_, pss_cons (ps_expr (pe_bin (newId := "ValueError.__new__") (bm := [.type "ValueError", .type "Exception", .type "BaseException", .type "object"]) (by rfl) I.mg I.bt I.ty I.vV I.st (pa_cons (pv 0) (pa_cons pe_str pa_nil)) rfl)) (pss_cons (ps_put (B := "ValueError") (newId := "ValueError.__new__") (initId := "ValueError.__init__") (bm := [.type "ValueError", .type "Exception", .type "BaseException", .type "object"]) (pv 0) (pv 1) rfl) (pss_one (ps_put (B := "ValueError") (newId := "ValueError.__new__") (initId := "ValueError.__init__") (bm := [.type "ValueError", .type "Exception", .type "BaseException", .type "object"]) (pv 0) (pv 2) rfl))), ?_⟩
    exact ⟨_, rfl, a, C, _, rfl, by decide, T, e, _, rfl, _, rfl, a, C, rfl, T, n0, .inl ⟨e, fun dx hn ne => ⟨_, rfl, _, rfl, a, C, rfl, T, n1, .inr ⟨dx, _, upd_same, by rw [upd_ne ne]; exact upd_same, by show 1 ≤ 900; decide, q dx hn ne⟩⟩⟩⟩
end
/-- what is known of BadReader -/
structure Brd (K : PySem.W.Frag) (mg : Str → Option Value) where
  C : Addr
  f : Addr
  d : FuncData
  T : OxC K C "ValueError" "ValueError.__new__" "ValueError.__init__" bmVE
  I : BI K mg "ValueError" "ValueError" "ValueError.__init__"
  F : Fun K "__init__" "BadReader.__init__" sBadReader f d
  b : Binds K d ["self", "part", "number"] []
  m : mg "BadReader" = some (.ref C)
  iC : PySem.W.findIn K (.ref C) "__init__" = some (some (.ref f))
  tI : PySem.W.typeIn K (.ref f) = some (.type "function")
  n0 : PySem.W.findIn K (.ref C) "part" = some none
  n1 : PySem.W.findIn K (.ref C) "number" = some none
  su : PySem.W.subIn K (.ref C) (.type "BaseException") = some true
  ty : PySem.W.typeIn K (.ref C) = some (.type "type")
  own : PySem.W.subIn K (.ref C) (.ref C) = some true
theorem same_none {H H' : Hp} {a : Addr} (s : Same H H') (n : H' a = none) : H a = none := by
  cases e : H a with
  | none => rfl
  | some o =>
    rw [s _ _ e] at n
    cases n
def isSt : PyData → Bool
  | .str _ => true
  | _ => false
theorem Da.tyS {K : PySem.W.Frag} {H : Hp} {v : V} {d : PyData} (h : Da H v d) : ∃ t : Value, TyX K H v t ∧ PySem.W.kitOne K t (.type "str") = some (isSt d) := by
  cases h with
  | non => exact ⟨_, .base .non, kit_ty (r := false) (by decide +kernel)⟩
  | bl b => exact ⟨_, .base (.bl b), kit_ty (r := false) (by decide +kernel)⟩
  | int i => exact ⟨_, .base (.int i), kit_ty (r := false) (by decide +kernel)⟩
  | str x => exact ⟨_, .base (.str x), kit_ty (r := true) (by decide +kernel)⟩
  | lst e _ => exact ⟨_, .base (.lst e), kit_ty (r := false) (by decide +kernel)⟩
  | tup e _ => exact ⟨_, .base (.tup e), kit_ty (r := false) (by decide +kernel)⟩
abbrev sRule : Stmt := top 32
/-- one sign -/
def signD (x : Str) : Bool := decide (x.length = 1) && decide (∀ c ∈ sl x, c ∈ sgs)
def ruleD : PyData → Option T3
  | .tuple [a, .str x, b] => match numD 200 a, numD 200 b with
    | some i, some j => if signD x = true then some (i, x, j) else none
    | _, _ => none
  | _ => none
theorem one_sign {x : Str} (h : x.length = 1) : ∃ c : Nat, x = ⟨#[c]⟩ := by
  obtain ⟨xs⟩ := x
  have h : xs.size = 1 := h
  refine ⟨xs[0], ?_⟩
  congr 1
  refine Array.ext (by simp [h]) fun i h1 h2 => ?_
  have : i = 0 := by omega
  subst this
  rfl
theorem signD_one {c : Nat} : signD ⟨#[c]⟩ = decide (c ∈ sgs) := by
  unfold signD
  have e : (⟨#[c]⟩ : Str).length = 1 := rfl
  have e2 : sl ⟨#[c]⟩ = [c] := rfl
  rw [decide_eq_true e, e2]
  simp
/-- a rule's sign is no long text -/
def szS (d : PyData) : Prop := ∀ a x b, d = .tuple [a, .str x, b] → x.length ≤ 1000
def spRule : Sp := fun vs H Q _ => ∃ (v : V) (d : PyData), vs = [v] ∧ Da H v d ∧ szS d ∧ Q (.bl (ruleD d).isSome) H
structure Rs (K : PySem.W.Frag) (mg : Str → Option Value) where
  Z : Fs K mg
  B : Brd K mg
  fU : Addr
  dU : FuncData
  U : Fun K "is_rule" "is_rule" sRule fU dU
  bU : Binds K dU ["thing"] []
  mU : mg "is_rule" = some (.ref fU)
  states : ∃ t, mg "MOST_STATES" = some (.int 200 t)
section
variable {P : Program} {w : World} {K : PySem.W.Frag} {mg : Str → Option Value} {base : Heap}
theorem scRule : FnScope ["thing", "state", "sign", "goal"] ["thing"] (defScope sRule) := ⟨rfl, rfl, rfl, by decide +kernel, rfl, by decide +kernel, by decide +kernel⟩
theorem ok_rule (R : Rs K mg) : FnOk P w K mg base CX0 2 R.fU R.dU ["thing"] spRule := by
  have GN : FnOk P w K mg base CX0 1 R.Z.fN R.Z.dN ["thing", "many"] spNumD := ok_numD R.Z.N R.Z.T
  refine R.U.ok scRule (fun vs H Q E h => ?_) (fun cdv A outer s H vs Q E hr h => ?_)
  · obtain ⟨v, d, rfl, _⟩ := h
    rfl
  · obtain ⟨v, d, rfl, da, sz, q⟩ := h
    obtain ⟨tm, eM⟩ := R.states
    obtain ⟨ts, eS⟩ := R.Z.T.signs
    refine ⟨_, pss_cons (ps_if (pw_or (pt_not (pt_val (pe_callB call_isi (by rfl) R.Z.T.isi PyProof.Rows.boot_isinstance (pa_cons (pv 0) (pa_cons (pe_bltn (v := .ty "tuple") (by rfl) R.Z.T.tuple (by decide +kernel) rfl) pa_nil)))))
        (pw_or1 (pt_cmpR op_ne (pe_callB call_len_seq (by rfl) R.Z.T.len PySem.boot_len (pa_cons (pv 0) pa_nil)) pe_int (nomark _)))).pt
        (pss_one (ps_ret pe_bl)) pss_nil)
      (pss_cons (ps_asg (pv 0) (pg_tup rfl (pgs_cons (pg_name (i := 1) scRule.nd rfl (Or.inl rfl)) (pgs_cons (pg_name (i := 2) scRule.nd rfl (Or.inl rfl)) (pgs_cons (pg_name (i := 3) scRule.nd rfl (Or.inl rfl)) pgs_nil)))))
      (pss_cons (ps_if (pw_or (pt_not (pt_val (pe_call GN hr (by rfl) R.Z.mN R.Z.N.kp R.Z.bN .nil pass0 (pa_cons (pv 1) (pa_cons (pe_glob (v := .int 200) (by rfl) eM ⟨_, rfl⟩) pa_nil)))))
        (pw_or1 (pt_not (pt_val (pe_call GN hr (by rfl) R.Z.mN R.Z.N.kp R.Z.bN .nil pass0 (pa_cons (pv 3) (pa_cons (pe_glob (v := .int 200) (by rfl) eM ⟨_, rfl⟩) pa_nil))))))).pt
        (pss_one (ps_ret pe_bl)) pss_nil)
      (pss_one (ps_ret (pe_and (pe_callB call_isi (by rfl) R.Z.T.isi PyProof.Rows.boot_isinstance (pa_cons (pv 2) (pa_cons (pe_bltn (v := .ty "str") (by rfl) R.Z.T.str (by decide +kernel) rfl) pa_nil)))
        (pe_and (pe_cmpR op_eq (pe_callB call_len_str (by rfl) R.Z.T.len PySem.boot_len (pa_cons (pv 2) pa_nil)) pe_int (nomark _))
        (pe_one (pe_cmpR op_in_sign (pv 2) (pe_glob (v := .str "abcdefghijklmnopqrstuvwxyz0123456789@") (by rfl) eS ⟨_, rfl⟩) (by rfl))))))))), ?_⟩
    obtain ⟨t, ty, kt, _, _⟩ := da.ty (K := K)
    refine ⟨_, rfl, v, .ty "tuple", t, .type "tuple", isTup d, rfl, .ty "tuple", ty, kt, isTup d, rfl, ?_⟩
    cases da with
    | @tup a xs ds e all =>
      refine iteF ?_
      refine ⟨_, rfl, a, _, rfl, .inr (SqT.of e), rfl, _, rfl, ?_⟩
      have ln := all.len
      by_cases h3 : xs.length = 3
      · refine iteF' (by simp [h3]) ?_
        match xs, ds, all, h3 with
        | [x, y, z], [dx, dy, dz], .cons h1 (.cons h2 (.cons h4 .nil)), _ =>
          refine ⟨_, rfl, a, _, rfl, SqT.of e, rfl, _, _, rfl, _, _, rfl, _, _, rfl, rfl, ?_⟩
          have no : (numD 200 dx = none ∨ numD 200 dz = none) → ruleD (.tuple [dx, dy, dz]) = none := fun c => by
            cases dy with
            | str s =>
              show (match numD 200 dx, numD 200 dz with
                | some i, some j => if signD s = true then some (i, s, j) else none
                | _, _ => none) = none
              rcases c with c | c
              · rw [c]
              · rw [c]
                cases numD 200 dx <;> rfl
            | _ => rfl
          refine ⟨_, rfl, x, dx, 200, rfl, h1, _, rfl, ?_⟩
          cases ea : numD 200 dx with
          | none =>
            rw [no (.inl ea)] at q
            exact iteT q
          | some i =>
            refine iteF ?_
            refine ⟨_, rfl, z, dz, 200, rfl, h4, _, rfl, ?_⟩
            cases eb : numD 200 dz with
            | none =>
              rw [no (.inr eb)] at q
              exact iteT q
            | some j =>
              refine iteF ?_
              obtain ⟨t2, ty2, kt2⟩ := h2.tyS (K := K)
              refine ⟨_, rfl, y, .ty "str", t2, .type "str", isSt dy, rfl, .ty "str", ty2, kt2, isSt dy, rfl, ?_⟩
              cases h2 with
              | str s =>
                refine iteT ?_
                have q : Q (.bl (match numD 200 dx, numD 200 dz with
                  | some i, some j => if signD s = true then some (i, s, j) else none
                  | _, _ => none).isSome) H := q
                rw [ea, eb] at q
                have szs := sz dx s dz rfl
                refine ⟨_, rfl, _, rfl, (by rw [sizeLine_eq]; omega), rfl, _, rfl, ?_⟩
                by_cases l1 : s.length = 1
                · refine iteT' (by simp [l1]) ?_
                  obtain ⟨c, rfl⟩ := one_sign l1
                  refine ⟨_, rfl, c, _, rfl, rfl, ?_⟩
                  have q : Q (.bl (if signD ⟨#[c]⟩ = true then some (i, (⟨#[c]⟩ : Str), j) else none).isSome) H := q
                  rw [signD_one] at q
                  show Q (.bl (decide (c ∈ sgs))) H
                  by_cases m : c ∈ sgs
                  · rw [decide_eq_true m] at q ⊢
                    exact q
                  · rw [decide_eq_false m] at q ⊢
                    exact q
                · refine iteF' (by simp; omega) ?_
                  have q : Q (.bl (if signD s = true then some (i, s, j) else none).isSome) H := q
                  have n : signD s = false := by
                    unfold signD
                    rw [decide_eq_false l1]
                    rfl
                  rw [n] at q
                  exact q
              | bl b => exact iteF q
              | non => exact iteF q
              | int i => exact iteF q
              | lst e h => exact iteF q
              | tup e h => exact iteF q
      · refine iteT' (by simp; omega) ?_
        have z : ruleD (.tuple ds) = none := by
          match ds, ln with
          | [], _ => rfl
          | [_], _ => rfl
          | [_, dy], _ => cases dy <;> rfl
          | [_, _, _], l => exact absurd l h3
          | _ :: dy :: _ :: _ :: _, _ => cases dy <;> rfl
        rw [z] at q
        exact q
    | bl b => exact iteT q
    | non => exact iteT q
    | int i => exact iteT q
    | str x => exact iteT q
    | lst e h => exact iteT q
end
end K10

set_option Elab.async false
set_option linter.all false
set_option maxRecDepth 100000
set_option maxHeartbeats 4000000
/-! need_reader of any data. -/
namespace K10
open PySem L2 L2.EV
abbrev sNeedR : Stmt := top 33
def lbR : Option IS → T3 → Bool
  | none, _ => false
  | some p, t => !ltIS p (t.1, t.2.1)
def lbG : Option Int → Int → Bool
  | none, _ => false
  | some p, i => decide (i ≤ p)
def badR : List PyData → Option IS → Nat → Option Nat
  | [], _, _ => none
  | d :: ds, last, k => match ruleD d with
    | none => some k
    | some t => if lbR last t = true then some k else badR ds (some (t.1, t.2.1)) (k + 1)
def badG : List PyData → Option Int → Nat → Option Nat
  | [], _, _ => none
  | d :: ds, last, k => match numD 200 d with
    | none => some k
    | some i => if lbG last i = true then some k else badG ds (some i) (k + 1)
theorem badR_none {d : PyData} {ds : List PyData} {last : Option IS} {k : Nat} (h : ruleD d = none) : badR (d :: ds) last k = some k := by
  unfold badR
  rw [h]
theorem badR_some {d : PyData} {ds : List PyData} {last : Option IS} {k : Nat} {t : T3} (h : ruleD d = some t) : badR (d :: ds) last k = if lbR last t = true then some k else badR ds (some (t.1, t.2.1)) (k + 1) := by
  rw [badR, h]
theorem badG_none {d : PyData} {ds : List PyData} {last : Option Int} {k : Nat} (h : numD 200 d = none) : badG (d :: ds) last k = some k := by
  rw [badG, h]
theorem badG_some {d : PyData} {ds : List PyData} {last : Option Int} {k : Nat} {i : Int} (h : numD 200 d = some i) : badG (d :: ds) last k = if lbG last i = true then some k else badG ds (some i) (k + 1) := by
  rw [badG, h]
theorem tup_of {H : Hp} {v : V} {d : PyData} (h : Da H v d) (c : isTup d = true) : ∃ (a : Addr) (xs : List V) (ds : List PyData), v = .ref a ∧ d = .tuple ds ∧ H a = some (.tup xs) ∧ DaAll H xs ds := by
  cases h with
  | tup e all => exact ⟨_, _, _, rfl, rfl, e, all⟩
  | non => cases c
  | bl b => cases c
  | int i => cases c
  | str x => cases c
  | lst e h => cases c
/-- by which part and number data are refused as a reader -/
def ffD : PyData → Option (Str × Option Nat)
  | .tuple [.tuple rs, .tuple gs] => match badR rs none 0 with
    | some k => some ("rules", some k)
    | none => match badG gs none 0 with
      | some k => some ("good", some k)
      | none => none
  | _ => some ("form", none)
def wv : Option Nat → V
  | none => .non
  | some i => .int (i : Int)
def SzR (d : PyData) : Prop := ∀ rs g, d = .tuple [.tuple rs, g] → ∀ r ∈ rs, szS r
/-- the error is told with these fields -/
def Eb (C : Addr) (E : XK) (H : Hp) (p : Str) (n : Option Nat) : Prop := ∀ (H' : Hp) (dx : Addr), Same H H' → H' dx = some (.xd [("number", wv n), ("part", .str p)]) → E (.ref C) (some dx) H'
theorem Eb.same {C : Addr} {E : XK} {H H' : Hp} {p : Str} {n : Option Nat} (h : Eb C E H p n) (s : Same H H') : Eb C E H' p n := fun H2 dx s2 e => h H2 dx (s.trans s2) e
def spNeedR (C : Addr) : Sp := fun vs H Q E => ∃ (v : V) (d : PyData), vs = [v] ∧ Da H v d ∧ SzR d ∧ match ffD d with
  | none => ∀ H', Same H H' → Q v H'
  | some r => Eb C E H r.1 r.2
theorem drop_at {α : Type} {l : List α} {i : Nat} {x : α} (h : l[i]? = some x) : l.drop i = x :: l.drop (i + 1) := by
  obtain ⟨hi, e⟩ := List.getElem?_eq_some_iff.mp h
  rw [List.drop_eq_getElem_cons hi, e]
theorem rule_some {d : PyData} {t : T3} (h : ruleD d = some t) : d = .tuple [.int t.1, .str t.2.1, .int t.2.2] := by
  match d, h with
  | .tuple [a, .str x, b], h =>
    have h : (match numD 200 a, numD 200 b with
      | some i, some j => if signD x = true then some (i, x, j) else none
      | _, _ => none) = some t := h
    cases ha : numD 200 a with
    | none =>
      rw [ha] at h
      cases h
    | some i =>
      cases hb : numD 200 b with
      | none =>
        rw [ha, hb] at h
        cases h
      | some j =>
        rw [ha, hb] at h
        have h9 : (if signD x = true then some (i, x, j) else none) = some t := h
        clear h
        obtain ⟨rfl, _⟩ := numD_some ha
        obtain ⟨rfl, _⟩ := numD_some hb
        by_cases c : signD x = true
        · rw [if_pos c] at h9
          cases h9
          rfl
        · rw [if_neg c] at h9
          cases h9
theorem rule_at {H : Hp} {v : V} {d : PyData} {t : T3} (h : Da H v d) (e : ruleD d = some t) : ∃ a, v = .ref a ∧ H a = some (.tup [.int t.1, .str t.2.1, .int t.2.2]) := by
  have z := rule_some e
  subst z
  cases h with
  | tup e all =>
    match all with
    | .cons (.int _) (.cons (.str _) (.cons (.int _) .nil)) => exact ⟨_, rfl, e⟩
theorem ff_len {ds : List PyData} (h : ds.length ≠ 2) : ffD (.tuple ds) = some ((("form" : Str), (none : Option Nat))) := by
  match ds, h with
  | [], _ => rfl
  | [x], _ => cases x <;> rfl
  | [_, _], h => exact absurd rfl h
  | x :: y :: _ :: _, _ => cases x <;> cases y <;> rfl
theorem ff_tup {dx dy : PyData} (h : isTup dx = false ∨ isTup dy = false) : ffD (.tuple [dx, dy]) = some ((("form" : Str), (none : Option Nat))) := by
  cases dx <;> cases dy <;> first | rfl | (rcases h with h | h <;> cases h)
theorem bad_heap {H : Hp} {C a dx : Addr} {x y : V} (na : H a = none) (hn : upd H a (exo a C none) dx = none) (ne : dx ≠ a) :
    (upd (upd (upd (upd H a (exo a C none)) dx (exd dx [("part", x)])) a (exo a C (some dx))) dx (exd dx [("number", y), ("part", x)])) a = some (exo a C (some dx)) ∧
    Same H (upd (delH (upd (upd (upd (upd H a (exo a C none)) dx (exd dx [("part", x)])) a (exo a C (some dx))) dx (exd dx [("number", y), ("part", x)])) a) dx (.xd [("number", y), ("part", x)])) := by
  have hd : H dx = none := by
    rw [upd_ne ne] at hn
    exact hn
  refine ⟨?_, fun b o e => ?_⟩
  · rw [upd_ne ne.symm]
    exact upd_same
  · have h1 := ne_of_none e na
    have h2 := ne_of_none e hd
    rw [upd_ne h2, delH_ne h1, upd_ne h2, upd_ne h1, upd_ne h2, upd_ne h1]
    exact e
section
variable {P : Program} {w : World} {K : PySem.W.Frag} {mg : Str → Option Value} {base : Heap}
theorem scNeedR : FnScope ["thing", "rules", "good", "number", "rule", "state"] ["thing"] (defScope sNeedR) := ⟨rfl, rfl, rfl, by decide +kernel, rfl, by decide +kernel, by decide +kernel⟩
theorem ok_needR (R : Rs K mg) {f : Addr} {fd : FuncData} (F : Fun K "need_reader" "need_reader" sNeedR f fd) : FnOk P w K mg base (L2.CX P w) 3 f fd ["thing"] (spNeedR R.B.C) := by
  have GN : FnOk P w K mg base CX0 1 R.Z.fN R.Z.dN ["thing", "many"] spNumD := ok_numD R.Z.N R.Z.T
  have GU : FnOk P w K mg base CX0 2 R.fU R.dU ["thing"] spRule := ok_rule R
  have GB : FnOk P w K mg base CX0 1 R.B.f R.B.d ["self", "part", "number"] (spTwo R.B.C "part" "number") := ok_BadReader R.B.F R.B.T R.B.I R.B.n0 R.B.n1
  refine F.okX scNeedR (fun vs H Q E h => ?_) (fun cdv A outer s H vs Q E hr h => ?_)
  · obtain ⟨v, d, rfl, _⟩ := h
    rfl
  · obtain ⟨v, d, rfl, da, sz, q⟩ := h
    obtain ⟨tm, eM⟩ := R.states
    have r1 := hr.mono (j := 1) (by omega)
    have hu := hu_of hr
    have hu0 : (A.deeper (PyProof.Rows.envOfC "need_reader" (defScope sNeedR) s.heap.objs.size f cdv)).units < cLine := by omega
    refine ⟨_, pss_cons (ps_if (pw_or (pt_not (pt_val (pe_callB call_isi (by rfl) R.Z.T.isi PyProof.Rows.boot_isinstance (pa_cons (pv 0) (pa_cons (pe_bltn (v := .ty "tuple") (by rfl) R.Z.T.tuple (by decide +kernel) rfl) pa_nil)))))
        (pw_or1 (pt_cmpR op_ne (pe_callB call_len_seq (by rfl) R.Z.T.len PySem.boot_len (pa_cons (pv 0) pa_nil)) pe_int (nomark _)))).pt
        (pss_one (ps_raise rfl (takes_of rfl rfl rfl rfl) (pmk_own3 rfl (pe_new R.B.T R.B.iC R.B.tI GB hr (kb_pos R.B.b rfl) pass0 (by rfl) R.B.m (pa_cons pe_str (pa_cons pe_non pa_nil)))))) pss_nil)
      (pss_cons (ps_asg (pv 0) (pg_tup rfl (pgs_cons (pg_name (i := 1) scNeedR.nd rfl (Or.inl rfl)) (pgs_cons (pg_name (i := 2) scNeedR.nd rfl (Or.inl rfl)) pgs_nil))))
      (pss_cons (ps_if (pw_or (pt_not (pt_val (pe_callB call_isi (by rfl) R.Z.T.isi PyProof.Rows.boot_isinstance (pa_cons (pv 1) (pa_cons (pe_bltn (v := .ty "tuple") (by rfl) R.Z.T.tuple (by decide +kernel) rfl) pa_nil)))))
        (pw_or1 (pt_not (pt_val (pe_callB call_isi (by rfl) R.Z.T.isi PyProof.Rows.boot_isinstance (pa_cons (pv 2) (pa_cons (pe_bltn (v := .ty "tuple") (by rfl) R.Z.T.tuple (by decide +kernel) rfl) pa_nil))))))).pt
        (pss_one (ps_raise rfl (takes_of rfl rfl rfl rfl) (pmk_own3 rfl (pe_new R.B.T R.B.iC R.B.tI GB hr (kb_pos R.B.b rfl) pass0 (by rfl) R.B.m (pa_cons pe_str (pa_cons pe_non pa_nil)))))) pss_nil)
      (pss_cons (ps_for (passes_of rfl) rfl (pi_enumT (by rfl) R.Z.en (pa_cons (pv 1) pa_nil)) (pg_tup rfl (pgs_cons (pg_name (i := 3) scNeedR.nd rfl (Or.inl rfl)) (pgs_cons (pg_name (i := 4) scNeedR.nd rfl (Or.inl rfl)) pgs_nil)))
        (pss_one (ps_if (pw_or (pt_not (pt_val (pe_call GU hr (by rfl) R.mU R.U.kp R.bU .nil pass0 (pa_cons (pv 4) pa_nil))))
          (pw_or1 (pw_and (pt_cmpR op_gt (pv 3) pe_int (nomark _)) (pw_and1 (pt_cmpR (op_leIS hu0) (pe_slice sl_tupS (pv 4) po_none (po_some pe_int)) (pe_slice sl_tupS (pe_ix ix_tup (pv 1) (pe_op op_sub (pv 3) pe_int) (fun _ _ => rfl)) po_none (po_some pe_int)) (nomark _)))).pt)).pt
          (pss_one (ps_raise rfl (takes_of rfl rfl rfl rfl) (pmk_own3 rfl (pe_new R.B.T R.B.iC R.B.tI GB hr (kb_pos R.B.b rfl) pass0 (by rfl) R.B.m (pa_cons pe_str (pa_cons (pv 3) pa_nil)))))) pss_nil)))
      (pss_cons (ps_for (passes_of rfl) rfl (pi_enumT (by rfl) R.Z.en (pa_cons (pv 2) pa_nil)) (pg_tup rfl (pgs_cons (pg_name (i := 3) scNeedR.nd rfl (Or.inl rfl)) (pgs_cons (pg_name (i := 5) scNeedR.nd rfl (Or.inl rfl)) pgs_nil)))
        (pss_one (ps_if (pw_or (pt_not (pt_val (pe_call GN r1 (by rfl) R.Z.mN R.Z.N.kp R.Z.bN .nil pass0 (pa_cons (pv 5) (pa_cons (pe_glob (v := .int 200) (by rfl) eM ⟨_, rfl⟩) pa_nil)))))
          (pw_or1 (pw_and (pt_cmpR op_gt (pv 3) pe_int (nomark _)) (pw_and1 (pt_cmpR op_le (pv 5) (pe_ix ix_tup (pv 2) (pe_op op_sub (pv 3) pe_int) (fun _ _ => rfl)) (nomark _)))).pt)).pt
          (pss_one (ps_raise rfl (takes_of rfl rfl rfl rfl) (pmk_own3 rfl (pe_new R.B.T R.B.iC R.B.tI GB hr (kb_pos R.B.b rfl) pass0 (by rfl) R.B.m (pa_cons pe_str (pa_cons (pv 3) pa_nil)))))) pss_nil)))
      (pss_one (ps_ret (pv 0))))))), ?_⟩
    obtain ⟨t, ty, kt, _, _⟩ := da.ty (K := K)
    refine ⟨_, rfl, v, .ty "tuple", t, .type "tuple", isTup d, rfl, .ty "tuple", ty, kt, isTup d, rfl, ?_⟩
    -- the raise, from any state that came so far
    have fin : ∀ {H1 : Hp} {p : Str} {n : Option Nat} {a : Addr} (s1 : Same H H1) (na : H1 a = none) (qe : Eb R.B.C E H p n) (dx : Addr), upd H1 a (exo a R.B.C none) dx = none → dx ≠ a →
        ∃ (a0 C d : Addr) (fs : List (Str × V)), V.ref a = .ref a0 ∧ (upd (upd (upd (upd H1 a (exo a R.B.C none)) dx (exd dx [("part", V.str p)])) a (exo a R.B.C (some dx))) dx (exd dx [("number", wv n), ("part", V.str p)])) a0 = some (exo a0 C (some d)) ∧ d ≠ a0 ∧
          (upd (upd (upd (upd H1 a (exo a R.B.C none)) dx (exd dx [("part", V.str p)])) a (exo a R.B.C (some dx))) dx (exd dx [("number", wv n), ("part", V.str p)])) d = some (exd d fs) ∧ Fr0 H a0 ∧
          Raises (cxOf (L2.CX P w) P w K mg base ["thing", "rules", "good", "number", "rule", "state"] "need_reader" (defScope sNeedR) f cdv A outer s H E) (.ref C) ∧
          E (.ref C) (some d) (upd (delH (upd (upd (upd (upd H1 a (exo a R.B.C none)) dx (exd dx [("part", V.str p)])) a (exo a R.B.C (some dx))) dx (exd dx [("number", wv n), ("part", V.str p)])) a0) d (.xd fs)) := by
      intro H1 p n a s1 na qe dx hn ne
      obtain ⟨b1, b2⟩ := bad_heap (x := V.str p) (y := wv n) na hn ne
      exact ⟨a, R.B.C, dx, _, rfl, b1, ne, upd_same, fr0_none (same_none s1 na), raises_own R.B.su R.B.ty, qe _ dx (s1.trans b2) upd_same⟩
    have form : ffD d = some ((("form" : Str), (none : Option Nat))) → Eb R.B.C E H "form" none := fun e => by
      rw [e] at q
      exact q
    cases da with
    | non => exact iteT ⟨rfl, rfl, (by decide), fun a na => ⟨a, .str "form", .non, rfl, upd_same, fun dx hn ne => ⟨rfl, fin (n := none) (Same.refl H) na (form rfl) dx hn ne⟩⟩⟩
    | bl b => exact iteT ⟨rfl, rfl, (by decide), fun a na => ⟨a, .str "form", .non, rfl, upd_same, fun dx hn ne => ⟨rfl, fin (n := none) (Same.refl H) na (form rfl) dx hn ne⟩⟩⟩
    | int b => exact iteT ⟨rfl, rfl, (by decide), fun a na => ⟨a, .str "form", .non, rfl, upd_same, fun dx hn ne => ⟨rfl, fin (n := none) (Same.refl H) na (form rfl) dx hn ne⟩⟩⟩
    | str b => exact iteT ⟨rfl, rfl, (by decide), fun a na => ⟨a, .str "form", .non, rfl, upd_same, fun dx hn ne => ⟨rfl, fin (n := none) (Same.refl H) na (form rfl) dx hn ne⟩⟩⟩
    | lst e h => exact iteT ⟨rfl, rfl, (by decide), fun a na => ⟨a, .str "form", .non, rfl, upd_same, fun dx hn ne => ⟨rfl, fin (n := none) (Same.refl H) na (form rfl) dx hn ne⟩⟩⟩
    | @tup th xs ds e all =>
      refine iteF ?_
      refine ⟨_, rfl, th, _, rfl, .inr (SqT.of e), rfl, _, rfl, ?_⟩
      have ln := all.len
      by_cases h2 : xs.length = 2
      · refine iteF' (by simp [h2]) ?_
        match xs, ds, all, h2 with
        | [x, y], [dx, dy], .cons h1 (.cons h3 .nil), _ =>
          refine ⟨_, rfl, th, _, rfl, SqT.of e, rfl, _, _, rfl, _, _, rfl, rfl, ?_⟩
          obtain ⟨t1, ty1, kt1, _, _⟩ := h1.ty (K := K)
          refine ⟨_, rfl, x, .ty "tuple", t1, .type "tuple", isTup dx, rfl, .ty "tuple", ty1, kt1, isTup dx, rfl, ?_⟩
          by_cases c1 : isTup dx = true
          · rw [c1]
            refine iteF ?_
            obtain ⟨t2, ty2, kt2, _, _⟩ := h3.ty (K := K)
            refine ⟨_, rfl, y, .ty "tuple", t2, .type "tuple", isTup dy, rfl, .ty "tuple", ty2, kt2, isTup dy, rfl, ?_⟩
            by_cases c2 : isTup dy = true
            · rw [c2]
              refine iteF ?_
              obtain ⟨ra, rv, rs, rfl, rfl, re, rall⟩ := tup_of h1 c1
              · obtain ⟨ga, gv, gs, rfl, rfl, ge, gall⟩ := tup_of h3 c2
                · have q : match (match badR rs none 0 with
                    | some k => some ((("rules" : Str), some k))
                    | none => match badG gs none 0 with
                      | some k => some ((("good" : Str), some k))
                      | none => none) with
                    | none => ∀ H', Same H H' → Q (.ref th) H'
                    | some r => Eb R.B.C E H r.1 r.2 := q
                  have szr : ∀ r ∈ rs, szS r := sz rs _ rfl
                  refine ⟨_, rfl, ra, _, rfl, SqT.of re, for_it (walk_enumT (xs := rv)) (fun i σ H' => ∃ (v3 v4 : Option V) (last : Option IS), σ = [some (.ref th), some (.ref ra), some (.ref ga), v3, v4, none] ∧ Same H H' ∧
                      badR rs none 0 = badR (rs.drop i) last i ∧ (i = 0 → last = none) ∧ ∀ j, i = j + 1 → ∃ d t, rs[j]? = some d ∧ ruleD d = some t ∧ last = some (t.1, t.2.1))
                    ⟨none, none, none, rfl, Same.refl H, rfl, fun _ => rfl, fun j hj => by omega⟩ (fun i σ H' _ ⟨_, _, _, _, z, _⟩ => SqT.of (z _ _ re)) ?_ ?_⟩
                  · rintro i x σ H1 H2 hi ⟨v3, v4, last, rfl, s1, inv, l0, l1⟩ ⟨T, xi, xo, rfl, nT, rfl, g1, g2⟩
                    cases g1
                    obtain ⟨d, hd, dv⟩ := rall.at_ g2
                    rw [drop_at hd] at inv
                    have s2 := s1.trans (same_upd (o := HO.tup [V.int (i : Nat), xo]) nT)
                    have dv2 := Da.same s2 _ _ dv
                    refine ⟨T, _, rfl, SqT.of upd_same, rfl, _, _, rfl, _, _, rfl, rfl, ?_⟩
                    refine ⟨_, rfl, xo, d, rfl, dv2, szr d (List.mem_of_getElem? hd), _, rfl, ?_⟩
                    cases ed : ruleD d with
                    | none =>
                      rw [badR_none ed] at inv
                      rw [inv] at q
                      exact iteT ⟨_, rfl, rfl, rfl, (by show 2 ≤ 1000; decide), fun a na => ⟨a, .str "rules", .int (i : Nat), rfl, upd_same, fun dx hn ne => ⟨rfl, fin (n := some i) s2 na q dx hn ne⟩⟩⟩
                    | some t =>
                      rw [badR_some ed] at inv
                      refine iteF ?_
                      have goOn : lbR last t = false → ∃ (v3' v4' : Option V) (last' : Option IS), [some (V.ref th), some (V.ref ra), some (V.ref ga), some (V.int (i : Nat)), some xo, none] = [some (.ref th), some (.ref ra), some (.ref ga), v3', v4', none] ∧
                          badR rs none 0 = badR (rs.drop (i + 1)) last' (i + 1) ∧ (i + 1 = 0 → last' = none) ∧ ∀ j, i + 1 = j + 1 → ∃ d t, rs[j]? = some d ∧ ruleD d = some t ∧ last' = some (t.1, t.2.1) := fun z => by
                        rw [z, if_neg (by simp)] at inv
                        exact ⟨_, _, _, rfl, inv, fun h => by omega, fun j h => by
                          obtain rfl : i = j := by omega
                          exact ⟨d, t, hd, ed, rfl⟩⟩
                      refine ⟨_, rfl, (i : Int), 0, rfl, rfl, _, rfl, ?_⟩
                      refine ite2 (fun z => ?_) (fun z => ?_)
                      · have z1 : (0 : Int) < i := of_decide_eq_true z
                        obtain ⟨j, rfl⟩ : ∃ j, i = j + 1 := ⟨i - 1, by omega⟩
                        obtain ⟨dp, tp, hp1, hp2, rfl⟩ := l1 j rfl
                        obtain ⟨vp, hvp, dvp⟩ := rall.at' hp1
                        have dvp2 := Da.same s2 _ _ dvp
                        obtain ⟨a1, rfl, ha1⟩ := rule_at dv2 ed
                        obtain ⟨a2, rfl, ha2⟩ := rule_at dvp2 hp2
                        refine ⟨_, rfl, _, rfl, a1, _, rfl, ha1, fun pa Ha sa ea => ?_⟩
                        refine ⟨_, rfl, _, rfl, _, _, rfl, rfl, ra, _, (j : Int), .ref a2, rfl, ?_, SqT.of (sa _ _ (s2 _ _ re)), atI_nat hvp, _, rfl, a2, _, rfl, sa _ _ ha2, fun pb Hb sb eb => ?_⟩
                        · show V.int (((j + 1 : Nat) : Int) - 1) = V.int (j : Int)
                          congr 1
                          omega
                        rw [show (2 : Int) = ((2 : Nat) : Int) from rfl, cutTo] at ea eb
                        refine ⟨pa, pb, (t.1, t.2.1), (tp.1, tp.2.1), rfl, rfl, sb _ _ ea, eb, _, rfl, ?_⟩
                        have s3 := (s2.trans sa).trans sb
                        have eL : lbR (some (tp.1, tp.2.1)) t = !ltIS (tp.1, tp.2.1) (t.1, t.2.1) := rfl
                        cases eb2 : ltIS (tp.1, tp.2.1) (t.1, t.2.1) with
                        | true =>
                          obtain ⟨w1, w2, w3, w4, w5⟩ := goOn (by rw [eL, eb2]; rfl)
                          exact iteF ⟨w1, w2, w3, w4, s3, w5⟩
                        | false =>
                          rw [eL, eb2, if_pos (show (!false) = true from rfl)] at inv
                          rw [inv] at q
                          exact iteT ⟨_, rfl, rfl, rfl, (by show 2 ≤ 1000; decide), fun a na => ⟨a, .str "rules", .int ((j + 1 : Nat) : Nat), rfl, upd_same, fun dx hn ne => ⟨rfl, fin (n := some (j + 1)) s3 na q dx hn ne⟩⟩⟩
                      · have i0 : i = 0 := by
                          have : ¬ (0 : Int) < i := fun k => z (decide_eq_true k)
                          omega
                        have l9 := l0 i0
                        subst l9
                        obtain ⟨w1, w2, w3, w4, w5⟩ := goOn rfl
                        exact iteF ⟨w1, w2, w3, w4, s2, w5⟩
                  · rintro σ H1 ⟨v3, v4, last, rfl, s1, inv, _, _⟩
                    rw [rall.len, List.drop_length] at inv
                    have inv : badR rs none 0 = none := inv
                    rw [inv] at q
                    have q : match (match badG gs none 0 with
                        | some k => some ((("good" : Str), some k))
                        | none => none) with
                      | none => ∀ H', Same H H' → Q (.ref th) H'
                      | some r => Eb R.B.C E H r.1 r.2 := q
                    refine ⟨_, rfl, ga, _, rfl, SqT.of (s1 _ _ ge), for_it (walk_enumT (xs := gv)) (fun i σ H' => ∃ (v3 v5 : Option V) (last : Option Int), σ = [some (.ref th), some (.ref ra), some (.ref ga), v3, v4, v5] ∧ Same H H' ∧
                        badG gs none 0 = badG (gs.drop i) last i ∧ (i = 0 → last = none) ∧ ∀ j, i = j + 1 → ∃ d t, gs[j]? = some d ∧ numD 200 d = some t ∧ last = some t)
                      ⟨v3, none, none, rfl, s1, rfl, fun _ => rfl, fun j hj => by omega⟩ (fun i σ H' _ ⟨_, _, _, _, z, _⟩ => SqT.of (z _ _ ge)) ?_ ?_⟩
                    · rintro i x σ H1 H2 hi ⟨v3, v5, last, rfl, s1, inv, l0, l1⟩ ⟨T, xi, xo, rfl, nT, rfl, g1, g2⟩
                      cases g1
                      obtain ⟨d, hd, dv⟩ := gall.at_ g2
                      rw [drop_at hd] at inv
                      have s2 := s1.trans (same_upd (o := HO.tup [V.int (i : Nat), xo]) nT)
                      have dv2 := Da.same s2 _ _ dv
                      refine ⟨T, _, rfl, SqT.of upd_same, rfl, _, _, rfl, _, _, rfl, rfl, ?_⟩
                      refine ⟨_, rfl, xo, d, 200, rfl, dv2, _, rfl, ?_⟩
                      cases ed : numD 200 d with
                      | none =>
                        rw [badG_none ed] at inv
                        rw [inv] at q
                        exact iteT ⟨_, rfl, rfl, rfl, (by show 2 ≤ 1000; decide), fun a na => ⟨a, .str "good", .int (i : Nat), rfl, upd_same, fun dx hn ne => ⟨rfl, fin (n := some i) s2 na q dx hn ne⟩⟩⟩
                      | some t =>
                        rw [badG_some ed] at inv
                        refine iteF ?_
                        have goOn : lbG last t = false → ∃ (v3' v5' : Option V) (last' : Option Int), [some (V.ref th), some (V.ref ra), some (V.ref ga), some (V.int (i : Nat)), v4, some xo] = [some (.ref th), some (.ref ra), some (.ref ga), v3', v4, v5'] ∧
                            badG gs none 0 = badG (gs.drop (i + 1)) last' (i + 1) ∧ (i + 1 = 0 → last' = none) ∧ ∀ j, i + 1 = j + 1 → ∃ d t, gs[j]? = some d ∧ numD 200 d = some t ∧ last' = some t := fun z => by
                          rw [z, if_neg (by simp)] at inv
                          exact ⟨_, _, _, rfl, inv, fun h => by omega, fun j h => by
                            obtain rfl : i = j := by omega
                            exact ⟨d, t, hd, ed, rfl⟩⟩
                        refine ⟨_, rfl, (i : Int), 0, rfl, rfl, _, rfl, ?_⟩
                        refine ite2 (fun z => ?_) (fun z => ?_)
                        · have z1 : (0 : Int) < i := of_decide_eq_true z
                          obtain ⟨j, rfl⟩ : ∃ j, i = j + 1 := ⟨i - 1, by omega⟩
                          obtain ⟨dp, tp, hp1, hp2, rfl⟩ := l1 j rfl
                          obtain ⟨vp, hvp, dvp⟩ := gall.at' hp1
                          obtain ⟨rfl, _⟩ := numD_some ed
                          obtain ⟨rfl, _⟩ := numD_some hp2
                          cases dv2
                          cases dvp
                          refine ⟨_, rfl, _, rfl, _, rfl, _, _, rfl, rfl, ga, _, (j : Int), .int tp, rfl, ?_, SqT.of (s2 _ _ ge), atI_nat hvp, t, tp, rfl, rfl, _, rfl, ?_⟩
                          · show V.int (((j + 1 : Nat) : Int) - 1) = V.int (j : Int)
                            congr 1
                            omega
                          have eL : lbG (some tp) t = decide (t ≤ tp) := rfl
                          by_cases c : t ≤ tp
                          · rw [eL, decide_eq_true c, if_pos rfl] at inv
                            rw [inv] at q
                            exact iteT' (decide_eq_true c) ⟨_, rfl, rfl, rfl, (by show 2 ≤ 1000; decide), fun a na => ⟨a, .str "good", .int ((j + 1 : Nat) : Nat), rfl, upd_same, fun dx hn ne => ⟨rfl, fin (n := some (j + 1)) s2 na q dx hn ne⟩⟩⟩
                          · obtain ⟨w1, w2, w3, w4, w5⟩ := goOn (by rw [eL, decide_eq_false c])
                            exact iteF' (decide_eq_false c) ⟨w1, w2, w3, w4, s2, w5⟩
                        · have i0 : i = 0 := by
                            have : ¬ (0 : Int) < i := fun k => z (decide_eq_true k)
                            omega
                          have l9 := l0 i0
                          subst l9
                          obtain ⟨w1, w2, w3, w4, w5⟩ := goOn rfl
                          exact iteF ⟨w1, w2, w3, w4, s2, w5⟩
                    · rintro σ H1 ⟨v3, v5, last, rfl, s1, inv, _, _⟩
                      rw [gall.len, List.drop_length] at inv
                      have inv : badG gs none 0 = none := inv
                      rw [inv] at q
                      exact ⟨_, rfl, q _ s1⟩
            · have c2' : isTup dy = false := by simpa using c2
              rw [c2']
              exact iteT ⟨rfl, rfl, (by decide), fun a na => ⟨a, .str "form", .non, rfl, upd_same, fun dx hn ne => ⟨rfl, fin (n := none) (Same.refl H) na (form (ff_tup (.inr c2'))) dx hn ne⟩⟩⟩
          · have c1' : isTup dx = false := by simpa using c1
            rw [c1']
            exact iteT ⟨rfl, rfl, (by decide), fun a na => ⟨a, .str "form", .non, rfl, upd_same, fun dx hn ne => ⟨rfl, fin (n := none) (Same.refl H) na (form (ff_tup (.inl c1'))) dx hn ne⟩⟩⟩
      · refine iteT' (by simp; omega) ?_
        exact ⟨rfl, rfl, (by decide), fun a na => ⟨a, .str "form", .non, rfl, upd_same, fun dx hn ne => ⟨rfl, fin (n := none) (Same.refl H) na (form (ff_len (by omega))) dx hn ne⟩⟩⟩
end
end K10

set_option Elab.async false
set_option linter.all false
set_option maxRecDepth 100000
set_option maxHeartbeats 4000000
/-! Drawn pieces. -/
namespace K10
open PySem L2 L2.EV
abbrev Ltr : List Nat := [97, 98, 64]
theorem ltr_sgs : ∀ c ∈ Ltr, c ∈ sgs := by decide +kernel
/-- a short piece of few letters -/
def PcL (p : Str) (last : Bool) : Prop := Pc p last ∧ (sl p).length ≤ (if last = true then 3 else 2) ∧ ∀ c ∈ sl p, c ∈ Ltr ∨ c = 59
abbrev sPiece : Stmt := top 44
/-- the draws have gone on from H0, where they were at k0 with the list l0: all other things are as they were -/
structure Dr (H0 H : Hp) (m c l0 l : Addr) (k : Int) : Prop where
  at_ : MAt H m c l k
  hl : l = l0 ∨ H0 l = none
  kp : ∀ b o, H0 b = some o → b ≠ m → b ≠ l0 → H b = some o
theorem Dr.refl {H : Hp} {m c l : Addr} {k : Int} (M : MAt H m c l k) : Dr H H m c l l k := ⟨M, .inl rfl, fun b o e _ _ => e⟩
theorem Dr.same {H0 H H' : Hp} {m c l0 l : Addr} {k : Int} (d : Dr H0 H m c l0 l k) (s : Same H H') : Dr H0 H' m c l0 l k :=
  ⟨d.at_.same s, d.hl, fun b o e h1 h2 => s _ _ (d.kp b o e h1 h2)⟩
/-- one part behind another -/
theorem Dr.trans {H0 H H' : Hp} {m c l0 l l' : Addr} {k k' : Int} (d : Dr H0 H m c l0 l k) (e : Dr H H' m c l l' k') : Dr H0 H' m c l0 l' k' := by
  refine ⟨e.at_, ?_, fun b o e1 h1 h2 => e.kp b o (d.kp b o e1 h1 h2) h1 ?_⟩
  · rcases e.hl with h | h
    · rw [h]
      exact d.hl
    · by_cases z : l' = l0
      · exact .inl z
      · refine .inr ?_
        cases q : H0 l' with
        | none => rfl
        | some o =>
          have ne : l' ≠ m := (ne_of_none d.at_.hm h).symm
          rw [d.kp l' o q ne z] at h
          cases h
  · rcases d.hl with hl | hl
    · rw [hl]
      exact h2
    · exact ne_of_none e1 hl
/-- a thing of another kind than the draws' own stays -/
theorem Dr.tup {H0 H : Hp} {m c l0 l : Addr} {k k0 : Int} {a : Addr} {xs : List V} (d : Dr H0 H m c l0 l k) (M : MAt H0 m c l0 k0) (e : H0 a = some (.tup xs)) : H a = some (.tup xs) := by
  obtain ⟨ls, hl, _⟩ := M.hl
  exact d.kp a _ e (ne_of e M.hm (fun z => by cases z)) (ne_of e hl (fun z => by cases z))
theorem Dr.fr {H0 H : Hp} {m c l0 l : Addr} {k k0 : Int} {f : Addr} {fr : List T3} (d : Dr H0 H m c l0 l k) (M : MAt H0 m c l0 k0) (h : FrA H0 f fr) : FrA H f fr := by
  obtain ⟨ts, e, l, cc⟩ := h
  exact ⟨ts, d.tup M e, l, fun i t x h1 h2 => d.tup M (cc i t x h1 h2)⟩
/-- another list stays, and is none of the draws' own -/
theorem Dr.lst {H H' : Hp} {m c l l' : Addr} {k k0 : Int} {a : Addr} {xs : List V} (d : Dr H H' m c l l' k) (M : MAt H m c l k0) (e : H a = some (.lst xs)) (ne : a ≠ l) : H' a = some (.lst xs) ∧ a ≠ l' := by
  refine ⟨d.kp a _ e (ne_of e M.hm (fun z => by cases z)) ne, ?_⟩
  rcases d.hl with z | z
  · rw [z]
    exact ne
  · exact ne_of_none e z
/-- a draw, as spNext wants it -/
theorem dr_next {H : Hp} {m c l : Addr} {k n : Int} {Q : VK} {E : XK} (M : MAt H m c l k) (hn : 0 < n) (hn1 : n < 1073741824) (hk : k < 900000)
    (q : ∀ (r : Int) (H' : Hp) (l' : Addr) (k' : Int), 0 ≤ r → r < n → k' ≤ k + 1 → Dr H H' m c l l' k' → Q (.int r) H') : spNext [.ref m, .int n] H Q E :=
  ⟨m, c, l, k, n, rfl, M, hn, hn1, by omega, fun r H' l' k' r0 r1 kk M' fl kp => q r H' l' k' r0 r1 kk ⟨M', fl, kp⟩⟩
theorem MAt.l_some {H : Hp} {m c l : Addr} {k : Int} (M : MAt H m c l k) {a : Addr} (h : H a = none) : a ≠ l := by
  obtain ⟨ls, hl, _⟩ := M.hl
  exact (ne_of_none hl h).symm
theorem sl_app (a b : Str) : sl (a ++ b) = sl a ++ sl b := by
  show (Str.append a b).cps.toList = _
  simp [Str.append]
theorem sl_empty : sl ("" : Str) = [] := by decide +kernel
theorem sl_join : ∀ ys : List Str, sl (Str.join "" ys) = (ys.map sl).flatten
  | [] => rfl
  | [x] => by
    show sl x = _
    simp
  | x :: y :: r => by
    show sl (x ++ "" ++ Str.join "" (y :: r)) = _
    rw [sl_app, sl_app, sl_empty, sl_join (y :: r)]
    simp
theorem txt_join (ys : List Str) : sl (Txt.join "" ys) = (ys.map sl).flatten := by
  have z := PyProof.Rows.join_plain_closes "" ys
  rw [eq_of_beq z, sl_join]
theorem flat_one {ys : List Str} (h : ∀ y ∈ ys, ∃ c, y = ⟨#[c]⟩ ∧ c ∈ Ltr) : (∀ c, c ∈ (ys.map sl).flatten → c ∈ Ltr) ∧ ((ys.map sl).flatten).length = ys.length := by
  induction ys with
  | nil => exact ⟨fun c h => (by cases h), rfl⟩
  | cons y ys ih =>
    obtain ⟨c, e, hc⟩ := h y (List.mem_cons_self ..)
    have e2 : sl y = [c] := by rw [e]
    obtain ⟨h1, h2⟩ := ih fun y hy => h y (List.mem_cons_of_mem _ hy)
    rw [List.map_cons, List.flatten_cons, e2]
    refine ⟨fun d hd => ?_, ?_⟩
    · rcases List.mem_append.mp hd with hd | hd
      · have e : d = c := by simpa using hd
        rw [e]
        exact hc
      · exact h1 d hd
    · rw [List.length_append, h2, List.length_cons, List.length_cons, List.length_nil]
      omega
theorem MAt.upd {H : Hp} {m c l D : Addr} {k : Int} {o : HO} (M : MAt H m c l k) (hm : D ≠ m) (hc : D ≠ c) (hl : D ≠ l) : MAt (L2.upd H D o) m c l k := by
  obtain ⟨h1, ⟨cs, h2, h3⟩, ⟨ls0, h4, h5⟩, h6, h7, h8⟩ := M
  exact ⟨by rw [upd_ne hm.symm]; exact h1, ⟨cs, by rw [upd_ne hc.symm]; exact h2, h3⟩, ⟨ls0, by rw [upd_ne hl.symm]; exact h4, h5⟩, h6, h7, h8⟩
theorem MAt.c_some {H : Hp} {m c l : Addr} {k : Int} (M : MAt H m c l k) {a : Addr} (h : H a = none) : a ≠ c := by
  obtain ⟨ls, hl, _⟩ := M.hc
  exact (ne_of_none hl h).symm
def spPiece : Sp := fun vs H Q _ => ∃ (m c l : Addr) (k : Int) (last : Bool), vs = [.ref m, .bl last] ∧ MAt H m c l k ∧ k < 800000 ∧
  ∀ (p : Str) (H' : Hp) (l' : Addr) (k' : Int), PcL p last → k' ≤ k + 20 → Dr H H' m c l l' k' → Q (.str p) H'
section
variable {P : Program} {w : World} {K : PySem.W.Frag} {mg : Str → Option Value} {base : Heap}
structure Ls (K : PySem.W.Frag) (mg : Str → Option Value) where
  f1 : Addr
  d1 : FuncData
  N : Fun K "_law_next" "_law_next" sNext f1 d1
  bN : Binds K d1 ["m", "many"] []
  mN : mg "_law_next" = some (.ref f1)
  T : TxtD mg
  ra : mg "range" = none
  f2 : Addr
  d2 : FuncData
  P : Fun K "_law_piece" "_law_piece" sPiece f2 d2
  bP : Binds K d2 ["m", "is_end"] []
  mP : mg "_law_piece" = some (.ref f2)
theorem scPiece : FnScope ["m", "is_end", "many", "k", "found"] ["m", "is_end"] (defScope sPiece) := ⟨rfl, rfl, rfl, by decide +kernel, rfl, by decide +kernel, by decide +kernel⟩
theorem aba : sl ("ab@a" : Str) = [97, 98, 64, 97] := by decide +kernel
theorem aba_sgs : ∀ c ∈ sl ("ab@a" : Str), c ∈ Ltr := by decide +kernel
theorem sum_one : ∀ zs : List Str, (∀ y ∈ zs, ∃ c, y = ⟨#[c]⟩ ∧ c ∈ Ltr) → (zs.map (·.length)).sum = zs.length := by
  intro zs
  induction zs with
  | nil => exact fun _ => rfl
  | cons y zs ih =>
    intro h
    obtain ⟨c, e, _⟩ := h y (List.mem_cons_self ..)
    have e2 : y.length = 1 := by rw [e]; rfl
    rw [List.map_cons, List.sum_cons, e2, ih fun y hy => h y (List.mem_cons_of_mem _ hy), List.length_cons]
    omega
theorem ok_piece (L : Ls K mg) : FnOk P w K mg base CX0 2 L.f2 L.d2 ["m", "is_end"] spPiece := by
  have GX : FnOk P w K mg base CX0 1 L.f1 L.d1 ["m", "many"] spNext := ok_next L.N L.T
  refine L.P.ok scPiece (fun vs H Q E h => ?_) (fun cdv A outer s H vs Q E hr h => ?_)
  · obtain ⟨m, c, l, k, last, rfl, _⟩ := h
    rfl
  · obtain ⟨m, c, l, k, last, rfl, M, hk, q⟩ := h
    refine ⟨_, pss_cons (ps_set (i := 2) scPiece.nd rfl (Or.inl rfl) (pe_ifExp (pt_val (pv 1)) (pe_call GX hr (by rfl) L.mN L.N.kp L.bN .nil pass0 (pa_cons (pv 0) (pa_cons pe_int pa_nil))) (pe_op op_add pe_int (pe_call GX hr (by rfl) L.mN L.N.kp L.bN .nil pass0 (pa_cons (pv 0) (pa_cons pe_int pa_nil))))))
      (pss_cons (ps_set (i := 4) scPiece.nd rfl (Or.inl rfl) (pe_m1 PySem.F.slot_str_join PySem.F.type_str_join mt_join pe_str (pe_lc (own := [("k", 3)]) (g := gName 3) rfl scPiece.nd (pi_range1 (by rfl) L.ra (pa_cons (pv 2) pa_nil))
        (blkOk_by (N := ["m", "is_end", "many", "k", "found"]) (sc := defScope sPiece) (by decide +kernel))
        (fun _ _ _ _ _ => pg_name (i := 3) scPiece.nd rfl (Or.inl rfl)) (fun _ _ _ _ _ => pts_nil)
        (fun _ _ _ _ _ => pe_ix ix_str pe_str (pe_call GX hr (by rfl) L.mN L.N.kp L.bN .nil pass0 (pa_cons (pv 0) (pa_cons pe_int pa_nil))) (fun _ _ => rfl)))))
      (pss_one (ps_ret (pe_ifExp (pt_val (pv 1)) (pe_op op_add_str (pv 4) pe_str) (pv 4))))), ?_⟩
    have fin : ∀ (H4 : Hp) (l4 : Addr) (k4 : Int) (ys : List Str), (∀ y ∈ ys, ∃ c, y = ⟨#[c]⟩ ∧ c ∈ Ltr) → ys.length ≤ 2 → (last = false → 1 ≤ ys.length) → k4 ≤ k + 20 → Dr H H4 m c l l4 k4 →
        (last = false → Q (.str (Txt.join "" ys)) H4) ∧ (last = true → Q (.str (Txt.join "" ys ++ ";")) H4) := by
      intro H4 l4 k4 ys hy l2 l1 kk d4
      obtain ⟨w1, w2⟩ := flat_one hy
      rw [← txt_join] at w1 w2
      refine ⟨fun e => ?_, fun e => ?_⟩
      · subst e
        exact q _ H4 l4 k4 ⟨⟨sl (Txt.join "" ys), by rw [if_neg (by simp), List.append_nil], by rw [w2, if_neg (by simp)]; omega, fun c hc => ltr_sgs c (w1 c hc), fun _ e => by have := l1 rfl; rw [e] at w2; simp at w2; omega⟩, by rw [w2, if_neg (by simp)]; exact l2, fun c hc => .inl (w1 c hc)⟩ kk d4
      · subst e
        exact q _ H4 l4 k4 ⟨⟨sl (Txt.join "" ys), by rw [sl_app, semi, if_pos rfl], by rw [w2, if_pos rfl]; omega, fun c hc => ltr_sgs c (w1 c hc), fun e => by cases e⟩, by rw [sl_app, semi, List.length_append, w2, if_pos rfl]; simp only [List.length_cons, List.length_nil]; omega, fun c hc => by
          rw [sl_app, semi] at hc
          rcases List.mem_append.mp hc with z | z
          · exact .inl (w1 c z)
          · exact .inr (List.mem_singleton.mp z)⟩ kk d4
    have z0 : ("" : Str).length = 0 := by decide +kernel
    have l4 : ("ab@a" : Str).length = 4 := by decide +kernel
    cases last
    · refine ⟨_, rfl, _, rfl, iteF ⟨_, rfl, m, c, l, k, 2, rfl, M, by decide, by decide, by omega, fun r1 H1 l1 k1 a1 b1 g1 N1 f1 q1 => ⟨1, r1, rfl, rfl, ?_⟩⟩⟩
      have d1 : Dr H H1 m c l l1 k1 := ⟨N1, f1, q1⟩
      refine ⟨⟨_, rfl⟩, _, rfl, 1 + r1, rfl, by omega, by omega, fun D hD => ?_⟩
      have D4 := d1.same (same_upd (o := HO.lst []) hD)
      have nD := d1.at_.l_some hD
      refine lc_it walk_range (fun i H' => ∃ (ys : List Str) (l' : Addr) (k' : Int), H' D = some (.lst (ys.map V.str)) ∧ D ≠ l' ∧ ys.length = i ∧ (∀ y ∈ ys, ∃ c, y = ⟨#[c]⟩ ∧ c ∈ Ltr) ∧ k' ≤ k1 + i ∧ MAt H' m c l' k' ∧ (l' = l ∨ H l' = none) ∧ ∀ b o, H b = some o → b ≠ m → b ≠ l → H' b = some o)
        ⟨[], l1, k1, upd_same, nD, rfl, (fun y h => by cases h), by omega, D4.at_, D4.hl, D4.kp⟩ (fun _ _ _ _ => trivial) ?_ ?_
      · rintro i x H4 H5 hi ⟨ys, l5, k4, hl, nl, ly, hy, kk, M4, f4, q4⟩ ⟨rfl, rfl⟩
        have d0 : Dr H H5 m c l l5 k4 := ⟨M4, f4, q4⟩
        have hi7 : i < 2 := by omega
        refine ⟨rfl, _, rfl, m, c, l5, k4, 4, rfl, M4, by decide, by decide, by omega, fun r5 H6 l6 k6 a6 b6 g6 N6 f6 q6 => ?_⟩
        have d6 : Dr H5 H6 m c l5 l6 k6 := ⟨N6, f6, q6⟩
        obtain ⟨e6, n6⟩ := d6.lst M4 hl nl
        obtain ⟨j, rfl⟩ := Int.eq_ofNat_of_zero_le a6
        have js : j < (sl ("ab@a" : Str)).length := by rw [← len_sl, l4]; omega
        refine ⟨"ab@a", (j : Int), (sl ("ab@a" : Str))[j], rfl, rfl, by rw [l4, sizeLine_eq]; omega, atI_nat (List.getElem?_eq_getElem js), _, e6, ?_, ?_⟩
        · rw [List.length_map, ly, sizeLine_eq]
          omega
        · have dk := d0.trans d6
          have hDm : D ≠ m := ne_of e6 N6.hm (fun z => by cases z)
          refine ⟨ys ++ [⟨#[(sl ("ab@a" : Str))[j]]⟩], l6, k6, ?_, n6, by rw [List.length_append, ly]; rfl, fun y h => ?_, by omega, ?_, dk.hl, fun b o z h1 h2 => ?_⟩
          · rw [List.map_append]
            exact upd_same
          · rcases List.mem_append.mp h with h | h
            · exact hy y h
            · exact ⟨_, by simpa using h, aba_sgs _ (List.getElem_mem js)⟩
          · exact N6.upd hDm (d1.at_.c_some hD) n6
          · rw [upd_ne (ne_of_none (d1.kp b o z h1 h2) hD)]
            exact dk.kp b o z h1 h2
      · rintro H4 ⟨ys, l5, k4, hl, nl, ly, hy, kk, M4, f4, q4⟩
        have d4 : Dr H H4 m c l l5 k4 := ⟨M4, f4, q4⟩
        have fn := fin H4 l5 k4 ys hy (by omega) (fun h => by first | omega | cases h) (by omega) d4
        refine ⟨"", D, ys, rfl, rfl, .inl (SqL.of hl), by rw [sum_one ys hy, z0]; omega, ?_⟩
        exact ⟨_, rfl, _, rfl, iteF ⟨_, rfl, fn.1 rfl⟩⟩
    · refine ⟨_, rfl, _, rfl, iteT ⟨_, rfl, m, c, l, k, 3, rfl, M, by decide, by decide, by omega, fun r1 H1 l1 k1 a1 b1 g1 N1 f1 q1 => ?_⟩⟩
      have d1 : Dr H H1 m c l l1 k1 := ⟨N1, f1, q1⟩
      refine ⟨⟨_, rfl⟩, _, rfl, r1, rfl, by omega, by omega, fun D hD => ?_⟩
      have D4 := d1.same (same_upd (o := HO.lst []) hD)
      have nD := d1.at_.l_some hD
      refine lc_it walk_range (fun i H' => ∃ (ys : List Str) (l' : Addr) (k' : Int), H' D = some (.lst (ys.map V.str)) ∧ D ≠ l' ∧ ys.length = i ∧ (∀ y ∈ ys, ∃ c, y = ⟨#[c]⟩ ∧ c ∈ Ltr) ∧ k' ≤ k1 + i ∧ MAt H' m c l' k' ∧ (l' = l ∨ H l' = none) ∧ ∀ b o, H b = some o → b ≠ m → b ≠ l → H' b = some o)
        ⟨[], l1, k1, upd_same, nD, rfl, (fun y h => by cases h), by omega, D4.at_, D4.hl, D4.kp⟩ (fun _ _ _ _ => trivial) ?_ ?_
      · rintro i x H4 H5 hi ⟨ys, l5, k4, hl, nl, ly, hy, kk, M4, f4, q4⟩ ⟨rfl, rfl⟩
        have d0 : Dr H H5 m c l l5 k4 := ⟨M4, f4, q4⟩
        have hi7 : i < 2 := by omega
        refine ⟨rfl, _, rfl, m, c, l5, k4, 4, rfl, M4, by decide, by decide, by omega, fun r5 H6 l6 k6 a6 b6 g6 N6 f6 q6 => ?_⟩
        have d6 : Dr H5 H6 m c l5 l6 k6 := ⟨N6, f6, q6⟩
        obtain ⟨e6, n6⟩ := d6.lst M4 hl nl
        obtain ⟨j, rfl⟩ := Int.eq_ofNat_of_zero_le a6
        have js : j < (sl ("ab@a" : Str)).length := by rw [← len_sl, l4]; omega
        refine ⟨"ab@a", (j : Int), (sl ("ab@a" : Str))[j], rfl, rfl, by rw [l4, sizeLine_eq]; omega, atI_nat (List.getElem?_eq_getElem js), _, e6, ?_, ?_⟩
        · rw [List.length_map, ly, sizeLine_eq]
          omega
        · have dk := d0.trans d6
          have hDm : D ≠ m := ne_of e6 N6.hm (fun z => by cases z)
          refine ⟨ys ++ [⟨#[(sl ("ab@a" : Str))[j]]⟩], l6, k6, ?_, n6, by rw [List.length_append, ly]; rfl, fun y h => ?_, by omega, ?_, dk.hl, fun b o z h1 h2 => ?_⟩
          · rw [List.map_append]
            exact upd_same
          · rcases List.mem_append.mp h with h | h
            · exact hy y h
            · exact ⟨_, by simpa using h, aba_sgs _ (List.getElem_mem js)⟩
          · exact N6.upd hDm (d1.at_.c_some hD) n6
          · rw [upd_ne (ne_of_none (d1.kp b o z h1 h2) hD)]
            exact dk.kp b o z h1 h2
      · rintro H4 ⟨ys, l5, k4, hl, nl, ly, hy, kk, M4, f4, q4⟩
        have d4 : Dr H H4 m c l l5 k4 := ⟨M4, f4, q4⟩
        have fn := fin H4 l5 k4 ys hy (by omega) (fun h => by first | omega | cases h) (by omega) d4
        refine ⟨"", D, ys, rfl, rfl, .inl (SqL.of hl), by rw [sum_one ys hy, z0]; omega, ?_⟩
        refine ⟨_, rfl, _, rfl, iteT ⟨_, rfl, _, ";", rfl, rfl, ?_, fn.2 rfl⟩⟩
        have z := (flat_one hy).2
        rw [← txt_join] at z
        rw [semi1, sizeLine_eq, len_sl]
        omega
end
end K10

set_option Elab.async false
set_option linter.all false
set_option maxRecDepth 100000
set_option maxHeartbeats 4000000
/-! Sets of tuples whose items are of any kind of keys: what is asked of such a tuple; the rows of a set. -/
namespace SX
open PySem PySem.Spec PyProof.Rows L2
/-- what is carried by value is of no class, and whether it hashes by value is told at once -/
theorem plain_cls {v : Value} (h : carriedByValue v = true) (n : Nat) : ofAClassStatement n v = pure false := by
  cases v with
  | ref a => simp [carriedByValue] at h
  | _ => cases n <;> rfl
theorem plain_byv {v : Value} (h : carriedByValue v = true) (n : Nat) : ∃ c : Bool, hashByValue n v = pure c := by
  cases v with
  | ref a => simp [carriedByValue] at h
  | _ => cases n <;> exact ⟨_, rfl⟩
section
variable {prog : Program} {w : World} {I : Type} [DecidableEq I] {knd : KeyKind prog w I} {A : Around} {E : Value → Shared → Prop} {s : Shared}
theorem tup_cls {ks : List I} {x : Addr} {Q : Bool → Shared → Prop} (tx : IsTupleKey knd s.heap ks x) (q : Q false s) : wpAny (model prog w) A (ofAClassStatement 8 (.ref x)) Q E s := by
  have ty := tx.typeIs
  obtain ⟨ob, vs, len, at_, _, dt, its⟩ := tx
  unfold ofAClassStatement
  refine wpAny_bind (wpAny_typeOf ty ?_)
  dsimp only
  rw [show (("tuple" : String) == "tuple") = true by decide]
  simp only [if_true, Bool.not_true, Bool.false_eq_true, if_false]
  first
    | skip
  try refine wpAny_bind (wpAny_pure ?_)
  try simp only [Bool.not_true, Bool.false_eq_true, if_false]
  show wpAny _ _ (seqItems? (.ref x) >>= _) _ _ s
  refine wpAny_bind (wpAny_seqItems at_ dt ?_)
  dsimp only
  refine wpAny_bind ?_
  show wpAny _ _ (forIn vs _ _) _ _ s
  rw [← Array.forIn_toList]
  refine wpAny_forIn_list _ (fun more acc s' => acc.1 = none ∧ s' = s ∧ ∀ v ∈ more, carriedByValue v = true) _ (fun v more acc s' ⟨h1, h2, h3⟩ => ?_) (fun acc s' ⟨h1, h2, _⟩ => ?_) _ _ ⟨rfl, rfl, its.byValue⟩
  · subst h2
    rw [plain_cls (h3 v (List.mem_cons_self ..))]
    refine wpAny_bind (wpAny_pure ?_)
    simp only [Bool.false_eq_true, if_false]
    exact wpAny_pure ⟨rfl, rfl, fun u hu => h3 u (List.mem_cons_of_mem _ hu)⟩
  · obtain ⟨a1, a2⟩ := acc
    subst h2
    simp only at h1
    subst h1
    exact wpAny_pure q
theorem tup_byv {ks : List I} {x : Addr} {Q : Bool → Shared → Prop} (tx : IsTupleKey knd s.heap ks x) (q : ∀ c, Q c s) : wpAny (model prog w) A (hashByValue 8 (.ref x)) Q E s := by
  have ty := tx.typeIs
  obtain ⟨ob, vs, len, at_, _, dt, its⟩ := tx
  unfold hashByValue
  refine wpAny_bind (wpAny_specialOf ty F.slot_tuple_hash.lookup ?_)
  show wpAny _ _ (seqItems? (.ref x) >>= _) _ _ s
  refine wpAny_bind (wpAny_seqItems at_ dt ?_)
  refine wpAny_bind ?_
  show wpAny _ _ (forIn vs _ _) _ _ s
  rw [← Array.forIn_toList]
  refine wpAny_forIn_list _ (fun more acc s' => s' = s ∧ ∀ v ∈ more, carriedByValue v = true) _ (fun v more acc s' ⟨h2, h3⟩ => ?_) (fun acc s' ⟨h2, _⟩ => ?_) _ _ ⟨rfl, its.byValue⟩
  rotate_left
  · obtain ⟨a1, a2⟩ := acc
    subst h2
    cases a1 with
    | none => exact wpAny_pure (q true)
    | some c => exact wpAny_pure (q c)
  subst h2
  obtain ⟨c, ec⟩ := plain_byv (h3 v (List.mem_cons_self ..)) 7
  rw [ec]
  refine wpAny_bind (wpAny_pure ?_)
  cases c with
  | true =>
    simp only [Bool.not_true, Bool.false_eq_true, if_false]
    exact wpAny_pure ⟨rfl, fun u hu => h3 u (List.mem_cons_of_mem _ hu)⟩
  | false =>
    simp only [Bool.not_false, if_true]
    exact wpAny_pure (wpAny_pure (q false))
theorem tup_unseen {ks : List I} {x : Addr} {Q : Bool → Shared → Prop} (tx : IsTupleKey knd s.heap ks x) {vs : List Value} (hv : ∀ v ∈ vs, ∃ (ls : List I) (y : Addr), v = .ref y ∧ IsTupleKey knd s.heap ls y) (q : Q false s) :
    wpAny (model prog w) A (searchCouldBeSeen (.ref x) vs) Q E s := by
  unfold searchCouldBeSeen
  refine wpAny_bind ?_
  refine wpAny_forIn_list _ (fun more acc s' => acc.1 = none ∧ s' = s ∧ ∀ v ∈ more, ∃ (ls : List I) (y : Addr), v = .ref y ∧ IsTupleKey knd s.heap ls y) _ (fun v more acc s' ⟨h1, h2, h3⟩ => ?_) (fun acc s' ⟨h1, h2, _⟩ => ?_) _ _ ⟨rfl, rfl, hv⟩
  · subst h2
    obtain ⟨ls, y, rfl, ty⟩ := h3 v (List.mem_cons_self ..)
    have on : ∀ u ∈ more, ∃ (ls : List I) (y : Addr), u = .ref y ∧ IsTupleKey knd s'.heap ls y := fun u hu => h3 u (List.mem_cons_of_mem _ hu)
    dsimp only
    by_cases c : (x == y || (carriedByValue (.ref x) && carriedByValue (.ref y))) = true
    · exact wp_if_pos c (wpAny_pure ⟨rfl, rfl, on⟩)
    · refine wp_if_neg c (wpAny_bind (wpAny_eqIsQuiet_tuple tx ?_))
      simp only [Bool.not_true, Bool.false_eq_true, if_false]
      refine wpAny_bind (wpAny_eqIsQuiet_tuple ty ?_)
      simp only [Bool.not_true, Bool.false_eq_true, if_false]
      refine wpAny_bind (tup_cls tx ?_)
      simp only [Bool.false_eq_true, if_false]
      refine wpAny_bind (tup_cls ty ?_)
      simp only [Bool.false_eq_true, if_false]
      exact wpAny_pure ⟨rfl, rfl, on⟩
  · obtain ⟨a1, a2⟩ := acc
    subst h2
    simp only at h1
    subst h1
    exact wpAny_pure q
end
end SX

set_option Elab.async false
set_option linter.all false
set_option maxRecDepth 100000
set_option maxHeartbeats 4000000
/-! Sets of tuples of any keys: looking one up. -/
namespace SX
open PySem PySem.Spec PyProof.Rows L2
section
variable {prog : Program} {w : World} {I : Type} [DecidableEq I]
def rws (knd : KeyKind prog w I) (L : List (Addr × List I)) : List (Int × Value) := L.map fun e => (tupleKeyHash knd e.2, Value.ref e.1)
/-- the set at a: its table is right for the hashes of the tuples of L -/
structure Tbl (knd : KeyKind prog w I) (h : Heap) (a : Addr) (L : List (Addr × List I)) (es : Array (Int × Value)) (ep : Nat) (t : SetTable) : Prop where
  obj : ∃ o, h.get? a = some o ∧ o.ExactSet ∧ o.data = .set es ep t
  rw_ : es.toList = rws knd L
  tb : TabOk t (L.map fun e => tupleKeyHash knd e.2)
  dif : (L.map (·.2)).Nodup
  tps : ∀ e ∈ L, IsTupleKey knd h e.2 e.1
  ord : w.params.followText "set-order" = true ∨ t.led = true
  free : L.length * 5 < t.mask * 3
  few : L.length < 64
variable {knd : KeyKind prog w I} {A : Around} {E : Value → Shared → Prop} {s : Shared} {h : Heap} {a : Addr} {L : List (Addr × List I)} {es : Array (Int × Value)} {ep : Nat} {t : SetTable}
theorem Tbl.many (T : Tbl knd h a L es ep t) : es.size = L.length := by
  have e := T.rw_
  rw [← Array.length_toList, e]
  unfold rws
  exact List.length_map ..
theorem Tbl.fits (T : Tbl knd h a L es ep t) : t.fits es.size = true := by
  have z1 := T.tb.sz
  have z2 := T.many
  have z3 := T.free
  rw [List.length_map] at z1
  unfold SetTable.fits SetTable.fill
  rw [T.tb.dm, Bool.and_eq_true, beq_iff_eq, decide_eq_true_eq]
  refine ⟨?_, ?_⟩
  · show t.place.size = es.size
    omega
  · show t.place.size + 0 ≤ t.mask
    omega
theorem Tbl.at_ (T : Tbl knd h a L es ep t) {i : Nat} {e : Addr × List I} (hi : L[i]? = some e) : es[i]? = some (tupleKeyHash knd e.2, Value.ref e.1) := by
  have z : es.toList[i]? = some (tupleKeyHash knd e.2, Value.ref e.1) := by
    rw [T.rw_]
    unfold rws
    rw [List.getElem?_map, hi]
    rfl
  rwa [Array.getElem?_toList] at z
theorem Tbl.still (T : Tbl knd h a L es ep t) : ¬ t.gaveWay = true := by
  have z := mask_odd T.tb.mok
  unfold SetTable.gaveWay
  rw [z]
  decide
theorem nth_dummy {m : Nat} : ∀ (n : Nat) (p : SetTable.Probe), p.dummy = none → (nth m p n).dummy = none
  | 0, _, e => e
  | n + 1, p, e => nth_dummy n (adv m p) (by
    unfold adv
    split
    · exact e
    · exact e)
abbrev begun (t : SetTable) (g : Int) : SetTable.Probe := runAt t.mask (SetTable.bits g % (t.mask + 1)) (SetTable.bits g)
theorem place_row (T : Tbl knd h a L es ep t) {i j : Nat} (hj : t.place.toList[i]? = some j) : ∃ e, L[i]? = some e ∧ e ∈ L := by
  have l1 := (List.getElem?_eq_some_iff.mp hj).1
  have l2 := T.tb.sz
  rw [List.length_map, ← Array.length_toList] at l2
  have l3 : i < L.length := by omega
  exact ⟨L[i], List.getElem?_eq_getElem l3, List.getElem_mem l3⟩
theorem seek {ks : List I} {x : Addr} (T : Tbl knd s.heap a L es ep t) (tx : IsTupleKey knd s.heap ks x) (hu : A.units < cLine) {n : Nat} (n0 : n < 10 * SetTable.turns t.mask) (fr : way t.mask (tupleKeyHash knd ks) n ∉ t.place.toList)
    (fu : ∀ c, c < n → way t.mask (tupleKeyHash knd ks) c ∈ t.place.toList) {Q : SetFound → Shared → Prop} (yes : ks ∈ L.map (·.2) → Q (.there none) s) (no : ks ∉ L.map (·.2) → Q (.free (way t.mask (tupleKeyHash knd ks) n) false) s) :
    ∀ (f c : Nat) (st : Option SetTable.Probe), st.getD (t.probeStart (tupleKeyHash knd ks)) = nth t.mask (begun t (tupleKeyHash knd ks)) c → c ≤ n → n - c < f →
      (∀ (i : Nat) e, L[i]? = some e → e.2 = ks → ∃ d, c ≤ d ∧ d < n ∧ t.place.toList[i]? = some (way t.mask (tupleKeyHash knd ks) d)) →
      wpAny (model prog w) A (setSearchFrom a (.ref x) (tupleKeyHash knd ks) true f st) Q E s := by
  intro f
  induction f with
  | zero =>
    intro c st _ _ z
    omega
  | succ f ih =>
    intro c st hst hc hf hr
    obtain ⟨ob, oa, ox, od⟩ := T.obj
    generalize hg : tupleKeyHash knd ks = g at *
    rw [setSearchFrom_succ]
    refine wpAny_bind (wpAny_setState_of oa od T.fits ?_)
    dsimp only
    refine wp_if_neg T.still ?_
    try refine wpAny_bind (wpAny_pure ?_)
    have mv : ∀ q, nth t.mask (nth t.mask (begun t g) c) q = nth t.mask (begun t g) (c + q) := fun q => (nth_add t.mask c _ q).symm
    have mj : ∀ q, (nth t.mask (nth t.mask (begun t g) c) q).j = way t.mask g (c + q) := fun q => by rw [mv]
    have hash : ∀ (i : Nat) e, L[i]? = some e → (es[i]?.map (·.1)).getD 0 = tupleKeyHash knd e.2 := fun i e hi => by
      rw [T.at_ hi]
      rfl
    have sp := go_spec t T.tb.ris T.tb.dm (fun i => (es[i]?.map (·.1)).getD 0) g (10 * SetTable.turns t.mask) (n - c) (nth t.mask (begun t g) c) (nth_dummy c _ rfl) (by omega)
      (fun q hq => by
        rw [mj]
        exact fu _ (by omega)) (by
        rw [mj, show c + (n - c) = n by omega]
        exact fr)
    rcases sp with ⟨q, i, hq, hi, hh, ho, hp⟩ | ⟨ho, hp⟩
    · have hp2 : t.probe (fun i => (es[i]?.map (·.1)).getD 0) g (st.getD (t.probeStart g)) = some (.candidate (way t.mask g (c + q)) i (nth t.mask (begun t g) (c + (q + 1)))) := by
        rw [hst, ← mj, ← mv]
        exact hp
      rw [hp2]
      dsimp only
      rw [mj] at hi
      obtain ⟨e, he, em⟩ := place_row T hi
      have te := T.tps e em
      have sl : t.slot (way t.mask g (c + q)) = .live i := slot_live T.tb.ris hi
      have main : wpAny (model prog w) A (searchRest a (.ref x) g true f es t (way t.mask g (c + q)) i (nth t.mask (begun t g) (c + (q + 1)))) Q E s := by
        unfold searchRest
        rw [T.at_ he]
        dsimp only
        refine wpAny_bind (wpAny_holding (wpAny_eqBool_tuple hu te tx ?_))
        refine wpAny_bind (wpAny_setState_of oa od T.fits ?_)
        dsimp only
        by_cases same : e.2 = ks
        · exact wp_if_pos (by simp [same]) (wpAny_pure (yes (List.mem_map.mpr ⟨e, em, same⟩)))
        · refine wp_if_neg (by simp [same]) ?_
          try refine wpAny_bind (wpAny_pure ?_)
          rw [sameMem]
          dsimp only
          simp only [if_true, sl, T.at_ he]
          refine wpAny_bind (wpAny_isSame_ref_self (wpAny_bind (wpAny_pure ?_)))
          simp only [if_true]
          refine wp_if_neg (by simp [same]) (ih (c + (q + 1)) _ rfl (by omega) (by omega) fun i0 e0 h0 k0 => ?_)
          obtain ⟨d, d1, d2, d3⟩ := hr i0 e0 h0 k0
          refine ⟨d, ?_, d2, d3⟩
          by_cases lt : d < c + q
          · have z := ho (d - c) i0 (by omega) (by
              rw [mj, show c + (d - c) = d by omega]
              exact d3)
            exact absurd ((hash i0 e0 h0).trans (by rw [k0, hg])) z
          · by_cases gt : c + q < d
            · omega
            · have de : d = c + q := by omega
              rw [de] at d3
              have s0 := slot_live T.tb.ris d3
              rw [sl] at s0
              injection s0 with s0
              rw [← s0, he] at h0
              cases h0
              exact absurd k0 same
      by_cases l : t.led = true
      · refine wp_if_neg (by simp [l]) ?_
        try refine wpAny_bind (wpAny_pure ?_)
        exact main
      · refine wp_if_pos (by simp [l]) (wpAny_bind (tup_unseen tx (fun y hy => ?_) ?_))
        · obtain ⟨r, hr1, hr2⟩ := List.mem_map.mp hy
          have hr3 : r ∈ es ∧ r.1 = g := by simpa using hr1
          have hr4 : r ∈ es.toList := by simpa using hr3.1
          rw [T.rw_] at hr4
          obtain ⟨e2, he2, re⟩ := List.mem_map.mp (show r ∈ L.map fun e => (tupleKeyHash knd e.2, Value.ref e.1) from hr4)
          exact ⟨e2.2, e2.1, by rw [← hr2, ← re], T.tps e2 he2⟩
        · refine wp_if_neg (by decide) ?_
          try refine wpAny_bind (wpAny_pure ?_)
          exact main
    · have hp2 : t.probe (fun i => (es[i]?.map (·.1)).getD 0) g (st.getD (t.probeStart g)) = some (.empty (way t.mask g n) none) := by
        have z := mj (n - c)
        rw [show c + (n - c) = n by omega] at z
        rw [hst, ← z]
        exact hp
      rw [hp2]
      dsimp only
      refine wpAny_pure (no fun hm => ?_)
      obtain ⟨e0, m0, k0⟩ := List.mem_map.mp hm
      obtain ⟨i0, l0, ei⟩ := List.getElem_of_mem m0
      have h0 : L[i0]? = some e0 := by rw [List.getElem?_eq_getElem l0, ei]
      obtain ⟨d, d1, d2, d3⟩ := hr i0 e0 h0 k0
      have z := ho (d - c) i0 (by omega) (by
        rw [mj, show c + (d - c) = d by omega]
        exact d3)
      exact absurd ((hash i0 e0 h0).trans (by rw [k0, hg])) z
/-- looked up as adding does -/
theorem looked {ks : List I} {x : Addr} (T : Tbl knd s.heap a L es ep t) (tx : IsTupleKey knd s.heap ks x) (hu : A.units < cLine) {Q : SetFound → Shared → Prop} (yes : ks ∈ L.map (·.2) → Q (.there none) s)
    (no : ∀ n, ks ∉ L.map (·.2) → way t.mask (tupleKeyHash knd ks) n ∉ t.place.toList → (∀ c, c < n → way t.mask (tupleKeyHash knd ks) c ∈ t.place.toList) → Q (.free (way t.mask (tupleKeyHash knd ks) n) false) s) :
    wpAny (model prog w) A (setSearch a (.ref x) (tupleKeyHash knd ks) true) Q E s := by
  have fre := T.free
  obtain ⟨n, n1, n2, n3⟩ := T.tb.first (by rw [List.length_map]; omega) (tupleKeyHash knd ks)
  have n4 : n < 100000 := by
    have z : SetTable.turns t.mask ≤ 142 := by
      unfold SetTable.turns
      rcases T.tb.mok with e | e | e <;> omega
    omega
  unfold setSearch
  refine seek T tx hu n1 n2 n3 yes (fun m => no n m n2 n3) 100000 0 none rfl (Nat.zero_le _) (by omega) fun i e he ek => ?_
  have hh : (L.map fun e => tupleKeyHash knd e.2)[i]? = some (tupleKeyHash knd ks) := by
    rw [List.getElem?_map, he, ← ek]
    rfl
  have hl : i < t.place.toList.length := by
    have l1 := (List.getElem?_eq_some_iff.mp he).1
    have l2 := T.tb.sz
    rw [List.length_map, ← Array.length_toList] at l2
    omega
  obtain ⟨d, d1, d2⟩ := T.tb.before n2 hh (List.getElem?_eq_getElem hl)
  exact ⟨d, Nat.zero_le _, d1, by rw [List.getElem?_eq_getElem hl, d2]⟩
end
end SX

set_option Elab.async false
set_option linter.all false
set_option maxRecDepth 100000
set_option maxHeartbeats 4000000
/-! Sets of tuples of any keys: putting one in. -/
namespace SX
open PySem PySem.Spec PyProof.Rows L2
section
variable {prog : Program} {w : World} {I : Type} [DecidableEq I] {knd : KeyKind prog w I} {A : Around} {E : Value → Shared → Prop} {s : Shared} {a : Addr} {L : List (Addr × List I)} {es : Array (Int × Value)} {ep : Nat} {t : SetTable}
/-- a tuple stands where no set stands -/
theorem tup_but {h h' : Heap} {ks : List I} {x : Addr} {ob : Obj} (tx : IsTupleKey knd h ks x) (oa : h.get? a = some ob) (od : ob.data = .set es ep t) (sb : Heap.SameBut a h h') : IsTupleKey knd h' ks x := by
  obtain ⟨o2, vs, len, at_, c, dt, its⟩ := tx
  refine ⟨o2, vs, len, (sb.2 x fun e => ?_).trans at_, c, dt, its⟩
  rw [e, oa] at at_
  cases at_
  rw [od] at dt
  cases dt
theorem tup_on {h h' : Heap} {ks : List I} {x : Addr} (tx : IsTupleKey knd h ks x) (k : ∀ b o, h.get? b = some o → h'.get? b = some o) : IsTupleKey knd h' ks x := by
  obtain ⟨o2, vs, len, at_, r⟩ := tx
  exact ⟨o2, vs, len, k _ _ at_, r⟩
/-- which rows come of an order of their places -/
theorem rows_by (hr : es.toList = rws knd L) {order : Array Nat} (pm : order.toList.Perm (List.range L.length)) :
    ∃ M : List (Addr × List I), (order.filterMap (es[·]?)).toList = rws knd M ∧ M.Perm L ∧ (M.map fun e => tupleKeyHash knd e.2) = order.toList.map fun i => (es.map (·.1)).getD i 0 := by
  have here : ∀ i (l : i < L.length), es[i]? = some (tupleKeyHash knd (L[i]).2, Value.ref (L[i]).1) := fun i l => by
    rw [← Array.getElem?_toList, hr]
    unfold rws
    rw [List.getElem?_map, List.getElem?_eq_getElem l]
    rfl
  have go : ∀ is : List Nat, (∀ i ∈ is, i < L.length) → ∃ M : List (Addr × List I), is.filterMap (es[·]?) = rws knd M ∧ is.filterMap (L[·]?) = M ∧ (M.map fun e => tupleKeyHash knd e.2) = is.map fun i => (es.map (·.1)).getD i 0 := by
    intro is
    induction is with
    | nil => exact fun _ => ⟨[], rfl, rfl, rfl⟩
    | cons i is ih =>
      intro lt
      have l := lt i (List.mem_cons_self ..)
      obtain ⟨M, m1, m2, m3⟩ := ih fun j hj => lt j (List.mem_cons_of_mem _ hj)
      have hd : (es.map (·.1)).getD i 0 = tupleKeyHash knd (L[i]).2 := by
        have z : (es.map (·.1))[i]? = some (tupleKeyHash knd (L[i]).2) := by
          rw [Array.getElem?_map, here i l]
          rfl
        simp [Array.getD_eq_getD_getElem?, z]
      exact ⟨L[i] :: M, by rw [List.filterMap_cons_some (here i l), m1]; rfl, by rw [List.filterMap_cons_some (List.getElem?_eq_getElem l), m2], by rw [List.map_cons, List.map_cons, m3, hd]⟩
  obtain ⟨M, m1, m2, m3⟩ := go order.toList fun i hi => List.mem_range.mp (pm.mem_iff.mp hi)
  refine ⟨M, by first | (rw [Array.toList_filterMap]; exact m1) | simpa using m1, ?_, m3⟩
  have all : ∀ n, n ≤ L.length → (List.range n).filterMap (L[·]?) = L.take n := by
    intro n
    induction n with
    | zero => exact fun _ => rfl
    | succ n ih =>
      intro l
      have ln : n < L.length := l
      rw [List.range_succ, List.filterMap_append, ih (by omega), List.take_succ, List.getElem?_eq_getElem ln, List.filterMap_cons_some (List.getElem?_eq_getElem ln)]
      rfl
  have z := pm.filterMap (L[·]?)
  rw [m2, all _ (Nat.le_refl _), List.take_length] at z
  exact z
theorem mid_perm {α : Type} (l : List α) (n : Nat) (x : α) : (l.take n ++ x :: l.drop n).Perm (x :: l) := by
  have z := List.perm_middle (a := x) (l₁ := l.take n) (l₂ := l.drop n)
  rwa [List.take_append_drop] at z
theorem rws_len (M : List (Addr × List I)) : (rws knd M).length = M.length := List.length_map ..
/-- a table that is too full is laid anew -/
theorem laid_anew {ob : Obj} (oa : s.heap.get? a = some ob) (ox : ob.ExactSet) (od : ob.data = .set es ep t) (hr : es.toList = rws knd L) (sz : t.place.size = es.size) (dm : t.dummies = #[]) (fl : es.size ≤ t.mask) (df : (L.map (·.2)).Nodup)
    (tp : ∀ e ∈ L, IsTupleKey knd s.heap e.2 e.1) (ol : w.params.followText "set-order" = true ∨ t.led = true) (fw : L.length < 64) {wish M : Nat} (e1 : SetTable.sizeAbove wish - 1 = M) (mk : MaskOk M) (e2 : SetTable.sizeAbove wish ≤ 128) (e3 : L.length * 5 < M * 3)
    {Q : Unit → Shared → Prop} (q : ∀ h' L' es' ep' t', Heap.SameBut a s.heap h' → Tbl knd h' a L' es' ep' t' → L'.Perm L → Q () { s with heap := h' }) : wpAny (model prog w) A (setRelay a wish) Q E s := by
  have n1 : es.size = L.length := by
    rw [← Array.length_toList, hr, rws_len]
  have ft : t.fits es.size = true := by
    unfold SetTable.fits SetTable.fill
    rw [dm, Bool.and_eq_true, beq_iff_eq, decide_eq_true_eq]
    exact ⟨sz, by show t.place.size + 0 ≤ t.mask; omega⟩
  obtain ⟨t', order, re, pm, tb', em, el, _, _⟩ := relaid_ok t (hs := es.map (·.1)) (wanted := wish) e1 mk (by rw [Array.size_map]; omega)
  rw [Array.size_map, n1] at pm
  obtain ⟨L2, r1, r2, r3⟩ := rows_by hr pm
  rw [← r3] at tb'
  have n2 : (order.filterMap (es[·]?)).size = L.length := by
    rw [← Array.length_toList, r1, rws_len, r2.length_eq]
  rw [setRelay_eq]
  refine wpAny_bind (wpAny_setState_of oa od ft ?_)
  dsimp only
  refine wp_if_neg (by rw [sizeLine_eq]; omega) ?_
  try refine wpAny_bind (wpAny_pure ?_)
  rw [re]
  dsimp only
  refine wpAny_bind (wp_if_neg (by rw [n2, n1]; simp) ?_)
  try refine wpAny_bind (wpAny_pure ?_)
  refine wpAny_pure ?_
  dsimp only
  refine wpAny_storeSet_of oa od ?_ (by rw [n2, sizeLine_eq]; omega)
  have sb : Heap.SameBut a s.heap (s.heap.update a (Obj.putSet (order.filterMap (es[·]?)) t')) := Heap.SameBut.update ..
  refine q _ L2 _ (ep + 1) t' sb ⟨⟨_, store_at oa od, ⟨ox.1, ox.2.1, ox.2.2⟩, rfl⟩, r1, tb', (r2.map (·.2)).nodup_iff.mpr df, fun e he => tup_but (tp e (r2.mem_iff.mp he)) oa od sb, by rw [el]; exact ol, by rw [r2.length_eq, em]; exact e3, by rw [r2.length_eq]; exact fw⟩ r2
/-- one is put in -/
theorem put_in {ks : List I} {x : Addr} (T : Tbl knd s.heap a L es ep t) (tx : IsTupleKey knd s.heap ks x) (hu : A.units < cLine) (fw : L.length + 1 < 64) {Q : Bool → Shared → Prop}
    (q : ∀ c h' L' es' ep' t', Heap.SameBut a s.heap h' → Tbl knd h' a L' es' ep' t' → (ks ∈ L.map (·.2) → L' = L) → (ks ∉ L.map (·.2) → L'.Perm ((x, ks) :: L)) → Q c { s with heap := h' }) :
    wpAny (model prog w) A (setAddHashed a (.ref x) (tupleKeyHash knd ks)) Q E s := by
  obtain ⟨ob, oa, ox, od⟩ := T.obj
  have n1 := T.many
  have fre := T.free
  unfold setAddHashed
  refine wpAny_holding ?_
  rw [show (100000 : Nat) = 99999 + 1 from rfl, setAddHashedIn_succ]
  refine wpAny_bind (wpAny_setState_of oa od T.fits ?_)
  dsimp only
  refine wp_if_neg (by simp [byScan, Value.scannable]) ?_
  try refine wpAny_bind (wpAny_pure ?_)
  refine wpAny_bind (looked T tx hu (fun m => ?_) fun n m nf nb => ?_)
  · dsimp only
    exact wpAny_pure (q false s.heap L es ep t (Heap.SameBut.refl a s.heap) T (fun _ => rfl) fun z => absurd m z)
  · dsimp only
    refine wpAny_bind (wpAny_setState_of oa od T.fits ?_)
    dsimp only
    obtain ⟨p1, p2, p3, p4, p5, _, _, _, p9⟩ := T.tb.put nf nb
    generalize hpt : t.put (way t.mask (tupleKeyHash knd ks) n) = pt at p1 p3 p4 p5 p9 ⊢
    obtain ⟨t1, pl⟩ := pt
    dsimp only at p1 p3 p4 p5 p9 ⊢
    subst p1
    generalize hpl : SetTable.below t.place (way t.mask (tupleKeyHash knd ks) n) = pl at p2 p3 ⊢
    have pm := mid_perm L pl (x, ks)
    have rows : (SetTable.insertAt es pl (tupleKeyHash knd ks, Value.ref x)).toList = rws knd (L.take pl ++ (x, ks) :: L.drop pl) := by
      rw [SetTable.toList_insertAt, T.rw_]
      unfold rws
      rw [List.map_append, List.map_cons, List.map_take, List.map_drop]
    have p3 : TabOk t1 ((L.take pl ++ (x, ks) :: L.drop pl).map fun e => tupleKeyHash knd e.2) := by
      rw [List.map_append, List.map_cons, List.map_take, List.map_drop]
      exact p3
    have n2 : (SetTable.insertAt es pl (tupleKeyHash knd ks, Value.ref x)).size = L.length + 1 := by
      rw [← Array.length_toList, rows, rws_len, pm.length_eq]
      rfl
    generalize SetTable.insertAt es pl (tupleKeyHash knd ks, Value.ref x) = es1 at rows n2 ⊢
    generalize L.take pl ++ (x, ks) :: L.drop pl = L1 at pm p3 rows
    have ln : L1.length = L.length + 1 := pm.length_eq
    have df1 : (L1.map (·.2)).Nodup := (pm.map (·.2)).nodup_iff.mpr (List.nodup_cons.mpr ⟨m, T.dif⟩)
    have rest : ∀ t2 : SetTable, TabOk t2 (L1.map fun e => tupleKeyHash knd e.2) → t2.mask = t.mask → t2.led = t.led → t2.fill = L.length + 1 → wpAny (model prog w) A (do
        storeSet a es1 t2
        if (!false && t2.tooFull) = true then do
          setRelay a (SetTable.grown (es.size + 1))
          pure true
        else pure true) Q E s := by
      intro t2 tb2 em el ef
      have z2 := tb2.sz
      rw [List.length_map, ln] at z2
      have sb : Heap.SameBut a s.heap (s.heap.update a (Obj.putSet es1 t2)) := Heap.SameBut.update ..
      have oa1 := store_at (es' := es1) (t' := t2) oa od
      refine wpAny_bind (wpAny_storeSet_of oa od ?_ (by rw [n2, sizeLine_eq]; omega))
      generalize s.heap.update a (Obj.putSet es1 t2) = h1 at sb oa1 ⊢
      have tps1 : ∀ e ∈ L1, IsTupleKey knd h1 e.2 e.1 := fun e he => by
        rcases List.mem_cons.mp (pm.mem_iff.mp he) with z | z
        · rw [z]
          exact tup_but tx oa od sb
        · exact tup_but (T.tps e z) oa od sb
      have ol : w.params.followText "set-order" = true ∨ t2.led = true := by
        rw [el]
        exact T.ord
      by_cases full : t2.tooFull = true
      · refine wp_if_pos (by simp [full]) ?_
        have fl : (L.length + 1) * 5 ≥ t2.mask * 3 := by
          have z := full
          unfold SetTable.tooFull at z
          rwa [decide_eq_true_eq, ef] at z
        have which : (t.mask = 7 ∧ L.length = 4) ∨ (t.mask = 31 ∧ L.length = 18) := by
          rcases T.tb.mok with e | e | e <;> rw [em, e] at fl <;> rw [e] at fre
          · exact .inl ⟨e, by omega⟩
          · exact .inr ⟨e, by omega⟩
          · omega
        have big : ∀ M, SetTable.sizeAbove (SetTable.grown (es.size + 1)) - 1 = M → MaskOk M → SetTable.sizeAbove (SetTable.grown (es.size + 1)) ≤ 128 → (L.length + 1) * 5 < M * 3 →
            wpAny (model prog w) A (setRelay a (SetTable.grown (es.size + 1)) >>= fun _ => pure true) Q E { s with heap := h1 } := fun M m1 m2 m3 m4 => by
          refine wpAny_bind (laid_anew (s := { s with heap := h1 }) (knd := knd) (L := L1) (es := es1) (t := t2) oa1 ⟨ox.1, ox.2.1, ox.2.2⟩ rfl rows (by rw [z2, n2]) tb2.dm (by rcases which with ⟨e, l⟩ | ⟨e, l⟩ <;> rw [n2, em, e] <;> omega) df1 tps1 ol (by omega) m1 m2 m3 (by rw [ln]; exact m4) fun h2 L2 es2 ep2 t3 sb2 T2 pm2 => ?_)
          exact wpAny_pure (q true h2 L2 es2 ep2 t3 (sb.trans sb2) T2 (fun z => absurd z m) fun _ => pm2.trans pm)
        rcases which with ⟨_, l⟩ | ⟨_, l⟩
        · exact big 31 (by rw [n1, l, size_20]) (.inr (.inl rfl)) (by rw [n1, l, size_20]; decide) (by omega)
        · exact big 127 (by rw [n1, l, size_76]) (.inr (.inr rfl)) (by rw [n1, l, size_76]; decide) (by omega)
      · refine wp_if_neg (by simp [full]) (wpAny_pure (q true h1 L1 es1 (ep + 1) t2 sb ⟨⟨_, oa1, ⟨ox.1, ox.2.1, ox.2.2⟩, rfl⟩, rows, tb2, df1, tps1, ol, ?_, by omega⟩ (fun z => absurd z m) fun _ => pm))
        have z := full
        unfold SetTable.tooFull at z
        rw [decide_eq_true_eq, ef] at z
        rw [ln]
        omega
    have off : TabOk { mask := t1.mask, place := t1.place, dummies := t1.dummies, finger := t1.finger, led := t1.led, moves := t1.moves, plain := false } (L1.map fun e => tupleKeyHash knd e.2) := ⟨p3.ris, p3.dm, p3.sz, p3.mok, p3.bd, p3.reach⟩
    have fi : t1.fill = L.length + 1 := by
      rw [p9, List.length_map]
    by_cases pn : t1.plain = true
    · refine wp_if_pos pn (wpAny_bind (tup_byv tx fun c => ?_))
      cases c with
      | true =>
        simp only [if_true]
        exact rest t1 p3 p4 p5 fi
      | false =>
        simp only [Bool.false_eq_true, if_false]
        exact rest _ off p4 p5 fi
    · refine wp_if_neg pn (wpAny_bind (wpAny_pure ?_))
      simp only [if_true]
      exact rest t1 p3 p4 p5 fi
end
end SX

set_option Elab.async false
set_option linter.all false
set_option maxRecDepth 100000
set_option maxHeartbeats 4000000
/-! Sets of tuples of any keys: set(list). -/
namespace SX
open PySem PySem.Spec PyProof.Rows L2
section
variable {I : Type}
/-- what stands in the set behind so many items of a list -/
structure Sofar (all : List (Addr × List I)) (n : Nat) (L : List (Addr × List I)) : Prop where
  of_ : ∀ e ∈ L, e ∈ all.take n
  has : ∀ e ∈ all.take n, e.2 ∈ L.map (·.2)
  le : L.length ≤ n
theorem Sofar.none_ (all : List (Addr × List I)) : Sofar all 0 [] := ⟨(fun e z => by cases z), (fun e z => by simp at z), Nat.le_refl _⟩
theorem take_more {α : Type} {l : List α} {n : Nat} {x : α} (e : l[n]? = some x) : l.take (n + 1) = l.take n ++ [x] := by
  rw [List.take_succ, e]
  rfl
theorem Sofar.known {all L : List (Addr × List I)} {n : Nat} {x : Addr × List I} (g : Sofar all n L) (e : all[n]? = some x) (m : x.2 ∈ L.map (·.2)) : Sofar all (n + 1) L := by
  refine ⟨fun y hy => ?_, fun y hy => ?_, Nat.le_succ_of_le g.le⟩ <;> rw [take_more e] at *
  · exact List.mem_append_left _ (g.of_ y hy)
  · rcases List.mem_append.mp hy with z | z
    · exact g.has y z
    · cases List.mem_singleton.mp z
      exact m
theorem Sofar.new_ {all L L' : List (Addr × List I)} {n : Nat} {x : Addr × List I} (g : Sofar all n L) (e : all[n]? = some x) (pm : L'.Perm (x :: L)) : Sofar all (n + 1) L' := by
  refine ⟨fun y hy => ?_, fun y hy => ?_, by rw [pm.length_eq]; exact Nat.succ_le_succ g.le⟩ <;> rw [take_more e] at *
  · rcases List.mem_cons.mp (pm.mem_iff.mp hy) with z | z
    · exact List.mem_append_right _ (List.mem_singleton.mpr z)
    · exact List.mem_append_left _ (g.of_ y z)
  · refine (pm.map (·.2)).mem_iff.mpr ?_
    rcases List.mem_append.mp hy with z | z
    · exact List.mem_cons_of_mem _ (g.has y z)
    · cases List.mem_singleton.mp z
      exact List.mem_cons_self ..
end
section
variable {prog : Program} {w : World} {I : Type} [DecidableEq I] {knd : KeyKind prog w I} {A : Around} {E : Value → Shared → Prop} {s : Shared}
theorem Tbl.on {h h' : Heap} {a : Addr} {L : List (Addr × List I)} {es : Array (Int × Value)} {ep : Nat} {t : SetTable} (T : Tbl knd h a L es ep t) (ka : ∀ o, h.get? a = some o → h'.get? a = some o) (tp : ∀ e ∈ L, IsTupleKey knd h' e.2 e.1) : Tbl knd h' a L es ep t := by
  obtain ⟨o, oa, r⟩ := T.obj
  exact ⟨⟨o, ka o oa, r⟩, T.rw_, T.tb, T.dif, tp, T.ord, T.free, T.few⟩
abbrev emptySet (w : World) : Obj := { cls := .type "set", dict := none, data := .set #[] 0 (.fresh 0 0 (!w.params.followText "set-order")) }
theorem tbl_new {h : Heap} {a : Addr} (e : h.get? a = some (emptySet w)) : Tbl knd h a [] #[] 0 (.fresh 0 0 (!w.params.followText "set-order")) := by
  refine ⟨⟨_, e, ⟨rfl, rfl, rfl⟩, rfl⟩, rfl, ⟨List.Pairwise.nil, rfl, rfl, .inl rfl, (fun x z => by cases z), (fun i g j z => by simp at z)⟩, List.nodup_nil, (fun e z => by cases z), ?_, by show 0 * 5 < 7 * 3; decide, by show 0 < 64; decide⟩
  show _ ∨ (!w.params.followText "set-order") = true
  cases w.params.followText "set-order" with
  | true => exact .inl rfl
  | false => exact .inr rfl
theorem fill_loop {J : Addr} {fp wr : List Addr} {G : Array GenState → Array GenState → Prop} {n : Nat} {Y : Nat → Value → Prop} {St : Nat → Shared → Prop} {R : Result → Shared → Prop} (W : WalksS prog w A.in1 J fp wr G n Y St) {S : Addr} (nS : S ∉ fp)
    {all : List (Addr × List I)} (en : n = all.length) (fw : all.length < 64) (val : ∀ i v, Y i v → ∃ e, all[i]? = some e ∧ v = .ref e.1) {h0 : Heap} (tp : ∀ e ∈ all, IsTupleKey knd h0 e.2 e.1) (zS : h0.get? S = none) (zw : ∀ b ∈ wr, h0.get? b = none) (hu : A.in1.units < cLine) :
    ∀ (k i : Nat) (s : Shared), n - i = k → i ≤ n → St i s → (∀ b o, h0.get? b = some o → s.heap.get? b = some o) → (∃ L es ep t, Tbl knd s.heap S L es ep t ∧ Sofar all i L) →
      (∀ s' L es ep t, Moved (S :: wr) G s s' → Tbl knd s'.heap S L es ep t → Sofar all n L → (∀ b o, h0.get? b = some o → s'.heap.get? b = some o) → R (.ok (.ret .none)) s') →
      codeAny (model prog w) A (.builtin "set.update.loop" ⟨[.ref S, .ref J], []⟩) R s := by
  have nw : S ∉ wr := fun z => nS (W.sub _ z)
  have up : ∀ b ∈ wr, b ∈ S :: wr := fun b hb => List.mem_cons_of_mem _ hb
  have old : ∀ {s s' : Shared}, Moved wr G s s' → (∀ b o, h0.get? b = some o → s.heap.get? b = some o) → ∀ b o, h0.get? b = some o → s'.heap.get? b = some o := fun mv k b o e => by
    refine mv.heap b o (fun hb => ?_) (k b o e)
    rw [zw b hb] at e
    cases e
  intro k
  induction k with
  | zero =>
    rintro i s ek il st kp ⟨L, es, ep, t, T, g⟩ r
    obtain rfl : i = n := by omega
    refine codeAny_builtin F.entry_set_update_loop ?_
    rw [Around.under_plainId F.plain_set_update_loop _]
    show wpAny _ A.in1 (pyNext (.ref J) >>= _) _ _ s
    refine wpAny_bind (W.done s _ _ st fun s' mv => ?_)
    show wpAny _ A.in1 (ret Value.none) _ _ s'
    have kp' := old mv kp
    exact wpAny_pure (r s' L es ep t (mv.mono up) (T.on (fun o e => mv.heap S o nw e) fun e he => tup_on (tp e (List.mem_of_mem_take (g.of_ e he))) kp') g kp')
  | succ k ih =>
    rintro i s ek il st kp ⟨L, es, ep, t, T, g⟩ r
    have lt : i < n := by omega
    refine codeAny_builtin F.entry_set_update_loop ?_
    rw [Around.under_plainId F.plain_set_update_loop _]
    show wpAny _ A.in1 (pyNext (.ref J) >>= _) _ _ s
    refine wpAny_bind (W.item i s _ _ lt st fun v s' yv st' mv => ?_)
    obtain ⟨e, he, rfl⟩ := val i v yv
    have kp' := old mv kp
    have T' : Tbl knd s'.heap S L es ep t := T.on (fun o q => mv.heap S o nw q) fun y hy => tup_on (tp y (List.mem_of_mem_take (g.of_ y hy))) kp'
    have te : IsTupleKey knd s'.heap e.2 e.1 := tup_on (tp e (List.mem_of_getElem? he)) kp'
    have gl := g.le
    show wpAny _ A.in1 (holding [Value.ref e.1] (setAdd S (.ref e.1)) >>= _) _ _ s'
    refine wpAny_bind (wpAny_holding ?_)
    unfold setAdd
    refine wpAny_holding (wpAny_bind (wpAny_pyHash_tuple hu te ?_))
    refine put_in (s := { s' with toks := s'.toks + (e.2.length + 1) }) T' te hu (by omega) fun c h' L' es' ep' t' sb T2 c1 c2 => ?_
    have g' : Sofar all (i + 1) L' := by
      by_cases m : e.2 ∈ L.map (·.2)
      · rw [c1 m]
        exact g.known he m
      · exact g.new_ he (c2 m)
    have kp2 : ∀ b o, h0.get? b = some o → h'.get? b = some o := fun b o q => (sb.2 b fun z => by
      rw [z, zS] at q
      cases q).trans (kp' b o q)
    refine wpAny_pure ⟨plainId_quiet F.plain_set_update_loop _, ih (i + 1) _ (by omega) lt (W.frame _ s' _ _ st' (Nat.le_add_right _ _) fun b hb o q => ?_) kp2 ⟨L', es', ep', t', T2, g'⟩ fun s2 L2 es2 ep2 t2 mv2 T3 g3 kp3 => ?_⟩
    · rw [sb.2 b fun z => nS (z ▸ hb)]
      exact q
    · refine r s2 L2 es2 ep2 t2 (Moved.trans W.gtrans ((mv.mono up).then_heap (Nat.le_add_right _ _) fun b o hb q => ?_) mv2) T3 g3 kp3
      rw [sb.2 b fun z => hb (z ▸ List.mem_cons_self ..)]
      exact q
end
end SX

set_option Elab.async false
set_option linter.all false
set_option maxRecDepth 100000
set_option maxHeartbeats 4000000
/-! Sets of tuples of any keys: the call set(list). -/
namespace SX
open PySem PySem.Spec PyProof.Rows L2
section
variable {prog : Program} {w : World} {I : Type} [DecidableEq I] {knd : KeyKind prog w I} {A : Around} {E : Value → Shared → Prop} {s : Shared}
theorem made {l : Addr} {vs : Array Value} {all : List (Addr × List I)} {Q : Value → Shared → Prop} (nh : A.handled = none) (il : s.heap.IsList l vs) (ev : vs.toList = all.map fun e => Value.ref e.1) (tp : ∀ e ∈ all, IsTupleKey knd s.heap e.2 e.1) (fw : all.length < 64)
    (hu : A.units + 3 < cLine) (q : ∀ (h' : Heap) (tk : Nat) L es ep t, Tbl knd h' s.heap.objs.size L es ep t → Sofar all all.length L → (∀ b o, s.heap.get? b = some o → h'.get? b = some o) → Q (.ref s.heap.objs.size) { s with heap := h', toks := tk }) :
    wpAny (model prog w) A (call (.type "set") [.ref l]) Q E s := by
  have n0 : vs.size = all.length := by
    rw [← Array.length_toList, ev, List.length_map]
  obtain ⟨m1, m2, mro⟩ := F.called_set.mro
  have f1 := F.called_set.made
  have f2 := F.called_set.sub
  have f3 := F.called_set.notType
  have f4 := F.called_set.canCreate
  have f5 := F.typeCall_set_1 (.ref l)
  refine wpAny_call (codeAny_of_tree ?_)
  show wpAny _ _ (callAny (.type "set") _) _ _ _
  refine wpAny_pure ⟨Code.quiet_builtin _ (by decide +kernel), codeAny_builtin F.entry_type_call ?_⟩
  rw [Around.under_plain (weight_type_call_type "set" [.ref l] []) rfl]
  repeat any_goals (first | assumption | wp_step)
  refine codeAny_mono (code_set_led1 (.ref l) (E := E) (Q₁ := fun v s1 => v = .ref s.heap.objs.size ∧ s1 = { s with heap := s.heap.push (emptySet w) }) ⟨rfl, rfl⟩) fun fl s1 r1 => ?_
  match fl, r1 with
  | .error e, r1 => exact r1
  | .ok .next, r1 => exact r1.elim
  | .ok .brk, r1 => exact r1.elim
  | .ok .cont, r1 => exact r1.elim
  | .ok (.ret v), r1 =>
    obtain ⟨rfl, rfl⟩ := r1
    have at_ : (s.heap.push (emptySet w)).get? s.heap.objs.size = some (emptySet w) := Heap.get?_push_size _ rfl
    have ty : Shared.TypeIs { s with heap := s.heap.push (emptySet w) } (.ref s.heap.objs.size) "set" := ⟨_, at_, rfl⟩
    have g1 := F.called_set.init.lookup
    have g2 := F.called_set.init.bind (.ref s.heap.objs.size)
    repeat any_goals (first | assumption | wp_step)
    refine codeAny_mono (codeAny_call_builtin (R := wants (fun r s2 => r = .none ∧ ∃ h' tk L es ep t, s2 = { s with heap := h', toks := tk } ∧ Tbl knd h' s.heap.objs.size L es ep t ∧ Sofar all all.length L ∧ (∀ b o, s.heap.get? b = some o → h'.get? b = some o)) E)
      F.called_set.init.plain F.entry_set_init (check_set_init_1 ty ?_)) fun fl2 s2 r2 => ?_
    · obtain ⟨ol, oa, oc, on, od⟩ := il
      obtain ⟨cls0, dict0, data0, slots0⟩ := ol
      simp only at oc od
      subst oc
      subst od
      have oa1 : (s.heap.push (emptySet w)).get? l = some { cls := .type "list", dict := dict0, data := .seq vs on, slots := slots0 } := Heap.get?_push_of_some _ oa
      have t1 := F.sub_list_set
      have t2 := F.sub_list_frozenset
      have t3 : (Value.type "list" == Value.type "dict") = false := by decide
      have il1 : (s.heap.push (emptySet w)).IsList l vs := ⟨_, oa1, rfl, on, rfl⟩
      unfold Builtin.«set.__init__» noKeywords Builtin.Frozenset.updateFrom
      generalize eP : pyIter = PI
      wp_walk
      subst eP
      refine wpAny_pyIter_list il1 (wpAny_bind (wpAny_runValue ?_))
      have lt : l < s.heap.objs.size := Heap.lt_size oa
      have z1 : (s.heap.push (emptySet w)).objs.size = s.heap.objs.size + 1 := Heap.size_push ..
      have d1 : l ≠ (s.heap.push (emptySet w)).objs.size := by
        rw [z1]
        exact Nat.ne_of_lt (Nat.lt_succ_of_lt lt)
      have d2 : s.heap.objs.size ∉ [(s.heap.push (emptySet w)).objs.size, l] := by
        rw [z1]
        simp only [List.mem_cons, List.not_mem_nil, or_false, not_or]
        exact ⟨Nat.ne_of_lt (Nat.lt_succ_self _), Nat.ne_of_gt lt⟩
      have val : ∀ (i : Nat) (v : Value), vs[i]? = some v → ∃ e, all[i]? = some e ∧ v = .ref e.1 := fun i v hv => by
        rw [← Array.getElem?_toList, ev, List.getElem?_map] at hv
        obtain ⟨e, he, z⟩ := Option.map_eq_some_iff.mp hv
        exact ⟨e, he, z.symm⟩
      have gone : ∀ b, s.heap.objs.size ≤ b → s.heap.get? b = none := fun b hb => by
        cases z : s.heap.get? b with
        | none => rfl
        | some o => exact absurd (Nat.lt_of_lt_of_le (Heap.lt_size z) hb) (Nat.lt_irrefl _)
      refine fill_loop ((Walks.list (by simp [nh]) _ l d1 vs).toS) d2 n0 fw val tp (gone _ (Nat.le_refl _)) (fun b hb => gone b (by
          rw [List.mem_singleton.mp hb, z1]
          exact Nat.le_succ _)) hu (vs.size - 0) 0 _ (by omega) (Nat.zero_le _) ⟨⟨_, Heap.get?_push_size _ rfl, rfl, rfl⟩, il1.push _⟩ (fun b o e => Heap.get?_push_of_some _ (Heap.get?_push_of_some _ e)) ?start ?stop
      case start => exact ⟨[], #[], 0, _, tbl_new (Heap.get?_push_of_some _ at_), Sofar.none_ all⟩
      case stop =>
        intro s3 L es ep t mv T g kp
        obtain ⟨h3, g3, dr3, tk3, os3⟩ := s3
        have e1 : g3 = s.gens := mv.gens
        have e2 : dr3 = s.drawn := mv.drawn
        have e3 : os3 = s.os := mv.os
        subst e1
        subst e2
        subst e3
        show wpAny _ _ _ _ _ _
        refine wpAny_pure ?_
        show wpAny _ _ (ret Value.none) _ _ _
        rw [n0] at g
        exact wpAny_pure ⟨rfl, h3, tk3, L, es, ep, t, rfl, T, g, kp⟩
    · match fl2, r2 with
      | .error e, r2 => exact r2
      | .ok .next, r2 => exact r2.elim
      | .ok .brk, r2 => exact r2.elim
      | .ok .cont, r2 => exact r2.elim
      | .ok (.ret r), r2 =>
        obtain ⟨rfl, h', tk, L, es, ep, t, rfl, T, g, kp⟩ := r2
        repeat any_goals (first | assumption | wp_step)
        exact q _ _ _ _ _ _ T g kp
end
end SX

set_option Elab.async false
set_option linter.all false
set_option maxRecDepth 100000
set_option maxHeartbeats 4000000
/-! Sets of tuples of an int, a text and an int: the rules set(list) and sorted(set). -/
namespace SX
open PySem PySem.Spec PyProof.Rows L2
/-- what stands at v in the heap -/
def tripAt (h : Heap) (v : Value) : T3 := match v with
  | .ref a => match h.get? a with
    | some o => match o.data with
      | .seq vs _ => match vs.toList with
        | [.int x _, .str y _, .int z _] => (x, y, z)
        | _ => (0, "", 0)
      | _ => (0, "", 0)
    | none => (0, "", 0)
  | _ => (0, "", 0)
theorem tripAt_of {h : Heap} {v : Value} {x : T3} (p : IsTrip h v x) : tripAt h v = x := by
  obtain ⟨a, o, t, u, r, n, rfl, ho, _, hd⟩ := p
  unfold tripAt
  simp only [ho, hd]
def keyOf (x : T3) : List Key := [.inl x.1, .inr x.2.1, .inl x.2.2]
def unkey : List Key → T3
  | [.inl a, .inr b, .inl c] => (a, b, c)
  | _ => (0, "", 0)
theorem unkey_of (x : T3) : unkey (keyOf x) = x := rfl
def row (e : Addr × T3) : Addr × List Key := (e.1, keyOf e.2)
section
variable {prog : Program} {w : World} {A : Around} {E : Value → Shared → Prop} {s : Shared}
theorem trip_key {h : Heap} {a : Addr} {x : T3} (p : IsTrip h (.ref a) x) : IsTupleKey (mixKind prog w) h (keyOf x) a := by
  obtain ⟨b, o, t, u, r, n, e, ho, hc, hd⟩ := p
  cases e
  exact ⟨o, _, n, ho, hc, hd, .cons (kV_is (k := .inl x.1) ⟨t, rfl⟩) (.cons (kV_is (k := .inr x.2.1) ⟨u, rfl⟩) (.cons (kV_is (k := .inl x.2.2) ⟨r, rfl⟩) .nil))⟩
theorem sorted_set {a : Addr} {L : List (Addr × T3)} {es : Array (Int × Value)} {ep : Nat} {t : SetTable} {Q : Value → Shared → Prop} (T : Tbl (mixKind prog w) s.heap a (L.map row) es ep t) (nh : A.handled = none) (tr : ∀ e ∈ L, IsTrip s.heap (.ref e.1) e.2)
    (q : ∀ (s' : Shared) (p : Addr) (n : Nat) (M : List (Addr × T3)), (∀ b o, s.heap.get? b = some o → s'.heap.get? b = some o) → s'.gens = s.gens → s'.os = s.os → s.heap.objs.size ≤ p → s'.heap.get? p = some (seqObj "list" (M.map fun e => Value.ref e.1).toArray n) →
      M.Perm L → SrtO.Srtd (fun x y : Addr × T3 => lt3 x.2 y.2) M → Q (.ref p) s') : wpAny (model prog w) A (call (.builtin "sorted") [.ref a]) Q E s := by
  obtain ⟨ob, oa, ox, od⟩ := T.obj
  have fw := T.few
  have mn := T.many
  rw [List.length_map] at fw mn
  refine Calls.call_function_entry kind_sorted plain_sorted entry_sorted (args_sorted1 _) ?_
  unfold Builtin.«sorted»
  refine wpAny_bind (m := checkCount "sorted" 1 1 _) (wpAny_pure ?_)
  refine wpAny_bind (collect_set (A := A.in1) nh ⟨ob, oa, ox.1, od⟩ T.fits (by unfold scanBound; omega) T.tb.ris T.ord fun s1 vs k1 z1 g1 o1 pm => ?_)
  have ev : es.toList.map (·.2) = L.map fun e => Value.ref e.1 := by
    rw [T.rw_]
    unfold rws
    rw [List.map_map, List.map_map]
    rfl
  rw [ev] at pm
  have vl : vs.length = L.length := by
    rw [pm.length_eq, List.length_map]
  refine wpAny_bind (wpAny_newList ?_ (by rw [sizeLine_eq]; omega))
  have hoL : (s1.heap.push (seqObj "list" vs.toArray 0)).get? s1.heap.objs.size = some (seqObj "list" vs.toArray 0) := Heap.get?_push_size _ rfl
  have on : ∀ b o, s.heap.get? b = some o → (s1.heap.push (seqObj "list" vs.toArray 0)).get? b = some o := fun b o e => Heap.get?_push_of_some _ (k1 b o e)
  have trV : ∀ v ∈ vs, IsTrip s.heap v (tripAt s.heap v) := fun v hv => by
    obtain ⟨e, he, rfl⟩ := List.mem_map.mp (pm.mem_iff.mp hv)
    have z := tr e he
    rw [tripAt_of z]
    exact z
  refine wpAny_bind (wpAny_holding (wpAny_call_entry slot_list_sort ⟨_, hoL, rfl⟩ entry_list_sort (SrtO.list_sort_ord (s := { s1 with heap := s1.heap.push (seqObj "list" vs.toArray 0) }) (swo3k (tripAt s.heap)) hoL (by rw [sizeLine_eq]; omega) (fun h2 => ?_) fun out h1 h3 => ⟨_, rfl, ?_⟩) (args_list_sort _)))
  · refine trips_sortable (by omega) (fun v hv => (trV v hv).keeps fun b o e _ => on b o e) fun o e => ?_
    have e' : some o = some (seqObj "list" vs.toArray 0) := e.symm.trans hoL
    cases e'
    intro c
    exact absurd (Value.type.inj c) (by decide)
  · obtain ⟨n, hn⟩ := sortedHeap_at (vs := vs) (out := out.toArray) hoL
    have po : out.Perm (L.map fun e => Value.ref e.1) := h3.perm.trans pm
    have isr : ∀ v ∈ out, ∃ e ∈ L, v = Value.ref e.1 := fun v hv => by
      obtain ⟨e, he, z⟩ := List.mem_map.mp (po.mem_iff.mp hv)
      exact ⟨e, he, z.symm⟩
    have back : (out.map fun v => ((match v with | .ref b => b | _ => 0 : Addr), tripAt s.heap v)).map (fun e => Value.ref e.1) = out := by
      rw [List.map_map]
      conv => rhs; rw [← List.map_id out]
      refine List.map_congr_left fun v hv => ?_
      obtain ⟨e, _, rfl⟩ := isr v hv
      rfl
    have pM : (out.map fun v => ((match v with | .ref b => b | _ => 0 : Addr), tripAt s.heap v)).Perm L := by
      have z := po.map fun v => ((match v with | .ref b => b | _ => 0 : Addr), tripAt s.heap v)
      rw [List.map_map] at z
      have e : L.map ((fun v => ((match v with | .ref b => b | _ => 0 : Addr), tripAt s.heap v)) ∘ fun e => Value.ref e.1) = L := by
        conv => rhs; rw [← List.map_id L]
        refine List.map_congr_left fun e he => ?_
        show (e.1, tripAt s.heap (.ref e.1)) = e
        rw [tripAt_of (tr e he)]
      rwa [e] at z
    refine wpAny_pure ⟨_, rfl, q _ s1.heap.objs.size n _ (fun b u e => ?_) g1 o1 z1 (by rw [back]; exact hn) pM (SrtO.srtd_map (lt := fun x y : Addr × T3 => lt3 x.2 y.2) (f := fun v => ((match v with | .ref b => b | _ => 0 : Addr), tripAt s.heap v)) h1)⟩
    have lt := Heap.lt_size (k1 b u e)
    show (sortedHeap (s1.heap.push (seqObj "list" vs.toArray 0)) s1.heap.objs.size vs out.toArray).get? b = some u
    rw [sortedHeap_old (Nat.ne_of_lt lt) (by rw [size_push']; exact Nat.lt_succ_of_lt lt)]
    exact on b u e
end
end SX

set_option Elab.async false
set_option linter.all false
set_option maxRecDepth 100000
set_option maxHeartbeats 4000000
/-! The rules set(list) and sorted(set), for tuples of an int, a text and an int. -/
namespace SX
open PySem PySem.Spec PyProof.Rows L2
/-- the set at a, whatever has become of the tuples -/
def Tab0 (P : Program) (w : World) (h : Heap) (a : Addr) (L : List (Addr × T3)) : Prop := ∃ (es : Array (Int × Value)) (ep : Nat) (t : SetTable), (∃ o, h.get? a = some o ∧ o.ExactSet ∧ o.data = .set es ep t) ∧ es.toList = rws (mixKind P w) (L.map row) ∧
  TabOk t ((L.map row).map fun e => tupleKeyHash (mixKind P w) e.2) ∧ ((L.map row).map (·.2)).Nodup ∧ (w.params.followText "set-order" = true ∨ t.led = true) ∧ (L.map row).length * 5 < t.mask * 3 ∧ (L.map row).length < 64
def SetM (P : Program) (w : World) (a : Addr) (L : List (Addr × T3)) : HO := .ext fun h => Tab0 P w h a L
section
variable {P : Program} {w : World} {h : Heap} {a : Addr} {L : List (Addr × T3)} {es : Array (Int × Value)} {ep : Nat} {t : SetTable}
theorem tab0_of (T : Tbl (mixKind P w) h a (L.map row) es ep t) : Tab0 P w h a L := ⟨es, ep, t, T.obj, T.rw_, T.tb, T.dif, T.ord, T.free, T.few⟩
theorem tbl_of (R : Tab0 P w h a L) (tp : ∀ e ∈ L, IsTrip h (.ref e.1) e.2) : ∃ es ep t, Tbl (mixKind P w) h a (L.map row) es ep t := by
  obtain ⟨es, ep, t, h1, h2, h3, h4, h5, h6, h7⟩ := R
  refine ⟨es, ep, t, h1, h2, h3, h4, fun e he => ?_, h5, h6, h7⟩
  obtain ⟨x, hx, rfl⟩ := List.mem_map.mp he
  exact trip_key (tp x hx)
theorem setM_ok {H : Hp} (R : Tab0 P w h a L) : ObjOk P w H h a (SetM P w a L) := by
  obtain ⟨o, ho, _⟩ := R.choose_spec.choose_spec.choose_spec.1
  refine ⟨R, ⟨o, ho⟩, fun h1 h2 p k => ?_⟩
  obtain ⟨es, ep, t, ⟨o2, ho2, r⟩, q⟩ := (show Tab0 P w h1 a L from p)
  exact ⟨es, ep, t, ⟨o2, k o2 ho2, r⟩, q⟩
end
abbrev Tr (H : Hp) (e : Addr × T3) : Prop := H e.1 = some (.tup [.int e.2.1, .str e.2.2.1, .int e.2.2.2])
section
variable {X : Cx} {pins : List (Addr × Obj)} {σ : L2.St} {H : Hp} {s : Shared}
theorem trip_in (I : Inv X pins σ H s) {e : Addr × T3} (he : Tr H e) : IsTrip s.heap (.ref e.1) e.2 := by
  obtain ⟨_, its, rv, o, ho, hc, n, hd⟩ := I.hok _ _ he
  obtain ⟨u1, u2, u3, rfl, ⟨t1, rfl⟩, ⟨t2, rfl⟩, ⟨t3, rfl⟩⟩ := vals_3 rv
  exact ⟨e.1, o, t1, t2, t3, n, rfl, ho, hc, hd⟩
theorem refs_are : ∀ {l : List (Addr × T3)} {us : List Value}, Vals (l.map fun e => V.ref e.1) us → us = l.map fun e => Value.ref e.1
  | [], _, .nil => rfl
  | e :: l, _, .cons r t => by
    cases r
    rw [refs_are t, List.map_cons]
theorem are_refs : ∀ l : List (Addr × T3), Vals (l.map fun e => V.ref e.1) (l.map fun e => Value.ref e.1)
  | [] => .nil
  | e :: l => .cons rfl (are_refs l)
/-- set(xs) -/
def rSetM (K : PySem.W.Frag) (P : Program) (w : World) : List V → Hp → VK → Prop := fun vs H Q => ∃ (l : Addr) (ts : List (Addr × T3)), vs = [V.ref l] ∧ SqL K H l (ts.map fun e => V.ref e.1) ∧ (∀ e ∈ ts, Tr H e) ∧ ts.length < 64 ∧
  ∀ (a : Addr) (L : List (Addr × T3)), H a = none → (∀ e ∈ L, e ∈ ts) → (∀ e ∈ ts, e.2 ∈ L.map (·.2)) → (L.map (·.2)).Nodup → Q (.ref a) (upd H a (SetM P w a L))
theorem cr_setM (hc : X.calm = true) (hu : X.A.units + 64 < cLine) : CallR X (.type "set") (rSetM X.K X.prog X.w) := by
  intro pins s σ H vs us Q I r h
  obtain ⟨l, ts, rfl, hl, htr, few, q⟩ := h
  obtain ⟨its, rv, pl, hz⟩ := I.list hl
  obtain ⟨u, rfl, ru⟩ := vals1 r
  obtain rfl : u = Value.ref l := ru
  have hn : H s.heap.objs.size = none := I.hok.fresh (Nat.le_refl _)
  have ev : its.toArray.toList = (ts.map row).map fun e => Value.ref e.1 := by
    rw [List.map_map]
    exact refs_are rv
  refine made (prog := X.prog) (w := X.w) (knd := mixKind X.prog X.w) (all := ts.map row) (I.ok.hd hc) pl.isList ev (fun e he => ?_) (by rw [List.length_map]; exact few) (by omega) fun h' tk L es ep t T g k => ?_
  · obtain ⟨x, hx, rfl⟩ := List.mem_map.mp he
    exact trip_key (trip_in I (htr x hx))
  · have sub : ∀ e ∈ L, ∃ x ∈ ts, row x = e := fun e he => List.mem_map.mp (List.mem_of_mem_take (g.of_ e he))
    have eL : (L.map fun e => (e.1, unkey e.2)).map row = L := by
      rw [List.map_map]
      conv => rhs; rw [← List.map_id L]
      refine List.map_congr_left fun e he => ?_
      obtain ⟨x, _, rfl⟩ := sub e he
      rfl
    rw [← eL] at T
    have nd : ((L.map fun e => (e.1, unkey e.2)).map (·.2)).Nodup := by
      have z := T.dif
      rw [List.map_map] at z
      have e : ((fun x : Addr × List Key => x.2) ∘ row) = keyOf ∘ fun x : Addr × T3 => x.2 := rfl
      rw [e, ← List.map_map] at z
      exact List.Pairwise.of_map keyOf (fun _ _ ne z => ne (congrArg keyOf z)) z
    refine ⟨.ref s.heap.objs.size, upd H s.heap.objs.size (SetM X.prog X.w s.heap.objs.size (L.map fun e => (e.1, unkey e.2))), I.laid (t' := tk) k (Nat.le_refl _) (setM_ok (tab0_of T)), rfl, q _ _ hn (fun e he => ?_) (fun e he => ?_) nd⟩
    · obtain ⟨y, hy, rfl⟩ := List.mem_map.mp he
      obtain ⟨x, hx, rfl⟩ := sub y hy
      exact hx
    · have z := g.has (row e) (by rw [List.take_length]; exact List.mem_map_of_mem (f := row) he)
      obtain ⟨y, hy, ey⟩ := List.mem_map.mp z
      refine List.mem_map.mpr ⟨(y.1, unkey y.2), List.mem_map_of_mem (f := fun e => (e.1, unkey e.2)) hy, ?_⟩
      show unkey y.2 = e.2
      rw [ey]
      rfl
/-- sorted of such a set -/
def rSortM (P : Program) (w : World) : List V → Hp → VK → Prop := fun vs H Q => ∃ (a : Addr) (L : List (Addr × T3)), vs = [V.ref a] ∧ H a = some (SetM P w a L) ∧ (∀ e ∈ L, Tr H e) ∧
  ∀ (M : List (Addr × T3)) (p : Addr), M.Perm L → SrtO.Srtd (fun x y : Addr × T3 => lt3 x.2 y.2) M → H p = none → Q (.ref p) (upd H p (.lst (M.map fun e => V.ref e.1)))
theorem cr_sortM (hc : X.calm = true) : CallR X (.builtin "sorted") (rSortM X.prog X.w) := by
  intro pins s σ H vs us Q I r h
  obtain ⟨a, L, rfl, ha, htr, q⟩ := h
  obtain ⟨u, rfl, ru⟩ := vals1 r
  obtain rfl : u = Value.ref a := ru
  have R0 : Tab0 X.prog X.w s.heap a L := (I.hok a _ ha).1
  obtain ⟨es, ep, t, T⟩ := tbl_of R0 fun e he => trip_in I (htr e he)
  have few := T.few
  rw [List.length_map] at few
  refine sorted_set T (I.ok.hd hc) (fun e he => trip_in I (htr e he)) fun s' p n M k g o hp hg pm so => ?_
  have hlen : (M.map fun e => V.ref e.1).length ≤ sizeLine := by
    rw [List.length_map, pm.length_eq, sizeLine_eq]
    omega
  have hn : H p = none := I.hok.fresh hp
  have J : Inv X pins σ (upd H p (.lst (M.map fun e => V.ref e.1))) s' := I.call' (ch := []) o (Un.laid k hp hn) (I.hok.laid k hp ⟨hlen, _, n, are_refs M, hg⟩) (by rw [g]; exact I.bare) (fun _ z => nomatch z)
  exact ⟨.ref p, _, J, rfl, q M p pm so hn⟩
end
end SX

set_option Elab.async false
set_option linter.all false
set_option maxRecDepth 100000
set_option maxHeartbeats 4000000
/-! Drawn framings: sets. -/
namespace K10
open PySem L2 L2.EV
abbrev sFraming : Stmt := top 45
theorem lt3_tri {x y : T3} (h1 : lt3 x y = false) (h2 : lt3 y x = false) : x = y := by
  have a := lt3_no.mp h1
  have b := lt3_no.mp h2
  have e1 : x.1 = y.1 := by
    have a1 : ¬ x.1 < y.1 := fun q => a (.inl q)
    have b1 : ¬ y.1 < x.1 := fun q => b (.inl q)
    omega
  have a2 : ¬ sl x.2.1 < sl y.2.1 := fun q => a (.inr ⟨e1, .inl q⟩)
  have b2 : ¬ sl y.2.1 < sl x.2.1 := fun q => b (.inr ⟨e1.symm, .inl q⟩)
  have e2 : x.2.1 = y.2.1 := sl_inj (List.le_antisymm (List.not_lt.mp b2) (List.not_lt.mp a2))
  have a3 : ¬ x.2.2 < y.2.2 := fun q => a (.inr ⟨e1, .inr ⟨e2, q⟩⟩)
  have b3 : ¬ y.2.2 < x.2.2 := fun q => b (.inr ⟨e1.symm, .inr ⟨e2.symm, q⟩⟩)
  exact Prod.ext e1 (Prod.ext e2 (by omega))
/-- steps at ts -/
def At3 (H : Hp) (ts : List Addr) (xs : List T3) : Prop := ts.length = xs.length ∧ ∀ (i : Nat) t x, ts[i]? = some t → xs[i]? = some x → S3 H t x
theorem At3.same {H H' : Hp} {ts : List Addr} {xs : List T3} (h : At3 H ts xs) (s : KeepT H H') : At3 H' ts xs := ⟨h.1, fun i t x h1 h2 => s _ _ (h.2 i t x h1 h2)⟩
theorem At3.snoc {H : Hp} {ts : List Addr} {xs : List T3} {t : Addr} {x : T3} (h : At3 H ts xs) (hx : S3 H t x) : At3 H (ts ++ [t]) (xs ++ [x]) := by
  refine ⟨by rw [List.length_append, List.length_append, h.1]; rfl, fun i u y h1 h2 => ?_⟩
  by_cases e : i < ts.length
  · rw [List.getElem?_append_left e] at h1
    rw [List.getElem?_append_left (by rw [← h.1]; exact e)] at h2
    exact h.2 i u y h1 h2
  · have i1 := (List.getElem?_eq_some_iff.mp h1).1
    rw [List.length_append] at i1
    have e2 : i = ts.length := by simp only [List.length_cons, List.length_nil] at i1; omega
    subst e2
    rw [List.getElem?_append_right (Nat.le_refl _), Nat.sub_self] at h1
    rw [h.1, List.getElem?_append_right (Nat.le_refl _), Nat.sub_self] at h2
    have e3 : t = u := Option.some.inj h1
    have e4 : x = y := Option.some.inj h2
    rw [← e3, ← e4]
    exact hx
/-- few standings, few steps, short pieces of few letters -/
structure Sml (fr : List T3) : Prop where
  st : ∀ x ∈ fr, x.1 ≤ 3 ∧ x.2.2 ≤ 3
  ln : ∀ x ∈ fr, (sl x.2.1).length ≤ (if x.2.2 = 0 then 3 else 2)
  lt : ∀ x ∈ fr, ∀ c ∈ sl x.2.1, c ∈ Ltr ∨ c = 59
  n9 : fr.length ≤ 9
  n7 : (fr.filter fun x => decide (¬ x.1 = 0)).length ≤ 7
/-- a drawn step -/
def StpL (x : T3) : Prop := 0 ≤ x.1 ∧ x.1 < 6 ∧ PcL x.2.1 (decide (x.2.2 = 0)) ∧ 0 ≤ x.2.2 ∧ x.2.2 < 6
theorem StpL.stp {x : T3} (h : StpL x) : Stp x := ⟨h.1, h.2.1, h.2.2.1.1, h.2.2.2.1, h.2.2.2.2⟩
/-- how many begin a line -/
def zr (xs : List T3) : Nat := (xs.filter fun x => decide (x.1 = 0)).length
theorem zr_snoc (xs : List T3) (x : T3) : zr (xs ++ [x]) = zr xs + if x.1 = 0 then 1 else 0 := by
  unfold zr
  rw [List.filter_append, List.length_append, List.filter_cons]
  by_cases z : x.1 = 0
  · rw [if_pos (decide_eq_true z), if_pos z]
    rfl
  · rw [if_neg (by simp [z]), if_neg z]
    rfl
theorem zr_not : ∀ l : List T3, zr l + (l.filter fun x => decide (¬ x.1 = 0)).length = l.length := by
  intro l
  unfold zr
  induction l with
  | nil => rfl
  | cons x l ih =>
    rw [List.filter_cons, List.filter_cons]
    by_cases z : x.1 = 0
    · rw [if_pos (by simp [z]), if_neg (by simp [z]), List.length_cons, List.length_cons]
      omega
    · rw [if_neg (by simp [z]), if_pos (by simp [z]), List.length_cons, List.length_cons]
      omega
def spFraming : Sp := fun vs H Q _ => ∃ (m c l : Addr) (k : Int) (b : Nat), vs = [.ref m, .int (b : Int)] ∧ b ≤ 3 ∧ MAt H m c l k ∧ k < 700000 ∧
  ∀ (f : Addr) (fr : List T3) (last : Nat) (H' : Hp) (l' : Addr) (k' : Int), FrA H' f fr → Frm fr last → Sml fr → last ≤ b → fr.length ≤ 2 * b + 3 → k' ≤ k + 400 → Dr H H' m c l l' k' → Q (.ref f) H'
/-- the found steps at F -/
structure FS (H H' : Hp) (m c l F : Addr) (kb : Int) (last z : Nat) (xs : List T3) : Prop where
  ex : ∃ (ts : List Addr) (l' : Addr) (k' : Int), H' F = some (.lst (ts.map V.ref)) ∧ At3 H' ts xs ∧ F ≠ l' ∧ F ≠ m ∧ F ≠ c ∧ k' ≤ kb ∧ Dr H H' m c l l' k'
  ok : ∀ x ∈ xs, StpL x ∧ x.1 ≤ last ∧ x.2.2 ≤ last
  hF : ∀ b o, H b = some o → b ≠ m → b ≠ l → b ≠ F
  zc : z ≤ zr xs
theorem bl_eq (t : Int) : decide (V.int t = V.int 0) = decide (t = 0) := by
  rw [dec_int]
  by_cases z : t = 0
  · rw [z]
    rfl
  · rw [decide_eq_false z]
    exact beq_eq_false_iff_ne.mpr z
theorem Dr.keepT {H0 H : Hp} {m c l0 l : Addr} {k k0 : Int} (d : Dr H0 H m c l0 l k) (M : MAt H0 m c l0 k0) : KeepT H0 H := fun a xs e => d.tup M e
/-- one step more -/
theorem FS.push {H H1 H2 H3 : Hp} {m c l F l1 l2 t : Addr} {k1 k2 kb : Int} {last z z2 : Nat} {xs : List T3} {ts : List Addr} {x : T3} (hF : H1 F = some (.lst (ts.map V.ref))) (ha : At3 H1 ts xs) (n1 : F ≠ l1) (n2 : F ≠ m) (n3 : F ≠ c) (d1 : Dr H H1 m c l l1 k1)
    (d2 : Dr H1 H2 m c l1 l2 k2) (ht : H2 t = none) (e3 : H3 = upd (upd H2 t (.tup [.int x.1, .str x.2.1, .int x.2.2])) F (.lst (ts.map V.ref ++ [.ref t]))) (hk : k2 ≤ kb)
    (ok : ∀ y ∈ xs, StpL y ∧ y.1 ≤ last ∧ y.2.2 ≤ last) (okx : StpL x ∧ x.1 ≤ last ∧ x.2.2 ≤ last) (hF0 : ∀ b o, H b = some o → b ≠ m → b ≠ l → b ≠ F) (hz : z ≤ zr xs) (hz2 : z2 ≤ z + if x.1 = 0 then 1 else 0) : FS H H3 m c l F kb last z2 (xs ++ [x]) := by
  obtain ⟨hF2, n4⟩ := d2.lst d1.at_ hF n1
  have u := same_upd (o := HO.tup [.int x.1, .str x.2.1, .int x.2.2]) ht
  have hF2' := u _ _ hF2
  have kt := keepT_upd (o := .lst (ts.map V.ref ++ [.ref t])) hF2' (fun xs z => by cases z)
  have D2 := (d1.trans d2).same u
  subst e3
  refine ⟨⟨ts ++ [t], l2, k2, by rw [List.map_append]; exact upd_same, ?_, n4, n2, n3, hk, ⟨D2.at_.upd n2 n3 n4, D2.hl, fun b o z h1 h2 => ?_⟩⟩, fun y hy => ?_, hF0, by rw [zr_snoc]; omega⟩
  · refine At3.snoc (ha.same ?_) (kt _ _ upd_same)
    exact ((d2.keepT d1.at_).trans (Same.keepT u)).trans kt
  · rw [upd_ne (hF0 b o z h1 h2)]
    exact D2.kp b o z h1 h2
  · rcases List.mem_append.mp hy with h | h
    · exact ok y h
    · have e : y = x := by simpa using h
      rw [e]
      exact okx

theorem srt_of {M : List (Addr × T3)} (sr : SrtO.Srtd (fun x y : Addr × T3 => lt3 x.2 y.2) M) (nd : (M.map (·.2)).Nodup) : (M.map (·.2)).Pairwise (fun x y => lt3 x y = true) := by
  have s2 : (M.map (·.2)).Pairwise fun x y => lt3 y x = false := List.pairwise_map.mpr sr
  refine (s2.and nd).imp fun {x y} z => ?_
  cases e : lt3 x y with
  | true => rfl
  | false => exact absurd (lt3_tri e z.1) z.2
/-- a set, sorted: a framing -/
theorem frm_of {H H' : Hp} {ts : List Addr} {xs : List T3} {last : Nat} {L M : List (Addr × T3)} {p : Addr} (ha : At3 H ts xs) (sub : ∀ e ∈ L, e ∈ ts.zip xs) (cov : ∀ e ∈ ts.zip xs, e.2 ∈ L.map (·.2)) (nd : (L.map (·.2)).Nodup) (pm : M.Perm L) (sr : SrtO.Srtd (fun x y : Addr × T3 => lt3 x.2 y.2) M) (l1 : xs.length ≤ 16) (l5 : last ≤ 5)
    (l9 : xs.length ≤ 9) (z7 : xs.length ≤ 7 + zr xs) (l3 : last ≤ 3) (ok : ∀ x ∈ xs, StpL x ∧ x.1 ≤ last ∧ x.2.2 ≤ last) (up : ∀ k : Nat, 1 ≤ k → k ≤ last → ∃ x ∈ xs, x.2.2 = (k : Int) ∧ 0 ≤ x.1 ∧ x.1 < k) (dn : ∀ k : Nat, k ≤ last → ∃ x ∈ xs, x.1 = (k : Int) ∧ (x.2.2 = 0 ∨ ((k : Int) < x.2.2 ∧ x.2.2 ≤ last)))
    (s : Same H H') (hp : H' p = some (.tup (M.map fun e => V.ref e.1))) : FrA H' p (M.map (·.2)) ∧ Frm (M.map (·.2)) last ∧ Sml (M.map (·.2)) ∧ (M.map (·.2)).length ≤ xs.length := by
  have mem : ∀ x, x ∈ M.map (·.2) ↔ x ∈ xs := fun x => by
    rw [(pm.map (·.2)).mem_iff]
    refine ⟨fun h => ?_, fun h => ?_⟩
    · obtain ⟨e, he, rfl⟩ := List.mem_map.mp h
      exact (List.of_mem_zip (sub e he)).2
    · obtain ⟨i, hi, e⟩ := List.getElem_of_mem h
      have ht : i < ts.length := by rw [ha.1]; exact hi
      have z := cov (ts[i], xs[i]) (by
        refine List.mem_of_getElem? (i := i) ?_
        rw [List.getElem?_zip_eq_some]
        exact ⟨List.getElem?_eq_getElem ht, List.getElem?_eq_getElem hi⟩)
      rw [← e]
      exact z
  have nd2 : (M.map (·.2)).Nodup := by
    rw [(pm.map (·.2)).nodup_iff]
    exact nd
  have lx : (M.map (·.2)).length ≤ xs.length := nd2.length_le_of_subset fun x hx => (mem x).mp hx
  have len : (M.map (·.2)).length ≤ 16 := Nat.le_trans lx l1
  refine ⟨⟨M.map (·.1), by rw [List.map_map]; exact hp, by rw [List.length_map, List.length_map], fun i t x h1 h2 => ?_⟩, ⟨?_, len, fun x hx => (ok x ((mem x).mp hx)).1.stp, srt_of sr nd2, fun k h1 h2 => ?_, fun k hk => ?_, fun x hx => (ok x ((mem x).mp hx)).2, l5⟩, ⟨fun x hx => ?_, fun x hx => ?_, fun x hx => (ok x ((mem x).mp hx)).1.2.2.1.2.2, by omega, ?_⟩, lx⟩
  · rw [List.getElem?_map] at h1 h2
    cases e : M[i]? with
    | none =>
      rw [e] at h1
      cases h1
    | some y =>
      rw [e] at h1 h2
      cases h1
      cases h2
      have z := sub y (pm.mem_iff.mp (List.mem_of_getElem? e))
      obtain ⟨j, hj, ej⟩ := List.getElem_of_mem z
      have z2 : (ts.zip xs)[j]? = some y := by rw [List.getElem?_eq_getElem hj, ej]
      rw [List.getElem?_zip_eq_some] at z2
      exact s _ _ (ha.2 j _ _ z2.1 z2.2)
  · obtain ⟨x, hx, _⟩ := dn 0 (Nat.zero_le _)
    exact List.length_pos_of_mem ((mem x).mpr hx)
  · obtain ⟨x, hx, e⟩ := up k h1 h2
    exact ⟨x, (mem x).mpr hx, e⟩
  · obtain ⟨x, hx, e⟩ := dn k hk
    exact ⟨x, (mem x).mpr hx, e⟩
  · obtain ⟨_, a, b⟩ := ok x ((mem x).mp hx)
    exact ⟨by omega, by omega⟩
  · have a := (ok x ((mem x).mp hx)).1.2.2.1.2.1
    by_cases z : x.2.2 = 0
    · rw [if_pos (decide_eq_true z)] at a
      rw [if_pos z]
      exact a
    · rw [if_neg (by simp [z])] at a
      rw [if_neg z]
      exact a
  · have a := zr_not xs
    have ndf : ((M.map (·.2)).filter fun x : T3 => decide (¬ x.1 = 0)).Nodup := List.Pairwise.filter _ nd2
    have b := ndf.length_le_of_subset (l₂ := xs.filter fun x => decide (¬ x.1 = 0)) fun x hx => by
      obtain ⟨h1, h2⟩ := List.mem_filter.mp hx
      exact List.mem_filter.mpr ⟨(mem x).mp h1, h2⟩
    omega
end K10

set_option Elab.async false
set_option linter.all false
set_option maxRecDepth 100000
set_option maxHeartbeats 4000000
/-! Drawn framings: the def. -/
namespace K10
open PySem L2 L2.EV
section
variable {P : Program} {w : World} {K : PySem.W.Frag} {mg : Str → Option Value} {base : Heap}
structure Lf (K : PySem.W.Frag) (mg : Str → Option Value) where
  L : Ls K mg
  f : Addr
  d : FuncData
  F : Fun K "_law_framing" "_law_framing" sFraming f d
  b : Binds K d ["m", "most"] []
  g : mg "_law_framing" = some (.ref f)
  so : mg "sorted" = none
  tu : mg "tuple" = none
  se : mg "set" = none
theorem scFraming : FnScope ["m", "most", "steps", "last", "here", "k", "to"] ["m", "most"] (defScope sFraming) := ⟨rfl, rfl, rfl, by decide +kernel, rfl, by decide +kernel, by decide +kernel⟩
theorem ok_framing (G : Lf K mg) : FnOk P w K mg base CX0 3 G.f G.d ["m", "most"] spFraming := by
  have GX : FnOk P w K mg base CX0 1 G.L.f1 G.L.d1 ["m", "many"] spNext := ok_next G.L.N G.L.T
  have GP : FnOk P w K mg base CX0 2 G.L.f2 G.L.d2 ["m", "is_end"] spPiece := ok_piece G.L
  refine G.F.ok scFraming (fun vs H Q E h => ?_) (fun cdv A outer s H vs Q E hr h => ?_)
  · obtain ⟨m, c, l, k, b, rfl, _⟩ := h
    rfl
  · obtain ⟨m, c, l, k, bm, rfl, hbm, M, hk, q⟩ := h
    have hr1 := hr.mono (j := 1) (by omega)
    have hu64 : (A.deeper (PyProof.Rows.envOfC "_law_framing" (defScope sFraming) s.heap.objs.size G.f cdv)).units + 64 < cLine := by have := hr.un; omega
    refine ⟨_, pss_cons (ps_par (i := 2) (j := 3) (x := "steps") (y := "last") rfl scFraming.nd rfl rfl (by decide) rfl rfl (pa_cons (pe_lst pa_nil) (pa_cons (pe_call GX hr1 (by rfl) G.L.mN G.L.N.kp G.L.bN .nil pass0 (pa_cons (pv 0) (pa_cons (pe_op op_add (pv 1) pe_int) pa_nil))) pa_nil)) (by rfl))
      (pss_cons (ps_for PassesOwn.never rfl (pi_range2 (by rfl) G.L.ra (pa_cons pe_int (pa_cons (pe_op op_add (pv 3) pe_int) pa_nil))) (pg_name (i := 4) scFraming.nd rfl (Or.inl rfl))
        (pss_one (ps_expr (pe_bm PySem.F.plainAttrs_list PySem.F.slot_list_append PySem.F.type_list_append mt_append (pv 2) (pa_cons (pe_tup (pa_cons (pe_call GX hr1 (by rfl) G.L.mN G.L.N.kp G.L.bN .nil pass0 (pa_cons (pv 0) (pa_cons (pv 4) pa_nil))) (pa_cons (pe_call GP hr (by rfl) G.L.mP G.L.P.kp G.L.bP .nil pass0 (pa_cons (pv 0) (pa_cons pe_bl pa_nil))) (pa_cons (pv 4) pa_nil)))) pa_nil)))))
      (pss_cons (ps_for PassesOwn.never rfl (pi_range1 (by rfl) G.L.ra (pa_cons (pe_op op_add (pv 3) pe_int) pa_nil)) (pg_name (i := 4) scFraming.nd rfl (Or.inl rfl))
        (pss_one (ps_if (pw_or (pt_cmpR op_eq (pv 4) (pv 3) (nomark _)) (pw_or1 (pt_cmpR op_eq (pe_call GX hr1 (by rfl) G.L.mN G.L.N.kp G.L.bN .nil pass0 (pa_cons (pv 0) (pa_cons pe_int pa_nil))) pe_int (nomark _)))).pt
          (pss_one (ps_expr (pe_bm PySem.F.plainAttrs_list PySem.F.slot_list_append PySem.F.type_list_append mt_append (pv 2) (pa_cons (pe_tup (pa_cons (pv 4) (pa_cons (pe_call GP hr (by rfl) G.L.mP G.L.P.kp G.L.bP .nil pass0 (pa_cons (pv 0) (pa_cons pe_bl pa_nil))) (pa_cons pe_int pa_nil)))) pa_nil))))
          (pss_one (ps_expr (pe_bm PySem.F.plainAttrs_list PySem.F.slot_list_append PySem.F.type_list_append mt_append (pv 2) (pa_cons (pe_tup (pa_cons (pv 4) (pa_cons (pe_call GP hr (by rfl) G.L.mP G.L.P.kp G.L.bP .nil pass0 (pa_cons (pv 0) (pa_cons pe_bl pa_nil))) (pa_cons (pe_op op_add (pe_op op_add (pv 4) pe_int) (pe_call GX hr1 (by rfl) G.L.mN G.L.N.kp G.L.bN .nil pass0 (pa_cons (pv 0) (pa_cons (pe_op op_sub (pv 3) (pv 4)) pa_nil)))) pa_nil)))) pa_nil)))))))
      (pss_cons (ps_for PassesOwn.never rfl (pi_range1 (by rfl) G.L.ra (pa_cons (pe_call GX hr1 (by rfl) G.L.mN G.L.N.kp G.L.bN .nil pass0 (pa_cons (pv 0) (pa_cons pe_int pa_nil))) pa_nil)) (pg_name (i := 5) scFraming.nd rfl (Or.inl rfl))
        (pss_cons (ps_set (i := 6) scFraming.nd rfl (Or.inl rfl) (pe_call GX hr1 (by rfl) G.L.mN G.L.N.kp G.L.bN .nil pass0 (pa_cons (pv 0) (pa_cons (pe_op op_add (pv 3) pe_int) pa_nil))))
        (pss_one (ps_expr (pe_bm PySem.F.plainAttrs_list PySem.F.slot_list_append PySem.F.type_list_append mt_append (pv 2) (pa_cons (pe_tup (pa_cons (pe_call GX hr1 (by rfl) G.L.mN G.L.N.kp G.L.bN .nil pass0 (pa_cons (pv 0) (pa_cons (pe_op op_add (pv 3) pe_int) pa_nil))) (pa_cons (pe_call GP hr (by rfl) G.L.mP G.L.P.kp G.L.bP .nil pass0 (pa_cons (pv 0) (pa_cons (pe_cmpR op_eq (pv 6) pe_int (nomark _)) pa_nil))) (pa_cons (pv 6) pa_nil)))) pa_nil))))))
      (pss_one (ps_ret (pe_callTy call_tuple_of (by rfl) G.tu (by decide +kernel) (pa_cons (pe_callB (SX.cr_sortM rfl) (by rfl) G.so (by decide +kernel) (pa_cons (pe_callTy (SX.cr_setM rfl hu64) (by rfl) G.se (by decide +kernel) (pa_cons (pv 2) pa_nil)) pa_nil)) pa_nil))))))), ?_⟩
    refine ⟨by decide, fun F hF => ?_⟩
    have u0 := same_upd (o := HO.lst []) hF
    have M0 := M.same u0
    refine ⟨_, rfl, _, rfl, bm, 1, rfl, rfl, m, c, l, k, _, rfl, M0, by omega, by omega, by omega, fun r0 H1 l1 k1 a1 b1 g1 N1 f1 q1 => ?_⟩
    have d1 : Dr _ H1 m c l l1 k1 := ⟨N1, f1, q1⟩
    obtain ⟨last, rfl⟩ := Int.eq_ofNat_of_zero_le a1
    have lbm : last ≤ bm := by omega
    have l5 : last ≤ 5 := by omega
    have nm : F ≠ m := (ne_of_none M.hm hF).symm
    have nc : F ≠ c := M.c_some hF
    obtain ⟨hF1, n1⟩ := d1.lst M0 upd_same (M.l_some hF)
    have D1 := ((Dr.refl M).same u0).trans d1
    have fs0 : FS H H1 m c l F k1 last (min 0 1) [] := ⟨⟨[], l1, k1, hF1, ⟨rfl, fun i t x h => by cases h⟩, n1, nm, nc, Int.le_refl _, D1⟩, (fun x h => by cases h), fun b o z h1 h2 => ne_of_none z hF, Nat.zero_le _⟩
    have hn : ((last : Int) + 1 - 1).toNat = last := by omega
    have hn2 : ((last : Int) + 1).toNat = last + 1 := by omega
    refine ⟨_, _, rfl, _, rfl, last, 1, rfl, rfl, 1, _, rfl, ⟨by decide, by decide, by omega, by omega⟩, for_it walk_range (fun i σ H' => ∃ (v4 : Option V) (xs : List T3), σ = [some (.ref m), some (.int (bm : Int)), some (.ref F), some (.int (last : Int)), v4, none, none] ∧
      FS H H' m c l F (k1 + 22 * i) last (min i 1) xs ∧ xs.length = i ∧ ∀ j : Nat, 1 ≤ j → j ≤ i → ∃ x ∈ xs, x.2.2 = (j : Int) ∧ 0 ≤ x.1 ∧ x.1 < j)
      ⟨none, [], rfl, by simpa using fs0, rfl, fun j h1 h => absurd h (by omega)⟩ (fun _ _ _ _ _ => trivial) ?_ ?_⟩
    · rintro i x σ H2 H3 hi ⟨v4, xs, rfl, fs, lx, up⟩ ⟨rfl, rfl⟩
      have hil : i < last := by omega
      obtain ⟨ts, l3, k3, hF3, ha3, n3, _, _, kk3, D3⟩ := fs.ex
      refine ⟨_, rfl, .inl ⟨rfl, _, SqL.of hF3⟩, _, rfl, _, rfl, m, c, l3, k3, _, rfl, D3.at_, by omega, by omega, by omega, fun rh H7 l7 k7 a7 b7 g7 N7 f7 q7 => ?_⟩
      have d7 : Dr _ H7 m c l3 l7 k7 := ⟨N7, f7, q7⟩
      refine ⟨_, rfl, m, c, l7, k7, false, rfl, N7, by omega, fun pp H4 l4 k4 hp kk4 d4 => ?_⟩
      refine ⟨_, rfl, (by show 3 ≤ sizeLine; decide), fun tp htp => ?_⟩
      have d74 := d7.trans d4
      obtain ⟨hF4, n4⟩ := d74.lst D3.at_ hF3 n3
      refine ⟨F, ts.map V.ref, _, rfl, rfl, same_upd htp _ _ hF4, by rw [List.length_map, ha3.1, sizeLine_eq]; omega, ?_⟩
      have okx : StpL ((rh, pp, 1 + (i : Int)) : T3) ∧ (rh : Int) ≤ last ∧ (1 + (i : Int) : Int) ≤ last := ⟨⟨a7, by show rh < 6; omega, by rw [show decide ((1 + (i : Int) : Int) = 0) = false from decide_eq_false (by omega)]; exact hp, by show (0 : Int) ≤ 1 + i; omega, by show (1 + (i : Int)) < 6; omega⟩, by omega, by omega⟩
      have fs' := FS.push (x := (rh, pp, 1 + (i : Int))) hF3 ha3 n3 nm nc D3 d74 htp rfl (kb := k1 + 22 * ((i + 1 : Nat) : Int)) (by omega) fs.ok okx fs.hF fs.zc (z2 := min (i + 1) 1) (by show min (i + 1) 1 ≤ min i 1 + (if rh = 0 then 1 else 0); split <;> omega)
      refine ⟨_, _, rfl, fs', by rw [List.length_append, lx]; rfl, fun j h1 h2 => ?_⟩
      by_cases e : j = i + 1
      · subst e
        exact ⟨_, List.mem_append_right _ (List.mem_singleton.mpr rfl), by show 1 + (i : Int) = ((i + 1 : Nat) : Int); omega, a7, by show rh < ((i + 1 : Nat) : Int); omega⟩
      · obtain ⟨x, hx, e2⟩ := up j h1 (by omega)
        exact ⟨x, List.mem_append_left _ hx, e2⟩
    · rintro σ H2 ⟨v4, xs, rfl, fs, lx, up⟩
      rw [hn] at fs lx up
      refine ⟨_, rfl, last, 1, rfl, rfl, _, rfl, by omega, by omega, for_it walk_range (fun i σ H' => ∃ (v4 : Option V) (xs : List T3), σ = [some (.ref m), some (.int (bm : Int)), some (.ref F), some (.int (last : Int)), v4, none, none] ∧
        FS H H' m c l F (k1 + 110 + 23 * i) last (min last 1 + min i 1) xs ∧ xs.length = last + i ∧ (∀ j : Nat, 1 ≤ j → j ≤ last → ∃ x ∈ xs, x.2.2 = (j : Int) ∧ 0 ≤ x.1 ∧ x.1 < j) ∧ ∀ j : Nat, j < i → ∃ x ∈ xs, x.1 = (j : Int) ∧ (x.2.2 = 0 ∨ ((j : Int) < x.2.2 ∧ x.2.2 ≤ last)))
        ⟨v4, xs, rfl, ⟨?_, fs.ok, fs.hF, by have := fs.zc; omega⟩, lx, up, fun j h => absurd h (by omega)⟩ (fun _ _ _ _ _ => trivial) ?_ ?_⟩
      · obtain ⟨ts, l3, k3, hF3, ha3, n3, w1, w2, kk3, D3⟩ := fs.ex
        exact ⟨ts, l3, k3, hF3, ha3, n3, w1, w2, by omega, D3⟩
      · rintro i x σ H2 H3 hi ⟨v4, xs, rfl, fs, lx, up, dn⟩ ⟨rfl, rfl⟩
        have hil : i ≤ last := by omega
        have e0 : (0 + (i : Int)) = (i : Int) := Int.zero_add _
        show gName 4 (V.int (0 + (i : Int))) _ _ _
        rw [e0]
        obtain ⟨ts, l3, k3, hF3, ha3, n3, _, _, kk3, D3⟩ := fs.ex
        have fin : ∀ (t : Int) (pp : Str), (t = 0 ∨ ((i : Int) < t ∧ t ≤ last)) → (xs ++ [((i : Int), pp, t)]).length = last + (i + 1) ∧ (∀ j : Nat, 1 ≤ j → j ≤ last → ∃ x ∈ xs ++ [((i : Int), pp, t)], x.2.2 = (j : Int) ∧ 0 ≤ x.1 ∧ x.1 < j) ∧ ∀ j : Nat, j < i + 1 → ∃ x ∈ xs ++ [((i : Int), pp, t)], x.1 = (j : Int) ∧ (x.2.2 = 0 ∨ ((j : Int) < x.2.2 ∧ x.2.2 ≤ last)) := fun t pp et => by
          refine ⟨by rw [List.length_append, lx]; rfl, fun j h1 h2 => ?_, fun j hj => ?_⟩
          · obtain ⟨x, hx, e2⟩ := up j h1 h2
            exact ⟨x, List.mem_append_left _ hx, e2⟩
          · by_cases e : j = i
            · subst e
              exact ⟨_, List.mem_append_right _ (List.mem_singleton.mpr rfl), rfl, et⟩
            · obtain ⟨x, hx, e2⟩ := dn j (by omega)
              exact ⟨x, List.mem_append_left _ hx, e2⟩
        refine ⟨_, rfl, _, rfl, rfl, _, rfl, ?_⟩
        refine ite2 (fun z => ?_) (fun z => ?_)
        · skip
          refine ⟨_, rfl, .inl ⟨rfl, _, SqL.of hF3⟩, _, rfl, _, rfl, m, c, l3, k3, true, rfl, D3.at_, by omega, fun pp H4 l4 k4 hp kk4 d4 => ?_⟩
          refine ⟨(by show 3 ≤ sizeLine; decide), fun tp htp => ?_⟩
          obtain ⟨hF4, n4⟩ := d4.lst D3.at_ hF3 n3
          refine ⟨F, ts.map V.ref, _, rfl, rfl, same_upd htp _ _ hF4, by rw [List.length_map, ha3.1, sizeLine_eq]; omega, ?_⟩
          have okx : StpL (((i : Int), pp, 0) : T3) ∧ ((i : Int) : Int) ≤ last ∧ (0 : Int) ≤ last := ⟨⟨by show (0 : Int) ≤ i; omega, by show (i : Int) < 6; omega, hp, Int.le_refl _, by show (0 : Int) < 6; decide⟩, by omega, by omega⟩
          have fs' := FS.push (x := ((i : Int), pp, 0)) hF3 ha3 n3 nm nc D3 d4 htp rfl (kb := k1 + 110 + 23 * ((i + 1 : Nat) : Int)) (by omega) fs.ok okx fs.hF fs.zc (z2 := min last 1 + min (i + 1) 1) (by show min last 1 + min (i + 1) 1 ≤ min last 1 + min i 1 + (if (i : Int) = 0 then 1 else 0); split <;> omega)
          obtain ⟨w1, w2, w3⟩ := fin 0 pp (.inl rfl)
          exact ⟨_, _, rfl, fs', w1, w2, w3⟩
        · have z1 : ¬ (i : Int) = last := fun y => z (decide_eq_true (congrArg V.int y))
          refine ⟨_, rfl, m, c, l3, k3, 2, rfl, D3.at_, by decide, by decide, by omega, fun rz H7 l7 k7 a7 b7 g7 N7 f7 q7 => ?_⟩
          have d7 : Dr _ H7 m c l3 l7 k7 := ⟨N7, f7, q7⟩
          obtain ⟨hF7, n7⟩ := d7.lst D3.at_ hF3 n3
          have D7 := D3.trans d7
          have ha7 := ha3.same (d7.keepT D3.at_)
          refine ⟨rfl, _, rfl, ?_⟩
          refine ite2 (fun z => ?_) (fun z => ?_)
          · skip
            refine ⟨_, rfl, .inl ⟨rfl, _, SqL.of hF7⟩, _, rfl, _, rfl, m, c, l7, k7, true, rfl, D7.at_, by omega, fun pp H4 l4 k4 hp kk4 d4 => ?_⟩
            refine ⟨(by show 3 ≤ sizeLine; decide), fun tp htp => ?_⟩
            obtain ⟨hF4, n4⟩ := d4.lst D7.at_ hF7 n7
            refine ⟨F, ts.map V.ref, _, rfl, rfl, same_upd htp _ _ hF4, by rw [List.length_map, ha3.1, sizeLine_eq]; omega, ?_⟩
            have okx : StpL (((i : Int), pp, 0) : T3) ∧ ((i : Int) : Int) ≤ last ∧ (0 : Int) ≤ last := ⟨⟨by show (0 : Int) ≤ i; omega, by show (i : Int) < 6; omega, hp, Int.le_refl _, by show (0 : Int) < 6; decide⟩, by omega, by omega⟩
            have fs' := FS.push (x := ((i : Int), pp, 0)) hF7 ha7 n7 nm nc D7 d4 htp rfl (kb := k1 + 110 + 23 * ((i + 1 : Nat) : Int)) (by omega) fs.ok okx fs.hF fs.zc (z2 := min last 1 + min (i + 1) 1) (by show min last 1 + min (i + 1) 1 ≤ min last 1 + min i 1 + (if (i : Int) = 0 then 1 else 0); split <;> omega)
            obtain ⟨w1, w2, w3⟩ := fin 0 pp (.inl rfl)
            exact ⟨_, _, rfl, fs', w1, w2, w3⟩
          · refine ⟨_, rfl, .inl ⟨rfl, _, SqL.of hF7⟩, _, rfl, _, rfl, m, c, l7, k7, false, rfl, D7.at_, by omega, fun pp H4 l4 k4 hp kk4 d4 => ?_⟩
            have D4 := D7.trans d4
            refine ⟨_, rfl, _, 1, rfl, rfl, _, rfl, _, rfl, _, rfl, _, _, rfl, rfl, m, c, l4, k4, _, rfl, D4.at_, by omega, by omega, by omega, fun rg H8 l8 k8 a8 b8 g8 N8 f8 q8 => ?_⟩
            have d8 : Dr _ H8 m c l4 l8 k8 := ⟨N8, f8, q8⟩
            have d48 := d4.trans d8
            refine ⟨_, rg, rfl, rfl, (by show 3 ≤ sizeLine; decide), fun tp htp => ?_⟩
            obtain ⟨hF4, n4⟩ := d48.lst D7.at_ hF7 n7
            refine ⟨F, ts.map V.ref, _, rfl, rfl, same_upd htp _ _ hF4, by rw [List.length_map, ha3.1, sizeLine_eq]; omega, ?_⟩
            have okx : StpL (((i : Int), pp, (i : Int) + 1 + rg) : T3) ∧ ((i : Int) : Int) ≤ last ∧ ((i : Int) + 1 + rg) ≤ last := ⟨⟨by show (0 : Int) ≤ i; omega, by show (i : Int) < 6; omega, by rw [show decide (((i : Int) + 1 + rg) = 0) = false from decide_eq_false (by omega)]; exact hp, by show 0 ≤ (i : Int) + 1 + rg; omega, by show (i : Int) + 1 + rg < 6; omega⟩, by omega, by omega⟩
            have fs' := FS.push (x := ((i : Int), pp, (i : Int) + 1 + rg)) hF7 ha7 n7 nm nc D7 d48 htp rfl (kb := k1 + 110 + 23 * ((i + 1 : Nat) : Int)) (by omega) fs.ok okx fs.hF fs.zc (z2 := min last 1 + min (i + 1) 1) (by show min last 1 + min (i + 1) 1 ≤ min last 1 + min i 1 + (if (i : Int) = 0 then 1 else 0); split <;> omega)
            obtain ⟨w1, w2, w3⟩ := fin ((i : Int) + 1 + rg) pp (.inr ⟨by omega, by omega⟩)
            exact ⟨_, _, rfl, fs', w1, w2, w3⟩
      · rintro σ H2 ⟨v4, xs, rfl, fs, lx, up, dn⟩
        rw [hn2] at fs lx dn
        obtain ⟨ts, l3, k3, hF3, ha3, n3, _, _, kk3, D3⟩ := fs.ex
        refine ⟨_, rfl, m, c, l3, k3, 3, rfl, D3.at_, by decide, by decide, by omega, fun r2 H3 l4 k4 a4 b4 g4 N4 f4 q4 => ?_⟩
        have d4 : Dr H2 H3 m c l3 l4 k4 := ⟨N4, f4, q4⟩
        obtain ⟨hF4, n4⟩ := d4.lst D3.at_ hF3 n3
        have fs4 : FS H H3 m c l F (k1 + 250) last (min last 1 + 1) xs := ⟨⟨ts, l4, k4, hF4, ha3.same (d4.keepT D3.at_), n4, nm, nc, by omega, D3.trans d4⟩, fs.ok, fs.hF, by have := fs.zc; omega⟩
        refine ⟨r2, rfl, by omega, by omega, for_it walk_range (fun i σ H' => ∃ (v4 v5 v6 : Option V) (xs : List T3), σ = [some (.ref m), some (.int (bm : Int)), some (.ref F), some (.int (last : Int)), v4, v5, v6] ∧
          FS H H' m c l F (k1 + 250 + 24 * i) last (min last 1 + 1) xs ∧ xs.length = last + (last + 1) + i ∧ (∀ j : Nat, 1 ≤ j → j ≤ last → ∃ x ∈ xs, x.2.2 = (j : Int) ∧ 0 ≤ x.1 ∧ x.1 < j) ∧ ∀ j : Nat, j < last + 1 → ∃ x ∈ xs, x.1 = (j : Int) ∧ (x.2.2 = 0 ∨ ((j : Int) < x.2.2 ∧ x.2.2 ≤ last)))
          ⟨v4, none, none, xs, rfl, by simpa using fs4, lx, up, dn⟩ (fun _ _ _ _ _ => trivial) ?_ ?_⟩
        · rintro i x σ H5 H6 hi ⟨v4, v5, v6, xs, rfl, fs, lx, up, dn⟩ ⟨rfl, rfl⟩
          have hi6 : i < 2 := by omega
          obtain ⟨ts, l5', k5, hF5, ha5, n5, _, _, kk5, D5⟩ := fs.ex
          refine ⟨_, rfl, _, rfl, last, 1, rfl, rfl, m, c, l5', k5, _, rfl, D5.at_, by omega, by omega, by omega, fun rt H8 l8 k8 a8 b8 g8 N8 f8 q8 => ?_⟩
          have d8 : Dr _ H8 m c l5' l8 k8 := ⟨N8, f8, q8⟩
          have D8 := D5.trans d8
          obtain ⟨hF8, n8⟩ := d8.lst D5.at_ hF5 n5
          have ha8 := ha5.same (d8.keepT D5.at_)
          refine ⟨_, rfl, .inl ⟨rfl, _, SqL.of hF8⟩, _, rfl, _, rfl, last, 1, rfl, rfl, m, c, l8, k8, _, rfl, D8.at_, by omega, by omega, by omega, fun rh H7 l7 k7 a7 b7 g7 N7 f7 q7 => ?_⟩
          have d7 : Dr _ H7 m c l8 l7 k7 := ⟨N7, f7, q7⟩
          refine ⟨_, rfl, _, rfl, rfl, m, c, l7, k7, decide (V.int (rt) = V.int 0), rfl, N7, by omega, fun pp H4 l4 k4 hp kk4 d4 => ?_⟩
          rw [bl_eq] at hp
          refine ⟨_, rfl, (by show 3 ≤ sizeLine; decide), fun tp htp => ?_⟩
          have d74 := d7.trans d4
          obtain ⟨hF4, n4⟩ := d74.lst D8.at_ hF8 n8
          refine ⟨F, ts.map V.ref, _, rfl, rfl, same_upd htp _ _ hF4, by rw [List.length_map, ha5.1, sizeLine_eq]; omega, ?_⟩
          have okx : StpL ((rh, pp, rt) : T3) ∧ (rh : Int) ≤ last ∧ (rt : Int) ≤ last := ⟨⟨a7, by show rh < 6; omega, hp, a8, by show rt < 6; omega⟩, by omega, by omega⟩
          have fs' := FS.push (x := (rh, pp, rt)) hF8 ha8 n8 nm nc D8 d74 htp rfl (kb := k1 + 250 + 24 * ((i + 1 : Nat) : Int)) (by omega) fs.ok okx fs.hF fs.zc (Nat.le_add_right _ _)
          exact ⟨_, _, _, _, rfl, fs', by rw [List.length_append, lx]; rfl, fun j h1 h2 => by
            obtain ⟨x, hx, e2⟩ := up j h1 h2
            exact ⟨x, List.mem_append_left _ hx, e2⟩, fun j hj => by
            obtain ⟨x, hx, e2⟩ := dn j hj
            exact ⟨x, List.mem_append_left _ hx, e2⟩⟩
        · rintro σ H5 ⟨v4, v5, v6, xs, rfl, fs, lx, up, dn⟩
          obtain ⟨ts, l6, k6, hF6, ha6, n6, _, _, kk6, D6⟩ := fs.ex
          have hr2 : r2.toNat ≤ 2 := by omega
          have l16 : xs.length ≤ 16 := by omega
          have ezl : (ts.zip xs).map (fun e => V.ref e.1) = ts.map V.ref := by
            rw [show (fun e : Addr × T3 => V.ref e.1) = V.ref ∘ Prod.fst from rfl, ← List.map_map, List.map_fst_zip (Nat.le_of_eq ha6.1)]
          have tr6 : ∀ e ∈ ts.zip xs, SX.Tr H5 e := fun e he => by
            obtain ⟨j, hj, ej⟩ := List.getElem_of_mem he
            have z2 : (ts.zip xs)[j]? = some e := by rw [List.getElem?_eq_getElem hj, ej]
            rw [List.getElem?_zip_eq_some] at z2
            exact ha6.2 j _ _ z2.1 z2.2
          have lz : (ts.zip xs).length ≤ 16 := by rw [List.length_zip]; omega
          refine ⟨_, rfl, F, ts.zip xs, rfl, by rw [ezl]; exact SqL.of hF6, tr6, by omega, fun a L ha0 sub cov nd => ?_⟩
          have ua := same_upd (o := SX.SetM P w a L) ha0
          refine ⟨a, L, rfl, upd_same, fun e he => ua _ _ (tr6 e (sub e he)), fun Mt p pm sr hp => ?_⟩
          have up2 := same_upd (o := HO.lst (Mt.map fun e => V.ref e.1)) hp
          refine ⟨p, _, rfl, .inl ⟨SqL.of upd_same, fun p6 hp6 => ?_⟩⟩
          have u6 := same_upd (o := HO.tup (Mt.map fun e => V.ref e.1)) hp6
          have sm := (ua.trans up2).trans u6
          obtain ⟨fa, fm, fsm, lm⟩ := frm_of (p := p6) ha6 sub cov nd pm sr l16 l5 (by omega) (by have := fs.zc; omega) (by omega) fs.ok up (fun k hk => dn k (by omega)) sm upd_same
          exact q p6 _ last _ l6 k6 fa fm fsm lbm (by omega) (by omega) (D6.same sm)
end
end K10

set_option Elab.async false
set_option linter.all false
set_option maxRecDepth 100000
set_option maxHeartbeats 4000000
/-! What draws leave; a drawn reader. -/
namespace K10
open PySem L2 L2.EV
/-- the draws have gone on from H0, where they were at k0 with the list l0: all other things are as they were -/
def d3 (x : T3) : PyData := .tuple [.int x.1, .str x.2.1, .int x.2.2]
theorem dp3 {K : PySem.W.Frag} {H : Hp} {t : Addr} {x : T3} (h : S3 H t x) : Dp K H (.ref t) (d3 x) := .tup (SqT.of h) (.cons (.int _) (.cons (.str _) (.cons (.int _) .nil)))
theorem dp3s {K : PySem.W.Frag} {H : Hp} : ∀ {ts : List Addr} {xs : List T3}, At3 H ts xs → DpAll K H (ts.map V.ref) (xs.map d3)
  | [], [], _ => .nil
  | [], _ :: _, h => by cases h.1
  | _ :: _, [], h => by cases h.1
  | t :: ts, x :: xs, h => .cons (dp3 (h.2 0 t x rfl rfl)) (dp3s ⟨by have := h.1; simpa using this, fun i t x h1 h2 => h.2 (i + 1) t x (by simpa using h1) (by simpa using h2)⟩)
theorem At3.take {H : Hp} {ts : List Addr} {xs : List T3} (h : At3 H ts xs) (n : Nat) : At3 H (ts.take n) (xs.take n) := by
  refine ⟨by rw [List.length_take, List.length_take, h.1], fun i t x h1 h2 => ?_⟩
  rw [List.getElem?_take] at h1 h2
  by_cases e : i < n
  · rw [if_pos e] at h1 h2
    exact h.2 i t x h1 h2
  · rw [if_neg e] at h1
    cases h1
theorem MAt.new {H : Hp} {m c l p : Addr} {k : Int} (M : MAt H m c l k) (hp : H p = none) : p ≠ m ∧ p ≠ l := ⟨(ne_of_none M.hm hp).symm, M.l_some hp⟩
/-- the heap without what the draws change -/
def rt (H : Hp) (m l : Addr) : Hp := fun b => if b = m ∨ b = l then none else H b
theorem rt_mk {H : Hp} {m l b : Addr} {o : HO} (e : H b = some o) (h1 : b ≠ m) (h2 : b ≠ l) : rt H m l b = some o := by
  unfold rt
  rw [if_neg (by intro z; rcases z with z | z; exact h1 z; exact h2 z)]
  exact e
theorem rt_some {H : Hp} {m l b : Addr} {o : HO} (e : rt H m l b = some o) : H b = some o ∧ b ≠ m ∧ b ≠ l := by
  unfold rt at e
  by_cases h : b = m ∨ b = l
  · rw [if_pos h] at e
    cases e
  · rw [if_neg h] at e
    exact ⟨e, fun z => h (.inl z), fun z => h (.inr z)⟩
theorem rt_sub {H : Hp} {m l : Addr} : Same (rt H m l) H := fun b o e => (rt_some e).1
theorem rt_same {H H' : Hp} {m l : Addr} (s : Same H H') : Same (rt H m l) (rt H' m l) := fun b o e => by
  obtain ⟨h, h1, h2⟩ := rt_some e
  exact rt_mk (s _ _ h) h1 h2
theorem rt_dr {H H' : Hp} {m c l l' : Addr} {k : Int} (d : Dr H H' m c l l' k) : Same (rt H m l) (rt H' m l') := fun b o e => by
  obtain ⟨h, h1, h2⟩ := rt_some e
  refine rt_mk (d.kp _ _ h h1 h2) h1 ?_
  rcases d.hl with z | z
  · rw [z]
    exact h2
  · exact ne_of_none h z
theorem MAt.rtt {H' : Hp} {m c l p : Addr} {k : Int} {xs : List V} (M : MAt H' m c l k) (hp : H' p = some (.tup xs)) : rt H' m l p = some (.tup xs) := by
  obtain ⟨ls, hl, _⟩ := M.hl
  exact rt_mk hp (ne_of hp M.hm (fun z => by cases z)) (ne_of hp hl (fun z => by cases z))
/-- what was laid is none of the draws' own -/
theorem MAt.rtn {H H' : Hp} {m c l p : Addr} {k : Int} {o : HO} (M : MAt H m c l k) (hp : H p = none) (e : H' p = some o) : rt H' m l p = some o := rt_mk e (M.new hp).1 (M.new hp).2
/-- the rules found so far -/
structure FR (H H' : Hp) (m c l F : Addr) (kb : Int) (xs : List T3) : Prop where
  ex : ∃ (ts : List Addr) (l' : Addr) (k' : Int), H' F = some (.lst (ts.map V.ref)) ∧ At3 H' ts xs ∧ F ≠ l' ∧ F ≠ m ∧ F ≠ c ∧ k' ≤ kb ∧ Dr H H' m c l l' k'
  hF : ∀ b o, H b = some o → b ≠ m → b ≠ l → b ≠ F
theorem FR.push {H H1 H2 H3 : Hp} {m c l F l1 l2 t : Addr} {k1 k2 kb : Int} {xs : List T3} {ts : List Addr} {x : T3} (hF : H1 F = some (.lst (ts.map V.ref))) (ha : At3 H1 ts xs) (n1 : F ≠ l1) (n2 : F ≠ m) (n3 : F ≠ c) (d1 : Dr H H1 m c l l1 k1)
    (d2 : Dr H1 H2 m c l1 l2 k2) (ht : H2 t = none) (e3 : H3 = upd (upd H2 t (.tup [.int x.1, .str x.2.1, .int x.2.2])) F (.lst (ts.map V.ref ++ [.ref t]))) (hk : k2 ≤ kb)
    (hF0 : ∀ b o, H b = some o → b ≠ m → b ≠ l → b ≠ F) : FR H H3 m c l F kb (xs ++ [x]) := by
  obtain ⟨hF2, n4⟩ := d2.lst d1.at_ hF n1
  have u := same_upd (o := HO.tup [.int x.1, .str x.2.1, .int x.2.2]) ht
  have hF2' := u _ _ hF2
  have kt := keepT_upd (o := .lst (ts.map V.ref ++ [.ref t])) hF2' (fun xs z => by cases z)
  have D2 := (d1.trans d2).same u
  subst e3
  refine ⟨⟨ts ++ [t], l2, k2, by rw [List.map_append]; exact upd_same, ?_, n4, n2, n3, hk, ⟨D2.at_.upd n2 n3 n4, D2.hl, fun b o z h1 h2 => ?_⟩⟩, hF0⟩
  · refine At3.snoc (ha.same ?_) (kt _ _ upd_same)
    exact ((d2.keepT d1.at_).trans (Same.keepT u)).trans kt
  · rw [upd_ne (hF0 b o z h1 h2)]
    exact D2.kp b o z h1 h2
/-- a draw only -/
theorem FR.draw {H H1 H2 : Hp} {m c l F l1 l2 : Addr} {k1 k2 kb : Int} {xs : List T3} {ts : List Addr} (hF : H1 F = some (.lst (ts.map V.ref))) (ha : At3 H1 ts xs) (n1 : F ≠ l1) (n2 : F ≠ m) (n3 : F ≠ c) (d1 : Dr H H1 m c l l1 k1)
    (d2 : Dr H1 H2 m c l1 l2 k2) (hk : k2 ≤ kb) (hF0 : ∀ b o, H b = some o → b ≠ m → b ≠ l → b ≠ F) : FR H H2 m c l F kb xs := by
  obtain ⟨hF2, n4⟩ := d2.lst d1.at_ hF n1
  exact ⟨⟨ts, l2, k2, hF2, ha.same (d2.keepT d1.at_), n4, n2, n3, hk, d1.trans d2⟩, hF0⟩
/-- the drawn signs -/
def sgn : Nat → Str
  | 0 => ⟨#[64]⟩
  | 1 => ⟨#[97]⟩
  | _ => ⟨#[98]⟩
theorem sgn_at {j c : Nat} (h : ("@ab" : Str).cps.toList[j]? = some c) : j < 3 ∧ (⟨#[c]⟩ : Str) = sgn j := by
  have e : ("@ab" : Str).cps.toList = [64, 97, 98] := by decide +kernel
  rw [e] at h
  match j, h with
  | 0, h => cases h; exact ⟨by decide, rfl⟩
  | 1, h => cases h; exact ⟨by decide, rfl⟩
  | 2, h => cases h; exact ⟨by decide, rfl⟩
theorem sgn_lt {r j : Nat} (h : r < j) (hj : j < 3) : sl (sgn r) < sl (sgn j) := by
  have : (r = 0 ∧ j = 1) ∨ (r = 0 ∧ j = 2) ∨ (r = 1 ∧ j = 2) := by omega
  rcases this with ⟨rfl, rfl⟩ | ⟨rfl, rfl⟩ | ⟨rfl, rfl⟩ <;> decide +kernel
theorem sgn_ok {r : Nat} (h : r < 3) : signD (sgn r) = true ∧ (sgn r).length = 1 ∧ PyData.strOk (sgn r) = true := by
  match r, h with
  | 0, _ => exact ⟨by decide +kernel, rfl, by decide +kernel⟩
  | 1, _ => exact ⟨by decide +kernel, rfl, by decide +kernel⟩
  | 2, _ => exact ⟨by decide +kernel, rfl, by decide +kernel⟩
def key (x : T3) : IS := (x.1, x.2.1)
/-- rules of states before i, and of i with signs before j -/
structure KP (n : Nat) (xs : List T3) (i j : Nat) : Prop where
  at_ : ∀ x ∈ xs, 0 ≤ x.2.2 ∧ x.2.2 < n ∧ ∃ q r : Nat, x.1 = (q : Int) ∧ q < n ∧ r < 3 ∧ x.2.1 = sgn r ∧ (q < i ∨ (q = i ∧ r < j))
  srt : xs.Pairwise fun a b => ltIS (key a) (key b) = true
  len : xs.length ≤ 3 * i + j
theorem KP.nil (n : Nat) : KP n [] 0 0 := ⟨(fun x h => by cases h), List.Pairwise.nil, by simp⟩
theorem KP.next {n : Nat} {xs : List T3} {i j : Nat} (h : KP n xs i j) : KP n xs i (j + 1) := ⟨fun x hx => by
  obtain ⟨h1, h2, q, r, e1, e2, e3, e4, e5⟩ := h.at_ x hx
  exact ⟨h1, h2, q, r, e1, e2, e3, e4, by omega⟩, h.srt, by have := h.len; omega⟩
theorem KP.row {n : Nat} {xs : List T3} {i : Nat} (h : KP n xs i 3) : KP n xs (i + 1) 0 := ⟨fun x hx => by
  obtain ⟨h1, h2, q, r, e1, e2, e3, e4, e5⟩ := h.at_ x hx
  exact ⟨h1, h2, q, r, e1, e2, e3, e4, by omega⟩, h.srt, by have := h.len; omega⟩
theorem KP.push {n : Nat} {xs : List T3} {i j : Nat} {t : Int} (h : KP n xs i j) (hi : i < n) (hj : j < 3) (h0 : 0 ≤ t) (h1 : t < n) : KP n (xs ++ [((i : Int), sgn j, t)]) i (j + 1) := by
  refine ⟨fun x hx => ?_, ?_, by have := h.len; rw [List.length_append]; simp only [List.length_cons, List.length_nil]; omega⟩
  · rcases List.mem_append.mp hx with hx | hx
    · exact h.next.at_ x hx
    · obtain rfl := List.mem_singleton.mp hx
      exact ⟨h0, h1, i, j, rfl, hi, hj, rfl, by omega⟩
  · rw [List.pairwise_append]
    refine ⟨h.srt, List.pairwise_singleton _ _, fun a ha b hb => ?_⟩
    obtain rfl := List.mem_singleton.mp hb
    obtain ⟨_, _, q, r, e1, e2, e3, e4, e5⟩ := h.at_ a ha
    show (if a.1 = (i : Int) then decide (sl a.2.1 < sl (sgn j)) else decide (a.1 < (i : Int))) = true
    rw [e1, e4]
    by_cases c : q = i
    · subst c
      rw [if_pos rfl]
      exact decide_eq_true (sgn_lt (by omega) hj)
    · rw [if_neg (by omega)]
      exact decide_eq_true (by omega)
/-- a right reader of few states -/
def RdS (d : PyData) : Prop := ∃ (n : Nat) (xs : List T3) (gs : List Int), d = .tuple [.tuple (xs.map d3), .tuple (gs.map PyData.int)] ∧ n ≤ 6 ∧ KP n xs n 0 ∧ gs.length ≤ 6 ∧ (∀ g ∈ gs, 0 ≤ g ∧ g < n) ∧ gs.Pairwise (· < ·)
theorem rule_d3 {n : Nat} {xs : List T3} {i j : Nat} (h : KP n xs i j) (hn : n ≤ 6) {x : T3} (hx : x ∈ xs) : ruleD (d3 x) = some x := by
  obtain ⟨h1, h2, q, r, e1, e2, e3, e4, e5⟩ := h.at_ x hx
  show (match numD 200 (.int x.1), numD 200 (.int x.2.2) with
    | some i, some j => if signD x.2.1 = true then some (i, x.2.1, j) else none
    | _, _ => none) = some x
  have a1 : numD 200 (.int x.1) = some x.1 := if_pos ⟨by omega, by omega⟩
  have a2 : numD 200 (.int x.2.2) = some x.2.2 := if_pos ⟨by omega, by omega⟩
  rw [a1, a2, e4]
  show (if signD (sgn r) = true then some (x.1, sgn r, x.2.2) else none) = some x
  rw [if_pos (sgn_ok e3).1, ← e4]
theorem badR_ok : ∀ {xs : List T3} {last : Option IS} {k : Nat}, (∀ x ∈ xs, ruleD (d3 x) = some x) → xs.Pairwise (fun a b => ltIS (key a) (key b) = true) → (∀ p, last = some p → ∀ x ∈ xs, ltIS p (key x) = true) → badR (xs.map d3) last k = none
  | [], _, _, _, _, _ => rfl
  | x :: xs, last, k, h1, h2, h3 => by
    rw [List.map_cons, badR_some (h1 x (List.mem_cons_self ..))]
    obtain ⟨h4, h5⟩ := List.pairwise_cons.mp h2
    have z : lbR last x = false := by
      cases last with
      | none => rfl
      | some p =>
        have := h3 p rfl x (List.mem_cons_self ..)
        show (!ltIS p (x.1, x.2.1)) = false
        rw [show ((x.1, x.2.1) : IS) = key x from rfl, this]
        rfl
    rw [z, if_neg (by simp)]
    exact badR_ok (fun y hy => h1 y (List.mem_cons_of_mem _ hy)) h5 fun p hp y hy => by
      cases hp
      exact h4 y hy
theorem badG_ok : ∀ {gs : List Int} {last : Option Int} {k : Nat}, (∀ x ∈ gs, 0 ≤ x ∧ x < 200) → gs.Pairwise (· < ·) → (∀ p, last = some p → ∀ x ∈ gs, p < x) → badG (gs.map PyData.int) last k = none
  | [], _, _, _, _, _ => rfl
  | x :: xs, last, k, h1, h2, h3 => by
    have hx : numD 200 (.int x) = some x := if_pos (h1 x (List.mem_cons_self ..))
    rw [List.map_cons, badG_some hx]
    obtain ⟨h4, h5⟩ := List.pairwise_cons.mp h2
    have z : lbG last x = false := by
      cases last with
      | none => rfl
      | some p =>
        have := h3 p rfl x (List.mem_cons_self ..)
        exact decide_eq_false (by omega)
    rw [z, if_neg (by simp)]
    exact badG_ok (fun y hy => h1 y (List.mem_cons_of_mem _ hy)) h5 fun p hp y hy => by
      cases hp
      exact h4 y hy
theorem rdS_ok {d : PyData} (h : RdS d) : ffD d = none := by
  obtain ⟨n, xs, gs, rfl, hn, kp, _, hg, sg⟩ := h
  show (match badR (xs.map d3) none 0 with
    | some k => some ((("rules" : Str), some k))
    | none => match badG (gs.map PyData.int) none 0 with
      | some k => some ((("good" : Str), some k))
      | none => none) = none
  rw [badR_ok (fun x hx => rule_d3 kp hn hx) kp.srt (fun p h => by cases h), badG_ok (fun x hx => ⟨(hg x hx).1, by have := (hg x hx).2; omega⟩) sg (fun p h => by cases h)]
theorem rdS_sz {d : PyData} (h : RdS d) : SzR d := by
  obtain ⟨n, xs, gs, rfl, hn, kp, _⟩ := h
  intro rs g e r hr a x b er
  cases e
  obtain ⟨y, hy, rfl⟩ := List.mem_map.mp hr
  cases er
  obtain ⟨h1, h2, q, r, e1, e2, e3, e4, e5⟩ := kp.at_ y hy
  rw [e4, (sgn_ok e3).2.1]
  decide
end K10

set_option Elab.async false
set_option linter.all false
set_option maxRecDepth 100000
set_option maxHeartbeats 4000000
/-! _law_some_reader. -/
namespace K10
open PySem L2 L2.EV
abbrev sSome : Stmt := top 49
structure LsR (K : PySem.W.Frag) (mg : Str → Option Value) where
  f1 : Addr
  d1 : FuncData
  N : Fun K "_law_next" "_law_next" sNext f1 d1
  bN : Binds K d1 ["m", "many"] []
  mN : mg "_law_next" = some (.ref f1)
  T : TxtD mg
  ra : mg "range" = none
  tu : mg "tuple" = none
  f2 : Addr
  d2 : FuncData
  P : Fun K "_law_some_reader" "_law_some_reader" sSome f2 d2
  bP : Binds K d2 ["m", "many"] []
  mP : mg "_law_some_reader" = some (.ref f2)
def spSome : Sp := fun vs H Q _ => ∃ (m c l : Addr) (k : Int) (n : Nat), vs = [.ref m, .int n] ∧ MAt H m c l k ∧ k < 800000 ∧ 1 ≤ n ∧ n ≤ 6 ∧
  ∀ (v : V) (d : PyData) (H' : Hp) (l' : Addr) (k' : Int), Da (rt H' m l') v d → RdS d → k' ≤ k + 60 → Dr H H' m c l l' k' → Q v H'
theorem da_ints {H : Hp} : ∀ gs : List Int, DaAll H (gs.map V.int) (gs.map PyData.int)
  | [] => .nil
  | g :: gs => .cons (.int g) (da_ints gs)
theorem da3s {H : Hp} {m c l : Addr} {k : Int} (M : MAt H m c l k) : ∀ {ts : List Addr} {xs : List T3}, At3 H ts xs → DaAll (rt H m l) (ts.map V.ref) (xs.map d3)
  | [], [], _ => .nil
  | [], _ :: _, h => by cases h.1
  | _ :: _, [], h => by cases h.1
  | t :: ts, x :: xs, h => .cons (.tup (M.rtt (h.2 0 t x rfl rfl)) (.cons (.int _) (.cons (.str _) (.cons (.int _) .nil)))) (da3s M ⟨by have := h.1; simpa using this, fun i t x h1 h2 => h.2 (i + 1) t x (by simpa using h1) (by simpa using h2)⟩)
section
variable {P : Program} {w : World} {K : PySem.W.Frag} {mg : Str → Option Value} {base : Heap}
theorem scSome : FnScope ["m", "many", "rules", "state", "sign"] ["m", "many"] (defScope sSome) := ⟨rfl, rfl, rfl, by decide +kernel, rfl, by decide +kernel, by decide +kernel⟩
theorem ok_some (L : LsR K mg) : FnOk P w K mg base CX0 2 L.f2 L.d2 ["m", "many"] spSome := by
  have GX : FnOk P w K mg base CX0 1 L.f1 L.d1 ["m", "many"] spNext := ok_next L.N L.T
  refine L.P.ok scSome (fun vs H Q E h => ?_) (fun cdv A outer s H vs Q E hr h => ?_)
  · obtain ⟨m, c, l, k, n, rfl, _⟩ := h
    rfl
  · obtain ⟨m, c, l, k, n, rfl, M, hk, n1, n5, q⟩ := h
    refine ⟨_, pss_cons (ps_set (i := 2) scSome.nd rfl (Or.inl rfl) (pe_lst pa_nil))
      (pss_cons (ps_for PassesOwn.never rfl (pi_range1 (by rfl) L.ra (pa_cons (pv 1) pa_nil)) (pg_name (i := 3) scSome.nd rfl (Or.inl rfl))
        (pss_one (ps_for PassesOwn.never rfl (pi_str pe_str) (pg_name (i := 4) scSome.nd rfl (Or.inl rfl))
          (pss_one (ps_if (pt_cmpR op_gt (pe_call GX hr (by rfl) L.mN L.N.kp L.bN .nil pass0 (pa_cons (pv 0) (pa_cons pe_int pa_nil))) pe_int (nomark _))
            (pss_one (ps_expr (pe_bm PySem.F.plainAttrs_list PySem.F.slot_list_append PySem.F.type_list_append mt_append (pv 2) (pa_cons (pe_tup (pa_cons (pv 3) (pa_cons (pv 4) (pa_cons (pe_call GX hr (by rfl) L.mN L.N.kp L.bN .nil pass0 (pa_cons (pv 0) (pa_cons (pv 1) pa_nil))) pa_nil)))) pa_nil)))) pss_nil)))))
      (pss_one (ps_ret (pe_tup (pa_cons (pe_callTy call_tuple_of (by rfl) L.tu (by decide +kernel) (pa_cons (pv 2) pa_nil))
        (pa_cons (pe_callTy call_tuple_of (by rfl) L.tu (by decide +kernel) (pa_cons (pe_lc (own := [("state", 3)]) (g := gName 3) rfl scSome.nd (pi_range1 (by rfl) L.ra (pa_cons (pv 1) pa_nil))
          (blkOk_by (N := ["m", "many", "rules", "state", "sign"]) (sc := defScope sSome) (by decide +kernel))
          (fun _ _ _ _ _ => pg_name (i := 3) scSome.nd rfl (Or.inl rfl)) (fun _ _ _ _ _ => pts_one (pt_cmpR op_eq (pe_call GX hr (by rfl) L.mN L.N.kp L.bN .nil pass0 (pa_cons (pv 0) (pa_cons pe_int pa_nil))) pe_int (by rfl))) (fun _ _ _ _ _ => pv 3)) pa_nil)) pa_nil)))))), ?_⟩
    refine ⟨by decide, fun F hF => ?_⟩
    have u1 := same_upd (o := HO.lst []) hF
    have D0 := (Dr.refl M).same u1
    have fr0 : FR H _ m c l F k [] := ⟨⟨[], l, k, upd_same, ⟨rfl, fun i t x h => by cases h⟩, M.l_some hF, (ne_of_none M.hm hF).symm, M.c_some hF, Int.le_refl _, D0⟩, fun b o z h1 h2 => ne_of_none z hF⟩
    refine ⟨_, rfl, _, rfl, by omega, by omega, for_it walk_range (fun i σ H' => ∃ (v3 v4 : Option V) (xs : List T3), σ = [some (.ref m), some (.int (n : Int)), some (.ref F), v3, v4] ∧
      FR H H' m c l F (k + 6 * i) xs ∧ KP n xs i 0)
      ⟨none, none, [], rfl, by simpa using fr0, KP.nil n⟩ (fun _ _ _ _ _ => trivial) ?_ ?_⟩
    · rintro i x σ H2 H3 hi ⟨v3, v4, xs, rfl, fr, kp⟩ ⟨rfl, rfl⟩
      have hin : i < n := by omega
      refine ⟨_, rfl, for_it walk_str (fun j σ H' => ∃ (v4 : Option V) (xs : List T3), σ = [some (.ref m), some (.int (n : Int)), some (.ref F), some (.int (0 + (i : Int))), v4] ∧ FR H H' m c l F (k + 6 * i + 2 * j) xs ∧ KP n xs i j)
        ⟨v4, xs, rfl, by simpa using fr, kp⟩ (fun _ _ _ _ _ => trivial) ?_ ?_⟩
      · rintro j x σ H4 H5 hj ⟨v4, xs, rfl, fr, kp⟩ ⟨rfl, ch, hc, rfl⟩
        obtain ⟨j3, es⟩ := sgn_at (j := j) (by simpa using hc)
        rw [es]
        obtain ⟨ts, l4, k4, hF4, ha4, n4, nm, nc, kk4, D4⟩ := fr.ex
        refine ⟨_, rfl, m, c, l4, k4, 4, rfl, D4.at_, by decide, by decide, by omega, fun r5 H6 l6 k6 a6 b6 g6 N6 f6 q6 => ?_⟩
        have d6 : Dr _ H6 m c l4 l6 k6 := ⟨N6, f6, q6⟩
        obtain ⟨hF6, n6⟩ := d6.lst D4.at_ hF4 n4
        refine ⟨r5, 0, rfl, rfl, _, rfl, ?_⟩
        refine ite2 (fun z => ?_) (fun z => ?_)
        · refine ⟨_, rfl, .inl ⟨rfl, _, SqL.of hF6⟩, _, rfl, _, rfl, _, rfl, _, rfl, m, c, l6, k6, n, rfl, N6, by omega, by omega, by omega, fun r7 H8 l8 k8 a8 b8 g8 N8 f8 q8 => ?_⟩
          have d8 : Dr H6 H8 m c l6 l8 k8 := ⟨N8, f8, q8⟩
          obtain ⟨hF8, n8⟩ := d8.lst N6 hF6 n6
          refine ⟨(by show 3 ≤ sizeLine; decide), fun tp htp => ?_⟩
          refine ⟨F, ts.map V.ref, _, rfl, rfl, same_upd htp _ _ hF8, by rw [List.length_map, ha4.1, sizeLine_eq]; have := kp.len; omega, ?_⟩
          have fr' := FR.push (x := (0 + (i : Int), sgn j, r7)) hF4 ha4 n4 nm nc D4 (d6.trans d8) htp rfl (kb := k + 6 * i + 2 * ((j + 1 : Nat) : Int)) (by omega) fr.hF
          have kp' : KP n (xs ++ [(0 + (i : Int), sgn j, r7)]) i (j + 1) := by
            rw [Int.zero_add]
            exact kp.push hin j3 a8 b8
          exact ⟨_, _, rfl, fr', kp'⟩
        · exact ⟨_, _, rfl, FR.draw hF4 ha4 n4 nm nc D4 d6 (by omega) fr.hF, kp.next⟩
      · rintro σ H4 ⟨v4, xs, rfl, fr, kp⟩
        have e3 : ("@ab" : Str).cps.size = 3 := by decide +kernel
        rw [e3] at kp fr
        obtain ⟨ts, l4, k4, hF4, ha4, n4, nm, nc, kk4, D4⟩ := fr.ex
        refine ⟨_, _, xs, rfl, ⟨⟨ts, l4, k4, hF4, ha4, n4, nm, nc, ?_, D4⟩, fr.hF⟩, KP.row kp⟩
        omega
    · rintro σ H2 ⟨v3, v4, xs, rfl, fr, kp⟩
      have en : ((n : Int) - 0).toNat = n ∨ (n : Int).toNat = n := .inr (by omega)
      have fr : FR H H2 m c l F (k + 6 * n) xs := by simpa using fr
      have kp : KP n xs n 0 := by simpa using kp
      obtain ⟨ts, l4, k4, hF4, ha4, n4, nm, nc, kk4, D4⟩ := fr.ex
      refine ⟨_, rfl, F, _, rfl, .inl ⟨SqL.of hF4, fun t1 ht1 => ?_⟩⟩
      have u1 := same_upd (o := HO.tup (ts.map V.ref)) ht1
      have D5 := D4.same u1
      have ht1' : (upd H2 t1 (HO.tup (ts.map V.ref))) t1 = some (.tup (ts.map V.ref)) := upd_same
      have ha5 := ha4.same (Same.keepT u1)
      generalize upd H2 t1 (HO.tup (ts.map V.ref)) = Ha at u1 D5 ht1' ha5 ⊢
      refine ⟨_, rfl, _, rfl, by omega, by omega, fun D hD => ?_⟩
      refine lc_it walk_range (fun i H' => ∃ (gs : List Int) (l' : Addr) (k' : Int), H' D = some (.lst (gs.map V.int)) ∧ D ≠ l' ∧ gs.length ≤ i ∧ (∀ g ∈ gs, 0 ≤ g ∧ g < n ∧ g < i) ∧ gs.Pairwise (· < ·) ∧ k' ≤ k4 + i ∧ Dr Ha H' m c l4 l' k')
        ⟨[], l4, k4, upd_same, D5.at_.l_some hD, by simp, (fun g h => by cases h), List.Pairwise.nil, by simp, (Dr.refl D5.at_).same (same_upd hD)⟩ (fun _ _ _ _ => trivial) ?_ ?_
      · rintro i x H6 H7 hi ⟨gs, l6, k6, hD6, n6, lg, hg, sg, kk6, D6⟩ ⟨rfl, rfl⟩
        have hin : i < n := by omega
        refine ⟨rfl, _, rfl, m, c, l6, k6, 3, rfl, D6.at_, by decide, by decide, by omega, fun r8 H8 l8 k8 a8 b8 g8 N8 f8 q8 => ?_⟩
        have d8 : Dr H7 H8 m c l6 l8 k8 := ⟨N8, f8, q8⟩
        obtain ⟨hD8, n8⟩ := d8.lst D6.at_ hD6 n6
        have D8 := D6.trans d8
        refine ⟨rfl, _, rfl, ?_⟩
        refine ite2 (fun z => ?_) (fun z => ?_)
        · refine ⟨_, rfl, _, hD8, by rw [List.length_map, sizeLine_eq]; omega, ?_⟩
          refine ⟨gs ++ [(i : Int)], l8, k8, ?_, n8, by rw [List.length_append]; simp only [List.length_cons, List.length_nil]; omega, fun g hg' => ?_, ?_, by omega, ?_⟩
          · rw [List.map_append]
            show upd H8 D (.lst (gs.map V.int ++ [V.int (0 + (i : Int))])) D = some (.lst (gs.map V.int ++ [V.int (i : Int)]))
            rw [Int.zero_add]
            exact upd_same
          · rcases List.mem_append.mp hg' with h | h
            · obtain ⟨h1, h2, h3⟩ := hg g h
              exact ⟨h1, h2, by omega⟩
            · obtain rfl := List.mem_singleton.mp h
              exact ⟨by omega, by omega, by omega⟩
          · rw [List.pairwise_append]
            refine ⟨sg, List.pairwise_singleton _ _, fun a ha b hb => ?_⟩
            obtain rfl := List.mem_singleton.mp hb
            exact (hg a ha).2.2
          · obtain ⟨ls, hl, _⟩ := D5.at_.hl
            exact ⟨D8.at_.upd (ne_of_none D5.at_.hm hD).symm (D5.at_.c_some hD) n8, D8.hl, fun b o e h1 h2 => by
              rw [upd_ne (ne_of_none e hD)]
              exact D8.kp b o e h1 h2⟩
        · exact ⟨gs, l8, k8, hD8, n8, by omega, fun g h => ⟨(hg g h).1, (hg g h).2.1, by have := (hg g h).2.2; omega⟩, sg, by omega, D8⟩
      · rintro H6 ⟨gs, l6, k6, hD6, n6, lg, hg, sg, kk6, D6⟩
        refine ⟨D, _, rfl, .inl ⟨SqL.of hD6, fun t2 ht2 => ?_⟩⟩
        have u2 := same_upd (o := HO.tup (gs.map V.int)) ht2
        have D7 := D6.same u2
        refine ⟨(by show 2 ≤ sizeLine; decide), fun t3 ht3 => ?_⟩
        have u3 := same_upd (o := HO.tup [V.ref t1, V.ref t2]) ht3
        have D8 := D7.same u3
        have M8 := D8.at_
        have e1 := D8.tup D5.at_ ht1'
        have e2 := u3 _ _ (upd_same (H := H6) (a := t2) (o := HO.tup (gs.map V.int)))
        have e3 : (upd (upd H6 t2 (HO.tup (gs.map V.int))) t3 (HO.tup [V.ref t1, V.ref t2])) t3 = some (.tup [V.ref t1, V.ref t2]) := upd_same
        have ha8 := ha5.same (D8.keepT D5.at_)
        generalize upd (upd H6 t2 (HO.tup (gs.map V.int))) t3 (HO.tup [V.ref t1, V.ref t2]) = H8 at D8 M8 e1 e2 e3 ha8 ⊢
        refine q (.ref t3) _ H8 l6 k6 (.tup (M8.rtt e3) (.cons (.tup (M8.rtt e1) (da3s M8 ha8)) (.cons (.tup (M8.rtt e2) (da_ints gs)) .nil))) ⟨n, xs, gs, rfl, n5, kp, by omega, fun g h => ⟨(hg g h).1, (hg g h).2.1⟩, sg⟩ (by omega) (D5.trans D8)
end
end K10

set_option Elab.async false
set_option linter.all false
set_option maxRecDepth 100000
set_option maxHeartbeats 4000000
/-! repr of data; data that grow. -/
namespace L2
namespace EV
open PySem PySem.Spec PyProof.Rows _root_.EV
/-- repr of data -/
def rShowV (K : PySem.W.Frag) : List V → Hp → VK → Prop := fun xs H Q => ∃ (v : V) (d : PyData), xs = [v] ∧ Dp K H v d ∧ d.showable = true ∧ d.hasDict = false ∧ d.shown.length ≤ sizeLine ∧ d.depth ≤ 5 ∧ Q (.str d.shown) H
theorem call_showV {X : Cx} (hgd : X.A.guards = some []) (hu : X.A.units + 64 < cLine) : CallR X (.builtin "repr") (rShowV X.K) := by
  intro pins s σ H xs us Q I r h
  obtain ⟨v, d, rfl, hd, sh, nd, sz, dp, q⟩ := h
  obtain ⟨u, rfl, ru⟩ := vals1 r
  obtain ⟨as, rd⟩ := Dp.reads I d v u hd ru
  have at_ : ∀ a : Addr, u = .ref a → wpAny (model X.prog X.w) X.A (call (.builtin "repr") [u]) (EP X pins σ Q) X.xe s := fun a e => by
    subst e
    exact repr_of_reads' rd sh (fun z => by rw [nd] at z; cases z) hgd (by omega) (fun _ _ e => e) (fun h' t tk hk => ⟨.str _, H, I.kept (t' := tk) hk, ⟨_, rfl⟩, q⟩) sz
  cases hd with
  | non =>
    obtain rfl : u = Value.none := ru
    simp only [PyData.shown] at q
    exact PySem.P.repr_of_none ⟨.str _, H, I.tok _, ⟨_, rfl⟩, q⟩
  | bl b =>
    obtain rfl : u = Value.bool b := ru
    simp only [PyData.shown] at q
    exact PySem.P.repr_of_bool ⟨.str _, H, I.tok _, ⟨_, rfl⟩, q⟩
  | int i =>
    obtain ⟨t, rfl⟩ := (show ∃ t, u = Value.int i t from ru)
    simp only [PyData.shown] at q
    simp only [PyData.showable, decide_eq_true_eq] at sh
    exact PySem.P.repr_of_int sh ⟨.str _, H, I.tok _, ⟨_, rfl⟩, q⟩
  | str x =>
    obtain ⟨t, rfl⟩ := (show ∃ t, u = Value.str x t from ru)
    simp only [PyData.shown] at q sz
    exact PySem.P.repr_of_str ⟨.str _, H, I.tok _, ⟨_, rfl⟩, q⟩ sz
  | @lst a xs ds h1 h2 => exact at_ a ru
  | @tup a xs ds h1 h2 => exact at_ a ru
end EV
end L2
namespace L2
open PySem PySem.Spec PyProof.Rows
def rCatW (K : PySem.W.Frag) : R2 := fun x y H Q => ∃ a b xs ys, x = .ref a ∧ y = .ref b ∧ H a = some (.tup xs) ∧ H b = some (.tup ys) ∧ xs.length + ys.length ≤ sizeLine ∧ ∀ p H', Same H H' → H' p = some (.tup (xs ++ ys)) → Q (.ref p) H'
theorem op_catW {X : Cx} : OpR X (binaryOp .Add) (rCatW X.K) := by
  intro pins s σ H x y v u Q I rx ry h
  obtain ⟨a, b, xs, ys, rfl, rfl, ha, hb, hz, q⟩ := h
  refine op_catA pins s σ H _ _ v u Q I rx ry ⟨a, b, xs, ys, rfl, rfl, SqT.of ha, SqT.of hb, hz, fun z => ?_, fun _ z => ?_, fun _ _ p hp => q p _ (K10.same_upd hp) upd_same⟩
  · subst z
    exact q b H (fun _ _ e => e) (by rw [hb]; rfl)
  · subst z
    exact q a H (fun _ _ e => e) (by rw [ha, List.append_nil])
end L2
namespace K10
open PySem L2 L2.EV
structure Okd (d : PyData) (n dp : Nat) : Prop where
  sh : d.showable = true
  nd : d.hasDict = false
  sz : d.shown.length ≤ n
  dp : d.depth ≤ dp
  lay : d.canLay0 = true
theorem Okd.le {d : PyData} {n m dp dq : Nat} (h : Okd d n dp) (a : n ≤ m) (b : dp ≤ dq) : Okd d m dq := ⟨h.sh, h.nd, Nat.le_trans h.sz a, Nat.le_trans h.dp b, h.lay⟩
theorem okd_int {i : Int} (h0 : 0 ≤ i) (h1 : i < 64) : Okd (.int i) 10 0 := by
  obtain ⟨k, rfl⟩ := Int.eq_ofNat_of_zero_le h0
  have hk : k < 64 := by omega
  have z : ∀ k : Fin 64, (PyData.int ((k.val : Nat) : Int)).showable = true ∧ (PyData.int ((k.val : Nat) : Int)).shown.length ≤ 10 := by decide +kernel
  obtain ⟨z1, z2⟩ := z ⟨k, hk⟩
  exact ⟨z1, by simp only [PyData.hasDict], z2, by simp only [PyData.depth]; omega, by simp only [PyData.canLay0]⟩
theorem okd_str {x : Str} {m : Nat} (hs : PyData.strOk x = true) (hl : x.length ≤ m) : Okd (.str x) (10 * m + 2) 0 := by
  refine ⟨by simp only [PyData.showable], by simp only [PyData.hasDict], ?_, by simp only [PyData.depth]; omega, by simp only [PyData.canLay0]; exact hs⟩
  simp only [PyData.shown]
  have z := PySem.StrLaws.reprText_len x (fun c hc => by
    unfold PyData.strOk at hs
    rw [← Array.all_toList, List.all_eq_true] at hs
    have := of_decide_eq_true (hs c hc)
    exact Nat.lt_trans this (by decide))
  omega
theorem okd_all {n dp : Nat} : ∀ {ds : List PyData}, (∀ d ∈ ds, Okd d n dp) → PyData.showableAll ds = true ∧ PyData.hasDictAll ds = false ∧ ((PyData.shownAll ds).map (·.length)).sum ≤ n * ds.length ∧ (PyData.shownAll ds).length = ds.length ∧ PyData.depthAll ds ≤ dp ∧ PyData.canLayAll0 ds = true
  | [], _ => ⟨by simp [PyData.showableAll], by simp [PyData.hasDictAll], by simp [PyData.shownAll], by simp [PyData.shownAll], by simp [PyData.depthAll], by simp [PyData.canLayAll0]⟩
  | d :: ds, h => by
    have h1 := h d (List.mem_cons_self ..)
    obtain ⟨a, b, c, e, f, g⟩ := okd_all (ds := ds) fun d hd => h d (List.mem_cons_of_mem _ hd)
    have h2 := h1.sz
    have h3 := h1.dp
    refine ⟨by simp only [PyData.showableAll, h1.sh, a, Bool.and_self], by simp only [PyData.hasDictAll, h1.nd, b, Bool.or_self], ?_, by simp only [PyData.shownAll, List.length_cons, e], by simp only [PyData.depthAll]; omega, by simp only [PyData.canLayAll0, h1.lay, g, Bool.and_self]⟩
    simp only [PyData.shownAll, List.map_cons, List.sum_cons, List.length_cons, Nat.mul_add, Nat.mul_one]
    omega
theorem okd_list {n dp m : Nat} {ds : List PyData} (h : ∀ d ∈ ds, Okd d n dp) (hl : ds.length ≤ m) : Okd (.list ds) (m * (n + 2) + 3) (dp + 1) := by
  obtain ⟨a, b, c, e, f, g⟩ := okd_all h
  refine ⟨by simp only [PyData.showable, a], by simp only [PyData.hasDict, b], ?_, by simp only [PyData.depth]; omega, by simp only [PyData.canLay0, g]⟩
  simp only [PyData.shown]
  have z := listText_len_le (PyData.shownAll ds)
  rw [e] at z
  have y : n * ds.length ≤ n * m := Nat.mul_le_mul_left _ hl
  rw [Nat.mul_add, Nat.mul_comm m n]
  omega
theorem okd_tuple {n dp m : Nat} {ds : List PyData} (h : ∀ d ∈ ds, Okd d n dp) (hl : ds.length ≤ m) : Okd (.tuple ds) (m * (n + 2) + 3) (dp + 1) := by
  obtain ⟨a, b, c, e, f, g⟩ := okd_all h
  refine ⟨by simp only [PyData.showable, a], by simp only [PyData.hasDict, b], ?_, by simp only [PyData.depth]; omega, by simp only [PyData.canLay0, g]⟩
  simp only [PyData.shown]
  have z := tupleText_len_le (PyData.shownAll ds)
  rw [e] at z
  have y : n * ds.length ≤ n * m := Nat.mul_le_mul_left _ hl
  rw [Nat.mul_add, Nat.mul_comm m n]
  omega
theorem Okd.shaped {d : PyData} {n dp : Nat} (h : Okd d n dp) (hd : dp ≤ 64) : SeqAt.shaped d = true := by
  show (PyData.canLay0 d && decide (PyData.depth d ≤ 64)) = true
  rw [Bool.and_eq_true]
  exact ⟨h.lay, decide_eq_true (Nat.le_trans h.dp hd)⟩
def okdB (d : PyData) (n dp : Nat) : Bool := d.showable && !d.hasDict && decide (d.shown.length ≤ n) && decide (d.depth ≤ dp) && d.canLay0
theorem okd_by {d : PyData} {n dp : Nat} (h : okdB d n dp = true) : Okd d n dp := by
  unfold okdB at h
  simp only [Bool.and_eq_true, Bool.not_eq_true', decide_eq_true_eq] at h
  obtain ⟨⟨⟨⟨a, b⟩, c⟩, d⟩, e⟩ := h
  exact ⟨a, b, c, d, e⟩
theorem eqv_nilT (ds : List PyData) : PyData.eqv (.tuple ds) (.tuple []) = ds.isEmpty := by
  cases ds <;> simp [PyData.eqv, PyData.eqvAll]
theorem shaped_nilT : SeqAt.shaped (.tuple []) = true := by decide +kernel
/-- what was drawn and laid since H0, and data that stand -/
structure Bx (H0 H : Hp) (m c l0 l : Addr) (k : Int) (xs : List V) (es : List PyData) : Prop where
  d : Dr H0 H m c l0 l k
  acc : DaAll (rt H m l) xs es
theorem Bx.laid {H0 H : Hp} {m c l0 l p : Addr} {k : Int} {xs : List V} {es : List PyData} {o : HO} (b : Bx H0 H m c l0 l k xs es) (hp : H p = none) : Bx H0 (upd H p o) m c l0 l k xs es :=
  ⟨b.d.same (same_upd hp), DaAll.same (rt_same (same_upd hp)) _ _ b.acc⟩
theorem Bx.draw {H0 H H' : Hp} {m c l0 l l' : Addr} {k k' : Int} {xs : List V} {es : List PyData} (b : Bx H0 H m c l0 l k xs es) (d : Dr H H' m c l l' k') : Bx H0 H' m c l0 l' k' xs es :=
  ⟨b.d.trans d, DaAll.same (rt_dr d) _ _ b.acc⟩
theorem Bx.tup {H0 H : Hp} {m c l0 l p : Addr} {k : Int} {xs vs : List V} {es ds : List PyData} (b : Bx H0 H m c l0 l k xs es) (hp : H p = none) (all : DaAll (rt H m l) vs ds) : Bx H0 (upd H p (.tup vs)) m c l0 l k (xs ++ [.ref p]) (es ++ [.tuple ds]) :=
  ⟨b.d.same (same_upd hp), (DaAll.same (rt_same (same_upd hp)) _ _ b.acc).app (.cons (.tup (b.d.at_.rtn hp upd_same) (DaAll.same (rt_same (same_upd hp)) _ _ all)) .nil)⟩
theorem Bx.lst {H0 H : Hp} {m c l0 l p : Addr} {k : Int} {xs vs : List V} {es ds : List PyData} (b : Bx H0 H m c l0 l k xs es) (hp : H p = none) (all : DaAll (rt H m l) vs ds) : Bx H0 (upd H p (.lst vs)) m c l0 l k (xs ++ [.ref p]) (es ++ [.list ds]) :=
  ⟨b.d.same (same_upd hp), (DaAll.same (rt_same (same_upd hp)) _ _ b.acc).app (.cons (.lst (b.d.at_.rtn hp upd_same) (DaAll.same (rt_same (same_upd hp)) _ _ all)) .nil)⟩
/-- laid somewhere -/
theorem Bx.wher {H0 H H' : Hp} {m c l0 l p : Addr} {k : Int} {xs vs : List V} {es ds : List PyData} (b : Bx H0 H m c l0 l k xs es) (s : Same H H') (e : H' p = some (.tup vs)) (all : DaAll (rt H m l) vs ds) : Bx H0 H' m c l0 l k (xs ++ [.ref p]) (es ++ [.tuple ds]) :=
  ⟨b.d.same s, (DaAll.same (rt_same s) _ _ b.acc).app (.cons (.tup ((b.d.at_.same s).rtt e) (DaAll.same (rt_same s) _ _ all)) .nil)⟩
theorem Bx.same {H0 H H' : Hp} {m c l0 l : Addr} {k : Int} {xs : List V} {es : List PyData} (b : Bx H0 H m c l0 l k xs es) (s : Same H H') : Bx H0 H' m c l0 l k xs es := ⟨b.d.same s, DaAll.same (rt_same s) _ _ b.acc⟩
/-- the j-th -/
theorem Bx.at_ {H0 H : Hp} {m c l0 l : Addr} {k : Int} {xs : List V} {es : List PyData} (b : Bx H0 H m c l0 l k xs es) (j : Nat) {v : V} {d : PyData} (h1 : xs[j]? = some v) (h2 : es[j]? = some d) : Da (rt H m l) v d := by
  obtain ⟨d', e, h⟩ := b.acc.at_ h1
  rw [e] at h2
  cases h2
  exact h
/-- a thing that may stand in the place of a rule -/
def It (d : PyData) : Prop := Okd d 200 2 ∧ szS d
/-- a thing that may be a reader -/
def Rg (d : PyData) : Prop := Okd d 20000 4 ∧ SzR d
theorem okd_mono {d : PyData} {n dp : Nat} (h : Okd d n dp) (a : n ≤ 20000) (b : dp ≤ 4) : Okd d 20000 4 := h.le a b
theorem szS_no {d : PyData} (h : ∀ a x b, d ≠ .tuple [a, .str x, b]) : szS d := fun a x b e => absurd e (h a x b)
end K10

set_option Elab.async false
set_option linter.all false
set_option maxRecDepth 100000
set_option maxHeartbeats 4000000
/-! d.get(y, x) where y may be None; dict(pairs) with tuples as keys. -/
namespace L2
open PySem PySem.Spec PyProof.Rows
/-- what the dict holds at y, None among what may be asked -/
def DGetN (H : Hp) (a : Addr) (y : V) (r : Option V) : Prop := DGet H a y r ∨ ((∃ kvs, Rd H a (.dK kvs)) ∧ y = .non ∧ r = none)
section
variable {X : Cx} {pins : List (Addr × Obj)} {σ : St} {H : Hp} {s : Shared} {a : Addr} {y d : V} {u r : Value} {o : Option V} {A : Around} {E : Value → Shared → Prop}
theorem d_get2N {Q : Value → Shared → Prop} (hu : A.units + 1 < cLine) (I : Inv X pins σ H s) (g : DGetN H a y o) (ry : RelV y u) (rd : RelV d r) (h : ∀ w' s', Inv X pins σ H s' → RelV (o.getD d) w' → Q w' s') :
    wpAny (model X.prog X.w) A (call (.builtin "dict.get") [.ref a, u, r]) Q E s := by
  rcases g with g | ⟨⟨kvs, e⟩, ey, l⟩
  · exact d_get2 hu I g ry rd h
  · subst ey
    subst l
    obtain rfl : u = Value.none := ry
    obtain ⟨z, hd, vs, rel, dd⟩ := dk_rd I.hok e
    obtain ⟨f, mf, fn⟩ := none_map dd
    refine call_meetsIn PySem.F.slot_dict_get dd.typeIs PySem.F.entry_dict_get (PySem.F.args_dict_get_3 _ _ _) (meets_dict_get_default (noneKind X.prog X.w) a (k := none) rfl hd r) ⟨f, mf, h _ _ (I.tok _) ?_⟩
    rw [fn]
    exact rd
end
def tDGet2N (td ty tx : TE) : TE := fun σ H Q => td σ H fun x H1 => ∃ a, x = .ref a ∧ IsD H1 a ∧ ty σ H1 fun y H2 => tx σ H2 fun z H3 => ∃ o, DGetN H3 a y o ∧ Q (o.getD z) H3
section
variable {X : Cx} {o e f : Expr} {apos cpos : Pos} {td ty tx : TE}
theorem pe_dget2N (hu : X.A.units + 1 < cLine) (ho : PE X o td) (he : PE X e ty) (hf : PE X f tx) (m : M2 X o "get" apos e f cpos) : PE X (.Call (.Attribute o "get" apos) [e, f] [] cpos) (tDGet2N td ty tx) := by
  refine ⟨fun pins s σ H Q I h => ?_⟩
  refine wpAny_Call_method m.base m.few m.line PySem.F.plainAttrs_dict PySem.F.slot_dict_get PySem.F.type_dict_get (thn (ho.run pins s σ H _ I h) fun u s1 ⟨x, H1, I1, rx, a, ex, d, q1⟩ => ?_)
  subst ex
  obtain rfl : u = Value.ref a := rx
  obtain ⟨t1, t2, _⟩ := isD_at I1 d
  refine ⟨t1, t2, ?_⟩
  rw [m.trees]
  refine Calls.callWith_builtin rfl (Calls.evalArgs_plain (Calls.spliced_cons (thn (he.run pins s1 σ H1 _ I1 q1) fun iv s2 ⟨y, H2, I2, ry, q2⟩ =>
    Calls.spliced_cons (thn (hf.run pins s2 σ H2 _ I2 q2) fun fv s3 ⟨z, H3, I3, rz, ov, g, q3⟩ => Calls.spliced_nil ?_))))
  exact d_get2N hu I3 g ry rz fun w' s4 I4 rw' => ⟨_, H3, I4, rw', q3⟩
end
/-! ### dict(pairs) -/
/-- a pair at q: a key tuple at b, a value -/
structure PairE where
  q : Addr
  b : Addr
  k : List Key
  v : V
def OkE (H : Hp) (e : PairE) : Prop := H e.q = some (.tup [.ref e.b, e.v]) ∧ H e.b = some (.tup (e.k.map kV))
def mergeT (kvs : List (List Key × V)) : List (List Key × V) := kvs.foldl (fun acc kv => putK acc kv.1 kv.2) []
theorem length_foldT : ∀ (kvs acc : List (List Key × V)), (kvs.foldl (fun acc kv => putK acc kv.1 kv.2) acc).length ≤ acc.length + kvs.length
  | [], acc => Nat.le_refl _
  | kv :: kvs, acc => by
    have a := length_foldT kvs (putK acc kv.1 kv.2)
    have b := length_putK acc kv.1 kv.2
    rw [List.foldl_cons, List.length_cons]
    omega
section
variable {X : Cx} {pins : List (Addr × Obj)} {σ : St} {H : Hp} {s : Shared}
theorem tpairs (I : Inv X pins σ H s) : ∀ {es : List PairE}, (∀ e ∈ es, OkE H e) → ∃ ps : List (List Key × Addr × Value), ps.length = es.length ∧ ∀ (i : Nat) (e : PairE), es[i]? = some e → ∃ u, ps[i]? = some (e.k, e.b, u) ∧ RelV e.v u ∧ IsTup s.heap e.q #[.ref e.b, u]
  | [], _ => ⟨[], rfl, fun i e h => by simp at h⟩
  | e :: es, h => by
    obtain ⟨ps, hl, hp⟩ := tpairs I (es := es) fun x hx => h x (List.mem_cons_of_mem _ hx)
    obtain ⟨its, rv, ht, _⟩ := I.tuple (SqT.of (h e (List.mem_cons_self ..)).1)
    obtain ⟨u, y, ei, ru, ry⟩ := vals2 rv
    subst ei
    obtain rfl : u = Value.ref e.b := ru
    refine ⟨(e.k, e.b, y) :: ps, by rw [List.length_cons, List.length_cons, hl], fun i x hx => ?_⟩
    cases i with
    | zero =>
      cases hx
      exact ⟨y, rfl, ry, ht⟩
    | succ i => exact hp i x (by simpa using hx)
theorem KT.all {H : Hp} : ∀ {es : List PairE} {ps : List (List Key × Addr × Value)} {kvs : List (List Key × V)} {xs : List (List Key × Addr × Value)}, ps.length = es.length →
    (∀ (i : Nat) (e : PairE), es[i]? = some e → ∃ u, ps[i]? = some (e.k, e.b, u) ∧ RelV e.v u) → (∀ e ∈ es, H e.b = some (.tup (e.k.map kV))) → KT H kvs xs → KT H ((es.map fun e => (e.k, e.v)).foldl (fun acc kv => putK acc kv.1 kv.2) kvs) (PySem.storedAllH xs ps)
  | [], [], _, _, _, _, _, r => r
  | [], _ :: _, _, _, h, _, _, _ => by cases h
  | _ :: _, [], _, _, h, _, _, _ => by cases h
  | e :: es, p :: ps, kvs, xs, hl, hp, hb, r => by
    obtain ⟨u, h1, h2⟩ := hp 0 e rfl
    cases h1
    exact KT.all (es := es) (ps := ps) (by simpa using hl) (fun i x hx => hp (i + 1) x (by simpa using hx)) (fun x hx => hb x (List.mem_cons_of_mem _ hx)) (KT.put r e.k (hb e (List.mem_cons_self ..)) h2)
end
def rDictT (K : PySem.W.Frag) : List V → Hp → VK → Prop := fun xs H Q => ∃ (a : Addr) (es : List PairE), xs = [.ref a] ∧ SqL K H a (es.map fun e => V.ref e.q) ∧ (∀ e ∈ es, OkE H e) ∧
  ∀ p, H p = none → Q (.ref p) (upd H p (.dT (mergeT (es.map fun e => (e.k, e.v)))))
theorem call_dictT {X : Cx} (hcalm : X.calm = true) (hu : X.A.units + 64 < cLine) : CallR X (.type "dict") (rDictT X.K) := by
  intro pins s σ H xs us Q I r q
  obtain ⟨a, es, ex, hq, hp, q⟩ := q
  subst ex
  obtain ⟨u, eu, rx⟩ := vals1 r
  subst eu
  cases rx
  obtain ⟨its, rv, pl, hz⟩ := I.list hq
  have ei : its = es.map fun e => Value.ref e.q := by
    have z := refs_at (ps := es.map (·.q)) (us := its) (by rw [List.map_map]; exact rv)
    rw [z, List.map_map]
    rfl
  subst ei
  rw [List.length_map] at hz
  obtain ⟨ps, hl, hps⟩ := tpairs I hp
  obtain ⟨o, n, ho, hc, hd, hdat⟩ := pl
  have key : ∀ h', (∀ b ob, s.heap.get? b = some ob → h'.get? b = some ob) → ∀ x ∈ ps, (tupleKind (mixKind X.prog X.w)).is h' x.1 x.2.1 := fun h' k x hx => by
    obtain ⟨i, hi, e⟩ := List.getElem_of_mem hx
    have hie : i < es.length := by rw [← hl]; exact hi
    obtain ⟨u, h1, _, _⟩ := hps i es[i] (List.getElem?_eq_getElem hie)
    rw [List.getElem?_eq_getElem hi, e] at h1
    cases h1
    obtain ⟨o2, its2, n2, w1, w2, w3, w4⟩ := key_of I.hok (hp _ (List.getElem_mem hie)).2
    exact ⟨o2, its2, n2, k _ _ w1, w2, w3, w4⟩
  refine call_dict_pairsH (knd := tupleKind (mixKind X.prog X.w)) (ps := ps) (PySem.PairArg.list a (es.map fun e => Value.ref e.q).toArray (fun j => (es.map (·.q)).getD j 0) (ps.map fun x => (Value.ref x.2.1, x.2.2))) (I.ok.hd hcalm) (by show X.A.units + 2 < cLine; omega)
    ⟨⟨o, n, ho, hc, hd, hdat⟩, by simp [hl], fun j k v hj => ?_⟩ ⟨by simp, fun i key v hk => ?_⟩ (fun h' k x hx => ?_) (by simp only [List.length_map]; omega) fun h' tk hd' k => ?_
  · rw [List.getElem?_map] at hj
    cases e : ps[j]? with
    | none =>
      rw [e] at hj
      cases hj
    | some x =>
      rw [e] at hj
      cases hj
      have jl := (List.getElem?_eq_some_iff.mp e).1
      have je : j < es.length := by rw [← hl]; exact jl
      obtain ⟨u, h1, _, h3⟩ := hps j es[j] (List.getElem?_eq_getElem je)
      rw [e] at h1
      cases h1
      have eq : (es.map (·.q)).getD j 0 = es[j].q := by
        rw [List.getD_eq_getElem?_getD, List.getElem?_map, List.getElem?_eq_getElem je]
        rfl
      refine ⟨by show _ = some (Value.ref ((es.map (·.q)).getD j 0)); rw [eq]; simp [je], .inl ?_⟩
      show s.heap.IsTuple ((es.map (·.q)).getD j 0) _
      rw [eq]
      obtain ⟨ot, w1, w2, n3, w3⟩ := h3
      exact ⟨ot, w1, w2, n3, w3⟩
  · have hk : (ps.map fun x => (Value.ref x.2.1, x.2.2))[i]? = some (key, v) := hk
    rw [List.getElem?_map] at hk
    cases e : ps[i]? with
    | none =>
      rw [e] at hk
      cases hk
    | some x =>
      rw [e] at hk
      cases hk
      exact ⟨x.1, x.2.1, rfl, rfl⟩
  · refine key (h' := h') (fun b ob e => k b ob (Nat.ne_of_lt (Heap.lt_size e)) (by simp) e) x hx
  · have hm : (s.heap.objs.size == sysModules) = false := beq_eq_false_iff_ne.mpr (Nat.ne_of_gt I.big)
    have fresh : H s.heap.objs.size = none := I.hok.fresh (Nat.le_refl _)
    have hlen : (mergeT (es.map fun e => (e.k, e.v))).length ≤ sizeLine := by
      have := length_foldT (es.map fun e => (e.k, e.v)) []
      rw [List.length_nil, List.length_map, Nat.zero_add] at this
      exact Nat.le_trans this hz
    obtain ⟨q1, es1, ep, hq1, h2, h3, h4, _, h5⟩ := hd'
    have rel := KT.all (H := upd H s.heap.objs.size (.dT (mergeT (es.map fun e => (e.k, e.v))))) (es := es) (ps := ps) (kvs := []) (xs := []) hl (fun i e he => let ⟨u, a1, a2, _⟩ := hps i e he; ⟨u, a1, a2⟩) (fun e he => by rw [upd_ne (ne_of_none (hp e he).2 fresh)]; exact (hp e he).2) .nil
    exact ⟨.ref s.heap.objs.size, _, I.laid (t' := tk) (fun b ob e => k b ob (by simp) e) (Nat.le_refl _) (show ObjOk X.prog X.w _ _ _ (.dT (mergeT (es.map fun e => (e.k, e.v)))) from ⟨hlen, hm, _, rel, q1, es1, ep, hq1, h2, h3, h4, h5⟩), rfl, q _ fresh⟩
end L2

set_option Elab.async false
set_option linter.all false
set_option maxRecDepth 100000
set_option maxHeartbeats 4000000
/-! rows_of. -/
namespace K10
open PySem L2 L2.EV
abbrev sRows : Stmt := top 34
theorem gName_go2 {i : Nat} {v : V} {σ : L2.St} {H : Hp} {k : L2.St → Hp → Prop} (h : k (σ.set i (some v)) H) : gName i v σ H k := h
/-- where the last rule of a state and a sign leads -/
def nx (xs : List T3) (q : Int) (c : Str) : Option Int := xs.foldl (fun o x => if x.1 = q ∧ x.2.1 = c then some x.2.2 else o) none
theorem nx_snoc {xs : List T3} {x : T3} {q : Int} {c : Str} : nx (xs ++ [x]) q c = if x.1 = q ∧ x.2.1 = c then some x.2.2 else nx xs q c := by
  unfold nx
  rw [List.foldl_append]
  rfl
/-- keys that are texts, each once -/
def KsT (rk : List (Key × V)) : Prop := ∃ ss : List Str, rk.map (·.1) = ss.map Sum.inr ∧ ss.Nodup
theorem KsT.put {rk : List (Key × V)} (h : KsT rk) (s : Str) (v : V) : KsT (putK rk (Sum.inr s) v) := by
  obtain ⟨ss, e, nd⟩ := h
  unfold putK
  by_cases c : (rk.any fun kv => decide (kv.1 = (Sum.inr s : Key))) = true
  · rw [if_pos c]
    refine ⟨ss, ?_, nd⟩
    rw [← e, List.map_map]
    refine List.map_congr_left fun kv _ => ?_
    show (if kv.1 = (Sum.inr s : Key) then (kv.1, v) else kv).1 = kv.1
    split <;> rfl
  · rw [if_neg c]
    refine ⟨ss ++ [s], by rw [List.map_append, List.map_append, e]; rfl, List.nodup_append.mpr ⟨nd, by simp, fun a ha b hb z => ?_⟩⟩
    have hb : b = s := by simpa using hb
    subst hb
    subst z
    have m : (Sum.inr a : Key) ∈ rk.map (·.1) := by
      rw [e]
      exact List.mem_map.mpr ⟨a, ha, rfl⟩
    obtain ⟨kv, h1, h2⟩ := List.mem_map.mp m
    exact c (List.any_eq_true.mpr ⟨kv, h1, decide_eq_true h2⟩)
/-- a dict of dicts: for each state its signs -/
structure RB (H H' : Hp) (p : Addr) (n : Nat) (kvs : List (Key × V)) (xs : List T3) : Prop where
  hp : H' p = some (.dK kvs)
  np : H p = none
  few : kvs.length ≤ n
  row : ∀ q v, valV kvs (Sum.inl q) = some v → ∃ a rk, v = .ref a ∧ H' a = some (.dK rk) ∧ H a = none ∧ a ≠ p ∧ rk.length ≤ n ∧ (∀ c, valV rk (Sum.inr c) = (nx xs q c).map V.int) ∧ KsT rk
  no : ∀ q, valV kvs (Sum.inl q) = none → ∀ c, nx xs q c = none
  inj : ∀ q q' v, valV kvs (Sum.inl q) = some v → valV kvs (Sum.inl q') = some v → q = q'
  sm : Same H H'
theorem RB.keep {H H' H2 : Hp} {p : Addr} {n : Nat} {kvs : List (Key × V)} {xs : List T3} (R : RB H H' p n kvs xs) (s : Same H' H2) : RB H H2 p n kvs xs :=
  ⟨s _ _ R.hp, R.np, R.few, fun q v h => by
    obtain ⟨a, rk, e, h1, r⟩ := R.row q v h
    exact ⟨a, rk, e, s _ _ h1, r⟩, R.no, R.inj, R.sm.trans s⟩
theorem RB.le {H H' : Hp} {p : Addr} {n m : Nat} {kvs : List (Key × V)} {xs : List T3} (R : RB H H' p n kvs xs) (h : n ≤ m) : RB H H' p m kvs xs :=
  ⟨R.hp, R.np, Nat.le_trans R.few h, fun q v e => by
    obtain ⟨a, rk, e, w1, w2, w3, w4, w5⟩ := R.row q v e
    exact ⟨a, rk, e, w1, w2, w3, Nat.le_trans w4 h, w5⟩, R.no, R.inj, R.sm⟩
/-- a rule more -/
theorem RB.put {H H' : Hp} {p a : Addr} {n : Nat} {kvs rk : List (Key × V)} {xs : List T3} {x : T3} (R : RB H H' p n kvs xs) (hv : valV kvs (Sum.inl x.1) = some (.ref a)) (ha : H' a = some (.dK rk)) (hn : H a = none) (ne : a ≠ p)
    (rl : rk.length ≤ n) (hr : (∀ c, valV rk (Sum.inr c) = (nx xs x.1 c).map V.int) ∧ KsT rk) :
    RB H (upd H' a (.dK (putK rk (Sum.inr x.2.1) (.int x.2.2)))) p (n + 1) kvs (xs ++ [x]) := by
  refine ⟨by rw [upd_ne (Ne.symm ne)]; exact R.hp, R.np, Nat.le_succ_of_le R.few, fun q v h => ?_, fun q h c => ?_, R.inj, fun b o e => ?_⟩
  · by_cases c : q = x.1
    · subst c
      rw [hv] at h
      cases h
      refine ⟨a, _, rfl, upd_same, hn, ne, Nat.le_trans (length_putK ..) (by omega), fun c => ?_, hr.2.put _ _⟩
      rw [valV_put, nx_snoc]
      by_cases d : c = x.2.1
      · rw [if_pos (congrArg Sum.inr d), if_pos ⟨rfl, d.symm⟩]
        rfl
      · rw [if_neg (fun z => d (Sum.inr.inj z)), if_neg (fun z => d z.2.symm)]
        exact hr.1 c
    · obtain ⟨b, rk2, e, h1, h2, h3, h4, h5⟩ := R.row q v h
      subst e
      have nb : b ≠ a := fun z => c (R.inj q x.1 (.ref b) h (by rw [hv, z]))
      refine ⟨b, rk2, rfl, by rw [upd_ne nb]; exact h1, h2, h3, Nat.le_succ_of_le h4, fun d => ?_, h5.2⟩
      rw [nx_snoc, if_neg (fun z => c z.1.symm)]
      exact h5.1 d
  · rw [nx_snoc, if_neg (fun z => ?_)]
    · exact R.no q h c
    · rw [← z.1, hv] at h
      cases h
  · rw [upd_ne (ne_of_none e hn)]
    exact R.sm _ _ e
/-- a row more -/
theorem RB.grow {H H' : Hp} {p b : Addr} {n : Nat} {kvs : List (Key × V)} {xs : List T3} {q0 : Int} (R : RB H H' p n kvs xs) (hv : valV kvs (Sum.inl q0) = none) (hb : H' b = some (.dK [])) (hn : H b = none) (ne : b ≠ p) (fr : ∀ q v, valV kvs (Sum.inl q) = some v → v ≠ .ref b) :
    RB H (upd H' p (.dK (putK kvs (Sum.inl q0) (.ref b)))) p (n + 1) (putK kvs (Sum.inl q0) (.ref b)) xs := by
  refine ⟨upd_same, R.np, Nat.le_trans (length_putK ..) (Nat.succ_le_succ R.few), fun q v h => ?_, fun q h c => ?_, fun q q' v h h' => ?_, fun d o e => ?_⟩
  · rw [valV_put] at h
    by_cases c : (Sum.inl q : Key) = Sum.inl q0
    · rw [if_pos c] at h
      cases h
      cases c
      refine ⟨b, [], rfl, by rw [upd_ne ne]; exact hb, hn, ne, Nat.zero_le _, fun c => ?_, [], rfl, List.nodup_nil⟩
      rw [R.no q0 hv c]
      rfl
    · rw [if_neg c] at h
      obtain ⟨a, rk, e, h1, h2, h3, h4, h5⟩ := R.row q v h
      exact ⟨a, rk, e, by rw [upd_ne h3]; exact h1, h2, h3, Nat.le_succ_of_le h4, h5⟩
  · rw [valV_put] at h
    by_cases d : (Sum.inl q : Key) = Sum.inl q0
    · rw [if_pos d] at h
      cases h
    · rw [if_neg d] at h
      exact R.no q h c
  · rw [valV_put] at h h'
    by_cases c : (Sum.inl q : Key) = Sum.inl q0
    · rw [if_pos c] at h
      cases h
      by_cases c' : (Sum.inl q' : Key) = Sum.inl q0
      · exact Sum.inl.inj (c.trans c'.symm)
      · rw [if_neg c'] at h'
        exact absurd rfl (fr q' _ h')
    · rw [if_neg c] at h
      by_cases c' : (Sum.inl q' : Key) = Sum.inl q0
      · rw [if_pos c'] at h'
        cases h'
        exact absurd rfl (fr q _ h)
      · rw [if_neg c'] at h'
        exact R.inj q q' v h h'
  · rw [upd_ne (ne_of_none e R.np)]
    exact R.sm _ _ e
/-- a reader of these rules at r -/
def RdA (H : Hp) (r : Addr) (xs : List T3) (gs : List Int) : Prop := ∃ (t1 t2 : Addr) (ts : List Addr), H r = some (.tup [.ref t1, .ref t2]) ∧ H t1 = some (.tup (ts.map V.ref)) ∧ At3 H ts xs ∧ H t2 = some (.tup (gs.map V.int))
theorem RdA.same {H H' : Hp} {r : Addr} {xs : List T3} {gs : List Int} (h : RdA H r xs gs) (s : Same H H') : RdA H' r xs gs := by
  obtain ⟨t1, t2, ts, h1, h2, h3, h4⟩ := h
  exact ⟨t1, t2, ts, s _ _ h1, s _ _ h2, h3.same (Same.keepT s), s _ _ h4⟩
theorem take_one' {α : Type} {es : List α} {i : Nat} {e : α} (h : es[i]? = some e) : es.take (i + 1) = es.take i ++ [e] := by
  rw [List.take_succ, h]
  rfl
def spRows : Sp := fun vs H Q _ => ∃ (r : Addr) (xs : List T3) (gs : List Int), vs = [.ref r] ∧ RdA H r xs gs ∧ xs.length ≤ 12800 ∧ ∀ H' p kvs, RB H H' p 25600 kvs xs → Q (.ref p) H'
section
variable {P : Program} {w : World} {K : PySem.W.Frag} {mg : Str → Option Value} {base : Heap}
theorem scRows : FnScope ["reader", "rows", "state", "sign", "goal", "row"] ["reader"] (defScope sRows) := ⟨rfl, rfl, rfl, by decide +kernel, rfl, by decide +kernel, by decide +kernel⟩
theorem ok_rows {f : Addr} {fd : FuncData} (F : Fun K "rows_of" "rows_of" sRows f fd) : FnOk P w K mg base CX0 1 f fd ["reader"] spRows := by
  refine F.ok scRows (fun vs H Q E h => ?_) (fun cdv A outer s H vs Q E hr h => ?_)
  · obtain ⟨r, xs, gs, rfl, _⟩ := h
    rfl
  · obtain ⟨r, xs, gs, rfl, ra, xl, q⟩ := h
    have hu : (A.deeper (PyProof.Rows.envOfC "rows_of" (defScope sRows) s.heap.objs.size f cdv)).units + 1 < cLine := by have := hr.un; omega
    refine ⟨_, pss_cons (ps_set (i := 1) scRows.nd rfl (Or.inl rfl) pe_dnewK)
      (pss_cons (ps_for PassesOwn.never rfl (pi_tup (pe_ix ix_tup (pv 0) pe_int (fun _ _ => rfl))) (pg_tup rfl (pgs_cons (pg_name (i := 2) scRows.nd rfl (Or.inl rfl)) (pgs_cons (pg_name (i := 3) scRows.nd rfl (Or.inl rfl)) (pgs_cons (pg_name (i := 4) scRows.nd rfl (Or.inl rfl)) pgs_nil))))
        (pss_cons (ps_set (i := 5) scRows.nd rfl (Or.inl rfl) (pe_dsetd (pv 1) (pv 2) pe_dnewK ⟨rfl, rfl, rfl, rfl⟩))
        (pss_one (ps_dput hu (pv 5) (pv 3) (pv 4) rfl))))
      (pss_one (ps_ret (pv 1)))), ?_⟩
    obtain ⟨t1, t2, ts, h1, h2, h3, h4⟩ := id ra
    intro p hp
    have u1 := same_upd (o := HO.dK []) hp
    have e1 := upd_same (H := H) (a := p) (o := HO.dK [])
    have R0 : RB H (upd H p (.dK [])) p 0 [] [] := ⟨e1, hp, Nat.le_refl _, (fun q v h => by cases h), (fun q h c => rfl), (fun q q' v h => by cases h), u1⟩
    refine gName_go2 ?_
    refine ⟨_, rfl, r, _, 0, .ref t1, rfl, rfl, SqT.of (u1 _ _ h1), rfl, t1, rfl, ⟨_, SqT.of (u1 _ _ h2)⟩, for_it (walk_tup (xs := ts.map V.ref)) (fun i σ H' => ∃ (v2 v3 v4 v5 : Option V) (kvs : List (Key × V)), σ = [some (.ref r), some (.ref p), v2, v3, v4, v5] ∧ RB H H' p (2 * i) kvs (xs.take i))
      ⟨none, none, none, none, [], rfl, R0⟩ (fun i σ H' _ ⟨_, _, _, _, _, _, z⟩ => SqT.of (z.sm _ _ h2)) ?_ ?_⟩
    · rintro i x σ H2z H2 hi ⟨v2, v3, v4, v5, kvs, rfl, R⟩ ⟨rfl, hx⟩
      obtain ⟨t, y, hy, rfl, e4⟩ := at_step (i := i) h3.1 h3.2 hx
      have e5 := R.sm _ _ e4
      refine ⟨t, _, rfl, SqT.of e5, rfl, _, _, rfl, _, _, rfl, _, _, rfl, rfl, ?_⟩
      have il : i < xs.length := (List.getElem?_eq_some_iff.mp hy).1
      have kf := R.few
      refine ⟨_, rfl, p, rfl, .inl ⟨kvs, .inl R.hp⟩, _, rfl, fun b hb => ?_⟩
      have ub := same_upd (o := HO.dK []) hb
      have eb := upd_same (H := H2) (a := b) (o := HO.dK [])
      have R1 := R.keep ub
      have nb : H b = none := same_none R.sm hb
      have nbp : b ≠ p := (ne_of_none R.hp hb).symm
      have frb : ∀ q v, valV kvs (Sum.inl q) = some v → v ≠ .ref b := fun q v h z => by
        obtain ⟨a, rk, e, w1, _⟩ := R.row q v h
        rw [z] at e
        cases e
        rw [hb] at w1
        cases w1
      generalize upd H2 b (.dK []) = H3 at ub eb R1 ⊢
      refine ⟨kvs, Sum.inl y.1, R1.hp, rfl, by rw [sizeLine_eq]; omega, fun v hv => gName_go2 ?_, fun hv => gName_go2 ?_⟩
      · obtain ⟨a, rk, rfl, w1, w2, w3, w4, w5⟩ := R1.row y.1 v hv
        have z := R1.put (x := y) hv w1 w2 w3 w4 w5
        rw [← take_one' hy] at z
        refine ⟨_, rfl, _, rfl, _, rfl, a, _, rfl, DPut.k (k := Sum.inr y.2.1) w1 (by rw [sizeLine_eq]; omega), ?_⟩
        exact ⟨_, _, _, _, kvs, rfl, z.le (by omega)⟩
      · have R2 := R1.grow hv eb nb nbp frb
        obtain ⟨a, rk, ea, w1, w2, w3, w4, w5⟩ := R2.row y.1 (.ref b) (by rw [valV_put, if_pos rfl])
        cases ea
        have z := R2.put (x := y) (by rw [valV_put, if_pos rfl]) w1 w2 w3 w4 w5
        rw [← take_one' hy] at z
        refine ⟨_, rfl, _, rfl, _, rfl, b, _, rfl, DPut.k (k := Sum.inr y.2.1) w1 (by rw [sizeLine_eq]; omega), ?_⟩
        exact ⟨_, _, _, _, _, rfl, z.le (by omega)⟩
    · rintro σ H2 ⟨v2, v3, v4, v5, kvs, rfl, R⟩
      rw [List.length_map, h3.1, List.take_length] at R
      exact ⟨_, rfl, q H2 p kvs (R.le (by omega))⟩
end
end K10

set_option Elab.async false
set_option linter.all false
set_option maxRecDepth 100000
set_option maxHeartbeats 4000000
/-! led; the law's table, _law_led. -/
namespace K10
open PySem L2 L2.EV
abbrev sLed : Stmt := top 35
abbrev sTable : Stmt := top 46
abbrev sLLed : Stmt := top 47
def ldF (xs : List T3) (o : Option Int) (ss : List Str) : Option Int := ss.foldl (fun o c => o.bind fun q => nx xs q c) o
theorem ldF_snoc {xs : List T3} {o : Option Int} {ss : List Str} {c : Str} : ldF xs o (ss ++ [c]) = (ldF xs o ss).bind fun q => nx xs q c := by
  unfold ldF
  rw [List.foldl_append]
  rfl
def oV : Option Int → V
  | none => .non
  | some i => .int i
def chs (x : Str) : List Str := (sl x).map fun c => ⟨#[c]⟩
def spLed : Sp := fun vs H Q _ => ∃ (p l : Addr) (q : Int) (H0 : Hp) (n : Nat) (kvs : List (Key × V)) (xs : List T3) (ss : List Str), vs = [.ref p, .int q, .ref l] ∧ RB H0 H p n kvs xs ∧ H l = some (.lst (ss.map V.str)) ∧
  ∀ H', Same H H' → Q (oV (ldF xs (some q) ss)) H'
def TbA (H : Hp) (p : Addr) (xs : List T3) : Prop := ∃ kvs, H p = some (.dT kvs) ∧ ∀ q c, valV kvs [Sum.inl q, Sum.inr c] = (nx xs q c).map V.int
theorem TbA.same {H H' : Hp} {p : Addr} {xs : List T3} (h : TbA H p xs) (s : Same H H') : TbA H' p xs := by
  obtain ⟨kvs, e, r⟩ := h
  exact ⟨kvs, s _ _ e, r⟩
def spTable : Sp := fun vs H Q _ => ∃ (r : Addr) (xs : List T3) (gs : List Int), vs = [.ref r] ∧ RdA H r xs gs ∧ xs.length ≤ 12800 ∧ ∀ H' p, Same H H' → TbA H' p xs → Q (.ref p) H'
def spLLed : Sp := fun vs H Q _ => ∃ (p : Addr) (q : Option Int) (xs : List T3) (x : Str), vs = [.ref p, oV q, .str x] ∧ TbA H p xs ∧ ∀ H', Same H H' → Q (oV (ldF xs q (chs x))) H'
def entT (x : T3) : List Key × V := ([Sum.inl x.1, Sum.inr x.2.1], V.int x.2.2)
theorem merge_snoc {l : List (List Key × V)} {kv : List Key × V} : mergeT (l ++ [kv]) = putK (mergeT l) kv.1 kv.2 := by
  unfold mergeT
  rw [List.foldl_append]
  rfl
theorem merge_nx {q : Int} {c : Str} (xs : List T3) : valV (mergeT (xs.map entT)) [Sum.inl q, Sum.inr c] = (nx xs q c).map V.int := by
  have go : ∀ n, n ≤ xs.length → valV (mergeT ((xs.take n).map entT)) [Sum.inl q, Sum.inr c] = (nx (xs.take n) q c).map V.int := by
    intro n
    induction n with
    | zero => intro _; rfl
    | succ n ih =>
      intro h
      have e := List.getElem?_eq_getElem (l := xs) (i := n) (by omega)
      rw [take_one' e, List.map_append, List.map_cons, List.map_nil, merge_snoc, valV_put, ih (by omega), nx_snoc]
      by_cases d : xs[n].1 = q ∧ xs[n].2.1 = c
      · rw [if_pos d, if_pos (show _ = (entT xs[n]).1 by unfold entT; rw [d.1, d.2])]
        rfl
      · rw [if_neg d, if_neg (fun z => d ?_)]
        have z : [Sum.inl q, Sum.inr c] = [Sum.inl xs[n].1, Sum.inr xs[n].2.1] := z
        simp only [List.cons.injEq, Sum.inl.injEq, Sum.inr.injEq, and_true] at z
        exact ⟨z.1.symm, z.2.symm⟩
  have z := go xs.length (Nat.le_refl _)
  rw [List.take_length] at z
  exact z
section
variable {P : Program} {w : World} {K : PySem.W.Frag} {mg : Str → Option Value} {base : Heap}
theorem scLed : FnScope ["rows", "state", "signs", "place", "sign"] ["rows", "state", "signs"] (defScope sLed) := ⟨rfl, rfl, rfl, by decide +kernel, rfl, by decide +kernel, by decide +kernel⟩
theorem ok_led {f : Addr} {fd : FuncData} (F : Fun K "led" "led" sLed f fd) : FnOk P w K mg base CX0 1 f fd ["rows", "state", "signs"] spLed := by
  refine F.ok scLed (fun vs H Q E h => ?_) (fun cdv A outer s H vs Q E hr h => ?_)
  · obtain ⟨p, l, q, H0, n, kvs, xs, ss, rfl, _⟩ := h
    rfl
  · obtain ⟨p, l, q0, H0, n, kvs, xs, ss, rfl, R, hl, q⟩ := h
    have hu : (A.deeper (PyProof.Rows.envOfC "led" (defScope sLed) s.heap.objs.size f cdv)).units + 1 < cLine := by have := hr.un; omega
    refine ⟨_, pss_cons (ps_set (i := 3) scLed.nd rfl (Or.inl rfl) (pv 1))
      (pss_cons (ps_for PassesOwn.never rfl (pi_list (pv 2)) (pg_name (i := 4) scLed.nd rfl (Or.inl rfl))
        (pss_one (ps_set (i := 3) scLed.nd rfl (Or.inl rfl) (pe_dget1 hu (pe_dget2N hu (pv 0) (pv 3) pe_dnewK ⟨rfl, rfl, rfl, rfl⟩) (pv 4) ⟨rfl, rfl, rfl, rfl⟩))))
      (pss_one (ps_ret (pv 3)))), ?_⟩
    refine ⟨_, rfl, ?_⟩
    refine ⟨_, rfl, l, rfl, ⟨_, SqL.of hl⟩, for_it (walk_list (xs := ss.map V.str)) (fun i σ H' => ∃ (v4 : Option V), σ = [some (.ref p), some (.int q0), some (.ref l), some (oV (ldF xs (some q0) (ss.take i))), v4] ∧ Same H H')
      ⟨none, rfl, Same.refl H⟩ (fun i σ H' _ ⟨_, _, z⟩ => SqL.of (z _ _ hl)) ?_ ?_⟩
    · rintro i x σ H2z H2 hi ⟨v4, rfl, s2⟩ ⟨rfl, hx⟩
      obtain ⟨c, hc, rfl⟩ : ∃ c, ss[i]? = some c ∧ x = .str c := by
        rw [List.getElem?_map] at hx
        cases e : ss[i]? with
        | none =>
          rw [e] at hx
          cases hx
        | some c =>
          rw [e] at hx
          exact ⟨c, rfl, (Option.some.inj hx).symm⟩
      have R2 := R.keep s2
      rw [take_one' hc, ldF_snoc]
      generalize ldF xs (some q0) (ss.take i) = o
      refine ⟨_, rfl, p, rfl, .inl ⟨kvs, .inl R2.hp⟩, _, rfl, fun b hb => ?_⟩
      have ub := same_upd (o := HO.dK []) hb
      have eb := upd_same (H := H2) (a := b) (o := HO.dK [])
      have R3 := R2.keep ub
      have s3 := s2.trans ub
      generalize upd H2 b (.dK []) = H3 at eb R3 s3 ⊢
      have fin : ∀ v, v = oV (o.bind fun q => nx xs q c) → ∃ (v4 : Option V), [some (V.ref p), some (.int q0), some (.ref l), some v, some (.str c)] = [some (.ref p), some (.int q0), some (.ref l), some (oV (o.bind fun q => nx xs q c)), v4] ∧ Same H H3 := fun v e => ⟨some (.str c), by rw [e], s3⟩
      cases o with
      | none =>
        refine ⟨none, .inr ⟨⟨kvs, .inl R3.hp⟩, rfl, rfl⟩, b, rfl, .inl ⟨[], .inl eb⟩, _, rfl, _, DGet.k (k := Sum.inr c) eb, ?_⟩
        exact fin _ rfl
      | some q =>
        refine ⟨_, .inl (DGet.k (k := Sum.inl q) R3.hp), ?_⟩
        cases e : valV kvs (Sum.inl q) with
        | none =>
          refine ⟨b, rfl, .inl ⟨[], .inl eb⟩, _, rfl, _, DGet.k (k := Sum.inr c) eb, ?_⟩
          refine fin _ ?_
          show V.non = oV (nx xs q c)
          rw [R3.no q e c]
          rfl
        | some v =>
          obtain ⟨a, rk, rfl, w1, _, _, _, w5⟩ := R3.row q v e
          refine ⟨a, rfl, .inl ⟨rk, .inl w1⟩, _, rfl, _, DGet.k (k := Sum.inr c) w1, ?_⟩
          refine fin _ ?_
          rw [w5.1]
          show _ = oV (nx xs q c)
          cases nx xs q c <;> rfl
    · rintro σ H2 ⟨v4, rfl, s2⟩
      rw [show ss.take (ss.map V.str).length = ss by rw [List.length_map, List.take_length]]
      exact ⟨_, rfl, q _ s2⟩
theorem scTable : FnScope ["reader", "state", "sign", "to"] ["reader"] (defScope sTable) := ⟨rfl, rfl, rfl, by decide +kernel, rfl, by decide +kernel, by decide +kernel⟩
theorem ok_table {f : Addr} {fd : FuncData} (F : Fun K "_law_table" "_law_table" sTable f fd) (hd : mg "dict" = none) : FnOk P w K mg base CX0 1 f fd ["reader"] spTable := by
  refine F.ok scTable (fun vs H Q E h => ?_) (fun cdv A outer s H vs Q E hr h => ?_)
  · obtain ⟨r, xs, gs, rfl, _⟩ := h
    rfl
  · obtain ⟨r, xs, gs, rfl, ra, xl, q⟩ := h
    have hu64 : (A.deeper (PyProof.Rows.envOfC "_law_table" (defScope sTable) s.heap.objs.size f cdv)).units + 64 < cLine := by have := hr.un; omega
    refine ⟨_, pss_one (ps_ret (pe_callTy (call_dictT rfl hu64) (by rfl) hd (by decide +kernel) (pa_cons
      (pe_lc (own := [("state", 1), ("sign", 2), ("to", 3)]) (g := gTup K 3 (gCons (gName 1) (gCons (gName 2) (gCons (gName 3) gNil)))) (te := tTup (tCons (tTup (tCons (tVar 1) (tCons (tVar 2) tNil))) (tCons (tVar 3) tNil))) rfl scTable.nd (pi_tup (pe_ix ix_tup (pv 0) pe_int (fun _ _ => rfl)))
        (blkOk_by (N := ["reader", "state", "sign", "to"]) (sc := defScope sTable) (by decide +kernel))
        (fun _ _ _ _ _ => pg_tup rfl (pgs_cons (pg_name (i := 1) scTable.nd rfl (Or.inl rfl)) (pgs_cons (pg_name (i := 2) scTable.nd rfl (Or.inl rfl)) (pgs_cons (pg_name (i := 3) scTable.nd rfl (Or.inl rfl)) pgs_nil))))
        (fun _ _ _ _ _ => pts_nil)
        (fun _ _ _ _ _ => pe_tup (pa_cons (pe_tup (pa_cons (pv 1) (pa_cons (pv 2) pa_nil))) (pa_cons (pv 3) pa_nil)))) pa_nil))), ?_⟩
    obtain ⟨t1, t2, ts, h1, h2, h3, h4⟩ := id ra
    refine ⟨_, rfl, r, _, 0, .ref t1, rfl, rfl, SqT.of h1, rfl, t1, rfl, ⟨_, SqT.of h2⟩, fun D hD => ?_⟩
    refine lc_it (walk_tup (xs := ts.map V.ref)) (fun i H' => ∃ es : List PairE, H' D = some (.lst (es.map fun e => V.ref e.q)) ∧ es.map (fun e => (e.k, e.v)) = (xs.take i).map entT ∧ (∀ e ∈ es, OkE H' e) ∧ Same H H')
      ⟨[], upd_same, rfl, (fun e h => by cases h), same_upd hD⟩ (fun i H' _ ⟨_, _, _, _, z⟩ => SqT.of (z _ _ h2)) ?_ ?_
    · rintro i x H2z H2 hi ⟨es, hD2, ee, ok, s2⟩ ⟨rfl, hx⟩
      obtain ⟨t, y, hy, rfl, e4⟩ := at_step (i := i) h3.1 h3.2 hx
      have e5 := s2 _ _ e4
      have el : es.length ≤ 12800 := by
        have z := congrArg List.length ee
        rw [List.length_map, List.length_map, List.length_take] at z
        omega
      refine ⟨t, _, rfl, SqT.of e5, rfl, _, _, rfl, _, _, rfl, _, _, rfl, rfl, rfl, ?_⟩
      refine ⟨_, rfl, _, rfl, (by show 2 ≤ sizeLine; decide), fun b hb => ⟨_, rfl, (by show 2 ≤ sizeLine; decide), fun qq hq => ?_⟩⟩
      have ub := same_upd (o := HO.tup [V.int y.1, V.str y.2.1]) hb
      have uq := same_upd (o := HO.tup [V.ref b, V.int y.2.2]) hq
      have hD3 := uq _ _ (ub _ _ hD2)
      have eb := uq _ _ (upd_same (H := H2) (a := b) (o := HO.tup [V.int y.1, V.str y.2.1]))
      have eq := upd_same (H := upd H2 b (.tup [V.int y.1, V.str y.2.1])) (a := qq) (o := HO.tup [V.ref b, V.int y.2.2])
      have s3 := ub.trans uq
      clear ub uq hq
      generalize upd (upd H2 b (.tup [V.int y.1, V.str y.2.1])) qq (.tup [V.ref b, V.int y.2.2]) = H3 at hD3 eb eq s3 ⊢
      have k8 := keepT_upd (o := .lst ((es.map fun e => V.ref e.q) ++ [V.ref qq])) hD3 (fun xs z => by cases z)
      refine ⟨_, hD3, by rw [List.length_map, sizeLine_eq]; omega, es ++ [⟨qq, b, [Sum.inl y.1, Sum.inr y.2.1], .int y.2.2⟩], by rw [List.map_append]; exact upd_same, ?_, fun e he => ?_, same_set hD (s2.trans s3)⟩
      · rw [take_one' hy, List.map_append, List.map_append, ee]
        rfl
      · rcases List.mem_append.mp he with he | he
        · obtain ⟨w1, w2⟩ := ok e he
          exact ⟨k8 _ _ (s3 _ _ w1), k8 _ _ (s3 _ _ w2)⟩
        · cases List.mem_singleton.mp he
          exact ⟨k8 _ _ eq, k8 _ _ eb⟩
    · rintro H2 ⟨es, hD2, ee, ok, s2⟩
      rw [List.length_map, h3.1, List.take_length] at ee
      refine ⟨D, es, rfl, SqL.of hD2, ok, fun p hp => ?_⟩
      rw [ee]
      exact q _ p (s2.trans (same_upd hp)) ⟨_, upd_same, fun q c => merge_nx xs⟩
theorem scLLed : FnScope ["table", "state", "signs", "sign"] ["table", "state", "signs"] (defScope sLLed) := ⟨rfl, rfl, rfl, by decide +kernel, rfl, by decide +kernel, by decide +kernel⟩
theorem ok_lled {f : Addr} {fd : FuncData} (F : Fun K "_law_led" "_law_led" sLLed f fd) : FnOk P w K mg base CX0 1 f fd ["table", "state", "signs"] spLLed := by
  refine F.ok scLLed (fun vs H Q E h => ?_) (fun cdv A outer s H vs Q E hr h => ?_)
  · obtain ⟨p, q, xs, x, rfl, _⟩ := h
    rfl
  · obtain ⟨p, q0, xs, x, rfl, tb, q⟩ := h
    have hu : (A.deeper (PyProof.Rows.envOfC "_law_led" (defScope sLLed) s.heap.objs.size f cdv)).units + 1 < cLine := by have := hr.un; omega
    refine ⟨_, pss_cons (ps_for PassesOwn.never rfl (pi_str (pv 2)) (pg_name (i := 3) scLLed.nd rfl (Or.inl rfl))
        (pss_one (ps_if (pt_cmp (pc_notN (pv 1))) (pss_one (ps_set (i := 1) scLLed.nd rfl (Or.inl rfl) (pe_dget1 hu (pv 0) (pe_tup (pa_cons (pv 1) (pa_cons (pv 3) pa_nil))) ⟨rfl, rfl, rfl, rfl⟩))) pss_nil)))
      (pss_one (ps_ret (pv 1))), ?_⟩
    refine ⟨_, rfl, _, rfl, for_it walk_str (fun i σ H' => ∃ (v3 : Option V), σ = [some (.ref p), some (oV (ldF xs q0 ((chs x).take i))), some (.str x), v3] ∧ Same H H')
      ⟨none, rfl, Same.refl H⟩ (fun _ _ _ _ _ => trivial) ?_ ?_⟩
    · rintro i y σ H2 H3 hi ⟨v3, rfl, s2⟩ ⟨rfl, ch, hc, rfl⟩
      have hch : (chs x)[i]? = some ⟨#[ch]⟩ := by
        unfold chs
        rw [List.getElem?_map, show (sl x)[i]? = some ch from (Array.getElem?_toList ..).trans hc]
        rfl
      rw [take_one' hch, ldF_snoc]
      generalize ldF xs q0 ((chs x).take i) = o
      refine ⟨_, rfl, _, rfl, ?_⟩
      cases o with
      | none =>
        refine iteF' (by simp [oV]) ?_
        exact ⟨_, rfl, s2⟩
      | some q1 =>
        refine iteT' (by simp [oV]) ?_
        obtain ⟨kvs, e, r⟩ := tb.same s2
        refine ⟨_, rfl, p, rfl, .inr ⟨kvs, .inl e⟩, _, rfl, _, rfl, (by show 2 ≤ sizeLine; decide), fun b hb => ?_⟩
        have ub := same_upd (o := HO.tup [V.int q1, V.str ⟨#[ch]⟩]) hb
        refine ⟨_, DGet.t (k := [Sum.inl q1, Sum.inr ⟨#[ch]⟩]) (ub _ _ e) upd_same, ?_⟩
        rw [r]
        refine ⟨some (.str ⟨#[ch]⟩), ?_, s2.trans ub⟩
        show _ = [_, some (oV (nx xs q1 ⟨#[ch]⟩)), _, _]
        cases nx xs q1 ⟨#[ch]⟩ <;> rfl
    · rintro σ H2 ⟨v3, rfl, s2⟩
      have ln : x.cps.size = (chs x).length := by
        unfold chs
        rw [List.length_map]
        exact len_sl x
      rw [ln, List.take_length]
      exact ⟨_, rfl, q _ s2⟩
end
end K10

set_option Elab.async false
set_option linter.all false
set_option maxRecDepth 100000
set_option maxHeartbeats 4000000
/-! Places by what leads to them. -/
namespace K10
open PySem L2 L2.EV
/-- the piece of a step, as signs -/
def pcs (fr : List T3) (n : Nat) : List Nat := sl (stq fr n).2.1
/-- standings that can be come to at a place of a text -/
inductive Rch (fr : List T3) (b : List Nat) : Nat → Int → Prop
  | z : Rch fr b 0 0
  | go {k n : Nat} : Rch fr b k (stq fr n).1 → n < fr.length → (b.drop k).take (pln fr n) = pcs fr n → ¬ (stq fr n).2.2 = 0 → Rch fr b (k + pln fr n) (stq fr n).2.2
/-- a text is that of a line -/
def TakB (fr : List T3) (b : List Nat) : Prop := ∃ k n, Rch fr b k (stq fr n).1 ∧ n < fr.length ∧ (b.drop k).take (pln fr n) = pcs fr n ∧ (stq fr n).2.2 = 0 ∧ k + pln fr n = b.length
theorem pcs_len (fr : List T3) (n : Nat) : (pcs fr n).length = pln fr n := by
  unfold pln pcs
  rw [len_sl]
theorem pcs_at {fr : List T3} {n j : Nat} (h : j < pln fr n) : (pcs fr n)[j]? = some (chr fr n j) := chr_at h
theorem take_more {a c : List Nat} {j : Nat} (h : a.take j = c.take j) (e : a[j]? = c[j]?) : a.take (j + 1) = c.take (j + 1) := by
  rw [List.take_succ, List.take_succ, h, e]
theorem take_less {a c : List Nat} {j : Nat} (h : a.take (j + 1) = c.take (j + 1)) : a.take j = c.take j ∧ a[j]? = c[j]? := by
  constructor
  · have := congrArg (List.take j) h
    rwa [List.take_take, List.take_take, Nat.min_eq_left (by omega)] at this
  · have := congrArg (fun l => l[j]?) h
    simpa [List.getElem?_take] using this
section
variable {fr : List T3} {last : Nat} (fm : Frm fr last)
include fm
theorem rch_le {b : List Nat} {k : Nat} {h : Int} (r : Rch fr b k h) : k ≤ b.length := by
  cases r with
  | z => exact Nat.zero_le _
  | @go k n r hn e _ =>
    have l := congrArg List.length e
    rw [pcs_len, List.length_take, List.length_drop] at l
    have := pln_pos fm hn
    omega
theorem rch_0 {b : List Nat} {k : Nat} {h : Int} (r : Rch fr b k h) (e : k = 0) : h = 0 := by
  cases r with
  | z => rfl
  | @go k n r hn _ _ =>
    have := pln_pos fm hn
    omega
theorem end_59 {i j : Nat} (hi : i < fr.length) (hj : j < pln fr i) : (chr fr i j = 59 ↔ (stq fr i).2.2 = 0 ∧ j + 1 = pln fr i) := by
  obtain ⟨b, e, _, hb, _⟩ := stq_pc fm hi
  have c := chr_at hj
  rw [e] at c
  have ln : pln fr i = (b ++ if decide ((stq fr i).2.2 = 0) = true then [59] else []).length := by
    rw [← e, ← pcs_len]
    rfl
  by_cases z : (stq fr i).2.2 = 0
  · rw [decide_eq_true z, if_pos rfl] at c ln
    rw [List.length_append, List.length_singleton] at ln
    rcases Nat.lt_or_ge j b.length with y | y
    · rw [List.getElem?_append_left y] at c
      have m := hb _ (List.mem_of_getElem? c)
      constructor
      · intro q
        rw [q] at m
        exact absurd m sgs_59
      · rintro ⟨_, q⟩
        omega
    · have : j = b.length := by omega
      subst this
      rw [List.getElem?_append_right (Nat.le_refl _), Nat.sub_self] at c
      exact ⟨fun _ => ⟨z, ln.symm⟩, fun _ => (Option.some.inj c).symm⟩
  · rw [decide_eq_false z, if_neg (by simp), List.append_nil] at c
    have m := hb _ (List.mem_of_getElem? c)
    constructor
    · intro q
      rw [q] at m
      exact absurd m sgs_59
    · exact fun q => absurd q.1 z
theorem fur_bit {i j n a : Nat} (hi : i < fr.length) (hj : j < pln fr i) (hn : n < fr.length) (ha : a < pln fr n) :
    (fur fr i j).testBit (off fr n + a) = true ↔ (j + 1 < pln fr i ∧ n = i ∧ a = j + 1) ∨ (j + 1 = pln fr i ∧ a = 0 ∧ (stq fr n).1 = (stq fr i).2.2) := by
  unfold fur
  by_cases c : j + 1 < pln fr i
  · rw [if_pos c, Nat.testBit_two_pow, decide_eq_true_iff]
    constructor
    · intro e
      obtain ⟨e1, e2⟩ := off_inj c ha e
      exact .inl ⟨c, e1.symm, e2.symm⟩
    · rintro (⟨_, rfl, rfl⟩ | ⟨z, _⟩)
      · rfl
      · omega
  · rw [if_neg c, (firB_bit fm (Nat.le_refl _)).2]
    constructor
    · rintro ⟨m, hm, e1, e2⟩
      obtain ⟨e3, e4⟩ := off_inj ha (pln_pos fm hm) (show off fr n + a = off fr m + 0 by omega)
      subst e3
      exact .inr ⟨by omega, e4, e1⟩
    · rintro (⟨z, _⟩ | ⟨_, rfl, e⟩)
      · omega
      · exact ⟨n, hn, e, rfl⟩
/-- the places that signs lead to -/
theorem pl_is {bs b : List Nat} (hb : b = bs ++ [59]) (h59 : ∀ c ∈ bs, c ≠ 59) : ∀ t, t ≤ bs.length → ∀ n a, n < fr.length → a < pln fr n →
    ((rnF (esF fr) (f0F fr) (bs.take t)).testBit (off fr n + a) = true ↔ ∃ k, k + a = t ∧ Rch fr b k (stq fr n).1 ∧ (b.drop k).take a = (pcs fr n).take a)
  | 0, _, n, a, hn, ha => by
    rw [f0F.eq_1 fr]
    show (firB fr fr.length 0).testBit (off fr n + a) = true ↔ _
    rw [(firB_bit fm (Nat.le_refl _)).2]
    constructor
    · rintro ⟨m, hm, e1, e2⟩
      obtain ⟨e3, e4⟩ := off_inj ha (pln_pos fm hm) (show off fr n + a = off fr m + 0 by omega)
      subst e3
      subst e4
      exact ⟨0, rfl, by rw [e1]; exact .z, by simp⟩
    · rintro ⟨k, e, r, _⟩
      have k0 : k = 0 := by omega
      have a0 : a = 0 := by omega
      subst a0
      exact ⟨n, hn, rch_0 fm r k0, rfl⟩
  | t + 1, h, n, a, hn, ha => by
    have ih := pl_is hb h59 t (by omega)
    obtain ⟨c, hc⟩ : ∃ c, bs[t]? = some c := ⟨_, List.getElem?_eq_getElem (by omega)⟩
    have n59 := h59 c (List.mem_of_getElem? hc)
    have hbt : b[t]? = some c := by rw [hb, List.getElem?_append_left (by omega)]; exact hc
    rw [take_one' hc, rnF_snoc, bh_bit]
    constructor
    · rintro ⟨p, hp, h1, h2⟩
      obtain ⟨i, j, hi, hj, e⟩ := esF_mem.mp hp
      have e1 : c = chr fr i j := congrArg Prod.fst e
      have e2 : p.1 = 2 ^ (off fr i + j) := congrArg (fun z : En => z.2.1) e
      have e3 : p.2 = fur fr i j := congrArg (fun z : En => z.2.2) e
      rw [e2, and_bit, ih i j hi hj] at h1
      obtain ⟨k, ek, r, et⟩ := h1
      have em : (b.drop k).take (j + 1) = (pcs fr i).take (j + 1) := take_more et (by
        rw [List.getElem?_drop, ek, hbt, pcs_at hj, e1])
      rw [e3, fur_bit fm hi hj hn ha] at h2
      rcases h2 with ⟨_, rfl, rfl⟩ | ⟨e4, rfl, e5⟩
      · exact ⟨k, by omega, r, em⟩
      · have full : (b.drop k).take (pln fr i) = pcs fr i := by
          rw [← e4, em, List.take_of_length_le (by rw [pcs_len]; omega)]
        have g0 : ¬ (stq fr i).2.2 = 0 := fun z => n59 (e1.trans ((end_59 fm hi hj).mpr ⟨z, e4⟩))
        refine ⟨k + pln fr i, by omega, ?_, by simp⟩
        rw [e5]
        exact .go r hi full g0
    · rintro ⟨k, ek, r, et⟩
      cases a with
      | succ a =>
        obtain ⟨t1, t2⟩ := take_less et
        rw [List.getElem?_drop, show k + a = t by omega, hbt, pcs_at (by omega)] at t2
        refine ⟨(2 ^ (off fr n + a), fur fr n a), esF_mem.mpr ⟨n, a, hn, by omega, by rw [Option.some.inj t2]⟩, ?_, ?_⟩
        · rw [and_bit, ih n a hn (by omega)]
          exact ⟨k, by omega, r, t1⟩
        · rw [fur_bit fm hn (by omega) hn ha]
          exact .inl ⟨ha, rfl, rfl⟩
      | zero =>
        have k1 : k = t + 1 := by omega
        generalize eg : (stq fr n).1 = g at r
        cases r with
        | z => cases k1
        | @go k0 i r hi em g0 =>
          have pp := pln_pos fm hi
          obtain ⟨j, ej⟩ : ∃ j, pln fr i = j + 1 := ⟨pln fr i - 1, by omega⟩
          have em2 : (b.drop k0).take (j + 1) = (pcs fr i).take (j + 1) := by
            rw [← ej, em, List.take_of_length_le (by rw [pcs_len]; omega)]
          obtain ⟨t1, t2⟩ := take_less em2
          rw [List.getElem?_drop, show k0 + j = t by omega, hbt, pcs_at (by omega)] at t2
          refine ⟨(2 ^ (off fr i + j), fur fr i j), esF_mem.mpr ⟨i, j, hi, by omega, by rw [Option.some.inj t2]⟩, ?_, ?_⟩
          · rw [and_bit, ih i j hi (by omega)]
            exact ⟨k0, by omega, r, t1⟩
          · rw [fur_bit fm hi (by omega) hn ha]
            exact .inr ⟨ej.symm, rfl, eg⟩
/-- what the strict reader takes is the text of a line -/
theorem end_is {bs : List Nat} (h59 : ∀ c ∈ bs, c ≠ 59) : (¬ rnF (esF fr) (f0F fr) bs &&& endF (esF fr) = 0) ↔ TakB fr (bs ++ [59]) := by
  have key := pl_is fm (b := bs ++ [59]) rfl h59 bs.length (Nat.le_refl _)
  rw [List.take_length] at key
  have b59 : (bs ++ [59])[bs.length]? = some 59 := by simp
  rw [and_some]
  constructor
  · rintro ⟨x, h1, h2⟩
    obtain ⟨i, j, hi, hj, c, rfl⟩ := end_bit.mp h2
    obtain ⟨g0, ej⟩ := (end_59 fm hi hj).mp c
    obtain ⟨k, ek, r, et⟩ := (key i j hi hj).mp h1
    have em := take_more et (by rw [List.getElem?_drop, ek, b59, pcs_at hj, c])
    refine ⟨k, i, r, hi, ?_, g0, ?_⟩
    · rw [← ej, em, List.take_of_length_le (by rw [pcs_len]; omega)]
    · rw [List.length_append, List.length_singleton]
      omega
  · rintro ⟨k, i, r, hi, em, g0, el⟩
    rw [List.length_append, List.length_singleton] at el
    have pp := pln_pos fm hi
    obtain ⟨j, ej⟩ : ∃ j, pln fr i = j + 1 := ⟨pln fr i - 1, by omega⟩
    have em2 : ((bs ++ [59]).drop k).take (j + 1) = (pcs fr i).take (j + 1) := by
      rw [← ej, em, List.take_of_length_le (by rw [pcs_len]; omega)]
    obtain ⟨t1, _⟩ := take_less em2
    exact ⟨off fr i + j, (key i j hi (by omega)).mpr ⟨k, by omega, r, t1⟩, end_bit.mpr ⟨i, j, hi, by omega, (end_59 fm hi (by omega)).mpr ⟨g0, ej.symm⟩, rfl⟩⟩
end
end K10

set_option Elab.async false
set_option linter.all false
set_option maxRecDepth 100000
set_option maxHeartbeats 4000000
/-! Small framings: how many kinds of sets of places there are. -/
namespace K10
open PySem L2 L2.EV
/-- the last letter of a step that does not begin a line, and where it goes -/
def tgt (s : T3) : Option (Nat × Int) := if s.1 = 0 then none else if s.2.2 = 0 then ((sl s.2.1).dropLast.getLast?).map fun x => (x, 0) else ((sl s.2.1).getLast?).map fun x => (x, s.2.2)
/-- the first letter of a step of two signs and more that does not begin a line, and where it begins -/
def ftg (s : T3) : Option (Nat × Int) := if s.1 = 0 then none else if 2 ≤ (sl s.2.1).length then ((sl s.2.1)[0]?).map fun x => (x, s.1) else none
def tgs (fr : List T3) : List (Nat × Int) := fr.filterMap tgt
def fgs (fr : List T3) : List (Nat × Int) := fr.filterMap ftg
def cut (T : List (Nat × Int)) (x : Nat) (hs : List Int) : List Int := hs.filter fun h => decide ((x, h) ∈ T)
def subs : List Int → List (List Int)
  | [] => [[]]
  | a :: l => subs l ++ (subs l).map (a :: ·)
theorem subs_len : ∀ l : List Int, (subs l).length = 2 ^ l.length
  | [] => rfl
  | a :: l => by
    show (subs l ++ (subs l).map (a :: ·)).length = _
    rw [List.length_append, List.length_map, subs_len l, List.length_cons, Nat.pow_succ]
    omega
theorem subs_filter (p : Int → Bool) : ∀ l : List Int, l.filter p ∈ subs l
  | [] => by simp [subs]
  | a :: l => by
    show _ ∈ subs l ++ (subs l).map (a :: ·)
    rw [List.filter_cons]
    by_cases h : p a = true
    · rw [if_pos h]
      exact List.mem_append_right _ (List.mem_map.mpr ⟨_, subs_filter p l, rfl⟩)
    · rw [if_neg h]
      exact List.mem_append_left _ (subs_filter p l)
/-- keys that are there: no more than the list is long -/
theorem keys_few {T : List (Nat × Int)} {hs : List Int} (nd : hs.Nodup) : (cut T 97 hs).length + (cut T 98 hs).length + (cut T 64 hs).length ≤ T.length := by
  have inj : ∀ {x : Nat} {l : List Int}, l.Nodup → (l.map fun h => ((x, h) : Nat × Int)).Nodup := fun {x l} h => List.pairwise_map.mpr (h.imp fun n e => n (congrArg Prod.snd e))
  have sub : ∀ x, (cut T x hs).Nodup := fun x => nd.filter _
  have z : ((cut T 97 hs).map (fun h => ((97, h) : Nat × Int)) ++ ((cut T 98 hs).map (fun h => ((98, h) : Nat × Int)) ++ (cut T 64 hs).map fun h => ((64, h) : Nat × Int))).Nodup := by
    refine List.nodup_append.mpr ⟨inj (sub _), List.nodup_append.mpr ⟨inj (sub _), inj (sub _), fun a ha b hb e => ?_⟩, fun a ha b hb e => ?_⟩
    · obtain ⟨h1, _, rfl⟩ := List.mem_map.mp ha
      obtain ⟨h2, _, rfl⟩ := List.mem_map.mp hb
      have := congrArg Prod.fst e
      cases this
    · obtain ⟨h1, _, rfl⟩ := List.mem_map.mp ha
      rcases List.mem_append.mp hb with hb | hb
      · obtain ⟨h2, _, rfl⟩ := List.mem_map.mp hb
        have := congrArg Prod.fst e
        cases this
      · obtain ⟨h2, _, rfl⟩ := List.mem_map.mp hb
        have := congrArg Prod.fst e
        cases this
  have l := z.length_le_of_subset (l₂ := T) fun a ha => by
    have one : ∀ x, a ∈ (cut T x hs).map (fun h => ((x, h) : Nat × Int)) → a ∈ T := fun x h => by
      obtain ⟨h1, h2, rfl⟩ := List.mem_map.mp h
      exact of_decide_eq_true (List.mem_filter.mp h2).2
    rcases List.mem_append.mp ha with h | h
    · exact one _ h
    · rcases List.mem_append.mp h with h | h
      · exact one _ h
      · exact one _ h
  simp only [List.length_append, List.length_map] at l
  omega
theorem fm_len {f : T3 → Option (Nat × Int)} (h : ∀ s : T3, s.1 = 0 → f s = none) : ∀ fr : List T3, (fr.filterMap f).length ≤ (fr.filter fun x => decide (¬ x.1 = 0)).length
  | [] => Nat.le_refl _
  | s :: fr => by
    have ih := fm_len h fr
    rw [List.filter_cons]
    by_cases z : s.1 = 0
    · rw [if_neg (by simp [z]), List.filterMap_cons_none (h s z)]
      exact ih
    · rw [if_pos (by simp [z]), List.length_cons]
      cases e : f s with
      | none =>
        rw [List.filterMap_cons_none e]
        omega
      | some y =>
        rw [List.filterMap_cons_some e, List.length_cons]
        omega
def powB (n m : Nat) : Bool := (List.range 5).all fun u1 => (List.range 5).all fun u2 => (List.range 5).all fun u3 => (List.range 4).all fun v1 => (List.range 4).all fun v2 => (List.range 4).all fun v3 =>
  !decide (u1 + u2 + u3 ≤ n) || !decide (v1 + v2 + v3 ≤ n) || decide (2 ^ (u1 + v1) + 2 ^ (u2 + v2) + 2 ^ (u3 + v3) ≤ m)
theorem pow_of {n m : Nat} (h : powB n m = true) {u1 u2 u3 v1 v2 v3 : Nat} (a1 : u1 < 5) (a2 : u2 < 5) (a3 : u3 < 5) (b1 : v1 < 4) (b2 : v2 < 4) (b3 : v3 < 4) (su : u1 + u2 + u3 ≤ n) (sv : v1 + v2 + v3 ≤ n) : 2 ^ (u1 + v1) + 2 ^ (u2 + v2) + 2 ^ (u3 + v3) ≤ m := by
  unfold powB at h
  simp only [List.all_eq_true, List.mem_range] at h
  have z := h u1 a1 u2 a2 u3 a3 v1 b1 v2 b2 v3 b3
  rw [decide_eq_true su, decide_eq_true sv] at z
  exact of_decide_eq_true z
theorem pow7 : powB 7 194 = true := by decide +kernel
theorem pow6 : powB 6 181 = true := by decide +kernel
/-- what may be there behind a letter -/
abbrev Gn : Type := List Int × List Int × Bool
def lsX (fr : List T3) (x : Nat) : List Gn := (subs (cut (tgs fr) x [1, 2, 3])).flatMap fun A => (subs (cut (fgs fr) x [1, 2, 3])).flatMap fun D => if (x, 0) ∈ tgs fr then [(A, D, false), (A, D, true)] else [(A, D, false)]
theorem lsX_len (fr : List T3) (x : Nat) : (lsX fr x).length = 2 ^ ((cut (tgs fr) x [0, 1, 2, 3]).length + (cut (fgs fr) x [1, 2, 3]).length) := by
  have e : (cut (tgs fr) x [0, 1, 2, 3]).length = (if (x, (0 : Int)) ∈ tgs fr then 1 else 0) + (cut (tgs fr) x [1, 2, 3]).length := by
    unfold cut
    rw [List.filter_cons]
    by_cases z : (x, (0 : Int)) ∈ tgs fr
    · rw [if_pos (decide_eq_true z), if_pos z, List.length_cons]
      omega
    · rw [if_neg (by simp [z]), if_neg z]
      omega
  have c2 : ∀ (l : List (List Int)) (F : List Int → List Gn) (m : Nat), (∀ D ∈ l, (F D).length = m) → (l.flatMap F).length = l.length * m := by
    intro l F m
    induction l with
    | nil => intro _; simp
    | cons a l ih =>
      intro h
      rw [List.flatMap_cons, List.length_append, h a (List.mem_cons_self ..), ih fun D hD => h D (List.mem_cons_of_mem _ hD), List.length_cons, Nat.succ_mul]
      omega
  have e3 : (lsX fr x).length = (subs (cut (tgs fr) x [1, 2, 3])).length * ((subs (cut (fgs fr) x [1, 2, 3])).length * (if (x, (0 : Int)) ∈ tgs fr then 2 else 1)) := by
    unfold lsX
    refine c2 _ _ _ fun A _ => c2 _ _ _ fun D _ => ?_
    split <;> rfl
  rw [e3, e, subs_len, subs_len]
  split
  · rw [Nat.pow_add, Nat.pow_add]
    generalize 2 ^ (cut (tgs fr) x [1, 2, 3]).length = a
    generalize 2 ^ (cut (fgs fr) x [1, 2, 3]).length = b
    rw [Nat.pow_one, Nat.mul_comm b 2, ← Nat.mul_assoc, Nat.mul_comm a 2]
  · rw [Nat.zero_add, Nat.pow_add, Nat.mul_one]
theorem cut_le (T : List (Nat × Int)) (x : Nat) (hs : List Int) : (cut T x hs).length ≤ hs.length := List.length_filter_le _ _
/-- all that may be there behind a letter: at most 200, with what the steps that begin a line make -/
theorem all_few {fr : List T3} (S : Sml fr) : 1 + 2 * (fr.filter fun x => decide (x.1 = 0)).length + ((lsX fr 97).length + (lsX fr 98).length + (lsX fr 64).length) ≤ 200 := by
  have a := keys_few (T := tgs fr) (hs := [0, 1, 2, 3]) (by decide)
  have b := keys_few (T := fgs fr) (hs := [1, 2, 3]) (by decide)
  have la : (tgs fr).length ≤ _ := fm_len (f := tgt) (fun s h => if_pos h) fr
  have lb : (fgs fr).length ≤ _ := fm_len (f := ftg) (fun s h => if_pos h) fr
  have sp : (fr.filter fun x => decide (x.1 = 0)).length + (fr.filter fun x => decide (¬ x.1 = 0)).length = fr.length := by
    have : ∀ l : List T3, (l.filter fun x => decide (x.1 = 0)).length + (l.filter fun x => decide (¬ x.1 = 0)).length = l.length := by
      intro l
      induction l with
      | nil => rfl
      | cons x l ih =>
        rw [List.filter_cons, List.filter_cons]
        by_cases z : x.1 = 0
        · rw [if_pos (by simp [z]), if_neg (by simp [z]), List.length_cons, List.length_cons]
          omega
        · rw [if_neg (by simp [z]), if_pos (by simp [z]), List.length_cons, List.length_cons]
          omega
    exact this fr
  have n9 := S.n9
  have n7 := S.n7
  rw [lsX_len, lsX_len, lsX_len]
  have u := fun x => cut_le (tgs fr) x [0, 1, 2, 3]
  have v := fun x => cut_le (fgs fr) x [1, 2, 3]
  have u1 := u 97
  have u2 := u 98
  have u3 := u 64
  have v1 := v 97
  have v2 := v 98
  have v3 := v 64
  simp only [List.length_cons, List.length_nil] at u1 u2 u3 v1 v2 v3
  clear u v
  generalize (fr.filter fun x => decide (¬ x.1 = 0)).length = n1 at la lb sp n7
  rcases Nat.lt_or_ge n1 7 with c | c
  · have := pow_of pow6 (by omega) (by omega) (by omega) (by omega) (by omega) (by omega) (show (cut (tgs fr) 97 [0, 1, 2, 3]).length + (cut (tgs fr) 98 [0, 1, 2, 3]).length + (cut (tgs fr) 64 [0, 1, 2, 3]).length ≤ 6 by omega) (show (cut (fgs fr) 97 [1, 2, 3]).length + (cut (fgs fr) 98 [1, 2, 3]).length + (cut (fgs fr) 64 [1, 2, 3]).length ≤ 6 by omega)
    have s9 : 1 + 2 * (fr.filter fun x => decide (x.1 = 0)).length ≤ 19 := by omega
    omega
  · have := pow_of pow7 (by omega) (by omega) (by omega) (by omega) (by omega) (by omega) (show (cut (tgs fr) 97 [0, 1, 2, 3]).length + (cut (tgs fr) 98 [0, 1, 2, 3]).length + (cut (tgs fr) 64 [0, 1, 2, 3]).length ≤ 7 by omega) (show (cut (fgs fr) 97 [1, 2, 3]).length + (cut (fgs fr) 98 [1, 2, 3]).length + (cut (fgs fr) 64 [1, 2, 3]).length ≤ 7 by omega)
    omega
end K10

set_option Elab.async false
set_option linter.all false
set_option maxRecDepth 100000
set_option maxHeartbeats 4000000
/-! The kinds of sets of places of a small framing. -/
namespace K10
open PySem L2 L2.EV
/-- the places, as pairs -/
def ijs (fr : List T3) : List (Nat × Nat) := (List.range fr.length).flatMap fun i => (List.range (pln fr i)).map fun j => (i, j)
theorem ijs_mem {fr : List T3} {p : Nat × Nat} : p ∈ ijs fr ↔ p.1 < fr.length ∧ p.2 < pln fr p.1 := by
  unfold ijs
  rw [List.mem_flatMap]
  constructor
  · rintro ⟨i, hi, h⟩
    obtain ⟨j, hj, rfl⟩ := List.mem_map.mp h
    exact ⟨List.mem_range.mp hi, List.mem_range.mp hj⟩
  · rintro ⟨h1, h2⟩
    exact ⟨p.1, List.mem_range.mpr h1, List.mem_map.mpr ⟨p.2, List.mem_range.mpr h2, rfl⟩⟩
abbrev Cl : Type := List Bool × Bool
/-- the kind of a set: its places but those ahead of an end, and whether it is good -/
def clS (fr : List T3) (S : Nat) : Cl := ((ijs fr).map fun p => !decide (chr fr p.1 p.2 = 59) && S.testBit (off fr p.1 + p.2), decide (S &&& endF (esF fr) = 0))
def bt0 (fr : List T3) (x : Nat) (A D : List Int) (p : Nat × Nat) : Bool := if p.2 = 0 then decide ((stq fr p.1).1 ∈ A) else if p.2 = 1 then decide ((stq fr p.1).1 ∈ D) && decide (chr fr p.1 0 = x) else false
def gnS (fr : List T3) (x : Nat) (g : Gn) : Cl := ((ijs fr).map fun p => !decide (chr fr p.1 p.2 = 59) && bt0 fr x g.1 g.2.1 p, !(((ijs fr).any fun p => decide (chr fr p.1 p.2 = 59) && decide (p.2 = 0) && decide ((stq fr p.1).1 ∈ g.1)) || g.2.2))
/-- words at which a step that begins a line may stand -/
def prW (fr : List T3) : List (List Nat) := [] :: ((List.range fr.length).filter fun n => decide ((stq fr n).1 = 0)).flatMap fun n => [(pcs fr n).take 1, (pcs fr n).take 2]
def wS (fr : List T3) (w : List Nat) : Nat := rnF (esF fr) (f0F fr) w
def clL (fr : List T3) : List Cl := (prW fr).map (fun w => clS fr (wS fr w)) ++ ((lsX fr 97).map (gnS fr 97) ++ (lsX fr 98).map (gnS fr 98) ++ (lsX fr 64).map (gnS fr 64))
theorem filt_idx (fr : List T3) : ((List.range fr.length).filter fun n => decide ((stq fr n).1 = 0)).length = (fr.filter fun x => decide (x.1 = 0)).length := by
  have e : fr = (List.range fr.length).map (stq fr) := by
    apply List.ext_getElem?
    intro i
    rw [List.getElem?_map]
    by_cases h : i < fr.length
    · rw [List.getElem?_range h, List.getElem?_eq_getElem h]
      exact congrArg some (stq_at (List.getElem?_eq_getElem h)).symm
    · rw [List.getElem?_eq_none (by omega), List.getElem?_eq_none (by rw [List.length_range]; omega)]
      rfl
  have : (fr.filter fun x => decide (x.1 = 0)).length = (((List.range fr.length).map (stq fr)).filter fun x => decide (x.1 = 0)).length := by rw [← e]
  rw [this, List.filter_map, List.length_map]
  rfl
theorem clL_len {fr : List T3} (S : Sml fr) : (clL fr).length ≤ 200 := by
  have a := all_few S
  have e : (prW fr).length = 1 + 2 * (fr.filter fun x => decide (x.1 = 0)).length := by
    unfold prW
    rw [List.length_cons, ← filt_idx]
    generalize (List.range fr.length).filter (fun n => decide ((stq fr n).1 = 0)) = l
    have : ∀ l : List Nat, (l.flatMap fun n => [(pcs fr n).take 1, (pcs fr n).take 2]).length = 2 * l.length := by
      intro l
      induction l with
      | nil => rfl
      | cons x l ih =>
        rw [List.flatMap_cons, List.length_append, ih, List.length_cons]
        simp
        omega
    rw [this]
    omega
  unfold clL
  simp only [List.length_append, List.length_map]
  omega
section
variable {fr : List T3} {last : Nat} (fm : Frm fr last) (S : Sml fr)
include fm
theorem rch_k0 {b : List Nat} {k : Nat} {h : Int} (r : Rch fr b k h) (e : h = 0) : k = 0 := by
  cases r with
  | z => rfl
  | @go k n r hn _ g => exact absurd e g
theorem drop_take {bs : List Nat} {k a : Nat} (h : k + a = bs.length) : ((bs ++ [59]).drop k).take a = bs.drop k := by
  rw [List.drop_append, List.take_append, List.take_of_length_le (by rw [List.length_drop]; omega)]
  rw [List.length_drop, show a - (bs.length - k) = 0 by omega, List.take_zero, List.append_nil]
/-- the places of a word -/
theorem pl_word {bs : List Nat} (h59 : ∀ c ∈ bs, c ≠ 59) {n a : Nat} (hn : n < fr.length) (ha : a < pln fr n) :
    (wS fr bs).testBit (off fr n + a) = true ↔ ∃ k, k + a = bs.length ∧ Rch fr (bs ++ [59]) k (stq fr n).1 ∧ bs.drop k = (pcs fr n).take a := by
  have key := pl_is fm (b := bs ++ [59]) rfl h59 bs.length (Nat.le_refl _) n a hn ha
  rw [List.take_length] at key
  unfold wS
  rw [key]
  constructor
  · rintro ⟨k, h1, h2, h3⟩
    rw [drop_take fm h1] at h3
    exact ⟨k, h1, h2, h3⟩
  · rintro ⟨k, h1, h2, h3⟩
    exact ⟨k, h1, h2, by rw [drop_take fm h1]; exact h3⟩
include S
theorem stq_mem {n : Nat} (hn : n < fr.length) : stq fr n ∈ fr := by
  rw [stq_at (List.getElem?_eq_getElem hn)]
  exact List.getElem_mem hn
theorem pln_le {n : Nat} (hn : n < fr.length) : pln fr n ≤ if (stq fr n).2.2 = 0 then 3 else 2 := by
  have := S.ln _ (stq_mem fm S hn)
  unfold pln
  rw [len_sl]
  exact this
theorem g123 {n : Nat} (hn : n < fr.length) : 0 ≤ (stq fr n).1 ∧ (stq fr n).1 ≤ 3 ∧ 0 ≤ (stq fr n).2.2 ∧ (stq fr n).2.2 ≤ 3 := by
  have a := S.st _ (stq_mem fm S hn)
  have b := fm.stp _ (stq_mem fm S hn)
  exact ⟨b.1, a.1, b.2.2.2.1, a.2⟩
theorem m123 {g : Int} (h0 : ¬ g = 0) (a : 0 ≤ g) (b : g ≤ 3) : g ∈ ([1, 2, 3] : List Int) := by
  have : g = 1 ∨ g = 2 ∨ g = 3 := by omega
  rcases this with h | h | h <;> simp [h]
theorem prW_mem {bs : List Nat} {n a : Nat} (hn : n < fr.length) (h0 : (stq fr n).1 = 0) (ha : a = 1 ∨ a = 2) (e : bs = (pcs fr n).take a) : bs ∈ prW fr := by
  unfold prW
  refine List.mem_cons_of_mem _ (List.mem_flatMap.mpr ⟨n, List.mem_filter.mpr ⟨List.mem_range.mpr hn, decide_eq_true h0⟩, ?_⟩)
  rcases ha with rfl | rfl
  · rw [e]
    exact List.mem_cons_self ..
  · rw [e]
    exact List.mem_cons_of_mem _ (List.mem_cons_self ..)
/-- where no step that begins a line stands, what stands behind a letter is one of few -/
theorem cl_word {bs : List Nat} {x : Nat} (h59 : ∀ c ∈ bs, c ≠ 59) (hx : bs.getLast? = some x) (np : ¬ bs ∈ prW fr) : ∃ g ∈ lsX fr x, clS fr (wS fr bs) = gnS fr x g := by
  have pos : 0 < bs.length := by
    cases bs with
    | nil => cases hx
    | cons => exact Nat.succ_pos _
  have lastD : ∀ {k : Nat}, k < bs.length → (bs.drop k).getLast? = some x := fun {k} hk => by
    rw [List.getLast?_drop, if_neg (by omega)]
    exact hx
  -- a place has no step that begins a line
  have no0 : ∀ {n a : Nat}, n < fr.length → a < pln fr n → (wS fr bs).testBit (off fr n + a) = true → ¬ (stq fr n).1 = 0 := fun {n a} hn ha h z => by
    obtain ⟨k, h1, h2, h3⟩ := (pl_word fm h59 hn ha).mp h
    have k0 := rch_k0 fm h2 z
    subst k0
    have pl := pln_le fm S hn
    rw [List.drop_zero] at h3
    have l3 : a ≤ 2 := by
      split at pl <;> omega
    exact np (prW_mem fm S hn z (by omega) h3)
  -- standings that are come to
  have tg : ∀ {h : Int}, Rch fr (bs ++ [59]) bs.length h → (x, h) ∈ tgs fr ∧ h ∈ ([1, 2, 3] : List Int) := fun {h} r => by
    generalize eL : bs.length = L at r
    cases r with
    | z => omega
    | @go k n r hn em g0 =>
      have em2 : bs.drop k = pcs fr n := by
        have := drop_take fm (bs := bs) (k := k) (a := pln fr n) (by omega)
        rw [← this, em]
      have pp := pln_pos fm hn
      have gg := g123 fm S hn
      have s0 : ¬ (stq fr n).1 = 0 := fun z => by
        have k0 := rch_k0 fm r z
        subst k0
        rw [List.drop_zero] at em2
        have pl := pln_le fm S hn
        rw [if_neg g0] at pl
        exact np (prW_mem fm S hn z (show pln fr n = 1 ∨ pln fr n = 2 by omega) (by rw [em2, List.take_of_length_le (by rw [pcs_len]; exact Nat.le_refl _)]))
      refine ⟨List.mem_filterMap.mpr ⟨stq fr n, stq_mem fm S hn, ?_⟩, m123 fm S g0 gg.2.2.1 gg.2.2.2⟩
      unfold tgt
      rw [if_neg s0, if_neg g0]
      show (pcs fr n).getLast?.map _ = _
      rw [← em2, lastD (by omega)]
      rfl
  let pA : Int → Bool := fun h => @decide (Rch fr (bs ++ [59]) bs.length h) (Classical.propDecidable _)
  let pD : Int → Bool := fun h => @decide (Rch fr (bs ++ [59]) (bs.length - 1) h) (Classical.propDecidable _)
  let E : Bool := @decide (∃ n a, n < fr.length ∧ a < pln fr n ∧ 0 < a ∧ chr fr n a = 59 ∧ (wS fr bs).testBit (off fr n + a) = true) (Classical.propDecidable _)
  have hE : E = true ↔ ∃ n a, n < fr.length ∧ a < pln fr n ∧ 0 < a ∧ chr fr n a = 59 ∧ (wS fr bs).testBit (off fr n + a) = true := @decide_eq_true_iff _ (Classical.propDecidable _)
  have hA : ∀ h, pA h = true ↔ Rch fr (bs ++ [59]) bs.length h := fun h => @decide_eq_true_iff _ (Classical.propDecidable _)
  have hD : ∀ h, pD h = true ↔ Rch fr (bs ++ [59]) (bs.length - 1) h := fun h => @decide_eq_true_iff _ (Classical.propDecidable _)
  generalize E = e at hE
  have mA : ∀ h, h ∈ (cut (tgs fr) x [1, 2, 3]).filter pA ↔ Rch fr (bs ++ [59]) bs.length h := fun h => by
    rw [List.mem_filter, hA]
    unfold cut
    rw [List.mem_filter, decide_eq_true_iff]
    exact ⟨fun z => z.2, fun z => ⟨⟨(tg z).2, (tg z).1⟩, z⟩⟩
  have e0 : e = true → (x, (0 : Int)) ∈ tgs fr := fun z => by
    obtain ⟨n, a, hn, ha, a0, hc, ht⟩ := hE.mp z
    have s0 := no0 hn ha ht
    obtain ⟨k, h1, h2, h3⟩ := (pl_word fm h59 hn ha).mp ht
    obtain ⟨g0, ej⟩ := (end_59 fm hn ha).mp hc
    refine List.mem_filterMap.mpr ⟨stq fr n, stq_mem fm S hn, ?_⟩
    unfold tgt
    rw [if_neg s0, if_pos g0]
    show ((pcs fr n).dropLast.getLast?).map _ = _
    have ed : (pcs fr n).dropLast = bs.drop k := by
      rw [h3, List.dropLast_eq_take, pcs_len, show pln fr n - 1 = a by omega]
    rw [ed, lastD (by omega)]
    rfl
  refine ⟨((cut (tgs fr) x [1, 2, 3]).filter pA, (cut (fgs fr) x [1, 2, 3]).filter pD, e), ?_, ?_⟩
  · unfold lsX
    refine List.mem_flatMap.mpr ⟨_, subs_filter pA _, List.mem_flatMap.mpr ⟨_, subs_filter pD _, ?_⟩⟩
    by_cases z : (x, (0 : Int)) ∈ tgs fr
    · rw [if_pos z]
      cases e
      · exact List.mem_cons_self ..
      · exact List.mem_cons_of_mem _ (List.mem_cons_self ..)
    · rw [if_neg z]
      cases e
      · exact List.mem_cons_self ..
      · exact absurd (e0 rfl) z
  · refine Prod.ext ?_ ?_
    · refine List.map_congr_left fun p hp => ?_
      obtain ⟨hn, ha⟩ := ijs_mem.mp hp
      by_cases c : chr fr p.1 p.2 = 59
      · simp [c]
      · rw [decide_eq_false c]
        show (true && _) = (true && _)
        rw [Bool.true_and, Bool.true_and]
        refine Bool.eq_iff_iff.mpr ?_
        rw [pl_word fm h59 hn ha]
        unfold bt0
        by_cases a0 : p.2 = 0
        · rw [if_pos a0, decide_eq_true_iff, mA, a0]
          constructor
          · rintro ⟨k, h1, h2, _⟩
            rw [← h1]
            exact h2
          · intro h
            exact ⟨_, rfl, h, by rw [List.drop_length, List.take_zero]⟩
        · rw [if_neg a0]
          by_cases a1 : p.2 = 1
          · rw [if_pos a1, Bool.and_eq_true, decide_eq_true_iff, decide_eq_true_iff, List.mem_filter, hD]
            have d1 : bs.drop (bs.length - 1) = [x] := by
              have := List.getLast?_eq_some_iff.mp hx
              obtain ⟨ys, rfl⟩ := this
              rw [List.length_append, List.length_singleton, Nat.add_sub_cancel, List.drop_left]
            have t1 : (pcs fr p.1).take 1 = [chr fr p.1 0] := by
              have := pcs_at (fr := fr) (n := p.1) (j := 0) (by omega)
              cases hp2 : pcs fr p.1 with
              | nil => rw [hp2] at this; cases this
              | cons y l =>
                rw [hp2] at this
                rw [← Option.some.inj this]
                rfl
            constructor
            · rintro ⟨k, h1, h2, h3⟩
              have ek : k = bs.length - 1 := by omega
              subst ek
              rw [a1, d1, t1] at h3
              have ex : x = chr fr p.1 0 := (List.cons.inj h3).1
              refine ⟨⟨?_, h2⟩, ex.symm⟩
              have s0 : ¬ (stq fr p.1).1 = 0 := no0 hn ha ((pl_word fm h59 hn ha).mpr ⟨_, h1, h2, by rw [a1, d1, t1]; exact h3⟩)
              have gg := g123 fm S hn
              unfold cut
              refine List.mem_filter.mpr ⟨m123 fm S s0 gg.1 gg.2.1, decide_eq_true (List.mem_filterMap.mpr ⟨stq fr p.1, stq_mem fm S hn, ?_⟩)⟩
              unfold ftg
              rw [if_neg s0, if_pos (by show 2 ≤ (pcs fr p.1).length; rw [pcs_len]; omega)]
              show ((pcs fr p.1)[0]?).map _ = _
              rw [pcs_at (by omega), ← ex]
              rfl
            · rintro ⟨⟨_, h2⟩, ex⟩
              exact ⟨_, by omega, h2, by rw [a1, d1, t1, ex]⟩
          · rw [if_neg a1]
            exfalso
            have pl := pln_le fm S hn
            have z : (stq fr p.1).2.2 = 0 := Classical.byContradiction fun z => by
              rw [if_neg z] at pl
              omega
            rw [if_pos z] at pl
            exact c ((end_59 fm hn ha).mpr ⟨z, by omega⟩)
    · show decide (wS fr bs &&& endF (esF fr) = 0) = !(_ || e)
      have key : (¬ wS fr bs &&& endF (esF fr) = 0) ↔ (((ijs fr).any fun p => decide (chr fr p.1 p.2 = 59) && decide (p.2 = 0) && decide ((stq fr p.1).1 ∈ (cut (tgs fr) x [1, 2, 3]).filter pA)) || e) = true := by
        rw [and_some, Bool.or_eq_true, hE, List.any_eq_true]
        constructor
        · rintro ⟨y, h1, h2⟩
          obtain ⟨i, j, hi, hj, c, rfl⟩ := end_bit.mp h2
          by_cases j0 : j = 0
          · subst j0
            obtain ⟨k, k1, k2, _⟩ := (pl_word fm h59 hi hj).mp h1
            refine .inl ⟨(i, 0), ijs_mem.mpr ⟨hi, hj⟩, ?_⟩
            simp only [Bool.and_eq_true, decide_eq_true_iff]
            refine ⟨⟨c, trivial⟩, ?_⟩
            rw [mA, ← k1]
            exact k2
          · exact .inr ⟨i, j, hi, hj, by omega, c, h1⟩
        · rintro (⟨p, hp, h⟩ | ⟨n, a, hn, ha, _, c, h⟩)
          · simp only [Bool.and_eq_true, decide_eq_true_iff] at h
            obtain ⟨⟨c, p0⟩, h⟩ := h
            obtain ⟨hn, ha⟩ := ijs_mem.mp hp
            rw [mA] at h
            exact ⟨off fr p.1 + p.2, (pl_word fm h59 hn ha).mpr ⟨_, by omega, h, by rw [p0, List.take_zero, List.drop_length]⟩, end_bit.mpr ⟨p.1, p.2, hn, ha, c, rfl⟩⟩
          · exact ⟨_, h, end_bit.mpr ⟨n, a, hn, ha, c, rfl⟩⟩
      generalize (((ijs fr).any fun p => decide (chr fr p.1 p.2 = 59) && decide (p.2 = 0) && decide ((stq fr p.1).1 ∈ (cut (tgs fr) x [1, 2, 3]).filter pA)) || e) = r at key
      cases r
      · exact decide_eq_true (Classical.byContradiction fun z => by cases key.mp z)
      · exact decide_eq_false (key.mpr rfl)
end
end K10

set_option Elab.async false
set_option linter.all false
set_option maxRecDepth 100000
set_option maxHeartbeats 4000000
/-! What the rules lead to. -/
namespace K10
open PySem L2 L2.EV
/-- the rules, told by the last samples -/
theorem rulesK_mem {F : Nat → Nat} {rows : List (List (Nat × Nat))} {x : R3} : ∀ {k : Nat}, x ∈ rulesK F rows k ↔ ∃ j y, j < k ∧ y ∈ rows.getD (sk F rows j) [] ∧ x = (j, y.1, ((smp F rows (j + 1)).map F).idxOf (F y.2))
  | 0 => ⟨fun h => (by cases h), fun ⟨_, _, h, _⟩ => absurd h (by omega)⟩
  | k + 1 => by
    show x ∈ rulesK F rows k ++ rl1 F (smp F rows (k + 1)) k (rows.getD (sk F rows k) []) ↔ _
    rw [List.mem_append, rulesK_mem]
    unfold rl1
    constructor
    · rintro (⟨j, y, h1, h2, h3⟩ | h)
      · exact ⟨j, y, by omega, h2, h3⟩
      · obtain ⟨y, hy, rfl⟩ := List.mem_map.mp h
        exact ⟨k, y, by omega, hy, rfl⟩
    · rintro ⟨j, y, h1, h2, rfl⟩
      rcases Nat.lt_or_ge j k with c | c
      · exact .inl ⟨j, y, c, h2, rfl⟩
      · have : j = k := by omega
        subst this
        exact .inr (List.mem_map.mpr ⟨y, h2, rfl⟩)
theorem takenK_mem {F : Nat → Nat} {rows : List (List (Nat × Nat))} {gs : List Bool} {j : Nat} : ∀ {k : Nat}, j ∈ takenK F rows gs k ↔ j < k ∧ gs.getD (sk F rows j) false = true
  | 0 => ⟨fun h => (by cases h), fun ⟨h, _⟩ => absurd h (by omega)⟩
  | k + 1 => by
    show j ∈ takenK F rows gs k ++ (if gs.getD (sk F rows k) false = true then [k] else []) ↔ _
    rw [List.mem_append, takenK_mem]
    constructor
    · rintro (⟨h1, h2⟩ | h)
      · exact ⟨by omega, h2⟩
      · by_cases g : gs.getD (sk F rows k) false = true
        · rw [if_pos g] at h
          rw [List.mem_singleton.mp h]
          exact ⟨by omega, g⟩
        · rw [if_neg g] at h
          cases h
    · rintro ⟨h1, h2⟩
      rcases Nat.lt_or_ge j k with c | c
      · exact .inl ⟨c, h2⟩
      · have : j = k := by omega
        subst this
        rw [if_pos h2]
        exact .inr (List.mem_singleton.mpr rfl)
/-- a sample stays where it is -/
theorem sk_at {F : Nat → Nat} {rows : List (List (Nat × Nat))} {N j : Nat} (h : (smp F rows N).length = N) (hj : j < N) : (smp F rows N)[j]? = some (sk F rows j) := by
  have jl : j < (smp F rows j).length := by
    rcases Nat.lt_or_ge j (smp F rows j).length with z | z
    · exact z
    · obtain ⟨d, e⟩ := Nat.exists_eq_add_of_le (Nat.le_of_lt hj)
      have st := smp_stay z d
      rw [← e] at st
      rw [st] at h
      omega
  obtain ⟨d, e⟩ := Nat.exists_eq_add_of_le (Nat.le_of_lt hj)
  obtain ⟨t, ht⟩ := smp_mono F rows j d
  rw [← e] at ht
  rw [← ht, List.getElem?_append_left jl]
  unfold sk
  rw [List.getD_eq_getElem?_getD, List.getElem?_eq_getElem jl]
  rfl
/-- the goal of a rule, by the last samples -/
theorem goal_last {F : Nat → Nat} {rows : List (List (Nat × Nat))} {N j : Nat} {y : Nat × Nat} (h : (smp F rows N).length = N) (hj : j < N) (hy : y ∈ rows.getD (sk F rows j) []) :
    ((smp F rows (j + 1)).map F).idxOf (F y.2) = ((smp F rows N).map F).idxOf (F y.2) ∧ F y.2 ∈ (smp F rows N).map F := by
  have jl : j < (smp F rows j).length := by
    rcases Nat.lt_or_ge j (smp F rows j).length with z | z
    · exact z
    · obtain ⟨d, e⟩ := Nat.exists_eq_add_of_le (Nat.le_of_lt hj)
      have st := smp_stay z d
      rw [← e] at st
      rw [st] at h
      omega
  have ex : (smp F rows j)[j]? = some (sk F rows j) := by
    unfold sk
    rw [List.getD_eq_getElem?_getD, List.getElem?_eq_getElem jl]
    rfl
  have m : F y.2 ∈ (smp F rows (j + 1)).map F := by
    rw [smp_step ex]
    exact foldS_in F _ _ y hy
  obtain ⟨d, e⟩ := Nat.exists_eq_add_of_le (show j + 1 ≤ N by omega)
  obtain ⟨t, ht⟩ := smp_mono F rows (j + 1) d
  rw [← e] at ht
  rw [← ht, List.map_append, List.idxOf_append, if_pos m]
  exact ⟨rfl, List.mem_append_left _ m⟩
/-- the sample with a number has the kind -/
theorem kind_at {F : Nat → Nat} {rows : List (List (Nat × Nat))} {N k : Nat} (h : k ∈ (smp F rows N).map F) (hN : (smp F rows N).length = N) : ((smp F rows N).map F).idxOf k < N ∧ F (sk F rows (((smp F rows N).map F).idxOf k)) = k := by
  have il := List.idxOf_lt_length_of_mem h
  have lt : ((smp F rows N).map F).idxOf k < N := by rw [List.length_map, hN] at il; exact il
  refine ⟨lt, ?_⟩
  have e : ((smp F rows N).map F)[((smp F rows N).map F).idxOf k]? = some k := by rw [List.getElem?_eq_getElem il, List.getElem_idxOf]
  rw [List.getElem?_map, sk_at hN lt] at e
  exact Option.some.inj e
end K10

set_option Elab.async false
set_option linter.all false
set_option maxRecDepth 100000
set_option maxHeartbeats 4000000
/-! The nine classes: their __init__, message. -/
namespace K10
open PySem L2 L2.EV
/-! ### the arguments -/
mutual
theorem dp_same {K : PySem.W.Frag} {H H' : Hp} (s : Same H H') : ∀ (d : PyData) (v : V), Dp K H v d → Dp K H' v d
  | .none, _, h => by cases h; exact .non
  | .bool b, _, h => by cases h; exact .bl b
  | .int i, _, h => by cases h; exact .int i
  | .str x, _, h => by cases h; exact .str x
  | .list ds, _, h => by
    cases h with
    | lst hs ha => exact .lst (s.seq hs) (dpall_same s ds _ ha)
  | .tuple ds, _, h => by
    cases h with
    | tup hs ha =>
      refine .tup ?_ (dpall_same s ds _ ha)
      rcases hs with (q | ⟨o, q⟩) | q
      · exact .inl (.inl (s _ _ q))
      · exact .inl (.inr ⟨o, s _ _ q⟩)
      · exact .inr q
  | .dict _, _, h => by cases h
theorem dpall_same {K : PySem.W.Frag} {H H' : Hp} (s : Same H H') : ∀ (ds : List PyData) (vs : List V), DpAll K H vs ds → DpAll K H' vs ds
  | [], _, h => by cases h; exact .nil
  | d :: ds, _, h => by
    cases h with
    | cons h1 h2 => exact .cons (dp_same s d _ h1) (dpall_same s ds _ h2)
end
/-- what may be handed to an error, and the data that it is -/
inductive Arg (K : PySem.W.Frag) (H : Hp) : V → PyData → Prop
  | non : Arg K H .non .none
  | bl (b : Bool) : Arg K H (.bl b) (.bool b)
  | int (i : Int) : Arg K H (.int i) (.int i)
  | str (x : Str) : Arg K H (.str x) (.str x)
  | lst {a : Addr} {xs : List V} {ds : List PyData} : H a = some (.lst xs) → DpAll K H xs ds → PyData.hasDict (.list ds) = false → Arg K H (.ref a) (.list ds)
  | tup {a : Addr} {xs : List V} {ds : List PyData} : H a = some (.tup xs) → DpAll K H xs ds → PyData.hasDict (.tuple ds) = false → Arg K H (.ref a) (.tuple ds)
  | dct {a : Addr} : H a = some (.dK [(Sum.inr "a", V.int 1)]) → Arg K H (.ref a) (.dict [(.str "a", .int 1)])
theorem Arg.same {K : PySem.W.Frag} {H H' : Hp} {v : V} {d : PyData} (h : Arg K H v d) (s : Same H H') : Arg K H' v d := by
  cases h with
  | non => exact .non
  | bl b => exact .bl b
  | int i => exact .int i
  | str x => exact .str x
  | lst e ha no => exact .lst (s _ _ e) (dpall_same s _ _ ha) no
  | tup e ha no => exact .tup (s _ _ e) (dpall_same s _ _ ha) no
  | dct e => exact .dct (s _ _ e)
theorem Arg.ty {K : PySem.W.Frag} {H : Hp} {v : V} {d : PyData} (h : Arg K H v d) : ∃ (t : Value) (b : Bool), TyX K H v t ∧ PySem.W.kitOne K t (.type "str") = some b := by
  cases h with
  | non => exact ⟨_, _, .base .non, kit_ty (r := false) (by decide +kernel)⟩
  | bl b => exact ⟨_, _, .base (.bl b), kit_ty (r := false) (by decide +kernel)⟩
  | int i => exact ⟨_, _, .base (.int i), kit_ty (r := false) (by decide +kernel)⟩
  | str x => exact ⟨_, _, .base (.str x), kit_ty (r := true) (by decide +kernel)⟩
  | lst e _ _ => exact ⟨_, _, .base (.lst e), kit_ty (r := false) (by decide +kernel)⟩
  | tup e _ _ => exact ⟨_, _, .base (.tup e), kit_ty (r := false) (by decide +kernel)⟩
  | dct e => exact ⟨_, _, .base (.dK e), kit_ty (r := false) (by decide +kernel)⟩
theorem Arg.sh {K : PySem.W.Frag} {H : Hp} {v : V} {d : PyData} (h : Arg K H v d) : Sh K H v d := by
  cases h with
  | non => exact .plain .non rfl
  | bl b => exact .plain (.bl b) rfl
  | int i => exact .plain (.int i) rfl
  | str x => exact .plain (.str x) rfl
  | lst e ha no => exact .plain (.lst (SqL.of e) ha) no
  | tup e ha no => exact .plain (.tup (SqT.of e) ha) no
  | dct e => exact .one e
/-! ### promises -/
def spNo (K : PySem.W.Frag) (C : Addr) : Sp := fun vs H Q _ => ∃ (a : Addr) (x : V) (d : PyData), vs = [.ref a, x] ∧ H a = some (exo a C none) ∧ Arg K H x d ∧ Q .non H
def spMsg (K : PySem.W.Frag) : Sp := fun vs H Q _ => ∃ (x : V) (d : PyData), vs = [x] ∧ Arg K H x d ∧ ∀ v, Q v H
abbrev sMsg : Stmt := top 1
structure TxtM (mg : Str → Option Value) : Prop where
  isi : mg "isinstance" = none
  str : mg "str" = none
section
variable {P : Program} {w : World} {K : PySem.W.Frag} {mg : Str → Option Value} {base : Heap}
theorem scM : FnScope ["text"] ["text"] (defScope sMsg) := ⟨rfl, rfl, rfl, by decide +kernel, rfl, by decide +kernel, by decide +kernel⟩
theorem ok_msg {f : Addr} {fd : FuncData} (F : Fun K "message" "message" sMsg f fd) (T : TxtM mg) : FnOk P w K mg base CX0 1 f fd ["text"] (spMsg K) := by
  refine F.ok scM (fun vs H Q E h => ?_) (fun cdv A outer s H vs Q E hr h => ?_)
  · obtain ⟨x, d, rfl, _⟩ := h
    rfl
  · obtain ⟨x, d, rfl, ar, q⟩ := h
    refine ⟨_, pss_cons (ps_if (pt_val (pe_callB call_isi (by rfl) T.isi PyProof.Rows.boot_isinstance (pa_cons (pv 0) (pa_cons (pe_bltn (v := .ty "str") (by rfl) T.str (by decide +kernel) rfl) pa_nil)))) (pss_one (ps_ret (pv 0))) pss_nil) (pss_one (ps_ret pe_str)), ?_⟩
    obtain ⟨t, b, ty, kt⟩ := ar.ty
    refine ⟨_, rfl, x, .ty "str", t, .type "str", b, rfl, .ty "str", ty, kt, b, rfl, ?_⟩
    cases b with
    | true => exact iteT ⟨_, rfl, q _⟩
    | false => exact iteF (q _)
abbrev sOutOfPlace : Stmt := inClass (top 4) 0
theorem scOutOfPlace : FnScope ["self", "text"] ["self", "text"] (defScope sOutOfPlace) := ⟨rfl, rfl, rfl, by decide +kernel, rfl, by decide +kernel, by decide +kernel⟩
theorem ok_OutOfPlace {f C fM : Addr} {fd fdM : FuncData} (F : Fun K "__init__" "OutOfPlace.__init__" sOutOfPlace f fd) (T : OxC K C "ValueError" "ValueError.__new__" "ValueError.__init__" [.type "ValueError", .type "Exception", .type "BaseException", .type "object"]) (I : BI K mg "ValueError" "ValueError" "ValueError.__init__")
    (FM : Fun K "message" "message" sMsg fM fdM) (bM : Binds K fdM ["text"] []) (mM : mg "message" = some (.ref fM)) (TM : TxtM mg) : FnOk P w K mg base CX0 2 f fd ["self", "text"] (spNo K C) := by
  have GM : FnOk P w K mg base CX0 1 fM fdM ["text"] (spMsg K) := ok_msg FM TM
  refine F.ok scOutOfPlace (fun vs H Q E h => ?_) (fun cdv A outer s H vs Q E hr h => ?_)
  · obtain ⟨a, x, d, rfl, _⟩ := h
    rfl
  · obtain ⟨a, x, d, rfl, e, ar, q⟩ := h
    refine ⟨_, pss_one (ps_expr (pe_bin (newId := "ValueError.__new__") (bm := [.type "ValueError", .type "Exception", .type "BaseException", .type "object"]) (by rfl) I.mg I.bt I.ty I.vV I.st (pa_cons (pv 0) (pa_cons (pe_call GM hr rfl mM FM.kp bM .nil pass0 (pa_cons (pv 1) pa_nil)) pa_nil)) rfl)), ?_⟩
    exact ⟨_, rfl, _, rfl, x, d, rfl, ar, fun v => ⟨a, C, _, rfl, by show 1 ≤ 1000; decide, T, e, q⟩⟩
end
/-- what is known of OutOfPlace -/
structure Oop (K : PySem.W.Frag) (mg : Str → Option Value) where
  C : Addr
  f : Addr
  d : FuncData
  fM : Addr
  dM : FuncData
  T : OxC K C "ValueError" "ValueError.__new__" "ValueError.__init__" bmVE
  I : BI K mg "ValueError" "ValueError" "ValueError.__init__"
  F : Fun K "__init__" "OutOfPlace.__init__" sOutOfPlace f d
  b : Binds K d ["self", "text"] []
  FM : Fun K "message" "message" sMsg fM dM
  bM : Binds K dM ["text"] []
  mM : mg "message" = some (.ref fM)
  TM : TxtM mg
  m : mg "OutOfPlace" = some (.ref C)
  iC : PySem.W.findIn K (.ref C) "__init__" = some (some (.ref f))
  tI : PySem.W.typeIn K (.ref f) = some (.type "function")
  su : PySem.W.subIn K (.ref C) (.type "BaseException") = some true
  ty : PySem.W.typeIn K (.ref C) = some (.type "type")
  own : PySem.W.subIn K (.ref C) (.ref C) = some true
end K10

set_option Elab.async false
set_option linter.all false
set_option maxRecDepth 100000
set_option maxHeartbeats 4000000
/-! need_line_text. -/
namespace K10
open PySem L2 L2.EV
abbrev sNLT : Stmt := top 36
def Eo (C : Addr) (E : XK) (H : Hp) : Prop := ∀ H', Same H H' → E (.ref C) none H'
theorem Eo.same {C : Addr} {E : XK} {H H' : Hp} (h : Eo C E H) (s : Same H H') : Eo C E H' := fun H2 s2 => h H2 (s.trans s2)
def mks : List Nat := sl ("ABCDEFGH" : Str)
theorem mks_is : mks = [65, 66, 67, 68, 69, 70, 71, 72] := by decide +kernel
def ltB (p : Str) : Bool := Txt.endswith p ";" && ((sl p).dropLast.all fun c => decide (c ∈ sgs) || decide (c ∈ mks))
theorem cut_last {p : Str} : sl (cutS p none (some (-1))) = (sl p).dropLast := by
  show ((p.cps.toList.drop (HT.sIx p.length 0 none)).take (HT.sIx p.length p.length (some (-1)) - HT.sIx p.length 0 none)).toArray.toList = _
  rw [HT.sIx_none, List.drop_zero, Nat.sub_zero, List.toList_toArray, List.dropLast_eq_take]
  congr 1
  have e : p.length = (sl p).length := len_sl p
  show (if (-1 : Int) < 0 then ((-1 : Int) + (p.length : Int)).toNat else min (-1 : Int).toNat p.length) = _
  have z : (if (-1 : Int) < 0 then ((-1 : Int) + (p.length : Int)).toNat else min (-1 : Int).toNat p.length) = ((-1 : Int) + (p.length : Int)).toNat := if_pos (by decide)
  rw [z]
  omega
/-- no text -/
def NoStr (H : Hp) (v : V) : Prop := v = .non ∨ (∃ i, v = .int i) ∨ ∃ a o, v = .ref a ∧ H a = some o ∧ ((∃ xs, o = .tup xs) ∨ (∃ xs, o = .lst xs) ∨ ∃ kvs, o = .dK kvs)
theorem NoStr.ty {K : PySem.W.Frag} {H : Hp} {v : V} (h : NoStr H v) : ∃ t : Value, TyX K H v t ∧ PySem.W.kitOne K t (.type "str") = some false := by
  rcases h with rfl | ⟨i, rfl⟩ | ⟨a, o, rfl, e, ⟨xs, rfl⟩ | ⟨xs, rfl⟩ | ⟨kvs, rfl⟩⟩
  · exact ⟨_, .base .non, kit_ty (r := false) (by decide +kernel)⟩
  · exact ⟨_, .base (.int i), kit_ty (r := false) (by decide +kernel)⟩
  · exact ⟨_, .base (.tup e), kit_ty (r := false) (by decide +kernel)⟩
  · exact ⟨_, .base (.lst e), kit_ty (r := false) (by decide +kernel)⟩
  · exact ⟨_, .base (.dK e), kit_ty (r := false) (by decide +kernel)⟩
theorem NoStr.same {H H' : Hp} {v : V} (h : NoStr H v) (s : Same H H') : NoStr H' v := by
  rcases h with h | h | ⟨a, o, e, h, r⟩
  · exact .inl h
  · exact .inr (.inl h)
  · exact .inr (.inr ⟨a, o, e, s _ _ h, r⟩)
/-- what is handed in as a text -/
def TxI (H : Hp) (v : V) : Option Str → Prop
  | some p => v = .str p ∧ p.length ≤ 60000
  | none => NoStr H v
theorem TxI.same {H H' : Hp} {v : V} {o : Option Str} (h : TxI H v o) (s : Same H H') : TxI H' v o := by
  cases o with
  | none => exact NoStr.same h s
  | some p => exact h
def okO : Option Str → Bool
  | some p => ltB p
  | none => false
def spNLT (C : Addr) : Sp := fun vs H Q E => ∃ (v : V) (o : Option Str), vs = [v] ∧ TxI H v o ∧ (okO o = true → ∀ H', Same H H' → Q v H') ∧ (okO o = false → Eo C E H)
structure Tk (K : PySem.W.Frag) (mg : Str → Option Value) where
  R : Rs K mg
  O : Oop K mg
  marks : ∃ t, mg "MARKS" = some (.str "ABCDEFGH" t)
  f1 : Addr
  d1 : FuncData
  F1 : Fun K "need_line_text" "need_line_text" sNLT f1 d1
  b1 : Binds K d1 ["thing"] []
  m1 : mg "need_line_text" = some (.ref f1)
section
variable {P : Program} {w : World} {K : PySem.W.Frag} {mg : Str → Option Value} {base : Heap}
theorem scNLT : FnScope ["thing", "sign"] ["thing"] (defScope sNLT) := ⟨rfl, rfl, rfl, by decide +kernel, rfl, by decide +kernel, by decide +kernel⟩
theorem ok_nlt (Z : Tk K mg) : FnOk P w K mg base (L2.CX P w) 4 Z.f1 Z.d1 ["thing"] (spNLT Z.O.C) := by
  have T := Z.R.Z.T
  have GO : FnOk P w K mg base CX0 2 Z.O.f Z.O.d ["self", "text"] (spNo K Z.O.C) := ok_OutOfPlace Z.O.F Z.O.T Z.O.I Z.O.FM Z.O.bM Z.O.mM Z.O.TM
  refine Z.F1.okX scNLT (fun vs H Q E h => ?_) (fun cdv A outer s H vs Q E hr h => ?_)
  · obtain ⟨v, o, rfl, _⟩ := h
    rfl
  · obtain ⟨v, o, rfl, tx, qy, qn⟩ := h
    obtain ⟨ts, eS⟩ := T.signs
    obtain ⟨tm, eM⟩ := Z.marks
    refine ⟨_, pss_cons (ps_if (pw_or (pt_not (pt_val (pe_callB call_isi (by rfl) T.isi PyProof.Rows.boot_isinstance (pa_cons (pv 0) (pa_cons (pe_bltn (v := .ty "str") (by rfl) T.str (by decide +kernel) rfl) pa_nil)))))
          (pw_or1 (pt_not (pt_val (pe_m1 PySem.F.slot_str_endswith PySem.F.type_str_endswith mt_endswith (pv 0) pe_str))))).pt
        (pss_one (ps_raise rfl (takes_of rfl rfl rfl rfl) (pmk_own2 rfl (pe_new Z.O.T Z.O.iC Z.O.tI GO hr (kb_pos Z.O.b rfl) pass0 (by rfl) Z.O.m (pa_cons pe_str pa_nil))))) pss_nil)
      (pss_cons (ps_if (pt_not (pt_val (pe_callB (cr_all rfl) (by rfl) T.all (by decide +kernel) (pa_cons (pe_lc (own := [("sign", 1)]) (g := gName 1) rfl scNLT.nd (pi_str (pe_slice sl_str (pv 0) po_none (po_some (pe_un un_neg pe_int))))
            (blkOk_by (N := ["thing", "sign"]) (sc := defScope sNLT) (by decide +kernel))
            (fun _ _ _ _ _ => pg_name (i := 1) scNLT.nd rfl (Or.inl rfl)) (fun _ _ _ _ _ => pts_nil)
            (fun _ _ _ _ _ => pe_or (pe_cmpR op_in_sign (pv 1) (pe_glob (v := .str "abcdefghijklmnopqrstuvwxyz0123456789@") (by rfl) eS ⟨_, rfl⟩) (by rfl)) (pe_one (pe_cmpR op_in_sign (pv 1) (pe_glob (v := .str "ABCDEFGH") (by rfl) eM ⟨_, rfl⟩) (by rfl))))) pa_nil))))
        (pss_one (ps_raise rfl (takes_of rfl rfl rfl rfl) (pmk_own2 rfl (pe_new Z.O.T Z.O.iC Z.O.tI GO hr (kb_pos Z.O.b rfl) pass0 (by rfl) Z.O.m (pa_cons pe_str pa_nil))))) pss_nil)
      (pss_one (ps_ret (pv 0)))), ?_⟩
    have rs : ∀ {H1 : Hp}, Same H H1 → okO o = false → Eo Z.O.C E H1 := fun s1 e => (qn e).same s1
    cases o with
    | none =>
      obtain ⟨t, ty, kt⟩ := NoStr.ty (K := K) tx
      refine ⟨_, rfl, v, .ty "str", t, .type "str", false, rfl, .ty "str", ty, kt, false, rfl, iteT ?_⟩
      refine ⟨rfl, rfl, (by decide), fun a na => ⟨a, .str _, .str _, rfl, upd_same, .str _, rfl, a, Z.O.C, none, rfl, upd_same, fr0_none na, raises_own Z.O.su Z.O.ty, ?_⟩⟩
      rw [delH_new na]
      exact qn rfl H (Same.refl H)
    | some p =>
      obtain ⟨rfl, pl⟩ := tx
      have qy : ltB p = true → ∀ H', Same H H' → Q (.str p) H' := qy
      have qn : ltB p = false → Eo Z.O.C E H := qn
      refine ⟨_, rfl, .str p, .ty "str", .type "str", .type "str", true, rfl, .ty "str", .base (.str p), kit_ty (r := true) (by decide +kernel), true, rfl, iteF ?_⟩
      refine ⟨_, rfl, ⟨_, rfl⟩, p, ";", rfl, rfl, _, rfl, ?_⟩
      cases e1 : Txt.endswith p ";" with
      | false =>
        refine iteT ?_
        refine ⟨rfl, rfl, (by decide), fun a na => ⟨a, .str _, .str _, rfl, upd_same, .str _, rfl, a, Z.O.C, none, rfl, upd_same, fr0_none na, raises_own Z.O.su Z.O.ty, ?_⟩⟩
        rw [delH_new na]
        exact qn (by unfold ltB; rw [e1]; rfl) H (Same.refl H)
      | true =>
        refine iteF ?_
        have cs := cut_last (p := p)
        have cl : (cutS p none (some (-1))).length ≤ 60000 := Nat.le_trans (cutS_length ..) pl
        refine ⟨_, rfl, 1, rfl, -1, rfl, p, rfl, (by rw [sizeLine_eq]; omega), ?_⟩
        generalize cutS p none (some (-1)) = cu at cs cl ⊢
        refine ⟨_, rfl, fun D hD => ?_⟩
        refine lc_it walk_str (fun i H' => H' D = some (.lst ((((sl cu).take i).map fun c => decide (c ∈ sgs) || decide (c ∈ mks)).map V.bl)) ∧ Same H H') ⟨upd_same, same_upd hD⟩ (fun _ _ _ _ => trivial) ?_ ?_
        · rintro i x H2 H3 hi ⟨hD2, s2⟩ ⟨rfl, ch, hc, rfl⟩
          have hc' : (sl cu)[i]? = some ch := (Array.getElem?_toList ..).trans hc
          have il : i < (sl cu).length := (List.getElem?_eq_some_iff.mp hc').1
          have cl' : (sl cu).length ≤ 60000 := by rw [← len_sl]; exact cl
          have fin : ∀ b : Bool, b = (decide (ch ∈ sgs) || decide (ch ∈ mks)) → ∃ acc, H3 D = some (.lst acc) ∧ acc.length < sizeLine ∧ ((upd H3 D (.lst (acc ++ [V.bl b]))) D = some (.lst ((((sl cu).take (i + 1)).map fun c => decide (c ∈ sgs) || decide (c ∈ mks)).map V.bl)) ∧ Same H (upd H3 D (.lst (acc ++ [V.bl b])))) := fun b e => by
            refine ⟨_, hD2, ?_, ?_, same_set hD s2⟩
            · rw [List.length_map, List.length_map, List.length_take, sizeLine_eq]
              omega
            · rw [take_one' hc', List.map_append, List.map_append, e]
              exact upd_same
          refine ⟨rfl, _, rfl, ch, _, rfl, rfl, _, rfl, ?_⟩
          by_cases c : ch ∈ sgs
          · refine iteT' (decide_eq_true c) ?_
            exact fin true (by rw [decide_eq_true c]; rfl)
          · refine iteF' (decide_eq_false c) ?_
            refine ⟨_, rfl, ch, _, rfl, rfl, ?_⟩
            exact fin _ (by rw [decide_eq_false c]; rfl)
        · rintro H2 ⟨hD2, s2⟩
          have ln : cu.cps.size = (sl cu).length := len_sl cu
          rw [ln, List.take_length] at hD2
          refine ⟨D, _, rfl, SqL.of hD2, _, rfl, ?_⟩
          have ev : (((sl cu).map fun c => decide (c ∈ sgs) || decide (c ∈ mks)).all id) = ltB p := by
            unfold ltB
            rw [e1, cs, List.all_map]
            rfl
          rw [ev]
          cases e2 : ltB p with
          | false =>
            refine iteT ?_
            refine ⟨rfl, rfl, (by decide), fun a na => ⟨a, .str _, .str _, rfl, upd_same, .str _, rfl, a, Z.O.C, none, rfl, upd_same, fr0_none (same_none s2 na), raises_own Z.O.su Z.O.ty, ?_⟩⟩
            rw [delH_new na]
            exact qn e2 H2 s2
          | true =>
            refine iteF ?_
            exact ⟨_, rfl, qy e2 H2 s2⟩
end
end K10

set_option Elab.async false
set_option linter.all false
set_option maxRecDepth 100000
set_option maxHeartbeats 4000000
/-! takes. -/
namespace L2
open PySem PySem.Spec PyProof.Rows EV
/-- a promise of a def that may raise, where it doesn't -/
theorem fnOk0 {P : Program} {w : World} {K : PySem.W.Frag} {mg : Str → Option Value} {base : Heap} {k : Nat} {f : Addr} {fd : FuncData} {ps : List Str} {sp sp2 : Sp} (F : FnOk P w K mg base (L2.CX P w) k f fd ps sp) (h : ∀ vs H Q E, sp2 vs H Q E → sp vs H Q E0) : FnOk P w K mg base CX0 k f fd ps sp2 :=
  ⟨fun vs H Q E q => F.len vs H Q E0 (h _ _ _ _ q), fun A outer s H args us vs Q E hr he hb hv hs => codeAny_mono (F.run A outer s H args us vs Q E0 hr he hb hv (h _ _ _ _ hs)) fun r s' z => by
    cases r with
    | error e =>
      obtain ⟨_, _, _, _, _, _, _, _, _, _, _, _, bad⟩ := z
      exact bad
    | ok fl => cases fl <;> exact z⟩
end L2
namespace K10
open PySem L2 L2.EV
abbrev sTakes : Stmt := top 37
/-- a right reader -/
def RdD (d : PyData) : Prop := ffD d = none ∧ SzR d
theorem rd_ok {d : PyData} (h : RdD d) : ffD d = none := h.1
theorem rd_sz {d : PyData} (h : RdD d) : SzR d := h.2
def rdT (xs : List T3) (gs : List Int) : PyData := .tuple [.tuple (xs.map d3), .tuple (gs.map PyData.int)]
theorem da_3 {H : Hp} : ∀ {xs : List T3} {vs : List V}, DaAll H vs (xs.map d3) → ∃ ts : List Addr, vs = ts.map V.ref ∧ At3 H ts xs
  | [], _, h => by
    cases h
    exact ⟨[], rfl, rfl, fun i t x h => by cases h⟩
  | x :: xs, _, h => by
    cases h with
    | cons h1 h2 =>
      obtain ⟨ts, e, r⟩ := da_3 (xs := xs) h2
      subst e
      cases h1 with
      | @tup a ys _ e all =>
        cases all with
        | cons a1 b1 =>
          cases a1
          cases b1 with
          | cons a2 b2 =>
            cases a2
            cases b2 with
            | cons a4 b4 =>
              cases a4
              cases b4
              refine ⟨a :: ts, rfl, by rw [List.length_cons, List.length_cons, r.1], fun i t y h1 h2 => ?_⟩
              cases i with
              | zero =>
                cases h1
                cases h2
                exact e
              | succ i => exact r.2 i t y (by simpa using h1) (by simpa using h2)
theorem da_gs {H : Hp} : ∀ {gs : List Int} {vs : List V}, DaAll H vs (gs.map PyData.int) → vs = gs.map V.int
  | [], _, h => by cases h; rfl
  | n :: ns, _, h => by
    cases h with
    | cons h1 h2 =>
      cases h1
      rw [da_gs h2]
      rfl
theorem rda_of {H : Hp} {v : V} {xs : List T3} {gs : List Int} (h : Da H v (rdT xs gs)) : ∃ r, v = .ref r ∧ RdA H r xs gs := by
  cases h with
  | @tup a ys _ e all =>
    cases all with
    | cons h1 r1 =>
      cases r1 with
      | cons h2 r2 =>
        cases r2
        cases h1 with
        | @tup b zs _ e1 all1 =>
          cases h2 with
          | @tup c ws _ e2 all2 =>
            obtain ⟨ts, rfl, a3⟩ := da_3 all1
            obtain rfl := da_gs all2
            exact ⟨a, rfl, b, c, ts, e, e1, a3, e2⟩
/-- how many marks a text has -/
def cnt (p : Str) : Nat := ((64 :: mks).filter fun c => decide (c ∈ sl p)).length
def sgOf (c : Nat) : Str := if c ∈ mks then "@" else ⟨#[c]⟩
def sgsOf (p : Str) : List Str := (sl p).dropLast.map sgOf
def tkF (xs : List T3) (gs : List Int) (p : Str) : Bool := decide (cnt p < 2) && match ldF xs (some 0) (sgsOf p) with
  | some q => decide (q ∈ gs)
  | none => false
def spTk (C : Addr) : Sp := fun vs H Q E => ∃ (r v : V) (xs : List T3) (gs : List Int) (o : Option Str), vs = [r, v] ∧ Da H r (rdT xs gs) ∧ RdD (rdT xs gs) ∧ xs.length ≤ 12800 ∧ TxI H v o ∧
  (∀ p, o = some p → ltB p = true → ∀ H', Same H H' → Q (.bl (tkF xs gs p)) H') ∧ (okO o = false → Eo C E H)
def spTk0 : Sp := fun vs H Q _ => ∃ (r : V) (xs : List T3) (gs : List Int) (p : Str), vs = [r, .str p] ∧ Da H r (rdT xs gs) ∧ RdD (rdT xs gs) ∧ xs.length ≤ 12800 ∧ p.length ≤ 60000 ∧ ltB p = true ∧
  ∀ H', Same H H' → Q (.bl (tkF xs gs p)) H'
structure Tt (K : PySem.W.Frag) (mg : Str → Option Value) where
  T : Tk K mg
  fR : Addr
  dR : FuncData
  FR : Fun K "need_reader" "need_reader" sNeedR fR dR
  bR : Binds K dR ["thing"] []
  mR : mg "need_reader" = some (.ref fR)
  fO : Addr
  dO : FuncData
  FO : Fun K "rows_of" "rows_of" sRows fO dO
  bO : Binds K dO ["reader"] []
  mO : mg "rows_of" = some (.ref fO)
  fL : Addr
  dL : FuncData
  FL : Fun K "led" "led" sLed fL dL
  bL : Binds K dL ["rows", "state", "signs"] []
  mL : mg "led" = some (.ref fL)
  fT : Addr
  dT : FuncData
  FT : Fun K "takes" "takes" sTakes fT dT
  bT : Binds K dT ["reader", "text"] []
  mT : mg "takes" = some (.ref fT)
abbrev NT : List Str := ["reader", "text", "marks", "signs", "mark", "sign"]
theorem ints_flat : ∀ ns : List Int, (ns.map V.int).all flatV = true
  | [] => rfl
  | n :: ns => by
    rw [List.map_cons, List.all_cons, ints_flat ns]
    rfl
theorem in_ints {ns : List Int} {k : Int} : inV (.int k) (ns.map V.int) = decide (k ∈ ns) := by
  unfold inV
  induction ns with
  | nil => rfl
  | cons n ns ih =>
    rw [List.map_cons, List.any_cons, ih]
    by_cases c : k = n
    · subst c
      simp [eqV]
    · have : eqV (.int n) (.int k) = false ∨ eqV (.int k) (.int n) = false := .inl (by simp [eqV]; omega)
      by_cases d : k ∈ ns
      · simp [d]
      · rw [decide_eq_false d, decide_eq_false (by simp [c, d])]
        simp [eqV]
        omega
theorem in_none {ns : List Int} : inV .non (ns.map V.int) = false := by
  unfold inV
  rw [List.any_eq_false]
  intro y hy
  obtain ⟨n, _, rfl⟩ := List.mem_map.mp hy
  simp [eqV]
section
variable {P : Program} {w : World} {K : PySem.W.Frag} {mg : Str → Option Value} {base : Heap}
theorem scTakes : FnScope NT ["reader", "text"] (defScope sTakes) := ⟨rfl, rfl, rfl, by decide +kernel, rfl, by decide +kernel, by decide +kernel⟩
theorem ok_takes (Z : Tt K mg) : FnOk P w K mg base (L2.CX P w) 5 Z.fT Z.dT ["reader", "text"] (spTk Z.T.O.C) := by
  have T := Z.T.R.Z.T
  have GR : FnOk P w K mg base (L2.CX P w) 3 Z.fR Z.dR ["thing"] (spNeedR Z.T.R.B.C) := ok_needR Z.T.R Z.FR
  have GN : FnOk P w K mg base (L2.CX P w) 4 Z.T.f1 Z.T.d1 ["thing"] (spNLT Z.T.O.C) := ok_nlt Z.T
  have GO : FnOk P w K mg base CX0 1 Z.fO Z.dO ["reader"] spRows := ok_rows Z.FO
  have GL : FnOk P w K mg base CX0 1 Z.fL Z.dL ["rows", "state", "signs"] spLed := ok_led Z.FL
  refine Z.FT.okX scTakes (fun vs H Q E h => ?_) (fun cdv A outer s H vs Q E hr h => ?_)
  · obtain ⟨r, v, xs, gs, o, rfl, _⟩ := h
    rfl
  · obtain ⟨r, v, xs, gs, o, rfl, da, rd, xl, tx, qy, qn⟩ := h
    have r1 := hr.mono (j := 1) (by omega)
    have r3 := hr.mono (j := 3) (by omega)
    obtain ⟨tm, eM⟩ := Z.T.marks
    refine ⟨_, pss_cons (ps_expr (pe_call GR r3 (by rfl) Z.mR Z.FR.kp Z.bR .nil (passes_call (E := E0) (takes_of rfl rfl rfl rfl) fun _ _ _ _ h => h.elim) (pa_cons (pv 0) pa_nil)))
      (pss_cons (ps_expr (pe_call GN hr (by rfl) Z.T.m1 Z.T.F1.kp Z.T.b1 .nil (passes_call (E := E) (takes_of rfl rfl rfl rfl) fun _ _ _ _ h => h) (pa_cons (pv 1) pa_nil)))
      (pss_cons (ps_setLc (i := 2) (own := [("mark", 4)]) (g := gName 4) rfl scTakes.nd rfl rfl rfl (pi_str (pe_glob (v := .str "ABCDEFGH") (by rfl) eM ⟨_, rfl⟩))
          (blkOk_by (N := NT) (sc := defScope sTakes) (by decide +kernel)) (fun _ _ _ _ _ => pg_name (i := 4) scTakes.nd rfl (Or.inl rfl)) (fun _ _ _ _ _ => pts_one (pt_cmpR op_in_sign (pv 4) (pv 1) (by rfl))) (fun _ _ _ _ _ => pv 4))
      (pss_cons (ps_if (pw_or (pt_cmpR op_gt (pe_callB call_len_seq (by rfl) T.len PySem.boot_len (pa_cons (pv 2) pa_nil)) pe_int (nomark _)) (pw_or1 (pw_and (pt_cmpR op_eq (pe_callB call_len_seq (by rfl) T.len PySem.boot_len (pa_cons (pv 2) pa_nil)) pe_int (nomark _)) (pw_and1 (pt_cmpR op_in_sign pe_str (pv 1) (by rfl)))).pt)).pt (pss_one (ps_ret pe_bl)) pss_nil)
      (pss_cons (ps_setLc (i := 3) (own := [("sign", 5)]) (g := gName 5) rfl scTakes.nd rfl rfl rfl (pi_str (pe_slice sl_str (pv 1) po_none (po_some (pe_un un_neg pe_int))))
          (blkOk_by (N := NT) (sc := defScope sTakes) (by decide +kernel)) (fun _ _ _ _ _ => pg_name (i := 5) scTakes.nd rfl (Or.inl rfl)) (fun _ _ _ _ _ => pts_nil)
          (fun _ _ _ _ _ => pe_ifExp (pt_cmpR op_in_sign (pv 5) (pe_glob (v := .str "ABCDEFGH") (by rfl) eM ⟨_, rfl⟩) (by rfl)) pe_str (pv 5)))
      (pss_one (ps_ret (pe_cmpR op_in_seq (pe_call GL r1 (by rfl) Z.mL Z.FL.kp Z.bL .nil pass0 (pa_cons (pe_call GO r1 (by rfl) Z.mO Z.FO.kp Z.bO .nil pass0 (pa_cons (pv 0) pa_nil)) (pa_cons pe_int (pa_cons (pv 3) pa_nil)))) (pe_ix ix_tup (pv 0) pe_int (fun _ _ => rfl)) (by rfl)))))))), ?_⟩
    obtain ⟨r0, rfl, ra⟩ := rda_of da
    refine ⟨_, rfl, .ref r0, rdT xs gs, rfl, da, rd_sz rd, ?_⟩
    rw [rd_ok rd]
    intro H1 s1
    refine ⟨_, rfl, v, o, rfl, tx.same s1, fun ok H2 s2 => ?_, fun e => (qn e).same s1⟩
    cases o with
    | none => cases ok
    | some p =>
    obtain ⟨rfl, pl⟩ := tx
    have ok : ltB p = true := ok
    have s02 := s1.trans s2
    have qy := qy p rfl ok
    refine ⟨_, rfl, fun D hD => ?_⟩
    have ml : mks.length = 8 := by decide +kernel
    refine lc_it walk_str (fun i H' => H' D = some (.lst (((mks.take i).filter fun c => decide (c ∈ sl p)).map fun c => V.str ⟨#[c]⟩)) ∧ Same H2 H') ⟨upd_same, same_upd hD⟩ (fun _ _ _ _ => trivial) ?_ ?_
    · rintro i x H3z H3 hi ⟨hD3, s3⟩ ⟨rfl, ch, hc, rfl⟩
      have hc' : mks[i]? = some ch := (Array.getElem?_toList ..).trans hc
      refine ⟨rfl, ?_⟩
      refine ⟨_, rfl, _, rfl, ch, p, rfl, rfl, _, rfl, ?_⟩
      rw [take_one' hc', List.filter_append, List.filter_cons]
      have ll : (((mks.take i).filter fun c => decide (c ∈ sl p)).map fun c => V.str ⟨#[c]⟩).length ≤ 8 := by
        rw [List.length_map]
        refine Nat.le_trans (List.length_filter_le ..) ?_
        rw [List.length_take]
        omega
      by_cases c : ch ∈ sl p
      · refine iteT' (decide_eq_true c) ?_
        rw [if_pos (decide_eq_true c)]
        refine ⟨_, rfl, _, hD3, by rw [sizeLine_eq]; omega, ?_, same_set hD s3⟩
        rw [List.map_append]
        exact upd_same
      · refine iteF' (decide_eq_false c) ?_
        rw [if_neg (by simpa using c), List.filter_nil, List.append_nil]
        exact ⟨hD3, s3⟩
    rintro H3 ⟨hD3, s3⟩
    have e8 : ("ABCDEFGH" : Str).cps.size = mks.length := len_sl _
    rw [e8, List.take_length] at hD3
    have s03 := s02.trans s3
    refine gName_go2 ?_
    have cn : cnt p = (if 64 ∈ sl p then 1 else 0) + (mks.filter fun c => decide (c ∈ sl p)).length := by
      unfold cnt
      rw [List.filter_cons]
      by_cases c : 64 ∈ sl p
      · rw [if_pos (decide_eq_true c), if_pos c, List.length_cons]
        omega
      · rw [if_neg (by simpa using c), if_neg c]
        omega
    generalize mks.filter (fun c => decide (c ∈ sl p)) = mm at hD3 cn
    refine ⟨_, rfl, D, _, rfl, .inl (SqL.of hD3), _, 1, rfl, rfl, _, rfl, ?_⟩
    rw [List.length_map]
    have no : ¬ cnt p < 2 → ∀ H', Same H H' → Q (.bl false) H' := fun c H' s' => by
      have z := qy H' s'
      unfold tkF at z
      rw [decide_eq_false c, Bool.false_and] at z
      exact z
    by_cases c1 : 1 < mm.length
    · refine iteT' (by simp; omega) ?_
      exact no (by omega) _ s03
    refine iteF' (by simp; omega) ?_
    refine ⟨_, rfl, D, _, rfl, .inl (SqL.of hD3), rfl, _, rfl, ?_⟩
    rw [List.length_map]
    have at_is : ("@" : Str) = ⟨#[64]⟩ := by decide +kernel
    by_cases c2 : mm.length = 1 ∧ 64 ∈ sl p
    · refine iteT' (by simp [c2.1]) ?_
      refine ⟨_, rfl, 64, p, congrArg V.str at_is, rfl, _, rfl, ?_⟩
      refine iteT' (decide_eq_true c2.2) ?_
      exact no (by rw [cn, if_pos c2.2]; omega) _ s03
    have lt : cnt p < 2 := by
      rw [cn]
      by_cases c : 64 ∈ sl p
      · rw [if_pos c]
        have : mm.length ≠ 1 := fun z => c2 ⟨z, c⟩
        omega
      · rw [if_neg c]
        omega
    have qy2 : ∀ H', Same H H' → Q (.bl (match ldF xs (some 0) (sgsOf p) with
      | some q => decide (q ∈ gs)
      | none => false)) H' := fun H' s' => by
      have z := qy H' s'
      unfold tkF at z
      rw [decide_eq_true lt, Bool.true_and] at z
      exact z
    by_cases c3 : mm.length = 1
    refine iteT' (by simp [c3]) ?_
    refine ⟨_, rfl, 64, p, congrArg V.str at_is, rfl, _, rfl, ?_⟩
    refine iteF' (decide_eq_false (fun z => c2 ⟨c3, z⟩)) ?_
    rotate_left
    refine iteF' (by simp; omega) ?_
    all_goals
      have cs := cut_last (p := p)
      have cl : (cutS p none (some (-1))).length ≤ 60000 := Nat.le_trans (cutS_length ..) pl
      refine ⟨_, rfl, 1, rfl, -1, rfl, p, rfl, (by rw [sizeLine_eq]; omega), ?_⟩
      generalize cutS p none (some (-1)) = cu at cs cl ⊢
      refine ⟨_, rfl, fun D2 hD2 => ?_⟩
      refine lc_it walk_str (fun i H' => H' D2 = some (.lst ((((sl cu).take i).map sgOf).map V.str)) ∧ Same H3 H') ⟨upd_same, same_upd hD2⟩ (fun _ _ _ _ => trivial) ?_ ?_
      · rintro i x H4z H4 hi ⟨hD4, s4⟩ ⟨rfl, ch, hc, rfl⟩
        have hc' : (sl cu)[i]? = some ch := (Array.getElem?_toList ..).trans hc
        have cl' : (sl cu).length ≤ 60000 := by rw [← len_sl]; exact cl
        have fin : ∀ c : Str, c = sgOf ch → ∃ acc, H4 D2 = some (.lst acc) ∧ acc.length < sizeLine ∧ ((upd H4 D2 (.lst (acc ++ [V.str c]))) D2 = some (.lst ((((sl cu).take (i + 1)).map sgOf).map V.str)) ∧ Same H3 (upd H4 D2 (.lst (acc ++ [V.str c])))) := fun c e => by
          refine ⟨_, hD4, ?_, ?_, same_set hD2 s4⟩
          · rw [List.length_map, List.length_map, List.length_take, sizeLine_eq]
            omega
          · rw [take_one' hc', List.map_append, List.map_append, e]
            exact upd_same
        refine ⟨rfl, _, rfl, ch, _, rfl, rfl, _, rfl, ?_⟩
        by_cases c : ch ∈ mks
        · refine iteT' (decide_eq_true c) ?_
          exact fin "@" (by unfold sgOf; rw [if_pos c])
        · refine iteF' (decide_eq_false c) ?_
          refine ⟨_, rfl, ?_⟩
          exact fin _ (by unfold sgOf; rw [if_neg c])
      rintro H4 ⟨hD4, s4⟩
      have ln : cu.cps.size = (sl cu).length := len_sl cu
      rw [ln, List.take_length, cs] at hD4
      refine gName_go2 ?_
      have s04 := s03.trans s4
      refine ⟨_, rfl, r0, xs, gs, rfl, ra.same s04, xl, fun H5 pr kvs R => ⟨_, rfl, pr, D2, 0, H4, 25600, kvs, xs, sgsOf p, rfl, R, R.sm _ _ hD4, fun H6 s6 => ?_⟩⟩
      have s06 := s04.trans (R.sm.trans s6)
      obtain ⟨t1, t2, ts, h1, h2, h3, h4⟩ := ra.same s06
      refine ⟨_, rfl, r0, _, 1, .ref t2, rfl, rfl, SqT.of h1, rfl, t2, gs.map V.int, rfl, .inr (SqT.of h4), ?_, ints_flat gs, ?_⟩
      · cases ldF xs (some 0) (sgsOf p) <;> rfl
      have z := qy2 H6 s06
      cases e : ldF xs (some 0) (sgsOf p) with
      | none =>
        rw [e] at z
        show Q (.bl (inV .non (gs.map V.int))) H6
        rw [in_none]
        exact z
      | some q =>
        rw [e] at z
        show Q (.bl (inV (.int q) (gs.map V.int))) H6
        rw [in_ints]
        exact z
end
end K10

set_option Elab.async false
set_option linter.all false
set_option maxRecDepth 100000
set_option maxHeartbeats 4000000
/-! What is told is a right reader. -/
namespace K10
open PySem L2 L2.EV
theorem sgO_lt (es : List En) : (sgO es).Pairwise (· < ·) := by
  have p2 : ((csE es).mergeSort (fun a b => decide (a ≤ b))).Pairwise (· ≤ ·) :=
    (List.pairwise_mergeSort (le := fun a b : Nat => decide (a ≤ b)) (fun a b c h1 h2 => decide_eq_true (Nat.le_trans (of_decide_eq_true h1) (of_decide_eq_true h2))) (fun a b => by
      have := Nat.le_total a b
      simpa using this) _).imp fun h => of_decide_eq_true h
  have nd : ((csE es).mergeSort (fun a b => decide (a ≤ b))).Nodup := (List.mergeSort_perm _ _).nodup_iff.mpr (csE_nd _ [] List.nodup_nil)
  have lt := p2.and nd
  have lt2 : ((csE es).mergeSort (fun a b => decide (a ≤ b))).Pairwise (· < ·) := lt.imp fun ⟨a, b⟩ => Nat.lt_of_le_of_ne a b
  exact lt2.filter _
def ltR (x y : R3) : Prop := x.1 < y.1 ∨ x.1 = y.1 ∧ x.2.1 < y.2.1
theorem rwF_cons (es : List En) (S : Nat) (ls : List Nat) (c : Nat) (cs : List Nat) : rwF es S ls (c :: cs) = rw1 es S ls c ++ rwF es S ls cs := rfl
theorem rwF_sub {es : List En} {S : Nat} {ls : List Nat} : ∀ {cs : List Nat}, ∀ x ∈ rwF es S ls cs, x.1 ∈ cs
  | [], x, h => by cases h
  | c :: cs, x, h => by
    rw [rwF_cons] at h
    rcases List.mem_append.mp h with h | h
    · unfold rw1 at h
      by_cases z : bh es c S = 0
      · rw [if_pos z] at h
        cases h
      · rw [if_neg z] at h
        rw [List.mem_singleton.mp h]
        exact List.mem_cons_self ..
    · exact List.mem_cons_of_mem _ (rwF_sub x h)
theorem rwF_lt {es : List En} {S : Nat} {ls : List Nat} : ∀ {cs : List Nat}, cs.Pairwise (· < ·) → (rwF es S ls cs).Pairwise (fun x y => x.1 < y.1)
  | [], _ => .nil
  | c :: cs, h => by
    obtain ⟨h1, h2⟩ := List.pairwise_cons.mp h
    rw [rwF_cons]
    refine List.pairwise_append.mpr ⟨?_, rwF_lt h2, fun x hx y hy => ?_⟩
    · unfold rw1
      by_cases z : bh es c S = 0
      · rw [if_pos z]
        exact .nil
      · rw [if_neg z]
        exact List.pairwise_singleton ..
    · unfold rw1 at hx
      by_cases z : bh es c S = 0
      · rw [if_pos z] at hx
        cases hx
      · rw [if_neg z] at hx
        rw [List.mem_singleton.mp hx]
        exact h1 _ (rwF_sub y hy)
theorem rulesK_lt {F : Nat → Nat} {rows : List (List (Nat × Nat))} (h : ∀ r ∈ rows, r.Pairwise (fun x y => x.1 < y.1)) : ∀ k, (rulesK F rows k).Pairwise ltR
  | 0 => .nil
  | k + 1 => by
    show (rulesK F rows k ++ rl1 F (smp F rows (k + 1)) k (rows.getD (sk F rows k) [])).Pairwise ltR
    refine List.pairwise_append.mpr ⟨rulesK_lt h k, ?_, fun x hx y hy => ?_⟩
    · unfold rl1
      rw [List.pairwise_map]
      have : (rows.getD (sk F rows k) []).Pairwise (fun x y => x.1 < y.1) := by
        rw [List.getD_eq_getElem?_getD]
        cases e : rows[sk F rows k]? with
        | none => exact .nil
        | some r => exact h r (List.mem_of_getElem? e)
      exact this.imp fun z => .inr ⟨rfl, z⟩
    · obtain ⟨j, z, hj, _, rfl⟩ := rulesK_mem.mp hx
      unfold rl1 at hy
      obtain ⟨z2, _, rfl⟩ := List.mem_map.mp hy
      exact .inl hj
theorem takenK_lt {F : Nat → Nat} {rows : List (List (Nat × Nat))} {gs : List Bool} : ∀ k, (takenK F rows gs k).Pairwise (· < ·)
  | 0 => .nil
  | k + 1 => by
    show (takenK F rows gs k ++ (if gs.getD (sk F rows k) false = true then [k] else [])).Pairwise (· < ·)
    refine List.pairwise_append.mpr ⟨takenK_lt k, ?_, fun x hx y hy => ?_⟩
    · by_cases g : gs.getD (sk F rows k) false = true
      · rw [if_pos g]
        exact List.pairwise_singleton ..
      · rw [if_neg g]
        exact .nil
    · by_cases g : gs.getD (sk F rows k) false = true
      · rw [if_pos g] at hy
        rw [List.mem_singleton.mp hy]
        exact (takenK_mem.mp hx).1
      · rw [if_neg g] at hy
        cases hy
/-- a rule as data -/
def tR (x : R3) : T3 := ((x.1 : Nat), ch1 x.2.1, (x.2.2 : Nat))
def iN (n : Nat) : Int := (n : Nat)
theorem num_lt {n : Nat} (h : n < 200) : numD 200 (.int (n : Nat)) = some (n : Int) := by
  unfold numD
  exact if_pos (by omega)
theorem rule_tR {x : R3} (h1 : x.1 < 200) (h2 : x.2.1 ∈ sgs) (h3 : x.2.2 < 200) : ruleD (d3 (tR x)) = some (tR x) := by
  show (match numD 200 (.int (x.1 : Nat)), numD 200 (.int (x.2.2 : Nat)) with
    | some i, some j => if signD (ch1 x.2.1) = true then some (i, ch1 x.2.1, j) else none
    | _, _ => none) = _
  rw [num_lt h1, num_lt h3]
  have e : signD (ch1 x.2.1) = true := by
    show signD ⟨#[x.2.1]⟩ = true
    rw [signD_one]
    exact decide_eq_true h2
  show (if signD (ch1 x.2.1) = true then some ((x.1 : Int), ch1 x.2.1, (x.2.2 : Int)) else none) = _
  rw [if_pos e]
  rfl
theorem lt_IS {x y : R3} (h : ltR x y) : ltIS (((x.1 : Nat) : Int), ch1 x.2.1) (((y.1 : Nat) : Int), ch1 y.2.1) = true := by
  unfold ltIS
  rcases h with h | ⟨h1, h2⟩
  · show (if ((x.1 : Nat) : Int) = ((y.1 : Nat) : Int) then _ else decide (((x.1 : Nat) : Int) < ((y.1 : Nat) : Int))) = true
    rw [if_neg (by omega)]
    exact decide_eq_true (by omega)
  · show (if ((x.1 : Nat) : Int) = ((y.1 : Nat) : Int) then decide ([x.2.1] < [y.2.1]) else _) = true
    rw [if_pos (by omega)]
    exact decide_eq_true (List.cons_lt_cons_iff.mpr (.inl h2))
theorem badRN_ok : ∀ {xs : List R3} {last : Option R3} {k : Nat}, xs.Pairwise ltR → (∀ x ∈ xs, x.1 < 200 ∧ x.2.1 ∈ sgs ∧ x.2.2 < 200) → (∀ l, last = some l → ∀ x ∈ xs, ltR l x) →
    badR ((xs.map tR).map d3) (last.map fun l => (((l.1 : Nat) : Int), ch1 l.2.1)) k = none
  | [], _, _, _, _, _ => rfl
  | x :: xs, last, k, p, ok, hl => by
    obtain ⟨a, b, c⟩ := ok x (List.mem_cons_self ..)
    obtain ⟨p1, p2⟩ := List.pairwise_cons.mp p
    rw [List.map_cons, List.map_cons, badR_some (rule_tR a b c)]
    have nl : ¬ lbR (last.map fun l => (((l.1 : Nat) : Int), ch1 l.2.1)) (tR x) = true := by
      cases last with
      | none => exact fun z => (by cases z)
      | some l =>
        intro z
        have z : (!ltIS (((l.1 : Nat) : Int), ch1 l.2.1) (((x.1 : Nat) : Int), ch1 x.2.1)) = true := z
        rw [lt_IS (hl l rfl x (List.mem_cons_self ..))] at z
        cases z
    rw [if_neg nl]
    exact badRN_ok (xs := xs) (last := some x) (k := k + 1) p2 (fun y hy => ok y (List.mem_cons_of_mem _ hy)) fun l e y hy => by
      rw [← Option.some.inj e]
      exact p1 y hy
theorem badGN_ok : ∀ {ns : List Nat} {last : Option Nat} {k : Nat}, ns.Pairwise (· < ·) → (∀ x ∈ ns, x < 200) → (∀ l, last = some l → ∀ x ∈ ns, l < x) →
    badG ((ns.map iN).map PyData.int) (last.map iN) k = none
  | [], _, _, _, _, _ => rfl
  | x :: xs, last, k, p, ok, hl => by
    obtain ⟨p1, p2⟩ := List.pairwise_cons.mp p
    rw [List.map_cons, List.map_cons, badG_some (d := .int (iN x)) (i := iN x) (num_lt (ok x (List.mem_cons_self ..)))]
    have nl : ¬ lbG (last.map iN) (iN x) = true := by
      cases last with
      | none => exact fun z => (by cases z)
      | some l =>
        intro z
        have z : decide (iN x ≤ iN l) = true := z
        have := of_decide_eq_true z
        have := hl l rfl x (List.mem_cons_self ..)
        unfold iN at *
        omega
    rw [if_neg nl]
    exact badGN_ok (ns := xs) (last := some x) (k := k + 1) p2 (fun y hy => ok y (List.mem_cons_of_mem _ hy)) fun l e y hy => by
      rw [← Option.some.inj e]
      exact p1 y hy
theorem sg_in {fr : List T3} {last : Nat} (fm : Frm fr last) {c : Nat} (h : c ∈ sgO (esF fr)) : c ∈ sgs := by
  have n59 : c ≠ 59 := of_decide_eq_true (List.mem_filter.mp h).2
  obtain ⟨e, he, rfl⟩ := csE_mem.mp (sgO_mem h)
  obtain ⟨i, j, hi, hj, rfl⟩ := allE_mem.mp (by rw [← esF.eq_1 fr]; exact he)
  have c := chr_at hj
  obtain ⟨b, eb, _, hb, _⟩ := stq_pc fm hi
  rw [eb] at c
  rcases List.mem_append.mp (List.mem_of_getElem? c) with m | m
  · exact hb _ m
  · by_cases z : decide ((stq fr i).2.2 = 0) = true
    · rw [if_pos z] at m
      exact absurd (List.mem_singleton.mp m) n59
    · rw [if_neg z] at m
      cases m
section
variable {fr : List T3} {last : Nat} {U : List Nat} (fm : Frm fr last) (I : Inn (esF fr) (f0F fr) U)
include I
theorem nE_len : (expl (esF fr) (f0F fr) (nE fr)).length = nE fr ∧ nE fr ≤ 4000 := by
  have z : ∀ n, (∃ k, k ≤ n ∧ (expl (esF fr) (f0F fr) k).length = k) ∨ n < (expl (esF fr) (f0F fr) n).length := by
    intro n
    induction n with
    | zero => exact .inr (by simp [expl])
    | succ n ih =>
      rcases ih with ⟨k, h1, h2⟩ | h
      · exact .inl ⟨k, by omega, h2⟩
      · have le := (expl_pre (esF fr) (f0F fr) n).length_le
        rcases Nat.lt_or_ge (n + 1) (expl (esF fr) (f0F fr) (n + 1)).length with c | c
        · exact .inr c
        · exact .inl ⟨n + 1, Nat.le_refl _, by omega⟩
  have l := expl_len I 4000
  rcases z 4000 with ⟨k, h1, h2⟩ | h
  · rw [nE_of I h2]
    exact ⟨h2, h1⟩
  · omega
include fm
theorem rows_okF : RwOk (rowsF fr) (gdF fr) := by
  unfold rowsF gdF
  exact rows_ok (es_ok fm) I (nE_len I).1
theorem nS_len : (smp (kdF fr) (rowsF fr) (nS fr)).length = nS fr ∧ nS fr ≤ 200 ∧ 0 < nS fr := by
  have ok := rows_okF fm I
  have pos : 0 < (rowsF fr).length := by
    unfold rowsF
    rw [rowsK_len]
    exact nE_pos fr
  have bd : ∀ k, (smp (kdF fr) (rowsF fr) k).length ≤ 200 := fun k => by
    obtain ⟨κ, k1, k2⟩ := ok.kn
    have lg : (gdF fr).length = (rowsF fr).length := by
      unfold gdF rowsF
      rw [gdK_len, rowsK_len]
    have rs : Rsp κ (rowsF fr).length (mergeF 201 (rowsF fr) (k0F (gdF fr))) := rsp_merge (fun i j hi hj e => (k2 i j hi hj e).1) 201 (by unfold k0F; rw [List.length_map, lg]) (rsp_k0 fun i j hi hj e => (k2 i j hi hj e).2)
    obtain ⟨L, hL, hm⟩ := kinds_few (l := List.range (rowsF fr).length) (κ := κ) (F := kdF fr) (fun x hx => k1 x (List.mem_range.mp hx)) fun x hx y hy e => by
      unfold kdF
      show List.getD _ x 0 = List.getD _ y 0
      rw [List.getD_eq_getElem?_getD, List.getD_eq_getElem?_getD, rs x y (List.mem_range.mp hx) (List.mem_range.mp hy) e]
    have z := (smp_nd (kdF fr) (rowsF fr) k).length_le_of_subset (l₂ := L) fun y hy => by
      obtain ⟨x, hx, rfl⟩ := List.mem_map.mp hy
      exact hm x (List.mem_range.mpr (smp_lt ok pos k x hx))
    rw [List.length_map] at z
    omega
  have z : ∀ n, (∃ k, k ≤ n ∧ (smp (kdF fr) (rowsF fr) k).length = k) ∨ n < (smp (kdF fr) (rowsF fr) n).length := by
    intro n
    induction n with
    | zero => exact .inr (by simp [smp])
    | succ n ih =>
      rcases ih with ⟨k, h1, h2⟩ | h
      · exact .inl ⟨k, by omega, h2⟩
      · have le := (smp_pre (kdF fr) (rowsF fr) n).length_le
        rcases Nat.lt_or_ge (n + 1) (smp (kdF fr) (rowsF fr) (n + 1)).length with c | c
        · exact .inr c
        · exact .inl ⟨n + 1, Nat.le_refl _, by omega⟩
  rcases z 200 with ⟨k, h1, h2⟩ | h
  · have e : nS fr = k := by
      obtain ⟨d, e⟩ := Nat.exists_eq_add_of_le (show k ≤ 4000 by omega)
      unfold nS
      rw [e, smp_stay (by omega) d]
      exact h2
    have p0 := (smp_mono (kdF fr) (rowsF fr) 0 k).length_le
    rw [Nat.zero_add, h2] at p0
    rw [e]
    exact ⟨h2, h1, p0⟩
  · have := bd 200
    omega
theorem rules_ok : (rulesF fr).Pairwise ltR ∧ ∀ x ∈ rulesF fr, x.1 < 200 ∧ x.2.1 ∈ sgs ∧ x.2.2 < 200 := by
  have ok := rows_okF fm I
  obtain ⟨hM, M2, M0⟩ := nS_len fm I
  unfold rulesF
  refine ⟨rulesK_lt (fun r hr => ?_) _, fun x hx => ?_⟩
  · unfold rowsF rowsK at hr
    obtain ⟨j, _, rfl⟩ := List.mem_map.mp hr
    exact rwF_lt (sgO_lt _)
  · obtain ⟨j, y, hj, hy, rfl⟩ := rulesK_mem.mp hx
    obtain ⟨g1, g2⟩ := goal_last hM hj hy
    have k1 := (kind_at g2 hM).1
    refine ⟨Nat.lt_of_lt_of_le hj M2, ?_, ?_⟩
    · rw [List.getD_eq_getElem?_getD] at hy
      cases e : (rowsF fr)[sk (kdF fr) (rowsF fr) j]? with
      | none =>
        rw [e] at hy
        cases hy
      | some r =>
        rw [e] at hy
        have hr := List.mem_of_getElem? e
        unfold rowsF rowsK at hr
        obtain ⟨i, _, rfl⟩ := List.mem_map.mp hr
        exact sg_in fm (rwF_sub y hy)
    · show ((smp (kdF fr) (rowsF fr) (j + 1)).map (kdF fr)).idxOf (kdF fr y.2) < 200
      rw [g1]
      omega
theorem rules_few : (rulesF fr).length ≤ 12800 := by
  have := rulesK_len (F := kdF fr) (rows_okF fm I) (nS fr)
  have := (nS_len fm I).2.1
  unfold rulesF
  omega
theorem taken_ok : (takenF fr).Pairwise (· < ·) ∧ (∀ x ∈ takenF fr, x < 200) ∧ (takenF fr).length ≤ 200 := by
  have := (nS_len fm I).2.1
  have l := takenK_len (kdF fr) (rowsF fr) (gdF fr) (nS fr)
  unfold takenF
  refine ⟨takenK_lt _, fun x hx => Nat.lt_of_lt_of_le (takenK_mem.mp hx).1 this, ?_⟩
  omega
end
/-- the strict reader as data -/
def xsF (fr : List T3) : List T3 := (rulesF fr).map tR
def gsF (fr : List T3) : List Int := (takenF fr).map iN
theorem sz_tR (y : R3) : szS (d3 (tR y)) := fun a x b er => by
  have e1 : [PyData.int ((y.1 : Nat) : Int), .str (ch1 y.2.1), .int ((y.2.2 : Nat) : Int)] = [a, .str x, b] := PyData.tuple.inj er
  have e2 := PyData.str.inj (List.cons.inj (List.cons.inj e1).2).1
  rw [← e2]
  show 1 ≤ 1000
  decide
theorem ffD_ok {rs gs : List PyData} (h1 : badR rs none 0 = none) (h2 : badG gs none 0 = none) : ffD (.tuple [.tuple rs, .tuple gs]) = none := by
  simp only [ffD, h1, h2]
theorem rd_right {fr : List T3} {last : Nat} {U : List Nat} (fm : Frm fr last) (I : Inn (esF fr) (f0F fr) U) : RdD (rdT (xsF fr) (gsF fr)) := by
  obtain ⟨r1, r2⟩ := rules_ok fm I
  obtain ⟨t1, t2, _⟩ := taken_ok fm I
  refine ⟨?_, fun rs g e r hr a x b er => ?_⟩
  · have h1 := badRN_ok (last := none) (k := 0) r1 r2 (fun l e => by cases e)
    have h2 := badGN_ok (last := none) (k := 0) t1 t2 (fun l e => by cases e)
    exact ffD_ok h1 h2
  · have hr2 : r ∈ (xsF fr).map d3 := by
      rw [PyData.tuple.inj (List.cons.inj (PyData.tuple.inj e)).1]
      exact hr
    obtain ⟨t, ht, rfl⟩ := List.mem_map.mp hr2
    obtain ⟨y, _, rfl⟩ := List.mem_map.mp ht
    exact sz_tR y a x b er
theorem da_rta {H : Hp} {p : Addr} {fr : List T3} (h : RtA H p (rulesF fr) (takenF fr)) : Da H (.ref p) (rdT (xsF fr) (gsF fr)) := by
  obtain ⟨a, b, rs, h1, h2, h3, h4, h5⟩ := h
  have go1 : ∀ {rs : List Addr} {xs : List R3}, rs.length = xs.length → (∀ (i : Nat) q x, rs[i]? = some q → xs[i]? = some x → P4 H q x) → DaAll H (rs.map V.ref) ((xs.map tR).map d3) := by
    intro rs
    induction rs with
    | nil =>
      intro xs l _
      cases xs with
      | nil => exact .nil
      | cons x xs => cases l
    | cons r rs ih =>
      intro xs l h
      cases xs with
      | nil => cases l
      | cons x xs =>
        refine .cons (.tup (h 0 r x rfl rfl) (.cons (.int _) (.cons (.str _) (.cons (.int _) .nil)))) (ih (by simpa using l) fun i q y h6 h7 => h (i + 1) q y (by simpa using h6) (by simpa using h7))
  have go2 : ∀ ns : List Nat, DaAll H (ns.map nV) ((ns.map iN).map PyData.int) := by
    intro ns
    induction ns with
    | nil => exact .nil
    | cons n ns ih => exact .cons (.int _) ih
  exact .tup h1 (.cons (.tup h2 (go1 h3 h4)) (.cons (.tup h5 (go2 _)) .nil))
end K10

set_option Elab.async false
set_option linter.all false
set_option maxRecDepth 100000
set_option maxHeartbeats 4000000
/-! Small framings have few kinds of sets. -/
namespace K10
open PySem L2 L2.EV
section
variable {fr : List T3} {last : Nat} (fm : Frm fr last) (S : Sml fr)
include fm S
theorem sgO_ltr {c : Nat} (h : c ∈ sgO (esF fr)) : c ∈ Ltr ∧ c ≠ 59 := by
  have n59 : c ≠ 59 := of_decide_eq_true (List.mem_filter.mp h).2
  obtain ⟨e, he, rfl⟩ := csE_mem.mp (sgO_mem h)
  obtain ⟨i, j, hi, hj, rfl⟩ := allE_mem.mp (by rw [← esF.eq_1 fr]; exact he)
  have c := chr_at hj
  rcases S.lt _ (stq_mem fm S hi) _ (List.mem_of_getElem? c) with h | h
  · exact ⟨h, n59⟩
  · exact absurd h n59
/-- the kind of what a word leads to is one of the few -/
theorem cl_in {w : List Nat} (hw : ∀ c ∈ w, c ∈ Ltr) : clS fr (wS fr w) ∈ clL fr := by
  have h59 : ∀ c ∈ w, c ≠ 59 := fun c hc z => by
    have := hw c hc
    rw [z] at this
    exact absurd this (by decide)
  unfold clL
  by_cases np : w ∈ prW fr
  · exact List.mem_append_left _ (List.mem_map.mpr ⟨w, np, rfl⟩)
  · refine List.mem_append_right _ ?_
    cases hx : w.getLast? with
    | none =>
      rw [List.getLast?_eq_none_iff] at hx
      exact absurd (by rw [hx]; exact List.mem_cons_self ..) np
    | some x =>
      obtain ⟨g, hg, e⟩ := cl_word fm S h59 hx np
      have lx := hw x (List.mem_of_getLast? hx)
      rw [e]
      rcases List.mem_cons.mp lx with rfl | lx
      · exact List.mem_append_left _ (List.mem_append_left _ (List.mem_map.mpr ⟨g, hg, rfl⟩))
      · rcases List.mem_cons.mp lx with rfl | lx
        · exact List.mem_append_left _ (List.mem_append_right _ (List.mem_map.mpr ⟨g, hg, rfl⟩))
        · rw [List.mem_singleton.mp lx] at hg ⊢
          exact List.mem_append_right _ (List.mem_map.mpr ⟨g, hg, rfl⟩)
omit fm S in
/-- one kind: alike good, and they lead on to the same -/
theorem cl_same {S T : Nat} (h : clS fr S = clS fr T) : ((S &&& endF (esF fr) = 0) ↔ (T &&& endF (esF fr) = 0)) ∧ ∀ c, c ≠ 59 → bh (esF fr) c S = bh (esF fr) c T := by
  have h1 := congrArg Prod.fst h
  have h2 := congrArg Prod.snd h
  refine ⟨decide_eq_decide.mp h2, fun c hc => ?_⟩
  have bits : ∀ p ∈ ijs fr, ¬ chr fr p.1 p.2 = 59 → S.testBit (off fr p.1 + p.2) = T.testBit (off fr p.1 + p.2) := fun p hp z => by
    have := List.map_inj_left.mp h1 p hp
    simpa [z] using this
  have one : ∀ {S T : Nat}, (∀ p ∈ ijs fr, ¬ chr fr p.1 p.2 = 59 → S.testBit (off fr p.1 + p.2) = T.testBit (off fr p.1 + p.2)) → ∀ i, (bh (esF fr) c S).testBit i = true → (bh (esF fr) c T).testBit i = true := fun {S T} hb i hi => by
    obtain ⟨p, hp, n0, hp2⟩ := bh_bit.mp hi
    obtain ⟨k, j, hk, hj, e⟩ := esF_mem.mp hp
    have e1 : c = chr fr k j := congrArg Prod.fst e
    have e2 : p.1 = 2 ^ (off fr k + j) := congrArg (fun z : En => z.2.1) e
    refine bh_bit.mpr ⟨p, hp, ?_, hp2⟩
    rw [e2, and_bit] at n0 ⊢
    rw [← hb (k, j) (ijs_mem.mpr ⟨hk, hj⟩) (by show ¬ chr fr k j = 59; rw [← e1]; exact hc)]
    exact n0
  apply Nat.eq_of_testBit_eq
  intro i
  exact Bool.eq_iff_iff.mpr ⟨one bits i, one (fun p hp z => (bits p hp z).symm) i⟩
theorem inn_small : ∃ U, Inn (esF fr) (f0F fr) U := by
  let κ : Nat → Nat := fun X => (clL fr).idxOf (clS fr X)
  let Re : Nat → Prop := fun X => ∃ w : List Nat, (∀ c ∈ w, c ∈ Ltr) ∧ X = wS fr w
  have re0 : Re (f0F fr) := ⟨[], fun c h => (by cases h), rfl⟩
  have reS : ∀ {X c}, Re X → c ∈ sgO (esF fr) → Re (bh (esF fr) c X) := fun {X c} ⟨w, h1, h2⟩ hc => by
    refine ⟨w ++ [c], fun d hd => ?_, ?_⟩
    · rcases List.mem_append.mp hd with h | h
      · exact h1 d h
      · rw [List.mem_singleton.mp h]
        exact (sgO_ltr fm S hc).1
    · unfold wS
      rw [rnF_snoc, h2]
      rfl
  have kl : ∀ {X}, Re X → κ X < 200 := fun {X} ⟨w, h1, h2⟩ => by
    refine Nat.lt_of_lt_of_le (List.idxOf_lt_length_of_mem ?_) (clL_len S)
    rw [h2]
    exact cl_in fm S h1
  have ke : ∀ {X Y}, Re X → Re Y → κ X = κ Y → clS fr X = clS fr Y := fun {X Y} ⟨w, h1, h2⟩ ⟨v, h3, h4⟩ e => by
    have a : clS fr X ∈ clL fr := by rw [h2]; exact cl_in fm S h1
    have b : clS fr Y ∈ clL fr := by rw [h4]; exact cl_in fm S h3
    have la := List.idxOf_lt_length_of_mem a
    have lb := List.idxOf_lt_length_of_mem b
    have e1 : (clL fr)[(clL fr).idxOf (clS fr X)]'la = clS fr X := List.getElem_idxOf la
    have e2 : (clL fr)[(clL fr).idxOf (clS fr Y)]'lb = clS fr Y := List.getElem_idxOf lb
    rw [← e1, ← e2]
    congr 1
  obtain ⟨rep, hrep⟩ : ∃ rep : Nat → Nat, ∀ i, Re (rep i) ∧ ∀ X, Re X → κ X = i → κ (rep i) = i := by
    refine Classical.axiomOfChoice (r := fun i y => Re y ∧ ∀ X, Re X → κ X = i → κ y = i) fun i => ?_
    rcases Classical.em (∃ X, Re X ∧ κ X = i) with ⟨X, h1, h2⟩ | h
    · exact ⟨X, h1, fun _ _ _ => h2⟩
    · exact ⟨f0F fr, re0, fun X h1 h2 => absurd ⟨X, h1, h2⟩ h⟩
  have rep1 : ∀ {X c}, Re X → c ∈ sgO (esF fr) → bh (esF fr) c X = bh (esF fr) c (rep (κ X)) := fun {X c} h hc => by
    have := (hrep (κ X)).2 X h rfl
    exact (cl_same (ke h (hrep _).1 this.symm)).2 c (sgO_ltr fm S hc).2
  have mem : ∀ X, X ∈ f0F fr :: (sgO (esF fr)).flatMap (fun c => (List.range 200).map fun i => bh (esF fr) c (rep i)) → Re X := fun X hX => by
    rcases List.mem_cons.mp hX with rfl | hX
    · exact re0
    · obtain ⟨c, hc, hX⟩ := List.mem_flatMap.mp hX
      obtain ⟨i, _, rfl⟩ := List.mem_map.mp hX
      exact reS (hrep i).1 hc
  refine ⟨f0F fr :: (sgO (esF fr)).flatMap (fun c => (List.range 200).map fun i => bh (esF fr) c (rep i)), List.mem_cons_self .., fun X hX c hc _ => ?_, ?_, κ, fun X hX => kl (mem X hX), fun X hX Y hY e => ?_⟩
  · have r := mem X hX
    refine List.mem_cons_of_mem _ (List.mem_flatMap.mpr ⟨c, hc, List.mem_map.mpr ⟨κ X, List.mem_range.mpr (kl r), ?_⟩⟩)
    exact (rep1 r hc).symm
  · have nd : (sgO (esF fr)).Nodup := (sgO_lt (esF fr)).imp fun h => Nat.ne_of_lt h
    have l3 := nd.length_le_of_subset (l₂ := Ltr) fun c hc => (sgO_ltr fm S hc).1
    have : ∀ l : List Nat, (l.flatMap fun c => (List.range 200).map fun i => bh (esF fr) c (rep i)).length = 200 * l.length := by
      intro l
      induction l with
      | nil => rfl
      | cons x l ih =>
        rw [List.flatMap_cons, List.length_append, ih, List.length_cons, List.length_map, List.length_range]
        omega
    rw [List.length_cons, this]
    simp only [List.length_cons, List.length_nil] at l3
    omega
  · obtain ⟨a, b⟩ := cl_same (ke (mem X hX) (mem Y hY) e)
    exact ⟨a, fun c hc => b c (sgO_ltr fm S hc).2⟩
end
end K10

set_option Elab.async false
set_option linter.all false
set_option maxRecDepth 100000
set_option maxHeartbeats 4000000
/-! The first text that one of two readers alone takes: by a search told as a relation. -/
namespace K10
open PySem L2 L2.EV
abbrev Pr : Type := Option Int × Option Int
abbrev NN : Pr := (none, none)
abbrev L3s : List Str := ["@", "a", "b"]
/-- two readers -/
structure Two where
  xs : List T3
  gs : List Int
  ys : List T3
  hs : List Int
def nx2 (R : Two) (p : Pr) (c : Str) : Pr := (p.1.bind fun q => nx R.xs q c, p.2.bind fun q => nx R.ys q c)
def acc (gs : List Int) : Option Int → Bool
  | none => false
  | some q => decide (q ∈ gs)
def par (R : Two) (p : Pr) : Bool := (acc R.gs p.1) != (acc R.hs p.2)
abbrev En2 : Type := Pr × Str
abbrev FL : Type := List Pr × List En2
def ext1 (R : Two) (e : En2) (z : FL) (c : Str) : FL := if nx2 R e.1 c ∈ z.1 then z else (z.1 ++ [nx2 R e.1 c], z.2 ++ [(nx2 R e.1 c, e.2 ++ c)])
/-- the signs of a row, or of another list -/
def ext (R : Two) (sg : Pr → List Str) (z : FL) (e : En2) : FL := (sg e.1).foldl (ext1 R e) z
def lay (R : Two) (sg : Pr → List Str) (f : List Pr) (l : List En2) : FL := l.foldl (ext R sg) (f, [])
/-- what the search tells -/
inductive Par (R : Two) (sg : Pr → List Str) : List Pr → List En2 → Option Str → Prop
  | nil {f} : Par R sg f [] none
  | hit {f l p t} : (l.find? fun e : En2 => par R e.1) = some (p, t) → Par R sg f l (some (t ++ ";"))
  | go {f l r} : (l.find? fun e : En2 => par R e.1) = none → l ≠ [] → Par R sg (lay R sg f l).1 (lay R sg f l).2 r → Par R sg f l r
theorem Par.uniq {R : Two} {sg : Pr → List Str} {f : List Pr} {l : List En2} {r r' : Option Str} (h : Par R sg f l r) (h' : Par R sg f l r') : r = r' := by
  induction h with
  | nil =>
    cases h' with
    | nil => rfl
    | hit e => cases e
    | go _ n _ => exact absurd rfl n
  | hit e =>
    cases h' with
    | nil => cases e
    | hit e2 =>
      rw [e] at e2
      cases e2
      rfl
    | go e2 _ _ =>
      rw [e] at e2
      cases e2
  | go e n _ ih =>
    cases h' with
    | nil => exact absurd rfl n
    | hit e2 =>
      rw [e] at e2
      cases e2
    | go _ _ h2 => exact ih h2
def sgP (R : Two) (p : Pr) : List Str := L3s.filter fun c => decide (nx2 R p c ≠ NN)
abbrev f00 : List Pr := [(some 0, some 0)]
abbrev l00 : List En2 := [((some 0, some 0), "")]
/-! ### the law's: all signs, None beside None too -/
/-- but for what stands nowhere, all is as it is in the program -/
structure Rel (R : Two) (f fL : List Pr) (l lL : List En2) : Prop where
  mem : ∀ p, p ≠ NN → (p ∈ fL ↔ p ∈ f)
  nn : ¬ NN ∈ f
  lay : lL.filter (fun e => decide (e.1 ≠ NN)) = l
theorem par_nn (R : Two) : par R NN = false := rfl
theorem find_rel {R : Two} : ∀ {lL : List En2}, (lL.find? fun e : En2 => par R e.1) = (lL.filter fun e => decide (e.1 ≠ NN)).find? fun e : En2 => par R e.1
  | [] => rfl
  | e :: lL => by
    rw [List.filter_cons]
    by_cases z : e.1 = NN
    · rw [if_neg (by simp [z]), List.find?_cons_of_neg (by rw [z, par_nn]; decide)]
      exact find_rel
    · rw [if_pos (by simp [z]), List.find?_cons, List.find?_cons, find_rel (lL := lL)]
theorem nx_nn (R : Two) (c : Str) : nx2 R NN c = NN := rfl
theorem ext1_rel {R : Two} {e : En2} {c : Str} {f fL : List Pr} {l lL : List En2} (h : Rel R f fL l lL) : (nx2 R e.1 c ≠ NN → Rel R (ext1 R e (f, l) c).1 (ext1 R e (fL, lL) c).1 (ext1 R e (f, l) c).2 (ext1 R e (fL, lL) c).2) ∧ (nx2 R e.1 c = NN → Rel R f (ext1 R e (fL, lL) c).1 l (ext1 R e (fL, lL) c).2) := by
  refine ⟨fun n => ?_, fun n => ?_⟩
  · unfold ext1
    by_cases m : nx2 R e.1 c ∈ f
    · rw [if_pos m, if_pos ((h.mem _ n).mpr m)]
      exact h
    · rw [if_neg m, if_neg (fun z => m ((h.mem _ n).mp z))]
      refine ⟨fun p hp => ?_, fun z => ?_, ?_⟩
      · show p ∈ fL ++ [nx2 R e.1 c] ↔ p ∈ f ++ [nx2 R e.1 c]
        rw [List.mem_append, List.mem_append, h.mem p hp]
      · rcases List.mem_append.mp z with z | z
        · exact h.nn z
        · exact n (List.mem_singleton.mp z).symm
      · show (lL ++ [(nx2 R e.1 c, e.2 ++ c)]).filter (fun e : En2 => decide (e.1 ≠ NN)) = l ++ [(nx2 R e.1 c, e.2 ++ c)]
        rw [List.filter_append, h.lay]
        congr 1
        rw [List.filter_cons, if_pos (decide_eq_true n)]
        rfl
  · unfold ext1
    by_cases m : nx2 R e.1 c ∈ fL
    · rw [if_pos m]
      exact h
    · rw [if_neg m]
      refine ⟨fun p hp => ?_, h.nn, ?_⟩
      · show p ∈ fL ++ [nx2 R e.1 c] ↔ p ∈ f
        rw [List.mem_append, h.mem p hp]
        refine ⟨fun z => z.elim id fun z => absurd ?_ hp, .inl⟩
        rw [List.mem_singleton.mp z]
        exact n
      · show (lL ++ [(nx2 R e.1 c, e.2 ++ c)]).filter (fun e : En2 => decide (e.1 ≠ NN)) = l
        rw [List.filter_append, h.lay, List.filter_cons, if_neg (by simp [n])]
        simp
theorem fold_rel {R : Two} {e : En2} : ∀ (cs : List Str) {f fL : List Pr} {l lL : List En2}, Rel R f fL l lL →
    Rel R ((cs.filter fun c => decide (nx2 R e.1 c ≠ NN)).foldl (ext1 R e) (f, l)).1 (cs.foldl (ext1 R e) (fL, lL)).1 ((cs.filter fun c => decide (nx2 R e.1 c ≠ NN)).foldl (ext1 R e) (f, l)).2 (cs.foldl (ext1 R e) (fL, lL)).2
  | [], _, _, _, _, h => h
  | c :: cs, f, fL, l, lL, h => by
    obtain ⟨a, b⟩ := ext1_rel (e := e) (c := c) h
    rw [List.filter_cons]
    by_cases n : nx2 R e.1 c = NN
    · rw [if_neg (by simp [n])]
      exact fold_rel cs (b n)
    · rw [if_pos (by simp [n])]
      exact fold_rel cs (a n)
/-- signs that lead somewhere are among the three -/
def Few (R : Two) : Prop := (∀ x ∈ R.xs, x.2.1 ∈ L3s) ∧ ∀ x ∈ R.ys, x.2.1 ∈ L3s
theorem nx_none_of {xs : List T3} {q : Int} {c : Str} (h : ∀ x ∈ xs, x.2.1 ∈ L3s) (n : ¬ c ∈ L3s) : nx xs q c = none := by
  unfold nx
  have : ∀ (xs : List T3), (∀ x ∈ xs, x.2.1 ∈ L3s) → xs.foldl (fun o x => if x.1 = q ∧ x.2.1 = c then some x.2.2 else o) (none : Option Int) = none := by
    intro xs
    induction xs with
    | nil => exact fun _ => rfl
    | cons x xs ih =>
      intro h
      rw [List.foldl_cons, if_neg (fun z => n (by rw [← z.2]; exact h x (List.mem_cons_self ..)))]
      exact ih fun y hy => h y (List.mem_cons_of_mem _ hy)
  exact this xs h
theorem nx2_none {R : Two} (F : Few R) {p : Pr} {c : Str} (n : ¬ c ∈ L3s) : nx2 R p c = NN := by
  obtain ⟨a, b⟩ := p
  unfold nx2
  refine Prod.ext ?_ ?_
  · cases a with
    | none => rfl
    | some q => exact nx_none_of F.1 n
  · cases b with
    | none => rfl
    | some q => exact nx_none_of F.2 n
theorem filt_three {R : Two} (F : Few R) (p : Pr) {all : List Str} (h : all.filter (fun c => decide (c ∈ L3s)) = L3s) : all.filter (fun c => decide (nx2 R p c ≠ NN)) = sgP R p := by
  unfold sgP
  rw [← h, List.filter_filter]
  refine List.filter_congr fun c _ => ?_
  by_cases m : c ∈ L3s
  · simp [m]
  · simp [m, nx2_none F (p := p) m]
theorem lay_rel {R : Two} (F : Few R) {all : List Str} (h3 : all.filter (fun c => decide (c ∈ L3s)) = L3s) : ∀ (lL : List En2) {f fL : List Pr} {l' lL' : List En2}, Rel R f fL l' lL' →
    Rel R ((lL.filter fun e => decide (e.1 ≠ NN)).foldl (ext R (sgP R)) (f, l')).1 (lL.foldl (ext R fun _ => all) (fL, lL')).1 ((lL.filter fun e => decide (e.1 ≠ NN)).foldl (ext R (sgP R)) (f, l')).2 (lL.foldl (ext R fun _ => all) (fL, lL')).2
  | [], _, _, _, _, h => h
  | e :: lL, f, fL, l', lL', h => by
    have a := fold_rel (e := e) all h
    rw [filt_three F e.1 h3] at a
    rw [List.filter_cons]
    by_cases n : e.1 = NN
    · rw [if_neg (by simp [n])]
      have z : sgP R e.1 = [] := by
        unfold sgP
        rw [n]
        rfl
      rw [z] at a
      exact lay_rel F h3 lL a
    · rw [if_pos (by simp [n])]
      exact lay_rel F h3 lL a
/-- both searches tell the same -/
theorem par_same {R : Two} (F : Few R) {all : List Str} (h3 : all.filter (fun c => decide (c ∈ L3s)) = L3s) {f : List Pr} {l : List En2} {r : Option Str} (h : Par R (sgP R) f l r) :
    ∀ {fL : List Pr} {lL : List En2} {r' : Option Str}, Rel R f fL l lL → Par R (fun _ => all) fL lL r' → r = r' := by
  have dead : ∀ {f fL : List Pr} {lL : List En2} {r' : Option Str}, Par R (fun _ => all) fL lL r' → Rel R f fL [] lL → r' = none := by
    intro f fL lL r' h
    induction h generalizing f with
    | nil => exact fun _ => rfl
    | hit e =>
      intro R0
      rw [find_rel, R0.lay] at e
      cases e
    | @go f' l' r' e n h' ih =>
      intro R0
      have z := lay_rel F h3 l' (f := f) (fL := f') (l' := []) (lL' := []) ⟨R0.mem, R0.nn, rfl⟩
      rw [R0.lay] at z
      exact ih z
  induction h with
  | nil =>
    intro fL lL r' R0 h'
    exact (dead h' R0).symm
  | @hit f l p t e =>
    intro fL lL r' R0 h'
    have e2 : (lL.find? fun e : En2 => par R e.1) = some (p, t) := by rw [find_rel, R0.lay]; exact e
    exact (Par.hit (f := fL) (sg := fun _ => all) e2).uniq h'
  | @go f l r e n h ih =>
    intro fL lL r' R0 h'
    have e2 : (lL.find? fun e : En2 => par R e.1) = none := by rw [find_rel, R0.lay]; exact e
    have nl : lL ≠ [] := fun z => n (by rw [← R0.lay, z]; rfl)
    cases h' with
    | nil => exact absurd rfl nl
    | hit e3 =>
      rw [e2] at e3
      cases e3
    | go _ _ h2 =>
      have z := lay_rel F h3 lL (f := f) (fL := fL) (l' := []) (lL' := []) ⟨R0.mem, R0.nn, rfl⟩
      rw [R0.lay] at z
      exact ih z h2
/-! ### whichever is first -/
def Two.swap (R : Two) : Two := ⟨R.ys, R.hs, R.xs, R.gs⟩
def sw (p : Pr) : Pr := (p.2, p.1)
def swE (e : En2) : En2 := (sw e.1, e.2)
theorem sw_inj {a b : Pr} (h : sw a = sw b) : a = b := Prod.ext (congrArg Prod.snd h) (congrArg Prod.fst h)
theorem nx_sw (R : Two) (p : Pr) (c : Str) : nx2 R.swap (sw p) c = sw (nx2 R p c) := rfl
theorem par_sw (R : Two) (p : Pr) : par R.swap (sw p) = par R p := by
  show ((acc R.hs p.2) != (acc R.gs p.1)) = ((acc R.gs p.1) != (acc R.hs p.2))
  cases acc R.hs p.2 <;> cases acc R.gs p.1 <;> rfl
theorem sg_sw (R : Two) (p : Pr) : sgP R.swap (sw p) = sgP R p := by
  unfold sgP
  refine List.filter_congr fun c _ => decide_eq_decide.mpr (not_congr ?_)
  rw [nx_sw]
  exact ⟨fun h => sw_inj (b := NN) h, fun h => by rw [h]; rfl⟩
theorem mem_sw {f : List Pr} {p : Pr} : sw p ∈ f.map sw ↔ p ∈ f := by
  rw [List.mem_map]
  exact ⟨fun ⟨q, h, e⟩ => sw_inj e ▸ h, fun h => ⟨p, h, rfl⟩⟩
theorem ext1_sw (R : Two) (e : En2) (f : List Pr) (l : List En2) (c : Str) : ext1 R.swap (swE e) (f.map sw, l.map swE) c = ((ext1 R e (f, l) c).1.map sw, (ext1 R e (f, l) c).2.map swE) := by
  unfold ext1
  have e1 : nx2 R.swap (swE e).1 c = sw (nx2 R e.1 c) := rfl
  rw [e1]
  by_cases m : nx2 R e.1 c ∈ f
  · rw [if_pos m, if_pos (mem_sw.mpr m)]
  · rw [if_neg m, if_neg (fun z => m (mem_sw.mp z))]
    simp only [List.map_append]
    rfl
theorem fold_sw (R : Two) (e : En2) : ∀ (cs : List Str) (f : List Pr) (l : List En2), cs.foldl (ext1 R.swap (swE e)) (f.map sw, l.map swE) = (((cs.foldl (ext1 R e) (f, l)).1).map sw, ((cs.foldl (ext1 R e) (f, l)).2).map swE)
  | [], f, l => rfl
  | c :: cs, f, l => by
    rw [List.foldl_cons, List.foldl_cons, ext1_sw]
    exact fold_sw R e cs _ _
theorem lay_sw (R : Two) : ∀ (l : List En2) (f : List Pr) (l' : List En2), (l.map swE).foldl (ext R.swap (sgP R.swap)) (f.map sw, l'.map swE) = (((l.foldl (ext R (sgP R)) (f, l')).1).map sw, ((l.foldl (ext R (sgP R)) (f, l')).2).map swE)
  | [], f, l' => rfl
  | e :: l, f, l' => by
    rw [List.map_cons, List.foldl_cons, List.foldl_cons]
    have : ext R.swap (sgP R.swap) (f.map sw, l'.map swE) (swE e) = ((ext R (sgP R) (f, l') e).1.map sw, (ext R (sgP R) (f, l') e).2.map swE) := by
      unfold ext
      rw [show sgP R.swap (swE e).1 = sgP R e.1 from sg_sw R e.1]
      exact fold_sw R e _ f l'
    rw [this]
    exact lay_sw R l _ _
theorem find_sw (R : Two) : ∀ l : List En2, ((l.map swE).find? fun e : En2 => par R.swap e.1) = (l.find? fun e : En2 => par R e.1).map swE
  | [] => rfl
  | e :: l => by
    rw [List.map_cons, List.find?_cons, List.find?_cons, show par R.swap (swE e).1 = par R e.1 from par_sw R e.1, find_sw R l]
    cases par R e.1 <;> rfl
theorem Par.swapped {R : Two} {f : List Pr} {l : List En2} {r : Option Str} (h : Par R (sgP R) f l r) : Par R.swap (sgP R.swap) (f.map sw) (l.map swE) r := by
  induction h with
  | nil => exact .nil
  | @hit f l p t e => exact .hit (p := sw p) (by rw [find_sw, e]; rfl)
  | @go f l r e n h ih =>
    refine .go (by rw [find_sw, e]; rfl) (fun z => n (List.map_eq_nil_iff.mp z)) ?_
    have z := lay_sw R l f []
    unfold lay
    rw [show (f.map sw, ([] : List En2)) = (f.map sw, ([] : List En2).map swE) from rfl, z]
    exact ih
/-! ### what is told is a text that one of the two alone takes -/
def ldE (R : Two) (e : En2) : Prop := e.1 = (ldF R.xs (some 0) (chs e.2), ldF R.ys (some 0) (chs e.2)) ∧ ∀ c ∈ sl e.2, c ∈ Ltr
theorem three_one {c : Str} (h : c ∈ L3s) : ∃ n ∈ Ltr, sl c = [n] ∧ chs c = [c] := by
  rcases List.mem_cons.mp h with rfl | h
  · exact ⟨64, by decide, by decide +kernel, by decide +kernel⟩
  · rcases List.mem_cons.mp h with rfl | h
    · exact ⟨97, by decide, by decide +kernel, by decide +kernel⟩
    · rw [List.mem_singleton.mp h]
      exact ⟨98, by decide, by decide +kernel, by decide +kernel⟩
theorem chs_app (a b : Str) : chs (a ++ b) = chs a ++ chs b := by
  unfold chs
  rw [sl_app, List.map_append]
theorem ldE_ext {R : Two} {e : En2} {c : Str} (h : ldE R e) (hc : c ∈ L3s) : ldE R (nx2 R e.1 c, e.2 ++ c) := by
  obtain ⟨n, hn, e1, e2⟩ := three_one hc
  refine ⟨?_, fun x hx => ?_⟩
  · show nx2 R e.1 c = (ldF R.xs (some 0) (chs (e.2 ++ c)), ldF R.ys (some 0) (chs (e.2 ++ c)))
    rw [chs_app, e2, ldF_snoc, ldF_snoc, h.1]
    rfl
  · show x ∈ Ltr
    have hx : x ∈ sl (e.2 ++ c) := hx
    rw [sl_app, e1] at hx
    rcases List.mem_append.mp hx with z | z
    · exact h.2 x z
    · rw [List.mem_singleton.mp z]
      exact hn
theorem lay_ld {R : Two} (l : List En2) : ∀ {z : FL}, (∀ e ∈ l, ldE R e) → (∀ e ∈ z.2, ldE R e) → ∀ e ∈ (l.foldl (ext R (sgP R)) z).2, ldE R e := by
  induction l with
  | nil => exact fun _ h => h
  | cons e l ih =>
    intro z h1 h2
    rw [List.foldl_cons]
    refine ih (fun e he => h1 e (List.mem_cons_of_mem _ he)) ?_
    unfold ext
    have he := h1 e (List.mem_cons_self ..)
    have : ∀ (cs : List Str) (z : FL), (∀ c ∈ cs, c ∈ L3s) → (∀ e ∈ z.2, ldE R e) → ∀ e' ∈ (cs.foldl (ext1 R e) z).2, ldE R e' := by
      intro cs
      induction cs with
      | nil => exact fun _ _ h => h
      | cons c cs ih =>
        intro z hc hz
        rw [List.foldl_cons]
        refine ih _ (fun c hc' => hc c (List.mem_cons_of_mem _ hc')) ?_
        unfold ext1
        split
        · exact hz
        · intro e' h'
          rcases List.mem_append.mp h' with h' | h'
          · exact hz e' h'
          · rw [List.mem_singleton.mp h']
            exact ldE_ext he (hc c (List.mem_cons_self ..))
    exact this _ z (fun c hc => (List.mem_filter.mp hc).1) h2
theorem Par.is {R : Two} {f : List Pr} {l : List En2} {r : Option Str} (h : Par R (sgP R) f l r) (hl : ∀ e ∈ l, ldE R e) : ∀ s, r = some s → ∃ (p : Pr) (t : Str), s = t ++ ";" ∧ ldE R (p, t) ∧ par R p = true := by
  induction h with
  | nil => exact fun s e => by cases e
  | @hit f l p t e =>
    intro s es
    cases es
    have m := List.mem_of_find?_eq_some e
    exact ⟨p, t, rfl, hl _ m, (by simpa using List.find?_some e)⟩
  | @go f l r e n h ih => exact ih (lay_ld l hl fun e h => by cases h)
end K10

set_option Elab.async false
set_option linter.all false
set_option maxRecDepth 100000
set_option maxHeartbeats 4000000
/-! {k: v} of one key that is a nested tuple. -/
namespace L2
open PySem PySem.Spec PyProof.Rows
section
variable {X : Cx} {k v : Expr} {pos : Pos} {ty tv : TE} {B : Bool}
def tNDisp (P : Program) (w : World) (B : Bool) (ty tv : TE) : TE := fun σ H Q => ∀ p, H p = none → ty σ (upd H p (DNo P w p [])) fun y H1 => tv σ H1 fun z H2 => ∃ b key, y = .ref b ∧ H2 p = some (DNo P w p []) ∧ KeyB B H2 key b ∧
  ∀ H3, OnlyAt H2 H3 p → DN P w B H3 p [(key, z)] → Q (.ref p) H3
theorem pe_ndisp (hu : X.A.units + 9 < cLine) (hk : PE X k ty) (hv : PE X v tv) : PE X (.Dict [some k] [v] pos) (tNDisp X.prog X.w B ty tv) := by
  refine ⟨fun pins s σ H Q I h => ?_⟩
  have hn := I.hok.fresh (Nat.le_refl s.heap.objs.size)
  have I0 := I.laid (a := s.heap.objs.size) (o := DNo X.prog X.w s.heap.objs.size []) (h' := s.heap.push { cls := .type "dict", data := .dict #[] }) (t' := s.toks) (fun _ _ q => Heap.get?_push_of_some _ q) (Nat.le_refl _) (n_new s.heap I.big)
  have two := hk.run pins _ σ _ _ I0 (h _ hn)
  generalize hp : s.heap.objs.size = p at I0 two hn
  have np : pairTrees [some k] [v] X.env pos ≠ [] := fun e => by
    have := pairTrees_length [some k] [v] X.env pos rfl rfl
    rw [e] at this
    cases this
  have lp : (pairTrees [some k] [v] X.env pos).length ≤ 15 := by
    rw [pairTrees_length [some k] [v] X.env pos rfl rfl]
    show 1 ≤ 15
    decide
  rw [arm_eval_Dict, zip_pairTrees [some k] [v] X.env pos rfl rfl, dictDisplay_pairs _ np (by omega)]
  refine wpAny_bind (wpAny_standAt (wpAny_bind (wpAny_subDictH (knd := nestedKind X.prog X.w) (show X.A.units + 8 < cLine by omega) lp ?_)))
  rw [hp]
  refine pairTrees_cons_walk (thn two fun u s1 ⟨y, H1, I1, ry, q1⟩ => thn (hv.run pins s1 σ H1 _ I1 q1) fun r s2 ⟨z, H2, I2, rz, b, key, ey, e, kb, q2⟩ => pairTrees_nil_walk ?_)
  subst ey
  obtain rfl : u = Value.ref b := ry
  obtain ⟨zf, _, _⟩ := (show ObjOk X.prog X.w H2 s2.heap p (DNo X.prog X.w p []) from I2.hok p _ e)
  obtain ⟨zl, hd, ys, rel, o, es, ep, h1, h2, h3, h4, h5⟩ := id zf
  cases rel
  refine ⟨[(key, b, r)], ⟨rfl, rfl, kb.is I2.hok, trivial⟩, ⟨o, es, ep, h1, h2, h3, h4, (fun x hx => nomatch hx), h5⟩, fun h' tk dd hs => wpAny_pure ?_⟩
  obtain ⟨H', I', o1, d1⟩ := n_put (t' := tk) (ys := []) I2 e (fun x hx => (nomatch hx)) hs zf kb rz (by show 0 < sizeLine; decide) .nil dd
  exact ⟨.ref p, H', I', rfl, q2 H' o1 d1⟩
end
end L2

set_option Elab.async false
set_option linter.all false
set_option maxRecDepth 100000
set_option maxHeartbeats 8000000
/-! need_reader and rows_of, of right readers and of the one that takes nothing. -/
namespace K10
open PySem L2 L2.EV
theorem fnOk_or {P : Program} {w : World} {K : PySem.W.Frag} {mg : Str → Option Value} {base : Heap} {CX : CXT} {k : Nat} {f : Addr} {fd : FuncData} {ps : List Str} {sp sp2 : Sp} (F : FnOk P w K mg base CX k f fd ps sp) (G : FnOk P w K mg base CX k f fd ps sp2) : FnOk P w K mg base CX k f fd ps (fun vs H Q E => sp vs H Q E ∨ sp2 vs H Q E) :=
  ⟨fun vs H Q E q => q.elim (F.len vs H Q E) (G.len vs H Q E), fun A outer s H args us vs Q E hr he hb hv hs => hs.elim (F.run A outer s H args us vs Q E hr he hb hv) (G.run A outer s H args us vs Q E hr he hb hv)⟩
theorem fnOk_weak {P : Program} {w : World} {K : PySem.W.Frag} {mg : Str → Option Value} {base : Heap} {CX : CXT} {k : Nat} {f : Addr} {fd : FuncData} {ps : List Str} {sp sp2 : Sp} (F : FnOk P w K mg base CX k f fd ps sp) (h : ∀ vs H Q E, sp2 vs H Q E → sp vs H Q E) : FnOk P w K mg base CX k f fd ps sp2 :=
  ⟨fun vs H Q E q => F.len vs H Q E (h _ _ _ _ q), fun A outer s H args us vs Q E hr he hb hv hs => F.run A outer s H args us vs Q E hr he hb hv (h _ _ _ _ hs)⟩
/-- the reader of the program's top that takes nothing -/
structure Kon (K : PySem.W.Frag) (mg : Str → Option Value) where
  n : Addr
  t1 : Addr
  t2 : Addr
  m : mg "NOTHING_TAKEN" = some (.ref n)
  kn : ∀ H, SqT K H n [.ref t1, .ref t2]
  k1 : ∀ H, SqT K H t1 []
  k2 : ∀ H, SqT K H t2 []
  yn : ∀ H, TyX K H (.ref n) (.type "tuple")
  y1 : ∀ H, TyX K H (.ref t1) (.type "tuple")
  y2 : ∀ H, TyX K H (.ref t2) (.type "tuple")
/-- a right reader somewhere, or that one -/
def RdQ (nA : Addr) (H : Hp) (v : V) (xs : List T3) (gs : List Int) : Prop := (Da H v (rdT xs gs) ∧ RdD (rdT xs gs) ∧ xs.length ≤ 12800) ∨ (v = .ref nA ∧ xs = [] ∧ gs = [])
theorem RdQ.same {nA : Addr} {H H' : Hp} {v : V} {xs : List T3} {gs : List Int} (h : RdQ nA H v xs gs) (s : Same H H') : RdQ nA H' v xs gs := by
  rcases h with ⟨a, b, c⟩ | h
  · exact .inl ⟨Da.same s _ _ a, b, c⟩
  · exact .inr h
def spNeedQ (nA : Addr) : Sp := fun vs H Q _ => ∃ (v : V) (xs : List T3) (gs : List Int), vs = [v] ∧ RdQ nA H v xs gs ∧ ∀ H', Same H H' → Q v H'
def spRowsQ (nA : Addr) : Sp := fun vs H Q _ => ∃ (v : V) (xs : List T3) (gs : List Int), vs = [v] ∧ RdQ nA H v xs gs ∧ ∀ H' p kvs, RB H H' p 25600 kvs xs → Q (.ref p) H'
section
variable {P : Program} {w : World} {K : PySem.W.Frag} {mg : Str → Option Value} {base : Heap}
theorem ok_needK (R : Rs K mg) (C : Kon K mg) {f : Addr} {fd : FuncData} (F : Fun K "need_reader" "need_reader" sNeedR f fd) : FnOk P w K mg base CX0 3 f fd ["thing"] (fun vs H Q _ => vs = [.ref C.n] ∧ Q (.ref C.n) H) := by
  have GN : FnOk P w K mg base CX0 1 R.Z.fN R.Z.dN ["thing", "many"] spNumD := ok_numD R.Z.N R.Z.T
  have GU : FnOk P w K mg base CX0 2 R.fU R.dU ["thing"] spRule := ok_rule R
  refine F.ok scNeedR (fun vs H Q E h => ?_) (fun cdv A outer s H vs Q E hr h => ?_)
  · rw [h.1]
    rfl
  · obtain ⟨rfl, q⟩ := h
    obtain ⟨tm, eM⟩ := R.states
    have r1 := hr.mono (j := 1) (by omega)
    have hu := hu_of hr
    have hu0 : (A.deeper (PyProof.Rows.envOfC "need_reader" (defScope sNeedR) s.heap.objs.size f cdv)).units < cLine := by omega
    refine ⟨_, pss_cons (ps_if (pw_or (pt_not (pt_val (pe_callB call_isi (by rfl) R.Z.T.isi PyProof.Rows.boot_isinstance (pa_cons (pv 0) (pa_cons (pe_bltn (v := .ty "tuple") (by rfl) R.Z.T.tuple (by decide +kernel) rfl) pa_nil)))))
        (pw_or1 (pt_cmpR op_ne (pe_callB call_len_seq (by rfl) R.Z.T.len PySem.boot_len (pa_cons (pv 0) pa_nil)) pe_int (nomark _)))).pt
        pss_never pss_nil)
      (pss_cons (ps_asg (pv 0) (pg_tup rfl (pgs_cons (pg_name (i := 1) scNeedR.nd rfl (Or.inl rfl)) (pgs_cons (pg_name (i := 2) scNeedR.nd rfl (Or.inl rfl)) pgs_nil))))
      (pss_cons (ps_if (pw_or (pt_not (pt_val (pe_callB call_isi (by rfl) R.Z.T.isi PyProof.Rows.boot_isinstance (pa_cons (pv 1) (pa_cons (pe_bltn (v := .ty "tuple") (by rfl) R.Z.T.tuple (by decide +kernel) rfl) pa_nil)))))
        (pw_or1 (pt_not (pt_val (pe_callB call_isi (by rfl) R.Z.T.isi PyProof.Rows.boot_isinstance (pa_cons (pv 2) (pa_cons (pe_bltn (v := .ty "tuple") (by rfl) R.Z.T.tuple (by decide +kernel) rfl) pa_nil))))))).pt
        pss_never pss_nil)
      (pss_cons (ps_for (PassesOwn.never) rfl (pi_enumT (by rfl) R.Z.en (pa_cons (pv 1) pa_nil)) (pg_tup rfl (pgs_cons (pg_name (i := 3) scNeedR.nd rfl (Or.inl rfl)) (pgs_cons (pg_name (i := 4) scNeedR.nd rfl (Or.inl rfl)) pgs_nil)))
        (pss_one (ps_if (pw_or (pt_not (pt_val (pe_call GU (hr.mono (j := 2) (by omega)) (by rfl) R.mU R.U.kp R.bU .nil pass0 (pa_cons (pv 4) pa_nil))))
          (pw_or1 (pw_and (pt_cmpR op_gt (pv 3) pe_int (nomark _)) (pw_and1 (pt_cmpR (op_leIS hu0) (pe_slice sl_tupS (pv 4) po_none (po_some pe_int)) (pe_slice sl_tupS (pe_ix ix_tup (pv 1) (pe_op op_sub (pv 3) pe_int) (fun _ _ => rfl)) po_none (po_some pe_int)) (nomark _)))).pt)).pt
          pss_never pss_nil)))
      (pss_cons (ps_for (PassesOwn.never) rfl (pi_enumT (by rfl) R.Z.en (pa_cons (pv 2) pa_nil)) (pg_tup rfl (pgs_cons (pg_name (i := 3) scNeedR.nd rfl (Or.inl rfl)) (pgs_cons (pg_name (i := 5) scNeedR.nd rfl (Or.inl rfl)) pgs_nil)))
        (pss_one (ps_if (pw_or (pt_not (pt_val (pe_call GN r1 (by rfl) R.Z.mN R.Z.N.kp R.Z.bN .nil pass0 (pa_cons (pv 5) (pa_cons (pe_glob (v := .int 200) (by rfl) eM ⟨_, rfl⟩) pa_nil)))))
          (pw_or1 (pw_and (pt_cmpR op_gt (pv 3) pe_int (nomark _)) (pw_and1 (pt_cmpR op_le (pv 5) (pe_ix ix_tup (pv 2) (pe_op op_sub (pv 3) pe_int) (fun _ _ => rfl)) (nomark _)))).pt)).pt
          pss_never pss_nil)))
      (pss_one (ps_ret (pv 0))))))), ?_⟩
    refine ⟨_, rfl, .ref C.n, .ty "tuple", .type "tuple", .type "tuple", true, rfl, .ty "tuple", C.yn H, kit_ty (r := true) (by decide +kernel), true, rfl, iteF ?_⟩
    refine ⟨_, rfl, C.n, _, rfl, .inr (C.kn H), rfl, _, rfl, iteF' (by simp) ?_⟩
    refine ⟨_, rfl, C.n, _, rfl, C.kn H, rfl, _, _, rfl, _, _, rfl, rfl, ?_⟩
    refine ⟨_, rfl, .ref C.t1, .ty "tuple", .type "tuple", .type "tuple", true, rfl, .ty "tuple", C.y1 H, kit_ty (r := true) (by decide +kernel), true, rfl, iteF ?_⟩
    refine ⟨_, rfl, .ref C.t2, .ty "tuple", .type "tuple", .type "tuple", true, rfl, .ty "tuple", C.y2 H, kit_ty (r := true) (by decide +kernel), true, rfl, iteF ?_⟩
    refine ⟨_, rfl, C.t1, [], rfl, C.k1 H, for_it (walk_enumT (xs := [])) (fun i σ H' => σ = [some (.ref C.n), some (.ref C.t1), some (.ref C.t2), none, none, none] ∧ H' = H) ⟨rfl, rfl⟩ (fun i σ H' _ z => by rw [z.2]; exact C.k1 H) (fun i x σ H1 H2 hi => absurd hi (Nat.not_lt_zero _)) ?_⟩
    rintro σ H1 ⟨rfl, rfl⟩
    refine ⟨_, rfl, C.t2, [], rfl, C.k2 H1, for_it (walk_enumT (xs := [])) (fun i σ H' => σ = [some (.ref C.n), some (.ref C.t1), some (.ref C.t2), none, none, none] ∧ H' = H1) ⟨rfl, rfl⟩ (fun i σ H' _ z => by rw [z.2]; exact C.k2 H1) (fun i x σ H1 H2 hi => absurd hi (Nat.not_lt_zero _)) ?_⟩
    rintro σ H2 ⟨rfl, rfl⟩
    exact ⟨_, rfl, q⟩
theorem ok_needQ (R : Rs K mg) (C : Kon K mg) {f : Addr} {fd : FuncData} (F : Fun K "need_reader" "need_reader" sNeedR f fd) : FnOk P w K mg base CX0 3 f fd ["thing"] (spNeedQ C.n) := by
  refine fnOk_weak (fnOk_or (fnOk0 (sp2 := fun vs H Q _ => ∃ (v : V) (xs : List T3) (gs : List Int), vs = [v] ∧ Da H v (rdT xs gs) ∧ RdD (rdT xs gs) ∧ ∀ H', Same H H' → Q v H') (ok_needR R F) fun vs H Q E h => ?_) (ok_needK R C F)) fun vs H Q E h => ?_
  · obtain ⟨v, xs, gs, rfl, da, rd, q⟩ := h
    refine ⟨v, rdT xs gs, rfl, da, rd_sz rd, ?_⟩
    rw [rd_ok rd]
    exact q
  · obtain ⟨v, xs, gs, rfl, h | ⟨rfl, rfl, rfl⟩, q⟩ := h
    · exact .inl ⟨v, xs, gs, rfl, h.1, h.2.1, q⟩
    · exact .inr ⟨rfl, q _ (Same.refl H)⟩
theorem ok_rowsK (C : Kon K mg) {f : Addr} {fd : FuncData} (F : Fun K "rows_of" "rows_of" sRows f fd) : FnOk P w K mg base CX0 1 f fd ["reader"] (fun vs H Q _ => vs = [.ref C.n] ∧ ∀ H' p kvs, RB H H' p 25600 kvs [] → Q (.ref p) H') := by
  refine F.ok scRows (fun vs H Q E h => ?_) (fun cdv A outer s H vs Q E hr h => ?_)
  · rw [h.1]
    rfl
  · obtain ⟨rfl, q⟩ := h
    have hu : (A.deeper (PyProof.Rows.envOfC "rows_of" (defScope sRows) s.heap.objs.size f cdv)).units + 1 < cLine := by have := hr.un; omega
    refine ⟨_, pss_cons (ps_set (i := 1) scRows.nd rfl (Or.inl rfl) pe_dnewK)
      (pss_cons (ps_for PassesOwn.never rfl (pi_tup (pe_ix ix_tup (pv 0) pe_int (fun _ _ => rfl))) (pg_tup rfl (pgs_cons (pg_name (i := 2) scRows.nd rfl (Or.inl rfl)) (pgs_cons (pg_name (i := 3) scRows.nd rfl (Or.inl rfl)) (pgs_cons (pg_name (i := 4) scRows.nd rfl (Or.inl rfl)) pgs_nil))))
        (pss_cons (ps_set (i := 5) scRows.nd rfl (Or.inl rfl) (pe_dsetd (pv 1) (pv 2) pe_dnewK ⟨rfl, rfl, rfl, rfl⟩))
        (pss_one (ps_dput hu (pv 5) (pv 3) (pv 4) rfl))))
      (pss_one (ps_ret (pv 1)))), ?_⟩
    intro p hp
    have u1 := same_upd (o := HO.dK []) hp
    refine gName_go2 ?_
    refine ⟨_, rfl, C.n, _, 0, .ref C.t1, rfl, rfl, C.kn _, rfl, C.t1, rfl, ⟨_, C.k1 _⟩, for_it (walk_tup (xs := [])) (fun i σ H' => σ = [some (.ref C.n), some (.ref p), none, none, none, none] ∧ H' = upd H p (.dK [])) ⟨rfl, rfl⟩ (fun i σ H' _ _ => C.k1 _) (fun i x σ H1 H2 hi => absurd hi (Nat.not_lt_zero _)) ?_⟩
    rintro σ H1 ⟨rfl, rfl⟩
    exact ⟨_, rfl, q _ p [] ⟨upd_same, hp, Nat.zero_le _, (fun q v h => by cases h), (fun q h c => rfl), (fun q q' v h => by cases h), u1⟩⟩
theorem ok_rowsQ (C : Kon K mg) {f : Addr} {fd : FuncData} (F : Fun K "rows_of" "rows_of" sRows f fd) : FnOk P w K mg base CX0 1 f fd ["reader"] (spRowsQ C.n) := by
  refine fnOk_weak (fnOk_or (ok_rows F) (ok_rowsK C F)) fun vs H Q E h => ?_
  obtain ⟨v, xs, gs, rfl, ⟨da, rd, xl⟩ | ⟨rfl, rfl, rfl⟩, q⟩ := h
  · obtain ⟨r, rfl, ra⟩ := rda_of da
    exact .inl ⟨r, xs, gs, rfl, ra, xl, q⟩
  · exact .inr ⟨rfl, q⟩
end
end K10

set_option Elab.async false
set_option linter.all false
set_option maxRecDepth 100000
set_option maxHeartbeats 4000000
/-! Sets of ints: the call set(list). -/
namespace SX
open PySem PySem.Spec PyProof.Rows L2
section
variable {prog : Program} {w : World} {A : Around} {E : Value → Shared → Prop} {s : Shared}
theorem madeI {l : Addr} {vs : Array Value} {ns : List Int} {Q : Value → Shared → Prop} (nh : A.handled = none) (il : s.heap.IsList l vs) (ev : IntsAre vs.toList ns) (fw : ns.length + 1 < scanBound)
    (q : ∀ (h' : Heap) (tk c : Nat), c ≤ ns.length → SetR w h' s.heap.objs.size (fun j => decide (j ∈ ns)) c → (∀ b o, s.heap.get? b = some o → h'.get? b = some o) → Q (.ref s.heap.objs.size) { s with heap := h', toks := tk }) :
    wpAny (model prog w) A (call (.type "set") [.ref l]) Q E s := by
  have n0 : vs.size = ns.length := by
    rw [← Array.length_toList]
    exact ev.length
  obtain ⟨m1, m2, mro⟩ := F.called_set.mro
  have f1 := F.called_set.made
  have f2 := F.called_set.sub
  have f3 := F.called_set.notType
  have f4 := F.called_set.canCreate
  have f5 := F.typeCall_set_1 (.ref l)
  refine wpAny_call (codeAny_of_tree ?_)
  show wpAny _ _ (callAny (.type "set") _) _ _ _
  refine wpAny_pure ⟨Code.quiet_builtin _ (by decide +kernel), codeAny_builtin F.entry_type_call ?_⟩
  rw [Around.under_plain (weight_type_call_type "set" [.ref l] []) rfl]
  repeat any_goals (first | assumption | wp_step)
  refine codeAny_mono (code_set_led1 (.ref l) (E := E) (Q₁ := fun v s1 => v = .ref s.heap.objs.size ∧ s1 = { s with heap := s.heap.push (emptySet w) }) ⟨rfl, rfl⟩) fun fl s1 r1 => ?_
  match fl, r1 with
  | .error e, r1 => exact r1
  | .ok .next, r1 => exact r1.elim
  | .ok .brk, r1 => exact r1.elim
  | .ok .cont, r1 => exact r1.elim
  | .ok (.ret v), r1 =>
    obtain ⟨rfl, rfl⟩ := r1
    have at_ : (s.heap.push (emptySet w)).get? s.heap.objs.size = some (emptySet w) := Heap.get?_push_size _ rfl
    have ty : Shared.TypeIs { s with heap := s.heap.push (emptySet w) } (.ref s.heap.objs.size) "set" := ⟨_, at_, rfl⟩
    have g1 := F.called_set.init.lookup
    have g2 := F.called_set.init.bind (.ref s.heap.objs.size)
    repeat any_goals (first | assumption | wp_step)
    refine codeAny_mono (codeAny_call_builtin (R := wants (fun r s2 => r = .none ∧ ∃ h' tk c, s2 = { s with heap := h', toks := tk } ∧ c ≤ ns.length ∧ SetR w h' s.heap.objs.size (fun j => decide (j ∈ ns)) c ∧ (∀ b o, s.heap.get? b = some o → h'.get? b = some o)) E)
      F.called_set.init.plain F.entry_set_init (check_set_init_1 ty ?_)) fun fl2 s2 r2 => ?_
    · obtain ⟨ol, oa, oc, on, od⟩ := il
      obtain ⟨cls0, dict0, data0, slots0⟩ := ol
      simp only at oc od
      subst oc
      subst od
      have oa1 : (s.heap.push (emptySet w)).get? l = some { cls := .type "list", dict := dict0, data := .seq vs on, slots := slots0 } := Heap.get?_push_of_some _ oa
      have t1 := F.sub_list_set
      have t2 := F.sub_list_frozenset
      have t3 : (Value.type "list" == Value.type "dict") = false := by decide
      have il1 : (s.heap.push (emptySet w)).IsList l vs := ⟨_, oa1, rfl, on, rfl⟩
      unfold Builtin.«set.__init__» noKeywords Builtin.Frozenset.updateFrom
      generalize eP : pyIter = PI
      wp_walk
      subst eP
      refine wpAny_pyIter_list il1 (wpAny_bind (wpAny_runValue ?_))
      have lt : l < s.heap.objs.size := Heap.lt_size oa
      have z1 : (s.heap.push (emptySet w)).objs.size = s.heap.objs.size + 1 := Heap.size_push ..
      have d1 : l ≠ (s.heap.push (emptySet w)).objs.size := by
        rw [z1]
        exact Nat.ne_of_lt (Nat.lt_succ_of_lt lt)
      have d2 : s.heap.objs.size ∉ [(s.heap.push (emptySet w)).objs.size, l] := by
        rw [z1]
        simp only [List.mem_cons, List.not_mem_nil, or_false, not_or]
        exact ⟨Nat.ne_of_lt (Nat.lt_succ_self _), Nat.ne_of_gt lt⟩
      have val : ∀ (i : Nat) (v : Value), vs[i]? = some v → ∃ k t, ns[i]? = some k ∧ v = .int k t := fun i v hv => by
        have hv2 : vs.toList[i]? = some v := by rw [Array.getElem?_toList]; exact hv
        have il2 := (List.getElem?_eq_some_iff.mp hv2).1
        have in2 : i < ns.length := by rw [← n0]; simpa using il2
        obtain ⟨tk, z⟩ := ev.get i _ (List.getElem?_eq_getElem in2)
        rw [hv2] at z
        exact ⟨_, tk, List.getElem?_eq_getElem in2, Option.some.inj z⟩
      have gone : ∀ b, s.heap.objs.size ≤ b → s.heap.get? b = none := fun b hb => by
        cases z : s.heap.get? b with
        | none => rfl
        | some o => exact absurd (Nat.lt_of_lt_of_le (Heap.lt_size z) hb) (Nat.lt_irrefl _)
      refine set_update_ints ((Walks.list (by simp [nh]) _ l d1 vs).toS) s.heap.objs.size d2 ns n0 fw val (vs.size - 0) 0 _ (by omega) (Nat.zero_le _) ⟨⟨_, Heap.get?_push_size _ rfl, rfl, rfl⟩, il1.push _⟩ ⟨0, Nat.le_refl _, setR_new_at (Heap.get?_push_of_some _ at_)⟩ ?stop
      intro s3 c mv cc R
      have kp : ∀ b o, s.heap.get? b = some o → s3.heap.get? b = some o := fun b o e => by
        refine mv.heap b o (fun hm => ?_) (Heap.get?_push_of_some _ (Heap.get?_push_of_some _ e))
        rcases List.mem_cons.mp hm with hm | hm
        · rw [hm, gone _ (Nat.le_refl _)] at e
          cases e
        · rw [List.mem_singleton.mp hm, gone _ (by rw [z1]; exact Nat.le_succ _)] at e
          cases e
      obtain ⟨h3, g3, dr3, tk3, os3⟩ := s3
      have e1 : g3 = s.gens := mv.gens
      have e2 : dr3 = s.drawn := mv.drawn
      have e3 : os3 = s.os := mv.os
      subst e1
      subst e2
      subst e3
      show wpAny _ _ _ _ _ _
      refine wpAny_pure ?_
      show wpAny _ _ (ret Value.none) _ _ _
      rw [n0] at cc
      exact wpAny_pure ⟨rfl, h3, tk3, c, rfl, cc, R, kp⟩
    · match fl2, r2 with
      | .error e, r2 => exact r2
      | .ok .next, r2 => exact r2.elim
      | .ok .brk, r2 => exact r2.elim
      | .ok .cont, r2 => exact r2.elim
      | .ok (.ret r), r2 =>
        obtain ⟨rfl, h', tk, c, rfl, cc, R, kp⟩ := r2
        repeat any_goals (first | assumption | wp_step)
        exact q _ _ _ cc R kp
end
end SX

set_option Elab.async false
set_option linter.all false
set_option maxRecDepth 100000
set_option maxHeartbeats 4000000
/-! Sets of texts: one text more. -/
namespace SX
open PySem PySem.Spec PyProof.Rows L2 PySem.Froz
section
variable {P : Program} {w : World} {A : Around} {E : Value → Shared → Prop} {s : Shared}
/-- the set at a holds the texts l -/
def TS (P : Program) (w : World) (h : Heap) (a : Addr) (l : List Str) : Prop := ∃ D : SD, h.get? a = some (sObj "set" D) ∧ TxOk P w D l ∧ l.Nodup ∧ Ris D.2.2.place.toList ∧ (w.params.followText "set-order" = true ∨ D.2.2.led = true)
theorem TS.at_ {h h' : Heap} {a : Addr} {l : List Str} (T : TS P w h a l) (k : ∀ o, h.get? a = some o → h'.get? a = some o) : TS P w h' a l := by
  obtain ⟨D, ho, r⟩ := T
  exact ⟨D, k _ ho, r⟩
theorem tail_ris {ep : Nat} {es : Array (Int × Value)} {t : SetTable} {b : Bool} (r : Ris t.place.toList) : Ris (tailTx ep es t b).2.2.place.toList ∧ (tailTx ep es t b).2.2.led = t.led := by
  unfold tailTx
  split
  · exact ⟨relayAll_ris .., relayAll_led ..⟩
  · exact ⟨r, rfl⟩
theorem add_ris {D : SD} {g : Int} {v : Value} (r : Ris D.2.2.place.toList) : Ris (addTx g v D).2.2.place.toList ∧ (addTx g v D).2.2.led = D.2.2.led := by
  obtain ⟨es, ep, t⟩ := D
  have r1 := layNew_ris t es g v r
  have l1 := layNew_led t es g v
  unfold addTx
  by_cases c : (layNew t es g v).2.1.plain = true
  · have z := tail_ris (ep := ep) (es := (layNew t es g v).1) (t := { (layNew t es g v).2.1 with plain := false }) (b := (layNew t es g v).2.2.1) r1
    simp only [c, if_true] at z ⊢
    exact ⟨z.1, z.2.trans l1⟩
  · have z := tail_ris (ep := ep) (es := (layNew t es g v).1) (t := (layNew t es g v).2.1) (b := (layNew t es g v).2.2.1) r1
    simp only [c] at z ⊢
    exact ⟨z.1, z.2.trans l1⟩
/-- one that is there -/
theorem had_x {a : Addr} {T : String} {D : SD} {l : List Str} {k : Str} {u : Tok} {Q : Bool → Shared → Prop} (ho : s.heap.get? a = some (sObj T D)) (F : TxOk P w D l) (hk : k ∈ l) (hb : l.length < scanBound) (q : Q false s) :
    wpAny (model P w) A (setAddHashed a (.str k u) (hashStr w k)) Q E s := by
  obtain ⟨es, ep, t⟩ := D
  have d : (sObj T (es, ep, t)).data = .set es ep t := rfl
  have el : ElemsOf (strKind P w) es.toList := F.el
  have sz : es.size = l.length := F.sz
  obtain ⟨e, he, hi⟩ := (F.mem k).mp hk
  unfold setAddHashed setAddHashedIn
  refine wpAny_holding (wpAny_bind (wpAny_setState_of ho d F.fit ?_))
  show wpAny _ _ _ _ _ _
  dsimp only
  rw [byScan_of rfl (show es.size < scanBound by omega) el]
  rw [if_pos rfl]
  unfold setAddByScan
  refine wpAny_bind (wpAny_bind (wpAny_rule (wpAny_bind (wpAny_setScan_of (knd := strKind P w) (k := k) (is_str k u) ho d F.fit el ?_))))
  cases c : List.findIdx? (fun e => (strKind P w).is k e.2) es.toList with
  | none =>
    have z := List.findIdx?_eq_none_iff.mp c e he
    rw [hi] at z
    cases z
  | some j =>
    dsimp only
    exact wpAny_pure (wpAny_pure q)
theorem ts_add {a : Addr} {l : List Str} {k : Str} {u : Tok} {Q : Bool → Shared → Prop} (T : TS P w s.heap a l) (hb : l.length + 1 < scanBound)
    (q : ∀ (b : Bool) h', Heap.SameBut a s.heap h' → TS P w h' a (if k ∈ l then l else k :: l) → Q b { s with heap := h' }) : wpAny (model P w) A (setAddHashed a (.str k u) (hashStr w k)) Q E s := by
  obtain ⟨D, ho, F, nd, r, le⟩ := T
  by_cases c : k ∈ l
  · rw [if_pos c] at q
    exact had_x ho F c (by omega) (q false s.heap (Heap.SameBut.refl a s.heap) ⟨D, ho, F, nd, r, le⟩)
  · rw [if_neg c] at q
    obtain ⟨r1, r2⟩ := add_ris (g := hashStr w k) (v := .str k u) r
    refine add_x ho F c hb (q true _ (Heap.SameBut.update ..) ⟨_, get_upd _ ho rfl, add_ok u F, List.nodup_cons.mpr ⟨c, nd⟩, r1, ?_⟩)
    rw [r2]
    exact le
end
end SX

set_option Elab.async false
set_option linter.all false
set_option maxRecDepth 100000
set_option maxHeartbeats 4000000
/-! Sets of texts: the call set(list). -/
namespace SX
open PySem PySem.Spec PyProof.Rows L2 PySem.Froz
section
variable {prog : Program} {w : World} {A : Around} {E : Value → Shared → Prop} {s : Shared}
theorem fresh_fits (b : Bool) : SetTable.fits (.fresh 0 0 b) 0 = true := by cases b <;> decide
theorem fresh_ris (b : Bool) : Ris (SetTable.fresh 0 0 b).place.toList := by cases b <;> exact List.Pairwise.nil
theorem ts_new {h : Heap} {a : Addr} (e : h.get? a = some (emptySet w)) : TS prog w h a [] := by
  refine ⟨(#[], 0, .fresh 0 0 (!w.params.followText "set-order")), e, TxOk.nil (fresh_fits _), List.nodup_nil, fresh_ris _, ?_⟩
  show _ ∨ (!w.params.followText "set-order") = true
  cases w.params.followText "set-order" with
  | true => exact .inl rfl
  | false => exact .inr rfl
theorem fill_txt {J : Addr} {fp wr : List Addr} {G : Array GenState → Array GenState → Prop} {n : Nat} {Y : Nat → Value → Prop} {St : Nat → Shared → Prop} {R : Result → Shared → Prop} (W : WalksS prog w A.in1 J fp wr G n Y St) {S : Addr} (nS : S ∉ fp)
    {xs : List Str} (en : n = xs.length) (fw : xs.length + 1 < scanBound) (val : ∀ i v, Y i v → ∃ x t, xs[i]? = some x ∧ v = .str x t) :
    ∀ (k i : Nat) (s : Shared), n - i = k → i ≤ n → St i s → (∃ m : List Str, m.length ≤ i ∧ (∀ x, x ∈ m ↔ x ∈ xs.take i) ∧ TS prog w s.heap S m) →
      (∀ s' (m : List Str), Moved (S :: wr) G s s' → m.length ≤ n → (∀ x, x ∈ m ↔ x ∈ xs) → TS prog w s'.heap S m → R (.ok (.ret .none)) s') →
      codeAny (model prog w) A (.builtin "set.update.loop" ⟨[.ref S, .ref J], []⟩) R s := by
  have nw : S ∉ wr := fun z => nS (W.sub _ z)
  have up : ∀ b ∈ wr, b ∈ S :: wr := fun b hb => List.mem_cons_of_mem _ hb
  intro k
  induction k with
  | zero =>
    rintro i s ek il st ⟨m, lm, mm, T⟩ r
    obtain rfl : i = n := by omega
    refine codeAny_builtin F.entry_set_update_loop ?_
    rw [Around.under_plainId F.plain_set_update_loop _]
    show wpAny _ A.in1 (pyNext (.ref J) >>= _) _ _ s
    refine wpAny_bind (W.done s _ _ st fun s' mv => ?_)
    show wpAny _ A.in1 (ret Value.none) _ _ s'
    rw [List.take_of_length_le (by omega)] at mm
    exact wpAny_pure (r s' m (mv.mono up) lm mm (T.at_ fun o e => mv.heap S o nw e))
  | succ k ih =>
    rintro i s ek il st ⟨m, lm, mm, T⟩ r
    have lt : i < n := by omega
    refine codeAny_builtin F.entry_set_update_loop ?_
    rw [Around.under_plainId F.plain_set_update_loop _]
    show wpAny _ A.in1 (pyNext (.ref J) >>= _) _ _ s
    refine wpAny_bind (W.item i s _ _ lt st fun v s' yv st' mv => ?_)
    obtain ⟨x, tk, hx, rfl⟩ := val i v yv
    have T' : TS prog w s'.heap S m := T.at_ fun o q => mv.heap S o nw q
    show wpAny _ A.in1 (holding [Value.str x tk] (setAdd S (.str x tk)) >>= _) _ _ s'
    refine wpAny_bind (wpAny_holding ?_)
    unfold setAdd
    refine wpAny_holding (wpAny_bind ((strKind prog w).pyHash (k := x) (is_str x tk) ?_))
    refine ts_add (s := { s' with toks := s'.toks + 1 }) T' (by omega) fun b h' sb T2 => ?_
    refine wpAny_pure ⟨plainId_quiet F.plain_set_update_loop _, ih (i + 1) _ (by omega) lt (W.frame _ s' _ _ st' (Nat.le_succ _) fun c hc o q => ?_) ⟨_, ?_, fun y => ?_, T2⟩ fun s2 m2 mv2 l2 mm2 T3 => ?_⟩
    · rw [sb.2 c fun z => nS (z ▸ hc)]
      exact q
    · split
      · omega
      · rw [List.length_cons]
        omega
    · rw [take_more hx, List.mem_append, List.mem_singleton, ← mm y]
      by_cases c : x ∈ m
      · rw [if_pos c]
        exact ⟨.inl, fun z => z.elim id fun e => e ▸ c⟩
      · rw [if_neg c, List.mem_cons]
        exact Or.comm
    · refine r s2 m2 (Moved.trans W.gtrans ((mv.mono up).then_heap (Nat.le_succ _) fun c o hc q => ?_) mv2) l2 mm2 T3
      rw [sb.2 c fun z => hc (z ▸ List.mem_cons_self ..)]
      exact q
theorem madeT {l : Addr} {vs : Array Value} {ns : List Str} {Q : Value → Shared → Prop} (nh : A.handled = none) (il : s.heap.IsList l vs) (ev : StrsAre vs.toList ns) (fw : ns.length + 1 < scanBound)
    (q : ∀ (h' : Heap) (tk : Nat) (m : List Str), m.length ≤ ns.length → (∀ x, x ∈ m ↔ x ∈ ns) → TS prog w h' s.heap.objs.size m → (∀ b o, s.heap.get? b = some o → h'.get? b = some o) → Q (.ref s.heap.objs.size) { s with heap := h', toks := tk }) :
    wpAny (model prog w) A (call (.type "set") [.ref l]) Q E s := by
  have n0 : vs.size = ns.length := by
    rw [← Array.length_toList]
    exact ev.length
  obtain ⟨m1, m2, mro⟩ := F.called_set.mro
  have f1 := F.called_set.made
  have f2 := F.called_set.sub
  have f3 := F.called_set.notType
  have f4 := F.called_set.canCreate
  have f5 := F.typeCall_set_1 (.ref l)
  refine wpAny_call (codeAny_of_tree ?_)
  show wpAny _ _ (callAny (.type "set") _) _ _ _
  refine wpAny_pure ⟨Code.quiet_builtin _ (by decide +kernel), codeAny_builtin F.entry_type_call ?_⟩
  rw [Around.under_plain (weight_type_call_type "set" [.ref l] []) rfl]
  repeat any_goals (first | assumption | wp_step)
  refine codeAny_mono (code_set_led1 (.ref l) (E := E) (Q₁ := fun v s1 => v = .ref s.heap.objs.size ∧ s1 = { s with heap := s.heap.push (emptySet w) }) ⟨rfl, rfl⟩) fun fl s1 r1 => ?_
  match fl, r1 with
  | .error e, r1 => exact r1
  | .ok .next, r1 => exact r1.elim
  | .ok .brk, r1 => exact r1.elim
  | .ok .cont, r1 => exact r1.elim
  | .ok (.ret v), r1 =>
    obtain ⟨rfl, rfl⟩ := r1
    have at_ : (s.heap.push (emptySet w)).get? s.heap.objs.size = some (emptySet w) := Heap.get?_push_size _ rfl
    have ty : Shared.TypeIs { s with heap := s.heap.push (emptySet w) } (.ref s.heap.objs.size) "set" := ⟨_, at_, rfl⟩
    have g1 := F.called_set.init.lookup
    have g2 := F.called_set.init.bind (.ref s.heap.objs.size)
    repeat any_goals (first | assumption | wp_step)
    refine codeAny_mono (codeAny_call_builtin (R := wants (fun r s2 => r = .none ∧ ∃ h' tk m, s2 = { s with heap := h', toks := tk } ∧ List.length m ≤ ns.length ∧ (∀ x, x ∈ m ↔ x ∈ ns) ∧ TS prog w h' s.heap.objs.size m ∧ (∀ b o, s.heap.get? b = some o → h'.get? b = some o)) E)
      F.called_set.init.plain F.entry_set_init (check_set_init_1 ty ?_)) fun fl2 s2 r2 => ?_
    · obtain ⟨ol, oa, oc, on, od⟩ := il
      obtain ⟨cls0, dict0, data0, slots0⟩ := ol
      simp only at oc od
      subst oc
      subst od
      have oa1 : (s.heap.push (emptySet w)).get? l = some { cls := .type "list", dict := dict0, data := .seq vs on, slots := slots0 } := Heap.get?_push_of_some _ oa
      have t1 := F.sub_list_set
      have t2 := F.sub_list_frozenset
      have t3 : (Value.type "list" == Value.type "dict") = false := by decide
      have il1 : (s.heap.push (emptySet w)).IsList l vs := ⟨_, oa1, rfl, on, rfl⟩
      unfold Builtin.«set.__init__» noKeywords Builtin.Frozenset.updateFrom
      generalize eP : pyIter = PI
      wp_walk
      subst eP
      refine wpAny_pyIter_list il1 (wpAny_bind (wpAny_runValue ?_))
      have lt : l < s.heap.objs.size := Heap.lt_size oa
      have z1 : (s.heap.push (emptySet w)).objs.size = s.heap.objs.size + 1 := Heap.size_push ..
      have d1 : l ≠ (s.heap.push (emptySet w)).objs.size := by
        rw [z1]
        exact Nat.ne_of_lt (Nat.lt_succ_of_lt lt)
      have d2 : s.heap.objs.size ∉ [(s.heap.push (emptySet w)).objs.size, l] := by
        rw [z1]
        simp only [List.mem_cons, List.not_mem_nil, or_false, not_or]
        exact ⟨Nat.ne_of_lt (Nat.lt_succ_self _), Nat.ne_of_gt lt⟩
      have val : ∀ (i : Nat) (v : Value), vs[i]? = some v → ∃ k t, ns[i]? = some k ∧ v = .str k t := fun i v hv => by
        have hv2 : vs.toList[i]? = some v := by rw [Array.getElem?_toList]; exact hv
        have il2 := (List.getElem?_eq_some_iff.mp hv2).1
        have in2 : i < ns.length := by rw [← n0]; simpa using il2
        obtain ⟨tk, z⟩ := ev.get i _ (List.getElem?_eq_getElem in2)
        rw [hv2] at z
        exact ⟨_, tk, List.getElem?_eq_getElem in2, Option.some.inj z⟩
      have gone : ∀ b, s.heap.objs.size ≤ b → s.heap.get? b = none := fun b hb => by
        cases z : s.heap.get? b with
        | none => rfl
        | some o => exact absurd (Nat.lt_of_lt_of_le (Heap.lt_size z) hb) (Nat.lt_irrefl _)
      refine fill_txt ((Walks.list (by simp [nh]) _ l d1 vs).toS) d2 n0 fw val (vs.size - 0) 0 _ (by omega) (Nat.zero_le _) ⟨⟨_, Heap.get?_push_size _ rfl, rfl, rfl⟩, il1.push _⟩ ⟨[], Nat.le_refl _, (fun x => by simp), ts_new (Heap.get?_push_of_some _ at_)⟩ ?stop
      intro s3 m mv cc mm R
      have kp : ∀ b o, s.heap.get? b = some o → s3.heap.get? b = some o := fun b o e => by
        refine mv.heap b o (fun hm => ?_) (Heap.get?_push_of_some _ (Heap.get?_push_of_some _ e))
        rcases List.mem_cons.mp hm with hm | hm
        · rw [hm, gone _ (Nat.le_refl _)] at e
          cases e
        · rw [List.mem_singleton.mp hm, gone _ (by rw [z1]; exact Nat.le_succ _)] at e
          cases e
      obtain ⟨h3, g3, dr3, tk3, os3⟩ := s3
      have e1 : g3 = s.gens := mv.gens
      have e2 : dr3 = s.drawn := mv.drawn
      have e3 : os3 = s.os := mv.os
      subst e1
      subst e2
      subst e3
      show wpAny _ _ _ _ _ _
      refine wpAny_pure ?_
      show wpAny _ _ (ret Value.none) _ _ _
      rw [n0] at cc
      exact wpAny_pure ⟨rfl, h3, tk3, m, rfl, cc, mm, R, kp⟩
    · match fl2, r2 with
      | .error e, r2 => exact r2
      | .ok .next, r2 => exact r2.elim
      | .ok .brk, r2 => exact r2.elim
      | .ok .cont, r2 => exact r2.elim
      | .ok (.ret r), r2 =>
        obtain ⟨rfl, h', tk, m, rfl, cc, mm, R, kp⟩ := r2
        repeat any_goals (first | assumption | wp_step)
        exact q _ _ _ cc mm R kp
end
end SX

set_option Elab.async false
set_option linter.all false
set_option maxRecDepth 100000
set_option maxHeartbeats 4000000
/-! The rules set(list) and sorted(set), for texts. -/
namespace SX
open PySem PySem.Spec PyProof.Rows L2 PySem.Froz
def SetX (P : Program) (w : World) (a : Addr) (m : List Str) : HO := .ext fun h => TS P w h a m
theorem setX_ok {P : Program} {w : World} {H : Hp} {h : Heap} {a : Addr} {m : List Str} (R : TS P w h a m) : ObjOk P w H h a (SetX P w a m) := by
  obtain ⟨D, ho, _⟩ := id R
  exact ⟨R, ⟨_, ho⟩, fun h1 h2 p k => TS.at_ p k⟩
section
variable {X : Cx}
/-- set(xs) -/
def rSetX (K : PySem.W.Frag) (P : Program) (w : World) : List V → Hp → VK → Prop := fun vs H Q => ∃ (l : Addr) (xs : List Str), vs = [V.ref l] ∧ SqL K H l (xs.map V.str) ∧ xs.length < 64 ∧
  ∀ (a : Addr) (m : List Str), H a = none → m.length ≤ xs.length → (∀ x, x ∈ m ↔ x ∈ xs) → m.Nodup → Q (.ref a) (upd H a (SetX P w a m))
theorem cr_setX (hc : X.calm = true) : CallR X (.type "set") (rSetX X.K X.prog X.w) := by
  intro pins s σ H vs us Q I r h
  obtain ⟨l, xs, rfl, hl, few, q⟩ := h
  obtain ⟨its, rv, pl, hz⟩ := I.list hl
  obtain ⟨u, rfl, ru⟩ := vals1 r
  obtain rfl : u = Value.ref l := ru
  have hn : H s.heap.objs.size = none := I.hok.fresh (Nat.le_refl _)
  have sc : 64 < scanBound := by decide +kernel
  refine madeT (prog := X.prog) (w := X.w) (I.ok.hd hc) pl.isList (by simpa using rv.strs) (by omega) fun h' tk m lm mm R k => ?_
  obtain ⟨D, _, _, nd, _⟩ := id R
  exact ⟨.ref s.heap.objs.size, upd H s.heap.objs.size (SetX X.prog X.w s.heap.objs.size m), I.laid (t' := tk) k (Nat.le_refl _) (setX_ok R), rfl, q _ m hn lm mm nd⟩
def strOf : Value → Str
  | .str x _ => x
  | _ => ""
theorem strs_by : ∀ {vs : List Value}, (∀ v ∈ vs, ∃ x t, v = .str x t) → StrsAre vs (vs.map strOf)
  | [], _ => .nil
  | v :: vs, h => by
    obtain ⟨x, t, rfl⟩ := h v (List.mem_cons_self ..)
    exact .cons _ _ (strs_by (vs := vs) fun y hy => h y (List.mem_cons_of_mem _ hy))
/-- sorted of such a set -/
def rSortX (P : Program) (w : World) : List V → Hp → VK → Prop := fun vs H Q => ∃ (a : Addr) (m : List Str), vs = [V.ref a] ∧ H a = some (SetX P w a m) ∧ m.length < 64 ∧
  ∀ (ys : List Str) (p : Addr), ys.length = m.length → (∀ y, y ∈ ys ↔ y ∈ m) → sortedS ys = true → H p = none → Q (.ref p) (upd H p (.lst (ys.map V.str)))
theorem cr_sortX (hc : X.calm = true) : CallR X (.builtin "sorted") (rSortX X.prog X.w) := by
  intro pins s σ H vs us Q I r h
  obtain ⟨a, m, rfl, ha, few, q⟩ := h
  obtain ⟨u, rfl, ru⟩ := vals1 r
  obtain rfl : u = Value.ref a := ru
  have R0 : TS X.prog X.w s.heap a m := (I.hok a _ ha).1
  obtain ⟨⟨es, ep, t⟩, oa, F, nd, ris, led⟩ := R0
  have sc : 64 < scanBound := by decide +kernel
  have sz : es.size = m.length := F.sz
  have el : ElemsOf (strKind X.prog X.w) es.toList := F.el
  refine Calls.call_function_entry kind_sorted plain_sorted entry_sorted (args_sorted1 _) ?_
  unfold Builtin.«sorted»
  refine wpAny_bind (m := checkCount "sorted" 1 1 _) (wpAny_pure ?_)
  refine wpAny_bind (collect_set (A := X.A.in1) (I.ok.hd hc) ⟨_, oa, rfl, rfl⟩ F.fit (show es.size < scanBound by omega) ris led fun s1 vs k1 z1 g1 o1 pm => ?_)
  have vl : vs.length = m.length := by
    rw [pm.length_eq, List.length_map, Array.length_toList, sz]
  have isS : ∀ v ∈ vs, ∃ x u, v = .str x u := fun v hv => by
    obtain ⟨e, he, rfl⟩ := List.mem_map.mp (pm.mem_iff.mp hv)
    obtain ⟨⟨k, hk, _⟩, _⟩ := el e he
    obtain ⟨t, ev⟩ := Value.isStrOf_shape (x := k) (v := e.2) hk
    exact ⟨k, t, ev⟩
  have hS := strs_by isS
  have mem : ∀ x, x ∈ vs.map strOf ↔ x ∈ m := fun x => by
    rw [F.mem x]
    constructor
    · intro hx
      obtain ⟨v, hv, rfl⟩ := List.mem_map.mp hx
      obtain ⟨y, u, rfl⟩ := isS v hv
      obtain ⟨e, he, ee⟩ := List.mem_map.mp (pm.mem_iff.mp hv)
      exact ⟨e, he, by rw [ee]; exact is_str y u⟩
    · rintro ⟨e, he, hk⟩
      obtain ⟨t, ev⟩ := Value.isStrOf_shape (x := x) (v := e.2) hk
      refine List.mem_map.mpr ⟨e.2, pm.mem_iff.mpr (List.mem_map_of_mem (f := fun e : Int × Value => e.2) he), ?_⟩
      rw [ev]
      rfl
  refine wpAny_bind (wpAny_newList ?_ (by rw [vl, sizeLine_eq]; omega))
  have hoL : (s1.heap.push (seqObj "list" vs.toArray 0)).get? s1.heap.objs.size = some (seqObj "list" vs.toArray 0) := Heap.get?_push_size _ rfl
  refine wpAny_bind (wpAny_holding (wpAny_call_entry slot_list_sort ⟨_, hoL, rfl⟩ entry_list_sort (list_sort_treeK strKind_oneLt (s := { s1 with heap := s1.heap.push (seqObj "list" vs.toArray 0) }) hoL hS.keysOf (fun v₁ v₂ rest e => keyKind_strs (by rw [← e]; exact hS)) (by rw [vl]; omega) fun st' hp hs => ⟨_, rfl, ?_⟩) (args_list_sort _)))
  obtain ⟨ys, a1, a2, a3⟩ := sorted_out_str hS hp hs
  obtain ⟨n, hn⟩ := sortedHeap_at (vs := vs) (out := (arrOf st').map (·.2)) hoL
  have yl : ys.length = m.length := by rw [a2.length_eq, List.length_map, vl]
  have hlen : (ys.map V.str).length ≤ sizeLine := by
    rw [List.length_map, yl, sizeLine_eq]
    omega
  have fresh : H s1.heap.objs.size = none := I.hok.fresh z1
  refine wpAny_pure ⟨_, rfl, .ref s1.heap.objs.size, upd H s1.heap.objs.size (.lst (ys.map V.str)), ?_, rfl, q ys _ yl (fun y => (a2.mem_iff).trans (mem y)) a3 fresh⟩
  have kp : ∀ b u, s.heap.get? b = some u → (sortedHeap (s1.heap.push (seqObj "list" vs.toArray 0)) s1.heap.objs.size vs ((arrOf st').map (·.2))).get? b = some u := fun b u e => by
    have e1 := k1 b u e
    have lt := Heap.lt_size e1
    rw [sortedHeap_old (Nat.ne_of_lt lt) (by rw [size_push']; exact Nat.lt_succ_of_lt lt)]
    exact Heap.get?_push_of_some _ e1
  exact I.call' (ch := []) o1 (Un.laid kp z1 fresh) (I.hok.laid kp z1 ⟨hlen, ((arrOf st').map (·.2)).toList, n, vals_of_strs a1, by rw [Array.toArray_toList]; exact hn⟩) (show _ by rw [g1]; exact I.bare) (fun _ z => nomatch z)
end
end SX

set_option Elab.async false
set_option linter.all false
set_option maxRecDepth 100000
set_option maxHeartbeats 4000000
/-! parting: what is found, in memory. -/
namespace K10
open PySem L2 L2.EV
/-- where a state may lie -/
def InO : Option Int → Prop
  | none => True
  | some q => 0 ≤ q ∧ q < 200
def InD (p : Pr) : Prop := InO p.1 ∧ InO p.2
def Rng (R : Two) : Prop := (∀ x ∈ R.xs, 0 ≤ x.2.2 ∧ x.2.2 < 200) ∧ ∀ x ∈ R.ys, 0 ≤ x.2.2 ∧ x.2.2 < 200
theorem nx_in {xs : List T3} (h : ∀ x ∈ xs, 0 ≤ x.2.2 ∧ x.2.2 < 200) (q : Int) (c : Str) : InO (nx xs q c) := by
  have : ∀ (xs : List T3) (o : Option Int), (∀ x ∈ xs, 0 ≤ x.2.2 ∧ x.2.2 < 200) → InO o → InO (xs.foldl (fun o x => if x.1 = q ∧ x.2.1 = c then some x.2.2 else o) o) := by
    intro xs
    induction xs with
    | nil => exact fun _ _ h => h
    | cons x xs ih =>
      intro o h ho
      rw [List.foldl_cons]
      refine ih _ (fun y hy => h y (List.mem_cons_of_mem _ hy)) ?_
      split
      · exact h x (List.mem_cons_self ..)
      · exact ho
  exact this xs none h trivial
theorem nx2_in {R : Two} (G : Rng R) (p : Pr) (c : Str) : InD (nx2 R p c) := by
  refine ⟨?_, ?_⟩
  · show InO (p.1.bind fun q => nx R.xs q c)
    cases p.1 with
    | none => trivial
    | some q => exact nx_in G.1 q c
  · show InO (p.2.bind fun q => nx R.ys q c)
    cases p.2 with
    | none => trivial
    | some q => exact nx_in G.2 q c
def allO : List (Option Int) := none :: (List.range 200).map fun n : Nat => some ((n : Nat) : Int)
def allD : List Pr := allO.flatMap fun a => allO.map fun b => (a, b)
theorem allO_mem {o : Option Int} (h : InO o) : o ∈ allO := by
  unfold allO
  cases o with
  | none => exact List.mem_cons_self ..
  | some q =>
    obtain ⟨h0, h1⟩ := (show 0 ≤ q ∧ q < 200 from h)
    obtain ⟨n, rfl⟩ := Int.eq_ofNat_of_zero_le h0
    exact List.mem_cons_of_mem _ (List.mem_map.mpr ⟨n, List.mem_range.mpr (by omega), rfl⟩)
theorem allD_len : allD.length = 40401 := by
  unfold allD
  have : ∀ l : List (Option Int), (l.flatMap fun a => allO.map fun b => ((a, b) : Pr)).length = l.length * 201 := by
    intro l
    induction l with
    | nil => rfl
    | cons x l ih =>
      rw [List.flatMap_cons, List.length_append, ih, List.length_cons, List.length_map, Nat.succ_mul]
      have : allO.length = 201 := by unfold allO; rw [List.length_cons, List.length_map, List.length_range]
      omega
  rw [this]
  unfold allO
  rw [List.length_cons, List.length_map, List.length_range]
/-- few are found -/
theorem few_found {f : List Pr} (nd : f.Nodup) (h : ∀ p ∈ f, InD p) : f.length ≤ 40401 := by
  rw [← allD_len]
  exact nd.length_le_of_subset fun p hp => by
    unfold allD
    exact List.mem_flatMap.mpr ⟨p.1, allO_mem (h p hp).1, List.mem_map.mpr ⟨p.2, allO_mem (h p hp).2, rfl⟩⟩
/-- what is kept while the search goes on -/
structure Gz (z : FL) : Prop where
  nd : z.1.Nodup
  din : ∀ p ∈ z.1, InD p
  ln : ∀ e ∈ z.2, (sl e.2).length ≤ z.1.length
theorem Gz.few {z : FL} (g : Gz z) : z.1.length ≤ 40401 := few_found g.nd g.din
theorem Gz.ext1 {R : Two} {z : FL} (g : Gz z) (G : Rng R) {e : En2} {c : Str} (hc : (sl c).length = 1) (he : (sl e.2).length ≤ z.1.length) : Gz (K10.ext1 R e z c) ∧ z.1.length ≤ (K10.ext1 R e z c).1.length ∧ (z.2.length + (K10.ext1 R e z c).1.length = (K10.ext1 R e z c).2.length + z.1.length) := by
  unfold K10.ext1
  by_cases m : nx2 R e.1 c ∈ z.1
  · rw [if_pos m]
    exact ⟨g, Nat.le_refl _, rfl⟩
  · rw [if_neg m]
    refine ⟨⟨List.nodup_append.mpr ⟨g.nd, by simp, fun a ha b hb q => ?_⟩, fun p hp => ?_, fun e' h' => ?_⟩, ?_, ?_⟩
    · rw [List.mem_singleton.mp hb] at q
      exact m (q ▸ ha)
    · rcases List.mem_append.mp hp with h | h
      · exact g.din p h
      · rw [List.mem_singleton.mp h]
        exact nx2_in G _ _
    · show _ ≤ (z.1 ++ [nx2 R e.1 c]).length
      rw [List.length_append, List.length_singleton]
      rcases List.mem_append.mp h' with h | h
      · exact Nat.le_succ_of_le (g.ln e' h)
      · rw [List.mem_singleton.mp h]
        show (sl (e.2 ++ c)).length ≤ _
        rw [sl_app, List.length_append, hc]
        omega
    · show z.1.length ≤ (z.1 ++ [nx2 R e.1 c]).length
      rw [List.length_append]
      omega
    · show z.2.length + (z.1 ++ [nx2 R e.1 c]).length = (z.2 ++ [(nx2 R e.1 c, e.2 ++ c)]).length + z.1.length
      rw [List.length_append, List.length_append, List.length_singleton, List.length_singleton]
      omega
def oK : Option Int → NestedKey
  | none => .none
  | some i => .num i
def kyP (p : Pr) : NestedKey := .tup [oK p.1, oK p.2]
theorem oK_inj {a b : Option Int} (h : oK a = oK b) : a = b := by
  cases a with
  | none => cases b with
    | none => rfl
    | some j => cases h
  | some i => cases b with
    | none => cases h
    | some j => rw [NestedKey.num.inj h]
theorem kyP_inj (a b : Pr) (h : kyP a = kyP b) : a = b := by
  have h2 := NestedKey.tup.inj h
  exact Prod.ext (oK_inj (List.cons.inj h2).1) (oK_inj (List.cons.inj (List.cons.inj h2).2).1)
def tr1 (f : List Pr) : List V := f.map fun _ => V.bl true
theorem tr1_len (f : List Pr) : (tr1 f).length = f.length := by unfold tr1; rw [List.length_map]
theorem found_is {f : List Pr} {p : Pr} : (valV (zk kyP f (tr1 f)) (kyP p)).isSome = decide (p ∈ f) := by
  by_cases m : p ∈ f
  · rw [decide_eq_true m]
    have : ∀ f : List Pr, p ∈ f → (valV (zk kyP f (tr1 f)) (kyP p)).isSome = true := by
      intro f
      induction f with
      | nil => exact fun h => by cases h
      | cons a f ih =>
        intro h
        by_cases e : kyP a = kyP p
        · show (valV ((kyP a, V.bl true) :: zk kyP f (tr1 f)) (kyP p)).isSome = true
          rw [valV_pos e]
          rfl
        · show (valV ((kyP a, V.bl true) :: zk kyP f (tr1 f)) (kyP p)).isSome = true
          rw [valV_neg e]
          rcases List.mem_cons.mp h with rfl | h
          · exact absurd rfl e
          · exact ih h
    exact this f m
  · rw [decide_eq_false m, zk_none kyP kyP_inj m]
    rfl
theorem found_snoc (f : List Pr) (p : Pr) : zk kyP f (tr1 f) ++ [(kyP p, V.bl true)] = zk kyP (f ++ [p]) (tr1 (f ++ [p])) := by
  have e : tr1 (f ++ [p]) = tr1 f ++ [V.bl true] := by unfold tr1; rw [List.map_append]; rfl
  rw [e, zk_snoc kyP (tr1_len f)]
/-- an entry of a layer -/
def EnA (H : Hp) (a : Addr) (e : En2) : Prop := ∃ q, H a = some (.tup [.ref q, .str e.2]) ∧ H q = some (.tup [oV e.1.1, oV e.1.2])
theorem EnA.keep {H H' : Hp} {a : Addr} {e : En2} (h : EnA H a e) (k : KeepT H H') : EnA H' a e := let ⟨q, h1, h2⟩ := h; ⟨q, k _ _ h1, k _ _ h2⟩
def LsE (H : Hp) (l : Addr) (es : List En2) : Prop := ∃ as : List Addr, H l = some (.lst (as.map V.ref)) ∧ as.length = es.length ∧ ∀ (i : Nat) a e, as[i]? = some a → es[i]? = some e → EnA H a e
theorem key_p {H : Hp} {b : Addr} {p : Pr} (h : H b = some (.tup [oV p.1, oV p.2])) : KeyB false H (kyP p) b := by
  have one : ∀ o : Option Int, NK false H (oK o) (oV o) := fun o => by
    cases o with
    | none => exact .none
    | some i => exact .int i
  refine ⟨.tup h (.cons (one _) (.cons (one _) .nil)), ?_⟩
  obtain ⟨a, b⟩ := p
  cases a <;> cases b <;> (unfold kyP oK; simp only [NestedKey.depth, NestedKey.depthAll]; decide)
/-- but for the dict, all is kept -/
def But (Fd : Addr) (H H' : Hp) : Prop := ∀ b o, H b = some o → b ≠ Fd → H' b = some o
theorem But.trans {Fd : Addr} {H H1 H2 : Hp} (h : But Fd H H1) (k : But Fd H1 H2) : But Fd H H2 := fun b o e n => k b o (h b o e n) n
theorem But.of {Fd : Addr} {H H' : Hp} (s : Same H H') : But Fd H H' := fun b o e _ => s b o e
theorem But.same {Fd : Addr} {H0 H H' : Hp} (h : But Fd H H') (s : Same H0 H) (n : H0 Fd = none) : Same H0 H' := fun b o e => h b o (s b o e) (ne_of_none e n)
section
variable {P : Program} {w : World}
theorem dn_ne {H : Hp} {Fd a : Addr} {kvs : List (NestedKey × V)} {o : HO} (h : DN P w false H Fd kvs) (e : H a = some o) (n : ∀ xs, o ≠ DNo P w Fd xs) : a ≠ Fd := fun z => by
  obtain ⟨xs, q⟩ := dn_at h
  rw [z, q] at e
  exact n xs (Option.some.inj e).symm
theorem dno_tup {Fd : Addr} (xs : List V) : ∀ ys, HO.tup xs ≠ DNo P w Fd ys := fun ys z => by unfold DNo at z; cases z
theorem dno_lst {Fd : Addr} (xs : List V) : ∀ ys, HO.lst xs ≠ DNo P w Fd ys := fun ys z => by unfold DNo at z; cases z
/-- the search's own things: what is found, the layer that grows -/
structure Pz (P : Program) (w : World) (H H' : Hp) (Fd Lg : Addr) (z : FL) : Prop where
  s : But Fd H H'
  hF : DN P w false H' Fd (zk kyP z.1 (tr1 z.1))
  hL : LsE H' Lg z.2
  n : H Lg = none
variable {H H' H'' : Hp} {Fd Lg : Addr} {z : FL}
theorem Pz.same (h : Pz P w H H' Fd Lg z) (s : Same H' H'') : Pz P w H H'' Fd Lg z := by
  obtain ⟨xs, e⟩ := dn_at h.hF
  obtain ⟨as, l1, l2, l3⟩ := h.hL
  exact ⟨h.s.trans (But.of s), h.hF.keep (by rw [s _ _ e, e]) (fun b ys q => s _ _ q), ⟨as, s _ _ l1, l2, fun i a e h1 h2 => (l3 i a e h1 h2).keep (Same.keepT s)⟩, h.n⟩
/-- one pair more, and its entry -/
theorem Pz.push (h : Pz P w H H' Fd Lg z) {p : Pr} {t : Str} {b : Addr} (hb : H' b = some (.tup [oV p.1, oV p.2])) {H1 : Hp} (o : OnlyAt H' H1 Fd) (d : DN P w false H1 Fd (zk kyP (z.1 ++ [p]) (tr1 (z.1 ++ [p])))) {a : Addr} (na : H1 a = none) {as : List Addr} (hl : H' Lg = some (.lst (as.map V.ref))) :
    Pz P w H (L2.upd (L2.upd H1 a (.tup [.ref b, .str t])) Lg (.lst (as.map V.ref ++ [.ref a]))) Fd Lg (z.1 ++ [p], z.2 ++ [(p, t)]) := by
  obtain ⟨as2, l1, l2, l3⟩ := h.hL
  have ea : as = as2 := by
    rw [hl] at l1
    exact (List.map_inj_right fun a b q => by cases q; rfl).mp (HO.lst.inj (Option.some.inj l1))
  subst ea
  have nL : Lg ≠ Fd := dn_ne h.hF hl (dno_lst _)
  have kt : KeepT H' H1 := fun c xs e => by
    rw [o c (dn_ne h.hF e (dno_tup _))]
    exact e
  have hl1 : H1 Lg = some (.lst (as.map V.ref)) := by rw [o _ nL]; exact hl
  have u := same_upd (o := HO.tup [.ref b, .str t]) na
  have k2 : KeepT (L2.upd H1 a (.tup [.ref b, .str t])) (L2.upd (L2.upd H1 a (.tup [.ref b, .str t])) Lg (.lst (as.map V.ref ++ [.ref a]))) := keepT_upd (u _ _ hl1) (fun xs z => by cases z)
  have kall := (Same.keepT u).trans k2
  obtain ⟨xs, eF⟩ := dn_at d
  have nFa : Fd ≠ a := ne_of_none eF na
  refine ⟨fun c ob e nc => ?_, ?_, ⟨as ++ [a], by rw [List.map_append]; exact upd_same, by rw [List.length_append, List.length_append, l2]; rfl, ?_⟩, h.n⟩
  · have c1 : c ≠ Lg := ne_of_none e h.n
    rw [upd_ne c1]
    refine u _ _ ?_
    rw [o c nc]
    exact h.s c ob e nc
  · exact d.keep (by rw [upd_ne nL.symm, upd_ne nFa]) (fun b ys q => kall _ _ q)
  · refine snoc_at l2 (fun i x e h1 h2 => (l3 i x e h1 h2).keep (kt.trans kall)) ⟨b, ?_, kall _ _ (kt _ _ hb)⟩
    exact k2 _ _ upd_same
end
/-- a row of a reader, or none -/
def RowA (H : Hp) (a : Addr) (g : Str → Option Int) : Prop := ∃ rk, H a = some (.dK rk) ∧ (∀ c, valV rk (Sum.inr c) = (g c).map V.int) ∧ KsT rk
theorem RowA.same {H H' : Hp} {a : Addr} {g : Str → Option Int} (h : RowA H a g) (s : Same H H') : RowA H' a g := let ⟨rk, a1, b, c⟩ := h; ⟨rk, s _ _ a1, b, c⟩
/-- the signs of a row -/
theorem row_keys {rk : List (Key × V)} {g : Str → Option Int} (h : ∀ c, valV rk (Sum.inr c) = (g c).map V.int) (k : KsT rk) : ∃ ss : List Str, (rk.map fun kv => kV kv.1) = ss.map V.str ∧ ss.Nodup ∧ ∀ c, c ∈ ss ↔ g c ≠ none := by
  obtain ⟨ss, e, nd⟩ := k
  refine ⟨ss, ?_, nd, fun c => ?_⟩
  · have : (rk.map fun kv => kV kv.1) = (rk.map (·.1)).map kV := by rw [List.map_map]; rfl
    rw [this, e, List.map_map]
    rfl
  · have e1 : c ∈ ss ↔ (Sum.inr c : Key) ∈ rk.map (·.1) := by
      rw [e, List.mem_map]
      exact ⟨fun h => ⟨c, h, rfl⟩, fun ⟨d, hd, q⟩ => Sum.inr.inj q ▸ hd⟩
    have e2 : ((Sum.inr c : Key) ∈ rk.map (·.1)) ↔ (valV rk (Sum.inr c)).isSome = true := by
      rw [List.mem_map]
      clear h nd e e1
      induction rk with
      | nil => exact ⟨fun ⟨_, h, _⟩ => (by cases h), fun h => (by cases h)⟩
      | cons p r ih =>
        by_cases z : p.1 = (Sum.inr c : Key)
        · rw [valV_pos z]
          exact ⟨fun _ => rfl, fun _ => ⟨p, List.mem_cons_self .., z⟩⟩
        · rw [valV_neg z, ← ih]
          constructor
          · rintro ⟨q, hq, e⟩
            rcases List.mem_cons.mp hq with rfl | hq
            · exact absurd e z
            · exact ⟨q, hq, e⟩
          · rintro ⟨q, hq, e⟩
            exact ⟨q, List.mem_cons_of_mem _ hq, e⟩
    rw [e1, e2, h c]
    cases g c <;> simp
theorem sort3 {ys : List Str} {p : Str → Bool} (hs : PyProof.Rows.sortedS ys = true) (nd : ys.Nodup) (mem : ∀ y, y ∈ ys ↔ y ∈ L3s ∧ p y = true) : ys = L3s.filter p := by
  have e3 : L3s = [64, 97, 98].map ch1 := by decide +kernel
  let cs : List Nat := [64, 97, 98].filter fun c => p (ch1 c)
  have ef : L3s.filter p = cs.map ch1 := by
    rw [e3, List.filter_map]
    rfl
  let es : List En := cs.map fun c => (c, 0, 0)
  have ndc : cs.Nodup := List.Pairwise.filter _ (by decide)
  have ec : csE es = cs := by
    have z : ∀ (l acc : List Nat), (acc ++ l).Nodup → (l.map fun c => ((c, 0, 0) : En)).foldl (fun ks e => addN ks e.1) acc = acc ++ l := by
      intro l
      induction l with
      | nil => exact fun acc _ => by simp
      | cons c l ih =>
        intro acc h
        rw [List.map_cons, List.foldl_cons]
        have nc : ¬ c ∈ acc := fun m => (List.nodup_append.mp h).2.2 c m c (List.mem_cons_self ..) rfl
        have ea : addN acc c = acc ++ [c] := if_neg nc
        show List.foldl _ (addN acc c) _ = _
        rw [ea, ih (acc ++ [c]) (by rw [List.append_assoc]; exact h), List.append_assoc]
        rfl
    exact z cs [] ndc
  have pm : ys.Perm ((csE es).map ch1) := by
    rw [ec, ← ef]
    refine (List.perm_ext_iff_of_nodup nd (List.Pairwise.filter _ (by decide +kernel))).mpr fun y => ?_
    rw [mem, List.mem_filter]
  have z := sgO_of pm hs
  rw [z, ec, ef]
  congr 1
  refine List.Perm.eq_of_pairwise (fun a b _ _ h1 h2 => Nat.le_antisymm h1 h2) ?_ ?_ (List.mergeSort_perm _ _)
  · exact (List.pairwise_mergeSort (le := fun a b : Nat => decide (a ≤ b)) (fun a b c h1 h2 => decide_eq_true (Nat.le_trans (of_decide_eq_true h1) (of_decide_eq_true h2))) (fun a b => by
      have := Nat.le_total a b
      simpa using this) _).imp fun h => of_decide_eq_true h
  · exact List.Pairwise.filter _ (by decide)
theorem acc_in (gs : List Int) (o : Option Int) : inV (oV o) (gs.map V.int) = acc gs o := by
  cases o with
  | none => exact in_none
  | some q => exact in_ints
theorem oV_map (o : Option Int) : (o.map V.int).getD .non = oV o := by cases o <;> rfl
end K10

set_option Elab.async false
set_option linter.all false
set_option maxRecDepth 100000
set_option maxHeartbeats 8000000
/-! parting. -/
namespace K10
open PySem L2 L2.EV PyProof.Rows PySem.Spec
abbrev sParting : Stmt := top 40
abbrev NPt : List Str := ["one", "other", "rows", "further_rows", "found", "listed", "longer", "state", "twin", "text", "row", "twin_row", "sign", "pair"]
def rT : Option Str → V
  | none => .non
  | some s => .str s
def spParting (nA : Addr) : Sp := fun vs H Q _ => ∃ (v u : V) (R : Two), vs = [v, u] ∧ RdQ nA H v R.xs R.gs ∧ RdQ nA H u R.ys R.hs ∧ Few R ∧ Rng R ∧
  ∀ H' (r : Option Str), Same H H' → Par R (sgP R) f00 l00 r → (∀ s, r = some s → (sl s).length ≤ 50000) → Q (rT r) H'
structure Pg (K : PySem.W.Frag) (mg : Str → Option Value) where
  Z : Tt K mg
  C : Kon K mg
  f : Addr
  d : FuncData
  F : Fun K "parting" "parting" sParting f d
  b : Binds K d ["one", "other"] []
  m : mg "parting" = some (.ref f)
  so : mg "sorted" = none
  se : mg "set" = none
  li : mg "list" = none
section
variable {P : Program} {w : World} {K : PySem.W.Frag} {mg : Str → Option Value} {base : Heap}
theorem scParting : FnScope NPt ["one", "other"] (defScope sParting) := ⟨rfl, rfl, rfl, by decide +kernel, rfl, by decide +kernel, by decide +kernel⟩
theorem rdq_ix (C : Kon K mg) {H : Hp} {v : V} {xs : List T3} {gs : List Int} (h : RdQ C.n H v xs gs) : ∃ a t1 t2, v = .ref a ∧ (∀ H', Same H H' → SqT K H' a [.ref t1, .ref t2] ∧ SqT K H' t2 (gs.map V.int)) := by
  rcases h with ⟨da, _⟩ | ⟨rfl, rfl, rfl⟩
  · obtain ⟨r, rfl, t1, t2, ts, h1, h2, h3, h4⟩ := rda_of da
    exact ⟨r, t1, t2, rfl, fun H' s => ⟨SqT.of (s _ _ h1), SqT.of (s _ _ h4)⟩⟩
  · exact ⟨C.n, C.t1, C.t2, rfl, fun H' _ => ⟨C.kn H', C.k2 H'⟩⟩
/-- rows.get(state, {}) -/
theorem row_get {H0 H : Hp} {p : Addr} {n : Nat} {kvs : List (Key × V)} {xs : List T3} (R : RB H0 H p n kvs xs) (o : Option Int) {b : Addr} (hb : H b = none) :
    ∃ o' a, DGetN (L2.upd H b (.dK [])) p (oV o) o' ∧ o'.getD (.ref b) = .ref a ∧ RowA (L2.upd H b (.dK [])) a (fun c => o.bind fun q => nx xs q c) := by
  have ub := same_upd (o := HO.dK []) hb
  have eb := upd_same (H := H) (a := b) (o := HO.dK [])
  have R3 := R.keep ub
  have emp : ∀ g : Str → Option Int, (∀ c, g c = none) → RowA (L2.upd H b (.dK [])) b g := fun g hg => ⟨[], eb, fun c => by rw [hg c]; rfl, [], rfl, List.nodup_nil⟩
  cases o with
  | none => exact ⟨none, b, .inr ⟨⟨kvs, .inl R3.hp⟩, rfl, rfl⟩, rfl, emp _ fun _ => rfl⟩
  | some q =>
    cases e : valV kvs (Sum.inl q) with
    | none =>
      refine ⟨none, b, .inl ?_, rfl, emp _ fun c => R3.no q e c⟩
      have := DGet.k (k := Sum.inl q) R3.hp
      rw [e] at this
      exact this
    | some v =>
      obtain ⟨a, rk, rfl, w1, _, _, _, w5⟩ := R3.row q v e
      refine ⟨some (.ref a), a, .inl ?_, rfl, rk, w1, w5.1, w5.2⟩
      have := DGet.k (k := Sum.inl q) R3.hp
      rw [e] at this
      exact this
theorem ok_parting (G : Pg K mg) : FnOk P w K mg base CX0 4 G.f G.d ["one", "other"] (spParting G.C.n) := by
  have GN : FnOk P w K mg base CX0 3 G.Z.fR G.Z.dR ["thing"] (spNeedQ G.C.n) := ok_needQ G.Z.T.R G.C G.Z.FR
  have GO : FnOk P w K mg base CX0 1 G.Z.fO G.Z.dO ["reader"] (spRowsQ G.C.n) := ok_rowsQ G.C G.Z.FO
  refine G.F.ok scParting (fun vs H Q E h => ?_) (fun cdv A outer s H vs Q E hr h => ?_)
  · obtain ⟨v, u, R, rfl, _⟩ := h
    rfl
  · obtain ⟨v, u, R, rfl, h1, h2, few, rng, q⟩ := h
    have hr1 := hr.mono (j := 1) (by omega)
    have hu := hu_of hr
    have hu9 : (A.deeper (PyProof.Rows.envOfC "parting" (defScope sParting) s.heap.objs.size G.f cdv)).units + 9 < cLine := by have := hr.un; omega
    refine ⟨_, pss_cons (ps_expr (pe_call GN hr (by rfl) G.Z.mR G.Z.FR.kp G.Z.bR .nil pass0 (pa_cons (pv 0) pa_nil)))
      (pss_cons (ps_expr (pe_call GN hr (by rfl) G.Z.mR G.Z.FR.kp G.Z.bR .nil pass0 (pa_cons (pv 1) pa_nil)))
      (pss_cons (ps_par (i := 2) (j := 3) (x := "rows") (y := "further_rows") rfl scParting.nd rfl rfl (by decide) rfl rfl (pa_cons (pe_call GO hr1 (by rfl) G.Z.mO G.Z.FO.kp G.Z.bO .nil pass0 (pa_cons (pv 0) pa_nil)) (pa_cons (pe_call GO hr1 (by rfl) G.Z.mO G.Z.FO.kp G.Z.bO .nil pass0 (pa_cons (pv 1) pa_nil)) pa_nil)) (by rfl))
      (pss_cons (ps_set (i := 4) scParting.nd rfl (Or.inl rfl) (pe_ndisp (B := false) hu9 (pe_tup (pa_cons pe_int (pa_cons pe_int pa_nil))) pe_bl))
      (pss_cons (ps_set (i := 5) scParting.nd rfl (Or.inl rfl) (pe_lst (pa_cons (pe_tup (pa_cons (pe_tup (pa_cons pe_int (pa_cons pe_int pa_nil))) (pa_cons pe_str pa_nil))) pa_nil)))
      (pss_cons (ps_while PassesOwn.never (pt_truth (pv 5) (fun _ => rfl))
        (pss_cons (ps_set (i := 6) scParting.nd rfl (Or.inl rfl) (pe_lst pa_nil))
        (pss_cons (ps_for PassesOwn.never rfl (pi_list (pv 5)) (pg_tup rfl (pgs_cons (pg_tup rfl (pgs_cons (pg_name (i := 7) scParting.nd rfl (Or.inl rfl)) (pgs_cons (pg_name (i := 8) scParting.nd rfl (Or.inl rfl)) pgs_nil))) (pgs_cons (pg_name (i := 9) scParting.nd rfl (Or.inl rfl)) pgs_nil)))
          (pss_cons (ps_if (pt_cmpR op_ne (pe_cmpR op_in_seq (pv 7) (pe_ix ix_tup (pv 0) pe_int (fun _ _ => rfl)) (by rfl)) (pe_cmpR op_in_seq (pv 8) (pe_ix ix_tup (pv 1) pe_int (fun _ _ => rfl)) (by rfl)) (nomark _)) (pss_one (ps_ret (pe_op op_add_str (pv 9) pe_str))) pss_nil)
          (pss_cons (ps_par (i := 10) (j := 11) (x := "row") (y := "twin_row") rfl scParting.nd rfl rfl (by decide) rfl rfl (pa_cons (pe_dget2N hu (pv 2) (pv 7) pe_dnewK ⟨rfl, rfl, rfl, rfl⟩) (pa_cons (pe_dget2N hu (pv 3) (pv 8) pe_dnewK ⟨rfl, rfl, rfl, rfl⟩) pa_nil)) (by rfl))
          (pss_one (ps_for PassesOwn.never rfl (pi_list (pe_callB (SX.cr_sortX rfl) (by rfl) G.so (by decide +kernel) (pa_cons (pe_callTy (SX.cr_setX rfl) (by rfl) G.se (by decide +kernel) (pa_cons (pe_op op_cat (pe_callTy (call_listD rfl) (by rfl) G.li (by decide +kernel) (pa_cons (pv 10) pa_nil)) (pe_callTy (call_listD rfl) (by rfl) G.li (by decide +kernel) (pa_cons (pv 11) pa_nil))) pa_nil)) pa_nil))) (pg_name (i := 12) scParting.nd rfl (Or.inl rfl))
            (pss_cons (ps_set (i := 13) scParting.nd rfl (Or.inl rfl) (pe_tup (pa_cons (pe_dget1 hu (pv 10) (pv 12) ⟨rfl, rfl, rfl, rfl⟩) (pa_cons (pe_dget1 hu (pv 11) (pv 12) ⟨rfl, rfl, rfl, rfl⟩) pa_nil))))
            (pss_one (ps_if (pt_cmp (pc_nnotin (B := false) hu9 (pv 13) (pv 4)))
              (pss_cons (ps_nput (B := false) hu9 (pv 4) (pv 13) pe_bl rfl)
              (pss_one (ps_expr (pe_bm PySem.F.plainAttrs_list PySem.F.slot_list_append PySem.F.type_list_append mt_append (pv 6) (pa_cons (pe_tup (pa_cons (pv 13) (pa_cons (pe_op op_add_str (pv 9) (pv 12)) pa_nil))) pa_nil))))) pss_nil))))))))
        (pss_one (ps_set (i := 5) scParting.nd rfl (Or.inl rfl) (pv 6))))))
      (pss_one (ps_ret pe_non))))))), ?_⟩
    refine ⟨_, rfl, v, R.xs, R.gs, rfl, h1, fun H1 s1 => ?_⟩
    refine ⟨_, rfl, u, R.ys, R.hs, rfl, h2.same s1, fun H2 s2 => ?_⟩
    refine ⟨_, rfl, v, R.xs, R.gs, rfl, h1.same (s1.trans s2), fun H3 p1 kv1 R1 => ?_⟩
    refine ⟨_, rfl, u, R.ys, R.hs, rfl, h2.same (s1.trans (s2.trans R1.sm)), fun H4 p2 kv2 R2 => ?_⟩
    have s04 := s1.trans (s2.trans (R1.sm.trans R2.sm))
    have R1 := R1.keep R2.sm
    refine ⟨_, _, rfl, ?_⟩
    refine fun Fd nFd => ?_
    refine ⟨(by show 2 ≤ sizeLine; decide), fun kb nkb => ?_⟩
    refine ⟨kb, kyP (some 0, some 0), rfl, ?_, key_p (p := (some 0, some 0)) upd_same, fun H5 o5 d5 => ?_⟩
    · rw [upd_ne (ne_of_none upd_same nkb)]
      exact upd_same
    have uk := same_upd (o := HO.tup [V.int 0, V.int 0]) nkb
    have uF := same_upd (o := DNo P w Fd []) nFd
    have s5 : Same H4 H5 := fun b o e => by
      rw [o5 b (ne_of_none e nFd)]
      exact uk _ _ (uF _ _ e)
    have z5 : zk kyP f00 (tr1 f00) = [(kyP (some 0, some 0), V.bl true)] := rfl
    rw [← z5] at d5
    clear uk uF o5 nkb
    refine gName_go2 ?_
    refine ⟨(by show 2 ≤ sizeLine; decide), fun a1 n1 => ⟨(by show 2 ≤ sizeLine; decide), fun a2 n2 => ⟨(by show 1 ≤ sizeLine; decide), fun L0 nL0 => ?_⟩⟩⟩
    have c1 := same_upd (o := HO.tup [V.int 0, V.int 0]) n1
    have c2 := same_upd (o := HO.tup [V.ref a1, V.str ""]) n2
    have c3 := same_upd (o := HO.lst [V.ref a2]) nL0
    have lse : LsE (upd (upd (upd H5 a1 (.tup [V.int 0, V.int 0])) a2 (.tup [V.ref a1, V.str ""])) L0 (.lst [V.ref a2])) L0 l00 := by
      refine ⟨[a2], upd_same, rfl, fun i a e h3 h4 => ?_⟩
      cases i with
      | zero =>
        cases h3
        cases h4
        exact ⟨a1, c3 _ _ upd_same, c3 _ _ (c2 _ _ upd_same)⟩
      | succ i => cases h3
    have d6 : DN P w false (upd (upd (upd H5 a1 (.tup [V.int 0, V.int 0])) a2 (.tup [V.ref a1, V.str ""])) L0 (.lst [V.ref a2])) Fd (zk kyP f00 (tr1 f00)) := by
      obtain ⟨xs, e⟩ := dn_at d5
      have al := c1.trans (c2.trans c3)
      exact d5.keep (by rw [al _ _ e, e]) (fun b ys q => al _ _ q)
    have s6 := s5.trans (c1.trans (c2.trans c3))
    generalize upd (upd (upd H5 a1 (.tup [V.int 0, V.int 0])) a2 (.tup [V.ref a1, V.str ""])) L0 (.lst [V.ref a2]) = H6 at lse d6 s6 ⊢
    clear c1 c2 c3 n1 n2 nL0 d5 s5 z5
    refine gName_go2 ?_
    have g0 : Gz (f00, l00) := ⟨by simp, fun p hp => by rw [List.mem_singleton.mp hp]; exact ⟨⟨by decide, by decide⟩, ⟨by decide, by decide⟩⟩, fun e he => by rw [List.mem_singleton.mp he]; exact Nat.zero_le _⟩
    refine ⟨fun n σ H' => ∃ (f : List Pr) (l : List En2) (Ls : Addr) (v6 v7 v8 v9 v10 v11 v12 v13 : Option V), σ = [some v, some u, some (.ref p1), some (.ref p2), some (.ref Fd), some (.ref Ls), v6, v7, v8, v9, v10, v11, v12, v13] ∧
      Same H4 H' ∧ DN P w false H' Fd (zk kyP f (tr1 f)) ∧ LsE H' Ls l ∧ Gz (f, l) ∧ (∀ r, Par R (sgP R) f l r → Par R (sgP R) f00 l00 r) ∧ n = 2 * (40402 - f.length) + if l = [] then 0 else 1,
      ⟨_, f00, l00, L0, none, none, none, none, none, none, none, none, rfl, s6, d6, lse, g0, fun r h => h, rfl⟩, ?_⟩
    clear lse d6 s6 g0
    rintro n σ H7 ⟨f, l, Ls, v6, v7, v8, v9, v10, v11, v12, v13, rfl, s7, d7, ls7, gz, pa, rfl⟩
    obtain ⟨as, la1, la2, la3⟩ := id ls7
    refine ⟨_, rfl, _, .inl ⟨_, SqL.of la1, rfl⟩, ?_⟩
    by_cases le : l = []
    · subst le
      have : as = [] := List.length_eq_zero_iff.mp la2
      subst this
      refine iteF' rfl ?_
      exact q _ none (s04.trans s7) (pa none .nil) (fun s e => by cases e)
    · refine iteT' (by cases as with
        | nil => exact absurd (List.length_eq_zero_iff.mp la2.symm) le
        | cons => rfl) ?_
      refine ⟨fun σ' H' => ∃ (f' : List Pr) (l' : List En2) (Lg : Addr) (v6 v7 v8 v9 v10 v11 v12 v13 : Option V), σ' = [some v, some u, some (.ref p1), some (.ref p2), some (.ref Fd), some (.ref Lg), v6, v7, v8, v9, v10, v11, v12, v13] ∧
        Same H4 H' ∧ DN P w false H' Fd (zk kyP f' (tr1 f')) ∧ LsE H' Lg l' ∧ Gz (f', l') ∧ (∀ r, Par R (sgP R) f' l' r → Par R (sgP R) f00 l00 r) ∧ f'.length = f.length + l'.length,
        fun σ' H' ⟨f', l', Lg, v6, v7, v8, v9, v10, v11, v12, v13, e1, e2, e3, e4, e5, e6, e7⟩ => ⟨_, ?_, f', l', Lg, v6, v7, v8, v9, v10, v11, v12, v13, e1, e2, e3, e4, e5, e6, rfl⟩, ?_⟩
      · have fw := e5.few
        have fw : f'.length ≤ 40401 := fw
        rw [if_neg le]
        by_cases z : l' = []
        · rw [if_pos z]
          rw [z] at e7
          simp at e7
          omega
        · rw [if_neg z]
          have := List.length_pos_iff.mpr z
          omega
      refine ⟨by decide, fun Lg nLg => ?_⟩
      have uL := same_upd (o := HO.lst []) nLg
      have Z0 : Pz P w H7 (upd H7 Lg (.lst [])) Fd Lg (f, []) := by
        obtain ⟨xs, e⟩ := dn_at d7
        exact ⟨But.of uL, d7.keep (by rw [uL _ _ e, e]) (fun b ys q => uL _ _ q), ⟨[], upd_same, rfl, fun i a e h => by cases h⟩, nLg⟩
      generalize upd H7 Lg (.lst []) = H8 at Z0 ⊢
      clear uL
      have nL : Ls ≠ Fd := dn_ne d7 la1 (dno_lst _)
      refine gName_go2 ?_
      refine ⟨_, rfl, Ls, rfl, ⟨_, SqL.of (Z0.s _ _ la1 nL)⟩, for_it (walk_list (xs := as.map V.ref)) (fun i σ H' => ∃ (v7 v8 v9 v10 v11 v12 v13 : Option V), σ = [some v, some u, some (.ref p1), some (.ref p2), some (.ref Fd), some (.ref Ls), some (.ref Lg), v7, v8, v9, v10, v11, v12, v13] ∧
          Pz P w H7 H' Fd Lg ((l.take i).foldl (ext R (sgP R)) (f, [])) ∧ Gz ((l.take i).foldl (ext R (sgP R)) (f, [])) ∧ ((l.take i).foldl (ext R (sgP R)) (f, [])).1.length = f.length + ((l.take i).foldl (ext R (sgP R)) (f, [])).2.length ∧ ((l.take i).find? fun e : En2 => par R e.1) = none)
        ⟨v7, v8, v9, v10, v11, v12, v13, rfl, Z0, ⟨gz.nd, gz.din, fun e he => by cases he⟩, rfl, rfl⟩ (fun i σ H' _ ⟨_, _, _, _, _, _, _, _, z, _⟩ => SqL.of (z.s _ _ la1 nL)) ?_ ?_⟩
      · rintro i x σ H9 HA hi ⟨v7, v8, v9, v10, v11, v12, v13, rfl, Z9, g9, c9, nf9⟩ ⟨rfl, hx⟩
        rw [List.getElem?_map] at hx
        cases ha : as[i]? with
        | none => rw [ha] at hx; cases hx
        | some a =>
          rw [ha] at hx
          cases hx
          obtain ⟨e, he⟩ : ∃ e, l[i]? = some e := ⟨_, List.getElem?_eq_getElem (by rw [← la2]; exact (List.getElem?_eq_some_iff.mp ha).1)⟩
          obtain ⟨qa, q1, q2⟩ := la3 i a e ha he
          have el := gz.ln e (List.mem_of_getElem? he)
          rw [take_one' he, List.foldl_append, List.find?_append, nf9]
          have eK : List.foldl (ext R (sgP R)) ((l.take i).foldl (ext R (sgP R)) (f, [])) [e] = ext R (sgP R) ((l.take i).foldl (ext R (sgP R)) (f, [])) e := rfl
          rw [eK]
          have pre : f.length ≤ ((l.take i).foldl (ext R (sgP R)) (f, [])).1.length := by omega
          generalize (l.take i).foldl (ext R (sgP R)) (f, []) = z at Z9 g9 c9 pre ⊢
          have kA : KeepT H7 HA := fun b xs q => Z9.s _ _ q (dn_ne d7 q (dno_tup _))
          have q1 := kA _ _ q1
          have q2 := kA _ _ q2
          have sA := Z9.s.same s7 nFd
          obtain ⟨ra1, t11, t12, rfl, rs1⟩ := rdq_ix G.C h1
          obtain ⟨ra2, t21, t22, rfl, rs2⟩ := rdq_ix G.C h2
          obtain ⟨x11, x12⟩ := rs1 HA (s04.trans sA)
          obtain ⟨x21, x22⟩ := rs2 HA (s04.trans sA)
          refine ⟨a, _, rfl, SqT.of q1, rfl, _, _, rfl, ⟨qa, _, rfl, SqT.of q2, rfl, _, _, rfl, _, _, rfl, rfl, _, _, rfl, rfl, ?_⟩⟩
          refine ⟨_, rfl, _, rfl, ra1, _, 1, .ref t12, rfl, rfl, x11, rfl, t12, R.gs.map V.int, rfl, .inr x12, by cases e.1.1 <;> rfl, ints_flat _, ?_⟩
          refine ⟨_, rfl, _, rfl, ra2, _, 1, .ref t22, rfl, rfl, x21, rfl, t22, R.hs.map V.int, rfl, .inr x22, by cases e.1.2 <;> rfl, ints_flat _, ?_⟩
          rw [acc_in, acc_in]
          refine ⟨rfl, _, rfl, ?_⟩
          have eP : (!decide (V.bl (acc R.gs e.1.1) = V.bl (acc R.hs e.1.2))) = par R e.1 := by
            unfold par
            cases acc R.gs e.1.1 <;> cases acc R.hs e.1.2 <;> rfl
          by_cases pe : par R e.1 = true
          · refine iteT' (by exact eP.trans pe) ?_
            have fnd : (l.find? fun e : En2 => par R e.1) = some e := by
              have : l = l.take i ++ (e :: l.drop (i + 1)) := by rw [← drop_at he, List.take_append_drop]
              rw [this, List.find?_append, nf9, List.find?_cons, pe]
              rfl
            have gzl : (sl e.2).length ≤ 40401 := Nat.le_trans el gz.few
            have l1 : e.2.length = (sl e.2).length := len_sl _
            have l2 : (";" : Str).length = 1 := by decide +kernel
            refine ⟨_, rfl, e.2, ";", rfl, rfl, by rw [sizeLine_eq]; omega, ?_⟩
            refine q HA (some (e.2 ++ ";")) (s04.trans sA) (pa _ (.hit (p := e.1) (t := e.2) fnd)) fun s es => ?_
            cases es
            rw [sl_app, List.length_append, semi]
            simp only [List.length_cons, List.length_nil]
            omega
          · have pf : par R e.1 = false := eq_false_of_ne_true pe
            refine iteF' (by exact eP.trans pf) ?_
            refine ⟨_, rfl, p1, rfl, .inl ⟨kv1, .inl (R1.keep sA).hp⟩, _, rfl, fun b1 nb1 => ?_⟩
            obtain ⟨o1, r1, og1, oe1, rw1⟩ := row_get (R1.keep sA) e.1.1 nb1
            have sB := same_upd (o := HO.dK []) nb1
            refine ⟨o1, og1, ?_⟩
            rw [oe1]
            generalize upd HA b1 (.dK []) = HB at sB rw1 ⊢
            refine ⟨_, rfl, p2, rfl, .inl ⟨kv2, .inl (R2.keep (sA.trans sB)).hp⟩, _, rfl, fun b2 nb2 => ?_⟩
            obtain ⟨o2, r2, og2, oe2, rw2⟩ := row_get (R2.keep (sA.trans sB)) e.1.2 nb2
            have sC := same_upd (o := HO.dK []) nb2
            refine ⟨o2, og2, ?_⟩
            rw [oe2]
            generalize upd HB b2 (.dK []) = HC at sC rw2 ⊢
            clear og1 oe1 og2 oe2 nb1 nb2
            refine ⟨_, _, rfl, ?_⟩
            obtain ⟨rk1, w11, w12, w13⟩ := rw1.same sC
            obtain ⟨rk2, w21, w22, w23⟩ := id rw2
            obtain ⟨ss1, k11, nd1, m1⟩ := row_keys w12 w13
            obtain ⟨ss2, k21, nd2, m2⟩ := row_keys w22 w23
            have in1 : ∀ c ∈ ss1, c ∈ L3s := fun c hc => Classical.byContradiction fun n => by
              refine (m1 c).mp hc ?_
              cases e.1.1 with
              | none => rfl
              | some q => exact nx_none_of few.1 n
            have in2 : ∀ c ∈ ss2, c ∈ L3s := fun c hc => Classical.byContradiction fun n => by
              refine (m2 c).mp hc ?_
              cases e.1.2 with
              | none => rfl
              | some q => exact nx_none_of few.2 n
            have l31 : ss1.length ≤ 3 := nd1.length_le_of_subset (l₂ := L3s) in1
            have l32 : ss2.length ≤ 3 := nd2.length_le_of_subset (l₂ := L3s) in2
            refine ⟨_, rfl, r1, rk1, rfl, .inl w11, fun l1 nl1 => ?_⟩
            rw [k11]
            have u1 := same_upd (o := HO.lst (ss1.map V.str)) nl1
            have e1 := upd_same (H := HC) (a := l1) (o := HO.lst (ss1.map V.str))
            have w21' := u1 _ _ w21
            generalize upd HC l1 (.lst (ss1.map V.str)) = HD at u1 e1 w21' ⊢
            refine ⟨_, rfl, r2, rk2, rfl, .inl w21', fun l2 nl2 => ?_⟩
            rw [k21]
            have u2 := same_upd (o := HO.lst (ss2.map V.str)) nl2
            have e1' := u2 _ _ e1
            have e2 := upd_same (H := HD) (a := l2) (o := HO.lst (ss2.map V.str))
            generalize upd HD l2 (.lst (ss2.map V.str)) = HE at u2 e1' e2 ⊢
            refine ⟨l1, l2, _, _, rfl, rfl, e1', e2, by rw [List.length_map, List.length_map, sizeLine_eq]; omega, fun l3 nl3 => ?_⟩
            rw [← List.map_append]
            have u3 := same_upd (o := HO.lst ((ss1 ++ ss2).map V.str)) nl3
            have e3 := upd_same (H := HE) (a := l3) (o := HO.lst ((ss1 ++ ss2).map V.str))
            generalize upd HE l3 (.lst ((ss1 ++ ss2).map V.str)) = HF at u3 e3 ⊢
            have l6 : (ss1 ++ ss2).length ≤ 6 := by rw [List.length_append]; omega
            refine ⟨l3, ss1 ++ ss2, rfl, SqL.of e3, by omega, fun aS m nS ml mm ndm => ?_⟩
            have u4 := same_upd (o := SX.SetX P w aS m) nS
            refine ⟨aS, m, rfl, upd_same, by omega, fun ys ly yl ym ysr nly => ?_⟩
            have u5 := same_upd (o := HO.lst (ys.map V.str)) nly
            have ndy : ys.Nodup := nd_of_sub ndm (fun x hx => (ym x).mpr hx) (by omega)
            have eys : ys = sgP R e.1 := by
              refine sort3 ysr ndy fun y => ?_
              rw [ym, mm, List.mem_append, m1, m2, decide_eq_true_iff]
              constructor
              · intro h
                refine ⟨?_, fun z => ?_⟩
                · rcases h with h | h
                  · exact in1 y ((m1 y).mpr h)
                  · exact in2 y ((m2 y).mpr h)
                · rcases h with h | h
                  · exact h (congrArg Prod.fst z)
                  · exact h (congrArg Prod.snd z)
              · rintro ⟨_, h⟩
                refine Classical.byContradiction fun z => h (Prod.ext ?_ ?_)
                · exact Classical.byContradiction fun y => z (.inl y)
                · exact Classical.byContradiction fun y => z (.inr y)
            subst eys
            have nyL : Lg ≠ ly := by
              obtain ⟨asL, lL, _⟩ := Z9.hL
              exact ne_of_none (u4 _ _ (u3 _ _ (u2 _ _ (u1 _ _ (sC _ _ (sB _ _ lL)))))) nly
            generalize hG : upd (upd HF aS (SX.SetX _ _ aS m)) ly (.lst ((sgP R e.1).map V.str)) = HG
            have s5C : Same HC HG := by
              rw [← hG]
              exact u1.trans (u2.trans (u3.trans (u4.trans u5)))
            have e5 : HG ly = some (.lst ((sgP R e.1).map V.str)) := by
              rw [← hG]
              exact upd_same
            have sG := sB.trans (sC.trans s5C)
            have row1 := rw1.same (sC.trans s5C)
            have row2 := rw2.same s5C
            clear hG
            have ZG := Z9.same sG
            clear u1 u2 u3 u4 u5 e1 e1' e2 e3 w21' w11 w12 w13 w21 w22 w23 k11 k21 m1 m2 nd1 nd2 in1 in2 yl ym ysr nly ml mm ndm nS nl1 nl2 nl3 ndy l31 l32 l6 rw1 rw2
            have nyF : ly ≠ Fd := dn_ne ZG.hF e5 (dno_lst _)
            obtain ⟨rk1, w11, w12, _⟩ := row1
            obtain ⟨rk2, w21, w22, _⟩ := row2
            have nd1 : ∀ {r : Addr} {rk : List (Key × V)}, HG r = some (.dK rk) → r ≠ Fd ∧ r ≠ Lg := fun {r rk} h => by
              refine ⟨dn_ne ZG.hF h (fun ys z => by unfold DNo at z; cases z), fun z => ?_⟩
              obtain ⟨asL, lL, _⟩ := ZG.hL
              rw [z, lL] at h
              cases h
            refine ⟨ly, rfl, ⟨_, SqL.of e5⟩, for_it (walk_list (xs := (sgP R e.1).map V.str)) (fun j σ H' => ∃ (v12 v13 : Option V), σ = [some (.ref ra1), some (.ref ra2), some (.ref p1), some (.ref p2), some (.ref Fd), some (.ref Ls), some (.ref Lg), some (oV e.1.1), some (oV e.1.2), some (.str e.2), some (.ref r1), some (.ref r2), v12, v13] ∧
                Pz P w H7 H' Fd Lg (((sgP R e.1).take j).foldl (ext1 R e) z) ∧ Gz (((sgP R e.1).take j).foldl (ext1 R e) z) ∧ (((sgP R e.1).take j).foldl (ext1 R e) z).1.length = f.length + (((sgP R e.1).take j).foldl (ext1 R e) z).2.length ∧ z.1.length ≤ (((sgP R e.1).take j).foldl (ext1 R e) z).1.length ∧
                ∀ b o, HG b = some o → b ≠ Fd → b ≠ Lg → H' b = some o)
              ⟨v12, v13, rfl, ZG, g9, c9, Nat.le_refl _, fun b o h _ _ => h⟩ (fun j σ H' _ ⟨_, _, _, _, _, _, _, k2⟩ => SqL.of (k2 _ _ e5 nyF nyL.symm)) ?_ ?_⟩
            · rintro j x σ HH HI hj ⟨v12, v13, rfl, ZH, gH, cH, zH, k2⟩ ⟨rfl, hx⟩
              rw [List.getElem?_map] at hx
              cases hc : (sgP R e.1)[j]? with
              | none => rw [hc] at hx; cases hx
              | some c =>
                rw [hc] at hx
                cases hx
                have c3 : c ∈ L3s := (List.mem_filter.mp (List.mem_of_getElem? hc)).1
                obtain ⟨cn, _, ec1, _⟩ := three_one c3
                have lc : c.length = 1 := by
                  rw [len_sl, ec1]
                  rfl
                rw [take_one' hc, List.foldl_append]
                have eK2 : List.foldl (ext1 R e) (((sgP R e.1).take j).foldl (ext1 R e) z) [c] = ext1 R e (((sgP R e.1).take j).foldl (ext1 R e) z) c := rfl
                rw [eK2]
                generalize ((sgP R e.1).take j).foldl (ext1 R e) z = y at ZH gH cH zH ⊢
                obtain ⟨g1, g2, g3⟩ := gH.ext1 (R := R) (e := e) (c := c) rng (by rw [ec1]; rfl) (by have : (sl e.2).length ≤ f.length := el; omega)
                have hw1 := k2 _ _ w11 (nd1 w11).1 (nd1 w11).2
                have hw2 := k2 _ _ w21 (nd1 w21).1 (nd1 w21).2
                refine ⟨_, rfl, r1, rfl, .inl ⟨rk1, .inl hw1⟩, _, rfl, _, DGet.k (k := Sum.inr c) hw1, _, rfl, r2, rfl, .inl ⟨rk2, .inl hw2⟩, _, rfl, _, DGet.k (k := Sum.inr c) hw2, (by show 2 ≤ sizeLine; decide), fun pb npb => ?_⟩
                rw [w12 c, w22 c, oV_map, oV_map]
                have up := same_upd (o := HO.tup [oV (nx2 R e.1 c).1, oV (nx2 R e.1 c).2]) npb
                have eb : upd HI pb (.tup [oV (nx2 R e.1 c).1, oV (nx2 R e.1 c).2]) pb = some (.tup [oV (nx2 R e.1 c).1, oV (nx2 R e.1 c).2]) := upd_same
                have ZJ := ZH.same up
                have k3 : ∀ b o, HG b = some o → b ≠ Fd → b ≠ Lg → (upd HI pb (.tup [oV (nx2 R e.1 c).1, oV (nx2 R e.1 c).2])) b = some o := fun b o q n1 n2 => up _ _ (k2 b o q n1 n2)
                show gName 13 _ _ (upd HI pb (.tup [oV (nx2 R e.1 c).1, oV (nx2 R e.1 c).2])) _
                generalize upd HI pb (.tup [oV (nx2 R e.1 c).1, oV (nx2 R e.1 c).2]) = HJ at eb ZJ k3 ⊢
                clear up npb k2 ZH hw1 hw2
                refine gName_go2 ?_
                refine ⟨_, rfl, _, rfl, Fd, pb, _, _, rfl, rfl, ZJ.hF.rd, key_p eb, _, rfl, ?_⟩
                rw [found_is]
                unfold ext1 at g1 g2 g3 ⊢
                by_cases m : nx2 R e.1 c ∈ y.1
                · rw [if_pos m] at g1 g2 g3 ⊢
                  rw [decide_eq_true m]
                  refine iteF' rfl ?_
                  exact ⟨_, _, rfl, ZJ, g1, cH, zH, k3⟩
                · rw [if_neg m] at g1 g2 g3 ⊢
                  rw [decide_eq_false m]
                  refine iteT' rfl ?_
                  have fw := gH.few
                  obtain ⟨asL, lL, lL2, _⟩ := id ZJ.hL
                  have nLF : Lg ≠ Fd := dn_ne ZJ.hF lL (dno_lst _)
                  refine ⟨_, rfl, _, rfl, Fd, pb, _, _, rfl, rfl, ZJ.hF, key_p eb, by rw [zk_len kyP (tr1_len _), sizeLine_eq]; omega, fun HK oK dK => ?_⟩
                  have hv : valV (zk kyP y.1 (tr1 y.1)) (kyP (nx2 R e.1 c)) = none := zk_none kyP kyP_inj m
                  rw [putK_new _ hv, found_snoc] at dK
                  have lLK : HK Lg = some (.lst (asL.map V.ref)) := by rw [oK _ nLF]; exact lL
                  have gzl : (sl e.2).length ≤ 40401 := Nat.le_trans el gz.few
                  have l1 : e.2.length = (sl e.2).length := len_sl _
                  refine ⟨_, rfl, .inl ⟨rfl, _, SqL.of lLK⟩, _, rfl, _, rfl, _, rfl, e.2, c, rfl, rfl, by rw [sizeLine_eq]; omega, (by show 2 ≤ sizeLine; decide), fun ea nea => ?_⟩
                  have ue := same_upd (o := HO.tup [V.ref pb, V.str (e.2 ++ c)]) nea
                  have ny : y.2.length ≤ 40401 := by omega
                  refine ⟨Lg, asL.map V.ref, _, rfl, rfl, ue _ _ lLK, by rw [List.length_map, lL2, sizeLine_eq]; omega, ?_⟩
                  have ZP := ZJ.push (p := nx2 R e.1 c) (t := e.2 ++ c) eb oK dK nea lL
                  refine ⟨_, _, rfl, ZP, g1, ?_, ?_, fun b o q n1 n2 => ?_⟩
                  · have := cH
                    simp only [List.length_append, List.length_singleton]
                    omega
                  · rw [List.length_append]
                    omega
                  · rw [upd_ne n2]
                    refine ue _ _ ?_
                    rw [oK b n1]
                    exact k3 b o q n1 n2
            · rintro σ HH ⟨v12, v13, rfl, ZH, gH, cH, zH, k2⟩
              rw [List.length_map, List.take_length] at ZH gH cH zH
              refine ⟨_, _, _, _, _, _, _, rfl, ZH, gH, cH, ?_⟩
              rw [List.find?_cons, pf]
              rfl
      · rintro σ H9 ⟨v7, v8, v9, v10, v11, v12, v13, rfl, Z9, g9, c9, nf9⟩
        rw [List.length_map, la2, List.take_length] at Z9 g9 c9 nf9
        refine ⟨_, rfl, _, _, Lg, _, _, _, _, _, _, _, _, rfl, Z9.s.same s7 nFd, Z9.hF, Z9.hL, g9, fun r hr => ?_, c9⟩
        exact pa r (.go nf9 le hr)
end
end K10

set_option Elab.async false
set_option linter.all false
set_option maxRecDepth 100000
set_option maxHeartbeats 8000000
/-! first_taken; the law's signs; its search, in memory. -/
namespace K10
open PySem L2 L2.EV PyProof.Rows PySem.Spec
abbrev sFirstTaken : Stmt := top 39
abbrev sSigns : Stmt := top 48
def spFirstT (nA : Addr) : Sp := fun vs H Q _ => ∃ (v : V) (xs : List T3) (gs : List Int), vs = [v] ∧ RdQ nA H v xs gs ∧ Few ⟨xs, gs, [], []⟩ ∧ Rng ⟨xs, gs, [], []⟩ ∧
  ∀ H' (r : Option Str), Same H H' → Par ⟨xs, gs, [], []⟩ (sgP ⟨xs, gs, [], []⟩) f00 l00 r → (∀ s, r = some s → (sl s).length ≤ 50000) → Q (rT r) H'
def allC : List Nat := sl "0123456789@abcdefghijklmnopqrstuvwxyz"
@[irreducible] def allS : List Str := allC.map ch1
theorem all3 : allS.filter (fun c => decide (c ∈ L3s)) = L3s := by decide +kernel
theorem chs_one (n : Nat) : chs (ch1 n) = [ch1 n] := rfl
section
variable {P : Program} {w : World} {K : PySem.W.Frag} {mg : Str → Option Value} {base : Heap}
theorem scFT : FnScope ["reader"] ["reader"] (defScope sFirstTaken) := ⟨rfl, rfl, rfl, by decide +kernel, rfl, by decide +kernel, by decide +kernel⟩
theorem ok_firstT (G : Pg K mg) {f : Addr} {d : FuncData} (F : Fun K "first_taken" "first_taken" sFirstTaken f d) : FnOk P w K mg base CX0 5 f d ["reader"] (spFirstT G.C.n) := by
  have GP : FnOk P w K mg base CX0 4 G.f G.d ["one", "other"] (spParting G.C.n) := ok_parting G
  refine F.ok scFT (fun vs H Q E h => ?_) (fun cdv A outer s H vs Q E hr h => ?_)
  · obtain ⟨v, xs, gs, rfl, _⟩ := h
    rfl
  · obtain ⟨v, xs, gs, rfl, h1, few, rng, q⟩ := h
    refine ⟨_, pss_one (ps_ret (pe_call GP hr (by rfl) G.m G.F.kp G.b .nil pass0 (pa_cons (pv 0) (pa_cons (pe_glob (v := .ref G.C.n) (by rfl) G.C.m rfl) pa_nil)))), ?_⟩
    exact ⟨_, rfl, v, .ref G.C.n, ⟨xs, gs, [], []⟩, rfl, h1, .inr ⟨rfl, rfl, rfl⟩, few, rng, q⟩
theorem scSigns : FnScope [] [] (defScope sSigns) := ⟨rfl, rfl, rfl, by decide +kernel, rfl, by decide +kernel, by decide +kernel⟩
theorem ok_signs {f : Addr} {d : FuncData} (F : Fun K "_law_signs" "_law_signs" sSigns f d) : FnOk P w K mg base CX0 1 f d [] (fun vs H Q _ => vs = [] ∧ Q (.str "0123456789@abcdefghijklmnopqrstuvwxyz") H) := by
  refine F.ok scSigns (fun vs H Q E h => ?_) (fun cdv A outer s H vs Q E hr h => ?_)
  · rw [h.1]
    rfl
  · exact ⟨_, pss_one (ps_ret pe_str), h.2⟩
end
/-- an entry of a layer of the law's -/
def EnL (H : Hp) (a : Addr) (e : En2) : Prop := H a = some (.tup [.str e.2, oV e.1.1, oV e.1.2])
def LsL (H : Hp) (l : Addr) (es : List En2) : Prop := ∃ as : List Addr, H l = some (.lst (as.map V.ref)) ∧ as.length = es.length ∧ ∀ (i : Nat) a e, as[i]? = some a → es[i]? = some e → EnL H a e
def dO : Option Int → PyData
  | none => .none
  | some i => .int i
def dE (e : En2) : PyData := .tuple [.str e.2, dO e.1.1, dO e.1.2]
theorem dp_o {K : PySem.W.Frag} {H : Hp} (o : Option Int) : Dp K H (oV o) (dO o) := by
  cases o with
  | none => exact .non
  | some i => exact .int i
theorem dp_en {K : PySem.W.Frag} {H : Hp} {a : Addr} {e : En2} (h : EnL H a e) : Dp K H (.ref a) (dE e) := .tup (SqT.of h) (.cons (.str _) (.cons (dp_o _) (.cons (dp_o _) .nil)))
theorem dp_ens {K : PySem.W.Frag} {H : Hp} : ∀ {as : List Addr} {es : List En2}, as.length = es.length → (∀ (i : Nat) a e, as[i]? = some a → es[i]? = some e → EnL H a e) → DpAll K H (as.map V.ref) (es.map dE)
  | [], [], _, _ => .nil
  | [], _ :: _, l, _ => by cases l
  | _ :: _, [], l, _ => by cases l
  | a :: as, e :: es, l, h => .cons (dp_en (h 0 a e rfl rfl)) (dp_ens (by simpa using l) fun i b f h1 h2 => h (i + 1) b f (by simpa using h1) (by simpa using h2))
theorem low_ok {x : Str} : PyData.strOk x = true ↔ ∀ c ∈ sl x, c < 0x110000 := by
  unfold PyData.strOk
  rw [Array.all_eq_true']
  constructor
  · intro h c hc
    have := h c (Array.mem_toList_iff.mp hc)
    simpa using this
  · intro h c hc
    have := h c (Array.mem_toList_iff.mpr hc)
    simpa using this
theorem app_ok {x y : Str} (hx : PyData.strOk x = true) (hy : PyData.strOk y = true) : PyData.strOk (x ++ y) = true := low_ok.mpr fun c hc => by
  rw [sl_app] at hc
  exact (List.mem_append.mp hc).elim (low_ok.mp hx c) (low_ok.mp hy c)
theorem all_ok : ∀ c ∈ allS, PyData.strOk c = true := by decide +kernel
theorem sh_en {e : En2} (h : PyData.strOk e.2 = true) : PyData.canLay0 (dE e) = true ∧ PyData.depth (dE e) = 1 := by
  obtain ⟨⟨a, b⟩, t⟩ := e
  have h : PyData.strOk t = true := h
  cases a <;> cases b <;> exact ⟨by simp [dE, dO, PyData.canLay0, PyData.canLayAll0, h], by simp [dE, dO, PyData.depth, PyData.depthAll]⟩
theorem sh_ens {es : List En2} (h : ∀ e ∈ es, PyData.strOk e.2 = true) : SeqAt.shaped (.list (es.map dE)) = true := by
  have z : ∀ es : List En2, (∀ e ∈ es, PyData.strOk e.2 = true) → PyData.canLayAll0 (es.map dE) = true ∧ PyData.depthAll (es.map dE) ≤ 1 := by
    intro es
    induction es with
    | nil => exact fun _ => ⟨by simp [PyData.canLayAll0], by simp [PyData.depthAll]⟩
    | cons e es ih =>
      intro h
      obtain ⟨a, b⟩ := sh_en (h e (List.mem_cons_self ..))
      have ih := ih fun e he => h e (List.mem_cons_of_mem _ he)
      refine ⟨by simp [PyData.canLayAll0, a, ih.1], ?_⟩
      have := ih.2
      simp only [List.map_cons, PyData.depthAll, b]
      omega
  obtain ⟨a, b⟩ := z es h
  show (PyData.canLay0 (.list (es.map dE)) && decide (PyData.depth (.list (es.map dE)) ≤ 64)) = true
  rw [Bool.and_eq_true]
  refine ⟨by simp only [PyData.canLay0]; exact a, decide_eq_true ?_⟩
  simp only [PyData.depth]
  omega
theorem sh_nil : SeqAt.shaped (.list []) = true := by decide +kernel
theorem eqv_nilL (ds : List PyData) : PyData.eqv (.list ds) (.list []) = ds.isEmpty := by
  cases ds <;> simp [PyData.eqv, PyData.eqvAll]
section
variable {P : Program} {w : World}
structure Pl (P : Program) (w : World) (H H' : Hp) (Fd Lg : Addr) (z : FL) : Prop where
  s : But Fd H H'
  hF : DN P w false H' Fd (zk kyP z.1 (tr1 z.1))
  hL : LsL H' Lg z.2
  n : H Lg = none
variable {H H' H'' : Hp} {Fd Lg : Addr} {z : FL}
theorem Pl.same (h : Pl P w H H' Fd Lg z) (s : Same H' H'') : Pl P w H H'' Fd Lg z := by
  obtain ⟨xs, e⟩ := dn_at h.hF
  obtain ⟨as, l1, l2, l3⟩ := h.hL
  exact ⟨h.s.trans (But.of s), h.hF.keep (by rw [s _ _ e, e]) (fun b ys q => s _ _ q), ⟨as, s _ _ l1, l2, fun i a e h1 h2 => s _ _ (l3 i a e h1 h2)⟩, h.n⟩
theorem Pl.push (h : Pl P w H H' Fd Lg z) {p : Pr} {t : Str} {H1 : Hp} (o : OnlyAt H' H1 Fd) (d : DN P w false H1 Fd (zk kyP (z.1 ++ [p]) (tr1 (z.1 ++ [p])))) {a : Addr} (na : H1 a = none) {as : List Addr} (hl : H' Lg = some (.lst (as.map V.ref))) :
    Pl P w H (L2.upd (L2.upd H1 a (.tup [.str t, oV p.1, oV p.2])) Lg (.lst (as.map V.ref ++ [.ref a]))) Fd Lg (z.1 ++ [p], z.2 ++ [(p, t)]) := by
  obtain ⟨as2, l1, l2, l3⟩ := h.hL
  have ea : as = as2 := by
    rw [hl] at l1
    exact (List.map_inj_right fun a b q => by cases q; rfl).mp (HO.lst.inj (Option.some.inj l1))
  subst ea
  have nL : Lg ≠ Fd := dn_ne h.hF hl (dno_lst _)
  have kt : KeepT H' H1 := fun c xs e => by
    rw [o c (dn_ne h.hF e (dno_tup _))]
    exact e
  have hl1 : H1 Lg = some (.lst (as.map V.ref)) := by rw [o _ nL]; exact hl
  have u := same_upd (o := HO.tup [.str t, oV p.1, oV p.2]) na
  have k2 : KeepT (L2.upd H1 a (.tup [.str t, oV p.1, oV p.2])) (L2.upd (L2.upd H1 a (.tup [.str t, oV p.1, oV p.2])) Lg (.lst (as.map V.ref ++ [.ref a]))) := keepT_upd (u _ _ hl1) (fun xs z => by cases z)
  have kall := (Same.keepT u).trans k2
  obtain ⟨xs, eF⟩ := dn_at d
  have nFa : Fd ≠ a := ne_of_none eF na
  refine ⟨fun c ob e nc => ?_, ?_, ⟨as ++ [a], by rw [List.map_append]; exact upd_same, by rw [List.length_append, List.length_append, l2]; rfl, ?_⟩, h.n⟩
  · have c1 : c ≠ Lg := ne_of_none e h.n
    rw [upd_ne c1]
    refine u _ _ ?_
    rw [o c nc]
    exact h.s c ob e nc
  · exact d.keep (by rw [upd_ne nL.symm, upd_ne nFa]) (fun b ys q => kall _ _ q)
  · exact snoc_at l2 (fun i x e h1 h2 => kall _ _ (kt _ _ (l3 i x e h1 h2))) (k2 _ _ upd_same)
end
end K10

set_option Elab.async false
set_option linter.all false
set_option maxRecDepth 100000
set_option maxHeartbeats 8000000
/-! _law_first_parting. -/
namespace K10
open PySem L2 L2.EV PyProof.Rows PySem.Spec
abbrev sLFP : Stmt := top 50
abbrev NLf : List Str := ["one", "other", "mine", "yours", "layer", "known", "text", "here", "there", "further", "sign", "fresh"]
def spLFP : Sp := fun vs H Q _ => ∃ (r1 r2 : Addr) (R : Two), vs = [.ref r1, .ref r2] ∧ RdA H r1 R.xs R.gs ∧ RdA H r2 R.ys R.hs ∧ R.xs.length ≤ 12800 ∧ R.ys.length ≤ 12800 ∧ Rng R ∧
  ∀ H' (r : Option Str), Same H H' → Par R (fun _ => allS) f00 l00 r → Q (rT r) H'
structure Lp (K : PySem.W.Frag) (mg : Str → Option Value) where
  fT : Addr
  dT : FuncData
  T : Fun K "_law_table" "_law_table" sTable fT dT
  bT : Binds K dT ["reader"] []
  mT : mg "_law_table" = some (.ref fT)
  fL : Addr
  dL : FuncData
  L : Fun K "_law_led" "_law_led" sLLed fL dL
  bL : Binds K dL ["table", "state", "signs"] []
  mL : mg "_law_led" = some (.ref fL)
  fS : Addr
  dS : FuncData
  S : Fun K "_law_signs" "_law_signs" sSigns fS dS
  bS : Binds K dS [] []
  mS : mg "_law_signs" = some (.ref fS)
  f : Addr
  d : FuncData
  F : Fun K "_law_first_parting" "_law_first_parting" sLFP f d
  b : Binds K d ["one", "other"] []
  m : mg "_law_first_parting" = some (.ref f)
  di : mg "dict" = none
section
variable {P : Program} {w : World} {K : PySem.W.Frag} {mg : Str → Option Value} {base : Heap}
theorem scLFP : FnScope NLf ["one", "other"] (defScope sLFP) := ⟨rfl, rfl, rfl, by decide +kernel, rfl, by decide +kernel, by decide +kernel⟩
theorem ok_lfp (G : Lp K mg) : FnOk P w K mg base CX0 2 G.f G.d ["one", "other"] spLFP := by
  have GT : FnOk P w K mg base CX0 1 G.fT G.dT ["reader"] spTable := ok_table G.T G.di
  have GL : FnOk P w K mg base CX0 1 G.fL G.dL ["table", "state", "signs"] spLLed := ok_lled G.L
  have GS : FnOk P w K mg base CX0 1 G.fS G.dS [] (fun vs H Q _ => vs = [] ∧ Q (.str "0123456789@abcdefghijklmnopqrstuvwxyz") H) := ok_signs G.S
  refine G.F.ok scLFP (fun vs H Q E h => ?_) (fun cdv A outer s H vs Q E hr h => ?_)
  · obtain ⟨r1, r2, R, rfl, _⟩ := h
    rfl
  · obtain ⟨r1, r2, R, rfl, h1, h2, xl1, xl2, rng, q⟩ := h
    have hu9 : (A.deeper (PyProof.Rows.envOfC "_law_first_parting" (defScope sLFP) s.heap.objs.size G.f cdv)).units + 9 < cLine := by have := hr.un; omega
    have hu64 : (A.deeper (PyProof.Rows.envOfC "_law_first_parting" (defScope sLFP) s.heap.objs.size G.f cdv)).units + 64 < cLine := by have := hr.un; omega
    refine ⟨_, pss_cons (ps_par (i := 2) (j := 3) (x := "mine") (y := "yours") rfl scLFP.nd rfl rfl (by decide) rfl rfl (pa_cons (pe_call GT hr (by rfl) G.mT G.T.kp G.bT .nil pass0 (pa_cons (pv 0) pa_nil)) (pa_cons (pe_call GT hr (by rfl) G.mT G.T.kp G.bT .nil pass0 (pa_cons (pv 1) pa_nil)) pa_nil)) (by rfl))
      (pss_cons (ps_par (i := 4) (j := 5) (x := "layer") (y := "known") rfl scLFP.nd rfl rfl (by decide) rfl rfl (pa_cons (pe_lst (pa_cons (pe_tup (pa_cons pe_str (pa_cons pe_int (pa_cons pe_int pa_nil)))) pa_nil)) (pa_cons (pe_ndisp (B := false) hu9 (pe_tup (pa_cons pe_int (pa_cons pe_int pa_nil))) pe_bl) pa_nil)) (by rfl))
      (pss_cons (ps_while PassesOwn.never (pt_cmpR (op_neD hu64) (pv 4) (pe_lst pa_nil) (nomark _))
        (pss_cons (ps_for PassesOwn.never rfl (pi_list (pv 4)) (pg_tup rfl (pgs_cons (pg_name (i := 6) scLFP.nd rfl (Or.inl rfl)) (pgs_cons (pg_name (i := 7) scLFP.nd rfl (Or.inl rfl)) (pgs_cons (pg_name (i := 8) scLFP.nd rfl (Or.inl rfl)) pgs_nil))))
          (pss_one (ps_if (pt_cmpR op_ne (pe_cmpR op_in_seq (pv 7) (pe_ix ix_tup (pv 0) pe_int (fun _ _ => rfl)) (by rfl)) (pe_cmpR op_in_seq (pv 8) (pe_ix ix_tup (pv 1) pe_int (fun _ _ => rfl)) (by rfl)) (nomark _)) (pss_one (ps_ret (pe_op op_add_str (pv 6) pe_str))) pss_nil)))
        (pss_cons (ps_set (i := 9) scLFP.nd rfl (Or.inl rfl) (pe_lst pa_nil))
        (pss_cons (ps_for PassesOwn.never rfl (pi_list (pv 4)) (pg_tup rfl (pgs_cons (pg_name (i := 6) scLFP.nd rfl (Or.inl rfl)) (pgs_cons (pg_name (i := 7) scLFP.nd rfl (Or.inl rfl)) (pgs_cons (pg_name (i := 8) scLFP.nd rfl (Or.inl rfl)) pgs_nil))))
          (pss_one (ps_for PassesOwn.never rfl (pi_str (pe_call0 GS hr (by rfl) G.mS G.S.kp G.bS .nil pass0)) (pg_name (i := 10) scLFP.nd rfl (Or.inl rfl))
            (pss_cons (ps_set (i := 11) scLFP.nd rfl (Or.inl rfl) (pe_tup (pa_cons (pe_call GL hr (by rfl) G.mL G.L.kp G.bL .nil pass0 (pa_cons (pv 2) (pa_cons (pv 7) (pa_cons (pv 10) pa_nil)))) (pa_cons (pe_call GL hr (by rfl) G.mL G.L.kp G.bL .nil pass0 (pa_cons (pv 3) (pa_cons (pv 8) (pa_cons (pv 10) pa_nil)))) pa_nil))))
            (pss_one (ps_if (pt_cmp (pc_nnotin (B := false) hu9 (pv 11) (pv 5)))
              (pss_cons (ps_nput (B := false) hu9 (pv 5) (pv 11) pe_bl rfl)
              (pss_one (ps_expr (pe_bm PySem.F.plainAttrs_list PySem.F.slot_list_append PySem.F.type_list_append mt_append (pv 9) (pa_cons (pe_tup (pa_cons (pe_op op_add_str (pv 6) (pv 10)) (pa_cons (pe_ix ix_tup (pv 11) pe_int (fun _ _ => rfl)) (pa_cons (pe_ix ix_tup (pv 11) pe_int (fun _ _ => rfl)) pa_nil)))) pa_nil))))) pss_nil))))))
        (pss_one (ps_set (i := 4) scLFP.nd rfl (Or.inl rfl) (pv 9)))))))
      (pss_one (ps_ret pe_non)))), ?_⟩
    obtain ⟨t11, t12, _, x11, _, _, x12⟩ := id h1
    obtain ⟨t21, t22, _, x21, _, _, x22⟩ := id h2
    refine ⟨_, rfl, r1, R.xs, R.gs, rfl, h1, xl1, fun H1 p1 s1 T1 => ?_⟩
    refine ⟨_, rfl, r2, R.ys, R.hs, rfl, h2.same s1, xl2, fun H2 p2 s2 T2 => ?_⟩
    have T1 := T1.same s2
    refine ⟨_, _, rfl, ?_⟩
    have s02 := s1.trans s2
    refine ⟨(by show 3 ≤ sizeLine; decide), fun a2 n2 => ⟨(by show 1 ≤ sizeLine; decide), fun L0 nL0 => ?_⟩⟩
    have c2 := same_upd (o := HO.tup [V.str "", V.int 0, V.int 0]) n2
    have c3 := same_upd (o := HO.lst [V.ref a2]) nL0
    have lse : LsL (upd (upd H2 a2 (.tup [V.str "", V.int 0, V.int 0])) L0 (.lst [V.ref a2])) L0 l00 := by
      refine ⟨[a2], upd_same, rfl, fun i a e h3 h4 => ?_⟩
      cases i with
      | zero =>
        cases h3
        cases h4
        exact c3 _ _ upd_same
      | succ i => cases h3
    have s3 := c2.trans c3
    generalize upd (upd H2 a2 (.tup [V.str "", V.int 0, V.int 0])) L0 (.lst [V.ref a2]) = H3 at lse s3 ⊢
    clear c2 c3 n2 nL0
    refine fun Fd nFd => ?_
    refine ⟨(by show 2 ≤ sizeLine; decide), fun kb nkb => ?_⟩
    refine ⟨kb, kyP (some 0, some 0), rfl, ?_, key_p (p := (some 0, some 0)) upd_same, fun H5 o5 d5 => ?_⟩
    · rw [upd_ne (ne_of_none upd_same nkb)]
      exact upd_same
    have uk := same_upd (o := HO.tup [V.int 0, V.int 0]) nkb
    have uF := same_upd (o := DNo P w Fd []) nFd
    have s35 : Same H3 H5 := fun b o e => by
      rw [o5 b (ne_of_none e nFd)]
      exact uk _ _ (uF _ _ e)
    have z5 : zk kyP f00 (tr1 f00) = [(kyP (some 0, some 0), V.bl true)] := rfl
    rw [← z5] at d5
    have lse5 : LsL H5 L0 l00 := by
      obtain ⟨as, l1, l2, l3⟩ := lse
      exact ⟨as, s35 _ _ l1, l2, fun i a e q1 q2 => s35 _ _ (l3 i a e q1 q2)⟩
    have s5 := s3.trans s35
    have nF2 : H2 Fd = none := none_of s3 nFd
    clear uk uF o5 nkb z5 lse s35
    refine ⟨_, _, rfl, ?_⟩
    have g0 : Gz (f00, l00) := ⟨by simp, fun p hp => by rw [List.mem_singleton.mp hp]; exact ⟨⟨by decide, by decide⟩, ⟨by decide, by decide⟩⟩, fun e he => by rw [List.mem_singleton.mp he]; exact Nat.zero_le _⟩
    refine ⟨fun n σ H' => ∃ (f : List Pr) (l : List En2) (Ls : Addr) (v6 v7 v8 v9 v10 v11 : Option V), σ = [some (.ref r1), some (.ref r2), some (.ref p1), some (.ref p2), some (.ref Ls), some (.ref Fd), v6, v7, v8, v9, v10, v11] ∧
      Same H2 H' ∧ DN P w false H' Fd (zk kyP f (tr1 f)) ∧ LsL H' Ls l ∧ Gz (f, l) ∧ (∀ e ∈ l, PyData.strOk e.2 = true) ∧ (∀ r, Par R (fun _ => allS) f l r → Par R (fun _ => allS) f00 l00 r) ∧ n = 2 * (40402 - f.length) + if l = [] then 0 else 1,
      ⟨_, f00, l00, L0, none, none, none, none, none, none, rfl, s5, d5, lse5, g0, fun e he => by rw [List.mem_singleton.mp he]; decide +kernel, fun r h => h, rfl⟩, ?_⟩
    clear lse5 d5 s5 g0
    rintro n σ H7 ⟨f, l, Ls, v6, v7, v8, v9, v10, v11, rfl, s7, d7, ls7, gz, tx, pa, rfl⟩
    obtain ⟨as, la1, la2, la3⟩ := id ls7
    refine ⟨_, rfl, (by show 0 ≤ sizeLine; decide), fun p8 np8 => ?_⟩
    have u8 := same_upd (o := HO.lst []) np8
    refine ⟨.list (l.map dE), .list [], .lst (SqL.of (u8 _ _ la1)) (dp_ens la2 fun i a e q1 q2 => u8 _ _ (la3 i a e q1 q2)), .lst (SqL.of upd_same) .nil, sh_ens tx, sh_nil, _, rfl, ?_⟩
    rw [eqv_nilL, List.isEmpty_map]
    have la1 := u8 _ _ la1
    have la3 : ∀ (i : Nat) a e, as[i]? = some a → l[i]? = some e → EnL (upd H7 p8 (.lst [])) a e := fun i a e q1 q2 => u8 _ _ (la3 i a e q1 q2)
    have d7 : DN P w false (upd H7 p8 (.lst [])) Fd (zk kyP f (tr1 f)) := by
      obtain ⟨xs, e⟩ := dn_at d7
      exact d7.keep (by rw [u8 _ _ e, e]) (fun b ys q => u8 _ _ q)
    have s7 := s7.trans u8
    generalize upd H7 p8 (.lst []) = H8 at la1 la3 d7 s7 ⊢
    clear u8 np8 ls7
    by_cases le : l = []
    · subst le
      refine iteF' rfl ?_
      exact q _ none (s02.trans s7) (pa none .nil)
    · refine iteT' (by cases l with
        | nil => exact absurd rfl le
        | cons _ _ => rfl) ?_
      refine ⟨fun σ' H' => ∃ (f' : List Pr) (l' : List En2) (Lg : Addr) (v6 v7 v8 v9 v10 v11 : Option V), σ' = [some (.ref r1), some (.ref r2), some (.ref p1), some (.ref p2), some (.ref Lg), some (.ref Fd), v6, v7, v8, v9, v10, v11] ∧
        Same H2 H' ∧ DN P w false H' Fd (zk kyP f' (tr1 f')) ∧ LsL H' Lg l' ∧ Gz (f', l') ∧ (∀ e ∈ l', PyData.strOk e.2 = true) ∧ (∀ r, Par R (fun _ => allS) f' l' r → Par R (fun _ => allS) f00 l00 r) ∧ f'.length = f.length + l'.length,
        fun σ' H' ⟨f', l', Lg, v6, v7, v8, v9, v10, v11, e1, e2, e3, e4, e5, et, e6, e7⟩ => ⟨_, ?_, f', l', Lg, v6, v7, v8, v9, v10, v11, e1, e2, e3, e4, e5, et, e6, rfl⟩, ?_⟩
      · have fw := e5.few
        have fw : f'.length ≤ 40401 := fw
        rw [if_neg le]
        by_cases z : l' = []
        · rw [if_pos z]
          rw [z] at e7
          simp at e7
          omega
        · rw [if_neg z]
          have := List.length_pos_iff.mpr z
          omega
      have nL : Ls ≠ Fd := dn_ne d7 la1 (dno_lst _)
      refine ⟨_, rfl, Ls, rfl, ⟨_, SqL.of la1⟩, for_it (walk_list (xs := as.map V.ref)) (fun i σ H' => ∃ (v6 v7 v8 : Option V), σ = [some (.ref r1), some (.ref r2), some (.ref p1), some (.ref p2), some (.ref Ls), some (.ref Fd), v6, v7, v8, v9, v10, v11] ∧ H' = H8 ∧ ((l.take i).find? fun e : En2 => par R e.1) = none)
        ⟨v6, v7, v8, rfl, rfl, rfl⟩ (fun i σ H' _ ⟨_, _, _, _, z, _⟩ => by rw [z]; exact SqL.of la1) ?_ ?_⟩
      · rintro i x σ H9 HA hi ⟨v6, v7, v8, rfl, rfl, nf9⟩ ⟨rfl, hx⟩
        rw [List.getElem?_map] at hx
        cases ha : as[i]? with
        | none => rw [ha] at hx; cases hx
        | some a =>
          rw [ha] at hx
          cases hx
          obtain ⟨e, he⟩ : ∃ e, l[i]? = some e := ⟨_, List.getElem?_eq_getElem (by rw [← la2]; exact (List.getElem?_eq_some_iff.mp ha).1)⟩
          have q1 := la3 i a e ha he
          have el := gz.ln e (List.mem_of_getElem? he)
          rw [take_one' he, List.find?_append, nf9]
          have s8 := s02.trans s7
          refine ⟨a, _, rfl, SqT.of q1, rfl, _, _, rfl, _, _, rfl, _, _, rfl, rfl, ?_⟩
          refine ⟨_, rfl, _, rfl, r1, _, 1, .ref t12, rfl, rfl, SqT.of (s8 _ _ x11), rfl, t12, R.gs.map V.int, rfl, .inr (SqT.of (s8 _ _ x12)), by cases e.1.1 <;> rfl, ints_flat _, ?_⟩
          refine ⟨_, rfl, _, rfl, r2, _, 1, .ref t22, rfl, rfl, SqT.of (s8 _ _ x21), rfl, t22, R.hs.map V.int, rfl, .inr (SqT.of (s8 _ _ x22)), by cases e.1.2 <;> rfl, ints_flat _, ?_⟩
          rw [acc_in, acc_in]
          refine ⟨rfl, _, rfl, ?_⟩
          have eP : (!decide (V.bl (acc R.gs e.1.1) = V.bl (acc R.hs e.1.2))) = par R e.1 := by
            unfold par
            cases acc R.gs e.1.1 <;> cases acc R.hs e.1.2 <;> rfl
          by_cases pe : par R e.1 = true
          · refine iteT' (by exact eP.trans pe) ?_
            have fnd : (l.find? fun e : En2 => par R e.1) = some e := by
              have : l = l.take i ++ (e :: l.drop (i + 1)) := by rw [← drop_at he, List.take_append_drop]
              rw [this, List.find?_append, nf9, List.find?_cons, pe]
              rfl
            have gzl : (sl e.2).length ≤ 40401 := Nat.le_trans el gz.few
            have l1 : e.2.length = (sl e.2).length := len_sl _
            have l2 : (";" : Str).length = 1 := by decide +kernel
            refine ⟨_, rfl, e.2, ";", rfl, rfl, by rw [sizeLine_eq]; omega, ?_⟩
            exact q _ (some (e.2 ++ ";")) s8 (pa _ (.hit (p := e.1) (t := e.2) fnd))
          · have pf : par R e.1 = false := eq_false_of_ne_true pe
            refine iteF' (by exact eP.trans pf) ?_
            exact ⟨_, _, _, rfl, rfl, by rw [List.find?_cons, pf]; rfl⟩
      rintro σ H9 ⟨v6, v7, v8, rfl, eH, nf⟩
      subst eH
      rw [List.length_map, la2, List.take_length] at nf
      refine ⟨by decide, fun Lg nLg => ?_⟩
      have uL := same_upd (o := HO.lst []) nLg
      have Z0 : Pl P w H9 (upd H9 Lg (.lst [])) Fd Lg (f, []) := by
        obtain ⟨xs, e⟩ := dn_at d7
        exact ⟨But.of uL, d7.keep (by rw [uL _ _ e, e]) (fun b ys q => uL _ _ q), ⟨[], upd_same, rfl, fun i a e h => by cases h⟩, nLg⟩
      generalize upd H9 Lg (.lst []) = HB at Z0 ⊢
      clear uL
      refine gName_go2 ?_
      refine ⟨_, rfl, Ls, rfl, ⟨_, SqL.of (Z0.s _ _ la1 nL)⟩, for_it (walk_list (xs := as.map V.ref)) (fun i σ H' => ∃ (v6 v7 v8 v10 v11 : Option V), σ = [some (.ref r1), some (.ref r2), some (.ref p1), some (.ref p2), some (.ref Ls), some (.ref Fd), v6, v7, v8, some (.ref Lg), v10, v11] ∧
          Pl P w H9 H' Fd Lg ((l.take i).foldl (ext R fun _ => allS) (f, [])) ∧ Gz ((l.take i).foldl (ext R fun _ => allS) (f, [])) ∧ ((l.take i).foldl (ext R fun _ => allS) (f, [])).1.length = f.length + ((l.take i).foldl (ext R fun _ => allS) (f, [])).2.length ∧ ∀ e ∈ ((l.take i).foldl (ext R fun _ => allS) (f, [])).2, PyData.strOk e.2 = true)
        ⟨v6, v7, v8, v10, v11, rfl, Z0, ⟨gz.nd, gz.din, fun e he => by cases he⟩, rfl, fun e he => by cases he⟩ (fun i σ H' _ ⟨_, _, _, _, _, _, z, _⟩ => SqL.of (z.s _ _ la1 nL)) ?_ ?_⟩
      · rintro i x σ HC HD hi ⟨v6, v7, v8, v10, v11, rfl, ZC, gC, cC, tC⟩ ⟨rfl, hx⟩
        rw [List.getElem?_map] at hx
        cases ha : as[i]? with
        | none => rw [ha] at hx; cases hx
        | some a =>
          rw [ha] at hx
          cases hx
          obtain ⟨e, he⟩ : ∃ e, l[i]? = some e := ⟨_, List.getElem?_eq_getElem (by rw [← la2]; exact (List.getElem?_eq_some_iff.mp ha).1)⟩
          have el := gz.ln e (List.mem_of_getElem? he)
          have etx := tx e (List.mem_of_getElem? he)
          have q1 : EnL HD a e := ZC.s _ _ (la3 i a e ha he) (dn_ne d7 (la3 i a e ha he) (dno_tup _))
          rw [take_one' he, List.foldl_append]
          have eK : List.foldl (ext R fun _ => allS) ((l.take i).foldl (ext R fun _ => allS) (f, [])) [e] = ext R (fun _ => allS) ((l.take i).foldl (ext R fun _ => allS) (f, [])) e := rfl
          rw [eK]
          have pre : f.length ≤ ((l.take i).foldl (ext R fun _ => allS) (f, [])).1.length := by omega
          generalize (l.take i).foldl (ext R fun _ => allS) (f, []) = z at ZC gC cC tC pre ⊢
          refine ⟨a, _, rfl, SqT.of q1, rfl, _, _, rfl, _, _, rfl, _, _, rfl, rfl, ?_⟩
          refine ⟨rfl, _, rfl, for_it walk_str (fun j σ H' => ∃ (v10 v11 : Option V), σ = [some (.ref r1), some (.ref r2), some (.ref p1), some (.ref p2), some (.ref Ls), some (.ref Fd), some (.str e.2), some (oV e.1.1), some (oV e.1.2), some (.ref Lg), v10, v11] ∧
              Pl P w H9 H' Fd Lg ((allS.take j).foldl (ext1 R e) z) ∧ Gz ((allS.take j).foldl (ext1 R e) z) ∧ ((allS.take j).foldl (ext1 R e) z).1.length = f.length + ((allS.take j).foldl (ext1 R e) z).2.length ∧ z.1.length ≤ ((allS.take j).foldl (ext1 R e) z).1.length ∧ ∀ e' ∈ ((allS.take j).foldl (ext1 R e) z).2, PyData.strOk e'.2 = true)
            ⟨v10, v11, rfl, ZC, gC, cC, Nat.le_refl _, tC⟩ (fun _ _ _ _ _ => trivial) ?_ ?_⟩
          · rintro j x σ HE HI hj ⟨v10, v11, rfl, ZH, gH, cH, zH, tH⟩ ⟨rfl, cn, hc, rfl⟩
            have hcn : allC[j]? = some cn := (Array.getElem?_toList ..).trans hc
            have hcs : allS[j]? = some (ch1 cn) := by
              unfold allS
              rw [List.getElem?_map, hcn]
              rfl
            have ec1 : sl (ch1 cn) = [cn] := rfl
            have lc : (ch1 cn).length = 1 := rfl
            rw [take_one' hcs, List.foldl_append]
            have eK2 : List.foldl (ext1 R e) ((allS.take j).foldl (ext1 R e) z) [ch1 cn] = ext1 R e ((allS.take j).foldl (ext1 R e) z) (ch1 cn) := rfl
            rw [eK2]
            generalize (allS.take j).foldl (ext1 R e) z = y at ZH gH cH zH tH ⊢
            obtain ⟨g1, g2, g3⟩ := gH.ext1 (R := R) (e := e) (c := ch1 cn) rng (by rw [ec1]; rfl) (by have : (sl e.2).length ≤ f.length := el; omega)
            have okc := all_ok _ (List.mem_of_getElem? hcs)
            have sI := ZH.s.same s7 nF2
            refine ⟨_, rfl, _, rfl, _, rfl, p1, e.1.1, R.xs, ch1 cn, rfl, T1.same sI, fun HJ sJ => ?_⟩
            refine ⟨_, rfl, _, rfl, _, rfl, p2, e.1.2, R.ys, ch1 cn, rfl, T2.same (sI.trans sJ), fun HK sK => ?_⟩
            refine ⟨(by show 2 ≤ sizeLine; decide), fun pb npb => ?_⟩
            have e21 : ldF R.xs e.1.1 (chs (ch1 cn)) = (nx2 R e.1 (ch1 cn)).1 := by
              rw [chs_one]
              rfl
            have e22 : ldF R.ys e.1.2 (chs (ch1 cn)) = (nx2 R e.1 (ch1 cn)).2 := by
              rw [chs_one]
              rfl
            rw [e21, e22]
            have ZK := ZH.same (sJ.trans sK)
            have up := same_upd (o := HO.tup [oV (nx2 R e.1 (ch1 cn)).1, oV (nx2 R e.1 (ch1 cn)).2]) npb
            have eb : upd HK pb (.tup [oV (nx2 R e.1 (ch1 cn)).1, oV (nx2 R e.1 (ch1 cn)).2]) pb = some (.tup [oV (nx2 R e.1 (ch1 cn)).1, oV (nx2 R e.1 (ch1 cn)).2]) := upd_same
            have ZL := ZK.same up
            generalize upd HK pb (.tup [oV (nx2 R e.1 (ch1 cn)).1, oV (nx2 R e.1 (ch1 cn)).2]) = HL at eb ZL ⊢
            clear up npb ZK sJ sK ZH
            refine gName_go2 ?_
            refine ⟨_, rfl, _, rfl, Fd, pb, _, _, rfl, rfl, ZL.hF.rd, key_p eb, _, rfl, ?_⟩
            rw [found_is]
            unfold ext1 at g1 g2 g3 ⊢
            by_cases m : nx2 R e.1 (ch1 cn) ∈ y.1
            · rw [if_pos m] at g1 g2 g3 ⊢
              rw [decide_eq_true m]
              refine iteF' rfl ?_
              exact ⟨_, _, rfl, ZL, g1, cH, zH, tH⟩
            · rw [if_neg m] at g1 g2 g3 ⊢
              rw [decide_eq_false m]
              refine iteT' rfl ?_
              have fw := gH.few
              obtain ⟨asL, lL, lL2, _⟩ := id ZL.hL
              have nLF : Lg ≠ Fd := dn_ne ZL.hF lL (dno_lst _)
              refine ⟨_, rfl, _, rfl, Fd, pb, _, _, rfl, rfl, ZL.hF, key_p eb, by rw [zk_len kyP (tr1_len _), sizeLine_eq]; omega, fun HM oM dM => ?_⟩
              have hv : valV (zk kyP y.1 (tr1 y.1)) (kyP (nx2 R e.1 (ch1 cn))) = none := zk_none kyP kyP_inj m
              rw [putK_new _ hv, found_snoc] at dM
              have lLM : HM Lg = some (.lst (asL.map V.ref)) := by rw [oM _ nLF]; exact lL
              have npF : pb ≠ Fd := dn_ne ZL.hF eb (dno_tup _)
              have ebM : HM pb = some (.tup [oV (nx2 R e.1 (ch1 cn)).1, oV (nx2 R e.1 (ch1 cn)).2]) := by rw [oM _ npF]; exact eb
              have gzl : (sl e.2).length ≤ 40401 := Nat.le_trans el gz.few
              have l1 : e.2.length = (sl e.2).length := len_sl _
              refine ⟨_, rfl, .inl ⟨rfl, _, SqL.of lLM⟩, _, rfl, _, rfl, e.2, ch1 cn, rfl, rfl, by rw [sizeLine_eq]; omega, ?_⟩
              refine ⟨_, rfl, pb, _, 0, _, rfl, rfl, SqT.of ebM, rfl, _, rfl, pb, _, 1, _, rfl, rfl, SqT.of ebM, rfl, (by show 3 ≤ sizeLine; decide), fun ea nea => ?_⟩
              have ue := same_upd (o := HO.tup [V.str (e.2 ++ ch1 cn), oV (nx2 R e.1 (ch1 cn)).1, oV (nx2 R e.1 (ch1 cn)).2]) nea
              have ny : y.2.length ≤ 40401 := by omega
              refine ⟨Lg, asL.map V.ref, _, rfl, rfl, ue _ _ lLM, by rw [List.length_map, lL2, sizeLine_eq]; omega, ?_⟩
              have ZP := ZL.push (p := nx2 R e.1 (ch1 cn)) (t := e.2 ++ ch1 cn) oM dM nea lL
              refine ⟨_, _, rfl, ZP, g1, ?_, ?_, fun e' h' => ?_⟩
              · have := cH
                simp only [List.length_append, List.length_singleton]
                omega
              · rw [List.length_append]
                omega
              · rcases List.mem_append.mp h' with h' | h'
                · exact tH e' h'
                · rw [List.mem_singleton.mp h']
                  exact app_ok etx okc
          · rintro σ HE ⟨v10, v11, rfl, ZH, gH, cH, zH, tH⟩
            have e37 : ("0123456789@abcdefghijklmnopqrstuvwxyz" : Str).cps.size = allS.length := by decide +kernel
            rw [e37, List.take_length] at ZH gH cH zH tH
            exact ⟨_, _, _, _, _, rfl, ZH, gH, cH, tH⟩
      · rintro σ HC ⟨v6, v7, v8, v10, v11, rfl, ZC, gC, cC, tC⟩
        rw [List.length_map, la2, List.take_length] at ZC gC cC tC
        refine ⟨_, rfl, _, _, Lg, _, _, _, _, _, _, rfl, ZC.s.same s7 nF2, ZC.hF, ZC.hL, gC, tC, fun r hr => ?_, cC⟩
        exact pa r (.go nf le hr)
end
end K10

set_option Elab.async false
set_option linter.all false
set_option maxRecDepth 100000
set_option maxHeartbeats 4000000
/-! Right readers of three signs; wheels. -/
namespace K10
open PySem L2 L2.EV
structure Rc (xs : List T3) (gs : List Int) : Prop where
  ru : ∀ x ∈ xs, 0 ≤ x.1 ∧ x.1 < 200 ∧ x.2.1 ∈ L3s ∧ 0 ≤ x.2.2 ∧ x.2.2 < 200
  pw : xs.Pairwise fun a b => ltIS (key a) (key b) = true
  gd : ∀ g ∈ gs, 0 ≤ g ∧ g < 200
  gp : gs.Pairwise (· < ·)
  ln : xs.length ≤ 12800
theorem l3_sgn {c : Str} (h : c ∈ L3s) : ∃ r, r < 3 ∧ c = sgn r := by
  have e : L3s = [sgn 0, sgn 1, sgn 2] := by decide +kernel
  rw [e] at h
  rcases List.mem_cons.mp h with h | h
  · exact ⟨0, by decide, h⟩
  · rcases List.mem_cons.mp h with h | h
    · exact ⟨1, by decide, h⟩
    · exact ⟨2, by decide, List.mem_singleton.mp h⟩
theorem sgn_l3 {r : Nat} (h : r < 3) : sgn r ∈ L3s := by
  have : r = 0 ∨ r = 1 ∨ r = 2 := by omega
  rcases this with rfl | rfl | rfl <;> decide +kernel
theorem Rc.rule {xs : List T3} {gs : List Int} (h : Rc xs gs) : ∀ x ∈ xs, ruleD (d3 x) = some x := fun x hx => by
  obtain ⟨a1, a2, a3, a4, a5⟩ := h.ru x hx
  obtain ⟨r, hr, e⟩ := l3_sgn a3
  show (match numD 200 (.int x.1), numD 200 (.int x.2.2) with
    | some i, some j => if signD x.2.1 = true then some (i, x.2.1, j) else none
    | _, _ => none) = some x
  have b1 : numD 200 (.int x.1) = some x.1 := if_pos ⟨a1, a2⟩
  have b2 : numD 200 (.int x.2.2) = some x.2.2 := if_pos ⟨a4, a5⟩
  rw [b1, b2, e]
  show (if signD (sgn r) = true then some (x.1, sgn r, x.2.2) else none) = some x
  rw [if_pos (sgn_ok hr).1, ← e]
theorem Rc.rd {xs : List T3} {gs : List Int} (h : Rc xs gs) : RdD (rdT xs gs) := by
  refine ⟨?_, ?_⟩
  · show (match badR (xs.map d3) none 0 with
      | some k => some ((("rules" : Str), some k))
      | none => match badG (gs.map PyData.int) none 0 with
        | some k => some ((("good" : Str), some k))
        | none => none) = none
    rw [badR_ok h.rule h.pw (fun p h => by cases h), badG_ok h.gd h.gp (fun p h => by cases h)]
  · intro rs g e r hr a x b er
    cases e
    obtain ⟨y, hy, rfl⟩ := List.mem_map.mp hr
    cases er
    obtain ⟨r, hr, e⟩ := l3_sgn (h.ru y hy).2.2.1
    rw [e, (sgn_ok hr).2.1]
    decide
theorem Rc.two {xs ys : List T3} {gs hs : List Int} (h : Rc xs gs) (k : Rc ys hs) : Few ⟨xs, gs, ys, hs⟩ ∧ Rng ⟨xs, gs, ys, hs⟩ :=
  ⟨⟨fun x hx => (h.ru x hx).2.2.1, fun x hx => (k.ru x hx).2.2.1⟩, ⟨fun x hx => ⟨(h.ru x hx).2.2.2.1, (h.ru x hx).2.2.2.2⟩, fun x hx => ⟨(k.ru x hx).2.2.2.1, (k.ru x hx).2.2.2.2⟩⟩⟩
theorem rc_nil : Rc [] [] := ⟨(fun x h => by cases h), .nil, (fun x h => by cases h), .nil, Nat.zero_le _⟩
theorem rdS_rc {d : PyData} (h : RdS d) : ∃ xs gs, d = rdT xs gs ∧ Rc xs gs ∧ xs.length ≤ 18 ∧ gs.length ≤ 6 := by
  obtain ⟨n, xs, gs, rfl, hn, kp, lg, hg, sg⟩ := h
  have l := kp.len
  refine ⟨xs, gs, rfl, ⟨fun x hx => ?_, kp.srt, fun g hg' => ⟨(hg g hg').1, by have := (hg g hg').2; omega⟩, sg, by omega⟩, by omega, lg⟩
  obtain ⟨h1, h2, q, r, e1, e2, e3, e4, e5⟩ := kp.at_ x hx
  exact ⟨by omega, by omega, by rw [e4]; exact sgn_l3 e3, h1, by omega⟩
/-- a rule left out -/
theorem Rc.less {xs ys : List T3} {gs : List Int} (h : Rc xs gs) (s : ys.Sublist xs) : Rc ys gs :=
  ⟨fun x hx => h.ru x (s.subset hx), h.pw.sublist s, h.gd, h.gp, Nat.le_trans s.length_le h.ln⟩
/-- other good states -/
theorem Rc.good {xs : List T3} {gs hs : List Int} (h : Rc xs gs) (a : ∀ g ∈ hs, 0 ≤ g ∧ g < 200) (b : hs.Pairwise (· < ·)) : Rc xs hs := ⟨h.ru, h.pw, a, b, h.ln⟩
theorem strict_rc {fr : List T3} {last : Nat} (fm : Frm fr last) (S : Sml fr) : Rc (xsF fr) (gsF fr) := by
  obtain ⟨U, I⟩ := inn_small fm S
  obtain ⟨r1, r2⟩ := rules_ok fm I
  obtain ⟨t1, t2, t3⟩ := taken_ok fm I
  refine ⟨fun x hx => ?_, ?_, fun g hg => ?_, ?_, ?_⟩
  · obtain ⟨y, hy, rfl⟩ := List.mem_map.mp hx
    obtain ⟨a, b, c⟩ := r2 y hy
    refine ⟨by show (0 : Int) ≤ (y.1 : Nat); omega, by show ((y.1 : Nat) : Int) < 200; omega, ?_, by show (0 : Int) ≤ (y.2.2 : Nat); omega, by show ((y.2.2 : Nat) : Int) < 200; omega⟩
    show ch1 y.2.1 ∈ L3s
    have hy2 := hy
    unfold rulesF at hy2
    obtain ⟨j, z, hj, hz, rfl⟩ := rulesK_mem.mp hy2
    rw [List.getD_eq_getElem?_getD] at hz
    cases e : (rowsF fr)[sk (kdF fr) (rowsF fr) j]? with
    | none =>
      rw [e] at hz
      cases hz
    | some r =>
      rw [e] at hz
      have hr := List.mem_of_getElem? e
      unfold rowsF rowsK at hr
      obtain ⟨i, _, rfl⟩ := List.mem_map.mp hr
      have lt := (sgO_ltr fm S (rwF_sub z hz)).1
      show ch1 z.1 ∈ L3s
      rcases List.mem_cons.mp lt with h | lt
      · rw [h]; decide +kernel
      · rcases List.mem_cons.mp lt with h | lt
        · rw [h]; decide +kernel
        · rw [List.mem_singleton.mp lt]; decide +kernel
  · unfold xsF
    rw [List.pairwise_map]
    exact r1.imp fun h => lt_IS h
  · obtain ⟨n, hn, rfl⟩ := List.mem_map.mp hg
    have := t2 n hn
    unfold iN
    omega
  · unfold gsF
    rw [List.pairwise_map]
    exact t1.imp fun h => by unfold iN; omega
  · unfold xsF
    rw [List.length_map]
    exact rules_few fm I
/-! ### wheels -/
def whG (g : Nat → Int) (n : Nat) : List T3 := (List.range n).map fun k : Nat => ((k : Int), "a", g k)
def whl (n : Nat) : List T3 := whG (fun k => (((k + 1) % n : Nat) : Int)) n
theorem wh_nx (g : Nat → Int) (q : Nat) (c : Str) : ∀ n, nx (whG g n) (q : Int) c = if q < n ∧ c = "a" then some (g q) else none
  | 0 => by rw [if_neg (by omega)]; rfl
  | n + 1 => by
    have e : whG g (n + 1) = whG g n ++ [(((n : Int), ("a" : Str), g n) : T3)] := by
      unfold whG
      rw [List.range_succ, List.map_append]
      rfl
    rw [e, nx_snoc, wh_nx g q c n]
    by_cases h : (n : Int) = (q : Int) ∧ ("a" : Str) = c
    · have e1 : n = q := by omega
      rw [if_pos h, if_pos ⟨by omega, h.2.symm⟩, e1]
    · rw [if_neg h]
      by_cases k : q < n ∧ c = "a"
      · rw [if_pos k, if_pos ⟨by omega, k.2⟩]
      · rw [if_neg k, if_neg]
        rintro ⟨k1, k2⟩
        refine k ⟨?_, k2⟩
        have : ¬ (n : Int) = (q : Int) := fun z => h ⟨z, k2.symm⟩
        omega
theorem whl_rc {n : Nat} (h0 : 0 < n) (h : n ≤ 200) : Rc (whl n) [198] := by
  refine ⟨fun x hx => ?_, ?_, fun g hg => by rw [List.mem_singleton.mp hg]; decide, List.pairwise_singleton .., ?_⟩
  · obtain ⟨k, hk, rfl⟩ := List.mem_map.mp hx
    have := List.mem_range.mp hk
    have m := Nat.mod_lt (k + 1) h0
    refine ⟨by show (0 : Int) ≤ (k : Int); omega, by show (k : Int) < 200; omega, by show ("a" : Str) ∈ L3s; decide +kernel, by show (0 : Int) ≤ (((k + 1) % n : Nat) : Int); omega, by show (((k + 1) % n : Nat) : Int) < 200; omega⟩
  · unfold whl whG
    rw [List.pairwise_map]
    refine List.pairwise_lt_range.imp fun {a b} z => ?_
    show ltIS (((a : Nat) : Int), "a") (((b : Nat) : Int), "a") = true
    unfold ltIS
    show (if ((a : Nat) : Int) = ((b : Nat) : Int) then _ else decide (((a : Nat) : Int) < ((b : Nat) : Int))) = true
    rw [if_neg (by omega)]
    exact decide_eq_true (by omega)
  · unfold whl whG
    rw [List.length_map, List.length_range]
    omega
@[irreducible] def wR : Two := ⟨whl 199, [198], whl 200, [198]⟩
def wp (k : Nat) : Pr := (some ((k % 199 : Nat) : Int), some ((k % 200 : Nat) : Int))
def aS : Nat → Str
  | 0 => ""
  | k + 1 => aS k ++ "a"
theorem sl_aS : ∀ k, sl (aS k) = List.replicate k 97
  | 0 => rfl
  | k + 1 => by
    show sl (aS k ++ "a") = _
    rw [sl_app, sl_aS k, show sl ("a" : Str) = [97] by decide +kernel, List.replicate_succ']
theorem wp_nx (k : Nat) (c : Str) : nx2 wR (wp k) c = if c = "a" then wp (k + 1) else NN := by
  have e1 : wR.xs = whG (fun k => (((k + 1) % 199 : Nat) : Int)) 199 := by unfold wR; rfl
  have e2 : wR.ys = whG (fun k => (((k + 1) % 200 : Nat) : Int)) 200 := by unfold wR; rfl
  show (nx wR.xs ((k % 199 : Nat) : Int) c, nx wR.ys ((k % 200 : Nat) : Int) c) = _
  rw [e1, e2]
  rw [wh_nx, wh_nx]
  by_cases h : c = "a"
  · rw [if_pos ⟨Nat.mod_lt _ (by decide), h⟩, if_pos ⟨Nat.mod_lt _ (by decide), h⟩, if_pos h]
    refine Prod.ext (congrArg some ?_) (congrArg some ?_)
    · show (((k % 199 + 1) % 199 : Nat) : Int) = (((k + 1) % 199 : Nat) : Int)
      omega
    · show (((k % 200 + 1) % 200 : Nat) : Int) = (((k + 1) % 200 : Nat) : Int)
      omega
  · rw [if_neg (fun z => h z.2), if_neg (fun z => h z.2), if_neg h]
theorem wp_sg (k : Nat) : sgP wR (wp k) = (["a"] : List Str) := by
  unfold sgP
  have e : ∀ c, decide (nx2 wR (wp k) c ≠ NN) = decide (c = "a") := fun c => by
    rw [wp_nx]
    by_cases h : c = "a"
    · rw [if_pos h]
      simp [h, wp]
    · rw [if_neg h]
      simp [h]
  rw [List.filter_congr fun c _ => e c]
  decide +kernel
theorem acc_one (g : Int) (o : Int) : acc [g] (some o) = decide (o = g) := by
  show decide (o ∈ [g]) = _
  exact decide_eq_decide.mpr List.mem_singleton
theorem wp_par (k : Nat) : par wR (wp k) = (decide (k % 199 = 198) != decide (k % 200 = 198)) := by
  have e1 : wR.gs = [198] := by unfold wR; rfl
  have e2 : wR.hs = [198] := by unfold wR; rfl
  unfold par wp
  rw [e1, e2, acc_one, acc_one]
  congr 1
  · exact decide_eq_decide.mpr (by omega)
  · exact decide_eq_decide.mpr (by omega)
theorem wheel_par : ∀ j k, k + j = 397 → Par wR (sgP wR) ((List.range (k + 1)).map wp) [(wp k, aS k)] (some (aS 397 ++ ";"))
  | 0, k, h => by
    have e : k = 397 := by omega
    subst e
    refine .hit (p := wp 397) ?_
    rw [List.find?_cons, wp_par]
    rfl
  | j + 1, k, h => by
    have np : par wR (wp k) = false := by
      rw [wp_par]
      by_cases c : k = 198
      · rw [c]
        rfl
      · rw [decide_eq_false (by omega), decide_eq_false (by omega)]
        rfl
    refine .go (by rw [List.find?_cons, np]; rfl) (by simp) ?_
    have e : lay wR (sgP wR) ((List.range (k + 1)).map wp) [(wp k, aS k)] = ((List.range (k + 1 + 1)).map wp, [(wp (k + 1), aS (k + 1))]) := by
      show ext wR (sgP wR) ((List.range (k + 1)).map wp, []) (wp k, aS k) = _
      unfold ext
      rw [wp_sg]
      show ext1 wR (wp k, aS k) ((List.range (k + 1)).map wp, []) "a" = _
      unfold ext1
      rw [wp_nx, if_pos rfl, if_neg, List.range_succ (n := k + 1), List.map_append]
      · rfl
      · intro m
        obtain ⟨i, hi, e⟩ := List.mem_map.mp m
        have il := List.mem_range.mp hi
        have h1 : ((i % 199 : Nat) : Int) = (((k + 1) % 199 : Nat) : Int) := Option.some.inj (congrArg Prod.fst e)
        have h2 : ((i % 200 : Nat) : Int) = (((k + 1) % 200 : Nat) : Int) := Option.some.inj (congrArg Prod.snd e)
        omega
    rw [e]
    exact wheel_par j (k + 1) (by omega)
theorem wheel_is : Par wR (sgP wR) f00 l00 (some (aS 397 ++ ";")) := wheel_par 397 0 rfl
end K10

set_option Elab.async false
set_option linter.all false
set_option maxRecDepth 100000
set_option maxHeartbeats 8000000
/-! _law_wheel, _law_near. -/
namespace K10
open PySem L2 L2.EV PyProof.Rows PySem.Spec
abbrev sWheel : Stmt := top 51
abbrev sNear : Stmt := top 52
abbrev NWh : List Str := ["size", "k"]
abbrev NNr : List Str := ["m", "reader", "rules", "good", "at", "state", "one"]
def spWheel : Sp := fun vs H Q _ => ∃ n : Nat, vs = [.int (n : Int)] ∧ 0 < n ∧ n ≤ 200 ∧ ∀ H' a, Same H H' → RdA H' a (whl n) [198] → Q (.ref a) H'
def spNear : Sp := fun vs H Q _ => ∃ (m c l : Addr) (k : Int) (a : Addr) (xs : List T3) (gs : List Int), vs = [.ref m, .ref a] ∧ MAt H m c l k ∧ k < 800000 ∧ RdA H a xs gs ∧ Rc xs gs ∧ xs.length ≤ 100 ∧
  ∀ (a' : Addr) (ys : List T3) (hs : List Int) (H' : Hp) (l' : Addr) (k' : Int), RdA H' a' ys hs → Rc ys hs → k' ≤ k + 3 → Dr H H' m c l l' k' → Q (.ref a') H'
def ngs (gs : List Int) (st : Int) (n : Nat) : List Int := ((List.range n).filter fun i : Nat => (decide ((i : Int) ∈ gs)) != decide ((i : Int) = st)).map fun i : Nat => (i : Int)
theorem ngs_ok (gs : List Int) (st : Int) : (∀ g ∈ ngs gs st 200, 0 ≤ g ∧ g < 200) ∧ (ngs gs st 200).Pairwise (· < ·) := by
  refine ⟨fun g hg => ?_, ?_⟩
  · obtain ⟨i, hi, rfl⟩ := List.mem_map.mp hg
    have := List.mem_range.mp (List.mem_filter.mp hi).1
    omega
  · unfold ngs
    rw [List.pairwise_map]
    exact (List.Pairwise.filter _ List.pairwise_lt_range).imp fun h => by omega
theorem d3s_sh {xs : List T3} (h : ∀ x ∈ xs, PyData.strOk x.2.1 = true) : SeqAt.shaped (.tuple (xs.map d3)) = true := by
  have z : ∀ xs : List T3, (∀ x ∈ xs, PyData.strOk x.2.1 = true) → PyData.canLayAll0 (xs.map d3) = true ∧ PyData.depthAll (xs.map d3) ≤ 1 := by
    intro xs
    induction xs with
    | nil => exact fun _ => ⟨by simp [PyData.canLayAll0], by simp [PyData.depthAll]⟩
    | cons x xs ih =>
      intro h
      have h0 := h x (List.mem_cons_self ..)
      obtain ⟨a, b⟩ := ih fun y hy => h y (List.mem_cons_of_mem _ hy)
      refine ⟨by simp [PyData.canLayAll0, PyData.canLay0, d3, h0]; simpa [d3] using a, ?_⟩
      have e : (d3 x).depth ≤ 1 := by
        unfold d3
        simp only [PyData.depth, PyData.depthAll]
        omega
      simp only [List.map_cons, PyData.depthAll]
      omega
  obtain ⟨a, b⟩ := z xs h
  show (PyData.canLay0 (.tuple (xs.map d3)) && decide (PyData.depth (.tuple (xs.map d3)) ≤ 64)) = true
  rw [Bool.and_eq_true]
  refine ⟨by simp only [PyData.canLay0]; exact a, decide_eq_true ?_⟩
  simp only [PyData.depth]
  omega
/-- a part that ends, or goes on as if nothing were -/
theorem seq_join {t u : TS} {D : Ends} {σ : L2.St} {H : Hp} (ok : Hp → Prop) (rest : ∀ Hx, ok Hx → u D σ Hx) (h : (∀ Hx, ok Hx → u D σ Hx) → tSeq t u D σ H) : tSeq t u D σ H := h rest
structure Lq (K : PySem.W.Frag) (mg : Str → Option Value) where
  S : LsR K mg
  fW : Addr
  dW : FuncData
  W : Fun K "_law_wheel" "_law_wheel" sWheel fW dW
  bW : Binds K dW ["size"] []
  mW : mg "_law_wheel" = some (.ref fW)
  fN : Addr
  dN : FuncData
  N : Fun K "_law_near" "_law_near" sNear fN dN
  bN : Binds K dN ["m", "reader"] []
  mN : mg "_law_near" = some (.ref fN)
section
variable {P : Program} {w : World} {K : PySem.W.Frag} {mg : Str → Option Value} {base : Heap}
theorem scWheel : FnScope NWh ["size"] (defScope sWheel) := ⟨rfl, rfl, rfl, by decide +kernel, rfl, by decide +kernel, by decide +kernel⟩
theorem scNear : FnScope NNr ["m", "reader"] (defScope sNear) := ⟨rfl, rfl, rfl, by decide +kernel, rfl, by decide +kernel, by decide +kernel⟩
theorem ok_wheel (L : Lq K mg) : FnOk P w K mg base CX0 1 L.fW L.dW ["size"] spWheel := by
  refine L.W.ok scWheel (fun vs H Q E h => ?_) (fun cdv A outer s H vs Q E hr h => ?_)
  · obtain ⟨n, rfl, _⟩ := h
    rfl
  · obtain ⟨n, rfl, n0, n2, q⟩ := h
    refine ⟨_, pss_one (ps_ret (pe_tup (pa_cons (pe_callTy call_tuple_of (by rfl) L.S.tu (by decide +kernel) (pa_cons (pe_lc (own := [("k", 1)]) (g := gName 1) (te := tTup (tCons (tVar 1) (tCons (tC (.str "a")) (tCons (tOp (rI (fun _ j => 0 < j) fun i j => .int (i % j)) (tCB rInt1 (tCons (tOp (rI0 fun i j => .int (i + j)) (tVar 1) (tC (.int 1))) tNil)) (tVar 0)) tNil)))) rfl scWheel.nd (pi_range1 (by rfl) L.S.ra (pa_cons (pv 0) pa_nil))
        (blkOk_by (N := NWh) (sc := defScope sWheel) (by decide +kernel)) (fun _ _ _ _ _ => pg_name (i := 1) scWheel.nd rfl (Or.inl rfl)) (fun _ _ _ _ _ => pts_nil)
        (fun _ _ _ _ _ => pe_tup (pa_cons (pv 1) (pa_cons pe_str (pa_cons (pe_op op_mod (pe_callTy call_int1 (by rfl) L.S.T.int (by decide +kernel) (pa_cons (pe_op op_add (pv 1) pe_int) pa_nil)) (pv 0)) pa_nil))))) pa_nil)) (pa_cons (pe_tup (pa_cons pe_int pa_nil)) pa_nil)))), ?_⟩
    refine ⟨_, rfl, n, rfl, by omega, by omega, fun D hD => ?_⟩
    refine lc_it walk_range (fun i H' => ∃ ts : List Addr, H' D = some (.lst (ts.map V.ref)) ∧ At3 H' ts ((whl n).take i) ∧ Same H H') ⟨[], upd_same, ⟨rfl, fun i t x h => by cases h⟩, same_upd hD⟩ (fun _ _ _ _ => trivial) ?_ ?_
    · rintro i x H1 H2 hi ⟨ts, hD1, at1, s1⟩ ⟨rfl, rfl⟩
      have i2 : i < n := by omega
      have hk : (whl n)[i]? = some (((i : Nat) : Int), ("a" : Str), (((i + 1) % n : Nat) : Int)) := by
        unfold whl whG
        rw [List.getElem?_map, List.getElem?_range i2]
        rfl
      refine ⟨rfl, _, rfl, _, rfl, _, _, rfl, rfl, .inl ⟨_, rfl, _, rfl, _, _, rfl, rfl, by omega, (by show 3 ≤ sizeLine; decide), fun t nt => ?_⟩⟩
      have ei : (0 + ((i : Nat) : Int) + 1) % ((n : Nat) : Int) = (((i + 1) % n : Nat) : Int) := by
        rw [show (0 + ((i : Nat) : Int) + 1) = ((i + 1 : Nat) : Int) by omega]
        rfl
      have ut := same_upd (o := HO.tup [V.int (0 + ((i : Nat) : Int)), V.str "a", V.int ((0 + ((i : Nat) : Int) + 1) % ((n : Nat) : Int))]) nt
      have hD2 := ut _ _ hD1
      have lt := at1.1
      rw [List.length_take] at lt
      refine ⟨_, hD2, by rw [List.length_map, sizeLine_eq]; omega, ts ++ [t], by rw [List.map_append]; exact upd_same, ?_, fun b o e => ?_⟩
      · rw [take_one' hk]
        have kt := keepT_upd (o := .lst (ts.map V.ref ++ [.ref t])) hD2 (fun xs z => by cases z)
        refine At3.snoc ((at1.same (Same.keepT ut)).same kt) (kt _ _ ?_)
        rw [upd_same]
        show some (HO.tup [V.int (0 + ((i : Nat) : Int)), V.str "a", V.int ((0 + ((i : Nat) : Int) + 1) % ((n : Nat) : Int))]) = some (.tup [V.int ((i : Nat) : Int), V.str "a", V.int (((i + 1) % n : Nat) : Int)])
        rw [ei, Int.zero_add]
      · rw [upd_ne (ne_of_none e hD)]
        exact ut _ _ (s1 _ _ e)
    · rintro H1 ⟨ts, hD1, at1, s1⟩
      rw [show ((n : Int)).toNat = n by omega] at at1
      rw [List.take_of_length_le (by unfold whl whG; rw [List.length_map, List.length_range]; exact Nat.le_refl _)] at at1
      refine ⟨D, _, rfl, .inl ⟨SqL.of hD1, fun t1 n1 => ?_⟩⟩
      have u1 := same_upd (o := HO.tup (ts.map V.ref)) n1
      refine ⟨(by show 1 ≤ sizeLine; decide), fun t2 n2 => ?_⟩
      have u2 := same_upd (o := HO.tup [V.int 198]) n2
      refine ⟨(by show 2 ≤ sizeLine; decide), fun t3 n3 => ?_⟩
      have u3 := same_upd (o := HO.tup [V.ref t1, V.ref t2]) n3
      exact q _ t3 (s1.trans (u1.trans (u2.trans u3))) ⟨t1, t2, ts, upd_same, (u2.trans u3) _ _ upd_same, (at1.same (Same.keepT (u1.trans (u2.trans u3)))), u3 _ _ upd_same⟩
theorem ok_near (L : Lq K mg) : FnOk P w K mg base CX0 2 L.fN L.dN ["m", "reader"] spNear := by
  have GX : FnOk P w K mg base CX0 1 L.S.f1 L.S.d1 ["m", "many"] spNext := ok_next L.S.N L.S.T
  refine L.N.ok scNear (fun vs H Q E h => ?_) (fun cdv A outer s H vs Q E hr h => ?_)
  · obtain ⟨m, c, l, k, a, xs, gs, rfl, _⟩ := h
    rfl
  · obtain ⟨m, c, l, k, a, xs, gs, rfl, M, hk, ra, rc, xl, q⟩ := h
    have hu64 : (A.deeper (PyProof.Rows.envOfC "_law_near" (defScope sNear) s.heap.objs.size L.fN cdv)).units + 64 < cLine := by have := hr.un; omega
    refine ⟨_, pss_cons (ps_asg (pv 1) (pg_tup rfl (pgs_cons (pg_name (i := 2) scNear.nd rfl (Or.inl rfl)) (pgs_cons (pg_name (i := 3) scNear.nd rfl (Or.inr rfl)) pgs_nil))))
      (pss_cons (ps_if (pw_and (pt_cmpR (op_neD hu64) (pv 2) (pe_tup pa_nil) (nomark _)) (pw_and1 (pt_cmpR op_eq (pe_call GX hr (by rfl) L.S.mN L.S.N.kp L.S.bN .nil pass0 (pa_cons (pv 0) (pa_cons pe_int pa_nil))) pe_int (nomark _)))).pt
        (pss_cons (ps_set (i := 4) scNear.nd rfl (Or.inl rfl) (pe_call GX hr (by rfl) L.S.mN L.S.N.kp L.S.bN .nil pass0 (pa_cons (pv 0) (pa_cons (pe_callB call_len_seq (by rfl) L.S.T.len PySem.boot_len (pa_cons (pv 2) pa_nil)) pa_nil))))
        (pss_one (ps_ret (pe_tup (pa_cons (pe_op op_catW (pe_slice sl_tupS (pv 2) po_none (po_some (pv 4))) (pe_slice sl_tupS (pv 2) (po_some (pe_op op_add (pv 4) pe_int)) po_none)) (pa_cons (pv 3) pa_nil)))))) pss_nil)
      (pss_cons (ps_set (i := 5) scNear.nd rfl (Or.inr rfl) (pe_call GX hr (by rfl) L.S.mN L.S.N.kp L.S.bN .nil pass0 (pa_cons (pv 0) (pa_cons pe_int pa_nil))))
      (pss_one (ps_ret (pe_tup (pa_cons (pv 2) (pa_cons (pe_callTy call_tuple_of (by rfl) L.S.tu (by decide +kernel) (pa_cons (pe_lc (own := [("one", 6)]) (g := gName 6) (tt := tTest (tOp rNe (tOp (rIn K false) (tVar 6) (tVar 3)) (tOp rEq (tVar 6) (tVar 5)))) (te := tVar 6) rfl scNear.nd (pi_range1 (by rfl) L.S.ra (pa_cons pe_int pa_nil))
        (blkOk_by (N := NNr) (sc := defScope sNear) (by decide +kernel)) (fun _ _ _ _ _ => pg_name (i := 6) scNear.nd rfl (Or.inl rfl))
        (fun _ _ _ _ _ => pts_one (pt_cmpR op_ne (pe_cmpR op_in_seq (pv 6) (pv 3) (by rfl)) (pe_cmpR op_eq (pv 6) (pv 5) (by rfl)) (by rfl)))
        (fun _ _ _ _ _ => pv 6)) pa_nil)) pa_nil))))))), ?_⟩
    obtain ⟨t1, t2, ts, h1, h2, h3, h4⟩ := id ra
    refine ⟨_, rfl, a, _, rfl, SqT.of h1, rfl, _, _, rfl, _, _, rfl, rfl, ?_⟩
    have raD : ∀ {H1 l1 k1}, Dr H H1 m c l l1 k1 → H1 t1 = some (.tup (ts.map V.ref)) ∧ At3 H1 ts xs ∧ H1 t2 = some (.tup (gs.map V.int)) := fun {H1 l1 k1} D => ⟨D.tup M h2, h3.same (D.keepT M), D.tup M h4⟩
    dsimp only
    refine seq_join (fun Hx => ∃ (l1 : Addr) (k1 : Int), Dr H Hx m c l l1 k1 ∧ k1 ≤ k + 1) ?_ ?_
    · rintro Hx ⟨l1, k1, D1, kk1⟩
      obtain ⟨x1, x2, x3⟩ := raD D1
      refine ⟨_, rfl, m, c, l1, k1, 6, rfl, D1.at_, by decide, by decide, by omega, fun r2 H2 l2 k2 a2 b2 g2 N2 f2 q2 => ?_⟩
      have d2 : Dr Hx H2 m c l1 l2 k2 := ⟨N2, f2, q2⟩
      have D2 := D1.trans d2
      obtain ⟨y1, y2, y3⟩ := raD D2
      refine ⟨_, rfl, ?_⟩
      refine ⟨200, rfl, by decide, by decide, fun Dl nDl => ?_⟩
      refine lc_it walk_range (fun i H' => H' Dl = some (.lst ((ngs gs r2 i).map V.int)) ∧ Same H2 H') ⟨upd_same, same_upd nDl⟩ (fun _ _ _ _ => trivial) ?_ ?_
      · rintro i x H3 H4 hi ⟨hl, s3⟩ ⟨rfl, rfl⟩
        have e1 : ngs gs r2 (i + 1) = ngs gs r2 i ++ if ((decide ((i : Int) ∈ gs)) != decide ((i : Int) = r2)) = true then [(i : Int)] else [] := by
          unfold ngs
          rw [List.range_succ, List.filter_append, List.map_append, List.filter_cons]
          split <;> rfl
        rw [e1]
        refine ⟨rfl, _, rfl, _, rfl, t2, gs.map V.int, rfl, .inr (SqT.of (s3 _ _ y3)), rfl, ints_flat gs, _, rfl, _, rfl, rfl, ?_⟩
        refine ⟨rfl, _, rfl, ?_⟩
        have ec : (!decide (V.bl (inV (V.int (0 + ((i : Nat) : Int))) (gs.map V.int)) = V.bl (decide (V.int (0 + ((i : Nat) : Int)) = V.int r2)))) = ((decide ((i : Int) ∈ gs)) != decide ((i : Int) = r2)) := by
          rw [Int.zero_add, in_ints, dec_int]
          by_cases z1 : (i : Int) ∈ gs <;> by_cases z2 : (i : Int) = r2 <;> simp [z1, z2]
        have lg : (ngs gs r2 i).length ≤ 200 := by
          unfold ngs
          rw [List.length_map]
          refine Nat.le_trans (List.length_filter_le ..) ?_
          rw [List.length_range]
          omega
        by_cases cc : ((decide ((i : Int) ∈ gs)) != decide ((i : Int) = r2)) = true
        · refine iteT' (by exact ec.trans cc) ?_
          rw [if_pos cc]
          refine ⟨_, rfl, _, hl, by rw [List.length_map, sizeLine_eq]; omega, ?_, fun b o e => ?_⟩
          · rw [List.map_append, upd_same]
            show some (HO.lst (_ ++ [V.int (0 + ((i : Nat) : Int))])) = _
            rw [Int.zero_add]
            rfl
          · rw [upd_ne (ne_of_none e nDl)]
            exact s3 _ _ e
        · refine iteF' (by exact ec.trans (eq_false_of_ne_true cc)) ?_
          rw [if_neg cc, List.append_nil]
          exact ⟨hl, s3⟩
      · rintro H3 ⟨hl, s3⟩
        refine ⟨Dl, _, rfl, .inl ⟨SqL.of hl, fun tg ntg => ?_⟩⟩
        have ug := same_upd (o := HO.tup ((ngs gs r2 (200 : Int).toNat).map V.int)) ntg
        refine ⟨(by show 2 ≤ sizeLine; decide), fun tp ntp => ?_⟩
        have up := same_upd (o := HO.tup [V.ref t1, V.ref tg]) ntp
        have al := s3.trans (ug.trans up)
        obtain ⟨n1, n2⟩ := ngs_ok gs r2
        refine q tp xs (ngs gs r2 200) _ l2 k2 ⟨t1, tg, ts, upd_same, al _ _ y1, y2.same (Same.keepT al), up _ _ upd_same⟩ (rc.good n1 n2) (by omega) (D2.same al)
    · intro rest
      have okd : ∀ x ∈ xs, PyData.strOk x.2.1 = true := fun x hx => by
        obtain ⟨r, hr, e⟩ := l3_sgn (rc.ru x hx).2.2.1
        rw [e]
        exact (sgn_ok hr).2.2
      refine ⟨_, rfl, (by show 0 ≤ sizeLine; decide), fun pe npe => ?_⟩
      have ue := same_upd (o := HO.tup []) npe
      refine ⟨.tuple (xs.map d3), .tuple [], .tup (SqT.of (ue _ _ h2)) (dp3s (h3.same (Same.keepT ue))), .tup (SqT.of upd_same) .nil, d3s_sh okd, shaped_nilT, _, rfl, ?_⟩
      rw [eqv_nilT, List.isEmpty_map]
      have D0 := (Dr.refl M).same ue
      by_cases x0 : xs = []
      · refine iteF' (by rw [x0]; rfl) ?_
        exact rest _ ⟨l, k, D0, by omega⟩
      · refine iteT' (by cases xs with
          | nil => exact absurd rfl x0
          | cons _ _ => rfl) ?_
        refine ⟨_, rfl, m, c, l, k, 2, rfl, D0.at_, by decide, by decide, by omega, fun r1 H1 l1 k1 a1 b1 g1 N1 f1 q1 => ?_⟩
        have d1 : Dr _ H1 m c l l1 k1 := ⟨N1, f1, q1⟩
        have D1 := D0.trans d1
        refine ⟨rfl, _, rfl, ?_⟩
        refine ite2 (fun z => ?_) (fun z => ?_)
        · obtain ⟨x1, x2, x3⟩ := raD D1
          have pos := List.length_pos_iff.mpr x0
          have lts := x2.1
          refine ⟨_, rfl, _, rfl, t1, _, rfl, .inr (SqT.of x1), m, c, l1, k1, _, rfl, D1.at_, by rw [List.length_map]; omega, by rw [List.length_map]; omega, by omega, fun r2 H2 l2 k2 a2 b2 g2 N2 f2 q2 => ?_⟩
          have d2 : Dr H1 H2 m c l1 l2 k2 := ⟨N2, f2, q2⟩
          have D2 := D1.trans d2
          obtain ⟨y1, y2, y3⟩ := raD D2
          obtain ⟨n, rfl⟩ := Int.eq_ofNat_of_zero_le a2
          refine gName_go2 ?_
          refine ⟨_, rfl, _, rfl, _, rfl, t1, _, rfl, y1, fun pa Ha sa ea => ?_⟩
          rw [cutTo] at ea
          refine ⟨_, rfl, _, rfl, _, _, rfl, rfl, _, rfl, t1, _, rfl, sa _ _ y1, fun pb Hb sb eb => ?_⟩
          rw [show ((n : Int) + 1) = ((n + 1 : Nat) : Int) by omega, cutFrom] at eb
          refine ⟨pa, pb, _, _, rfl, rfl, sb _ _ ea, eb, by rw [List.length_take, List.length_drop, List.length_map, sizeLine_eq]; omega, fun pc Hc sc ec => ?_⟩
          refine ⟨_, rfl, (by show 2 ≤ sizeLine; decide), fun tp ntp => ?_⟩
          have up := same_upd (o := HO.tup [V.ref pc, V.ref t2]) ntp
          have al := sa.trans (sb.trans (sc.trans up))
          rw [← List.map_take, ← List.map_drop, ← List.map_append] at ec
          have y2' := y2.same (Same.keepT al)
          refine q tp (xs.take n ++ xs.drop (n + 1)) gs _ l2 k2 ⟨pc, t2, ts.take n ++ ts.drop (n + 1), upd_same, up _ _ ec, ?_, al _ _ y3⟩ (rc.less ?_) (by omega) (D2.same al)
          · refine ⟨by rw [List.length_append, List.length_append, List.length_take, List.length_take, List.length_drop, List.length_drop, lts], fun i t x e1 e2 => ?_⟩
            have lt1 : (ts.take n).length = (xs.take n).length := by rw [List.length_take, List.length_take, lts]
            by_cases c0 : i < (ts.take n).length
            · rw [List.getElem?_append_left c0] at e1
              rw [List.getElem?_append_left (by omega)] at e2
              rw [List.getElem?_take] at e1 e2
              split at e1
              · rename_i c1
                rw [if_pos c1] at e2
                exact y2'.2 i t x e1 e2
              · cases e1
            · rw [List.getElem?_append_right (by omega)] at e1
              rw [List.getElem?_append_right (by omega)] at e2
              rw [List.getElem?_drop] at e1 e2
              rw [lt1] at e1
              exact y2'.2 _ t x e1 e2
          · have := (List.take_append_drop n xs)
            conv => rhs; rw [← this]
            exact List.Sublist.append (List.Sublist.refl _) (by rw [← List.drop_drop]; exact List.drop_sublist 1 _)
        · exact rest _ ⟨l1, k1, D1, by omega⟩
end
end K10

set_option Elab.async false
set_option linter.all false
set_option maxRecDepth 100000
set_option maxHeartbeats 4000000
/-! What is told of texts; text * int; what is shown. -/
namespace L2
open PySem PySem.Spec PyProof.Rows
theorem op_repS {X : Cx} : OpR X (binaryOp .Mult) (fun x y H Q => ∃ i n, x = .str i ∧ y = .int n ∧ MulOk i n ∧ Q (.str (Txt.mul i n)) H) := by
  intro pins s σ H x y v u Q I rx ry h
  obtain ⟨i, n, rfl, rfl, ok, q⟩ := h
  obtain ⟨t, rfl⟩ := rx
  obtain ⟨t', rfl⟩ := ry
  exact SB.mul ok fun t' tk => ⟨.str (Txt.mul i n), H, I.tok _, ⟨_, rfl⟩, q⟩
end L2
namespace K10
open PySem L2 L2.EV
theorem a397 : Txt.mul "a" 397 ++ ";" = aS 397 ++ ";" := by
  refine sl_inj ?_
  rw [sl_app, sl_app, sl_aS]
  congr 1
theorem a397ok : MulOk "a" 397 := ⟨by decide +kernel, by decide +kernel, by decide +kernel⟩
section
variable {P : Program} {w : World} {K : PySem.W.Frag} {mg : Str → Option Value} {base : Heap}
theorem ok_takes0 (Z : Tt K mg) : FnOk P w K mg base CX0 5 Z.fT Z.dT ["reader", "text"] spTk0 := fnOk0 (ok_takes Z) fun vs H Q E h => by
  obtain ⟨r, xs, gs, p, rfl, da, rd, xl, pl, ok, q⟩ := h
  refine ⟨r, .str p, xs, gs, some p, rfl, da, rd, xl, ⟨rfl, pl⟩, fun p' e _ => ?_, fun h => ?_⟩
  · cases e
    exact q
  · have h : ltB p = false := h
    rw [ok] at h
    cases h
end
/-- a text of few letters and its end -/
theorem ltr_text {t : Str} (h : ∀ c ∈ sl t, c ∈ Ltr) : ltB (t ++ ";") = true ∧ cnt (t ++ ";") < 2 ∧ sgsOf (t ++ ";") = chs t := by
  have e : sl (t ++ ";") = sl t ++ [59] := by rw [sl_app, semi]
  refine ⟨?_, ?_, ?_⟩
  · unfold ltB
    rw [Bool.and_eq_true]
    refine ⟨?_, ?_⟩
    · have : Txt.endswith (t ++ ";") ";" = true := by
        show (decide (0 + (";" : Str).length ≤ (t ++ ";").length) && Builtin.Str.subAt (t ++ ";") ";" ((t ++ ";").length - (";" : Str).length)) = true
        rw [at_end, decide_eq_true (by rw [semi1, len_sl, e, List.length_append]; simp), e]
        simp
      exact this
    · rw [e, List.dropLast_concat, List.all_eq_true]
      intro c hc
      rw [decide_eq_true (ltr_sgs c (h c hc))]
      rfl
  · unfold cnt
    rw [e]
    have : ((64 :: mks).filter fun c => decide (c ∈ sl t ++ [59])).length ≤ [64].length := by
      have nd : ((64 :: mks).filter fun c => decide (c ∈ sl t ++ [59])).Nodup := List.Pairwise.filter _ (by decide +kernel)
      refine nd.length_le_of_subset fun c hc => ?_
      obtain ⟨h1, h2⟩ := List.mem_filter.mp hc
      have h2 := of_decide_eq_true h2
      have key : ∀ c ∈ 64 :: mks, c ∈ 59 :: Ltr → c = 64 := by decide +kernel
      rw [List.mem_singleton]
      refine key c h1 ?_
      rcases List.mem_append.mp h2 with z | z
      · exact List.mem_cons_of_mem _ (h c z)
      · rw [List.mem_singleton.mp z]
        exact List.mem_cons_self ..
    simp only [List.length_cons, List.length_nil] at this
    omega
  · unfold sgsOf chs
    rw [e, List.dropLast_concat]
    refine List.map_congr_left fun c hc => ?_
    have key : ∀ c ∈ Ltr, ¬ c ∈ mks := by decide +kernel
    unfold sgOf
    rw [if_neg (key c (h c hc))]
/-- a text that one of the two alone takes -/
theorem tk_par {R : Two} {p : Pr} {t : Str} (h : ldE R (p, t)) : tkF R.xs R.gs (t ++ ";") = acc R.gs p.1 ∧ tkF R.ys R.hs (t ++ ";") = acc R.hs p.2 := by
  obtain ⟨e, l⟩ := h
  obtain ⟨_, l2, l3⟩ := ltr_text l
  have e : p = (ldF R.xs (some 0) (chs t), ldF R.ys (some 0) (chs t)) := e
  subst e
  unfold tkF
  rw [decide_eq_true l2, l3, Bool.true_and, Bool.true_and]
  refine ⟨?_, ?_⟩
  · show _ = acc R.gs (ldF R.xs (some 0) (chs t))
    cases ldF R.xs (some 0) (chs t) <;> rfl
  · show _ = acc R.hs (ldF R.ys (some 0) (chs t))
    cases ldF R.ys (some 0) (chs t) <;> rfl
/-! ### what is shown -/
def dT : Option Str → PyData
  | none => .none
  | some s => .str s
theorem dp_t {K : PySem.W.Frag} {H : Hp} (r : Option Str) : Dp K H (rT r) (dT r) := by
  cases r with
  | none => exact .non
  | some s => exact .str s
theorem okd_t {r : Option Str} (h : ∀ s, r = some s → PyData.strOk s = true ∧ s.length ≤ 50000) : Okd (dT r) 500002 0 := by
  cases r with
  | none => exact okd_by (by decide +kernel)
  | some s => exact okd_str (h s rfl).1 (h s rfl).2
theorem okd_2 {r : Option Str} (h : ∀ s, r = some s → PyData.strOk s = true ∧ s.length ≤ 50000) : Okd (.list [dT r, dT r]) 2000000 1 := by
  have := okd_list (m := 2) (n := 500002) (dp := 0) (ds := [dT r, dT r]) (fun d hd => by
    have : d = dT r := by simpa using hd
    rw [this]
    exact okd_t h) (by simp)
  exact this.le (by omega) (by omega)
theorem ltr_ok {t : Str} (h : ∀ c ∈ sl t, c ∈ Ltr) : PyData.strOk (t ++ ";") = true := low_ok.mpr fun c hc => by
  rw [sl_app, semi] at hc
  rcases List.mem_append.mp hc with z | z
  · have key : ∀ c ∈ Ltr, c < 0x110000 := by decide
    exact key c (h c z)
  · rw [List.mem_singleton.mp z]
    decide
/-- what both searches tell of two right readers -/
theorem par_facts {R : Two} (F : Few R) {r : Option Str} (h : Par R (sgP R) f00 l00 r) : (∀ r', Par R (fun _ => allS) f00 l00 r' → r = r') ∧ (∀ r', Par R.swap (sgP R.swap) f00 l00 r' → r = r') ∧ ∀ s, r = some s → ∃ (p : Pr) (t : Str), s = t ++ ";" ∧ ldE R (p, t) ∧ par R p = true := by
  refine ⟨fun r' h' => ?_, fun r' h' => ?_, ?_⟩
  · exact par_same F all3 h ⟨fun p _ => Iff.rfl, by decide, rfl⟩ h'
  · exact h.swapped.uniq h'
  · exact h.is fun e he => by
      rw [List.mem_singleton.mp he]
      exact ⟨rfl, fun c hc => by cases hc⟩
end K10

set_option Elab.async false
set_option linter.all false
set_option maxRecDepth 100000
set_option maxHeartbeats 4000000
/-! The law. -/
namespace K10
open PySem L2 L2.EV
abbrev sLaw : Stmt := top 53
abbrev NL : List Str := ["script", "m", "turn", "one", "some", "other", "due"]
structure Lall (K : PySem.W.Frag) (mg : Str → Option Value) where
  N : Lq K mg
  G : Pg K mg
  Z : Sk K mg
  A : Lf K mg
  B : Lp K mg
  f1 : Addr
  d1 : FuncData
  F1 : Fun K "first_taken" "first_taken" sFirstTaken f1 d1
  b1 : Binds K d1 ["reader"] []
  m1 : mg "first_taken" = some (.ref f1)
  fB : Addr
  dB : FuncData
  Be : Fun K "_law_begun" "_law_begun" sBegun fB dB
  bB : Binds K dB ["script"] []
  mB : mg "_law_begun" = some (.ref fB)
  mi : mg "min" = none
  re : mg "repr" = none
def spLaw (K : PySem.W.Frag) : Sp := fun vs H Q _ => ∃ (a : Addr) (ns : List Int), vs = [.ref a] ∧ SqL K H a (ns.map V.int) ∧ ns.length ≤ 63 ∧ ∀ H', Q (.bl true) H'
theorem RdA.rtt {H : Hp} {m c l a : Addr} {k : Int} {xs : List T3} {gs : List Int} (M : MAt H m c l k) (h : RdA H a xs gs) : RdA (rt H m l) a xs gs := by
  obtain ⟨t1, t2, ts, h1, h2, h3, h4⟩ := h
  exact ⟨t1, t2, ts, M.rtt h1, M.rtt h2, ⟨h3.1, fun i t x e1 e2 => M.rtt (h3.2 i t x e1 e2)⟩, M.rtt h4⟩
theorem dall_ints {H : Hp} : ∀ gs : List Int, DaAll H (gs.map V.int) (gs.map PyData.int)
  | [] => .nil
  | g :: gs => .cons (.int g) (dall_ints gs)
theorem dall_3 {H : Hp} : ∀ {ts : List Addr} {xs : List T3}, At3 H ts xs → DaAll H (ts.map V.ref) (xs.map d3)
  | [], [], _ => .nil
  | [], _ :: _, h => by cases h.1
  | _ :: _, [], h => by cases h.1
  | t :: ts, x :: xs, h => .cons (.tup (h.2 0 t x rfl rfl) (.cons (.int _) (.cons (.str _) (.cons (.int _) .nil)))) (dall_3 ⟨by have := h.1; simpa using this, fun i t x h1 h2 => h.2 (i + 1) t x (by simpa using h1) (by simpa using h2)⟩)
theorem RdA.da {H : Hp} {a : Addr} {xs : List T3} {gs : List Int} (h : RdA H a xs gs) : Da H (.ref a) (rdT xs gs) := by
  obtain ⟨t1, t2, ts, h1, h2, h3, h4⟩ := h
  exact .tup h1 (.cons (.tup h2 (dall_3 h3)) (.cons (.tup h4 (dall_ints gs)) .nil))
/-- a right reader, somewhere -/
def RdX (H : Hp) (v : V) (xs : List T3) (gs : List Int) : Prop := Da H v (rdT xs gs) ∧ Rc xs gs
theorem RdX.same {H H' : Hp} {v : V} {xs : List T3} {gs : List Int} (h : RdX H v xs gs) (s : Same H H') : RdX H' v xs gs := ⟨Da.same s _ _ h.1, h.2⟩
theorem RdX.q {H : Hp} {v : V} {xs : List T3} {gs : List Int} (nA : Addr) (h : RdX H v xs gs) : RdQ nA H v xs gs := .inl ⟨h.1, h.2.rd, h.2.ln⟩
theorem rT_shown {r : Option Str} (h : ∀ s, r = some s → ∃ t, s = t ++ ";" ∧ ∀ c ∈ sl t, c ∈ Ltr) : ∀ s, r = some s → PyData.strOk s = true := fun s e => by
  obtain ⟨t, rfl, h⟩ := h s e
  exact ltr_ok h
section
variable {P : Program} {w : World} {K : PySem.W.Frag} {mg : Str → Option Value} {base : Heap}
theorem scLaw : FnScope NL ["script"] (defScope sLaw) := ⟨rfl, rfl, rfl, by decide +kernel, rfl, by decide +kernel, by decide +kernel⟩
theorem ok_law (L : Lall K mg) {f : Addr} {fd : FuncData} (F : Fun K "law" "law" sLaw f fd) : FnG P w K mg base CX0 6 f fd ["script"] (spLaw K) := by
  have GB : FnOk P w K mg base CX0 1 L.fB L.dB ["script"] (spBegun K) := ok_begun L.Be L.N.S.T
  have GX : FnOk P w K mg base CX0 1 L.N.S.f1 L.N.S.d1 ["m", "many"] spNext := ok_next L.N.S.N L.N.S.T
  have GS : FnOk P w K mg base CX0 2 L.N.S.f2 L.N.S.d2 ["m", "many"] spSome := ok_some L.N.S
  have GN : FnOk P w K mg base CX0 2 L.N.fN L.N.dN ["m", "reader"] spNear := ok_near L.N
  have GW : FnOk P w K mg base CX0 1 L.N.fW L.N.dW ["size"] spWheel := ok_wheel L.N
  have GF : FnOk P w K mg base CX0 3 L.A.f L.A.d ["m", "most"] spFraming := ok_framing L.A
  have GZ : FnOk P w K mg base CX0 4 L.Z.f L.Z.d ["framing"] spStrict := ok_strict L.Z
  have GL : FnOk P w K mg base CX0 2 L.B.f L.B.d ["one", "other"] spLFP := ok_lfp L.B
  have GP : FnOk P w K mg base CX0 4 L.G.f L.G.d ["one", "other"] (spParting L.G.C.n) := ok_parting L.G
  have GT : FnOk P w K mg base CX0 5 L.f1 L.d1 ["reader"] (spFirstT L.G.C.n) := ok_firstT L.G L.F1
  have GK : FnOk P w K mg base CX0 5 L.G.Z.fT L.G.Z.dT ["reader", "text"] spTk0 := ok_takes0 L.G.Z
  refine okG F scLaw (fun vs H Q E h => ?_) (fun cdv A outer s H vs Q E hr hgd h => ?_)
  · obtain ⟨a, ns, rfl, _⟩ := h
    rfl
  · obtain ⟨a, ns, rfl, hS, hlen, q⟩ := h
    have ggd : (A.deeper (PyProof.Rows.envOfC "law" (defScope sLaw) s.heap.objs.size f cdv)).guards = some [] := hgd
    have hu64 := hr.units
    have r1 := hr.mono (j := 1) (by decide)
    have r2 := hr.mono (j := 2) (by decide)
    have r3 := hr.mono (j := 3) (by decide)
    have r4 := hr.mono (j := 4) (by decide)
    refine ⟨_, pss_cons (ps_set (i := 1) scLaw.nd rfl (Or.inl rfl) (pe_call GB r1 (by rfl) L.mB L.Be.kp L.bB .nil pass0 (pa_cons (pv 0) pa_nil)))
      (pss_cons (ps_for PassesOwn.never rfl (pi_range1 (by rfl) L.N.S.ra (pa_cons (pe_op op_add pe_int (pe_callB (call_min2 rfl) (by rfl) L.mi (by decide +kernel) (pa_cons (pe_callB call_len_seq (by rfl) L.N.S.T.len PySem.boot_len (pa_cons (pv 0) pa_nil)) (pa_cons pe_int pa_nil)))) pa_nil)) (pg_name (i := 2) scLaw.nd rfl (Or.inl rfl))
        (pss_cons (ps_set (i := 3) scLaw.nd rfl (Or.inl rfl) (pe_call GS r2 (by rfl) L.N.S.mP L.N.S.P.kp L.N.S.bP .nil pass0 (pa_cons (pv 1) (pa_cons (pe_op op_add pe_int (pe_call GX r1 (by rfl) L.N.S.mN L.N.S.N.kp L.N.S.bN .nil pass0 (pa_cons (pv 1) (pa_cons pe_int pa_nil)))) pa_nil))))
        (pss_cons (ps_set (i := 4) scLaw.nd rfl (Or.inl rfl) (pe_lst (pa_cons (pe_call GS r2 (by rfl) L.N.S.mP L.N.S.P.kp L.N.S.bP .nil pass0 (pa_cons (pv 1) (pa_cons (pe_op op_add pe_int (pe_call GX r1 (by rfl) L.N.S.mN L.N.S.N.kp L.N.S.bN .nil pass0 (pa_cons (pv 1) (pa_cons pe_int pa_nil)))) pa_nil))) (pa_cons (pe_call GN r2 (by rfl) L.N.mN L.N.N.kp L.N.bN .nil pass0 (pa_cons (pv 1) (pa_cons (pv 3) pa_nil))) (pa_cons (pe_call GZ r4 (by rfl) L.Z.m L.Z.F.kp L.Z.b .nil pass0 (pa_cons (pe_call GF r3 (by rfl) L.A.g L.A.F.kp L.A.b .nil pass0 (pa_cons (pv 1) (pa_cons pe_int pa_nil))) pa_nil)) pa_nil)))))
        (pss_cons (ps_for PassesOwn.never rfl (pi_list (pe_op op_cat (pv 4) (pe_lst (pa_cons (pe_tup (pa_cons (pe_tup pa_nil) (pa_cons (pe_tup pa_nil) pa_nil))) (pa_cons (pv 3) pa_nil))))) (pg_name (i := 5) scLaw.nd rfl (Or.inl rfl))
          (pss_cons (ps_set (i := 6) scLaw.nd rfl (Or.inl rfl) (pe_call GL r2 (by rfl) L.B.m L.B.F.kp L.B.b .nil pass0 (pa_cons (pv 3) (pa_cons (pv 5) pa_nil))))
          (pss_cons (ps_if (pt_cmpR op_ne (pe_callB (call_showV ggd hu64) (by rfl) L.re (by decide +kernel) (pa_cons (pe_lst (pa_cons (pe_call GP r4 (by rfl) L.G.m L.G.F.kp L.G.b .nil pass0 (pa_cons (pv 3) (pa_cons (pv 5) pa_nil))) (pa_cons (pe_call GP r4 (by rfl) L.G.m L.G.F.kp L.G.b .nil pass0 (pa_cons (pv 5) (pa_cons (pv 3) pa_nil))) pa_nil))) pa_nil)) (pe_callB (call_showV ggd hu64) (by rfl) L.re (by decide +kernel) (pa_cons (pe_op op_rep (pe_lst (pa_cons (pv 6) pa_nil)) pe_int) pa_nil)) (nomark _)) (pss_one (ps_ret pe_bl)) pss_nil)
          (pss_one (ps_if (pw_and (pt_cmpR op_notN (pv 6) pe_non (nomark _)) (pw_and1 (pt_cmpR op_eq (pe_call GK hr (by rfl) L.G.Z.mT L.G.Z.FT.kp L.G.Z.bT .nil pass0 (pa_cons (pv 3) (pa_cons (pv 6) pa_nil))) (pe_call GK hr (by rfl) L.G.Z.mT L.G.Z.FT.kp L.G.Z.bT .nil pass0 (pa_cons (pv 5) (pa_cons (pv 6) pa_nil))) (nomark _)))).pt (pss_one (ps_ret pe_bl)) pss_nil)))))
        (pss_one (ps_if (pt_cmpR op_ne (pe_callB (call_showV ggd hu64) (by rfl) L.re (by decide +kernel) (pa_cons (pe_call GT hr (by rfl) L.m1 L.F1.kp L.b1 .nil pass0 (pa_cons (pv 3) pa_nil)) pa_nil)) (pe_callB (call_showV ggd hu64) (by rfl) L.re (by decide +kernel) (pa_cons (pe_call GL r2 (by rfl) L.B.m L.B.F.kp L.B.b .nil pass0 (pa_cons (pv 3) (pa_cons (pe_tup (pa_cons (pe_tup pa_nil) (pa_cons (pe_tup pa_nil) pa_nil))) pa_nil))) pa_nil)) (nomark _)) (pss_one (ps_ret pe_bl)) pss_nil))))))
      (pss_cons (ps_par (i := 3) (j := 5) (x := "one") (y := "other") rfl scLaw.nd rfl rfl (by decide) rfl rfl (pa_cons (pe_call GW r1 (by rfl) L.N.mW L.N.W.kp L.N.bW .nil pass0 (pa_cons pe_int pa_nil)) (pa_cons (pe_call GW r1 (by rfl) L.N.mW L.N.W.kp L.N.bW .nil pass0 (pa_cons pe_int pa_nil)) pa_nil)) (by rfl))
      (pss_one (ps_ret (pe_and (pe_cmpR op_eq (pe_call GP r4 (by rfl) L.G.m L.G.F.kp L.G.b .nil pass0 (pa_cons (pv 3) (pa_cons (pv 5) pa_nil))) (pe_op op_add_str (pe_op op_repS pe_str pe_int) pe_str) (nomark _)) (pe_one (pe_cmpR op_eq (pe_call GP r4 (by rfl) L.G.m L.G.F.kp L.G.b .nil pass0 (pa_cons (pv 5) (pa_cons (pv 3) pa_nil))) (pe_op op_add_str (pe_op op_repS pe_str pe_int) pe_str) (nomark _)))))))), ?_⟩
    refine ⟨_, rfl, a, ns, rfl, hS, by omega, fun m mc l0 H0 M0 hm hmc hl sm0 => ?_⟩
    have nl : (ns.map V.int).length ≤ 63 := by rw [List.length_map]; exact hlen
    refine ⟨_, rfl, a, _, rfl, .inl (sm0.seq hS), _, 4, rfl, 2, _, rfl, rfl, _, rfl, by split <;> omega, by split <;> omega, ?_⟩
    have hN : (2 + if (4 : Int) < ((ns.map V.int).length : Nat) then 4 else (((ns.map V.int).length : Nat) : Int)).toNat ≤ 6 := by split <;> omega
    generalize (2 + if (4 : Int) < ((ns.map V.int).length : Nat) then 4 else (((ns.map V.int).length : Nat) : Int)).toNat = N at hN ⊢
    refine for_it walk_range (fun i σ H' => ∃ (v2 v3 v4 v5 v6 : Option V) (l : Addr) (k : Int), σ = [some (.ref a), some (.ref m), v2, v3, v4, v5, v6] ∧ MAt H' m mc l k ∧ k ≤ 1000 * i)
      ⟨none, none, none, none, none, l0, 0, rfl, M0, by omega⟩ (fun _ _ _ _ _ => trivial) ?_ ?_
    · rintro i x σ H1z H1 hi ⟨v2, v3, v4, v5, v6, l1, k1, rfl, M1, kk1⟩ ⟨rfl, rfl⟩
      have M1' := M1
      have nn : ∀ {r : Int}, 0 ≤ r → r < 5 → ∃ n : Nat, r = (n : Int) ∧ n < 5 := fun {r} a b => ⟨r.toNat, by omega, by omega⟩
      -- one
      refine ⟨_, rfl, _, rfl, m, mc, l1, k1, 5, rfl, M1, by decide, by decide, by omega, fun r H2 l2 k2 ra rb kk2 Ma Mb Mc => ?_⟩
      have D2 : Dr H1 H2 m mc l1 l2 k2 := ⟨Ma, Mb, Mc⟩
      obtain ⟨n, rfl, n5⟩ := nn ra rb
      refine ⟨1, _, rfl, rfl, m, mc, l2, k2, 1 + n, (by rw [show ((1 + n : Nat) : Int) = 1 + (n : Int) by omega]; rfl), D2.at_, by omega, by omega, by omega, fun v1 dd1 H3 l3 k3 hd1 hs1 kk3 D3 => ?_⟩
      obtain ⟨xs, gs, rfl, rc, lx, lg⟩ := rdS_rc hs1
      obtain ⟨p1, rfl, rd1⟩ := rda_of hd1
      -- another
      refine ⟨_, rfl, _, rfl, m, mc, l3, k3, 5, rfl, D3.at_, by decide, by decide, by omega, fun r H4 l4 k4 ra rb kk4 Ma Mb Mc => ?_⟩
      have D4 : Dr H3 H4 m mc l3 l4 k4 := ⟨Ma, Mb, Mc⟩
      obtain ⟨n', rfl, n5'⟩ := nn ra rb
      refine ⟨1, _, rfl, rfl, m, mc, l4, k4, 1 + n', (by rw [show ((1 + n' : Nat) : Int) = 1 + (n' : Int) by omega]; rfl), D4.at_, by omega, by omega, by omega, fun v2 dd2 H5 l5 k5 hd2 hs2 kk5 D5 => ?_⟩
      obtain ⟨ys, hs, rfl, rc2, lx2, lg2⟩ := rdS_rc hs2
      obtain ⟨p2, rfl, rd2⟩ := rda_of hd2
      have rd15 := rd1.same ((rt_dr D4).trans (rt_dr D5))
      -- a near one
      refine ⟨_, rfl, _, rfl, m, mc, l5, k5, p1, xs, gs, rfl, D5.at_, by omega, rd15.same rt_sub, rc, by omega, fun p3 zs is H6 l6 k6 rd3 rc3 kk6 D6 => ?_⟩
      -- a strict one
      refine ⟨_, rfl, m, mc, l6, k6, 3, rfl, by decide, D6.at_, by omega, fun f fr last H7 l7 k7 fa fm sm lb lf kk7 D7 => ?_⟩
      obtain ⟨U, inn⟩ := inn_small fm sm
      refine ⟨f, fr, last, U, rfl, fa, fm, es_ok fm, inn, fun H8 p4 s8 rt8 => ?_⟩
      obtain ⟨_, e4, rd4⟩ := rda_of (da_rta rt8)
      cases e4
      have M8 := D7.at_.same s8
      have g1 : RdA H8 p1 xs gs := (rd15.same ((rt_dr D6).trans (rt_dr D7))).same (rt_sub.trans s8)
      have g2 : RdA H8 p2 ys hs := (rd2.same ((rt_dr D6).trans (rt_dr D7))).same (rt_sub.trans s8)
      have g3 : RdA H8 p3 zs is := ((rd3.rtt D6.at_).same (rt_dr D7)).same (rt_sub.trans s8)
      have rc4 := strict_rc fm sm
      refine ⟨by show 3 ≤ sizeLine; rw [sizeLine_eq]; decide, fun pL hL => ?_⟩
      have uL := same_upd (o := HO.lst [V.ref p2, V.ref p3, V.ref p4]) hL
      have eL := upd_same (H := H8) (a := pL) (o := HO.lst [V.ref p2, V.ref p3, V.ref p4])
      generalize upd H8 pL (.lst [V.ref p2, V.ref p3, V.ref p4]) = H9 at uL eL ⊢
      refine ⟨_, rfl, by show 0 ≤ sizeLine; omega, fun q1 hq1 => ⟨by show 0 ≤ sizeLine; omega, fun q2 hq2 => ⟨by show 2 ≤ sizeLine; rw [sizeLine_eq]; decide, fun q3 hq3 => ⟨_, rfl, by show 2 ≤ sizeLine; rw [sizeLine_eq]; decide, fun qM hqM => ?_⟩⟩⟩⟩
      have u1 := same_upd (o := HO.tup []) hq1
      have e1 := upd_same (H := H9) (a := q1) (o := HO.tup [])
      generalize upd H9 q1 (.tup []) = Ha at u1 e1 hq2 hq3 hqM ⊢
      have u2 := same_upd (o := HO.tup []) hq2
      have e2 := upd_same (H := Ha) (a := q2) (o := HO.tup [])
      generalize upd Ha q2 (.tup []) = Hb at u2 e2 hq3 hqM ⊢
      have u3 := same_upd (o := HO.tup [V.ref q1, V.ref q2]) hq3
      have e3 := upd_same (H := Hb) (a := q3) (o := HO.tup [V.ref q1, V.ref q2])
      generalize upd Hb q3 (.tup [V.ref q1, V.ref q2]) = Hc at u3 e3 hqM ⊢
      have uM := same_upd (o := HO.lst [V.ref q3, V.ref p1]) hqM
      have eM := upd_same (H := Hc) (a := qM) (o := HO.lst [V.ref q3, V.ref p1])
      generalize upd Hc qM (.lst [V.ref q3, V.ref p1]) = Hd at uM eM ⊢
      have s9d := ((u1.trans u2).trans u3).trans uM
      refine ⟨pL, qM, _, _, rfl, rfl, s9d _ _ eL, eM, by show 3 + 2 ≤ sizeLine; rw [sizeLine_eq]; decide, fun pN hN => ?_⟩
      have uN := same_upd (o := HO.lst ([V.ref p2, V.ref p3, V.ref p4] ++ [V.ref q3, V.ref p1])) hN
      have eN := upd_same (H := Hd) (a := pN) (o := HO.lst ([V.ref p2, V.ref p3, V.ref p4] ++ [V.ref q3, V.ref p1]))
      generalize upd Hd pN (.lst ([V.ref p2, V.ref p3, V.ref p4] ++ [V.ref q3, V.ref p1])) = He at uN eN ⊢
      have s8e : Same H8 He := (uL.trans s9d).trans uN
      have g0 : RdA He q3 [] [] := ⟨q1, q2, [], uN _ _ (uM _ _ e3), uN _ _ (uM _ _ (u3 _ _ (u2 _ _ e1))), ⟨rfl, fun i t x h => by cases h⟩, uN _ _ (uM _ _ (u3 _ _ e2))⟩
      have one : RdA He p1 xs gs := g1.same s8e
      have each : ∀ x ∈ [V.ref p2, V.ref p3, V.ref p4] ++ [V.ref q3, V.ref p1], ∃ (p : Addr) (ys : List T3) (hs : List Int), x = .ref p ∧ RdA He p ys hs ∧ Rc ys hs := by
        intro x hx
        have hx : x ∈ [V.ref p2, V.ref p3, V.ref p4, V.ref q3, V.ref p1] := hx
        simp only [List.mem_cons, List.not_mem_nil, or_false] at hx
        rcases hx with rfl | rfl | rfl | rfl | rfl
        · exact ⟨p2, ys, hs, rfl, g2.same s8e, rc2⟩
        · exact ⟨p3, zs, is, rfl, g3.same s8e, rc3⟩
        · exact ⟨p4, xsF fr, gsF fr, rfl, rd4.same s8e, rc4⟩
        · exact ⟨q3, [], [], rfl, g0, rc_nil⟩
        · exact ⟨p1, xs, gs, rfl, one, rc⟩
      generalize [V.ref p2, V.ref p3, V.ref p4] ++ [V.ref q3, V.ref p1] = others at eN each ⊢
      have dv1 : RdX He (.ref p1) xs gs := ⟨one.da, rc⟩
      refine ⟨pN, rfl, ⟨_, SqL.of eN⟩, for_it (walk_list (xs := others)) (fun j σ H' => ∃ (v5 v6 : Option V), σ = [some (.ref a), some (.ref m), some (.int (0 + (i : Int))), some (.ref p1), some (.ref pL), v5, v6] ∧ Same He H')
        ⟨v5, v6, rfl, Same.refl He⟩ (fun j σ H' _ ⟨_, _, _, z⟩ => SqL.of (z _ _ eN)) ?_ ?_⟩
      · rintro j x σ Hfz Hf hj ⟨v5, v6, rfl, sf⟩ ⟨rfl, hx⟩
        obtain ⟨p, us, ws, rfl, rdp, rcp⟩ := each x (List.mem_of_getElem? hx)
        obtain ⟨F, Rg⟩ := rc.two rcp
        obtain ⟨F2, Rg2⟩ := rcp.two rc
        -- due
        refine ⟨_, rfl, _, rfl, p1, p, ⟨xs, gs, us, ws⟩, rfl, one.same sf, rdp.same sf, rc.ln, rcp.ln, Rg, fun Hg due sg pd => ?_⟩
        have k1 := dv1.same (sf.trans sg)
        have k2 : RdX Hg (.ref p) us ws := ⟨(rdp.same (sf.trans sg)).da, rcp⟩
        -- one's parting
        refine ⟨_, rfl, _, rfl, _, _, ⟨xs, gs, us, ws⟩, rfl, k1.q _, k2.q _, F, Rg, fun Hh r1 sh pr1 ln1 => ?_⟩
        obtain ⟨f1, f2, f3⟩ := par_facts F pr1
        have er := f1 _ pd
        subst er
        refine ⟨_, rfl, _, rfl, _, _, ⟨us, ws, xs, gs⟩, rfl, (k2.same sh).q _, (k1.same sh).q _, F2, Rg2, fun Hi r2 si pr2 ln2 => ?_⟩
        have er := f2 _ pr2
        subst er
        have okS : ∀ s, r1 = some s → PyData.strOk s = true ∧ s.length ≤ 50000 := fun s e => by
          obtain ⟨pp, t, e2, l, _⟩ := f3 s e
          rw [e2]
          refine ⟨ltr_ok l.2, ?_⟩
          rw [← e2, len_sl]
          exact ln1 s e
        have ok2 := okd_2 okS
        have okz : (PyData.list [dT r1, dT r1]).shown.length ≤ sizeLine := by
          have := ok2.sz
          rw [sizeLine_eq]
          omega
        have okp : (PyData.list [dT r1, dT r1]).depth ≤ 5 := Nat.le_trans ok2.dp (by decide)
        refine ⟨by show 2 ≤ sizeLine; rw [sizeLine_eq]; decide, fun pA hA => ?_⟩
        have uA := same_upd (o := HO.lst [rT r1, rT r1]) hA
        have eA := upd_same (H := Hi) (a := pA) (o := HO.lst [rT r1, rT r1])
        generalize upd Hi pA (.lst [rT r1, rT r1]) = Hj at uA eA ⊢
        refine ⟨.ref pA, .list [dT r1, dT r1], rfl, .lst (SqL.of eA) (.cons (dp_t r1) (.cons (dp_t r1) .nil)), ok2.sh, ok2.nd, okz, okp, ?_⟩
        refine ⟨_, rfl, by show 1 ≤ sizeLine; rw [sizeLine_eq]; decide, fun pB hB => ?_⟩
        have uB := same_upd (o := HO.lst [rT r1]) hB
        have eB := upd_same (H := Hj) (a := pB) (o := HO.lst [rT r1])
        generalize upd Hj pB (.lst [rT r1]) = Hk at uB eB ⊢
        refine ⟨pB, 2, _, rfl, rfl, eB, by decide, by decide, by show 2 ≤ sizeLine; rw [sizeLine_eq]; decide, fun pC hC => ?_⟩
        have uC := same_upd (o := HO.lst (List.replicate (2 : Int).toNat [rT r1]).flatten) hC
        have eC : upd Hk pC (HO.lst (List.replicate (2 : Int).toNat [rT r1]).flatten) pC = some (.lst [rT r1, rT r1]) := upd_same
        generalize upd Hk pC (.lst (List.replicate (2 : Int).toNat [rT r1]).flatten) = Hl at uC eC ⊢
        refine ⟨.ref pC, .list [dT r1, dT r1], rfl, .lst (SqL.of eC) (.cons (dp_t r1) (.cons (dp_t r1) .nil)), ok2.sh, ok2.nd, okz, okp, rfl, _, rfl, iteF' (by simp) ?_⟩
        have sgl : Same Hg Hl := (((sh.trans si).trans uA).trans uB).trans uC
        have sel : Same He Hl := (sf.trans sg).trans sgl
        cases r1 with
        | none =>
          refine ⟨_, rfl, rfl, _, rfl, iteF' rfl (iteF' rfl ?_)⟩
          exact ⟨_, _, rfl, sel⟩
        | some t =>
          obtain ⟨pp, tt, e2, l, pa⟩ := f3 t rfl
          obtain ⟨t1, t2⟩ := tk_par l
          obtain ⟨lb, _, _⟩ := ltr_text l.2
          rw [← e2] at t1 t2 lb
          have tl : t.length ≤ 60000 := by
            rw [len_sl]
            exact Nat.le_trans (ln1 t rfl) (by decide)
          refine ⟨_, rfl, rfl, _, rfl, iteT' rfl ?_⟩
          refine ⟨_, rfl, _, rfl, _, xs, gs, t, rfl, (k1.same sgl).1, rc.rd, rc.ln, tl, lb, fun Hm sm1 => ?_⟩
          refine ⟨_, rfl, _, rfl, _, us, ws, t, rfl, (k2.same (sgl.trans sm1)).1, rcp.rd, rcp.ln, tl, lb, fun Hn sn => ?_⟩
          refine ⟨rfl, _, rfl, iteF' ?_ ?_⟩
          · show decide (V.bl (tkF xs gs t) = V.bl (tkF us ws t)) = false
            have t1 : tkF xs gs t = acc gs pp.1 := t1
            have t2 : tkF us ws t = acc ws pp.2 := t2
            rw [t1, t2]
            have pa : (acc gs pp.1 != acc ws pp.2) = true := pa
            refine decide_eq_false fun z => ?_
            injection z with z
            rw [z, bne_self_eq_false] at pa
            cases pa
          · exact ⟨_, _, rfl, (sel.trans sm1).trans sn⟩
      · rintro σ Hz ⟨v5, v6, rfl, sz⟩
        have M9 := M8.same (s8e.trans sz)
        obtain ⟨F, Rg⟩ := rc.two rc_nil
        have k1 := dv1.same sz
        refine ⟨_, rfl, _, xs, gs, rfl, k1.q _, F, Rg, fun Hf r1 sf pr1 ln1 => ?_⟩
        obtain ⟨f1, f2, f3⟩ := par_facts F pr1
        have okS : ∀ s, r1 = some s → PyData.strOk s = true ∧ s.length ≤ 50000 := fun s e => by
          obtain ⟨pp, t, e2, l, _⟩ := f3 s e
          rw [e2]
          refine ⟨ltr_ok l.2, ?_⟩
          rw [← e2, len_sl]
          exact ln1 s e
        have ok1 := okd_t okS
        have okz : (dT r1).shown.length ≤ sizeLine := by
          have := ok1.sz
          rw [sizeLine_eq]
          omega
        have okp : (dT r1).depth ≤ 5 := Nat.le_trans ok1.dp (by decide)
        refine ⟨_, dT r1, rfl, dp_t r1, ok1.sh, ok1.nd, okz, okp, ?_⟩
        refine ⟨_, rfl, by show 0 ≤ sizeLine; omega, fun q1 hq1 => ⟨by show 0 ≤ sizeLine; omega, fun q2 hq2 => ⟨by show 2 ≤ sizeLine; rw [sizeLine_eq]; decide, fun q3 hq3 => ?_⟩⟩⟩
        have u1 := same_upd (o := HO.tup []) hq1
        have e1 := upd_same (H := Hf) (a := q1) (o := HO.tup [])
        generalize upd Hf q1 (.tup []) = Ha at u1 e1 hq2 hq3 ⊢
        have u2 := same_upd (o := HO.tup []) hq2
        have e2 := upd_same (H := Ha) (a := q2) (o := HO.tup [])
        generalize upd Ha q2 (.tup []) = Hb at u2 e2 hq3 ⊢
        have u3 := same_upd (o := HO.tup [V.ref q1, V.ref q2]) hq3
        have e3 := upd_same (H := Hb) (a := q3) (o := HO.tup [V.ref q1, V.ref q2])
        generalize upd Hb q3 (.tup [V.ref q1, V.ref q2]) = Hc at u3 e3 ⊢
        have sfc := (u1.trans u2).trans u3
        have g0 : RdA Hc q3 [] [] := ⟨q1, q2, [], e3, u3 _ _ (u2 _ _ e1), ⟨rfl, fun i t x h => by cases h⟩, u3 _ _ e2⟩
        refine ⟨p1, q3, ⟨xs, gs, [], []⟩, rfl, (one.same sz).same (sf.trans sfc), g0, rc.ln, Nat.zero_le _, Rg, fun Hd due sd pd => ?_⟩
        have er := f1 _ pd
        subst er
        refine ⟨_, dT r1, rfl, dp_t r1, ok1.sh, ok1.nd, okz, okp, rfl, _, rfl, iteF' (by simp) ?_⟩
        exact ⟨_, _, _, _, _, l7, k7, rfl, M9.same ((sf.trans sfc).trans sd), by push_cast; omega⟩
    · rintro σ HE ⟨v2, v3, v4, v5, v6, l, k, rfl, ME, kkE⟩
      refine ⟨199, rfl, by decide, by decide, fun Ha a1 sa d1 => ?_⟩
      refine ⟨200, rfl, by decide, by decide, fun Hb a2 sb d2 => ?_⟩
      refine ⟨_, _, rfl, ?_⟩
      have c1 := whl_rc (n := 199) (by decide) (by decide)
      have c2 := whl_rc (n := 200) (by decide) (by decide)
      have w1 : wR.xs = whl 199 := by unfold wR; rfl
      have w2 : wR.gs = [198] := by unfold wR; rfl
      have w3 : wR.ys = whl 200 := by unfold wR; rfl
      have w4 : wR.hs = [198] := by unfold wR; rfl
      have x1 : RdX Hb (.ref a1) wR.xs wR.gs := by
        rw [w1, w2]
        exact ⟨(d1.same sb).da, c1⟩
      have x2 : RdX Hb (.ref a2) wR.ys wR.hs := by
        rw [w3, w4]
        exact ⟨d2.da, c2⟩
      obtain ⟨F, Rg⟩ := x1.2.two x2.2
      obtain ⟨F2, Rg2⟩ := x2.2.two x1.2
      obtain ⟨_, f2, _⟩ := par_facts (R := wR) F wheel_is
      refine ⟨_, rfl, _, rfl, _, _, wR, rfl, x1.q _, x2.q _, F, Rg, fun Hc r1 sc pr1 _ => ?_⟩
      have er : some (aS 397 ++ ";") = r1 := wheel_is.uniq pr1
      subst er
      have ol : (Txt.mul "a" 397).length + (";" : Str).length ≤ sizeLine := by
        rw [sizeLine_eq]
        decide +kernel
      refine ⟨"a", 397, rfl, rfl, a397ok, _, _, rfl, rfl, ol, ?_⟩
      rw [a397]
      refine ⟨rfl, _, rfl, iteT' (decide_eq_true rfl) ?_⟩
      refine ⟨_, rfl, _, rfl, _, _, wR.swap, rfl, (x2.same sc).q _, (x1.same sc).q _, F2, Rg2, fun Hd r2 sd pr2 _ => ?_⟩
      have er := f2 _ pr2
      subst er
      refine ⟨"a", 397, rfl, rfl, a397ok, _, _, rfl, rfl, ol, ?_⟩
      rw [a397]
      refine ⟨rfl, ?_⟩
      have eT : decide (rT (some (aS 397 ++ ";")) = V.str (aS 397 ++ ";")) = true := decide_eq_true rfl
      rw [eT]
      exact q _
end
end K10

set_option Elab.async false
set_option linter.all false
set_option maxRecDepth 100000
set_option maxHeartbeats 8000000
/-! What the top has written. -/
namespace K10
open PySem L2 L2.EV PySem.Spec PyProof.Rows
theorem oxc {K : PySem.W.Frag} {C N : Addr} {nm q : Str} {bs : List Value} {sn : List Str} {sub : List Value} {ab : Bool} {col : Option Bool} {dd : Option Addr} {k0 k1 k2 k3 k5 : Option Value} {B newId initId : String} {bm : List Value}
    (cl : K.lookup C = some (excClassObj nm q C N bs bm true sn sub ab col dd k0 k1 k2 k3 k5 newId)) (F : ExcBaseFacts B newId initId bm) (pas : ∀ self, refuseLoop self "__setattr__" bm = pure ()) (obj : bm.contains (.type "object") = true)
    (sa : PySem.W.findIn K (.ref C) "__setattr__" = some (some (.builtin "object.__setattr__"))) (ga : PySem.W.findIn K (.ref C) "__getattribute__" = some (some (.builtin "BaseException.__getattribute__")))
    (gg : PySem.W.findIn K (.ref C) "__getattr__" = some none) (exC : PySem.W.subIn K (.ref C) (.type "BaseException") = some true) (kC : PySem.W.keepIn K (.ref C) = true) (hd : PySem.W.hasDictIn K C = true)
    (ca : PySem.W.findIn K (.ref C) "__class__" = some (some (.builtin "object.__class__"))) (cn : PySem.W.specialIn K (.builtin "object.__class__") "__get__" = some (some (.builtin "getset_descriptor.__get__")))
    (ct : PySem.W.takesIn K (.builtin "object.__class__") = some true) (om : PySem.W.mroIn K C (.type "object") = some true) : OxC K C B newId initId bm :=
  ⟨F, ⟨nm, q, N, bs, sn, sub, ab, col, dd, k0, k1, k2, k3, k5, cl⟩, pas, obj, sa, ga, gg, exC, kC, hd, ca, cn, ct, om⟩
theorem tup_two {K : PySem.W.Frag} {n t1 t2 : Addr} {od : Option Addr} {ky : Nat} {osl : Array (Option Value)} (l : K.lookup n = some ⟨.type "tuple", od, .seq #[.ref t1, .ref t2] ky, osl⟩) (H : Hp) : SqT K H n [.ref t1, .ref t2] :=
  .inr ⟨_, _, _, l, rfl, rfl, by show 2 ≤ sizeLine; decide, .cons rfl (.cons rfl .nil)⟩
theorem tup_no {K : PySem.W.Frag} {n : Addr} {od : Option Addr} {ky : Nat} {osl : Array (Option Value)} (l : K.lookup n = some ⟨.type "tuple", od, .seq #[] ky, osl⟩) (H : Hp) : SqT K H n [] :=
  .inr ⟨_, _, _, l, rfl, rfl, Nat.zero_le _, .nil⟩
theorem all_mk {P : Program} {w : World} {K : PySem.W.Frag} {h : Heap} {mg : Str → Option Value} {fa C D Nt N1 N2 f_ini f_ino f_iN f_iP f_iS f_iL f_iW f_iJ f_iF f_mB f_mL f_mH f_mA f_mT f_mS f_mM f_mR f_eS f_eU f_eR f_eO f_eE f_eX f_eT f_eF f_eP f_ms f_lB f_lN f_lP f_lF f_lT f_lD f_lG f_lS f_lQ f_lW f_lR f_la : Addr} {od_n od_1 od_2 : Option Addr} {ky_n ky_1 ky_2 : Nat} {sl_n sl_1 sl_2 : Array (Option Value)}
    {od_iN an_iN : Option Addr} {sl_iN : Array (Option Value)} {oc_iN kV_iN dc_iN pm_iN cd_iN ct_iN : Value}
    {od_iP an_iP : Option Addr} {sl_iP : Array (Option Value)} {oc_iP kV_iP dc_iP pm_iP cd_iP ct_iP : Value}
    {od_iS an_iS : Option Addr} {sl_iS : Array (Option Value)} {oc_iS kV_iS dc_iS pm_iS cd_iS ct_iS : Value}
    {od_iL an_iL : Option Addr} {sl_iL : Array (Option Value)} {oc_iL kV_iL dc_iL pm_iL cd_iL ct_iL : Value}
    {od_iW an_iW : Option Addr} {sl_iW : Array (Option Value)} {oc_iW kV_iW dc_iW pm_iW cd_iW ct_iW : Value}
    {od_iJ an_iJ : Option Addr} {sl_iJ : Array (Option Value)} {oc_iJ kV_iJ dc_iJ pm_iJ cd_iJ ct_iJ : Value}
    {od_iF an_iF : Option Addr} {sl_iF : Array (Option Value)} {oc_iF kV_iF dc_iF pm_iF cd_iF ct_iF : Value}
    {od_mB an_mB : Option Addr} {sl_mB : Array (Option Value)} {oc_mB kV_mB dc_mB pm_mB cd_mB ct_mB : Value}
    {od_mL an_mL : Option Addr} {sl_mL : Array (Option Value)} {oc_mL kV_mL dc_mL pm_mL cd_mL ct_mL : Value}
    {od_mH an_mH : Option Addr} {sl_mH : Array (Option Value)} {oc_mH kV_mH dc_mH pm_mH cd_mH ct_mH : Value}
    {od_mA an_mA : Option Addr} {sl_mA : Array (Option Value)} {oc_mA kV_mA dc_mA pm_mA cd_mA ct_mA : Value}
    {od_mT an_mT : Option Addr} {sl_mT : Array (Option Value)} {oc_mT kV_mT dc_mT pm_mT cd_mT ct_mT : Value}
    {od_mS an_mS : Option Addr} {sl_mS : Array (Option Value)} {oc_mS kV_mS dc_mS pm_mS cd_mS ct_mS : Value}
    {od_mM an_mM : Option Addr} {sl_mM : Array (Option Value)} {oc_mM kV_mM dc_mM pm_mM cd_mM ct_mM : Value}
    {od_mR an_mR : Option Addr} {sl_mR : Array (Option Value)} {oc_mR kV_mR dc_mR pm_mR cd_mR ct_mR : Value}
    {od_eS an_eS : Option Addr} {sl_eS : Array (Option Value)} {oc_eS kV_eS dc_eS pm_eS cd_eS ct_eS : Value}
    {od_eU an_eU : Option Addr} {sl_eU : Array (Option Value)} {oc_eU kV_eU dc_eU pm_eU cd_eU ct_eU : Value}
    {od_eR an_eR : Option Addr} {sl_eR : Array (Option Value)} {oc_eR kV_eR dc_eR pm_eR cd_eR ct_eR : Value}
    {od_eO an_eO : Option Addr} {sl_eO : Array (Option Value)} {oc_eO kV_eO dc_eO pm_eO cd_eO ct_eO : Value}
    {od_eE an_eE : Option Addr} {sl_eE : Array (Option Value)} {oc_eE kV_eE dc_eE pm_eE cd_eE ct_eE : Value}
    {od_eX an_eX : Option Addr} {sl_eX : Array (Option Value)} {oc_eX kV_eX dc_eX pm_eX cd_eX ct_eX : Value}
    {od_eT an_eT : Option Addr} {sl_eT : Array (Option Value)} {oc_eT kV_eT dc_eT pm_eT cd_eT ct_eT : Value}
    {od_eF an_eF : Option Addr} {sl_eF : Array (Option Value)} {oc_eF kV_eF dc_eF pm_eF cd_eF ct_eF : Value}
    {od_eP an_eP : Option Addr} {sl_eP : Array (Option Value)} {oc_eP kV_eP dc_eP pm_eP cd_eP ct_eP : Value}
    {od_ms an_ms : Option Addr} {sl_ms : Array (Option Value)} {oc_ms kV_ms dc_ms pm_ms cd_ms ct_ms : Value}
    {od_lB an_lB : Option Addr} {sl_lB : Array (Option Value)} {oc_lB kV_lB dc_lB pm_lB cd_lB ct_lB : Value}
    {od_lN an_lN : Option Addr} {sl_lN : Array (Option Value)} {oc_lN kV_lN dc_lN pm_lN cd_lN ct_lN : Value}
    {od_lP an_lP : Option Addr} {sl_lP : Array (Option Value)} {oc_lP kV_lP dc_lP pm_lP cd_lP ct_lP : Value}
    {od_lF an_lF : Option Addr} {sl_lF : Array (Option Value)} {oc_lF kV_lF dc_lF pm_lF cd_lF ct_lF : Value}
    {od_lT an_lT : Option Addr} {sl_lT : Array (Option Value)} {oc_lT kV_lT dc_lT pm_lT cd_lT ct_lT : Value}
    {od_lD an_lD : Option Addr} {sl_lD : Array (Option Value)} {oc_lD kV_lD dc_lD pm_lD cd_lD ct_lD : Value}
    {od_lG an_lG : Option Addr} {sl_lG : Array (Option Value)} {oc_lG kV_lG dc_lG pm_lG cd_lG ct_lG : Value}
    {od_lS an_lS : Option Addr} {sl_lS : Array (Option Value)} {oc_lS kV_lS dc_lS pm_lS cd_lS ct_lS : Value}
    {od_lQ an_lQ : Option Addr} {sl_lQ : Array (Option Value)} {oc_lQ kV_lQ dc_lQ pm_lQ cd_lQ ct_lQ : Value}
    {od_lW an_lW : Option Addr} {sl_lW : Array (Option Value)} {oc_lW kV_lW dc_lW pm_lW cd_lW ct_lW : Value}
    {od_lR an_lR : Option Addr} {sl_lR : Array (Option Value)} {oc_lR kV_lR dc_lR pm_lR cd_lR ct_lR : Value}
    {od_la an_la : Option Addr} {sl_la : Array (Option Value)} {oc_la kV_la dc_la pm_la cd_la ct_la : Value}
    {od_ini an_ini : Option Addr} {sl_ini : Array (Option Value)} {oc_ini kV_ini dc_ini pm_ini cd_ini ct_ini : Value}
    {od_ino an_ino : Option Addr} {sl_ino : Array (Option Value)} {oc_ino kV_ino dc_ino pm_ino cd_ino ct_ino : Value}
    {t_vS : Tok}
    {t_vG : Tok}
    {t_vT : Tok}
    {t_vD : Tok}
    {t_vK : Tok}
    {t_vQ : Tok}
    {t_vU : Tok}
    (X : K.In h) (G : h.Ns mainGlobals mg) (hfa : mg "law" = some (.ref fa))
    (a_iN : PySem.W.nsIn K mainGlobals "is_number" = some (some (.ref f_iN)))
    (l_iN : K.lookup f_iN = some ⟨oc_iN, od_iN, .func (PySem.W.fnOf "is_number" "is_number" (defArgs sNum) (defBody sNum) (defScope sNum) .none kV_iN dc_iN pm_iN an_iN cd_iN ct_iN), sl_iN⟩) (c_iN : PySem.W.codeIn K cd_iN "is_number" = true) (k_iN : PySem.W.keepIn K (.ref f_iN) = true)
    (a_iP : PySem.W.nsIn K mainGlobals "is_piece" = some (some (.ref f_iP)))
    (l_iP : K.lookup f_iP = some ⟨oc_iP, od_iP, .func (PySem.W.fnOf "is_piece" "is_piece" (defArgs sPc) (defBody sPc) (defScope sPc) .none kV_iP dc_iP pm_iP an_iP cd_iP ct_iP), sl_iP⟩) (c_iP : PySem.W.codeIn K cd_iP "is_piece" = true) (k_iP : PySem.W.keepIn K (.ref f_iP) = true)
    (a_iS : PySem.W.nsIn K mainGlobals "is_step" = some (some (.ref f_iS)))
    (l_iS : K.lookup f_iS = some ⟨oc_iS, od_iS, .func (PySem.W.fnOf "is_step" "is_step" (defArgs sStep) (defBody sStep) (defScope sStep) .none kV_iS dc_iS pm_iS an_iS cd_iS ct_iS), sl_iS⟩) (c_iS : PySem.W.codeIn K cd_iS "is_step" = true) (k_iS : PySem.W.keepIn K (.ref f_iS) = true)
    (a_iL : PySem.W.nsIn K mainGlobals "listed_standings" = some (some (.ref f_iL)))
    (l_iL : K.lookup f_iL = some ⟨oc_iL, od_iL, .func (PySem.W.fnOf "listed_standings" "listed_standings" (defArgs sListed) (defBody sListed) (defScope sListed) .none kV_iL dc_iL pm_iL an_iL cd_iL ct_iL), sl_iL⟩) (c_iL : PySem.W.codeIn K cd_iL "listed_standings" = true) (k_iL : PySem.W.keepIn K (.ref f_iL) = true)
    (a_iW : PySem.W.nsIn K mainGlobals "ways_from" = some (some (.ref f_iW)))
    (l_iW : K.lookup f_iW = some ⟨oc_iW, od_iW, .func (PySem.W.fnOf "ways_from" "ways_from" (defArgs sWays) (defBody sWays) (defScope sWays) .none kV_iW dc_iW pm_iW an_iW cd_iW ct_iW), sl_iW⟩) (c_iW : PySem.W.codeIn K cd_iW "ways_from" = true) (k_iW : PySem.W.keepIn K (.ref f_iW) = true)
    (a_iJ : PySem.W.nsIn K mainGlobals "is_joined" = some (some (.ref f_iJ)))
    (l_iJ : K.lookup f_iJ = some ⟨oc_iJ, od_iJ, .func (PySem.W.fnOf "is_joined" "is_joined" (defArgs sJoined) (defBody sJoined) (defScope sJoined) .none kV_iJ dc_iJ pm_iJ an_iJ cd_iJ ct_iJ), sl_iJ⟩) (c_iJ : PySem.W.codeIn K cd_iJ "is_joined" = true) (k_iJ : PySem.W.keepIn K (.ref f_iJ) = true)
    (a_iF : PySem.W.nsIn K mainGlobals "need_framing" = some (some (.ref f_iF)))
    (l_iF : K.lookup f_iF = some ⟨oc_iF, od_iF, .func (PySem.W.fnOf "need_framing" "need_framing" (defArgs sNeedF) (defBody sNeedF) (defScope sNeedF) .none kV_iF dc_iF pm_iF an_iF cd_iF ct_iF), sl_iF⟩) (c_iF : PySem.W.codeIn K cd_iF "need_framing" = true) (k_iF : PySem.W.keepIn K (.ref f_iF) = true)
    (a_mB : PySem.W.nsIn K mainGlobals "place_bits" = some (some (.ref f_mB)))
    (l_mB : K.lookup f_mB = some ⟨oc_mB, od_mB, .func (PySem.W.fnOf "place_bits" "place_bits" (defArgs sBits) (defBody sBits) (defScope sBits) .none kV_mB dc_mB pm_mB an_mB cd_mB ct_mB), sl_mB⟩) (c_mB : PySem.W.codeIn K cd_mB "place_bits" = true) (k_mB : PySem.W.keepIn K (.ref f_mB) = true)
    (a_mL : PySem.W.nsIn K mainGlobals "sign_leads" = some (some (.ref f_mL)))
    (l_mL : K.lookup f_mL = some ⟨oc_mL, od_mL, .func (PySem.W.fnOf "sign_leads" "sign_leads" (defArgs sLeads) (defBody sLeads) (defScope sLeads) .none kV_mL dc_mL pm_mL an_mL cd_mL ct_mL), sl_mL⟩) (c_mL : PySem.W.codeIn K cd_mL "sign_leads" = true) (k_mL : PySem.W.keepIn K (.ref f_mL) = true)
    (a_mH : PySem.W.nsIn K mainGlobals "places_behind" = some (some (.ref f_mH)))
    (l_mH : K.lookup f_mH = some ⟨oc_mH, od_mH, .func (PySem.W.fnOf "places_behind" "places_behind" (defArgs sBeh) (defBody sBeh) (defScope sBeh) .none kV_mH dc_mH pm_mH an_mH cd_mH ct_mH), sl_mH⟩) (c_mH : PySem.W.codeIn K cd_mH "places_behind" = true) (k_mH : PySem.W.keepIn K (.ref f_mH) = true)
    (a_mA : PySem.W.nsIn K mainGlobals "places_ahead" = some (some (.ref f_mA)))
    (l_mA : K.lookup f_mA = some ⟨oc_mA, od_mA, .func (PySem.W.fnOf "places_ahead" "places_ahead" (defArgs sAhd) (defBody sAhd) (defScope sAhd) .none kV_mA dc_mA pm_mA an_mA cd_mA ct_mA), sl_mA⟩) (c_mA : PySem.W.codeIn K cd_mA "places_ahead" = true) (k_mA : PySem.W.keepIn K (.ref f_mA) = true)
    (a_mT : PySem.W.nsIn K mainGlobals "trials_of" = some (some (.ref f_mT)))
    (l_mT : K.lookup f_mT = some ⟨oc_mT, od_mT, .func (PySem.W.fnOf "trials_of" "trials_of" (defArgs sTrials) (defBody sTrials) (defScope sTrials) .none kV_mT dc_mT pm_mT an_mT cd_mT ct_mT), sl_mT⟩) (c_mT : PySem.W.codeIn K cd_mT "trials_of" = true) (k_mT : PySem.W.keepIn K (.ref f_mT) = true)
    (a_mS : PySem.W.nsIn K mainGlobals "spread" = some (some (.ref f_mS)))
    (l_mS : K.lookup f_mS = some ⟨oc_mS, od_mS, .func (PySem.W.fnOf "spread" "spread" (defArgs sSpread) (defBody sSpread) (defScope sSpread) .none kV_mS dc_mS pm_mS an_mS cd_mS ct_mS), sl_mS⟩) (c_mS : PySem.W.codeIn K cd_mS "spread" = true) (k_mS : PySem.W.keepIn K (.ref f_mS) = true)
    (a_mM : PySem.W.nsIn K mainGlobals "merged" = some (some (.ref f_mM)))
    (l_mM : K.lookup f_mM = some ⟨oc_mM, od_mM, .func (PySem.W.fnOf "merged" "merged" (defArgs sMerged) (defBody sMerged) (defScope sMerged) .none kV_mM dc_mM pm_mM an_mM cd_mM ct_mM), sl_mM⟩) (c_mM : PySem.W.codeIn K cd_mM "merged" = true) (k_mM : PySem.W.keepIn K (.ref f_mM) = true)
    (a_mR : PySem.W.nsIn K mainGlobals "told_reader" = some (some (.ref f_mR)))
    (l_mR : K.lookup f_mR = some ⟨oc_mR, od_mR, .func (PySem.W.fnOf "told_reader" "told_reader" (defArgs sTold) (defBody sTold) (defScope sTold) .none kV_mR dc_mR pm_mR an_mR cd_mR ct_mR), sl_mR⟩) (c_mR : PySem.W.codeIn K cd_mR "told_reader" = true) (k_mR : PySem.W.keepIn K (.ref f_mR) = true)
    (a_eS : PySem.W.nsIn K mainGlobals "strict" = some (some (.ref f_eS)))
    (l_eS : K.lookup f_eS = some ⟨oc_eS, od_eS, .func (PySem.W.fnOf "strict" "strict" (defArgs sStrict) (defBody sStrict) (defScope sStrict) .none kV_eS dc_eS pm_eS an_eS cd_eS ct_eS), sl_eS⟩) (c_eS : PySem.W.codeIn K cd_eS "strict" = true) (k_eS : PySem.W.keepIn K (.ref f_eS) = true)
    (a_eU : PySem.W.nsIn K mainGlobals "is_rule" = some (some (.ref f_eU)))
    (l_eU : K.lookup f_eU = some ⟨oc_eU, od_eU, .func (PySem.W.fnOf "is_rule" "is_rule" (defArgs sRule) (defBody sRule) (defScope sRule) .none kV_eU dc_eU pm_eU an_eU cd_eU ct_eU), sl_eU⟩) (c_eU : PySem.W.codeIn K cd_eU "is_rule" = true) (k_eU : PySem.W.keepIn K (.ref f_eU) = true)
    (a_eR : PySem.W.nsIn K mainGlobals "need_reader" = some (some (.ref f_eR)))
    (l_eR : K.lookup f_eR = some ⟨oc_eR, od_eR, .func (PySem.W.fnOf "need_reader" "need_reader" (defArgs sNeedR) (defBody sNeedR) (defScope sNeedR) .none kV_eR dc_eR pm_eR an_eR cd_eR ct_eR), sl_eR⟩) (c_eR : PySem.W.codeIn K cd_eR "need_reader" = true) (k_eR : PySem.W.keepIn K (.ref f_eR) = true)
    (a_eO : PySem.W.nsIn K mainGlobals "rows_of" = some (some (.ref f_eO)))
    (l_eO : K.lookup f_eO = some ⟨oc_eO, od_eO, .func (PySem.W.fnOf "rows_of" "rows_of" (defArgs sRows) (defBody sRows) (defScope sRows) .none kV_eO dc_eO pm_eO an_eO cd_eO ct_eO), sl_eO⟩) (c_eO : PySem.W.codeIn K cd_eO "rows_of" = true) (k_eO : PySem.W.keepIn K (.ref f_eO) = true)
    (a_eE : PySem.W.nsIn K mainGlobals "led" = some (some (.ref f_eE)))
    (l_eE : K.lookup f_eE = some ⟨oc_eE, od_eE, .func (PySem.W.fnOf "led" "led" (defArgs sLed) (defBody sLed) (defScope sLed) .none kV_eE dc_eE pm_eE an_eE cd_eE ct_eE), sl_eE⟩) (c_eE : PySem.W.codeIn K cd_eE "led" = true) (k_eE : PySem.W.keepIn K (.ref f_eE) = true)
    (a_eX : PySem.W.nsIn K mainGlobals "need_line_text" = some (some (.ref f_eX)))
    (l_eX : K.lookup f_eX = some ⟨oc_eX, od_eX, .func (PySem.W.fnOf "need_line_text" "need_line_text" (defArgs sNLT) (defBody sNLT) (defScope sNLT) .none kV_eX dc_eX pm_eX an_eX cd_eX ct_eX), sl_eX⟩) (c_eX : PySem.W.codeIn K cd_eX "need_line_text" = true) (k_eX : PySem.W.keepIn K (.ref f_eX) = true)
    (a_eT : PySem.W.nsIn K mainGlobals "takes" = some (some (.ref f_eT)))
    (l_eT : K.lookup f_eT = some ⟨oc_eT, od_eT, .func (PySem.W.fnOf "takes" "takes" (defArgs sTakes) (defBody sTakes) (defScope sTakes) .none kV_eT dc_eT pm_eT an_eT cd_eT ct_eT), sl_eT⟩) (c_eT : PySem.W.codeIn K cd_eT "takes" = true) (k_eT : PySem.W.keepIn K (.ref f_eT) = true)
    (a_eF : PySem.W.nsIn K mainGlobals "first_taken" = some (some (.ref f_eF)))
    (l_eF : K.lookup f_eF = some ⟨oc_eF, od_eF, .func (PySem.W.fnOf "first_taken" "first_taken" (defArgs sFirstTaken) (defBody sFirstTaken) (defScope sFirstTaken) .none kV_eF dc_eF pm_eF an_eF cd_eF ct_eF), sl_eF⟩) (c_eF : PySem.W.codeIn K cd_eF "first_taken" = true) (k_eF : PySem.W.keepIn K (.ref f_eF) = true)
    (a_eP : PySem.W.nsIn K mainGlobals "parting" = some (some (.ref f_eP)))
    (l_eP : K.lookup f_eP = some ⟨oc_eP, od_eP, .func (PySem.W.fnOf "parting" "parting" (defArgs sParting) (defBody sParting) (defScope sParting) .none kV_eP dc_eP pm_eP an_eP cd_eP ct_eP), sl_eP⟩) (c_eP : PySem.W.codeIn K cd_eP "parting" = true) (k_eP : PySem.W.keepIn K (.ref f_eP) = true)
    (a_ms : PySem.W.nsIn K mainGlobals "message" = some (some (.ref f_ms)))
    (l_ms : K.lookup f_ms = some ⟨oc_ms, od_ms, .func (PySem.W.fnOf "message" "message" (defArgs sMsg) (defBody sMsg) (defScope sMsg) .none kV_ms dc_ms pm_ms an_ms cd_ms ct_ms), sl_ms⟩) (c_ms : PySem.W.codeIn K cd_ms "message" = true) (k_ms : PySem.W.keepIn K (.ref f_ms) = true)
    (a_lB : PySem.W.nsIn K mainGlobals "_law_begun" = some (some (.ref f_lB)))
    (l_lB : K.lookup f_lB = some ⟨oc_lB, od_lB, .func (PySem.W.fnOf "_law_begun" "_law_begun" (defArgs sBegun) (defBody sBegun) (defScope sBegun) .none kV_lB dc_lB pm_lB an_lB cd_lB ct_lB), sl_lB⟩) (c_lB : PySem.W.codeIn K cd_lB "_law_begun" = true) (k_lB : PySem.W.keepIn K (.ref f_lB) = true)
    (a_lN : PySem.W.nsIn K mainGlobals "_law_next" = some (some (.ref f_lN)))
    (l_lN : K.lookup f_lN = some ⟨oc_lN, od_lN, .func (PySem.W.fnOf "_law_next" "_law_next" (defArgs sNext) (defBody sNext) (defScope sNext) .none kV_lN dc_lN pm_lN an_lN cd_lN ct_lN), sl_lN⟩) (c_lN : PySem.W.codeIn K cd_lN "_law_next" = true) (k_lN : PySem.W.keepIn K (.ref f_lN) = true)
    (a_lP : PySem.W.nsIn K mainGlobals "_law_piece" = some (some (.ref f_lP)))
    (l_lP : K.lookup f_lP = some ⟨oc_lP, od_lP, .func (PySem.W.fnOf "_law_piece" "_law_piece" (defArgs sPiece) (defBody sPiece) (defScope sPiece) .none kV_lP dc_lP pm_lP an_lP cd_lP ct_lP), sl_lP⟩) (c_lP : PySem.W.codeIn K cd_lP "_law_piece" = true) (k_lP : PySem.W.keepIn K (.ref f_lP) = true)
    (a_lF : PySem.W.nsIn K mainGlobals "_law_framing" = some (some (.ref f_lF)))
    (l_lF : K.lookup f_lF = some ⟨oc_lF, od_lF, .func (PySem.W.fnOf "_law_framing" "_law_framing" (defArgs sFraming) (defBody sFraming) (defScope sFraming) .none kV_lF dc_lF pm_lF an_lF cd_lF ct_lF), sl_lF⟩) (c_lF : PySem.W.codeIn K cd_lF "_law_framing" = true) (k_lF : PySem.W.keepIn K (.ref f_lF) = true)
    (a_lT : PySem.W.nsIn K mainGlobals "_law_table" = some (some (.ref f_lT)))
    (l_lT : K.lookup f_lT = some ⟨oc_lT, od_lT, .func (PySem.W.fnOf "_law_table" "_law_table" (defArgs sTable) (defBody sTable) (defScope sTable) .none kV_lT dc_lT pm_lT an_lT cd_lT ct_lT), sl_lT⟩) (c_lT : PySem.W.codeIn K cd_lT "_law_table" = true) (k_lT : PySem.W.keepIn K (.ref f_lT) = true)
    (a_lD : PySem.W.nsIn K mainGlobals "_law_led" = some (some (.ref f_lD)))
    (l_lD : K.lookup f_lD = some ⟨oc_lD, od_lD, .func (PySem.W.fnOf "_law_led" "_law_led" (defArgs sLLed) (defBody sLLed) (defScope sLLed) .none kV_lD dc_lD pm_lD an_lD cd_lD ct_lD), sl_lD⟩) (c_lD : PySem.W.codeIn K cd_lD "_law_led" = true) (k_lD : PySem.W.keepIn K (.ref f_lD) = true)
    (a_lG : PySem.W.nsIn K mainGlobals "_law_signs" = some (some (.ref f_lG)))
    (l_lG : K.lookup f_lG = some ⟨oc_lG, od_lG, .func (PySem.W.fnOf "_law_signs" "_law_signs" (defArgs sSigns) (defBody sSigns) (defScope sSigns) .none kV_lG dc_lG pm_lG an_lG cd_lG ct_lG), sl_lG⟩) (c_lG : PySem.W.codeIn K cd_lG "_law_signs" = true) (k_lG : PySem.W.keepIn K (.ref f_lG) = true)
    (a_lS : PySem.W.nsIn K mainGlobals "_law_some_reader" = some (some (.ref f_lS)))
    (l_lS : K.lookup f_lS = some ⟨oc_lS, od_lS, .func (PySem.W.fnOf "_law_some_reader" "_law_some_reader" (defArgs sSome) (defBody sSome) (defScope sSome) .none kV_lS dc_lS pm_lS an_lS cd_lS ct_lS), sl_lS⟩) (c_lS : PySem.W.codeIn K cd_lS "_law_some_reader" = true) (k_lS : PySem.W.keepIn K (.ref f_lS) = true)
    (a_lQ : PySem.W.nsIn K mainGlobals "_law_first_parting" = some (some (.ref f_lQ)))
    (l_lQ : K.lookup f_lQ = some ⟨oc_lQ, od_lQ, .func (PySem.W.fnOf "_law_first_parting" "_law_first_parting" (defArgs sLFP) (defBody sLFP) (defScope sLFP) .none kV_lQ dc_lQ pm_lQ an_lQ cd_lQ ct_lQ), sl_lQ⟩) (c_lQ : PySem.W.codeIn K cd_lQ "_law_first_parting" = true) (k_lQ : PySem.W.keepIn K (.ref f_lQ) = true)
    (a_lW : PySem.W.nsIn K mainGlobals "_law_wheel" = some (some (.ref f_lW)))
    (l_lW : K.lookup f_lW = some ⟨oc_lW, od_lW, .func (PySem.W.fnOf "_law_wheel" "_law_wheel" (defArgs sWheel) (defBody sWheel) (defScope sWheel) .none kV_lW dc_lW pm_lW an_lW cd_lW ct_lW), sl_lW⟩) (c_lW : PySem.W.codeIn K cd_lW "_law_wheel" = true) (k_lW : PySem.W.keepIn K (.ref f_lW) = true)
    (a_lR : PySem.W.nsIn K mainGlobals "_law_near" = some (some (.ref f_lR)))
    (l_lR : K.lookup f_lR = some ⟨oc_lR, od_lR, .func (PySem.W.fnOf "_law_near" "_law_near" (defArgs sNear) (defBody sNear) (defScope sNear) .none kV_lR dc_lR pm_lR an_lR cd_lR ct_lR), sl_lR⟩) (c_lR : PySem.W.codeIn K cd_lR "_law_near" = true) (k_lR : PySem.W.keepIn K (.ref f_lR) = true)
    (a_la : PySem.W.nsIn K mainGlobals "law" = some (some (.ref f_la)))
    (l_la : K.lookup f_la = some ⟨oc_la, od_la, .func (PySem.W.fnOf "law" "law" (defArgs sLaw) (defBody sLaw) (defScope sLaw) .none kV_la dc_la pm_la an_la cd_la ct_la), sl_la⟩) (c_la : PySem.W.codeIn K cd_la "law" = true) (k_la : PySem.W.keepIn K (.ref f_la) = true)
    (a_n : PySem.W.nsIn K mainGlobals "NOTHING_TAKEN" = some (some (.ref Nt)))
    (l_n : K.lookup Nt = some ⟨.type "tuple", od_n, .seq #[.ref N1, .ref N2] ky_n, sl_n⟩)
    (l_1 : K.lookup N1 = some ⟨.type "tuple", od_1, .seq #[] ky_1, sl_1⟩)
    (l_2 : K.lookup N2 = some ⟨.type "tuple", od_2, .seq #[] ky_2, sl_2⟩)
    (aC : PySem.W.nsIn K mainGlobals "BadReader" = some (some (.ref C)))
    (OXC : OxC K C "ValueError" "ValueError.__new__" "ValueError.__init__" [.type "ValueError", .type "Exception", .type "BaseException", .type "object"])
    (iCC : PySem.W.findIn K (.ref C) "__init__" = some (some (.ref f_ini)))
    (tIC : PySem.W.typeIn K (.ref f_ini) = some (.type "function"))
    (n0 : PySem.W.findIn K (.ref C) "part" = some none)
    (n1 : PySem.W.findIn K (.ref C) "number" = some none)
    (l_ini : K.lookup f_ini = some ⟨oc_ini, od_ini, .func (PySem.W.fnOf "__init__" "BadReader.__init__" (defArgs sBadReader) (defBody sBadReader) (defScope sBadReader) .none kV_ini dc_ini pm_ini an_ini cd_ini ct_ini), sl_ini⟩) (c_ini : PySem.W.codeIn K cd_ini "BadReader.__init__" = true) (k_ini : PySem.W.keepIn K (.ref f_ini) = true)
    (suC : PySem.W.subIn K (.ref C) (.type "BaseException") = some true)
    (tyC : PySem.W.typeIn K (.ref C) = some (.type "type"))
    (owC : PySem.W.subIn K (.ref C) (.ref C) = some true)
    (aD : PySem.W.nsIn K mainGlobals "OutOfPlace" = some (some (.ref D)))
    (OXD : OxC K D "ValueError" "ValueError.__new__" "ValueError.__init__" [.type "ValueError", .type "Exception", .type "BaseException", .type "object"])
    (iCD : PySem.W.findIn K (.ref D) "__init__" = some (some (.ref f_ino)))
    (tID : PySem.W.typeIn K (.ref f_ino) = some (.type "function"))
    (l_ino : K.lookup f_ino = some ⟨oc_ino, od_ino, .func (PySem.W.fnOf "__init__" "OutOfPlace.__init__" (defArgs sOutOfPlace) (defBody sOutOfPlace) (defScope sOutOfPlace) .none kV_ino dc_ino pm_ino an_ino cd_ino ct_ino), sl_ino⟩) (c_ino : PySem.W.codeIn K cd_ino "OutOfPlace.__init__" = true) (k_ino : PySem.W.keepIn K (.ref f_ino) = true)
    (suD : PySem.W.subIn K (.ref D) (.type "BaseException") = some true)
    (tyD : PySem.W.typeIn K (.ref D) = some (.type "type"))
    (owD : PySem.W.subIn K (.ref D) (.ref D) = some true)
    (g_vS : PySem.W.nsIn K mainGlobals "SIGNS" = some (some (.str "abcdefghijklmnopqrstuvwxyz0123456789@" t_vS)))
    (g_vG : PySem.W.nsIn K mainGlobals "MOST_SIGNS" = some (some (.int 8 t_vG)))
    (g_vT : PySem.W.nsIn K mainGlobals "MOST_STEPS" = some (some (.int 16 t_vT)))
    (g_vD : PySem.W.nsIn K mainGlobals "MANY_STANDINGS" = some (some (.int 6 t_vD)))
    (g_vK : PySem.W.nsIn K mainGlobals "MARKS" = some (some (.str "ABCDEFGH" t_vK)))
    (g_vQ : PySem.W.nsIn K mainGlobals "MOST_STATES" = some (some (.int 200 t_vQ)))
    (g_vU : PySem.W.nsIn K mainGlobals "MOST_TRIALS" = some (some (.int 256 t_vU)))
    (z_isinstance : PySem.W.nsIn K mainGlobals "isinstance" = some none)
    (z_int : PySem.W.nsIn K mainGlobals "int" = some none)
    (z_bool : PySem.W.nsIn K mainGlobals "bool" = some none)
    (z_str : PySem.W.nsIn K mainGlobals "str" = some none)
    (z_tuple : PySem.W.nsIn K mainGlobals "tuple" = some none)
    (z_len : PySem.W.nsIn K mainGlobals "len" = some none)
    (z_all : PySem.W.nsIn K mainGlobals "all" = some none)
    (z_sorted : PySem.W.nsIn K mainGlobals "sorted" = some none)
    (z_enumerate : PySem.W.nsIn K mainGlobals "enumerate" = some none)
    (z_list : PySem.W.nsIn K mainGlobals "list" = some none)
    (z_range : PySem.W.nsIn K mainGlobals "range" = some none)
    (z_min : PySem.W.nsIn K mainGlobals "min" = some none)
    (z_zip : PySem.W.nsIn K mainGlobals "zip" = some none)
    (z_repr : PySem.W.nsIn K mainGlobals "repr" = some none)
    (z_ValueError : PySem.W.nsIn K mainGlobals "ValueError" = some none)
    (z_sum : PySem.W.nsIn K mainGlobals "sum" = some none)
    (z_set : PySem.W.nsIn K mainGlobals "set" = some none)
    (z_dict : PySem.W.nsIn K mainGlobals "dict" = some none)
    (v_V : PySem.W.findCls K (.type "ValueError") (.type "type") "__init__" = some (.val (.builtin "ValueError.__init__"))) :
    ∃ fd : FuncData, (∀ (s : Shared) (u : Value), BindsTo s fd ⟨[u], []⟩ [("script", u)]) ∧ ∀ base : Heap, K.In base → base.Ns mainGlobals mg → FnG P w K mg base CX0 6 fa fd ["script"] (spLaw K) := by
  have e := hfa.symm.trans (PySem.W.mg_of X G a_la)
  cases e
  have F_iN := fun_mk (st := sNum) l_iN c_iN k_iN
  have b_iN := F_iN.binds (ps := ["thing", "many"]) fun _ _ _ _ _ _ us hl => match us, hl with | [_, _], _ => rfl
  have F_iP := fun_mk (st := sPc) l_iP c_iP k_iP
  have b_iP := F_iP.binds (ps := ["thing"]) fun _ _ _ _ _ _ us hl => match us, hl with | [_], _ => rfl
  have F_iS := fun_mk (st := sStep) l_iS c_iS k_iS
  have b_iS := F_iS.binds (ps := ["thing"]) fun _ _ _ _ _ _ us hl => match us, hl with | [_], _ => rfl
  have F_iL := fun_mk (st := sListed) l_iL c_iL k_iL
  have b_iL := F_iL.binds (ps := ["framing"]) fun _ _ _ _ _ _ us hl => match us, hl with | [_], _ => rfl
  have F_iW := fun_mk (st := sWays) l_iW c_iW k_iW
  have b_iW := F_iW.binds (ps := ["framing", "begin"]) fun _ _ _ _ _ _ us hl => match us, hl with | [_, _], _ => rfl
  have F_iJ := fun_mk (st := sJoined) l_iJ c_iJ k_iJ
  have b_iJ := F_iJ.binds (ps := ["framing"]) fun _ _ _ _ _ _ us hl => match us, hl with | [_], _ => rfl
  have F_iF := fun_mk (st := sNeedF) l_iF c_iF k_iF
  have b_iF := F_iF.binds (ps := ["thing"]) fun _ _ _ _ _ _ us hl => match us, hl with | [_], _ => rfl
  have F_mB := fun_mk (st := sBits) l_mB c_mB k_mB
  have b_mB := F_mB.binds (ps := ["framing"]) fun _ _ _ _ _ _ us hl => match us, hl with | [_], _ => rfl
  have F_mL := fun_mk (st := sLeads) l_mL c_mL k_mL
  have b_mL := F_mL.binds (ps := ["framing"]) fun _ _ _ _ _ _ us hl => match us, hl with | [_], _ => rfl
  have F_mH := fun_mk (st := sBeh) l_mH c_mH k_mH
  have b_mH := F_mH.binds (ps := ["pairs", "places"]) fun _ _ _ _ _ _ us hl => match us, hl with | [_, _], _ => rfl
  have F_mA := fun_mk (st := sAhd) l_mA c_mA k_mA
  have b_mA := F_mA.binds (ps := ["pairs", "places"]) fun _ _ _ _ _ _ us hl => match us, hl with | [_, _], _ => rfl
  have F_mT := fun_mk (st := sTrials) l_mT c_mT k_mT
  have b_mT := F_mT.binds (ps := ["leads"]) fun _ _ _ _ _ _ us hl => match us, hl with | [_], _ => rfl
  have F_mS := fun_mk (st := sSpread) l_mS c_mS k_mS
  have b_mS := F_mS.binds (ps := ["framing"]) fun _ _ _ _ _ _ us hl => match us, hl with | [_], _ => rfl
  have F_mM := fun_mk (st := sMerged) l_mM c_mM k_mM
  have b_mM := F_mM.binds (ps := ["rows", "good"]) fun _ _ _ _ _ _ us hl => match us, hl with | [_, _], _ => rfl
  have F_mR := fun_mk (st := sTold) l_mR c_mR k_mR
  have b_mR := F_mR.binds (ps := ["rows", "good"]) fun _ _ _ _ _ _ us hl => match us, hl with | [_, _], _ => rfl
  have F_eS := fun_mk (st := sStrict) l_eS c_eS k_eS
  have b_eS := F_eS.binds (ps := ["framing"]) fun _ _ _ _ _ _ us hl => match us, hl with | [_], _ => rfl
  have F_eU := fun_mk (st := sRule) l_eU c_eU k_eU
  have b_eU := F_eU.binds (ps := ["thing"]) fun _ _ _ _ _ _ us hl => match us, hl with | [_], _ => rfl
  have F_eR := fun_mk (st := sNeedR) l_eR c_eR k_eR
  have b_eR := F_eR.binds (ps := ["thing"]) fun _ _ _ _ _ _ us hl => match us, hl with | [_], _ => rfl
  have F_eO := fun_mk (st := sRows) l_eO c_eO k_eO
  have b_eO := F_eO.binds (ps := ["reader"]) fun _ _ _ _ _ _ us hl => match us, hl with | [_], _ => rfl
  have F_eE := fun_mk (st := sLed) l_eE c_eE k_eE
  have b_eE := F_eE.binds (ps := ["rows", "state", "signs"]) fun _ _ _ _ _ _ us hl => match us, hl with | [_, _, _], _ => rfl
  have F_eX := fun_mk (st := sNLT) l_eX c_eX k_eX
  have b_eX := F_eX.binds (ps := ["thing"]) fun _ _ _ _ _ _ us hl => match us, hl with | [_], _ => rfl
  have F_eT := fun_mk (st := sTakes) l_eT c_eT k_eT
  have b_eT := F_eT.binds (ps := ["reader", "text"]) fun _ _ _ _ _ _ us hl => match us, hl with | [_, _], _ => rfl
  have F_eF := fun_mk (st := sFirstTaken) l_eF c_eF k_eF
  have b_eF := F_eF.binds (ps := ["reader"]) fun _ _ _ _ _ _ us hl => match us, hl with | [_], _ => rfl
  have F_eP := fun_mk (st := sParting) l_eP c_eP k_eP
  have b_eP := F_eP.binds (ps := ["one", "other"]) fun _ _ _ _ _ _ us hl => match us, hl with | [_, _], _ => rfl
  have F_ms := fun_mk (st := sMsg) l_ms c_ms k_ms
  have b_ms := F_ms.binds (ps := ["text"]) fun _ _ _ _ _ _ us hl => match us, hl with | [_], _ => rfl
  have F_lB := fun_mk (st := sBegun) l_lB c_lB k_lB
  have b_lB := F_lB.binds (ps := ["script"]) fun _ _ _ _ _ _ us hl => match us, hl with | [_], _ => rfl
  have F_lN := fun_mk (st := sNext) l_lN c_lN k_lN
  have b_lN := F_lN.binds (ps := ["m", "many"]) fun _ _ _ _ _ _ us hl => match us, hl with | [_, _], _ => rfl
  have F_lP := fun_mk (st := sPiece) l_lP c_lP k_lP
  have b_lP := F_lP.binds (ps := ["m", "is_end"]) fun _ _ _ _ _ _ us hl => match us, hl with | [_, _], _ => rfl
  have F_lF := fun_mk (st := sFraming) l_lF c_lF k_lF
  have b_lF := F_lF.binds (ps := ["m", "most"]) fun _ _ _ _ _ _ us hl => match us, hl with | [_, _], _ => rfl
  have F_lT := fun_mk (st := sTable) l_lT c_lT k_lT
  have b_lT := F_lT.binds (ps := ["reader"]) fun _ _ _ _ _ _ us hl => match us, hl with | [_], _ => rfl
  have F_lD := fun_mk (st := sLLed) l_lD c_lD k_lD
  have b_lD := F_lD.binds (ps := ["table", "state", "signs"]) fun _ _ _ _ _ _ us hl => match us, hl with | [_, _, _], _ => rfl
  have F_lG := fun_mk (st := sSigns) l_lG c_lG k_lG
  have b_lG := F_lG.binds (ps := []) fun _ _ _ _ _ _ us hl => match us, hl with | [], _ => rfl
  have F_lS := fun_mk (st := sSome) l_lS c_lS k_lS
  have b_lS := F_lS.binds (ps := ["m", "many"]) fun _ _ _ _ _ _ us hl => match us, hl with | [_, _], _ => rfl
  have F_lQ := fun_mk (st := sLFP) l_lQ c_lQ k_lQ
  have b_lQ := F_lQ.binds (ps := ["one", "other"]) fun _ _ _ _ _ _ us hl => match us, hl with | [_, _], _ => rfl
  have F_lW := fun_mk (st := sWheel) l_lW c_lW k_lW
  have b_lW := F_lW.binds (ps := ["size"]) fun _ _ _ _ _ _ us hl => match us, hl with | [_], _ => rfl
  have F_lR := fun_mk (st := sNear) l_lR c_lR k_lR
  have b_lR := F_lR.binds (ps := ["m", "reader"]) fun _ _ _ _ _ _ us hl => match us, hl with | [_, _], _ => rfl
  have F_la := fun_mk (st := sLaw) l_la c_la k_la
  have b_la := F_la.binds (ps := ["script"]) fun _ _ _ _ _ _ us hl => match us, hl with | [_], _ => rfl
  have m_iN := PySem.W.mg_of X G a_iN
  have m_iP := PySem.W.mg_of X G a_iP
  have m_iS := PySem.W.mg_of X G a_iS
  have m_iL := PySem.W.mg_of X G a_iL
  have m_iW := PySem.W.mg_of X G a_iW
  have m_iJ := PySem.W.mg_of X G a_iJ
  have m_iF := PySem.W.mg_of X G a_iF
  have m_mB := PySem.W.mg_of X G a_mB
  have m_mL := PySem.W.mg_of X G a_mL
  have m_mH := PySem.W.mg_of X G a_mH
  have m_mA := PySem.W.mg_of X G a_mA
  have m_mT := PySem.W.mg_of X G a_mT
  have m_mS := PySem.W.mg_of X G a_mS
  have m_mM := PySem.W.mg_of X G a_mM
  have m_mR := PySem.W.mg_of X G a_mR
  have m_eS := PySem.W.mg_of X G a_eS
  have m_eU := PySem.W.mg_of X G a_eU
  have m_eR := PySem.W.mg_of X G a_eR
  have m_eO := PySem.W.mg_of X G a_eO
  have m_eE := PySem.W.mg_of X G a_eE
  have m_eX := PySem.W.mg_of X G a_eX
  have m_eT := PySem.W.mg_of X G a_eT
  have m_eF := PySem.W.mg_of X G a_eF
  have m_eP := PySem.W.mg_of X G a_eP
  have m_ms := PySem.W.mg_of X G a_ms
  have m_lB := PySem.W.mg_of X G a_lB
  have m_lN := PySem.W.mg_of X G a_lN
  have m_lP := PySem.W.mg_of X G a_lP
  have m_lF := PySem.W.mg_of X G a_lF
  have m_lT := PySem.W.mg_of X G a_lT
  have m_lD := PySem.W.mg_of X G a_lD
  have m_lG := PySem.W.mg_of X G a_lG
  have m_lS := PySem.W.mg_of X G a_lS
  have m_lQ := PySem.W.mg_of X G a_lQ
  have m_lW := PySem.W.mg_of X G a_lW
  have m_lR := PySem.W.mg_of X G a_lR
  have m_la := PySem.W.mg_of X G a_la
  have F_ini := fun_mk (st := sBadReader) l_ini c_ini k_ini
  have b_ini := F_ini.binds (ps := ["self", "part", "number"]) fun _ _ _ _ _ _ us hl => match us, hl with | [_, _, _], _ => rfl
  have F_ino := fun_mk (st := sOutOfPlace) l_ino c_ino k_ino
  have b_ino := F_ino.binds (ps := ["self", "text"]) fun _ _ _ _ _ _ us hl => match us, hl with | [_, _], _ => rfl
  have y_isinstance := PySem.W.mg_none_of X G z_isinstance
  have y_int := PySem.W.mg_none_of X G z_int
  have y_bool := PySem.W.mg_none_of X G z_bool
  have y_str := PySem.W.mg_none_of X G z_str
  have y_tuple := PySem.W.mg_none_of X G z_tuple
  have y_len := PySem.W.mg_none_of X G z_len
  have y_all := PySem.W.mg_none_of X G z_all
  have y_sorted := PySem.W.mg_none_of X G z_sorted
  have y_enumerate := PySem.W.mg_none_of X G z_enumerate
  have y_list := PySem.W.mg_none_of X G z_list
  have y_range := PySem.W.mg_none_of X G z_range
  have y_min := PySem.W.mg_none_of X G z_min
  have y_zip := PySem.W.mg_none_of X G z_zip
  have y_repr := PySem.W.mg_none_of X G z_repr
  have y_ValueError := PySem.W.mg_none_of X G z_ValueError
  have y_sum := PySem.W.mg_none_of X G z_sum
  have y_set := PySem.W.mg_none_of X G z_set
  have y_dict := PySem.W.mg_none_of X G z_dict
  have x_vS := PySem.W.mg_of X G g_vS
  have x_vG := PySem.W.mg_of X G g_vG
  have x_vT := PySem.W.mg_of X G g_vT
  have x_vD := PySem.W.mg_of X G g_vD
  have x_vK := PySem.W.mg_of X G g_vK
  have x_vQ := PySem.W.mg_of X G g_vQ
  have x_vU := PySem.W.mg_of X G g_vU
  have TF : TxtF mg := ⟨y_isinstance, y_int, y_bool, y_str, y_tuple, y_len, y_all, ⟨_, x_vS⟩, ⟨_, x_vG⟩, ⟨_, x_vD⟩⟩
  have TD : TxtD mg := ⟨y_list, y_int, y_len⟩
  have IV : BI K mg "ValueError" "ValueError" "ValueError.__init__" := ⟨y_ValueError, by decide +kernel, by kernel_rfl, v_V, by decide +kernel⟩
  have TM : TxtM mg := ⟨y_isinstance, y_str⟩
  let zF : Fs K mg := { fN := f_iN, dN := _, N := F_iN, bN := b_iN, mN := m_iN, fP := f_iP, dP := _, P := F_iP, bP := b_iP, mP := m_iP, fS := f_iS, dS := _, S := F_iS, bS := b_iS, mS := m_iS, fL := f_iL, dL := _, L := F_iL, bL := b_iL, mL := m_iL, fW := f_iW, dW := _, W := F_iW, bW := b_iW, mW := m_iW, fJ := f_iJ, dJ := _, J := F_iJ, bJ := b_iJ, mJ := m_iJ, fF := f_iF, dF := _, F := F_iF, bF := b_iF, mF := m_iF, T := TF, so := y_sorted, en := y_enumerate, ms := ⟨_, x_vT⟩ }
  let zO : Oop K mg := { C := D, f := f_ino, d := _, fM := f_ms, dM := _, T := OXD, I := IV, F := F_ino, b := b_ino, FM := F_ms, bM := b_ms, mM := m_ms, TM := TM, m := PySem.W.mg_of X G aD, iC := iCD, tI := tID, su := suD, ty := tyD, own := owD }
  let zB : Brd K mg := { C := C, f := f_ini, d := _, T := OXC, I := IV, F := F_ini, b := b_ini, m := PySem.W.mg_of X G aC, iC := iCC, tI := tIC, n0 := n0, n1 := n1, su := suC, ty := tyC, own := owC }
  let zR : Rs K mg := { Z := zF, B := zB, fU := f_eU, dU := _, U := F_eU, bU := b_eU, mU := m_eU, states := ⟨_, x_vQ⟩ }
  let zK : Tk K mg := { R := zR, O := zO, marks := ⟨_, x_vK⟩, f1 := f_eX, d1 := _, F1 := F_eX, b1 := b_eX, m1 := m_eX }
  let zT : Tt K mg := { T := zK, fR := f_eR, dR := _, FR := F_eR, bR := b_eR, mR := m_eR, fO := f_eO, dO := _, FO := F_eO, bO := b_eO, mO := m_eO, fL := f_eE, dL := _, FL := F_eE, bL := b_eE, mL := m_eE, fT := f_eT, dT := _, FT := F_eT, bT := b_eT, mT := m_eT }
  let zN : Kon K mg := { n := Nt, t1 := N1, t2 := N2, m := PySem.W.mg_of X G a_n, kn := tup_two l_n, k1 := tup_no l_1, k2 := tup_no l_2, yn := fun H => .kTuple l_n rfl, y1 := fun H => .kTuple l_1 rfl, y2 := fun H => .kTuple l_2 rfl }
  let zPg : Pg K mg := { Z := zT, C := zN, f := f_eP, d := _, F := F_eP, b := b_eP, m := m_eP, so := y_sorted, se := y_set, li := y_list }
  let zbt : Bt K mg := { f := f_mB, d := _, F := F_mB, b := b_mB, m := m_mB, len := y_len, ra := y_range, en := y_enumerate }
  let zlz : Lz K mg := { B := zbt, f := f_mL, d := _, F := F_mL, b := b_mL, m := m_mL, most := ⟨_, x_vD⟩ }
  let zbh : Bh K mg := { f1 := f_mH, f2 := f_mA, d1 := _, d2 := _, F := F_mH, G := F_mA, b1 := b_mH, b2 := b_mA, m1 := m_mH, m2 := m_mA }
  let ztq : Tq K mg := { B := zbh, f := f_mT, d := _, F := F_mT, b := b_mT, m := m_mT, len := y_len, su := y_sum, so := y_sorted, most := ⟨_, x_vU⟩ }
  let zsd : Sd K mg := { Z := zlz, T := ztq, f := f_mS, d := _, F := F_mS, b := b_mS, m := m_mS, tu := y_tuple, most := ⟨_, x_vQ⟩ }
  let zmg : Mg K mg := { f := f_mM, d := _, F := F_mM, b := b_mM, m := m_mM, len := y_len, se := y_set, int := y_int, tu := y_tuple, zi := y_zip, most := ⟨_, x_vQ⟩ }
  let ztr : Tr K mg := { M := zmg, f := f_mR, d := _, F := F_mR, b := b_mR, m := m_mR }
  let zsk : Sk K mg := { Z := zF, S := zsd, T := ztr, f := f_eS, d := _, F := F_eS, b := b_eS, m := m_eS }
  let zL : Ls K mg := { f1 := f_lN, d1 := _, N := F_lN, bN := b_lN, mN := m_lN, T := TD, ra := y_range, f2 := f_lP, d2 := _, P := F_lP, bP := b_lP, mP := m_lP }
  let zG : Lf K mg := { L := zL, f := f_lF, d := _, F := F_lF, b := b_lF, g := m_lF, so := y_sorted, tu := y_tuple, se := y_set }
  let zlr : LsR K mg := { f1 := f_lN, d1 := _, N := F_lN, bN := b_lN, mN := m_lN, T := TD, ra := y_range, tu := y_tuple, f2 := f_lS, d2 := _, P := F_lS, bP := b_lS, mP := m_lS }
  let zlq : Lq K mg := { S := zlr, fW := f_lW, dW := _, W := F_lW, bW := b_lW, mW := m_lW, fN := f_lR, dN := _, N := F_lR, bN := b_lR, mN := m_lR }
  let zlp : Lp K mg := { fT := f_lT, dT := _, T := F_lT, bT := b_lT, mT := m_lT, fL := f_lD, dL := _, L := F_lD, bL := b_lD, mL := m_lD, fS := f_lG, dS := _, S := F_lG, bS := b_lG, mS := m_lG, f := f_lQ, d := _, F := F_lQ, b := b_lQ, m := m_lQ, di := y_dict }
  let zA : Lall K mg := { N := zlq, G := zPg, Z := zsk, A := zG, B := zlp, f1 := f_eF, d1 := _, F1 := F_eF, b1 := b_eF, m1 := m_eF, fB := f_lB, dB := _, Be := F_lB, bB := b_lB, mB := m_lB, mi := y_min, re := y_repr }
  exact ⟨PySem.W.fnOf "law" "law" (defArgs sLaw) (defBody sLaw) (defScope sLaw) .none kV_la dc_la pm_la an_la cd_la ct_la, fun s u => .of_eq rfl, fun base _ _ => ok_law zA F_la⟩
theorem walk {l : PySem.W.OpenLaw} {q : Program} {loose : List Str} {XP : (Str → Option Value) → Heap → Prop} {YP : World → Heap → Prop} {d : DefRec} {K : Params → PySem.W.Frag} (hn : l.most = some 63) (hdf : d.params.defaults = [])
    (hY : ∀ (w : World) (h : Heap), YP w h → (K w.params).In h)
    (F : ∀ (w : World) (mg : Str → Option Value) (fa : Addr) (h : Heap), (K w.params).In h → h.Ns mainGlobals mg → mg d.name = some (.ref fa) →
      ∃ fd : FuncData, (∀ (s : Shared) (u : Value), BindsTo s fd ⟨[u], []⟩ [("script", u)]) ∧ ∀ base : Heap, (K w.params).In base → base.Ns mainGlobals mg → FnG l.prog w (K w.params) mg base CX0 6 fa fd ["script"] (spLaw (K w.params))) :
    PySem.W.WalkO q loose XP YP l.row.toRowW d [] (fun f vs => PySem.call f vs) :=
  walk_ofG (n := 63) (k := 6) (x := "script") (sp := spLaw) hn (by decide) hdf ⟨rfl, by decide, by decide⟩ hY F (fun _ _ a ns hl _ hS => ⟨a, ns, rfl, hS, hl, fun _ => rfl⟩)
end K10

set_option Elab.async false
set_option maxRecDepth 100000
open PySem PySem.W PyProof.Rows
set_option maxRecDepth 100000 in
set_option maxHeartbeats 0 in
theorem PySem.Challenge.cw_tornlines_k10_whole_partings_holds : PySem.Challenge.rw_tornlines_k10_whole_partings.Holds := by
  w_on; o_law; k_head; (case hw => w_witness2)
  k_fill
  refine K10.walk (l := PySem.Challenge.rw_tornlines_k10_whole_partings) rfl rfl (fun w h Y => by first | exact PySem.W.kIn_of Y | exact PySem.W.km_in_of Y) ?F
  case F =>
    intro w mg fa h KX G hmg
    refine' K10.all_mk KX G hmg ?a_iN ?l_iN ?c_iN ?k_iN ?a_iP ?l_iP ?c_iP ?k_iP ?a_iS ?l_iS ?c_iS ?k_iS ?a_iL ?l_iL ?c_iL ?k_iL ?a_iW ?l_iW ?c_iW ?k_iW ?a_iJ ?l_iJ ?c_iJ ?k_iJ ?a_iF ?l_iF ?c_iF ?k_iF ?a_mB ?l_mB ?c_mB ?k_mB ?a_mL ?l_mL ?c_mL ?k_mL ?a_mH ?l_mH ?c_mH ?k_mH ?a_mA ?l_mA ?c_mA ?k_mA ?a_mT ?l_mT ?c_mT ?k_mT ?a_mS ?l_mS ?c_mS ?k_mS ?a_mM ?l_mM ?c_mM ?k_mM ?a_mR ?l_mR ?c_mR ?k_mR ?a_eS ?l_eS ?c_eS ?k_eS ?a_eU ?l_eU ?c_eU ?k_eU ?a_eR ?l_eR ?c_eR ?k_eR ?a_eO ?l_eO ?c_eO ?k_eO ?a_eE ?l_eE ?c_eE ?k_eE ?a_eX ?l_eX ?c_eX ?k_eX ?a_eT ?l_eT ?c_eT ?k_eT ?a_eF ?l_eF ?c_eF ?k_eF ?a_eP ?l_eP ?c_eP ?k_eP ?a_ms ?l_ms ?c_ms ?k_ms ?a_lB ?l_lB ?c_lB ?k_lB ?a_lN ?l_lN ?c_lN ?k_lN ?a_lP ?l_lP ?c_lP ?k_lP ?a_lF ?l_lF ?c_lF ?k_lF ?a_lT ?l_lT ?c_lT ?k_lT ?a_lD ?l_lD ?c_lD ?k_lD ?a_lG ?l_lG ?c_lG ?k_lG ?a_lS ?l_lS ?c_lS ?k_lS ?a_lQ ?l_lQ ?c_lQ ?k_lQ ?a_lW ?l_lW ?c_lW ?k_lW ?a_lR ?l_lR ?c_lR ?k_lR ?a_la ?l_la ?c_la ?k_la ?a_n ?l_n ?l_1 ?l_2 ?aC ?OXC ?iCC ?tIC ?n0 ?n1 ?l_ini ?c_ini ?k_ini ?suC ?tyC ?owC ?aD ?OXD ?iCD ?tID ?l_ino ?c_ino ?k_ino ?suD ?tyD ?owD ?g_vS ?g_vG ?g_vT ?g_vD ?g_vK ?g_vQ ?g_vU ?z_isinstance ?z_int ?z_bool ?z_str ?z_tuple ?z_len ?z_all ?z_sorted ?z_enumerate ?z_list ?z_range ?z_min ?z_zip ?z_repr ?z_ValueError ?z_sum ?z_set ?z_dict ?v_V
    (case a_iN => k_is)
    (case l_iN => k_is)
    (case c_iN => k_is)
    (case k_iN => k_is)
    (case a_iP => k_is)
    (case l_iP => k_is)
    (case c_iP => k_is)
    (case k_iP => k_is)
    (case a_iS => k_is)
    (case l_iS => k_is)
    (case c_iS => k_is)
    (case k_iS => k_is)
    (case a_iL => k_is)
    (case l_iL => k_is)
    (case c_iL => k_is)
    (case k_iL => k_is)
    (case a_iW => k_is)
    (case l_iW => k_is)
    (case c_iW => k_is)
    (case k_iW => k_is)
    (case a_iJ => k_is)
    (case l_iJ => k_is)
    (case c_iJ => k_is)
    (case k_iJ => k_is)
    (case a_iF => k_is)
    (case l_iF => k_is)
    (case c_iF => k_is)
    (case k_iF => k_is)
    (case a_mB => k_is)
    (case l_mB => k_is)
    (case c_mB => k_is)
    (case k_mB => k_is)
    (case a_mL => k_is)
    (case l_mL => k_is)
    (case c_mL => k_is)
    (case k_mL => k_is)
    (case a_mH => k_is)
    (case l_mH => k_is)
    (case c_mH => k_is)
    (case k_mH => k_is)
    (case a_mA => k_is)
    (case l_mA => k_is)
    (case c_mA => k_is)
    (case k_mA => k_is)
    (case a_mT => k_is)
    (case l_mT => k_is)
    (case c_mT => k_is)
    (case k_mT => k_is)
    (case a_mS => k_is)
    (case l_mS => k_is)
    (case c_mS => k_is)
    (case k_mS => k_is)
    (case a_mM => k_is)
    (case l_mM => k_is)
    (case c_mM => k_is)
    (case k_mM => k_is)
    (case a_mR => k_is)
    (case l_mR => k_is)
    (case c_mR => k_is)
    (case k_mR => k_is)
    (case a_eS => k_is)
    (case l_eS => k_is)
    (case c_eS => k_is)
    (case k_eS => k_is)
    (case a_eU => k_is)
    (case l_eU => k_is)
    (case c_eU => k_is)
    (case k_eU => k_is)
    (case a_eR => k_is)
    (case l_eR => k_is)
    (case c_eR => k_is)
    (case k_eR => k_is)
    (case a_eO => k_is)
    (case l_eO => k_is)
    (case c_eO => k_is)
    (case k_eO => k_is)
    (case a_eE => k_is)
    (case l_eE => k_is)
    (case c_eE => k_is)
    (case k_eE => k_is)
    (case a_eX => k_is)
    (case l_eX => k_is)
    (case c_eX => k_is)
    (case k_eX => k_is)
    (case a_eT => k_is)
    (case l_eT => k_is)
    (case c_eT => k_is)
    (case k_eT => k_is)
    (case a_eF => k_is)
    (case l_eF => k_is)
    (case c_eF => k_is)
    (case k_eF => k_is)
    (case a_eP => k_is)
    (case l_eP => k_is)
    (case c_eP => k_is)
    (case k_eP => k_is)
    (case a_ms => k_is)
    (case l_ms => k_is)
    (case c_ms => k_is)
    (case k_ms => k_is)
    (case a_lB => k_is)
    (case l_lB => k_is)
    (case c_lB => k_is)
    (case k_lB => k_is)
    (case a_lN => k_is)
    (case l_lN => k_is)
    (case c_lN => k_is)
    (case k_lN => k_is)
    (case a_lP => k_is)
    (case l_lP => k_is)
    (case c_lP => k_is)
    (case k_lP => k_is)
    (case a_lF => k_is)
    (case l_lF => k_is)
    (case c_lF => k_is)
    (case k_lF => k_is)
    (case a_lT => k_is)
    (case l_lT => k_is)
    (case c_lT => k_is)
    (case k_lT => k_is)
    (case a_lD => k_is)
    (case l_lD => k_is)
    (case c_lD => k_is)
    (case k_lD => k_is)
    (case a_lG => k_is)
    (case l_lG => k_is)
    (case c_lG => k_is)
    (case k_lG => k_is)
    (case a_lS => k_is)
    (case l_lS => k_is)
    (case c_lS => k_is)
    (case k_lS => k_is)
    (case a_lQ => k_is)
    (case l_lQ => k_is)
    (case c_lQ => k_is)
    (case k_lQ => k_is)
    (case a_lW => k_is)
    (case l_lW => k_is)
    (case c_lW => k_is)
    (case k_lW => k_is)
    (case a_lR => k_is)
    (case l_lR => k_is)
    (case c_lR => k_is)
    (case k_lR => k_is)
    (case a_la => k_is)
    (case l_la => k_is)
    (case c_la => k_is)
    (case k_la => k_is)
    (case a_n => k_is)
    (case l_n => k_is)
    (case l_1 => k_is)
    (case l_2 => k_is)
    (case aC => k_is)
    case OXC =>
      refine' K10.oxc ?cl PySem.F.excBase_ValueError (fun self => PySem.F.store_ValueError.passes self) (by decide +kernel) ?sa ?ga ?gg ?exC ?kC ?hd ?ca ?cn ?ct ?om
      (case cl => k_is)
      (case sa => k_is)
      (case ga => k_is)
      (case gg => k_is)
      (case exC => k_is)
      (case kC => k_is)
      (case hd => k_is)
      (case ca => k_is)
      (case cn => k_is)
      (case ct => k_is)
      (case om => k_is)
    (case iCC => k_is)
    (case tIC => k_is)
    (case n0 => k_is)
    (case n1 => k_is)
    (case l_ini => k_is)
    (case c_ini => k_is)
    (case k_ini => k_is)
    (case suC => k_is)
    (case tyC => k_is)
    (case owC => k_is)
    (case aD => k_is)
    case OXD =>
      refine' K10.oxc ?cl PySem.F.excBase_ValueError (fun self => PySem.F.store_ValueError.passes self) (by decide +kernel) ?sa ?ga ?gg ?exC ?kC ?hd ?ca ?cn ?ct ?om
      (case cl => k_is)
      (case sa => k_is)
      (case ga => k_is)
      (case gg => k_is)
      (case exC => k_is)
      (case kC => k_is)
      (case hd => k_is)
      (case ca => k_is)
      (case cn => k_is)
      (case ct => k_is)
      (case om => k_is)
    (case iCD => k_is)
    (case tID => k_is)
    (case l_ino => k_is)
    (case c_ino => k_is)
    (case k_ino => k_is)
    (case suD => k_is)
    (case tyD => k_is)
    (case owD => k_is)
    (case g_vS => k_is)
    (case g_vG => k_is)
    (case g_vT => k_is)
    (case g_vD => k_is)
    (case g_vK => k_is)
    (case g_vQ => k_is)
    (case g_vU => k_is)
    (case z_isinstance => k_is)
    (case z_int => k_is)
    (case z_bool => k_is)
    (case z_str => k_is)
    (case z_tuple => k_is)
    (case z_len => k_is)
    (case z_all => k_is)
    (case z_sorted => k_is)
    (case z_enumerate => k_is)
    (case z_list => k_is)
    (case z_range => k_is)
    (case z_min => k_is)
    (case z_zip => k_is)
    (case z_repr => k_is)
    (case z_ValueError => k_is)
    (case z_sum => k_is)
    (case z_set => k_is)
    (case z_dict => k_is)
    (case v_V => k_is)
#print axioms PySem.Challenge.cw_tornlines_k10_whole_partings_holds
