import PyProof.Rows.All
import Wide.All
import OpenK.AllK
import Wide.FinOn
import KE.KExcInit
import KE.KExcIs
import HandS.ForMost
import HandS.Exc
import HandS.ExcInit
import HandS.Defaults
import HandS.IsInst
import HandS.Conv
import HandS.Small
import HandS.SortRule
import HandS.TupLe
import HandS.NamedTupSort
import PyProof.Rows.SortKeyStr
import PyProof.FString5
import HandS.StrMore
import HandS.Walk
import PyProof.Rows.StrLen
import PyProof.StrLawsAffix
import HandS.Set
import HandS.Strs
import HandS.SetBool
import KE.GoesMore
import HandS.TupAny
import HandS.TryMany
import HandS.ExcValue
import HandS.ExcOwn
import HandS.ExcField
import HandS.WordsExc
import KE.KeyNested
import KE.KDictKeyed
import HandS.Dict
import HandS.SetKeys
import HandS.TupLen
import HandS.ReplaceLit
import HandS.ReplaceDef
import HandS.Words
import HandS.ReplaceList
import HandS.TupMul
import HandS.Style
import HandS.DictComp
import HandS.More
import HandS.WordsDict
import HandS.Deep
import PyProof.ReprRoads
import PyProof.ZipIter
import HandS.Zip0
import HandS.Zip
import PySem.Challenge.RW_tornlines_k35_whole_files_explained
set_option Elab.async false
set_option linter.all false
set_option maxRecDepth 100000
set_option maxHeartbeats 4000000
/-! Own exception classes over any built-in base: made with positional or keyword arguments, kept as values, their fields read, asked by isinstance. -/
namespace EV
open PySem PySem.W PySem.Calls PyProof.Rows PySem.HandSPX
open Builtin Builtin.ObjectAttr
section
variable {prog : Program} {w : World} {A : Around} {E : Value → Shared → Prop} {R : Result → Shared → Prop}
variable {hp : Heap} {g : Array GenState} {d : Drawn} {t : Nat} {os : OsState}
/-- an exception's first field, whatever its base -/
theorem put_first {K : W.Frag} {nm : Str} {tk : Tok} {v : Value} {x C : Addr} {fv : Array Value} {cd : ClassData}
    (X : K.In hp) (hx : hp.get? x = some { cls := .ref C, data := .fields fv }) (hcd : W.clsIn K C = some cd)
    (pas : refuseLoop (.ref x) "__setattr__" cd.mro = pure ()) (hob : cd.mro.contains (.type "object") = true) (hne : cd.mro.isEmpty = false)
    (hh : cd.hasDict = true) (ha : W.findIn K (.ref C) nm = some none)
    (hq : ∀ h' tk' dx, (∀ b o, b ≠ x → hp.get? b = some o → h'.get? b = some o) → hp.objs.size ≤ dx → dx ≠ x →
      h'.get? x = some { cls := .ref C, dict := some dx, data := .fields fv } → h'.Ns1 dx (fun y => if y = nm then some v else none) →
      R (.ok (.ret .none)) ⟨h', g, d, tk', os⟩) :
    codeAny (model prog w) A (.call (.builtin "object.__setattr__") ⟨[.ref x, .str nm tk, v], []⟩) R ⟨hp, g, d, t, os⟩ := by
  have J : W.InstAt hp x { cls := .ref C, data := .fields fv } C none := ⟨hx, rfl, rfl, trivial⟩
  have hxs : x ≠ hp.objs.size := Nat.ne_of_lt (Heap.lt_size hx)
  have isO : W.Looks (model prog w) hp (isInstance (.ref x) (.type "object")) true :=
    J.type.andThen (W.looks_mroIn X (by unfold W.mroIn; rw [hcd, Option.bind_some, if_neg (by rw [hne]; decide), hob]))
  refine codeAny_call_builtin F.store_object.slot.plain F.store_object.entry
    (@W.check_slot (model prog w) _ _ ⟨hp, g, d, t, os⟩ "object.__setattr__" "object" "__setattr__" (.ref x) [.str nm tk, v] [] _
      F.store_object.kind F.store_object.split isO (F.store_object.args (.ref x) (.str nm tk) v) ?_)
  have order : W.Looks (model prog w) hp (mroOf (.ref C)) cd.mro := (W.looks_clsIn X hcd).andThen .now
  have taker : W.Looks (model prog w) hp (storeTaker? none) none := .now
  have data : W.Looks (model prog w) hp (classData C) cd := W.looks_clsIn X hcd
  rw [W.osa_eq, refuse_eq]
  refine wpAny_bind (wpAny_bind (J.type.at (wpAny_bind (order.at ?_))))
  rw [pas]
  refine wpAny_pure (wpAny_bind (J.type.at (wpAny_bind ((W.looks_findIn X ha).at (wpAny_bind (taker.at ?_))))))
  show wpAny _ _ (storeInOwnDict (.ref x) (.ref C) (.str nm tk) nm v false) _ _ _
  obtain ⟨q1, q2, q3, q4, q5, q6, q7, q8, q9, q10, q11⟩ := cd
  dsimp only at hh
  subst hh
  unfold storeInOwnDict ownDictForStores
  repeat (first
    | with_reducible refine store_in_new ?_ ?_
    | with_reducible refine wpAny_loadPart_at hx ?_
    | with_reducible refine data.at ?_
    | wp_step)
  · exact ⟨_, #[], _, (Heap.get?_update_ne _ _ _ _ hxs.symm).trans (Heap.get?_push_at rfl rfl), rfl, fun e he => absurd he (by simp), fun _ => rfl⟩
  · intro h' tk' nsd same
    have hx1 : (hp.push { cls := .type "dict", data := .dict #[] }).get? x = some { cls := .ref C, data := .fields fv } := Heap.get?_push_of_some _ hx
    refine hq h' tk' hp.objs.size (fun b o nb q => ?_) (Nat.le_refl _) hxs.symm ?_ nsd
    · exact (same.2 b (Nat.ne_of_lt (Heap.lt_size q))).trans
        ((Heap.get?_update_ne _ _ _ _ nb).trans (Heap.get?_push_of_some _ q))
    · exact (same.2 x hxs).trans (Heap.get?_update_self _ hx1 rfl)
/-- a further field -/
theorem put_more {K : W.Frag} {nm : Str} {tk : Tok} {v : Value} {x C dx : Addr} {fv : Array Value} {cd : ClassData} {m0 : Str → Option Value} {nl : List Str}
    (X : K.In hp) (hx : hp.get? x = some { cls := .ref C, dict := some dx, data := .fields fv }) (nsd : hp.Ns1 dx m0) (wi : Within m0 nl) (hz : nl.length ≤ 1000)
    (hcd : W.clsIn K C = some cd) (pas : refuseLoop (.ref x) "__setattr__" cd.mro = pure ()) (hob : cd.mro.contains (.type "object") = true)
    (hne : cd.mro.isEmpty = false) (hh : cd.hasDict = true) (ha : W.findIn K (.ref C) nm = some none)
    (hq : ∀ h' tk', (∀ b o, b ≠ dx → hp.get? b = some o → h'.get? b = some o) → h'.Ns1 dx (fun y => if y = nm then some v else m0 y) →
      R (.ok (.ret .none)) ⟨h', g, d, tk', os⟩) :
    codeAny (model prog w) A (.call (.builtin "object.__setattr__") ⟨[.ref x, .str nm tk, v], []⟩) R ⟨hp, g, d, t, os⟩ := by
  obtain ⟨oD, _, _, hoD, _, _⟩ := nsd.count wi
  have J : W.InstAt hp x { cls := .ref C, dict := some dx, data := .fields fv } C (some oD) := ⟨hx, rfl, rfl, hoD⟩
  have isO : W.Looks (model prog w) hp (isInstance (.ref x) (.type "object")) true :=
    J.type.andThen (W.looks_mroIn X (by unfold W.mroIn; rw [hcd, Option.bind_some, if_neg (by rw [hne]; decide), hob]))
  refine codeAny_call_builtin F.store_object.slot.plain F.store_object.entry
    (@W.check_slot (model prog w) _ _ ⟨hp, g, d, t, os⟩ "object.__setattr__" "object" "__setattr__" (.ref x) [.str nm tk, v] [] _
      F.store_object.kind F.store_object.split isO (F.store_object.args (.ref x) (.str nm tk) v) ?_)
  have order : W.Looks (model prog w) hp (mroOf (.ref C)) cd.mro := (W.looks_clsIn X hcd).andThen .now
  have taker : W.Looks (model prog w) hp (storeTaker? none) none := .now
  have data : W.Looks (model prog w) hp (classData C) cd := W.looks_clsIn X hcd
  rw [W.osa_eq, refuse_eq]
  refine wpAny_bind (wpAny_bind (J.type.at (wpAny_bind (order.at ?_))))
  rw [pas]
  refine wpAny_pure (wpAny_bind (J.type.at (wpAny_bind ((W.looks_findIn X ha).at (wpAny_bind (taker.at ?_))))))
  show wpAny _ _ (storeInOwnDict (.ref x) (.ref C) (.str nm tk) nm v false) _ _ _
  obtain ⟨q1, q2, q3, q4, q5, q6, q7, q8, q9, q10, q11⟩ := cd
  dsimp only at hh
  subst hh
  unfold storeInOwnDict ownDictForStores
  repeat (first
    | with_reducible refine OEX.store_in_old nsd wi hz ?_
    | with_reducible refine wpAny_loadPart_at hx ?_
    | with_reducible refine data.at ?_
    | wp_step)
  intro h' tk' ns' same
  exact hq h' tk' (fun b o nb q => (same.2 b nb).trans q) ns'
end
/-! ### an own exception class called with keywords -/
section
variable {M : Model} {A : Around} {E : Value → Shared → Prop} {h : Heap} {g : Array GenState} {d : Drawn} {t : Nat} {os : OsState}
variable {nm q : Str} {C N : Addr} {bs bm : List Value} {hd : Bool} {sn : List Str} {sub : List Value} {ab : Bool} {col : Option Bool} {dd : Option Addr}
variable {k0 k1 k2 k3 k5 : Option Value} {B newId initId : String}
theorem check_newK (F : ExcBaseFacts B newId initId bm) {rest : List Value} {kw : List (Str × Value)} {Q : Unit → Shared → Prop}
    (hC : h.get? C = some (excClassObj nm q C N bs bm hd sn sub ab col dd k0 k1 k2 k3 k5 newId)) (hq : Q () ⟨h, g, d, t, os⟩) :
    wpAny M A (checkBuiltinCall newId ⟨.ref C :: rest, kw⟩) Q E ⟨h, g, d, t, os⟩ := by
  have hasIt : (Value.ref C :: bm).contains (.type B) = true := by rw [List.contains_cons, F.hasB, Bool.or_true]
  have star := F.noStar
  simp only [checkBuiltinCall, F.newKind, F.newSplit, F.newRow]
  repeat (first
    | refine wpAny_loadPart_at hC ?_
    | (refine wpAny_isSubtype_exc hC ?_; rw [hasIt])
    | refine wpAny_staticBase_exc hC ?_
    | refine wpAny_madeBy_exc hC ?_
    | simp only [bne_self_eq_false, Bool.false_eq_true, if_false]
    | wp_step)
  exact hq
end
section
variable {prog : Program} {w : World} {A : Around} {E : Value → Shared → Prop} {R : Result → Shared → Prop}
variable {h : Heap} {g : Array GenState} {d : Drawn} {t : Nat} {os : OsState}
variable {nm q : Str} {C N : Addr} {bs bm : List Value} {hd : Bool} {sn : List Str} {sub : List Value} {ab : Bool} {col : Option Bool} {dd : Option Addr}
variable {k0 k1 k2 k3 k5 : Option Value} {B newId initId : String}
theorem newK (F : ExcBaseFacts B newId initId bm) {rest : List Value} {kw : List (Str × Value)}
    (hC : h.get? C = some (excClassObj nm q C N bs bm hd sn sub ab col dd k0 k1 k2 k3 k5 newId))
    (hq : R (.ok (.ret (.ref (h.objs.size + 1)))) ⟨(h.push (W.kdv_tup rest)).push (excO C h.objs.size), g, d, t, os⟩) (hrest : rest.length ≤ sizeLine) :
    codeAny (model prog w) A (.builtin newId ⟨.ref C :: rest, kw⟩) R ⟨h, g, d, t, os⟩ := by
  have ends := F.ends
  have b1 : (Value.ref C :: bm).contains (.type B) = true := by rw [List.contains_cons, F.hasB, Bool.or_true]
  have b2 : (Value.ref C :: bm).contains (.type "AttributeError") = false := by rw [List.contains_cons, F.noAttr]; rfl
  have b3 : (Value.ref C :: bm).contains (.type "NameError") = false := by rw [List.contains_cons, F.noName]; rfl
  refine codeAny_builtinAt F.entry ?_
  unfold Builtin.«BaseException.__new__»
  refine PySem.wpAt_bind ?_
  show PySem.wpAt _ _ _ (stack >>= _) _ _ _
  refine PySem.wpAt_bind (PySem.wpAt_stack fun p below => PySem.wpAt_of_wpAny ?_)
  wp_walk
  refine PySem.wpAt_of_wpAny ?_
  rw [F.owner]
  repeat (first
    | with_reducible refine wpAny_madeHere_exc F.canon hC ?_
    | with_reducible refine wpAny_loadPart_at hC ?_
    | (with_reducible refine wpAny_isSubtype_exc hC ?_; first | rw [b1] | rw [b2] | rw [b3])
    | wp_step)
  show R _ _
  rw [Heap.size_push]
  exact hq
theorem typeCallK (F : ExcBaseFacts B newId initId bm) {rest : List Value} {kw : List (Str × Value)} {fI : Addr} {Q : Fin → Shared → Prop}
    (hC : h.get? C = some (excClassObj nm q C N bs bm hd sn sub ab col dd k0 k1 k2 k3 k5 newId))
    (hi : W.Looks (model prog w) h (typeLookup (.ref C) "__init__") (some (.ref fI)))
    (hb : ∀ self, W.Looks (model prog w) h (bindSpecial (.ref fI) self) (.ref fI, [self])) (hrest : rest.length ≤ sizeLine)
    (hq : codeAny (model prog w) A (.call (.ref fI) ⟨.ref (h.objs.size + 1) :: rest, kw⟩)
      (fun r s' => match r with | .ok (.ret v) => v = .none ∧ Q (.done (.ret (.ref (h.objs.size + 1)))) s' | .ok _ => False | .error e => E e s')
      ⟨(h.push (W.kdv_tup rest)).push (excO C h.objs.size), g, d, t, os⟩) :
    wpAny (model prog w) A (Builtin.«type.__call__» ⟨.ref C :: rest, kw⟩) Q E ⟨h, g, d, t, os⟩ := by
  repeat (first
    | with_reducible refine wpAny_loadPart_at hC ?_
    | with_reducible refine wpAny_madeBy_exc hC ?_
    | wp_step)
  refine codeAny_call_builtin_code (Code.quiet_builtin _ F.quiet) (check_newK F hC ?_)
  refine newK F hC ?_ hrest
  show wpAny _ _ _ _ _ _
  have kp : ∀ b o, h.get? b = some o → ((h.push (W.kdv_tup rest)).push (excO C h.objs.size)).get? b = some o :=
    fun b o e => Heap.get?_push_of_some _ (Heap.get?_push_of_some _ e)
  have hC1 := kp _ _ hC
  have new : ((h.push (W.kdv_tup rest)).push (excO C h.objs.size)).get? (h.objs.size + 1) = some (excO C h.objs.size) := by heap_get
  have self : (Value.ref C :: bm).contains (.ref C) = true := by simp
  have i1 := hi.keeps kp
  have b1 := (hb (.ref (h.objs.size + 1))).keeps kp
  unfold isInstance
  repeat (first
    | with_reducible refine wpAny_loadPart_at new ?_
    | (with_reducible refine wpAny_isSubtype_exc hC1 ?_; rw [self])
    | wp_step)
  show wpAny _ _ (typeLookup (.ref C) _) _ _ _
  refine i1.at ?_
  refine wpAny_holding (wpAny_bind (b1.at ?_))
  refine wpAny_bind (wpAny_call (codeAny_mono hq fun r s' z => ?_))
  rcases r with e | (v | _ | _ | _) <;> first | exact z | exact z.elim | skip
  obtain ⟨rfl, z⟩ := z
  first
    | exact wpAny_pure (wpAny_pure z)
    | (wp_walk; exact z)
theorem callK (F : ExcBaseFacts B newId initId bm) {rest : List Value} {kw : List (Str × Value)} {fI : Addr}
    (hC : h.get? C = some (excClassObj nm q C N bs bm hd sn sub ab col dd k0 k1 k2 k3 k5 newId))
    (hi : W.Looks (model prog w) h (typeLookup (.ref C) "__init__") (some (.ref fI)))
    (hb : ∀ self, W.Looks (model prog w) h (bindSpecial (.ref fI) self) (.ref fI, [self])) (hrest : rest.length ≤ sizeLine)
    (hq : codeAny (model prog w) (A.under (.builtin "type.__call__" ⟨.ref C :: rest, kw⟩)) (.call (.ref fI) ⟨.ref (h.objs.size + 1) :: rest, kw⟩)
      (W.InitBack (h.objs.size + 1) R) ⟨(h.push (W.kdv_tup rest)).push (excO C h.objs.size), g, d, t, os⟩) :
    codeAny (model prog w) A (.call (.ref C) ⟨rest, kw⟩) R ⟨h, g, d, t, os⟩ := by
  have f1 := tc_lookup
  have f2 := tc_bind (.ref C)
  have ty : (⟨h, g, d, t, os⟩ : Shared).TypeIs (.ref C) "type" := ⟨_, hC, rfl⟩
  refine codeAny_of_tree ?_
  show wpAny _ _ (callAny (.ref C) _) _ _ _
  repeat (any_goals (first
    | assumption
    | with_reducible refine wpAny_loadPart_at hC ?_
    | wp_step))
  refine ⟨rfl, ?_⟩
  refine codeAny_call_builtin_at (Code.quiet_builtin _ (by decide +kernel)) entry_typeCall ?_
  refine wpAny_check_type_call_sub hC ?_
  refine typeCallK F hC hi hb hrest (codeAny_mono hq fun r s' z => ?_)
  rcases r with e | (v | _ | _ | _) <;> exact z
end
end EV

set_option Elab.async false
set_option linter.all false
set_option maxRecDepth 100000
set_option maxHeartbeats 4000000
namespace L2
namespace EV
open PySem PySem.Spec PyProof.Rows _root_.EV
/-- what the written part says of an own exception class at C, straight under the built-in base B -/
structure OxC (K : PySem.W.Frag) (C : Addr) (B newId initId : String) (bm : List Value) : Prop where
  F : ExcBaseFacts B newId initId bm
  cls : ∃ nm q N bs sn sub ab col dd k0 k1 k2 k3 k5, K.lookup C = some (excClassObj nm q C N bs bm true sn sub ab col dd k0 k1 k2 k3 k5 newId)
  pas : ∀ self, refuseLoop self "__setattr__" bm = pure ()
  obj : bm.contains (.type "object") = true
  sa : PySem.W.findIn K (.ref C) "__setattr__" = some (some (.builtin "object.__setattr__"))
  ga : PySem.W.findIn K (.ref C) "__getattribute__" = some (some (.builtin "BaseException.__getattribute__"))
  gg : PySem.W.findIn K (.ref C) "__getattr__" = some none
  exC : PySem.W.subIn K (.ref C) (.type "BaseException") = some true
  kC : PySem.W.keepIn K (.ref C) = true
  hd : PySem.W.hasDictIn K C = true
  ca : PySem.W.findIn K (.ref C) "__class__" = some (some (.builtin "object.__class__"))
  cn : PySem.W.specialIn K (.builtin "object.__class__") "__get__" = some (some (.builtin "getset_descriptor.__get__"))
  ct : PySem.W.takesIn K (.builtin "object.__class__") = some true
  om : PySem.W.mroIn K C (.type "object") = some true
section
variable {X : Cx} {pins : List (Addr × Obj)} {σ : St} {H : Hp} {s : Shared} {a C dx : Addr} {f : Str} {y : V} {u : Value} {fs : List (Str × V)}
variable {Q : Unit → Shared → Prop} {E : Value → Shared → Prop} {A : Around} {B newId initId : String} {bm : List Value}
theorem OxC.data {K : PySem.W.Frag} (T : OxC K C B newId initId bm) : ∃ cd, PySem.W.clsIn K C = some cd ∧ cd.mro = .ref C :: bm ∧ cd.hasDict = true := by
  obtain ⟨nm, q, N, bs, sn, sub, ab, col, dd, k0, k1, k2, k3, k5, hC⟩ := T.cls
  refine ⟨{ name := nm, bases := bs, mro := .ref C :: bm, ns := N, qualname := q, hasDict := true, slotNames := sn, subclasses := sub, abstract := ab, collection := col, hasDel := false }, ?_, rfl, rfl⟩
  unfold PySem.W.clsIn
  rw [hC] <;> rfl
theorem OxC.look {K : PySem.W.Frag} (T : OxC K C B newId initId bm) {cd : ClassData} (e : cd.mro = .ref C :: bm) (self : Value) :
    refuseLoop self "__setattr__" cd.mro = pure () ∧ cd.mro.contains (.type "object") = true ∧ cd.mro.isEmpty = false := by
  rw [e, refuseLoop_ref]
  refine ⟨T.pas self, ?_, rfl⟩
  rw [List.contains_cons, T.obj, Bool.or_true]
/-- self.f = y, the first field -/
theorem ox_first (T : OxC X.K C B newId initId bm) (I : Inv X pins σ H s) (e : H a = some (exo a C none)) (no : PySem.W.findIn X.K (.ref C) f = some none) (ry : RelV y u)
    (h : ∀ dx s', H dx = none → dx ≠ a → Inv X pins σ (upd (upd H dx (exd dx [(f, y)])) a (exo a C (some dx))) s' → Q () s') :
    wpAny (model X.prog X.w) A (setAttr (.ref a) f u) Q E s := by
  obtain ⟨cd, hcl, hmr, hdi⟩ := T.data
  obtain ⟨l1, l2, l3⟩ := T.look hmr (.ref a)
  obtain ⟨t1, ho⟩ := exo_at I.hok e
  obtain ⟨hp, g, d, t, os⟩ := s
  refine PySem.W.set_plain I.kIn (ox := { cls := .ref C, dict := none, data := .fields #[.ref t1, .none, .none, .none, .bool false, .none] })
    (od := none) ⟨ho, rfl, rfl, trivial⟩ T.sa ?_
  refine put_first I.kIn ho hcl l1 l2 l3 hdi no fun h' tk' dx k big ne hx hn => ?_
  have free : H dx = none := I.hok.fresh big
  have old : ∀ {b : Addr} {o : Obj}, hp.get? b = some o → b ≠ dx := fun {b o} q => Nat.ne_of_lt (Nat.lt_of_lt_of_le (Heap.lt_size q) big)
  have nota : ∀ {b : Addr}, H b = none → b ≠ a := fun {b} n z => by
    subst z
    rw [e] at n
    cases n
  have un : Un X.fs [] H (upd (upd H dx (exd dx [(f, y)])) a (exo a C (some dx))) hp h' := by
    refine ⟨fun b o q n _ _ => k b o (nota n) q, fun b o q n _ _ => ⟨o.slots, k b o (nota n) q⟩, fun b o q n _ => ?_, fun b o q _ => ?_, fun b xs q => ?_, fun b o v q => ?_, fun b ps q => ⟨#[], ?_⟩⟩
    · rw [upd_ne (nota n), upd_ne (old q)]
      exact n
    · by_cases hb : b = a
      · subst hb
        exact ⟨_, hx⟩
      · exact ⟨o, k b o hb q⟩
    · rw [upd_ne (at_ne e q exo_tup), upd_ne (ne_of_none q free)]
      exact q
    · rw [upd_ne (at_ne e q exo_frz), upd_ne (ne_of_none q free)]
      exact q
    · rw [upd_ne (at_ne e q exo_tbl), upd_ne (ne_of_none q free), q]
      simp
  refine h dx _ free ne (I.un (t' := tk') un fun b o q => ?_)
  by_cases hb : b = a
  · subst hb
    rw [upd_same] at q
    cases q
    exact exo_ok hx
  · rw [upd_ne hb] at q
    by_cases hd : b = dx
    · subst hd
      rw [upd_same] at q
      cases q
      exact exd_ok hn (relO_put (fs := []) ry fun g => True.intro)
    · rw [upd_ne hd] at q
      refine (I.hok b o q).stay (fun c v hc z => k c v ?_ z) (fun c hc => ?_) fun c xs hc => ?_
      · rcases hc with hc | hc
        · subst hc
          exact hb
        · exact at_ne e hc exo_own
      · rw [upd_ne (at_ne e hc exo_own), upd_ne (ne_of_none hc free)]
        exact hc
      · rw [upd_ne (at_ne e hc exo_tup), upd_ne (ne_of_none hc free)]
        exact hc
/-- self.f = y, a further field -/
theorem ox_more (T : OxC X.K C B newId initId bm) (I : Inv X pins σ H s) (e : H a = some (exo a C (some dx))) (ed : H dx = some (exd dx fs)) (hl : fs.length ≤ 900)
    (no : PySem.W.findIn X.K (.ref C) f = some none) (ry : RelV y u) (h : ∀ s', Inv X pins σ (upd H dx (exd dx ((f, y) :: fs))) s' → Q () s') :
    wpAny (model X.prog X.w) A (setAttr (.ref a) f u) Q E s := by
  obtain ⟨cd, hcl, hmr, hdi⟩ := T.data
  obtain ⟨l1, l2, l3⟩ := T.look hmr (.ref a)
  obtain ⟨t1, ho⟩ := exo_at I.hok e
  obtain ⟨mA, hns, rel⟩ := exd_at I.hok ed
  have hw := within_of rel
  obtain ⟨hp, g, d, t, os⟩ := s
  obtain ⟨oD, _, _, hoD, _, _⟩ := hns.count hw
  refine PySem.W.set_plain I.kIn (ox := { cls := .ref C, dict := some dx, data := .fields #[.ref t1, .none, .none, .none, .bool false, .none] })
    (od := some oD) ⟨ho, rfl, rfl, hoD⟩ T.sa ?_
  refine put_more I.kIn ho hns hw (by rw [List.length_map]; omega) hcl l1 l2 l3 hdi no fun h' tk' k hn => ?_
  have there : ∃ o, h'.get? dx = some o := by
    obtain ⟨o, _, _, e', _⟩ := hn
    exact ⟨o, e'⟩
  refine h _ (I.write (t' := tk') (x := dx) (e := dx) (o := exd dx ((f, y) :: fs)) ?_ (.inl rfl) k there (exd_ok hn (relO_put ry rel)))
  rw [ed]
  exact True.intro
/-- B.__init__(self, ..) of an exception without fields: nothing of it is told -/
theorem ox_init {us : List Value} {Q : Value → Shared → Prop} (T : OxC X.K C B newId initId bm) (I : Inv X pins σ H s) (e : H a = some (exo a C none)) (hl : us.length ≤ sizeLine)
    (h : ∀ s', Inv X pins σ H s' → Q .none s') : wpAny (model X.prog X.w) A (call (.builtin initId) (.ref a :: us)) Q E s := by
  obtain ⟨nm, q, N, bs, sn, sub, ab, col, dd, k0, k1, k2, k3, k5, hC⟩ := T.cls
  obtain ⟨t1, ho⟩ := exo_at I.hok e
  obtain ⟨hp, g, d, t, os⟩ := s
  refine wpAny_call (PySem.HandSPX.init_base T.F (fun _ => rfl) (I.kIn _ _ hC) ho hl fun h' t2 k hx => ?_)
  have J := I.write (t' := t) (x := a) (e := a) (o := exo a C none) (by rw [e]; exact True.intro) (.inl rfl) k ⟨_, hx⟩ (exo_ok hx)
  have eu : upd H a (exo a C none) = H := by
    funext b
    by_cases hb : b = a
    · subst hb
      rw [upd_same, e]
    · rw [upd_ne hb]
  rw [eu] at J
  exact h _ J
end
/-! ### the readings -/
def tBin (K : PySem.W.Frag) (B newId initId : String) (bm : List Value) (ta : TA) : TE := fun σ H Q => ta σ H fun vs H1 =>
  ∃ (a C : Addr) (ws : List V), vs = .ref a :: ws ∧ ws.length ≤ 1000 ∧ OxC K C B newId initId bm ∧ H1 a = some (exo a C none) ∧ Q .non H1
def tPut (K : PySem.W.Frag) (B newId initId : String) (bm : List Value) (f : Str) (to te : TE) : TS := fun D σ H => te σ H fun y H1 => to σ H1 fun x H2 =>
  ∃ a C : Addr, x = .ref a ∧ OxC K C B newId initId bm ∧ PySem.W.findIn K (.ref C) f = some none ∧
    ((H2 a = some (exo a C none) ∧ ∀ dx, H2 dx = none → dx ≠ a → D.nx σ (upd (upd H2 dx (exd dx [(f, y)])) a (exo a C (some dx)))) ∨
      ∃ (dx : Addr) (fs : List (Str × V)), H2 a = some (exo a C (some dx)) ∧ H2 dx = some (exd dx fs) ∧ fs.length ≤ 900 ∧ D.nx σ (upd H2 dx (exd dx ((f, y) :: fs))))
/-- C(..) as a value: gV puts the exception itself, the values by position and those by name in the parameters' order -/
def tNew (C : Addr) (n m : Nat) (sp : Sp) (gV : List V → List V → List V) (t tk : TA) : TE := fun σ H Q => t σ H fun vs H1 => tk σ H1 fun zs H2 =>
  vs.length = n ∧ zs.length = m ∧ vs.length ≤ 1000 ∧ ∀ a, H2 a = none → sp (gV (.ref a :: vs) zs) (upd H2 a (exo a C none)) (fun v H3 => v = .non ∧ Q (.ref a) H3) (fun _ _ _ => False)
/-- e.f, e such an exception -/
def tFld (K : PySem.W.Frag) (f : Str) (te : TE) : TE := fun σ H Q => te σ H fun x H1 =>
  ∃ (a C dx : Addr) (B newId initId : String) (bm : List Value) (fs : List (Str × V)) (v : V), x = .ref a ∧ OxC K C B newId initId bm ∧ PySem.W.findIn K (.ref C) f = some none ∧
    H1 a = some (exo a C (some dx)) ∧ H1 dx = some (exd dx fs) ∧ fs.lookup f = some v ∧ Q v H1
/-- isinstance(e, c) -/
def rIsX (K : PySem.W.Frag) : List V → Hp → VK → Prop := fun xs H Q => ∃ (a C : Addr) (od : Option Addr) (fs : List (Str × V)) (B newId initId : String) (bm : List Value) (c : V) (u : Value) (b : Bool),
  xs = [.ref a, c] ∧ ClsV c u ∧ OxC K C B newId initId bm ∧ H a = some (exo a C od) ∧ (∀ dx, od = some dx → H dx = some (exd dx fs)) ∧ PySem.W.kitOne K (.ref C) u = some b ∧ Q (.bl b) H
section
variable {X : Cx} {o e : Expr} {es : List Expr} {to te : TE} {ta : TA} {f : Str} {p p' p1 p2 pos : Pos} {B newId initId : String} {bm : List Value}
theorem pe_bin {nB : Str} {pl : Sem Bool} (hg : Gl X nB) (hm : X.mg nB = none) (hv : bootBuiltins nB = some (.type B)) (ty : typeOf (.type B) = pure (.type "type"))
    (vV : PySem.W.findCls X.K (.type B) (.type "type") "__init__" = some (.val (.builtin initId))) (q4 : Manifest.isStub B = false) (ha : PA X (e :: es) ta) (q3 : PySem.W.handedIn (.builtin initId) = true)
    (hn1 : nB ≠ "__name__" := by decide) (hn2 : (nB == ("__debug__" : Str)) = false := by decide)
    (hc : eval (.Call (.Attribute (.Name nB p1) "__init__" p2) (e :: es) [] pos) X.env = (do
      let ov ← eval (.Name nB p1) X.env
      standAt p2.atName
      let (f, first) ← holding [ov] (getMethod ov "__init__" pl)
      callWith pos f first (backTo pos (starEach (e :: es) X.env)) (backToKw pos (keywordEach [] X.env))) := by rfl)
    (he : starEach (e :: es) X.env = (false, eval e X.env) :: starEach es X.env := by rfl) (hpl : (backTo pos (starEach es X.env)).any (·.1) = false := by rfl) :
    PE X (.Call (.Attribute (.Name nB p1) "__init__" p2) (e :: es) [] pos) (tBin X.K B newId initId bm ta) := by
  refine ⟨fun pins s σ H Q I h => ?_⟩
  refine PySem.W.methodCall_KW (ld_blt I hg hm hv ?_ hn1 hn2) hc
  obtain ⟨m, fr⟩ := I.fr
  refine PySem.W.method_type fr I.ok.mod.kin ty q4 vV q3 ?_
  show wpAny _ _ (callWith pos (Value.builtin initId) [] (backTo pos (starEach (e :: es) X.env)) []) _ _ _
  refine PyProof.Rows.callWith_method1 (thn (ha.run pos pins _ σ H _ (I.tok _) h) fun us s1 ⟨vs, H1, I1, r1, a, C, ws, ev, hl, T, ea, q⟩ => ?_) he hpl
  subst ev
  cases r1 with
  | @cons _ u0 _ ur ra rr =>
    obtain rfl : u0 = Value.ref a := ra
    have len : ur.length ≤ sizeLine := by
      have e1 := Paired.length rr
      rw [← e1, sizeLine_eq]
      omega
    exact ox_init T I1 ea len fun s' J => ⟨.non, H1, J, rfl, q⟩
/-- self.f = e -/
theorem ps_put (ho : PE X o to) (he : PE X e te) (hs : swapsWith e (some (.Attribute o f p')) pos.line X.env = pure false := by rfl) :
    PS X (.Assign [.Attribute o f p'] e pos) (tPut X.K B newId initId bm f to te) := by
  refine ⟨fun pins s σ H D I h => ?_⟩
  refine plainObj_wpAny_Assign_Attribute (thn (he.run pins s σ H _ I h) fun v s1 ⟨y, H1, I1, r1, q1⟩ => ?_) hs
  refine thn (ho.run pins s1 σ H1 _ I1 q1) fun u s2 ⟨x, H2, I2, r2, a, C, ex, T, no, q⟩ => ?_
  subst ex
  obtain rfl : u = Value.ref a := r2
  rcases q with ⟨ea, q⟩ | ⟨dx, fs, ea, ed, hl, q⟩
  · exact ox_first T I2 ea no r1 fun dx s' n ne J => ⟨σ, _, J, q dx n ne⟩
  · exact ox_more T I2 ea ed hl no r1 fun s' J => ⟨σ, _, J, q⟩
/-- e.f -/
theorem pe_xfld (he : PE X e te) (hb : attributeBase e f X.env (eval e X.env) = eval e X.env := by rfl) : PE X (.Attribute e f pos) (tFld X.K f te) := by
  refine ⟨fun pins s σ H Q I h => ?_⟩
  refine attr_of hb (thn (he.run pins s σ H _ I h) fun u s1 ⟨x, H1, I1, rx, a, C, dx, B, newId, initId, bm, fs, v, ex, T, no, ea, ed, l, q⟩ => ?_)
  subst ex
  obtain rfl : u = Value.ref a := rx
  obtain ⟨t1, ho⟩ := exo_at I1.hok ea
  obtain ⟨mA, hns, hr⟩ := exd_at I1.hok ed
  obtain ⟨od, hod, hl⟩ := lookIn_ns hns
  obtain ⟨u, hu, ru⟩ := RelO.some_of (v := v) (o := mA f) (by rw [← l]; exact hr f)
  have J : PySem.W.InstAt s1.heap a { cls := .ref C, dict := some dx, data := .fields #[.ref t1, .none, .none, .none, .bool false, .none] } C (some od) := ⟨ho, rfl, rfl, hod⟩
  exact HandSPX.exc_get I1.kIn J T.ga T.gg T.exC (PySem.W.findObj_own T.hd no rfl (by rw [hl, hu])) (handed_of ru) ⟨v, H1, I1.tok _, ru, q⟩
theorem call_isX : CallR X (.builtin "isinstance") (rIsX X.K) := by
  intro pins s σ H xs us Q I r h
  obtain ⟨a, C, od, fs, B, newId, initId, bm, c, u, b, rfl, k, T, ea, ed, e, q⟩ := h
  obtain ⟨u1, u2, rfl, r1, r2⟩ := vals2 r
  have e2 := k.eq r2
  subst e2
  obtain rfl : u1 = Value.ref a := r1
  obtain ⟨t1, ho⟩ := exo_at I.hok ea
  obtain ⟨cd, hcl, _⟩ := T.data
  have some_ : (PySem.W.clsIn X.K C).isSome = true := by rw [hcl]; rfl
  have fin : ∀ tk, EP X pins σ Q (.bool b) { s with toks := tk } := fun tk => ⟨.bl b, H, I.tok tk, rfl, q⟩
  cases od with
  | none =>
    have J : PySem.W.InstAt s.heap a { cls := .ref C, dict := none, data := .fields #[.ref t1, .none, .none, .none, .bool false, .none] } C none := ⟨ho, rfl, rfl, trivial⟩
    exact PySem.W.kia_one (PySem.W.kitx_exc some_ T.ga T.gg T.exC T.ca T.cn T.ct T.om) I.kIn J e (fun z => nomatch z) fin
  | some dx =>
    obtain ⟨mA, hns, hr⟩ := exd_at I.hok (ed dx rfl)
    obtain ⟨o', hod, hl⟩ := lookIn_ns hns
    have J : PySem.W.InstAt s.heap a { cls := .ref C, dict := some dx, data := .fields #[.ref t1, .none, .none, .none, .bool false, .none] } C (some o') := ⟨ho, rfl, rfl, hod⟩
    exact PySem.W.kia_one (PySem.W.kitx_exc some_ T.ga T.gg T.exC T.ca T.cn T.ct T.om) I.kIn J e (fun z => nomatch z) fin
end
/-! ### making one, kept as a value -/
section
variable {X : Cx} {CX : CXT} {k n : Nat} {fI C : Addr} {fd : FuncData} {ps ks : List Str} {sp : Sp} {x : Str} {p pos : Pos} {e : Expr} {es : List Expr} {kws : List Keyword}
variable {t tk : TA} {g : List Value → List Value → List Value} {gV : List V → List V → List V} {B newId initId : String} {bm : List Value}
theorem run_new {pins : List (Addr × Obj)} {σ : St} {H : Hp} {s : Shared} {Q : VK} {us ws : List Value} {vs zs : List V} (T : OxC X.K C B newId initId bm)
    (iC : PySem.W.findIn X.K (.ref C) "__init__" = some (some (.ref fI))) (tI : PySem.W.typeIn X.K (.ref fI) = some (.type "function"))
    (F : FnOk X.prog X.w X.K X.mg X.base CX k fI fd ps sp) (hr : Room (k + 1) X.A) (hb : KBn X.K fd ps (n + 1) ks g gV) (hx : Passes CX X (fun _ _ _ => False))
    (I : Inv X pins σ H s) (r : Vals vs us) (rz : Vals zs ws) (l1 : vs.length = n) (l2 : zs.length = ks.length) (l3 : vs.length ≤ 1000)
    (h : ∀ a, H a = none → sp (gV (.ref a :: vs) zs) (upd H a (exo a C none)) (fun v H3 => v = .non ∧ Q (.ref a) H3) (fun _ _ _ => False)) :
    wpAny (model X.prog X.w) X.A (call (.ref C) us (ks.zip ws)) (EP X pins σ Q) X.xe s := by
  obtain ⟨nm, q, N, bs, sn, sub, ab, col, dd, k0, k1, k2, k3, k5, hC⟩ := T.cls
  obtain ⟨hp, g1, dr, tk, os⟩ := s
  have big : hp.objs.size ≤ hp.objs.size + 1 := Nat.le_succ _
  have free : H (hp.objs.size + 1) = none := I.hok.fresh big
  have hq := h (hp.objs.size + 1) free
  have kp : ∀ b o, hp.get? b = some o → ((hp.push (PySem.W.kdv_tup us)).push (PySem.HandSPX.excO C hp.objs.size)).get? b = some o := fun b o e =>
    Heap.get?_push_of_some _ (Heap.get?_push_of_some _ e)
  have new : ((hp.push (PySem.W.kdv_tup us)).push (PySem.HandSPX.excO C hp.objs.size)).get? (hp.objs.size + 1) = some (PySem.HandSPX.excO C hp.objs.size) := by heap_get
  have I2 : Inv X pins σ (upd H (hp.objs.size + 1) (exo (hp.objs.size + 1) C none))
      ⟨(hp.push (PySem.W.kdv_tup us)).push (PySem.HandSPX.excO C hp.objs.size), g1, dr, tk, os⟩ :=
    I.laid (t' := tk) (a := hp.objs.size + 1) (o := exo (hp.objs.size + 1) C none) (h' := (hp.push (PySem.W.kdv_tup us)).push (PySem.HandSPX.excO C hp.objs.size)) kp big (exo_ok new)
  have ra : Vals (V.ref (hp.objs.size + 1) :: vs) (Value.ref (hp.objs.size + 1) :: us) := .cons rfl r
  have lu : us.length ≤ sizeLine := by
    have e1 := Paired.length r
    rw [← e1, sizeLine_eq]
    omega
  have n1 : (Value.ref (hp.objs.size + 1) :: us).length = n + 1 := by
    rw [List.length_cons, ← r.length, l1]
  refine wpAny_call (EV.callK T.F (I.kIn _ _ hC) (PySem.W.looks_findIn I.kIn iC) (fun self => PySem.W.bind_fn I.kIn self tI) lu
    (codeAny_mono (F.run _ X.stack _ _ ⟨Value.ref (hp.objs.size + 1) :: us, ks.zip ws⟩ (g (Value.ref (hp.objs.size + 1) :: us) ws) _ _ (fun _ _ _ => False)
      (hr.make C us (ks.zip ws)) (I2.env0.make C us (ks.zip ws)) (hb.to _ _ ws I2.kIn n1 (rz.length.symm.trans l2)) (hb.rel ra rz) hq) fun r s' hq' => ?_))
  cases r with
  | error er => exact hx pins σ _ _ er s' I2 hq'
  | ok fl =>
    cases fl with
    | ret u =>
      obtain ⟨v, H3, I3, rv, ev, q3⟩ := I2.after hq'
      subst ev
      exact ⟨rv, ⟨V.ref (hp.objs.size + 1), H3, I3, rfl, q3⟩⟩
    | next => exact False.elim hq'
    | brk => exact False.elim hq'
    | cont => exact False.elim hq'
/-- C(e, ..) -/
theorem pe_new (T : OxC X.K C B newId initId bm) (iC : PySem.W.findIn X.K (.ref C) "__init__" = some (some (.ref fI))) (tI : PySem.W.typeIn X.K (.ref fI) = some (.type "function"))
    (F : FnOk X.prog X.w X.K X.mg X.base CX k fI fd ps sp) (hr : Room (k + 1) X.A) (hb : KBn X.K fd ps (n + 1) [] g gV) (hx : Passes CX X (fun _ _ _ => False))
    (hg : Gl X x) (hm : X.mg x = some (.ref C)) (ha : PA X (e :: es) t) (hdb : (x == ("__debug__" : Str)) = false := by decide)
    (he : starEach (e :: es) X.env = (false, eval e X.env) :: starEach es X.env := by rfl) (hpl : (backTo pos (starEach es X.env)).any (·.1) = false := by rfl) :
    PE X (.Call (.Name x p) (e :: es) [] pos) (tNew C n 0 sp gV t tNil) := by
  refine ⟨fun pins s σ H Q I h => ?_⟩
  refine wpAny_Call_Name_kw (ld_glob I hg hm ?_ hdb)
  refine PySem.W.callWith_K (h₀ := X.base) I.ok.mod.kin T.kC (thn (ha.run pos pins s σ H _ I h) fun us s1 ⟨vs, H1, I1, r1, q1⟩ => ⟨I1.kIn, ?_⟩) he hpl
  obtain ⟨l1, _, l3, q2⟩ := q1
  exact run_new (ws := []) (zs := []) T iC tI F hr hb hx I1 r1 .nil l1 rfl l3 q2
/-- C(k = v, ..) -/
theorem pe_newK (T : OxC X.K C B newId initId bm) (iC : PySem.W.findIn X.K (.ref C) "__init__" = some (some (.ref fI))) (tI : PySem.W.typeIn X.K (.ref fI) = some (.type "function"))
    (F : FnOk X.prog X.w X.K X.mg X.base CX k fI fd ps sp) (hr : Room (k + 1) X.A) (hb : KBn X.K fd ps 1 ks g gV) (hx : Passes CX X (fun _ _ _ => False))
    (hg : Gl X x) (hm : X.mg x = some (.ref C)) (hkw : PK X kws tk) (hall : (backToKw pos (keywordEach kws X.env)).all (·.1.isSome) = true := by rfl)
    (hks : (backToKw pos (keywordEach kws X.env)).filterMap (·.1) = ks := by rfl) (hdb : (x == ("__debug__" : Str)) = false := by decide)
    (hpl : ((backTo pos (starEach [] X.env)).any (·.1) || (backToKw pos (keywordEach kws X.env)).any (·.1.isNone)) = false := by rfl) :
    PE X (.Call (.Name x p) [] kws pos) (tNew C 0 ks.length sp gV tNil tk) := by
  refine ⟨fun pins s σ H Q I h => ?_⟩
  refine wpAny_Call_Name_kw (ld_glob I hg hm ?_ hdb)
  refine PySem.W.callWith_KW0 (h₀ := X.base) I.ok.mod.kin T.kC hall ?_ hpl
  refine thn (hkw.run pos pins s σ H _ I h) fun ws s2 ⟨zs, H2, I2, rz, l1, l2, l3, q2⟩ => ⟨I2.kIn, ?_⟩
  rw [hks]
  exact run_new (us := []) (vs := []) T iC tI F hr hb hx I2 .nil rz rfl l2 (by decide) q2
end
end EV
end L2

set_option Elab.async false
set_option linter.all false
set_option maxRecDepth 100000
set_option maxHeartbeats 4000000
/-! Defs that show values by repr: a promise that is kept where no repr runs yet. -/
namespace L2
namespace EV
open PySem PySem.Spec PyProof.Rows _root_.EV
/-- FnOk, where no repr runs yet -/
structure FnG (P : Program) (w : World) (K : PySem.W.Frag) (mg : Str → Option Value) (base : Heap) (CX : CXT) (k : Nat) (f : Addr) (fd : FuncData) (ps : List Str) (sp : Sp) : Prop where
  len : ∀ vs H Q E, sp vs H Q E → vs.length = ps.length
  run : ∀ (A : Around) (outer : List Env) (s : Shared) (H : Hp) (args : Args) (us : List Value) (vs : List V) (Q : VK) (E : XK), Room k A → A.guards = some [] →
    Env0 P w K mg base A outer s H → BindsTo s fd args (ps.zip us) → Vals vs us → sp vs H Q E → codeAny (model P w) A (.call (.ref f) args) (CR CX outer P w H s Q E) s
section
variable {P : Program} {w : World} {K : PySem.W.Frag} {mg : Str → Option Value} {base : Heap}
theorem okG {x qual : Str} {st : Stmt} {f : Addr} {fd : FuncData} {N ps : List Str} {k : Nat} {sp : Sp} (F : Fun K x qual st f fd) (S : FnScope N ps (defScope st))
    (len : ∀ vs H Q E, sp vs H Q E → vs.length = ps.length)
    (hbody : ∀ (cdv : Value) (A : Around) (outer : List Env) (s : Shared) (H : Hp) (vs : List V) (Q : VK) (E : XK), Room k (A.deeper (envOfC qual (defScope st) s.heap.objs.size f cdv)) →
      A.guards = some [] → sp vs H Q E →
      ∃ t, PSs (cxOf CX0 P w K mg base N qual (defScope st) f cdv A outer s H E).nox (defBody st) t ∧ t { nx := fun _ H' => Q .non H', rt := Q } (start N vs) H) :
    FnG P w K mg base CX0 (k + 1) f fd ps sp := by
  obtain ⟨oc, od, kV, doc, pm, an, cdv, ct, osl, rfl, lk, hcd⟩ := F.ex
  refine ⟨len, fun A outer s H args us vs Q E hr hgd e0 hb r hsp => ?_⟩
  have hl := len _ _ _ _ hsp
  have keptB : ∀ b o, base.get? b = some o → s.heap.get? b = some o := fun b o e => (e0.bs b o e).1
  have KX : K.In s.heap := e0.mod.kin.keeps keptB
  have lim : s.heap.NoLimit := e0.mod.nolimit.keeps keptB
  have kinds : ∀ y ∈ ps.zip us, (defScope st).names.lookup y.1 = some .local ∨
      ((defScope st).names.lookup y.1 = some .cell ∧ ((cellsFrom (s.heap.objs.size + 1) (defScope st).names []).lookup y.1).isSome = true) := fun ⟨n, v⟩ hy =>
    (S.par n (List.of_mem_zip hy).1).elim .inl fun q => .inr ⟨q, PySem.W.cellsFrom_some _ _ _ (.inl q)⟩
  refine codeAny_call_function hr.depth (KX _ _ lk) rfl S.co S.gen rfl (PySem.W.codeRec_of KX hcd) (hb _ _ _ _ ?_)
  refine wpAny_newFunctionEnv_cells S.kind kinds fun env he s1 x => ?_
  subst he
  refine ⟨lim.keeps x.toInCall.keep, codeAny_func ?_⟩
  obtain ⟨t, ht0, hq⟩ := hbody cdv A outer s H vs Q E (hr.deeper _) hgd hsp
  have ht := ht0.nox
  have I : Inv (cxOf CX0 P w K mg base N qual (defScope st) f cdv A outer s H E) [] (start N vs) H s1 := inv_start S hr.hd e0 hl r x
  refine wpAny_mono (ht.run [] s1 (start N vs) H _ I hq) (fun fl s' hs => ?_) fun e s' hs => hs
  cases fl with
  | ret u =>
    obtain ⟨v, σ', H', J, rv, q⟩ := hs
    exact ⟨v, H', J.os, J.bare, J.base, J.hok, rv, q⟩
  | next =>
    obtain ⟨σ', H', J, q⟩ := hs
    exact ⟨V.non, H', J.os, J.bare, J.base, J.hok, rfl, q⟩
  | brk =>
    obtain ⟨_, _, _, q⟩ := hs
    exact False.elim q
  | cont =>
    obtain ⟨_, _, _, q⟩ := hs
    exact False.elim q
end
section
variable {X : Cx} {CX : CXT} {k : Nat} {f : Addr} {fd : FuncData} {ps : List Str} {sp : Sp} {x : Str} {p pos : Pos} {e : Expr} {es : List Expr} {t : TA} {E : XK}
/-- f(e, ..) of such a def -/
theorem pe_callG (F : FnG X.prog X.w X.K X.mg X.base CX k f fd ps sp) (hr : Room k X.A) (hgd : X.A.guards = some []) (hg : Gl X x) (hm : X.mg x = some (.ref f))
    (hk : PySem.W.keepIn X.K (.ref f) = true) (hb : Binds X.K fd ps []) (hx : Passes CX X E) (ha : PA X (e :: es) t) (hdb : (x == ("__debug__" : Str)) = false := by decide)
    (he : starEach (e :: es) X.env = (false, eval e X.env) :: starEach es X.env := by rfl) (hpl : (backTo pos (starEach es X.env)).any (·.1) = false := by rfl) :
    PE X (.Call (.Name x p) (e :: es) [] pos) (fun σ H Q => t σ H fun vs H1 => sp vs H1 Q E) := by
  refine ⟨fun pins s σ H Q I h => ?_⟩
  refine wpAny_Call_Name_kw (ld_glob I hg hm ?_ hdb)
  refine PySem.W.callWith_K (h₀ := X.base) I.ok.mod.kin hk (thn (ha.run pos pins s σ H _ I h) fun us s1 ⟨vs, H1, I1, r, q⟩ => ⟨I1.kIn, ?_⟩) he hpl
  have hl : us.length = ps.length := by
    rw [← r.length]
    exact F.len _ _ _ _ q
  have bn := hb s1 us I1.kIn (by rw [List.append_nil]; exact hl)
  rw [List.append_nil] at bn
  refine wpAny_call (codeAny_mono (F.run X.A X.stack s1 H1 ⟨us, []⟩ us vs Q E hr hgd I1.env0 bn r q) fun r2 s2 hq => ?_)
  cases r2 with
  | error er => exact hx pins σ H1 s1 er s2 I1 hq
  | ok fl =>
    cases fl with
    | ret u => exact I1.after hq
    | next => exact False.elim hq
    | brk => exact False.elim hq
    | cont => exact False.elim hq
end
/-- the law's own call, of a promise that is kept where no repr runs -/
theorem law_callG {P : Program} {w : World} {K : PySem.W.Frag} {mg mb : Str → Option Value} {k : Nat} {fa a : Addr} {fd : FuncData} {x : Str} {sp : Sp} {s1 : Shared} {vs : List Value} {ns : List Int}
    (KX : K.In s1.heap) (hns : s1.heap.Ns mainGlobals mg) (hb : s1.heap.Ns builtinsNs mb) (hbb : ∀ x : Str, x ≠ "__name__" → mb x = bootBuiltins x) (hlim : s1.heap.NoLimit) (hg : s1.gens = #[])
    (ha : s1.heap.get? a = some { cls := .type "list", data := .seq vs.toArray }) (hi : IntsAre vs ns) (hl : ns.length ≤ sizeLine) (hr : Room k callerA)
    (F : ∀ base : Heap, K.In base → base.Ns mainGlobals mg → FnG P w K mg base CX0 k fa fd [x] sp) (hbind : ∀ (s : Shared) (u : Value), BindsTo s fd ⟨[u], []⟩ [(x, u)])
    (hsp : ∀ H : Hp, Only H → SqL K H a (ns.map V.int) → sp [.ref a] H (fun v _ => v = .bl true) fun _ _ _ => False) :
    codeAny (model P w) callerA (.call (.ref fa) ⟨[.ref a], []⟩) (fun r s' => r = .ok (.ret (.bool true)) ∧ OldK s1.heap s'.heap ∧ s'.os = s1.os ∧ AllBare s'.gens) s1 := by
  have rv := vals_ints hi
  have lenV := hi.length
  have core : ∀ H : Hp, Only H → SqL K H a (ns.map V.int) → HOk P w H s1.heap → (∀ b, H b ≠ none → b = a) → (H a ≠ none → K.lookup a = none) →
      codeAny (model P w) callerA (.call (.ref fa) ⟨[.ref a], []⟩) (fun r s' => r = .ok (.ret (.bool true)) ∧ OldK s1.heap s'.heap ∧ s'.os = s1.os ∧ AllBare s'.gens) s1 := by
    intro H hO hS hok onlyA notK
    have noDict : ∀ {b : Addr} {o : Obj} {es : Array DictEntry} {ep : Nat}, s1.heap.get? b = some o → o.data = .dict es ep → H b = none := fun {b o es ep} e d => by
      cases q : H b with
      | none => rfl
      | some u =>
        obtain rfl : b = a := onlyA b (by rw [q]; simp)
        rw [ha] at e
        cases e
        exact nomatch (show Data.seq vs.toArray _ = Data.dict es ep from d)
    have nsK : ∀ {b : Addr} {m : Str → Option Value}, s1.heap.Ns b m → (hidT s1.heap H).Ns b m := fun {b m} ⟨o, es, ep, e, d, r⟩ => ⟨o, es, ep, hidT_get e (noDict e d), d, r⟩
    have kin : K.In (hidT s1.heap H) := fun b o e => hidT_get (KX b o e) (by
      cases q : H b with
      | none => rfl
      | some u =>
        obtain rfl : b = a := onlyA b (by rw [q]; simp)
        rw [notK (by rw [q]; simp)] at e
        cases e)
    obtain ⟨mc, c1, c2⟩ := hlim
    have hM : Mod K mg (hidT s1.heap H) := ⟨kin, nsK hns, ⟨mb, nsK hb, hbb⟩, ⟨mc, nsK c1, c2⟩⟩
    have noF : ∀ b, b ∉ frs [] := fun b z => absurd (show b ∈ ([] : List Addr) from z) (by simp)
    have e0 : Env0 P w K mg (hidT s1.heap H) callerA [] s1 H :=
      ⟨rfl, hM, fun b o e => of_hidT e, Nat.le_of_eq (hidT_size _ _), trivial, fun b z => absurd z (noF b), hok, .of_eq hg⟩
    refine codeAny_mono ((F _ kin (nsK hns)).run callerA [] s1 H ⟨[.ref a], []⟩ [.ref a] [.ref a] _ _ hr rfl e0 (hbind s1 (.ref a)) (.cons rfl .nil) (hsp H hO hS)) fun r s' h => ?_
    cases r with
    | error e => exact False.elim h
    | ok fl =>
      cases fl with
      | next => exact False.elim h
      | brk => exact False.elim h
      | cont => exact False.elim h
      | ret u =>
        obtain ⟨v, H', os, bare, un, hok', r', q⟩ := h
        obtain rfl : v = .bl true := q
        obtain rfl : u = Value.bool true := r'
        refine ⟨rfl, OldK.of_keep fun b o e => ?_, os, bare⟩
        cases q : H b with
        | none => exact un.keep b o e q (noF b) (by simp)
        | some u =>
          rcases hO b with z | ⟨ob, xs, z⟩
          · rw [q] at z
            cases z
          · obtain ⟨e1, _⟩ := hok b _ z
            obtain ⟨e2, _⟩ := hok' b _ (un.frzs b ob _ z)
            rw [e] at e1
            cases e1
            exact e2
  cases hk : K.lookup a with
  | some o =>
    have e := KX a o hk
    rw [ha] at e
    cases e
    refine core (fun _ => none) (fun _ => .inl rfl) (.inr ⟨_, vs.toArray, _, hk, rfl, rfl, rfl, ?_, by simpa using rv⟩) (fun b u z => ?_) (fun b z => absurd rfl z) fun z => absurd rfl z
    · rw [List.size_toArray, lenV]
      exact hl
    · exact nomatch (show (none : Option HO) = some u from z)
  | none =>
    refine core (fun b => if b = a then some (.frz { cls := .type "list", data := .seq vs.toArray } (.lst (ns.map V.int))) else none) (fun b => ?_)
      (.inl (.inr ⟨{ cls := .type "list", data := .seq vs.toArray }, if_pos rfl⟩)) (fun b u z => ?_) (fun b z => ?_) fun _ => hk
    · by_cases hb : b = a
      · exact .inr ⟨_, _, if_pos hb⟩
      · exact .inl (if_neg hb)
    · by_cases hb : b = a
      · have z2 := (if_pos hb).symm.trans z
        cases z2
        subst hb
        exact ⟨ha, by rw [List.length_map]; exact hl, vs, _, rv, ha⟩
      · exact nomatch (if_neg hb).symm.trans z
    · by_cases hb : b = a
      · exact hb
      · exact absurd (if_neg hb) z
theorem walk_ofG {l : PySem.W.OpenLaw} {n k : Nat} {q : Program} {loose : List Str} {XP : (Str → Option Value) → Heap → Prop} {YP : World → Heap → Prop} {d : DefRec} {K : Params → PySem.W.Frag} {sp : PySem.W.Frag → Sp} {x : Str}
    (hn : l.most = some n) (hn2 : n ≤ sizeLine) (hdf : d.params.defaults = []) (hr : Room k callerA) (hY : ∀ (w : World) (h : Heap), YP w h → (K w.params).In h)
    (F : ∀ (w : World) (mg : Str → Option Value) (fa : Addr) (h : Heap), (K w.params).In h → h.Ns mainGlobals mg → mg d.name = some (.ref fa) →
      ∃ fd : FuncData, (∀ (s : Shared) (u : Value), BindsTo s fd ⟨[u], []⟩ [(x, u)]) ∧
        ∀ base : Heap, (K w.params).In base → base.Ns mainGlobals mg → FnG l.prog w (K w.params) mg base CX0 k fa fd [x] (sp (K w.params)))
    (hsp : ∀ (K : PySem.W.Frag) (H : Hp) (a : Addr) (ns : List Int), ns.length ≤ n → Only H → SqL K H a (ns.map V.int) → sp K [.ref a] H (fun v _ => v = .bl true) fun _ _ _ => False) :
    PySem.W.WalkO q loose XP YP l.row.toRowW d [] (fun f vs => PySem.call f vs) := by
  refine Att.attach_call hn hdf fun w s0 s1 mg mb fa o pm cd doc a vs ns G Y ho hd hcd hmg hobj hints hlen hg => ?_
  have KX := hY w _ Y
  obtain ⟨fd, hb, hF⟩ := F w mg fa _ KX G.T.g hmg
  exact law_callG KX G.T.g G.T.b G.T.builtins G.T.nolimit hg hobj hints (Nat.le_trans hlen hn2) hr hF hb fun H hO hS => hsp _ H a ns hlen hO hS
end EV
end L2

set_option Elab.async false
set_option linter.all false
set_option maxRecDepth 100000
set_option maxHeartbeats 4000000
/-! repr of a list of data. -/
namespace L2
namespace EV
open PySem PySem.Spec PyProof.Rows _root_.EV
/-- v stands for d: data without dicts, or the dict {"a": 1} -/
inductive Sh (K : PySem.W.Frag) (H : Hp) : V → PyData → Prop
  | plain {v : V} {d : PyData} : Dp K H v d → d.hasDict = false → Sh K H v d
  | one {a : Addr} : H a = some (.dK [(Sum.inr "a", V.int 1)]) → Sh K H (.ref a) (.dict [(.str "a", .int 1)])
def Small (d : PyData) : Prop := d.showable = true ∧ d.shown.length ≤ 60 ∧ d.depth ≤ 5
inductive ShAll (K : PySem.W.Frag) (H : Hp) : List V → List PyData → Prop
  | nil : ShAll K H [] []
  | cons {v : V} {vs : List V} {d : PyData} {ds : List PyData} : Sh K H v d → Small d → ShAll K H vs ds → ShAll K H (v :: vs) (d :: ds)
section
variable {X : Cx} {pins : List (Addr × Obj)} {σ : St} {H : Hp} {s : Shared}
theorem sh_reads (I : Inv X pins σ H s) {v : V} {d : PyData} {u : Value} (h : Sh X.K H v d) (r : RelV v u) : ∃ as, Reads s.heap u d as ∧ (d.hasDict = true → sysModules ∉ as) := by
  cases h with
  | plain hd no =>
    obtain ⟨as, q⟩ := Dp.reads I d v u hd r
    exact ⟨as, q, fun z => by rw [no] at z; cases z⟩
  | @one a e =>
    obtain rfl : u = Value.ref a := r
    obtain ⟨_, nsys, vs, kv, o, es, ep, ho, ex, hd, _, pr, _⟩ := (show ObjOk X.prog X.w H s.heap a (.dK [(Sum.inr "a", V.int 1)]) from I.hok a _ e)
    cases kv with
    | @cons _ p _ ps hk kr =>
      cases kr
      obtain ⟨k, v⟩ := p
      obtain ⟨ek, t, ev⟩ := hk
      dsimp only at ek ev
      subst ek ev
      generalize hes : es.toList = l at pr
      cases pr with
      | @cons e1 _ l2 _ k1 k2 k3 =>
        cases k3
        obtain ⟨t2, ek⟩ : ∃ t2, e1.key = Value.str "a" t2 := Value.isStrOf_shape k1
        refine ⟨[a], Reads.dict (as := []) (bs := []) ho ex.1 hd ?_ ?_, fun _ z => ?_⟩
        · rw [hes]
          show ReadsAll s.heap [e1.key] [PyData.str "a"] []
          rw [ek]
          exact ReadsAll.cons (Reads.str _ _) ReadsAll.nil
        · rw [hes]
          show ReadsAll s.heap [e1.val] [PyData.int 1] []
          rw [k2]
          exact ReadsAll.cons (Reads.int _ _) ReadsAll.nil
        · obtain rfl : sysModules = a := by simpa using z
          simp at nsys
theorem sh_all (I : Inv X pins σ H s) : ∀ {vs : List V} {ds : List PyData} {us : List Value}, ShAll X.K H vs ds → Vals vs us →
    ∃ as bs, ReadsAll s.heap us ds as ∧ ReadAtMost s.heap (PyData.depthAll ds) bs ∧ ReprAllK X.prog X.w bs s.heap (PyData.depthAll ds) us (PyData.shownAll ds)
  | _, _, _, .nil, .nil => ⟨[], [], ReadsAll.nil, (fun _ h => nomatch h), by simp only [PyData.shownAll]; exact .nil⟩
  | _, _, _, .cons (d := d) (ds := ds) h sm t, .cons r rt => by
    obtain ⟨as1, q1, hsm⟩ := sh_reads I h r
    obtain ⟨as2, b2, q2, m2, k2⟩ := sh_all I t rt
    obtain ⟨b1, m1, k1⟩ := ReprK.of_reads (prog := X.prog) (w := X.w) q1 sm.1 hsm (Nat.le_trans sm.2.1 (by decide))
    refine ⟨as1 ++ as2, b1 ++ b2, ReadsAll.cons q1 q2, ?_, ?_⟩
    · simp only [PyData.depthAll]
      exact (m1.mono (Nat.le_max_left _ _)).append (m2.mono (Nat.le_max_right _ _))
    · simp only [PyData.depthAll, PyData.shownAll]
      exact .cons ((k1.more fun b hb => List.mem_append_left _ hb).level_le (Nat.le_max_left _ _)) (k2.more_le (fun b hb => List.mem_append_right _ hb) (Nat.le_max_right _ _))
theorem shall_depth {K : PySem.W.Frag} {H : Hp} : ∀ {vs : List V} {ds : List PyData}, ShAll K H vs ds → PyData.depthAll ds ≤ 5 ∧ (∀ t ∈ PyData.shownAll ds, t.length ≤ 60) ∧ (PyData.shownAll ds).length = vs.length
  | _, _, .nil => ⟨by simp only [PyData.depthAll]; omega, by simp [PyData.shownAll], by simp [PyData.shownAll]⟩
  | _, _, .cons h sm t => by
    obtain ⟨h1, h2, h3⟩ := shall_depth t
    refine ⟨by simp only [PyData.depthAll]; have := sm.2.2; omega, ?_, by simp [PyData.shownAll, h3]⟩
    intro t ht
    simp only [PyData.shownAll, List.mem_cons] at ht
    rcases ht with rfl | ht
    · exact sm.2.1
    · exact h2 t ht
theorem sum_le60 : ∀ {ts : List Str}, (∀ t ∈ ts, t.length ≤ 60) → (ts.map (·.length)).sum ≤ 60 * ts.length
  | [], _ => by simp
  | t :: ts, h => by
    have h1 := h t (List.mem_cons_self ..)
    have h2 := sum_le60 (ts := ts) fun t ht => h t (List.mem_cons_of_mem _ ht)
    simp only [List.map_cons, List.sum_cons, List.length_cons]
    omega
/-- repr(l), l a list of some data -/
def rShow (K : PySem.W.Frag) : List V → Hp → VK → Prop := fun xs H Q => ∃ (l : Addr) (v : V) (vs : List V) (ds : List PyData), xs = [.ref l] ∧ H l = some (.lst (v :: vs)) ∧ ShAll K H (v :: vs) ds ∧ vs.length ≤ 1000 ∧
  Q (.str (listText (PyData.shownAll ds))) H
theorem call_show (hgd : X.A.guards = some []) (hu : X.A.units + 64 < cLine) : CallR X (.builtin "repr") (rShow X.K) := by
  intro pins s σ H xs us Q I r h
  obtain ⟨l, v, vs, ds, rfl, e, sh, lz, q⟩ := h
  obtain ⟨u, rfl, ru⟩ := vals1 r
  obtain rfl : u = Value.ref l := ru
  obtain ⟨_, its, n, rv, ho⟩ := (show ObjOk X.prog X.w H s.heap l (.lst (v :: vs)) from I.hok l _ e)
  obtain ⟨as, bs, q1, m1, k1⟩ := sh_all I sh rv
  obtain ⟨dp, sz, ln⟩ := shall_depth sh
  have whole : Reads s.heap (.ref l) (.list ds) (l :: as) := Reads.list ho rfl rfl (by simpa using q1)
  have hna : l ∉ bs := not_mem_of_deeper whole (by simp only [PyData.depth]; omega) m1
  have hz : (listText (PyData.shownAll ds)).length ≤ sizeLine := by
    have h1 := listText_len_le (PyData.shownAll ds)
    have h2 := sum_le60 sz
    rw [ln, List.length_cons] at *
    rw [sizeLine_eq]
    omega
  cases rv with
  | @cons _ u1 _ ut r1 r2 =>
    refine call_repr_slot (by omega) ⟨_, ho, rfl⟩ PySem.F.slot_list_repr.toG ?_
    refine call_list_reprK ho rfl rfl hna (by simpa using k1.length_eq) (fun i y ey => k1.item i y (by simpa using ey)) (A := X.A.in1) hgd (fun b _ => Clear.nil b) ?_ (fun _ _ z => z) (fun h' t tk hk => ⟨_, _, rfl, ?_⟩) hz
    · show X.A.units + 1 + (PyData.depthAll ds + 1) < cLine
      omega
    · exact ⟨.str _, H, I.kept (t' := tk) hk, ⟨_, rfl⟩, q⟩
end
end EV
end L2

set_option Elab.async false
set_option linter.all false
set_option maxRecDepth 100000
set_option maxHeartbeats 4000000
/-! Tuples of an int, a text and an int: sorted, and <=. -/
namespace L2
open PySem PySem.Spec PyProof.Rows
abbrev T3 : Type := Int × Str × Int
abbrev sl (a : Str) : List Nat := a.cps.toList
theorem sl_inj {a b : Str} (h : sl a = sl b) : a = b := by
  cases a with
  | mk x =>
    cases b with
    | mk y =>
      have : x = y := Array.toList_inj.mp h
      rw [this]
/-- x is ahead of y -/
def lt3 (a b : T3) : Bool := if a.1 = b.1 then (if a.2.1 = b.2.1 then decide (a.2.2 < b.2.2) else decide (sl a.2.1 < sl b.2.1)) else decide (a.1 < b.1)
theorem lt3_iff {a b : T3} : lt3 a b = true ↔ a.1 < b.1 ∨ (a.1 = b.1 ∧ (sl a.2.1 < sl b.2.1 ∨ (a.2.1 = b.2.1 ∧ a.2.2 < b.2.2))) := by
  unfold lt3
  by_cases e1 : a.1 = b.1
  · rw [if_pos e1]
    by_cases e2 : a.2.1 = b.2.1
    · rw [if_pos e2, decide_eq_true_eq]
      refine ⟨fun h => .inr ⟨e1, .inr ⟨e2, h⟩⟩, ?_⟩
      rintro (h | ⟨_, h | ⟨_, h⟩⟩)
      · omega
      · rw [e2] at h
        exact absurd h (List.lt_irrefl _)
      · exact h
    · rw [if_neg e2, decide_eq_true_eq]
      refine ⟨fun h => .inr ⟨e1, .inl h⟩, ?_⟩
      rintro (h | ⟨_, h | ⟨h, _⟩⟩)
      · omega
      · exact h
      · exact absurd h e2
  · rw [if_neg e1, decide_eq_true_eq]
    refine ⟨fun h => .inl h, ?_⟩
    rintro (h | ⟨h, _⟩)
    · exact h
    · exact absurd h e1
theorem lt3_no {a b : T3} : lt3 a b = false ↔ ¬ (a.1 < b.1 ∨ (a.1 = b.1 ∧ (sl a.2.1 < sl b.2.1 ∨ (a.2.1 = b.2.1 ∧ a.2.2 < b.2.2)))) := by
  rw [← lt3_iff]
  cases lt3 a b <;> simp
theorem swo3 : SrtO.Swo lt3 := by
  refine ⟨fun x y h => ?_, fun x y z h1 h2 => ?_⟩
  · have a := lt3_iff.mp h
    refine lt3_no.mpr ?_
    rintro (h1 | ⟨h1, h2⟩)
    · rcases a with a | ⟨a, _⟩ <;> omega
    · rcases a with a | ⟨_, a⟩
      · omega
      · rcases h2 with h2 | ⟨h2, h3⟩
        · rcases a with a | ⟨a, _⟩
          · exact List.lt_asymm a h2
          · rw [a] at h2
            exact List.lt_irrefl _ h2
        · rcases a with a | ⟨_, a⟩
          · rw [h2] at a
            exact List.lt_irrefl _ a
          · omega
  · have a := lt3_no.mp h1
    have b := lt3_no.mp h2
    refine lt3_no.mpr ?_
    have a1 : ¬ y.1 < x.1 := fun q => a (.inl q)
    have b1 : ¬ z.1 < y.1 := fun q => b (.inl q)
    rintro (q | ⟨q1, q2⟩)
    · omega
    · have e1 : y.1 = x.1 := by omega
      have e2 : z.1 = y.1 := by omega
      have a2 : ¬ sl y.2.1 < sl x.2.1 := fun q => a (.inr ⟨e1, .inl q⟩)
      have b2 : ¬ sl z.2.1 < sl y.2.1 := fun q => b (.inr ⟨e2, .inl q⟩)
      have l1 : sl x.2.1 ≤ sl y.2.1 := List.not_lt.mp a2
      have l2 : sl y.2.1 ≤ sl z.2.1 := List.not_lt.mp b2
      rcases q2 with q2 | ⟨q2, q3⟩
      · exact absurd q2 (List.not_lt.mpr (List.le_trans l1 l2))
      · have e3 : sl y.2.1 = sl x.2.1 := by
          rw [q2] at l2
          exact List.le_antisymm l2 l1
        have e4 := sl_inj e3
        have a3 : ¬ y.2.2 < x.2.2 := fun q => a (.inr ⟨e1, .inr ⟨e4, q⟩⟩)
        have b3 : ¬ z.2.2 < y.2.2 := fun q => b (.inr ⟨e2, .inr ⟨q2.trans e4.symm, q⟩⟩)
        omega
theorem swo3k {α : Type} (k : α → T3) : SrtO.Swo fun v u : α => lt3 (k v) (k u) := ⟨fun x y => swo3.asym (k x) (k y), fun x y z => swo3.tr (k x) (k y) (k z)⟩
/-- v is a tuple of an int, a text and an int in the heap -/
def IsTrip (h : Heap) (v : Value) (x : T3) : Prop := ∃ a o t u r n, v = .ref a ∧ h.get? a = some o ∧ o.cls = .type "tuple" ∧ o.data = .seq #[.int x.1 t, .str x.2.1 u, .int x.2.2 r] n
theorem IsTrip.keeps {h h' : Heap} {v : Value} {x : T3} (p : IsTrip h v x) (k : ∀ b o, h.get? b = some o → o.cls = .type "tuple" → h'.get? b = some o) : IsTrip h' v x := by
  obtain ⟨a, o, t, u, r, n, e, ho, hc, hd⟩ := p
  exact ⟨a, o, t, u, r, n, e, k _ _ ho hc, hc, hd⟩
theorem firsts3 {h : Heap} : ∀ {vs : List Value}, (∀ v ∈ vs, ∃ x, IsTrip h v x) → ∃ fs : List Value, PySem.W.KatTups h vs fs ∧ fs.length = vs.length ∧ ∀ f ∈ fs, ∃ x t, f = Value.int x t
  | [], _ => ⟨[], PySem.W.KatTups.nil, rfl, fun _ hm => by simp at hm⟩
  | v :: vs, hp => by
    obtain ⟨fs, h1, h2, h3⟩ := firsts3 (vs := vs) fun v' hm => hp v' (List.mem_cons_of_mem _ hm)
    obtain ⟨x, a, o, t, u, r, n, e, ho, hc, hd⟩ := hp v (List.mem_cons_self ..)
    subst e
    refine ⟨.int x.1 t :: fs, PySem.W.KatTups.cons ho hc hd rfl h1, by rw [List.length_cons, List.length_cons, h2], fun f hm => ?_⟩
    rcases List.mem_cons.mp hm with rfl | hm
    · exact ⟨x.1, t, rfl⟩
    · exact h3 f hm
section
variable {prog : Program} {w : World} {A : Around} {E : Value → Shared → Prop} {s : Shared}
theorem trip_cmp {vs : List Value} {k : Value → T3} (hp : ∀ v ∈ vs, IsTrip s.heap v (k v)) : SrtO.Cmp prog w A s (tuples' true) (fun p => p.1 ∈ vs) (SrtO.lt2 fun v u => lt3 (k v) (k u)) := by
  intro p q hm hm'
  have h1 := hp _ hm
  have h2 := hp _ hm'
  show wpAny (model prog w) A (keyLt' (tuples' true) p.1 q.1) (fun r s' => s' = s ∧ r = lt3 (k p.1) (k q.1)) (fun _ _ => False) s
  generalize k p.1 = x at h1 ⊢
  generalize k q.1 = y at h2 ⊢
  obtain ⟨x1, x2, x3⟩ := x
  obtain ⟨y1, y2, y3⟩ := y
  obtain ⟨a, o, t, u, r, n, e, ho, hc, hd⟩ := h1
  obtain ⟨a', o', t', u', r', n', e', ho', hc', hd'⟩ := h2
  rw [e, e']
  unfold lt3
  refine PySem.W.kat_lt ho hd ho' hd' ?_
  show PySem.W.KatLex prog w A true (decide (3 < 3)) _ [(.int x1 t, .int y1 t'), (.str x2 u, .str y2 u'), (.int x3 r, .int y3 r')] 0 s
  refine PySem.W.kat_cons (SeqAt.EqAt.int_int x1 t y1 t' prog w _ _ ?_)
  refine PySem.W.kat_go (fun e1 => ?_) (fun e1 => ?_)
  · have ex : x1 = y1 := by simpa using e1
    subst ex
    refine PySem.W.kat_yes (PySem.W.kat_cons (SeqAt.EqAt.str_str x2 u y2 u' prog w _ _ ?_))
    refine PySem.W.kat_go (fun e2 => ?_) (fun e2 => ?_)
    · have ey : x2 = y2 := by simpa using e2
      subst ey
      refine PySem.W.kat_yes (PySem.W.kat_cons (SeqAt.EqAt.int_int x3 r y3 r' prog w _ _ ?_))
      refine PySem.W.kat_go (fun e3 => ?_) (fun e3 => ?_)
      · have ez : x3 = y3 := by simpa using e3
        subst ez
        refine PySem.W.kat_yes (PySem.W.kat_nil ⟨rfl, ?_⟩)
        simp
      · refine PySem.W.kat_no (PySem.W.kat_one _ _ (PyProof.Rows.lt_int ?_))
        refine (show s = s ∧ _ from ⟨rfl, ?_⟩)
        simp
    · have ey : ¬ x2 = y2 := by simpa using e2
      refine PySem.W.kat_no (PySem.W.kat_one _ _ (PyProof.Rows.lt_str ?_))
      refine (show s = s ∧ _ from ⟨rfl, ?_⟩)
      simp [ey]
  · have ex : ¬ x1 = y1 := by simpa using e1
    refine PySem.W.kat_no (oneLt_int ⟨rfl, ?_⟩)
    simp [ex]
theorem trips_sortable {a : Addr} {vs : List Value} {k : Value → T3} (h0 : 0 < vs.length) (hp : ∀ v ∈ vs, IsTrip s.heap v (k v)) (ha : ∀ o, s.heap.get? a = some o → o.cls ≠ .type "tuple") : SrtO.SortableO prog w A s a vs fun v u => lt3 (k v) (k u) := by
  intro h' keep
  have hp' : ∀ v ∈ vs, IsTrip h' v (k v) := fun v hm => (hp v hm).keeps fun b o e c => keep b o (fun z => by subst z; exact ha o e c) e
  obtain ⟨fs, h1, h2, h3⟩ := firsts3 fun v hm => ⟨_, hp' v hm⟩
  refine ⟨tuples' true, fun Q E hq => ?_, trip_cmp hp'⟩
  refine PySem.W.kat_kind (T := .type "int") h1 (by omega) (fun f hm => ?_) (by rfl) ?_
  · obtain ⟨x, t, rfl⟩ := h3 f hm
    exact PySem.W.Looks.now
  · have e : (Value.type "int" != Value.type "tuple") = true := by first | decide +kernel | rfl | decide
    rw [e]
    exact hq
theorem sorted_trips {l : Addr} {vs : List Value} {k : Value → T3} {Q : Value → Shared → Prop} (hl : s.heap.IsList l vs.toArray) (hz : vs.length ≤ sizeLine) (hp : ∀ v ∈ vs, IsTrip s.heap v (k v))
    (h : ∀ (h' : Heap) (d : Addr) (out : List Value), SrtO.Srtd (fun v u => lt3 (k v) (k u)) out → SrtO.Stb (fun v u => lt3 (k v) (k u)) out vs → (∀ b o, s.heap.get? b = some o → h'.get? b = some o) → s.heap.objs.size ≤ d → (∃ n, h'.get? d = some (seqObj "list" out.toArray n)) → Q (.ref d) { s with heap := h' }) :
    wpAny (model prog w) A (call (.builtin "sorted") [.ref l]) Q E s := by
  refine SrtO.sorted_ord (swo3k k) hl hz (fun h2 h₁ a ha kk => ?_) fun out hs hb => ?_
  · refine trips_sortable (s := { s with heap := h₁ }) (by omega) (fun v hm => (hp v hm).keeps fun b o e _ => (kk b o e).2) fun o e => ?_
    have e' : some o = some (seqObj "list" vs.toArray 0) := e.symm.trans ha
    cases e'
    intro c
    exact absurd (Value.type.inj c) (by decide)
  · exact h _ _ out hs hb (fun b o e => sortedAll_old e) (Nat.le_succ _) (sortedAll_at s.heap vs out.toArray)
end
/-- sorted(xs), xs a list of such tuples (k says which): a new list of the same ones -/
def rSorted3 (K : PySem.W.Frag) : List V → Hp → VK → Prop := fun vs H Q => ∃ (a : Addr) (xs : List V) (k : V → T3), vs = [V.ref a] ∧ SqL K H a xs ∧ (∀ x ∈ xs, ∃ t, x = V.ref t ∧ H t = some (.tup [.int (k x).1, .str (k x).2.1, .int (k x).2.2])) ∧
  ∀ ys p, SrtO.Srtd (fun x y => lt3 (k x) (k y)) ys → ys.Perm xs → H p = none → Q (.ref p) (upd H p (.lst ys))
theorem vals_3 {x y z : V} {us : List Value} (r : Vals [x, y, z] us) : ∃ u w' t', us = [u, w', t'] ∧ RelV x u ∧ RelV y w' ∧ RelV z t' := by
  cases r with
  | cons r1 r2 =>
    obtain ⟨u, w', rfl, r3, r4⟩ := vals2 r2
    exact ⟨_, u, w', rfl, r1, r3, r4⟩
section
variable {X : Cx}
theorem cr_sorted3 : CallR X (.builtin "sorted") (rSorted3 X.K) := by
  intro pins s σ H vs us Q I r h
  obtain ⟨a, xs, k, rfl, hs, hx, q⟩ := h
  obtain ⟨its, rv, hl, hz⟩ := I.list hs
  obtain ⟨u, rfl, ru⟩ := vals1 r
  obtain rfl : u = Value.ref a := ru
  obtain ⟨e1, e2⟩ := refs_back rv fun x m => by
    obtain ⟨t, e, _⟩ := hx x m
    exact ⟨t, e⟩
  refine sorted_trips (k := fun u => k (backV u)) hl.isList (by rw [← rv.length]; exact hz) (fun v hv => ?_) fun h' d out h1 h2 kp hd hn => ?_
  · obtain ⟨t, rfl⟩ := e2 v hv
    have hm : V.ref t ∈ xs := by rw [e1]; exact List.mem_map.mpr ⟨_, hv, rfl⟩
    obtain ⟨t', e, ht⟩ := hx _ hm
    cases e
    obtain ⟨_, its2, r2, o, ho, hc, n, hd⟩ := I.hok _ _ ht
    obtain ⟨u1, u2, u3, rfl, ri, rj, rk⟩ := vals_3 r2
    obtain ⟨t1, rfl⟩ := ri
    obtain ⟨t2, rfl⟩ := rj
    obtain ⟨t3, rfl⟩ := rk
    exact ⟨t, o, t1, t2, t3, n, rfl, ho, hc, hd⟩
  · have h3 : ∀ u ∈ out, ∃ a, u = Value.ref a := fun u hu => e2 u (h2.perm.mem_iff.mp hu)
    obtain ⟨n, hn⟩ := hn
    have hb : SrtO.Stb (fun x y => lt3 (k x) (k y)) (out.map backV) xs := by
      rw [e1]
      exact SrtO.Stb.map (swo3k k) backV h2
    refine ⟨.ref d, upd H d (.lst (out.map backV)), I.laid (t' := s.toks) kp hd ⟨?_, out, n, vals_back h3, hn⟩, rfl, q _ d (SrtO.srtd_map h1) hb.perm (I.hok.fresh hd)⟩
    rw [hb.len]
    exact hz
/-- x <= y of two such tuples -/
def rLe3 : R2 := fun x y H Q => ∃ (a b : Addr) (m n : T3), x = .ref a ∧ y = .ref b ∧ H a = some (.tup [.int m.1, .str m.2.1, .int m.2.2]) ∧ H b = some (.tup [.int n.1, .str n.2.1, .int n.2.2]) ∧ Q (.bl (!lt3 n m)) H
theorem le_lex (m n : T3) : Ob.lexAt (fun j => if j = 0 then m.1 == n.1 else if j = 1 then m.2.1 == n.2.1 else m.2.2 == n.2.2)
    (fun j => if j = 0 then decide (m.1 ≤ n.1) else if j = 1 then decide (sl m.2.1 ≤ sl n.2.1) else decide (m.2.2 ≤ n.2.2)) true 0 3 = !lt3 n m := by
  obtain ⟨m1, m2, m3⟩ := m
  obtain ⟨n1, n2, n3⟩ := n
  simp only [Ob.lexAt, lt3]
  by_cases e1 : m1 = n1
  · subst e1
    by_cases e2 : m2 = n2
    · subst e2
      by_cases e3 : m3 = n3
      · subst e3
        simp
      · simp only [beq_self_eq_true, if_true, Nat.zero_add, Nat.one_ne_zero, if_false, Nat.reduceAdd, Nat.reduceEqDiff, beq_iff_eq, e3]
        by_cases z : m3 ≤ n3
        · rw [decide_eq_true z, decide_eq_false (by omega)]
          rfl
        · rw [decide_eq_false z, decide_eq_true (by omega)]
          rfl
    · have e2' : ¬ n2 = m2 := fun z => e2 z.symm
      simp only [beq_self_eq_true, if_true, Nat.zero_add, Nat.one_ne_zero, if_false, beq_iff_eq, e2, e2']
      by_cases z : sl m2 ≤ sl n2
      · rw [decide_eq_true z, decide_eq_false (List.not_lt.mpr z)]
        rfl
      · rw [decide_eq_false z, decide_eq_true (List.not_le.mp z)]
        rfl
  · have e1' : ¬ n1 = m1 := fun z => e1 z.symm
    simp only [if_true, beq_iff_eq, e1, e1', if_false]
    by_cases z : m1 ≤ n1
    · rw [decide_eq_true z, decide_eq_false (by omega)]
      rfl
    · rw [decide_eq_false z, decide_eq_true (by omega)]
      rfl
theorem RcOp.le_str {A : Around} {s : Shared} (a b : Str) (t u : Tok) : Ob.RcOp .LtE A s (.str a t) (.str b u) (decide (sl a ≤ sl b)) := fun _ _ _ _ h => PySem.P.le_str (by
  have e : (!decide (b.cps.toList < a.cps.toList)) = decide (sl a ≤ sl b) := by
    by_cases z : sl a ≤ sl b
    · rw [decide_eq_true z, decide_eq_false (List.not_lt.mpr z)]
      rfl
    · rw [decide_eq_false z, decide_eq_true (List.not_le.mp z)]
      rfl
  rw [e]
  exact h)
theorem op_le3 (hu : X.A.units < cLine) : OpR X (compareOp .LtE) rLe3 := by
  intro pins s σ H x y v u Q I rx ry h
  obtain ⟨a, b, m, n, rfl, rfl, ha, hb, q⟩ := h
  cases rx
  cases ry
  obtain ⟨its, r1, p1, _⟩ := I.tuple (SqT.of ha)
  obtain ⟨its2, r2, p2, _⟩ := I.tuple (SqT.of hb)
  obtain ⟨u1, u2, u3, rfl, ⟨t1, rfl⟩, ⟨t2, rfl⟩, ⟨t3, rfl⟩⟩ := vals_3 r1
  obtain ⟨v1, v2, v3, rfl, ⟨w1, rfl⟩, ⟨w2, rfl⟩, ⟨w3, rfl⟩⟩ := vals_3 r2
  have R := Ob.RcOp.tuples_le (A := X.A) (s := s) (e := fun j => if j = 0 then m.1 == n.1 else if j = 1 then m.2.1 == n.2.1 else m.2.2 == n.2.2)
    (r := fun j => if j = 0 then decide (m.1 ≤ n.1) else if j = 1 then decide (sl m.2.1 ≤ sl n.2.1) else decide (m.2.2 ≤ n.2.2)) p1 p2 hu (fun j h1 h2 => by
    match j, h1 with
    | 0, _ => exact SeqAt.EqAt.int_int _ _ _ _
    | 1, _ => exact SeqAt.EqAt.str_str _ _ _ _
    | 2, _ => exact SeqAt.EqAt.int_int _ _ _ _) (fun j h1 h2 _ => by
    match j, h1 with
    | 0, _ => exact Ob.RcOp.le_int _ _ _ _
    | 1, _ => exact RcOp.le_str _ _ _ _
    | 2, _ => exact Ob.RcOp.le_int _ _ _ _)
  have e3 : Ob.lexAt (fun j => if j = 0 then m.1 == n.1 else if j = 1 then m.2.1 == n.2.1 else m.2.2 == n.2.2)
    (fun j => if j = 0 then decide (m.1 ≤ n.1) else if j = 1 then decide (sl m.2.1 ≤ sl n.2.1) else decide (m.2.2 ≤ n.2.2)) (decide (3 ≤ 3)) 0 (min 3 3) = !lt3 n m := le_lex m n
  have z : wpAny (model X.prog X.w) X.A (compareOp .LtE (.ref a) (.ref b)) (EP X pins σ Q) X.xe s := R X.prog X.w X.xe (EP X pins σ Q) ⟨.bl _, H, I, rfl, by
    rw [← e3] at q
    exact q⟩
  exact z
end
end L2

set_option Elab.async false
set_option linter.all false
set_option maxRecDepth 100000
set_option maxHeartbeats 4000000
/-! The law's draws. -/
namespace K35
open PySem L2 L2.EV
def top (i : Nat) : Stmt := PySem.Challenge.pw_tornlines_k35_whole_files_explained.main.body.getD i (.Pass ⟨0, 0, 0, 0⟩)
abbrev sBegun : Stmt := top 36
abbrev sNext : Stmt := top 37
/-! ### data of ints -/
theorem canLay_ints : ∀ ns : List Int, PyData.canLayAll0 (ns.map PyData.int) = true
  | [] => by simp [PyData.canLayAll0]
  | n :: ns => by simp [PyData.canLayAll0, PyData.canLay0, canLay_ints ns]
theorem depth_ints : ∀ ns : List Int, PyData.depthAll (ns.map PyData.int) = 0
  | [] => by simp [PyData.depthAll]
  | n :: ns => by simp [PyData.depthAll, PyData.depth, depth_ints ns]
theorem shaped_ints (ns : List Int) : SeqAt.shaped (.list (ns.map PyData.int)) = true := by
  show (PyData.canLay0 (.list (ns.map PyData.int)) && decide (PyData.depth (.list (ns.map PyData.int)) ≤ 64)) = true
  rw [Bool.and_eq_true]
  refine ⟨by simp only [PyData.canLay0]; exact canLay_ints ns, decide_eq_true ?_⟩
  simp only [PyData.depth, depth_ints]
  omega
theorem dp_ints {K : PySem.W.Frag} {H : Hp} : ∀ ns : List Int, DpAll K H (ns.map V.int) (ns.map PyData.int)
  | [] => .nil
  | n :: ns => .cons (.int n) (dp_ints ns)
theorem dp_list {K : PySem.W.Frag} {H : Hp} {a : Addr} {ns : List Int} (h : H a = some (.lst (ns.map V.int))) : Dp K H (.ref a) (.list (ns.map PyData.int)) := .lst (SqL.of h) (dp_ints ns)
theorem eqv_nil (ns : List Int) : PyData.eqv (.list (ns.map PyData.int)) (.list []) = ns.isEmpty := by
  cases ns <;> simp [PyData.eqv, PyData.eqvAll]
/-! ### the draws' dict -/
def mkv (c l : Addr) (k : Int) : List (Key × V) := [(Sum.inr "cells", .ref c), (Sum.inr "left", .ref l), (Sum.inr "at", .int k)]
theorem n1 : ¬ (("cells" : Str) = "left") := by decide +kernel
theorem n2 : ¬ (("cells" : Str) = "at") := by decide +kernel
theorem n3 : ¬ (("left" : Str) = "at") := by decide +kernel
theorem n1' : ¬ (("left" : Str) = "cells") := by decide +kernel
theorem n2' : ¬ (("at" : Str) = "cells") := by decide +kernel
theorem n3' : ¬ (("at" : Str) = "left") := by decide +kernel
theorem k1 {a b : Str} (h : ¬ a = b) : ¬ ((Sum.inr a : Key) = Sum.inr b) := fun z => h (Sum.inr.inj z)
theorem v_cells (c l : Addr) (k : Int) : valV (mkv c l k) (Sum.inr "cells" : Key) = some (.ref c) := by simp [valV, mkv, List.find?_cons]
theorem v_left (c l : Addr) (k : Int) : valV (mkv c l k) (Sum.inr "left" : Key) = some (.ref l) := by simp [valV, mkv, List.find?_cons, n1]
theorem v_at (c l : Addr) (k : Int) : valV (mkv c l k) (Sum.inr "at" : Key) = some (.int k) := by simp [valV, mkv, List.find?_cons, n2, n3]
theorem p_left (c l l' : Addr) (k : Int) : putK (mkv c l k) (Sum.inr "left" : Key) (.ref l') = mkv c l' k := by simp [putK, mkv, n1, n3']
theorem p_at (c l : Addr) (k k' : Int) : putK (mkv c l k) (Sum.inr "at" : Key) (.int k') = mkv c l k' := by simp [putK, mkv, n2, n3]
theorem mk_merge (c l : Addr) (k : Int) : mergeK [] (mkv c l k) = mkv c l k := by simp [mergeK, putK, mkv, n1, n2, n3]
structure MAt (H : Hp) (m c l : Addr) (k : Int) : Prop where
  hm : H m = some (.dK (mkv c l k))
  hc : ∃ cs : List Int, H c = some (.lst (cs.map V.int)) ∧ cs.length ≤ 1000
  hl : ∃ ls : List Int, H l = some (.lst (ls.map V.int)) ∧ ls.length ≤ 1000
  ne : c ≠ l
  k0 : 0 ≤ k
  k1 : k ≤ 1000000
/-- a drawn number from 0 to n - 1; only the dict and its list of great cells have changed -/
def spNext : Sp := fun vs H Q _ => ∃ (m c l : Addr) (k n : Int), vs = [.ref m, .int n] ∧ MAt H m c l k ∧ 0 < n ∧ n < 1073741824 ∧ k < 1000000 ∧
  ∀ (r : Int) (H' : Hp) (l' : Addr) (k' : Int), 0 ≤ r → r < n → k' ≤ k + 1 → MAt H' m c l' k' → (l' = l ∨ H l' = none) → (∀ b o, H b = some o → b ≠ m → b ≠ l → H' b = some o) → Q (.int r) H'
/-- the beginning -/
def spBegun (K : PySem.W.Frag) : Sp := fun vs H Q _ => ∃ (a : Addr) (ns : List Int), vs = [.ref a] ∧ SqL K H a (ns.map V.int) ∧ ns.length ≤ 1000 ∧
  ∀ (m c l : Addr) (H' : Hp), MAt H' m c l 0 → H m = none → H c = none → H l = none → Same H H' → Q (.ref m) H'
structure TxtD (mg : Str → Option Value) : Prop where
  list : mg "list" = none
  int : mg "int" = none
  len : mg "len" = none
theorem same_upd {H : Hp} {p : Addr} {o : HO} (h : H p = none) : Same H (upd H p o) := fun b u e => by
  rw [upd_ne (ne_of_none e h)]
  exact e
theorem MAt.same {H H' : Hp} {m c l : Addr} {k : Int} (M : MAt H m c l k) (s : Same H H') : MAt H' m c l k := by
  obtain ⟨h1, ⟨cs, h2, h3⟩, ⟨ls, h4, h5⟩, h6, h7, h8⟩ := M
  exact ⟨s _ _ h1, ⟨cs, s _ _ h2, h3⟩, ⟨ls, s _ _ h4, h5⟩, h6, h7, h8⟩
theorem MAt.set {H : Hp} {m c l : Addr} {k : Int} {ls : List Int} (M : MAt H m c l k) (hz : ls.length ≤ 1000) : MAt (upd H l (.lst (ls.map V.int))) m c l k := by
  obtain ⟨h1, ⟨cs, h2, h3⟩, ⟨ls0, h4, h5⟩, h6, h7, h8⟩ := M
  have ml : m ≠ l := ne_of h1 h4 (fun z => by cases z)
  exact ⟨by rw [upd_ne ml]; exact h1, ⟨cs, by rw [upd_ne h6]; exact h2, h3⟩, ⟨ls, upd_same, hz⟩, h6, h7, h8⟩
/-- another list of great cells -/
theorem MAt.turn {H : Hp} {m c l p : Addr} {k : Int} {ls : List Int} (M : MAt H m c l k) (hp : H p = none) (hz : ls.length ≤ 1000) : MAt (upd (upd H p (.lst (ls.map V.int))) m (.dK (mkv c p k))) m c p k := by
  obtain ⟨h1, ⟨cs, h2, h3⟩, ⟨ls0, h4, h5⟩, h6, h7, h8⟩ := M
  have mp : p ≠ m := (ne_of_none h1 hp).symm
  have cp : c ≠ p := ne_of_none h2 hp
  have cm : c ≠ m := ne_of h2 h1 (fun z => by cases z)
  exact ⟨upd_same, ⟨cs, by rw [upd_ne cm, upd_ne cp]; exact h2, h3⟩, ⟨ls, by rw [upd_ne mp]; exact upd_same, hz⟩, cp, h7, h8⟩
/-- another counter -/
theorem MAt.count {H : Hp} {m c l : Addr} {k k' : Int} (M : MAt H m c l k) (h0 : 0 ≤ k') (h1' : k' ≤ 1000000) : MAt (upd H m (.dK (mkv c l k'))) m c l k' := by
  obtain ⟨h1, ⟨cs, h2, h3⟩, ⟨ls0, h4, h5⟩, h6, h7, h8⟩ := M
  have lm : l ≠ m := ne_of h4 h1 (fun z => by cases z)
  have cm : c ≠ m := ne_of h2 h1 (fun z => by cases z)
  exact ⟨upd_same, ⟨cs, by rw [upd_ne cm]; exact h2, h3⟩, ⟨ls0, by rw [upd_ne lm]; exact h4, h5⟩, h6, h0, h1'⟩
section
variable {K : PySem.W.Frag} {σ : St} {H : Hp} {m c l : Addr} {k : Int}
theorem rd_left {Q : VK} (h0 : σ[0]? = some (some (.ref m))) (M : MAt H m c l k) (q : Q (.ref l) H) : tDGet (tVar 0) (tC (.str "left")) σ H Q := by
  have z : DGet H m (.str "left") (valV (mkv c l k) (Sum.inr "left" : Key)) := DGet.k (k := Sum.inr "left") M.hm
  rw [v_left] at z
  exact ⟨_, h0, m, _, rfl, z, q⟩
theorem rd_cells {Q : VK} (h0 : σ[0]? = some (some (.ref m))) (M : MAt H m c l k) (q : Q (.ref c) H) : tDGet (tVar 0) (tC (.str "cells")) σ H Q := by
  have z : DGet H m (.str "cells") (valV (mkv c l k) (Sum.inr "cells" : Key)) := DGet.k (k := Sum.inr "cells") M.hm
  rw [v_cells] at z
  exact ⟨_, h0, m, _, rfl, z, q⟩
theorem rd_at {Q : VK} (h0 : σ[0]? = some (some (.ref m))) (M : MAt H m c l k) (q : Q (.int k) H) : tDGet (tVar 0) (tC (.str "at")) σ H Q := by
  have z : DGet H m (.str "at") (valV (mkv c l k) (Sum.inr "at" : Key)) := DGet.k (k := Sum.inr "at") M.hm
  rw [v_at] at z
  exact ⟨_, h0, m, _, rfl, z, q⟩
/-- a list of ints against the empty one -/
theorem ne_empty {Q : Bool → Hp → Prop} {a : Addr} {ls : List Int} (hl : H a = some (.lst (ls.map V.int))) (q : ∀ p, H p = none → Q (!ls.isEmpty) (upd H p (.lst []))) :
    tLst tNil σ H fun y H2 => rNeD K (.ref a) y H2 fun x H' => ∃ k, x = .bl k ∧ Q k H' := by
  refine ⟨by decide, fun p hp => ⟨.list (ls.map PyData.int), .list [], dp_list (same_upd hp _ _ hl), .lst (SqL.of upd_same) .nil, shaped_ints ls, shaped_ints [], _, rfl, ?_⟩⟩
  rw [eqv_nil]
  exact q p hp
theorem cut_one (ls : List Int) : cutV (ls.map V.int) (some 1) none = (ls.drop 1).map V.int := by
  unfold cutV
  have e1 : HT.sIx (ls.map V.int).length 0 (some 1) = min 1 (ls.map V.int).length := HT.sIx_nat _ _ 1
  rw [e1, HT.sIx_none]
  cases ls with
  | nil => rfl
  | cons x r =>
    have e2 : min 1 ((x :: r).map V.int).length = 1 := by simp
    rw [e2]
    show List.take ((x :: r).map V.int).length.pred (r.map V.int) = r.map V.int
    exact List.take_of_length_le (by simp)
end
theorem byAll {P : Int → Prop} {G : Prop} (a : (∀ x, P x) → G) (b : ∀ x, P x) : G := a b
theorem iteF' {b : Bool} {A B : Prop} (h : b = false) (q : B) : if b = true then A else B := by
  rw [h]
  exact iteF q
theorem iteT' {b : Bool} {A B : Prop} (h : b = true) (q : A) : if b = true then A else B := by
  rw [h]
  exact iteT q
theorem seq_while {tc : TT} {tb u : TS} {D : Ends} {σ : St} {H : Hp} (W : Nat → Hp → Prop) (R : Hp → Prop) {j0 : Nat} (h0 : W j0 H) (hr : ∀ H2, R H2 → u D σ H2)
    (turn : (∀ H2, R H2 → u D σ H2) → ∀ j H1, W j H1 → tc σ H1 fun b H2 => if b = true then
      ∃ N : St → Hp → Prop, (∀ σ' H', N σ' H' → ∃ j', j' < j ∧ (σ' = σ ∧ W j' H')) ∧ tb { nx := N, rt := D.rt, bk := u D, ct := N } σ H2 else u D σ H2) :
    tSeq (tWhile tc tb) u D σ H := by
  refine ⟨fun j σ' H' => σ' = σ ∧ W j H', ⟨j0, rfl, h0⟩, ?_⟩
  rintro j σ' H1 ⟨rfl, w⟩
  exact turn hr j H1 w
section
variable {P : Program} {w : World} {K : PySem.W.Frag} {mg : Str → Option Value} {base : Heap}
theorem scN : FnScope ["m", "total", "rest", "k", "cell", "mixed"] ["m", "total"] (defScope sNext) := ⟨rfl, rfl, rfl, by decide +kernel, rfl, by decide +kernel, by decide +kernel⟩
theorem ok_next {f : Addr} {fd : FuncData} (F : Fun K "_law_next" "_law_next" sNext f fd) (T : TxtD mg) : FnOk P w K mg base CX0 1 f fd ["m", "total"] spNext := by
  refine F.ok scN (fun vs H Q E h => ?_) (fun cdv A outer s H vs Q E hr h => ?_)
  · obtain ⟨m, c, l, k, n, rfl, _⟩ := h
    rfl
  · obtain ⟨m, c, l, k, n, rfl, M, n0, n1, kk, q⟩ := h
    have hu := hu_of hr
    have hu2 := hr.units
    refine ⟨_, pss_cons (ps_while PassesOwn.never
        (pw_and (pt_cmpR (op_neD hu2) (pe_dget hu (pv 0) pe_str (fun _ _ => rfl)) (pe_lst pa_nil) (nomark _))
          (pw_and1 (pt_cmpR op_eq (pe_ix ix_list (pe_dget hu (pv 0) pe_str (fun _ _ => rfl)) pe_int (fun _ _ => rfl)) pe_int (nomark _)))).pt
        (pss_one (ps_dput hu (pv 0) pe_str (pe_slice sl_list (pe_dget hu (pv 0) pe_str (fun _ _ => rfl)) (po_some pe_int) po_none) rfl)))
      (pss_cons (ps_if (pt_cmpR (op_neD hu2) (pe_dget hu (pv 0) pe_str (fun _ _ => rfl)) (pe_lst pa_nil) (nomark _))
        (pss_cons (ps_set (i := 2) scN.nd rfl (Or.inl rfl) (pe_callTy call_int1 (by rfl) T.int (by decide +kernel) (pa_cons (pe_ix ix_list (pe_dget hu (pv 0) pe_str (fun _ _ => rfl)) pe_int (fun _ _ => rfl)) pa_nil)))
        (pss_cons (ps_asg (pe_op op_fdiv (pv 2) (pv 1)) (pg_sub (pe_dget hu (pv 0) pe_str (fun _ _ => rfl)) pe_int set_list))
        (pss_one (ps_ret (pe_op op_mod (pv 2) (pv 1)))))) pss_nil)
      (pss_cons (ps_set (i := 3) scN.nd rfl (Or.inl rfl) (pe_op op_add (pe_dget hu (pv 0) pe_str (fun _ _ => rfl)) pe_int))
      (pss_cons (ps_dput hu (pv 0) pe_str (pv 3) rfl)
      (pss_cons (ps_set (i := 4) scN.nd rfl (Or.inl rfl) (pe_ifExp (pt_cmpR (op_neD hu2) (pe_dget hu (pv 0) pe_str (fun _ _ => rfl)) (pe_lst pa_nil) (nomark _))
        (pe_ix ix_list (pe_dget hu (pv 0) pe_str (fun _ _ => rfl))
          (pe_op op_mod (pe_callTy call_int1 (by rfl) T.int (by decide +kernel) (pa_cons (pv 3) pa_nil)) (pe_callB call_len_seq (by rfl) T.len PySem.boot_len (pa_cons (pe_dget hu (pv 0) pe_str (fun _ _ => rfl)) pa_nil))) (fun _ _ => rfl))
        pe_int))
      (pss_cons (ps_set (i := 5) scN.nd rfl (Or.inl rfl) (pe_op op_mul (pe_callTy call_int1 (by rfl) T.int (by decide +kernel) (pa_cons
        (pe_op op_add (pe_op op_add (pe_op op_mod (pe_callTy call_int1 (by rfl) T.int (by decide +kernel) (pa_cons (pv 4) pa_nil)) pe_int) (pe_op op_mul pe_int (pv 3))) (pe_op op_mul (pe_op op_mul pe_int (pv 3)) (pv 3))) pa_nil)) pe_int))
      (pss_cons (ps_set (i := 5) scN.nd rfl (Or.inl rfl) (pe_op op_mul (pe_callTy call_int1 (by rfl) T.int (by decide +kernel) (pa_cons
        (pe_op op_add (pe_op op_mod (pe_callTy call_int1 (by rfl) T.int (by decide +kernel) (pa_cons (pv 5) pa_nil)) pe_int) (pe_op op_mul pe_int (pv 3))) pa_nil)) pe_int))
      (pss_one (ps_ret (pe_op op_mod (pe_callTy call_int1 (by rfl) T.int (by decide +kernel) (pa_cons
        (pe_op op_fdiv (pe_op op_mod (pe_callTy call_int1 (by rfl) T.int (by decide +kernel) (pa_cons (pv 5) pa_nil)) pe_int) pe_int) pa_nil)) (pv 1)))))))))), ?_⟩
    obtain ⟨ls0, hl0, ll0⟩ := id M.hl
    refine seq_while (fun j H1 => ∃ (l1 : Addr) (ls : List Int), MAt H1 m c l1 k ∧ H1 l1 = some (.lst (ls.map V.int)) ∧ ls.length = j ∧ (l1 = l ∨ H l1 = none) ∧ (∀ b o, H b = some o → b ≠ m → b ≠ l → H1 b = some o) ∧ ∃ o, H1 l = some o)
      (fun H1 => ∃ (l1 : Addr) (ls : List Int), MAt H1 m c l1 k ∧ H1 l1 = some (.lst (ls.map V.int)) ∧ (l1 = l ∨ H l1 = none) ∧ (∀ b o, H b = some o → b ≠ m → b ≠ l → H1 b = some o))
      ⟨l, ls0, M, hl0, rfl, .inl rfl, fun b o e _ _ => e, _, hl0⟩ ?_ ?_
    · rintro H1 ⟨l1, ls, M1, hl, fl, kp⟩
      refine rd_left rfl M1 (ne_empty hl fun p hp => ?_)
      have M2 := MAt.same M1 (same_upd (o := .lst []) hp)
      have hl2 : upd H1 p (.lst []) l1 = some (.lst (ls.map V.int)) := same_upd hp _ _ hl
      cases ls with
      | cons x r =>
        refine iteT' rfl ?_
        refine rd_left rfl M2 ?_
        refine ⟨l1, _, 0, .int x, rfl, rfl, SqL.of hl2, atI_nat (j := 0) rfl, .inl ⟨x, rfl, ?_⟩⟩
        refine ⟨_, rfl, _, rfl, x, n, rfl, rfl, ⟨n0, by omega⟩, ?_⟩
        refine rd_left rfl M2 ?_
        refine ⟨l1, _, 0, 0, rfl, rfl, hl2, by simp [ixN], ?_⟩
        refine ⟨_, rfl, _, rfl, x, n, rfl, rfl, n0, ?_⟩
        show Q (.int (x % n)) _
        have hz : ((x / n) :: r).length ≤ 1000 := by
          obtain ⟨ls', e1, e2⟩ := M2.hl
          rw [hl2] at e1
          have e3 := congrArg List.length (HO.lst.inj (Option.some.inj e1))
          simp only [List.length_map] at e3
          rw [List.length_cons] at e3 ⊢
          omega
        refine q (x % n) _ l1 k (Int.emod_nonneg _ (by omega)) (Int.emod_lt_of_pos _ n0) (by omega) (M2.set hz) fl fun b o e h1 h2 => ?_
        have h3 : b ≠ l1 := by
          rcases fl with z | z
          · rw [z]
            exact h2
          · exact ne_of_none e z
        rw [upd_ne h3]
        exact same_upd hp _ _ (kp b o e h1 h2)
      | nil =>
        refine iteF' rfl ?_
        refine rd_at rfl M2 ⟨k, 1, rfl, rfl, ?_⟩
        refine ⟨_, rfl, _, rfl, m, _, rfl, DPut.k (k := Sum.inr "at") M2.hm (small1000 (by show 3 ≤ 1000; decide)), ?_⟩
        rw [p_at]
        have M3 := M2.count (k' := k + 1) (by have := M2.k0; omega) (by omega)
        obtain ⟨cs, hc, lc⟩ := id M3.hc
        have k0 := M.k0
        have kp3 : ∀ b o, H b = some o → b ≠ m → b ≠ l → upd (upd H1 p (.lst [])) m (.dK (mkv c l1 (k + 1))) b = some o := fun b o e h1 h2 => by
          rw [upd_ne h1]
          exact same_upd hp _ _ (kp b o e h1 h2)
        refine rd_cells rfl M3 (ne_empty hc fun p3 hp3 => ?_)
        have M4 := MAt.same M3 (same_upd (o := .lst []) hp3)
        have hc4 := same_upd (o := .lst []) hp3 _ _ hc
        have kp4 : ∀ b o, H b = some o → b ≠ m → b ≠ l → upd (upd (upd H1 p (.lst [])) m (.dK (mkv c l1 (k + 1)))) p3 (.lst []) b = some o := fun b o e h1 h2 => same_upd hp3 _ _ (kp3 b o e h1 h2)
        apply byAll
        case a =>
          intro fin
          by_cases he : cs.isEmpty = true
          · refine iteF' (by rw [he]; rfl) ?_
            generalize (3 : Int) = x
            exact fin x
          · refine iteT' (by simpa using he) ?_
            refine rd_cells rfl M4 ?_
            have ne0 : 0 < cs.length := List.length_pos_iff.mpr (fun z => he (by rw [z]; rfl))
            have pos : (0 : Int) < ((cs.map V.int).length : Nat) := by
              simp only [List.length_map]
              omega
            refine ⟨_, rfl, .inl ⟨k + 1, rfl, ?_⟩⟩
            refine rd_cells rfl M4 ?_
            refine ⟨c, _, rfl, .inl (SqL.of hc4), k + 1, _, rfl, rfl, pos, ?_⟩
            have i0 := Int.emod_nonneg (k + 1) (Int.ne_of_gt pos)
            have i1 := Int.emod_lt_of_pos (k + 1) pos
            obtain ⟨j, hj⟩ := Int.eq_ofNat_of_zero_le i0
            have jl : j < cs.length := by
              simp only [List.length_map] at i1 hj
              omega
            obtain ⟨x, hx⟩ : ∃ x : Int, cs[j]? = some x := ⟨cs[j], List.getElem?_eq_getElem jl⟩
            refine ⟨c, _, _, V.int x, rfl, rfl, SqL.of hc4, ?_, ?_⟩
            · rw [hj]
              refine atI_nat ?_
              rw [List.getElem?_map, hx]
              rfl
            · exact fin x
        case b =>
          intro x
          have k2 : -(2 ^ 64) < k + 1 ∧ k + 1 < 2 ^ 64 := ⟨by omega, by omega⟩
          refine ⟨_, rfl, .inl ⟨x, rfl, _, _, rfl, rfl, (by show (0 : Int) < 2147483629; decide), _, rfl, _, _, rfl, rfl, .inl ⟨by decide, by decide⟩, _, _, rfl, rfl, _, rfl, _, _, rfl, rfl, .inl ⟨by decide, by decide⟩,
            _, rfl, _, _, rfl, rfl, .inr k2, _, _, rfl, rfl, .inl ⟨_, rfl, _, _, rfl, rfl, .inr ⟨by decide, by decide⟩, ?_⟩⟩⟩
          refine ⟨_, rfl, .inl ⟨_, rfl, _, _, rfl, rfl, (by show (0 : Int) < 2147483647; decide), _, rfl, _, _, rfl, rfl, .inl ⟨by decide, by decide⟩, _, _, rfl, rfl, .inl ⟨_, rfl, _, _, rfl, rfl, .inr ⟨by decide, by decide⟩, ?_⟩⟩⟩
          refine ⟨_, rfl, .inl ⟨_, rfl, _, _, rfl, rfl, (by show (0 : Int) < 2147483587; decide), _, _, rfl, rfl, ⟨by decide, by decide⟩, .inl ⟨_, rfl, _, rfl, _, _, rfl, rfl, n0, ?_⟩⟩⟩
          exact q _ _ l1 (k + 1) (Int.emod_nonneg _ (by omega)) (Int.emod_lt_of_pos _ n0) (by omega) M4 fl kp4
    · rintro out j H1 ⟨l1, ls, M1, hl, lj, fl, kp, lo⟩
      refine rd_left rfl M1 (ne_empty hl fun p hp => ?_)
      have M2 := MAt.same M1 (same_upd (o := .lst []) hp)
      have hl2 : upd H1 p (.lst []) l1 = some (.lst (ls.map V.int)) := same_upd hp _ _ hl
      have kp2 : ∀ b o, H b = some o → b ≠ m → b ≠ l → upd H1 p (.lst []) b = some o := fun b o e h1 h2 => same_upd hp _ _ (kp b o e h1 h2)
      have lo2 : ∃ o, upd H1 p (.lst []) l = some o := lo.elim fun o e => ⟨o, same_upd hp _ _ e⟩
      cases ls with
      | nil =>
        refine iteF' rfl (iteF' rfl ?_)
        exact out _ ⟨l1, [], M2, hl2, fl, kp2⟩
      | cons x r =>
        refine iteT' rfl (rd_left rfl M2 ⟨l1, _, 0, .int x, rfl, rfl, SqL.of hl2, atI_nat (j := 0) rfl, rfl, _, rfl, ?_⟩)
        refine ite2 (fun z => ?_) (fun z => ?_)
        · refine ⟨_, fun _ _ z => z, ?_⟩
          refine rd_left rfl M2 ⟨1, rfl, l1, _, rfl, SqL.of hl2, fun p2 hp2 => ?_⟩
          have M3 : MAt (upd (upd H1 p (.lst [])) p2 (.lst (cutV ((x :: r).map V.int) (some 1) none))) m c l1 k := MAt.same M2 (same_upd hp2)
          refine ⟨_, rfl, m, _, rfl, DPut.k (k := Sum.inr "left") M3.hm (small1000 (by show 3 ≤ 1000; decide)), ?_⟩
          rw [p_left, cut_one]
          have hz : ((x :: r).drop 1).length ≤ 1000 := by
            obtain ⟨ls', e1, e2⟩ := M2.hl
            rw [hl2] at e1
            have e3 := congrArg List.length (HO.lst.inj (Option.some.inj e1))
            simp only [List.length_map] at e3
            rw [List.length_cons] at e3
            simp only [List.drop_succ_cons, List.drop_zero]
            omega
          have mp : p2 ≠ m := (ne_of_none M2.hm hp2).symm
          refine ⟨r.length, by rw [← lj]; simp, rfl, p2, r, M2.turn hp2 hz, by rw [upd_ne mp]; exact upd_same, rfl, .inr ?_, fun b o e h1 h2 => ?_, ?_⟩
          · cases q0 : H p2 with
            | none => rfl
            | some o =>
              have a2 : p2 ≠ l := by
                obtain ⟨o, e⟩ := lo2
                exact (ne_of_none e hp2).symm
              rw [kp2 p2 o q0 mp a2] at hp2
              cases hp2
          · rw [upd_ne h1]
            exact same_upd hp2 _ _ (kp2 b o e h1 h2)
          · obtain ⟨o, e⟩ := lo2
            refine ⟨o, ?_⟩
            by_cases lm : l = m
            · subst lm
              rw [M.hm] at hl0
              cases hl0
            · rw [upd_ne lm]
              exact same_upd hp2 _ _ e
        · exact out _ ⟨l1, x :: r, M2, hl2, fl, kp2⟩
theorem scB : FnScope ["script", "cell"] ["script"] (defScope sBegun) := ⟨rfl, rfl, rfl, by decide +kernel, rfl, by decide +kernel, by decide +kernel⟩
theorem ok_begun {f : Addr} {fd : FuncData} (F : Fun K "_law_begun" "_law_begun" sBegun f fd) (T : TxtD mg) : FnOk P w K mg base CX0 1 f fd ["script"] (spBegun K) := by
  refine F.ok scB (fun vs H Q E h => ?_) (fun cdv A outer s H vs Q E hr h => ?_)
  · obtain ⟨a, ns, rfl, _⟩ := h
    rfl
  · obtain ⟨a, ns, rfl, hS, hl, q⟩ := h
    refine ⟨_, pss_one (ps_ret (pe_disp (pps_cons pe_str (pe_callTy call_list_of (by rfl) T.list (by decide +kernel) (pa_cons (pv 0) pa_nil))
      (pps_cons pe_str (pe_lc (own := [("cell", 1)]) (g := gName 1) rfl scB.nd (pi_list (pv 0)) (blkOk_by (N := ["script", "cell"]) (sc := defScope sBegun) (by decide +kernel))
        (fun _ _ _ _ _ => pg_name (i := 1) scB.nd rfl (Or.inl rfl)) (fun _ _ _ _ _ => pts_one (pt_cmpR op_ge (pv 1) (pe_op op_pow pe_int pe_int) (nomark _))) (fun _ _ _ _ _ => pv 1))
      (pps_cons pe_str pe_int pps_nil))) rfl rfl (by simp) (by decide))), ?_⟩
    intro m hm
    have s1 : Same H (upd H m (.dK [])) := same_upd hm
    refine ⟨_, rfl, a, ns.map V.int, rfl, .inl (s1.seq hS), fun c hc => ?_⟩
    have s2 := s1.trans (same_upd (o := .lst (ns.map V.int)) hc)
    refine ⟨_, rfl, a, rfl, ⟨_, s2.seq hS⟩, fun l hl0 => ?_⟩
    have mc : m ≠ c := ne_of_none upd_same hc
    have hm2 : upd (upd H m (.dK [])) c (.lst (ns.map V.int)) m = some (.dK []) := by
      rw [upd_ne mc]
      exact upd_same
    have ml : m ≠ l := ne_of_none hm2 hl0
    have cl : c ≠ l := ne_of_none (upd_same) hl0
    refine lc_list (K := K) (a := a) (xs := ns.map V.int) (fun i H' => ∃ acc : List Int, H' l = some (.lst (acc.map V.int)) ∧ acc.length ≤ i ∧ ∀ b o, upd (upd H m (.dK [])) c (.lst (ns.map V.int)) b = some o → H' b = some o)
      ⟨[], upd_same, Nat.le_refl _, fun b o e => same_upd hl0 _ _ e⟩ (fun i H' _ ⟨acc, _, _, k⟩ => Same.seq (s2.trans k) hS) ?_ ?_
    · rintro i x H' hi ⟨acc, ha, la, kp⟩
      obtain ⟨z, rfl⟩ : ∃ z, x = V.int z := by
        rw [List.getElem?_map] at hi
        cases e : ns[i]? with
        | none =>
          rw [e] at hi
          cases hi
        | some z =>
          rw [e] at hi
          exact ⟨z, (Option.some.inj hi).symm⟩
      have il : i < ns.length := by
        have := (List.getElem?_eq_some_iff.mp hi).1
        simpa using this
      refine ⟨rfl, _, rfl, 10, 18, rfl, rfl, ⟨by decide, by decide, by decide⟩, _, _, rfl, rfl, _, rfl, ?_⟩
      refine ite2 (fun _ => ⟨_, rfl, acc.map V.int, ha, ?_, acc ++ [z], ?_, ?_, fun b o e => ?_⟩) (fun _ => ⟨acc, ha, Nat.le_succ_of_le la, kp⟩)
      · rw [List.length_map]
        exact small1000 (by omega)
      · rw [List.map_append]
        exact upd_same
      · simp only [List.length_append, List.length_cons, List.length_nil]
        omega
      · rw [upd_ne (ne_of_none e hl0)]
        exact kp b o e
    · rintro H' ⟨acc, ha, la, kp⟩
      rw [List.length_map] at la
      refine ⟨kp _ _ hm2, mkv c l 0, rfl, (by show 3 ≤ 15; decide), ?_⟩
      rw [mk_merge]
      have lm : l ≠ m := ml.symm
      have cm : c ≠ m := mc.symm
      refine q m c l _ ⟨upd_same, ⟨ns, by rw [upd_ne cm]; exact kp _ _ upd_same, hl⟩, ⟨acc, by rw [upd_ne lm]; exact ha, by omega⟩, cl, by decide, by decide⟩ hm (s1.free hc) (s2.free hl0) fun b o e => ?_
      rw [upd_ne (ne_of_none e hm)]
      exact kp _ _ (s2 _ _ e)
end
end K35

set_option Elab.async false
set_option linter.all false
set_option maxRecDepth 100000
set_option maxHeartbeats 4000000
/-! is_number, is_piece, is_step: of what a framing holds. -/
namespace K35
open PySem L2 L2.EV
abbrev sNum : Stmt := top 9
abbrev sPc : Stmt := top 10
abbrev sStep : Stmt := top 11
def sgs : List Nat := sl ("abcdefghijklmnopqrstuvwxyz0123456789@" : Str)
theorem no59 : ¬ (59 ∈ sgs) := by decide +kernel
theorem semi : sl (";" : Str) = [59] := by decide +kernel
theorem semi1 : (";" : Str).length = 1 := by decide +kernel
/-- a piece; it ends a line if last -/
def Pc (p : Str) (last : Bool) : Prop := ∃ b : List Nat, sl p = b ++ (if last = true then [59] else []) ∧ b.length ≤ 7 ∧ (∀ c ∈ b, c ∈ sgs) ∧ (last = false → b ≠ [])
theorem len_sl (p : Str) : p.length = (sl p).length := by
  show p.cps.size = p.cps.toList.length
  simp
theorem pc_len {p : Str} {l : Bool} (h : Pc p l) : 1 ≤ p.length ∧ p.length ≤ 8 := by
  obtain ⟨b, e, h1, _, h2⟩ := h
  rw [len_sl, e, List.length_append]
  cases l with
  | true =>
    rw [if_pos rfl]
    simp only [List.length_cons, List.length_nil]
    omega
  | false =>
    have := List.length_pos_iff.mpr (h2 rfl)
    rw [if_neg (by simp)]
    simp only [List.length_nil]
    omega
theorem at_end {p : Str} : Builtin.Str.subAt p ";" (p.length - (";" : Str).length) = (((sl p).drop ((sl p).length - 1)).take 1 == [59]) := by
  rw [StrLaws.subAt_eq, semi1, len_sl]
  show (((sl p).drop _).take 1 == sl (";" : Str)) = _
  rw [semi]
theorem pc_last {p : Str} {l : Bool} (h : Pc p l) : (decide (0 + (";" : Str).length ≤ p.length) && Builtin.Str.subAt p ";" (p.length - (";" : Str).length)) = l := by
  have z := pc_len h
  rw [at_end]
  have d : decide (0 + (";" : Str).length ≤ p.length) = true := decide_eq_true (by rw [semi1]; omega)
  rw [d, Bool.true_and]
  obtain ⟨b, e, h1, hb, h2⟩ := h
  rw [e]
  cases l with
  | true =>
    rw [if_pos rfl]
    simp
  | false =>
    rw [if_neg (by simp), List.append_nil]
    obtain ⟨M, y, rfl⟩ := SrtO.snoc_of (l := b) (List.length_pos_iff.mpr (h2 rfl))
    have hy : y ∈ sgs := hb y (by simp)
    have ne : ¬ y = 59 := fun q => no59 (q ▸ hy)
    simp [ne]
theorem pc_ends {p : Str} {l : Bool} (h : Pc p l) : Txt.endswith p ";" = l := pc_last h
theorem pc_cut {p : Str} {l : Bool} (h : Pc p l) : ∀ c ∈ sl (Txt.removesuffix p ";"), c ∈ sgs := by
  have z := pc_last h
  rw [StrLaws.removesuffix_eq]
  rw [show (decide (0 + (";" : Str).length ≤ p.length) && Builtin.Str.subAt p ";" (p.length - (";" : Str).length)) = l from z]
  obtain ⟨b, e, h1, hb, h2⟩ := h
  intro c hc
  cases l with
  | true =>
    rw [if_pos rfl] at hc e
    rw [semi1, len_sl] at hc
    have e' : p.cps.toList = b ++ [59] := e
    simp only [e, e', List.drop_zero, List.length_append, List.length_cons, List.length_nil] at hc
    have : (b ++ [59]).take (b.length + (0 + 1) - 1 - 0) = b := by simp
    rw [this] at hc
    exact hb c (by simpa using hc)
  | false =>
    rw [if_neg (by simp)] at hc
    rw [e, if_neg (by simp), List.append_nil] at hc
    exact hb c hc
/-- is_number(n, many) -/
def spNum : Sp := fun vs H Q _ => ∃ n m : Int, vs = [.int n, .int m] ∧ Q (.bl (decide (0 ≤ n) && decide (n < m))) H
/-- is_piece(p), p a piece -/
def spPc : Sp := fun vs H Q _ => ∃ (p : Str) (l : Bool), vs = [.str p] ∧ Pc p l ∧ ∀ H', Same H H' → Q (.bl true) H'
/-- what a step is -/
def Stp (x : T3) : Prop := 0 ≤ x.1 ∧ x.1 < 6 ∧ Pc x.2.1 (decide (x.2.2 = 0)) ∧ 0 ≤ x.2.2 ∧ x.2.2 < 6
/-- a step at t -/
abbrev S3 (H : Hp) (t : Addr) (x : T3) : Prop := H t = some (.tup [.int x.1, .str x.2.1, .int x.2.2])
def spStep : Sp := fun vs H Q _ => ∃ (t : Addr) (x : T3), vs = [.ref t] ∧ S3 H t x ∧ Stp x ∧ ∀ H', Same H H' → Q (.bl true) H'
structure TxtF (mg : Str → Option Value) : Prop where
  isi : mg "isinstance" = none
  int : mg "int" = none
  bool : mg "bool" = none
  str : mg "str" = none
  tuple : mg "tuple" = none
  len : mg "len" = none
  all : mg "all" = none
  signs : ∃ t, mg "SIGNS" = some (.str "abcdefghijklmnopqrstuvwxyz0123456789@" t)
  mSigns : ∃ t, mg "MOST_SIGNS" = some (.int 8 t)
  many : ∃ t, mg "MANY_STANDINGS" = some (.int 6 t)
section
variable {P : Program} {w : World} {K : PySem.W.Frag} {mg : Str → Option Value} {base : Heap}
theorem scNum : FnScope ["thing", "many"] ["thing", "many"] (defScope sNum) := ⟨rfl, rfl, rfl, by decide +kernel, rfl, by decide +kernel, by decide +kernel⟩
theorem ok_num {f : Addr} {fd : FuncData} (F : Fun K "is_number" "is_number" sNum f fd) (T : TxtF mg) : FnOk P w K mg base CX0 1 f fd ["thing", "many"] spNum := by
  refine F.ok scNum (fun vs H Q E h => ?_) (fun cdv A outer s H vs Q E hr h => ?_)
  · obtain ⟨n, m, rfl, _⟩ := h
    rfl
  · obtain ⟨n, m, rfl, q⟩ := h
    refine ⟨_, pss_one (ps_ret (pe_and (pe_callB call_isi (by rfl) T.isi PyProof.Rows.boot_isinstance (pa_cons (pv 0) (pa_cons (pe_bltn (v := .ty "int") (by rfl) T.int (by decide +kernel) rfl) pa_nil)))
      (pe_and (pe_not (pe_callB call_isi (by rfl) T.isi PyProof.Rows.boot_isinstance (pa_cons (pv 0) (pa_cons (pe_bltn (v := .ty "bool") (by rfl) T.bool (by decide +kernel) rfl) pa_nil))))
        (pe_one (pe_chain op_le op_lt pe_int (pv 0) (pv 1)))))), ?_⟩
    refine ⟨_, rfl, .int n, .ty "int", .type "int", .type "int", true, rfl, .ty "int", .base (.int n), kit_ty (by decide +kernel), true, rfl, iteT ?_⟩
    refine ⟨_, rfl, .int n, .ty "bool", .type "int", .type "bool", false, rfl, .ty "bool", .base (.int n), kit_ty (by decide +kernel), false, rfl, true, rfl, iteT ?_⟩
    refine ⟨_, rfl, 0, n, rfl, rfl, _, rfl, ?_⟩
    refine ite2 (fun z => ?_) (fun z => ?_)
    · refine ⟨_, rfl, n, m, rfl, rfl, ?_⟩
      rw [z, Bool.true_and] at q
      exact q
    · rw [eq_false_of_ne_true z, Bool.false_and] at q
      exact q
theorem scPc : FnScope ["thing", "sign"] ["thing"] (defScope sPc) := ⟨rfl, rfl, rfl, by decide +kernel, rfl, by decide +kernel, by decide +kernel⟩
theorem ok_pc {f : Addr} {fd : FuncData} (F : Fun K "is_piece" "is_piece" sPc f fd) (T : TxtF mg) : FnOk P w K mg base CX0 1 f fd ["thing"] spPc := by
  refine F.ok scPc (fun vs H Q E h => ?_) (fun cdv A outer s H vs Q E hr h => ?_)
  · obtain ⟨p, l, rfl, _⟩ := h
    rfl
  · obtain ⟨p, l, rfl, hp, q⟩ := h
    obtain ⟨ts, eS⟩ := T.signs
    obtain ⟨tm, eM⟩ := T.mSigns
    refine ⟨_, pss_cons (ps_if (pw_or (pt_not (pt_val (pe_callB call_isi (by rfl) T.isi PyProof.Rows.boot_isinstance (pa_cons (pv 0) (pa_cons (pe_bltn (v := .ty "str") (by rfl) T.str (by decide +kernel) rfl) pa_nil)))))
        (pw_or1 (pt_not (pt_chain op_le op_le pe_int (pe_callB call_len_str (by rfl) T.len PySem.boot_len (pa_cons (pv 0) pa_nil)) (pe_glob (v := .int 8) (by rfl) eM ⟨_, rfl⟩))))).pt
        (pss_one (ps_ret pe_bl)) pss_nil)
      (pss_one (ps_ret (pe_callB (cr_all rfl) (by rfl) T.all (by decide +kernel) (pa_cons (pe_lc (own := [("sign", 1)]) (g := gName 1) rfl scPc.nd
        (pi_str (pe_m1 PySem.F.slot_str_removesuffix PySem.F.type_str_removesuffix mt_removesuffix (pv 0) pe_str)) (blkOk_by (N := ["thing", "sign"]) (sc := defScope sPc) (by decide +kernel))
        (fun _ _ _ _ _ => pg_name (i := 1) scPc.nd rfl (Or.inl rfl)) (fun _ _ _ _ _ => pts_nil) (fun _ _ _ _ _ => pe_cmpR op_in_sign (pv 1) (pe_glob (v := .str "abcdefghijklmnopqrstuvwxyz0123456789@") (by rfl) eS ⟨_, rfl⟩) (by rfl))) pa_nil)))), ?_⟩
    have z := pc_len hp
    refine ⟨_, rfl, .str p, .ty "str", .type "str", .type "str", true, rfl, .ty "str", .base (.str p), kit_ty (by decide +kernel), true, rfl, iteF ?_⟩
    refine ⟨.str p, rfl, p, rfl, by rw [sizeLine_eq]; omega, 1, p.length, rfl, rfl, _, rfl, iteT' (decide_eq_true (by omega)) ⟨p.length, 8, rfl, rfl, _, rfl, ?_⟩⟩
    refine iteF' (by rw [decide_eq_true (by omega)]; rfl) ?_
    refine ⟨_, rfl, ⟨p, rfl⟩, p, ";", rfl, rfl, by rw [sizeLine_eq]; omega, _, rfl, fun D hD => ?_⟩
    refine lc_it walk_str (fun i H' => H' D = some (.lst ((List.replicate i true).map V.bl)) ∧ ∀ b o, H b = some o → H' b = some o) ⟨upd_same, fun b o z => same_upd hD b o z⟩ (fun _ _ _ _ => trivial) ?_ ?_
    · rintro i x H1 H2 hi ⟨hl, kp⟩ ⟨rfl, c, hc, rfl⟩
      refine ⟨rfl, ⟨_, rfl, c, _, rfl, rfl, ?_⟩⟩
      have hm : c ∈ sgs := pc_cut hp c (List.mem_of_getElem? (by simpa using hc))
      refine ⟨_, hl, ?_, ?_, fun b o z => ?_⟩
      · rw [List.length_map, List.length_replicate, sizeLine_eq]
        have l1 := PyProof.Rows.len_removesuffix p ";"
        have l2 : (Txt.removesuffix p ";").cps.size = (Txt.removesuffix p ";").length := rfl
        omega
      · have e : decide (c ∈ ("abcdefghijklmnopqrstuvwxyz0123456789@" : Str).cps.toList) = true := decide_eq_true hm
        rw [e, List.replicate_succ', List.map_append]
        exact upd_same
      · rw [upd_ne (ne_of_none z hD)]
        exact kp b o z
    · rintro H1 ⟨hl, kp⟩
      refine ⟨D, _, rfl, SqL.of hl, ?_⟩
      rw [show (List.replicate (Txt.removesuffix p ";").cps.size true).all id = true by simp]
      exact q H1 kp
theorem scStep : FnScope ["thing", "start", "piece", "goal"] ["thing"] (defScope sStep) := ⟨rfl, rfl, rfl, by decide +kernel, rfl, by decide +kernel, by decide +kernel⟩
theorem ok_step {f fN fP : Addr} {fd fdN fdP : FuncData} (F : Fun K "is_step" "is_step" sStep f fd) (T : TxtF mg) (FN : Fun K "is_number" "is_number" sNum fN fdN) (bN : Binds K fdN ["thing", "many"] []) (mN : mg "is_number" = some (.ref fN))
    (FP : Fun K "is_piece" "is_piece" sPc fP fdP) (bP : Binds K fdP ["thing"] []) (mP : mg "is_piece" = some (.ref fP)) : FnOk P w K mg base CX0 2 f fd ["thing"] spStep := by
  have GN : FnOk P w K mg base CX0 1 fN fdN ["thing", "many"] spNum := ok_num FN T
  have GP : FnOk P w K mg base CX0 1 fP fdP ["thing"] spPc := ok_pc FP T
  refine F.ok scStep (fun vs H Q E h => ?_) (fun cdv A outer s H vs Q E hr h => ?_)
  · obtain ⟨t, x, rfl, _⟩ := h
    rfl
  · obtain ⟨t, x, rfl, e, hx, q⟩ := h
    obtain ⟨tm, eM⟩ := T.many
    refine ⟨_, pss_cons (ps_if (pw_or (pt_not (pt_val (pe_callB call_isi (by rfl) T.isi PyProof.Rows.boot_isinstance (pa_cons (pv 0) (pa_cons (pe_bltn (v := .ty "tuple") (by rfl) T.tuple (by decide +kernel) rfl) pa_nil)))))
        (pw_or1 (pt_cmpR op_ne (pe_callB call_len_seq (by rfl) T.len PySem.boot_len (pa_cons (pv 0) pa_nil)) pe_int (nomark _)))).pt
        (pss_one (ps_ret pe_bl)) pss_nil)
      (pss_cons (ps_asg (pv 0) (pg_tup rfl (pgs_cons (pg_name (i := 1) scStep.nd rfl (Or.inl rfl)) (pgs_cons (pg_name (i := 2) scStep.nd rfl (Or.inl rfl)) (pgs_cons (pg_name (i := 3) scStep.nd rfl (Or.inl rfl)) pgs_nil)))))
      (pss_cons (ps_if (pw_or (pt_not (pt_val (pe_call GN hr (by rfl) mN FN.kp bN .nil pass0 (pa_cons (pv 1) (pa_cons (pe_glob (v := .int 6) (by rfl) eM ⟨_, rfl⟩) pa_nil)))))
        (pw_or (pt_not (pt_val (pe_call GP hr (by rfl) mP FP.kp bP .nil pass0 (pa_cons (pv 2) pa_nil))))
          (pw_or1 (pt_not (pt_val (pe_call GN hr (by rfl) mN FN.kp bN .nil pass0 (pa_cons (pv 3) (pa_cons (pe_glob (v := .int 6) (by rfl) eM ⟨_, rfl⟩) pa_nil)))))))).pt
        (pss_one (ps_ret pe_bl)) pss_nil)
      (pss_one (ps_ret (pe_cmpR op_eq (pe_m1 PySem.F.slot_str_endswith PySem.F.type_str_endswith mt_endswith (pv 2) pe_str) (pe_cmpR op_eq (pv 3) pe_int (nomark _)) (nomark _)))))), ?_⟩
    obtain ⟨h0, h6, hp, g0, g6⟩ := hx
    refine ⟨_, rfl, .ref t, .ty "tuple", .type "tuple", .type "tuple", true, rfl, .ty "tuple", .base (.tup e), kit_ty (by decide +kernel), true, rfl, iteF ?_⟩
    refine ⟨_, rfl, t, _, rfl, .inr (SqT.of e), rfl, _, rfl, iteF ?_⟩
    refine ⟨_, rfl, t, _, rfl, SqT.of e, rfl, _, _, rfl, _, _, rfl, _, _, rfl, rfl, ?_⟩
    refine ⟨_, rfl, x.1, 6, rfl, _, rfl, ?_⟩
    refine iteF' (by rw [decide_eq_true h0, decide_eq_true h6]; rfl) ?_
    refine ⟨_, rfl, x.2.1, _, rfl, hp, fun H1 s1 => ⟨_, rfl, iteF ?_⟩⟩
    refine ⟨_, rfl, x.2.2, 6, rfl, _, rfl, ?_⟩
    refine iteF' (by rw [decide_eq_true g0, decide_eq_true g6]; rfl) ?_
    refine ⟨_, rfl, ⟨_, rfl⟩, x.2.1, _, rfl, rfl, ⟨_, rfl, rfl, rfl, ?_⟩⟩
    rw [pc_ends hp]
    have e1 : decide (V.int x.2.2 = V.int 0) = decide (x.2.2 = 0) := by
      rw [dec_int]
      by_cases z : x.2.2 = 0
      · rw [z]
        rfl
      · rw [decide_eq_false z]
        exact beq_eq_false_iff_ne.mpr z
    rw [e1, decide_eq_true rfl]
    exact q H1 s1
end
end K35

set_option Elab.async false
set_option linter.all false
set_option maxRecDepth 100000
set_option maxHeartbeats 4000000
/-! {elt for tg in iter if .. for tg1 in iter1 if ..}: a set of ints by a comprehension of two clauses. -/
namespace L2
namespace EV
open PySem PySem.Spec PyProof.Rows
/-- the comprehension itself -/
abbrev sc2 (elt t0 i0 t1 i1 : Expr) (f0 f1 : List Expr) (sc : Scope) (pos : Pos) : Expr := .SetComp elt [⟨t0, i0, f0, 0⟩, ⟨t1, i1, f1, 0⟩] sc pos
section
variable (elt t0 i0 t1 i1 : Expr) (f0 f1 : List Expr) (sc : Scope) (pos : Pos) (it acc : Value) (env : Env)
theorem turn_outer : compTurn (sc2 elt t0 i0 t1 i1 f0 f1 sc pos) 0 it acc env = (do
    standAt i0.pos
    match ← pyNext it with
    | none => pure (.done .next)
    | some u =>
      letOwnedTupleGo t0 it u
      assign t0 env u
      let mut go := true
      for c in f0 do
        if go then go ← isTrue c env (eval c env)
      if go then
        let xs ← eval i1 env
        standAt i1.pos
        let xs ← foldedSetIterable i1 env xs
        let _ ← runOwn (.compStart (sc2 elt t0 i0 t1 i1 f0 f1 sc pos) 1 (← holding [xs] (pyIter xs)) acc env) env
      again (.compLoop (sc2 elt t0 i0 t1 i1 f0 f1 sc pos) 0 it acc env)) := by rfl
theorem turn_inner : compTurn (sc2 elt t0 i0 t1 i1 f0 f1 sc pos) 1 it acc env = (do
    standAt i1.pos
    match ← pyNext it with
    | none => pure (.done .next)
    | some u =>
      letOwnedTupleGo t1 it u
      assign t1 env u
      let mut go := true
      for c in f1 do
        if go then go ← isTrue c env (eval c env)
      if go then
        (do let y ← eval elt env; standAt elt.pos; let _ ← call (.builtin "set.add") [acc, y])
      again (.compLoop (sc2 elt t0 i0 t1 i1 f0 f1 sc pos) 1 it acc env)) := by rfl
end
section
variable {prog : Program} {w : World} {A : Around} {R : Result → Shared → Prop} {s : Shared} {elt t0 i0 t1 i1 : Expr} {f0 f1 : List Expr} {sc : Scope} {pos : Pos} {it acc : Value} {env : Env}
/-- what is wanted of an error in the block -/
abbrev Erx (prog : Program) (w : World) (A : Around) (env : Env) (R : Result → Shared → Prop) : Value → Shared → Prop := notedBy (model prog w) A env fun e s' => R (.error e) s'
/-- the tests of a clause -/
abbrev tests (fs : List Expr) (env : Env) : Sem Bool := forIn fs true fun c r => if r = true then do let ok ← isTrue c env (eval c env); pure (ForInStep.yield ok) else pure (ForInStep.yield r)
theorem loop_outer (fold : ∀ x, foldedSetIterable i1 env x = pure x) (J : Nat → Shared → Prop)
    (turn : ∀ n s, J n s → wpAny (model prog w) A (pyNext it) (fun r s1 => match r with
      | none => R (.ok .next) s1
      | some u => wpAny (model prog w) A (letOwnedTupleGo t0 it u) (fun _ s2 => wpAny (model prog w) A (assign t0 env u) (fun _ s3 => wpAny (model prog w) A (tests f0 env) (fun ok s4 =>
          if ok = true then wpAny (model prog w) A (eval i1 env) (fun xs s5 => wpAny (model prog w) A (pyIter xs) (fun itv s6 =>
            codeAny (model prog w) A (.compStart (sc2 elt t0 i0 t1 i1 f0 f1 sc pos) 1 itv acc env) (fun r s' => (∃ fl, r = .ok fl) ∧ ∃ m, m < n ∧ J m s') s6) (Erx prog w A env R) s5) (Erx prog w A env R) s4
          else ∃ m, m < n ∧ J m s4) (Erx prog w A env R) s3) (Erx prog w A env R) s2) (Erx prog w A env R) s1) (Erx prog w A env R) s) (n : Nat) (h : J n s) :
    codeAny (model prog w) A (.compLoop (sc2 elt t0 i0 t1 i1 f0 f1 sc pos) 0 it acc env) R s := by
  refine codeAny_loop rfl J (fun n s hJ => ?_) n h
  show wpAny _ A ((compTurn (sc2 elt t0 i0 t1 i1 f0 f1 sc pos) 0 it acc env).onRaise (fun x => do noteFrame x env; theTreesLotGoes x)) _ _ s
  refine wpAny_noted ?_
  rw [turn_outer]
  refine wpAny_bind (wpAny_standAt (wpAny_bind (wpAny_mono (turn n s hJ) (fun r s1 q1 => ?_) fun _ _ z => z)))
  cases r with
  | none => exact wpAny_pure q1
  | some u =>
    refine wpAny_bind (wpAny_mono q1 (fun _ s2 q2 => ?_) fun _ _ z => z)
    refine wpAny_bind (wpAny_mono q2 (fun _ s3 q3 => ?_) fun _ _ z => z)
    refine wpAny_bind (wpAny_mono q3 (fun ok s4 q4 => ?_) fun _ _ z => z)
    cases ok with
    | false => exact wpAny_pure ⟨rfl, q4⟩
    | true =>
      refine wpAny_bind (wpAny_mono q4 (fun xs s5 q5 => ?_) fun _ _ z => z)
      refine wpAny_bind (wpAny_standAt (wpAny_bind (wpAny_of_eq (fold xs) ?_)))
      refine wpAny_bind (wpAny_holding (wpAny_mono q5 (fun itv s6 q6 => ?_) fun _ _ z => z))
      refine wpAny_bind (wpAny_runOwn ?_)
      rw [Around.mark_none]
      refine codeAny_mono q6 fun r s' hr => ?_
      obtain ⟨⟨fl, rfl⟩, hm⟩ := hr
      first
        | exact wpAny_pure ⟨rfl, hm⟩
        | exact wpAny_bind (wpAny_pure (wpAny_pure ⟨rfl, hm⟩))
theorem loop_inner (J : Nat → Shared → Prop)
    (turn : ∀ n s, J n s → wpAny (model prog w) A (pyNext it) (fun r s1 => match r with
      | none => R (.ok .next) s1
      | some u => wpAny (model prog w) A (letOwnedTupleGo t1 it u) (fun _ s2 => wpAny (model prog w) A (assign t1 env u) (fun _ s3 => wpAny (model prog w) A (tests f1 env) (fun ok s4 =>
          if ok = true then wpAny (model prog w) A (eval elt env) (fun y s5 => wpAny (model prog w) A (call (.builtin "set.add") [acc, y]) (fun _ s6 => ∃ m, m < n ∧ J m s6) (Erx prog w A env R) s5) (Erx prog w A env R) s4
          else ∃ m, m < n ∧ J m s4) (Erx prog w A env R) s3) (Erx prog w A env R) s2) (Erx prog w A env R) s1) (Erx prog w A env R) s) (n : Nat) (h : J n s) :
    codeAny (model prog w) A (.compLoop (sc2 elt t0 i0 t1 i1 f0 f1 sc pos) 1 it acc env) R s := by
  refine codeAny_loop rfl J (fun n s hJ => ?_) n h
  show wpAny _ A ((compTurn (sc2 elt t0 i0 t1 i1 f0 f1 sc pos) 1 it acc env).onRaise (fun x => do noteFrame x env; theTreesLotGoes x)) _ _ s
  refine wpAny_noted ?_
  rw [turn_inner]
  refine wpAny_bind (wpAny_standAt (wpAny_bind (wpAny_mono (turn n s hJ) (fun r s1 q1 => ?_) fun _ _ z => z)))
  cases r with
  | none => exact wpAny_pure q1
  | some u =>
    refine wpAny_bind (wpAny_mono q1 (fun _ s2 q2 => ?_) fun _ _ z => z)
    refine wpAny_bind (wpAny_mono q2 (fun _ s3 q3 => ?_) fun _ _ z => z)
    refine wpAny_bind (wpAny_mono q3 (fun ok s4 q4 => ?_) fun _ _ z => z)
    cases ok with
    | false => exact wpAny_pure ⟨rfl, q4⟩
    | true =>
      refine wpAny_bind (wpAny_bind (wpAny_mono q4 (fun y s5 q5 => ?_) fun _ _ z => z))
      refine wpAny_bind (wpAny_standAt (wpAny_bind (wpAny_mono q5 (fun _ s6 q6 => ?_) fun _ _ z => z)))
      exact wpAny_pure (wpAny_pure ⟨rfl, q6⟩)
/-- a clause's start: its walk is begun already, or begins here -/
theorem start_inner (h0 : codeAny (model prog w) A (.compLoop (sc2 elt t0 i0 t1 i1 f0 f1 sc pos) 1 it acc env) R s)
    (h : wpAny (model prog w) A (pyIter it) (fun itv s' => codeAny (model prog w) A (.compLoop (sc2 elt t0 i0 t1 i1 f0 f1 sc pos) 1 itv acc env) R s') (Erx prog w A env R) s) :
    codeAny (model prog w) A (.compStart (sc2 elt t0 i0 t1 i1 f0 f1 sc pos) 1 it acc env) R s := by
  refine codeAny_of_tree ?_
  show wpAny _ _ ((compStart (sc2 elt t0 i0 t1 i1 f0 f1 sc pos) 1 it acc env).onRaise (fun x => do noteFrame x env; standAt theWindowsPlace)) _ _ s
  refine wpAny_notedAt ?_
  unfold compStart
  show wpAny _ _ (ask >>= _) _ _ s
  refine wpAny_bind (wpAny_askSetting (wpAny_ite ?_))
  split
  · first
      | exact wpAny_bind (wpAny_pure (wpAny_pure (And.intro rfl h0)))
      | exact wpAny_pure (And.intro rfl h0)
  · refine wpAny_bind (wpAny_rule ?_)
    show wpAny _ _ (standAt i1.pos >>= _) _ _ s
    exact wpAny_bind (wpAny_standAt (wpAny_bind (wpAny_mono h (fun itv s' q => wpAny_pure (And.intro rfl q)) fun _ _ z => z)))
end
/-- the set at D has got y -/
def addedS (w : World) (D : Addr) (y : V) (H : Hp) (N : Hp → Prop) : Prop := ∃ (k : Int) (S : Int → Bool) (n : Nat), y = .int k ∧ H D = some (SetO w D S n) ∧ n + 1 < scanBound ∧
  N (upd H D (SetO w D (fun j => S j || decide (j = k)) (if S k = true then n else n + 1)))
/-- the reading: D the new set; behind the first clause's store and tests the second walk, from which Nx is reached -/
def tSc2 (w : World) (wi : TI) (g : TG) (tt : TT) (wi1 : TI) (g1 : TG) (tt1 : TT) (te : TE) (vs vs1 : List Nat) : TE := fun σ H Q => wi σ H fun J H1 => ∀ D, H1 D = none →
  ∃ W : Nat → Nat → Hp → Prop, (∃ m, W 0 m (upd H1 D (SetO w D (fun _ => false) 0))) ∧ ∀ i m H, W i m H →
    (J.stop i H ∧ Q (.ref D) H) ∨ (J.go i H ∧ ∃ Nx : Hp → Prop, (∀ H', Nx H' → ∃ m', m' < m ∧ W (i + 1) m' H') ∧ ∀ x H', J.yld i H x H' → g x (wipe σ vs) H' fun σ2 H2 => wipe σ2 vs = wipe σ vs ∧ tt σ2 H2 fun b H3 =>
      if b = true then wi1 σ2 H3 fun J1 H4 => ∃ W1 : Nat → Nat → Hp → Prop, (∃ m, W1 0 m H4) ∧ ∀ j k H, W1 j k H →
        (J1.stop j H ∧ Nx H) ∨ (J1.go j H ∧ ∃ Nx1 : Hp → Prop, (∀ H', Nx1 H' → ∃ k', k' < k ∧ W1 (j + 1) k' H') ∧ ∀ x H', J1.yld j H x H' → g1 x (wipe σ2 vs1) H' fun σ3 H5 => wipe σ3 vs1 = wipe σ2 vs1 ∧ tt1 σ3 H5 fun b H6 =>
          if b = true then te σ3 H6 fun y H7 => addedS w D y H7 Nx1 else Nx1 H6)
      else Nx H3)
section
variable {X : Cx}
theorem add_in {pins : List (Addr × Obj)} {σ : L2.St} {H : Hp} {s : Shared} {D : Addr} {y : V} {u : Value} {N : Hp → Prop} {Q : Value → Shared → Prop} (I : Inv X pins σ H s) (r : RelV y u) (a : addedS X.w D y H N)
    (h : ∀ H' s', Inv X pins σ H' s' → N H' → Q .none s') : wpAny (model X.prog X.w) X.A (call (.builtin "set.add") [.ref D, u]) Q X.xe s := by
  obtain ⟨k, S, n, rfl, hD, room, nx⟩ := a
  refine thn (mt_sadd pins s σ H (.ref D) [.int k] (.ref D) [u] (fun v H' => v = .non ∧ N H') I rfl (.cons r .nil) ⟨D, k, S, n, rfl, rfl, hD, room, rfl, nx⟩) fun v s' q => ?_
  obtain ⟨v', H', I', rv, rfl, nx'⟩ := q
  obtain rfl : v = Value.none := rv
  exact h H' s' I' nx'
variable {elt tg iter tg1 iter1 : Expr} {ifs ifs1 : List Expr} {scope : Scope} {own : List (Str × Nat)} {vs1 : List Nat} {pos : Pos} {wi wi1 : TI} {g g1 : TG} {tt tt1 : TT} {te : TE}
theorem pe_sc2 (hc : X.calm = true) (hN : X.N.Nodup) (hi : PI X tg iter wi) (ok : BlkOk X.N X.env.scope scope own) (hv : ∀ i ∈ vs1, i ∈ own.map (·.2))
    (blk : ∀ (s : Shared) (H : Hp) (C : Addr) (cl : List (Str × Addr)) (fp : List Addr), PG (X.blk s H scope (compEnvC scope cl C X.env) fp) tg g ∧ PTs (X.blk s H scope (compEnvC scope cl C X.env) fp) ifs tt ∧
      PI (X.blk s H scope (compEnvC scope cl C X.env) fp) tg1 iter1 wi1 ∧ PG (X.blk s H scope (compEnvC scope cl C X.env) fp) tg1 g1 ∧ PTs (X.blk s H scope (compEnvC scope cl C X.env) fp) ifs1 tt1 ∧
      PE (X.blk s H scope (compEnvC scope cl C X.env) fp) elt te)
    (fold : ∀ x, foldedSetIterable iter X.env x = pure x := by intro _; rfl) (fold1 : ∀ env x, foldedSetIterable iter1 env x = pure x := by intro _ _; rfl) :
    PE X (sc2 elt tg iter tg1 iter1 ifs ifs1 scope pos) (tSc2 X.w wi g tt wi1 g1 tt1 te (own.map (·.2)) vs1) := by
  refine ⟨fun pins s σ H Q I h => ?_⟩
  rw [PpSet.eval_SetComp]
  have cellOf : ∀ y ∈ scope.names, y.2 = .free → ∃ c, X.env.cells.lookup y.1 = some c := fun y hy e => (ok.free y hy e).elim (fun k => I.ok.has _ (.inl k)) fun k => I.ok.has _ (.inr k)
  refine wpAny_comprehension_free (use := none) rfl fold (closure_ok cellOf) ok.kind (fun y hy e => by rw [ok.uniq y hy, e]) (thn (hi.run pins s σ H _ I h) fun xv s1 hx => thn hx fun itv s2 h2 => ?_)
  obtain ⟨it, fp, tn, J, H2, e, I2, T, st2, f2, q⟩ := h2
  subst e
  refine PpSet.newSet_ok (newEnv_comp ?_)
  generalize hD : s2.heap.objs.size = D
  have freeD : H2 D = none := I2.hok.fresh (Nat.le_of_eq hD)
  obtain ⟨W, ⟨m0, w0⟩, turn⟩ := q D freeD
  generalize hso : ({ cls := .type "set", dict := none, data := .set #[] 0 (.fresh 0 0 (!X.w.params.followText "set-order")) } : Obj) = so
  have keepSo : ∀ b o, s2.heap.get? b = some o → (s2.heap.push so).get? b = some o := fun b o e => Heap.get?_push_of_some _ e
  have I3 : Inv X pins σ (upd H2 D (SetO X.w D (fun _ => false) 0)) { s2 with heap := s2.heap.push so } := by
    refine I2.laid (t' := s2.toks) keepSo (Nat.le_of_eq hD) ?_
    rw [← hD, ← hso]
    exact setO_new (setR_fresh X.w)
  generalize hs3 : ({ s2 with heap := s2.heap.push so } : Shared) = s3 at I3 ⊢
  have h3 : s3.heap = s2.heap.push so := by rw [← hs3]
  have below : ∀ b ∈ fp, b < s2.heap.objs.size := fun b hb => (T.obj _ _ st2 b hb).elim fun o e => Heap.lt_size e.1
  generalize hH3 : upd H2 D (SetO X.w D (fun _ => false) 0) = H3 at I3 w0 ⊢
  have f3 : ∀ b ∈ fp, FpOk X pins H3 b ∧ b < s3.heap.objs.size := fun b hb => by
    have lt := below b hb
    refine ⟨⟨?_, (f2 b hb).2⟩, by rw [h3, Heap.size_push]; exact Nat.lt_succ_of_lt lt⟩
    rw [← hH3, upd_ne (by rw [← hD]; exact Nat.ne_of_lt lt)]
    exact (f2 b hb).1
  have st3 : tn 0 s3.heap := T.keep _ _ _ st2 fun b _ o e => by rw [h3]; exact keepSo b o e
  have I4 := block_start I3 ok hN f3
  obtain ⟨pg, pt, pi1, pg1, pt1, pe⟩ := blk s3 H3 s3.heap.objs.size (cellsFrom (s3.heap.objs.size + 1) scope.names (cloFrom X.env.cells scope.names [])) fp
  show codeAny _ _ (.compStart (sc2 elt tg iter tg1 iter1 ifs ifs1 scope pos) 0 (.ref it) (.ref D) (compEnvC scope (cellsFrom (s3.heap.objs.size + 1) scope.names (cloFrom X.env.cells scope.names [])) s3.heap.objs.size X.env))
    (compPost (model X.prog X.w) X.A X.xe none (EP X pins σ Q) (.ref D) s3.heap.objs.size) { s3 with heap := pushCells (s3.heap.push { cls := .type "dict", data := .dict #[] }) scope.names }
  generalize hce : compEnvC scope (cellsFrom (s3.heap.objs.size + 1) scope.names (cloFrom X.env.cells scope.names [])) s3.heap.objs.size X.env = ce at I4 pg pt pi1 pg1 pt1 pe ⊢
  have locals : ce.locals = s3.heap.objs.size := by
    subst hce
    rfl
  generalize hs4 : ({ s3 with heap := pushCells (s3.heap.push { cls := .type "dict", data := .dict #[] }) scope.names } : Shared) = s4 at I4 ⊢
  have st4 : tn 0 s4.heap := T.keep _ _ _ st3 fun b _ o e => by
    rw [← hs4]
    exact pushCells_keeps _ _ _ _ (Heap.get?_push_of_some _ e)
  have clearOf : ∀ {H' : Hp}, H3 = H' → ∀ b ∈ fp, H' b = none := fun e b hb => by
    rw [← e]
    exact (f3 b hb).1.1
  -- a record of the outer walk, within the block
  have outer : ∀ {σ' : L2.St} {H' : Hp} {s' : Shared}, Inv (X.blk s3 H3 scope ce fp) [] σ' H' s' → (∀ b ∈ fp, H' b = none) → ∀ b ∈ fp, FpOk (X.blk s3 H3 scope ce fp) [] H' b := fun I' clear b hb =>
    ⟨clear b hb, (I'.ok.exf b hb).1, I'.ok.exfs b hb, .inl hb, fun x c e => (I'.ok.exf b hb).2 x c e, fun p hp => by simp at hp⟩
  -- what the outer loop keeps
  let Keep : Nat → Shared → Prop := fun n s' => ∃ i H', Inv (X.blk s3 H3 scope ce fp) [] (wipe σ (own.map (·.2))) H' s' ∧ tn i s'.heap ∧ (∀ b ∈ fp, H' b = none) ∧ W i n H'
  have loop : codeAny (model X.prog X.w) X.A (.compLoop (sc2 elt tg iter tg1 iter1 ifs ifs1 scope pos) 0 (.ref it) (.ref D) ce) (compPost (model X.prog X.w) X.A X.xe none (EP X pins σ Q) (.ref D) s3.heap.objs.size) s4 := by
    refine loop_outer (fold1 ce) Keep ?_ m0 ⟨0, H3, I4, st4, clearOf rfl, w0⟩
    rintro n s5 ⟨i, H5, I5, st5, n5, w5⟩
    rcases turn i n H5 w5 with ⟨stop, done⟩ | ⟨go, Nx, hNx, one⟩
    · refine thnF (T.done (X.blk s3 H3 scope ce fp) rfl rfl rfl hc i [] s5 _ H5 (fun _ _ => False) I5 (outer I5 n5) st5 stop) fun r s6 ⟨hr, I6⟩ => ?_
      subst hr
      have I7 : Inv X pins σ H5 s6 := I3.call' (ch := fp) I6.os I6.base I6.hok I6.bare fun b hb => by
        obtain ⟨⟨z1, z2, z3, z4, z5, z6⟩, _⟩ := f3 b hb
        exact ⟨z4, z2, z5, z6⟩
      have free5 : H5 s3.heap.objs.size = none := by
        have z : H5 ce.locals = none := I6.free
        rw [locals] at z
        exact z
      obtain ⟨m, hn, _⟩ := I6.loc
      have hn : s6.heap.Ns ce.locals m := hn
      rw [locals] at hn
      obtain ⟨y0, y1, y2, y3, y4, y5⟩ := I3.fpOk (Nat.le_refl _) free5
      refine ⟨m, hn, fun h'' sb => ?_⟩
      exact ⟨.ref D, H5, I7.turned (t' := s6.toks) (fun b o nb e => (sb.2 b nb).trans e) y0 y1 y3 y4 y5, rfl, done⟩
    · refine thnF (T.item (X.blk s3 H3 scope ce fp) rfl rfl rfl hc i [] s5 _ H5 (fun _ _ => False) I5 (outer I5 n5) st5 go) fun r s6 ⟨u, hr, h6⟩ => ?_
      subst hr
      refine thnF h6 fun _ s7 ⟨x, H7, I7, r7, y7, st7, n7⟩ => ?_
      refine thnF (pg.run _ s7 _ H7 x u _ (I7.pinned (outer I7 n7) (T.obj _ _ st7)) r7 (one x H7 y7)) fun _ s8 ⟨σ8, H8, I8, hw8, q8⟩ => ?_
      refine thnF (pt.run _ s8 σ8 H8 _ I8 q8) fun b s9 ⟨H9, I9, q9⟩ => ?_
      have len8 : (wipe σ (own.map (·.2))).length = σ8.length := by rw [← hw8, wipe_length]
      have know8 : ∀ (j : Nat) v, (wipe σ (own.map (·.2)))[j]? = some (some v) → σ8[j]? = some (some v) ∧ j ∉ own.map (·.2) := fun j v e => by
        rw [← hw8] at e
        exact wipe_some e
      -- the turn's end, from any slots that know what the block knew
      have fin : ∀ {σ9 : L2.St} {s' : Shared} {H' : Hp}, Inv (X.blk s3 H3 scope ce fp) ([] ++ pinsAt fp s7.heap) σ9 H' s' → (wipe σ (own.map (·.2))).length = σ9.length →
          (∀ (j : Nat) v, (wipe σ (own.map (·.2)))[j]? = some (some v) → σ9[j]? = some (some v)) → Nx H' → ∃ m, m < n ∧ Keep m s' := fun {σ9 s' H'} I' hl hk nx => by
        obtain ⟨m', lt, w'⟩ := hNx H' nx
        have pinned : ∀ b ∈ fp, ∀ o, s7.heap.get? b = some o → s'.heap.get? b = some o ∧ H' b = none := fun b hb o e => by
          have z := I'.pin (b, o) (List.mem_append_right _ (List.mem_append_right _ (mem_pinsAt hb e)))
          exact ⟨z.1, z.2.1⟩
        refine ⟨m', lt, i + 1, H', (I'.unpinned (pins := [])).weak hl hk, T.keep _ _ _ st7 fun b hb o e => (pinned b hb o e).1, fun b hb => ?_, w'⟩
        obtain ⟨o, e, _⟩ := T.obj _ _ st7 b hb
        exact (pinned b hb o e).2
      cases b with
      | false =>
        simp only [Bool.false_eq_true, if_false] at q9 ⊢
        exact fin I9 len8 (fun j v e => (know8 j v e).1) q9
      | true =>
        simp only [if_true] at q9 ⊢
        refine thnF (pi1.run _ s9 σ8 H9 _ I9 q9) fun xv s10 hx => thnF hx fun itv s11 h11 => ?_
        obtain ⟨it1, fp1, tn1, J1, H11, e1, I11, T1, st11, f11, W1, ⟨m1, w1⟩, turn1⟩ := h11
        subst e1
        have inner : ∀ {H' : Hp}, (∀ b ∈ fp1, H' b = none) → ∀ b ∈ fp1, FpOk (X.blk s3 H3 scope ce fp) ([] ++ pinsAt fp s7.heap) H' b := fun clear b hb => ⟨clear b hb, (f11 b hb).2⟩
        let Keep1 : Nat → Shared → Prop := fun k s' => ∃ j H', Inv (X.blk s3 H3 scope ce fp) ([] ++ pinsAt fp s7.heap) (wipe σ8 vs1) H' s' ∧ tn1 j s'.heap ∧ (∀ b ∈ fp1, H' b = none) ∧ W1 j k H'
        have loop1 : codeAny (model X.prog X.w) X.A (.compLoop (sc2 elt tg iter tg1 iter1 ifs ifs1 scope pos) 1 (.ref it1) (.ref D) ce) (fun r s' => (∃ fl, r = .ok fl) ∧ ∃ m, m < n ∧ Keep m s') s11 := by
          refine loop_inner Keep1 ?_ m1 ⟨0, H11, I11.weak (wipe_length _ _) (fun j v e => (wipe_some e).1), st11, fun b hb => (f11 b hb).1, w1⟩
          rintro k s12 ⟨j, H12, I12, st12, n12, w12⟩
          rcases turn1 j k H12 w12 with ⟨stop1, nx1⟩ | ⟨go1, Nx1, hNx1, one1⟩
          · refine thnF (T1.done (X.blk s3 H3 scope ce fp) rfl rfl rfl hc j _ s12 (wipe σ8 vs1) H12 (fun _ _ => False) I12 (inner n12) st12 stop1) fun r s13 ⟨hr, I13⟩ => ?_
            subst hr
            refine ⟨⟨_, rfl⟩, fin I13 (len8.trans (wipe_length σ8 vs1).symm) (fun j v e => ?_) nx1⟩
            obtain ⟨z1, z2⟩ := know8 j v e
            rw [wipe_out fun z => z2 (hv j z)]
            exact z1
          · refine thnF (T1.item (X.blk s3 H3 scope ce fp) rfl rfl rfl hc j _ s12 (wipe σ8 vs1) H12 (fun _ _ => False) I12 (inner n12) st12 go1) fun r s13 ⟨u1, hr, h13⟩ => ?_
            subst hr
            refine thnF h13 fun _ s14 ⟨x1, H14, I14, r14, y14, st14, n14⟩ => ?_
            refine thnF (pg1.run _ s14 (wipe σ8 vs1) H14 x1 u1 _ (I14.pinned (inner n14) (T1.obj _ _ st14)) r14 (one1 x1 H14 y14)) fun _ s15 ⟨σ15, H15, I15, hw15, q15⟩ => ?_
            refine thnF (pt1.run _ s15 σ15 H15 _ I15 q15) fun b1 s16 ⟨H16, I16, q16⟩ => ?_
            have fin1 : ∀ {s' : Shared} {H' : Hp}, Inv (X.blk s3 H3 scope ce fp) (([] ++ pinsAt fp s7.heap) ++ pinsAt fp1 s14.heap) σ15 H' s' → Nx1 H' → ∃ m, m < k ∧ Keep1 m s' := fun {s' H'} I' nx => by
              obtain ⟨m', lt, w'⟩ := hNx1 H' nx
              have pinned : ∀ b ∈ fp1, ∀ o, s14.heap.get? b = some o → s'.heap.get? b = some o ∧ H' b = none := fun b hb o e => by
                have z := I'.pin (b, o) (List.mem_append_right _ (List.mem_append_right _ (mem_pinsAt hb e)))
                exact ⟨z.1, z.2.1⟩
              refine ⟨m', lt, j + 1, H', I'.unpinned.weak (by rw [← hw15, wipe_length]) (fun j v e => by rw [← hw15] at e; exact (wipe_some e).1), T1.keep _ _ _ st14 fun b hb o e => (pinned b hb o e).1, fun b hb => ?_, w'⟩
              obtain ⟨o, e, _⟩ := T1.obj _ _ st14 b hb
              exact (pinned b hb o e).2
            cases b1 with
            | false =>
              simp only [Bool.false_eq_true, if_false] at q16 ⊢
              exact fin1 I16 q16
            | true =>
              simp only [if_true] at q16 ⊢
              refine thnF (pe.run _ s16 σ15 H16 _ I16 q16) fun z s17 ⟨yv, H17, I17, r17, ad⟩ => ?_
              exact thnF (add_in (X := X.blk s3 H3 scope ce fp) (Q := fun _ s' => ∃ m, m < k ∧ Keep1 m s') I17 r17 ad fun H' s18 I18 nx => fin1 I18 nx) fun _ _ z => z
        exact start_inner loop1 (T1.self X.A 0 _ _ _ st11 loop1)
  exact PpSet.codeAny_compStart_set loop (T.self X.A 0 _ _ _ st4 loop)
end
end EV
end L2

set_option Elab.async false
set_option linter.all false
set_option maxRecDepth 100000
set_option maxHeartbeats 4000000
/-! enumerate over a tuple. -/
namespace PySem
open Sem (wp)
open AutoSeq1 (wpAny_loadPart')
theorem meets_enumerate_newT (l : Addr) (items : Array Value) (n : Nat) (dct : Option Addr) (sl : Array (Option Value)) :
    Meets (Builtin.«enumerate.__new__» ⟨[.type "enumerate", .ref l], []⟩) (fun _ R s => s.heap.get? l = some { cls := .type "tuple", dict := dct, data := .seq items n, slots := sl } ∧
      R (.ok (.ret (.ref (s.heap.push { cls := .type "tuple_iterator", data := .fields #[.ref l, .int 0 0] }).objs.size)))
        { s with heap := (s.heap.push { cls := .type "tuple_iterator", data := .fields #[.ref l, .int 0 0] }).push { cls := .type "enumerate", data := .fields #[.none, .bool false, .ref s.heap.objs.size, rawInt 0, .none, .none] } }) :=
  .of_wp fun prog w A R s h => by
    obtain ⟨hp, g, d, tk, os⟩ := s; obtain ⟨hl, h⟩ := h
    have hsub := sub_enumerate
    have hL : Heap.IsTuple (Shared.heap ⟨hp, g, d, tk, os⟩) l items := ⟨_, hl, rfl, n, rfl⟩
    wp_walk using wpAny_loadPart' hl
    refine wpAny_stack_any fun st => wpAny_pure ?_
    split
    · rename_i c _ _ _ _ _
      cases (c == Value.type "enumerate")
      · wp_walk using wpAny_loadPart' hl, wpAny_pyIter_tuple hL
        exact ⟨_, rfl, h⟩
      · wp_walk using wpAny_loadPart' hl, wpAny_pyIter_tuple hL
        exact ⟨_, rfl, h⟩
    · wp_walk using wpAny_loadPart' hl, wpAny_pyIter_tuple hL
      exact ⟨_, rfl, h⟩
section
variable {prog : Program} {w : World} {A : Around} {E : Value → Shared → Prop} {s : Shared}
theorem call_enumerate_tuple {l : Addr} {items : Array Value} {Q : Value → Shared → Prop} (hL : s.heap.IsTuple l items)
    (h : ∀ h', IsEnum h' (s.heap.objs.size + 1) s.heap.objs.size 0 .none → h'.IsTupleIter s.heap.objs.size l 0 → h'.objs.size = s.heap.objs.size + 2 →
      (∀ b o, s.heap.get? b = some o → h'.get? b = some o) → Q (.ref (s.heap.objs.size + 1)) { s with heap := h' }) :
    wpAny (model prog w) A (call (.type "enumerate") [.ref l]) Q E s := by
  obtain ⟨⟨c, dct, dt, sl⟩, hl, hc, n, hd⟩ := hL
  replace hc : c = .type "tuple" := hc
  replace hd : dt = .seq items n := hd
  subst hc hd
  refine callType_new F.called_enumerate (by decide) (F.typeCall_enumerate_1 _) (F.newCall_enumerate_1 _) (fun obj => F.args_object_init_2 obj _) F.entry_enumerate_new
    (meets_enumerate_newT l items n dct sl) ⟨hl, ?_⟩
  have hz : (s.heap.push { cls := .type "tuple_iterator", data := .fields #[.ref l, .int 0 0] }).objs.size = s.heap.objs.size + 1 := Heap.size_push ..
  show _ ∧ _
  rw [hz]
  have he : IsEnum ((s.heap.push { cls := .type "tuple_iterator", data := .fields #[.ref l, .int 0 0] }).push
      { cls := .type "enumerate", data := .fields #[.none, .bool false, .ref s.heap.objs.size, rawInt 0, .none, .none] }) (s.heap.objs.size + 1) s.heap.objs.size 0 .none := by
    have := Heap.get?_push_size (s.heap.push { cls := .type "tuple_iterator", data := .fields #[.ref l, .int 0 0] })
      (o := { cls := .type "enumerate", data := .fields #[.none, .bool false, .ref s.heap.objs.size, rawInt 0, .none, .none] }) rfl
    rw [hz] at this; exact this
  refine ⟨⟨_, he, rfl⟩, h _ he ⟨_, Heap.get?_push_of_some _ (Heap.get?_push_size _ rfl), rfl, rfl⟩ (by rw [Heap.size_push, hz]) fun b o x => Heap.get?_push_of_some _ (Heap.get?_push_of_some _ x)⟩
end
end PySem
namespace L2
open PySem PySem.Spec PyProof.Rows
def IteT (K : PySem.W.Frag) (a : Addr) : It :=
  ⟨fun i H => ∃ (xs : List V) (x : V), SqT K H a xs ∧ xs[i]? = some x, fun i H v H' => ∃ T x, v = .ref T ∧ H T = none ∧ H' = upd H T (.tup [.int (i : Nat), x]) ∧ ∀ xs, SqT K H a xs → xs[i]? = some x, fun i H => ∃ xs : List V, SqT K H a xs ∧ xs.length = i⟩
theorem turn_enumT {P : Program} {w : World} {K : PySem.W.Frag} {elts : List Expr} {kk : Nat} {tpos : Pos} (a e it : Addr) (hai : a ≠ it) (hae : a ≠ e) :
    Turn P w K (.Tuple elts kk tpos) (IteT K a) [e, it] e (fun i h => (∃ old, IsEnum h e it ((i : Nat) : Int) old) ∧ h.IsTupleIter it a i ∧ e ≠ it) where
  mem := by simp
  obj := fun i h st b hb => by
    obtain ⟨⟨old, he⟩, ⟨o, ho, hc, hd⟩, _⟩ := st
    have e' : b = e ∨ b = it := by simpa using hb
    rcases e' with z | z
    · rw [z]; exact ⟨_, he, fun v q => nomatch q⟩
    · rw [z]; exact ⟨o, ho, fun v q => by rw [hd] at q; cases q⟩
  keep := fun i h h' st k => let ⟨⟨old, he⟩, hi, hne⟩ := st; ⟨⟨old, k e (by simp) _ he⟩, hi.at fun o q => k it (by simp) o q, hne⟩
  item := by
    intro X hP hw hK hc i pins s σ H E I hf st hg
    subst hP hw hK
    obtain ⟨⟨old, he⟩, hit, hne⟩ := st
    obtain ⟨xs, x, hq, hx⟩ := hg
    obtain ⟨its, rv, p, hz⟩ := I.tuple hq
    obtain ⟨u, hu, ru⟩ := rv.get hx
    have hel : e < s.heap.objs.size := Heap.lt_size he
    have hil : it < s.heap.objs.size := by obtain ⟨_, q, _⟩ := hit; exact Heap.lt_size q
    have hlt : i < its.toArray.size := by
      have := (List.getElem?_eq_some_iff.mp hu).1
      simpa using this
    refine wpAny_pyNext_enum_itemD (Draws.tuple (A := X.A.in1) (show X.A.in1.handled = none from I.ok.hd hc) it a hai its.toArray) he ⟨hit, show s.heap.IsTuple a its.toArray from p⟩ hlt hne (by simp [hne, Ne.symm hae]) fun u' h' tk hu' ho st' hT hsz hk => ?_
    have e0 : u' = u := by
      have q1 : its[i]? = some u' := by simpa using hu'
      rw [hu] at q1
      exact (Option.some.inj q1).symm
    subst e0
    obtain ⟨hit', _⟩ := st'
    refine ⟨_, rfl, wpAny_letOwnedTupleGo_enum (s := { s with heap := h', toks := tk + 1 }) ho fun h'' he' sb => ?_⟩
    have hT2 : h''.get? s.heap.objs.size = some { cls := .type "tuple", data := .seq #[.int i tk, u'] } := (sb.2 _ (Nat.ne_of_gt hel)).trans hT
    have new : ObjOk X.prog X.w (upd H s.heap.objs.size (.tup [.int (i : Nat), x])) h'' s.heap.objs.size (.tup [.int (i : Nat), x]) :=
      ⟨by show 2 ≤ sizeLine; decide, [.int i tk, u'], .cons ⟨_, rfl⟩ (.cons ru .nil), ⟨_, hT2, rfl, _, rfl⟩⟩
    have I1 : Inv X pins σ (upd H s.heap.objs.size (.tup [.int (i : Nat), x])) { s with heap := h'', toks := tk + 1 } :=
      I.turnedNew (ch := [e, it]) (fun b ob hb q => (sb.2 b (fun z => hb (by simp [z]))).trans (hk b ob (fun z => hb (by simp [z])) (fun z => hb (by simp [z])) q)) hf (Nat.le_refl _) new
    refine ⟨.ref s.heap.objs.size, _, I1, rfl, ⟨_, x, rfl, I.hok.fresh (Nat.le_refl _), rfl, fun ys hy => by rw [I.tuple_inj hy hq]; exact hx⟩, ⟨⟨u', ?_⟩, hit'.at fun o q => (sb.2 it (Ne.symm hne)).trans q, hne⟩, fun b hb => ?_⟩
    · have e1 : ((i + 1 : Nat) : Int) = (i : Int) + 1 := by omega
      rw [e1]; exact he'
    · have hb' : b < s.heap.objs.size := by
        have e' : b = e ∨ b = it := by simpa using hb
        rcases e' with z | z
        · rw [z]; exact hel
        · rw [z]; exact hil
      rw [upd_ne (Nat.ne_of_lt hb')]
      exact (hf b hb).1
  done := by
    intro X hP hw hK hc i pins s σ H E I hf st hg
    subst hP hw hK
    obtain ⟨⟨old, he⟩, hit, hne⟩ := st
    obtain ⟨xs, hq, hx⟩ := hg
    obtain ⟨its, rv, p, hz⟩ := I.tuple hq
    obtain ⟨f0, f1, f2, f3, f4, f5⟩ := hf it (by simp)
    have hl := rv.length
    have hn : its.toArray.size = i := by simp; omega
    exact wpAny_pyNext_enum_endD (Draws.tuple (A := X.A.in1) (show X.A.in1.handled = none from I.ok.hd hc) it a hai its.toArray) he ⟨hn.symm ▸ hit, show s.heap.IsTuple a its.toArray from p⟩ fun h' eb => ⟨rfl, I.turned (t' := s.toks) (fun b o hb q => eb b o hb q) f0 f1 f3 f4 f5⟩
  self := fun A i s Q E st h => let ⟨⟨_, he⟩, _⟩ := st; wpAny_pyIter_enum he h
def iEnumT (K : PySem.W.Frag) (ta : TA) : TI := fun σ H R => ta σ H fun vs H1 => ∃ a xs, vs = [.ref a] ∧ SqT K H1 a xs ∧ R (IteT K a) H1
theorem pi_enumT {X : Cx} {e : Expr} {ta : TA} {p pos tpos : Pos} {elts : List Expr} {kk : Nat} (hg : Gl X "enumerate") (hm : X.mg "enumerate" = none) (ha : PA X [e] ta) (hs : starEach [e] X.env = [(false, eval e X.env)] := by rfl) :
    PI X (.Tuple elts kk tpos) (.Call (.Name "enumerate" p) [e] [] pos) (iEnumT X.K ta) := by
  refine ⟨fun pins s σ H R I h => ?_⟩
  refine Call_ (ld_blt I hg hm boot_enumerate (PyProof.Rows.callWith_type1 (thn (ha.run pos pins s σ H _ I h) fun us s1 ⟨vs, H1, I1, r1, q1⟩ => ?_) hs rfl))
  obtain ⟨a, xs, ex, hq, q⟩ := q1
  subst ex
  cases r1 with
  | cons r rr =>
    cases rr
    cases r
    obtain ⟨its, rv, p', hz⟩ := I1.tuple hq
    have hal : a < s1.heap.objs.size := by
      obtain ⟨o, q, _⟩ := id p'
      exact Heap.lt_size q
    refine call_enumerate_tuple (show s1.heap.IsTuple a its.toArray from p') fun h' he hit hsz hk => wpAny_pyIter_enum he ?_
    have I2 : Inv X pins σ H1 { s1 with heap := h' } := I1.kept (t' := s1.toks) hk
    refine ⟨s1.heap.objs.size + 1, [s1.heap.objs.size + 1, s1.heap.objs.size], _, _, H1, rfl, I2, turn_enumT a (s1.heap.objs.size + 1) s1.heap.objs.size (Nat.ne_of_lt hal) (Nat.ne_of_lt (Nat.lt_succ_of_lt hal)), ⟨⟨.none, he⟩, hit, Nat.succ_ne_self _⟩, fun b hb => ?_, q⟩
    have e' : b = s1.heap.objs.size + 1 ∨ b = s1.heap.objs.size := by simpa using hb
    have hle : s1.heap.objs.size ≤ b := by
      rcases e' with z | z
      · rw [z]; exact Nat.le_add_right _ _
      · rw [z]; exact Nat.le_refl _
    exact I1.fpOk hle (I1.hok.fresh hle)
theorem walk_enumT {K : PySem.W.Frag} {a : Addr} {xs : List V} : Walk (IteT K a) xs.length (fun H => SqT K H a xs) (YPair (fun i => some (.int (i : Nat))) (fun i => xs[i]?)) := by
  refine ⟨fun i _ hi q => ⟨xs, xs[i], q, by simp [hi]⟩, fun _ q => ⟨xs, q, rfl⟩, fun i H v H' _ q y => ?_⟩
  obtain ⟨T, x, h1, h2, h3, h4⟩ := y
  exact ⟨T, .int (i : Nat), x, h1, h2, h3, rfl, h4 xs q⟩
end L2

set_option Elab.async false
set_option linter.all false
set_option maxRecDepth 100000
set_option maxHeartbeats 4000000
/-! Framings; listed_standings. -/
namespace K35
open PySem L2 L2.EV
abbrev sListed : Stmt := top 12
/-- a framing at f -/
def FrA (H : Hp) (f : Addr) (fr : List T3) : Prop := ∃ ts : List Addr, H f = some (.tup (ts.map V.ref)) ∧ ts.length = fr.length ∧ ∀ (i : Nat) t x, ts[i]? = some t → fr[i]? = some x → S3 H t x
theorem FrA.same {H H' : Hp} {f : Addr} {fr : List T3} (h : FrA H f fr) (s : Same H H') : FrA H' f fr := by
  obtain ⟨ts, e, l, c⟩ := h
  exact ⟨ts, s _ _ e, l, fun i t x h1 h2 => s _ _ (c i t x h1 h2)⟩
structure Frm (fr : List T3) (last : Nat) : Prop where
  l0 : 1 ≤ fr.length
  l1 : fr.length ≤ 16
  stp : ∀ x ∈ fr, Stp x
  srt : fr.Pairwise (fun x y => lt3 x y = true)
  ring : ∀ k : Nat, k ≤ last → ∃ x ∈ fr, x.1 = (k : Int) ∧ x.2.2 = (if k < last then (k : Int) + 1 else 0)
  lo : ∀ x ∈ fr, x.1 ≤ last ∧ x.2.2 ≤ last
  l5 : last ≤ 5
/-- what is closed under the steps, from b on, holds all standings -/
theorem Frm.all {fr : List T3} {last : Nat} (F : Frm fr last) {S : Int → Prop} {b : Nat} (hb : b ≤ last) (c0 : ∀ x ∈ fr, x.1 = (b : Int) → S x.2.2) (c : ∀ x ∈ fr, S x.1 → S x.2.2) : ∀ k : Nat, k ≤ last → S k := by
  have up : ∀ j : Nat, b + j ≤ last → j = 0 ∨ S ((b + j : Nat) : Int) := by
    intro j
    induction j with
    | zero => exact fun _ => .inl rfl
    | succ j ih =>
      intro h
      obtain ⟨x, hx, e1, e2⟩ := F.ring (b + j) (by omega)
      rw [if_pos (by omega)] at e2
      have e3 : (((b + (j + 1) : Nat)) : Int) = ((b + j : Nat) : Int) + 1 := by omega
      rw [e3, ← e2]
      refine .inr ?_
      rcases ih (by omega) with z | z
      · subst z
        exact c0 x hx (by simpa using e1)
      · exact c x hx (by rw [e1]; exact z)
  have s0 : S 0 := by
    obtain ⟨x, hx, e1, e2⟩ := F.ring last (Nat.le_refl _)
    rw [if_neg (by omega)] at e2
    rw [← e2]
    obtain ⟨j, rfl⟩ := Nat.le.dest hb
    rcases up j (Nat.le_refl _) with z | z
    · subst z
      exact c0 x hx (by simpa using e1)
    · exact c x hx (by rw [e1]; exact z)
  intro k
  induction k with
  | zero => exact fun _ => s0
  | succ k ih =>
    intro h
    obtain ⟨x, hx, e1, e2⟩ := F.ring k (by omega)
    rw [if_pos (by omega)] at e2
    have e3 : ((k + 1 : Nat) : Int) = (k : Int) + 1 := by omega
    rw [e3, ← e2]
    exact c x hx (by rw [e1]; exact ih (by omega))
theorem sc_it {J : It} {n : Nat} {G : Hp → Prop} {Y : Nat → Hp → V → Hp → Prop} (w : Walk J n G Y) {H0 : Hp} {Qd : Hp → Prop} {body : V → Hp → (Hp → Prop) → Prop} (Pv : Nat → Hp → Prop) (h0 : Pv 0 H0) (hG : ∀ i H, i ≤ n → Pv i H → G H)
    (hs : ∀ i x H H', i < n → Pv i H → Y i H x H' → body x H' (Pv (i + 1))) (hd : ∀ H, Pv n H → Qd H) :
    ∃ W : Nat → Nat → Hp → Prop, (∃ m, W 0 m H0) ∧ ∀ i m H, W i m H → (J.stop i H ∧ Qd H) ∨ (J.go i H ∧ ∃ Nx : Hp → Prop, (∀ H', Nx H' → ∃ m', m' < m ∧ W (i + 1) m' H') ∧ ∀ x H', J.yld i H x H' → body x H' Nx) := by
  refine ⟨fun i m H => m = n - i ∧ i ≤ n ∧ Pv i H, ⟨n, by simp, Nat.zero_le _, h0⟩, ?_⟩
  rintro i m H ⟨rfl, hi, p⟩
  have q := hG i H hi p
  by_cases hlt : i < n
  · exact .inr ⟨w.goes i H hlt q, Pv (i + 1), fun H' p' => ⟨n - (i + 1), by omega, rfl, hlt, p'⟩, fun x H' y => hs i x H H' hlt p (w.yields i H x H' hlt q y)⟩
  · have e : i = n := by omega
    subst e
    exact .inl ⟨w.stops H q, hd H p⟩
theorem at_step {H : Hp} {ts : List Addr} {fr : List T3} {i : Nat} {x : V} (hl : ts.length = fr.length) (ht : ∀ (i : Nat) t x, ts[i]? = some t → fr[i]? = some x → S3 H t x) (hx : (ts.map V.ref)[i]? = some x) :
    ∃ t y, fr[i]? = some y ∧ x = .ref t ∧ S3 H t y := by
  rw [List.getElem?_map] at hx
  cases e : ts[i]? with
  | none =>
    rw [e] at hx
    cases hx
  | some t =>
    rw [e] at hx
    have il : i < fr.length := by
      have := (List.getElem?_eq_some_iff.mp e).1
      omega
    exact ⟨t, fr[i], List.getElem?_eq_getElem il, (Option.some.inj hx).symm, ht i t _ e (List.getElem?_eq_getElem il)⟩
/-- listed_standings(framing): a new list of numbers up to last -/
def spListed : Sp := fun vs H Q _ => ∃ (f : Addr) (fr : List T3) (last : Nat), vs = [.ref f] ∧ FrA H f fr ∧ Frm fr last ∧
  ∀ (H' : Hp) (p : Addr) (ns : List Int), Same H H' → H p = none → H' p = some (.lst (ns.map V.int)) → ns.length ≤ 32 → (∀ k ∈ ns, 0 ≤ k ∧ k ≤ last) → Q (.ref p) H'
theorem pe_sc2s {X : Cx} {elt tg iter tg1 iter1 : Expr} {ifs ifs1 : List Expr} {scope : Scope} {own : List (Str × Nat)} {vs1 : List Nat} {pos : Pos} {wi wi1 : TI} {g g1 : TG} {tt tt1 : TT} {te : TE} (hc : X.calm = true) (hN : X.N.Nodup) (hi : PI X tg iter wi) (ok : BlkOk X.N X.env.scope scope own) (hv : ∀ i ∈ vs1, i ∈ own.map (·.2))
    (b1 : ∀ (s : Shared) (H : Hp) (C : Addr) (cl : List (Str × Addr)) (fp : List Addr), PG (X.blk s H scope (compEnvC scope cl C X.env) fp) tg g)
    (b2 : ∀ (s : Shared) (H : Hp) (C : Addr) (cl : List (Str × Addr)) (fp : List Addr), PTs (X.blk s H scope (compEnvC scope cl C X.env) fp) ifs tt)
    (b3 : ∀ (s : Shared) (H : Hp) (C : Addr) (cl : List (Str × Addr)) (fp : List Addr), PI (X.blk s H scope (compEnvC scope cl C X.env) fp) tg1 iter1 wi1)
    (b4 : ∀ (s : Shared) (H : Hp) (C : Addr) (cl : List (Str × Addr)) (fp : List Addr), PG (X.blk s H scope (compEnvC scope cl C X.env) fp) tg1 g1)
    (b5 : ∀ (s : Shared) (H : Hp) (C : Addr) (cl : List (Str × Addr)) (fp : List Addr), PTs (X.blk s H scope (compEnvC scope cl C X.env) fp) ifs1 tt1)
    (b6 : ∀ (s : Shared) (H : Hp) (C : Addr) (cl : List (Str × Addr)) (fp : List Addr), PE (X.blk s H scope (compEnvC scope cl C X.env) fp) elt te)
    (fold : ∀ x, foldedSetIterable iter X.env x = pure x := by intro _; rfl) (fold1 : ∀ env x, foldedSetIterable iter1 env x = pure x := by intro _ _; rfl) :
    PE X (.SetComp elt [⟨tg, iter, ifs, 0⟩, ⟨tg1, iter1, ifs1, 0⟩] scope pos) (tSc2 X.w wi g tt wi1 g1 tt1 te (own.map (·.2)) vs1) :=
  pe_sc2 hc hN hi ok hv (fun s H C cl fp => ⟨b1 s H C cl fp, b2 s H C cl fp, b3 s H C cl fp, b4 s H C cl fp, b5 s H C cl fp, b6 s H C cl fp⟩) fold fold1
theorem same_set {D : Addr} {H H' : Hp} {o : HO} (hD : H D = none) (k : Same H H') : Same H (upd H' D o) := fun b u e => by
  rw [upd_ne (ne_of_none e hD)]
  exact k _ _ e
theorem scan64 : 64 < scanBound := by decide +kernel
section
variable {P : Program} {w : World} {K : PySem.W.Frag} {mg : Str → Option Value} {base : Heap}
theorem scListed : FnScope ["framing", "start", "piece", "goal", "standing"] ["framing"] (defScope sListed) := ⟨rfl, rfl, rfl, by decide +kernel, rfl, by decide +kernel, by decide +kernel⟩
theorem ok_listed {f : Addr} {fd : FuncData} (F : Fun K "listed_standings" "listed_standings" sListed f fd) (hs : mg "sorted" = none) : FnOk P w K mg base CX0 1 f fd ["framing"] spListed := by
  refine F.ok scListed (fun vs H Q E h => ?_) (fun cdv A outer s H vs Q E hr h => ?_)
  · obtain ⟨f, fr, last, rfl, _⟩ := h
    rfl
  · obtain ⟨f, fr, last, rfl, fa, fm, q⟩ := h
    refine ⟨_, pss_one (ps_ret (pe_callB (cr_sortedSet rfl) (by rfl) hs (by decide +kernel) (pa_cons (pe_sc2s (g := gTup K 3 (gCons (gName 1) (gCons (gName 2) (gCons (gName 3) gNil)))) (tt := tYes) (wi1 := iTup K (tTup (tCons (tVar 1) (tCons (tVar 3) tNil)))) (g1 := gName 4) (tt1 := tYes) (te := tVar 4) (own := [("start", 1), ("piece", 2), ("goal", 3), ("standing", 4)]) (vs1 := [4]) rfl scListed.nd (pi_tup (pv 0))
      (blkOk_by (N := ["framing", "start", "piece", "goal", "standing"]) (sc := defScope sListed) (by decide +kernel)) (by decide)
      (fun _ _ _ _ _ => pg_tup rfl (pgs_cons (pg_name (i := 1) scListed.nd rfl (Or.inl rfl)) (pgs_cons (pg_name (i := 2) scListed.nd rfl (Or.inl rfl)) (pgs_cons (pg_name (i := 3) scListed.nd rfl (Or.inl rfl)) pgs_nil)))) (fun _ _ _ _ _ => pts_nil)
      (fun _ _ _ _ _ => pi_tup (pe_tup (pa_cons (pv 1) (pa_cons (pv 3) pa_nil)))) (fun _ _ _ _ _ => pg_name (i := 4) scListed.nd rfl (Or.inl rfl)) (fun _ _ _ _ _ => pts_nil) (fun _ _ _ _ _ => pv 4)) pa_nil))), ?_⟩
    obtain ⟨ts, hf, hl, ht⟩ := id fa
    refine ⟨_, rfl, f, rfl, ⟨_, SqT.of hf⟩, fun D hD => ?_⟩
    refine sc_it (walk_tup (xs := ts.map V.ref)) (fun i H' => Same H H' ∧ ∃ (S : Int → Bool) (n : Nat), H' D = some (SetO w D S n) ∧ n ≤ 2 * i ∧ ∀ k, S k = true → 0 ≤ k ∧ k ≤ last)
      ⟨same_upd hD, _, _, upd_same, Nat.le_refl _, fun k z => by cases z⟩ (fun i H' _ z => SqT.of (z.1 _ _ hf)) ?_ ?_
    · rintro i x H1 H2 hi ⟨sm, S, n, hS, hn, hk⟩ ⟨rfl, hx⟩
      obtain ⟨t, y, hy, rfl, e3⟩ := at_step (i := i) hl ht hx
      have e4 : H2 t = _ := sm _ _ e3
      obtain ⟨b1, b2, _, b3, b4⟩ := fm.stp y (List.mem_of_getElem? hy)
      obtain ⟨b5, b6⟩ := fm.lo y (List.mem_of_getElem? hy)
      refine ⟨t, _, rfl, SqT.of e4, rfl, _, _, rfl, _, _, rfl, _, _, rfl, rfl, rfl, ?_⟩
      refine ⟨_, rfl, _, rfl, (by show 2 ≤ sizeLine; decide), fun p hp => ⟨p, rfl, ⟨_, SqT.of upd_same⟩, ?_⟩⟩
      refine sc_it (walk_tup (xs := [V.int y.1, V.int y.2.2])) (fun j H' => Same H H' ∧ H' p = some (.tup [V.int y.1, V.int y.2.2]) ∧ ∃ (S : Int → Bool) (n : Nat), H' D = some (SetO w D S n) ∧ n ≤ 2 * i + j ∧ ∀ k, S k = true → 0 ≤ k ∧ k ≤ last)
        ⟨fun b u e => same_upd hp _ _ (sm _ _ e), upd_same, S, n, by rw [upd_ne (ne_of_none hS hp)]; exact hS, hn, hk⟩ (fun j H' _ z => SqT.of z.2.1) ?_ ?_
      · rintro j x H2 H3 hj ⟨sm2, hp2, S2, n2, hS2, hn2, hk2⟩ ⟨rfl, hx2⟩
        have hj2 : j < 2 := hj
        obtain ⟨k, rfl, k0, k1⟩ : ∃ k : Int, x = .int k ∧ 0 ≤ k ∧ k ≤ last := by
          match j, hj2 with
          | 0, _ => exact ⟨y.1, (Option.some.inj hx2).symm, b1, b5⟩
          | 1, _ => exact ⟨y.2.2, (Option.some.inj hx2).symm, b3, b6⟩
        have sc := scan64
        have l1 := fm.l1
        have hi2 : i < fr.length := (List.getElem?_eq_some_iff.mp hy).1
        refine ⟨rfl, _, rfl, k, S2, n2, rfl, hS2, by omega, same_set hD sm2, ?_, _, _, upd_same, ?_, fun k2 z => ?_⟩
        · rw [upd_ne (ne_of hp2 hS2 (fun z => by cases z))]
          exact hp2
        · split <;> omega
        · rw [Bool.or_eq_true] at z
          rcases z with z | z
          · exact hk2 k2 z
          · have e5 : k2 = k := of_decide_eq_true z
            rw [e5]
            exact ⟨k0, k1⟩
      · rintro H2 ⟨sm2, hp2, S2, n2, hS2, hn2, hk2⟩
        refine ⟨sm2, S2, n2, hS2, ?_, hk2⟩
        have hn3 : n2 ≤ 2 * i + 2 := hn2
        omega
    · rintro H1 ⟨sm, S, n, hS, hn, hk⟩
      refine ⟨D, S, n, rfl, hS, ?_, fun ns p _ h2 h3 h4 => ?_⟩
      · have := fm.l1
        simp only [List.length_map] at hn
        omega
      · refine q _ p ns ?_ ?_ upd_same ?_ ?_
        · exact fun b u e => by
            rw [upd_ne (ne_of_none (sm _ _ e) h4)]
            exact sm _ _ e
        · exact sm.free h4
        · have := fm.l1
          simp only [List.length_map] at hn
          omega
        · exact fun k z => hk k ((h2 k).mp z)
end
end K35

set_option Elab.async false
set_option linter.all false
set_option maxRecDepth 100000
set_option maxHeartbeats 4000000
/-! ways_from: all standings are found. -/
namespace K35
open PySem L2 L2.EV
abbrev sWays : Stmt := top 13
abbrev has (kvs : List (Key × V)) (g : Int) : Bool := (valV kvs (Sum.inl g : Key)).isSome
/-- ways_from(framing, b): a new dict that has all standings -/
def spWays : Sp := fun vs H Q _ => ∃ (f : Addr) (fr : List T3) (last b : Nat), vs = [.ref f, .int b] ∧ FrA H f fr ∧ Frm fr last ∧ b ≤ last ∧
  ∀ (H' : Hp) (d : Addr) (kvs : List (Key × V)), Same H H' → H d = none → H' d = some (.dK kvs) → (∀ k : Nat, k ≤ last → has kvs k = true) → Q (.ref d) H'
/-- the standings up to last that are not found -/
def miss (last : Nat) (kvs : List (Key × V)) : Nat := ((List.range (last + 1)).filter fun k : Nat => !has kvs k).length
theorem miss_le {last : Nat} {kvs : List (Key × V)} : miss last kvs ≤ last + 1 := by
  have := List.length_filter_le (fun k : Nat => !has kvs k) (List.range (last + 1))
  rw [List.length_range] at this
  exact this
theorem filt_lt {α : Type} {p q : α → Bool} : ∀ {l : List α} {a : α}, a ∈ l → p a = true → q a = false → (∀ x, q x = true → p x = true) → (l.filter q).length < (l.filter p).length
  | x :: l, a, hm, hp, hq, h => by
    have le : ∀ m : List α, (m.filter q).length ≤ (m.filter p).length := fun m => by
      induction m with
      | nil => exact Nat.le_refl _
      | cons y m ih =>
        rw [List.filter_cons, List.filter_cons]
        by_cases z : q y = true
        · rw [if_pos z, if_pos (h y z), List.length_cons, List.length_cons]
          omega
        · rw [if_neg z]
          split
          · rw [List.length_cons]
            omega
          · exact ih
    rw [List.filter_cons, List.filter_cons]
    rcases List.mem_cons.mp hm with z | z
    · subst z
      rw [if_pos hp, if_neg (by rw [hq]; simp), List.length_cons]
      have := le l
      omega
    · have ih := filt_lt z hp hq h
      by_cases y : q x = true
      · rw [if_pos y, if_pos (h x y), List.length_cons, List.length_cons]
        omega
      · rw [if_neg y]
        split
        · rw [List.length_cons]
          omega
        · exact ih
theorem has_put {kvs : List (Key × V)} {g k : Int} {v : V} : has (putK kvs (Sum.inl g) v) k = (decide (k = g) || has kvs k) := by
  unfold has
  rw [valV_put]
  by_cases e : k = g
  · subst e
    rw [if_pos rfl, decide_eq_true rfl]
    rfl
  · rw [if_neg (fun z => e (Sum.inl.inj z)), decide_eq_false e, Bool.false_or]
theorem miss_put {last : Nat} {kvs : List (Key × V)} {g : Int} {v : V} (h0 : 0 ≤ g) (h1 : g ≤ last) (n : has kvs g = false) : miss last (putK kvs (Sum.inl g) v) < miss last kvs := by
  obtain ⟨a, rfl⟩ := Int.eq_ofNat_of_zero_le h0
  refine filt_lt (a := a) (List.mem_range.mpr (by omega)) (by simp only [n, Bool.not_false]) ?_ ?_
  · rw [has_put, decide_eq_true rfl]
    rfl
  · intro x hx
    rw [has_put] at hx
    cases z : has kvs x with
    | false => rfl
    | true =>
      rw [z] at hx
      simp at hx
/-- the rows: tuples of a way and a standing -/
def Rows (H : Hp) (last n : Nat) (ps : List (Addr × Int)) : Prop := ∀ q ∈ ps, 0 ≤ q.2 ∧ q.2 ≤ last ∧ ∃ (wy : Addr) (xs : List V), H q.1 = some (.tup [.ref wy, .int q.2]) ∧ H wy = some (.tup xs) ∧ xs.length ≤ n
def KeepT (H H' : Hp) : Prop := ∀ a xs, H a = some (.tup xs) → H' a = some (.tup xs)
theorem Rows.keep {H H' : Hp} {last n m : Nat} {ps : List (Addr × Int)} (h : Rows H last n ps) (k : KeepT H H') (l : n ≤ m) : Rows H' last m ps := fun q hq => by
  obtain ⟨h0, h1, wy, xs, e1, e2, e3⟩ := h q hq
  exact ⟨h0, h1, wy, xs, k _ _ e1, k _ _ e2, Nat.le_trans e3 l⟩
theorem Same.keepT {H H' : Hp} (s : Same H H') : KeepT H H' := fun a xs e => s _ _ e
theorem KeepT.trans {H H' H2 : Hp} (a : KeepT H H') (b : KeepT H' H2) : KeepT H H2 := fun x xs e => b _ _ (a _ _ e)
theorem keepT_upd {H : Hp} {d : Addr} {o : HO} {o' : HO} (e : H d = some o') (n : ∀ xs, o' ≠ .tup xs) : KeepT H (upd H d o) := fun a xs h => by
  by_cases z : a = d
  · subst z
    rw [e] at h
    exact absurd (Option.some.inj h) (n xs)
  · rw [upd_ne z]
    exact h
/-- t + u, u not empty: the result is somewhere, all else stays -/
def rCatS (K : PySem.W.Frag) : R2 := fun x y H Q => ∃ a b xs ys, x = .ref a ∧ y = .ref b ∧ SqT K H a xs ∧ H b = some (.tup ys) ∧ ys ≠ [] ∧ xs.length + ys.length ≤ sizeLine ∧ ∀ p H', Same H H' → H' p = some (.tup (xs ++ ys)) → Q (.ref p) H'
theorem op_catS {X : Cx} : OpR X (binaryOp .Add) (rCatS X.K) := by
  intro pins s σ H x y v u Q I rx ry h
  obtain ⟨a, b, xs, ys, rfl, rfl, ha, hb, hn, hz, q⟩ := h
  refine op_catA pins s σ H _ _ v u Q I rx ry ⟨a, b, xs, ys, rfl, rfl, ha, SqT.of hb, hz, fun z => ?_, fun _ z => absurd z hn, fun _ _ p hp => q p _ (same_upd hp) upd_same⟩
  subst z
  exact q b H (fun _ _ e => e) (by rw [hb]; rfl)
structure Co (H0 H : Hp) (d r u : Addr) (last m0 : Nat) (ps qs : List (Addr × Int)) (kvs : List (Key × V)) : Prop where
  sm : Same H0 H
  hd : H d = some (.dK kvs)
  hr : H r = some (.lst (ps.map fun q => V.ref q.1))
  hu : H u = some (.lst (qs.map fun q => V.ref q.1))
  rp : Rows H last kvs.length ps
  rq : Rows H last kvs.length qs
  cnt : kvs.length + miss last kvs ≤ last + 1
  me : (qs = [] ∧ miss last kvs ≤ m0) ∨ miss last kvs < m0
  ql : qs.length ≤ kvs.length
theorem Co.same {H0 H H' : Hp} {d r u : Addr} {last m0 : Nat} {ps qs : List (Addr × Int)} {kvs : List (Key × V)} (C : Co H0 H d r u last m0 ps qs kvs) (s : Same H H') : Co H0 H' d r u last m0 ps qs kvs :=
  ⟨C.sm.trans s, s _ _ C.hd, s _ _ C.hr, s _ _ C.hu, C.rp.keep (Same.keepT s) (Nat.le_refl _), C.rq.keep (Same.keepT s) (Nat.le_refl _), C.cnt, C.me, C.ql⟩
/-- what is reached from a standing that stands in the rows, or is found -/
def Clo (fr : List T3) (b : Nat) (kvs : List (Key × V)) (open_ : Int → T3 → Prop) : Prop := ∀ x ∈ fr, (x.1 = (b : Int) ∨ has kvs x.1 = true) → open_ x.1 x ∨ has kvs x.2.2 = true
section
variable {P : Program} {w : World} {K : PySem.W.Frag} {mg : Str → Option Value} {base : Heap}
theorem scWays : FnScope ["framing", "begin", "found", "rows", "further", "way", "standing", "number", "start", "piece", "goal"] ["framing", "begin"] (defScope sWays) := ⟨rfl, rfl, rfl, by decide +kernel, rfl, by decide +kernel, by decide +kernel⟩
theorem ok_ways {f : Addr} {fd : FuncData} (F : Fun K "ways_from" "ways_from" sWays f fd) (he : mg "enumerate" = none) : FnOk P w K mg base CX0 1 f fd ["framing", "begin"] spWays := by
  refine F.ok scWays (fun vs H Q E h => ?_) (fun cdv A outer s H vs Q E hr h => ?_)
  · obtain ⟨f, fr, last, b, rfl, _⟩ := h
    rfl
  · obtain ⟨f, fr, last, b, rfl, fa, fm, hb, q⟩ := h
    have hu := hu_of hr
    refine ⟨_, pss_cons (ps_set (i := 2) scWays.nd rfl (Or.inl rfl) pe_dnewK)
      (pss_cons (ps_set (i := 3) scWays.nd rfl (Or.inl rfl) (pe_lst (pa_cons (pe_tup (pa_cons (pe_tup pa_nil) (pa_cons (pv 1) pa_nil))) pa_nil)))
      (pss_cons (ps_while PassesOwn.never (pt_truth (pv 3) (fun _ => rfl))
        (pss_cons (ps_set (i := 4) scWays.nd rfl (Or.inl rfl) (pe_lst pa_nil))
        (pss_cons (ps_for PassesOwn.never rfl (pi_list (pv 3)) (pg_tup rfl (pgs_cons (pg_name (i := 5) scWays.nd rfl (Or.inl rfl)) (pgs_cons (pg_name (i := 6) scWays.nd rfl (Or.inl rfl)) pgs_nil)))
          (pss_one (ps_for PassesOwn.never rfl (pi_enumT (by rfl) he (pa_cons (pv 0) pa_nil)) (pg_tup rfl (pgs_cons (pg_name (i := 7) scWays.nd rfl (Or.inl rfl)) (pgs_cons (pg_tup rfl (pgs_cons (pg_name (i := 8) scWays.nd rfl (Or.inl rfl)) (pgs_cons (pg_name (i := 9) scWays.nd rfl (Or.inl rfl)) (pgs_cons (pg_name (i := 10) scWays.nd rfl (Or.inl rfl)) pgs_nil)))) pgs_nil)))
            (pss_one (ps_if (pw_and (pt_cmpR op_eq (pv 8) (pv 6) (nomark _)) (pw_and1 (pt_cmp (pc_dnotin hu (pv 10) (pv 2)) (by rfl)))).pt
              (pss_cons (ps_dput hu (pv 2) (pv 10) (pe_op op_catS (pv 5) (pe_tup (pa_cons (pv 7) pa_nil))) rfl)
                (pss_one (ps_expr (pe_bm PySem.F.plainAttrs_list PySem.F.slot_list_append PySem.F.type_list_append mt_append (pv 4) (pa_cons (pe_tup (pa_cons (pe_dget hu (pv 2) (pv 10) (fun _ _ => rfl)) (pa_cons (pv 10) pa_nil))) pa_nil)))))
              pss_nil)))))
        (pss_one (ps_set (i := 3) scWays.nd rfl (Or.inl rfl) (pv 4))))))
      (pss_one (ps_ret (pv 2))))), ?_⟩
    intro d hd0
    have sd := same_upd (o := HO.dK []) hd0
    refine ⟨by decide, fun e0 he0 => ⟨_, rfl, (by show 2 ≤ sizeLine; decide), fun p0 hp0 => ⟨(by show 1 ≤ sizeLine; decide), fun r hr0 => ?_⟩⟩⟩
    have s1 := same_upd (o := HO.tup []) he0
    have s2 := same_upd (o := HO.tup [V.ref e0, V.int (b : Int)]) hp0
    have s3 := same_upd (o := HO.lst [V.ref p0]) hr0
    refine ⟨fun j σ H' => ∃ (r : Addr) (kvs : List (Key × V)) (ps : List (Addr × Int)) (v4 v5 v6 v7 v8 v9 v10 : Option V), σ = [some (.ref f), some (.int b), some (.ref d), some (.ref r), v4, v5, v6, v7, v8, v9, v10] ∧
      Same H H' ∧ H' d = some (.dK kvs) ∧ H' r = some (.lst (ps.map fun q => V.ref q.1)) ∧ Rows H' last kvs.length ps ∧ kvs.length + miss last kvs ≤ last + 1 ∧ Clo fr b kvs (fun g _ => ∃ q ∈ ps, q.2 = g) ∧ j = 2 * miss last kvs + (if ps = [] then 0 else 1), ⟨_, r, [], [(p0, (b : Int))], none, none, none, none, none, none, none, rfl, ?_, ?_, ?_, ?_, ?_, ?_, rfl⟩, ?_⟩
    · exact sd.trans (s1.trans (s2.trans s3))
    · exact s3 _ _ (s2 _ _ (s1 _ _ upd_same))
    · exact upd_same
    · intro q hq
      have e : q = (p0, (b : Int)) := by simpa using hq
      subst e
      refine ⟨by show (0 : Int) ≤ (b : Int); omega, by show (b : Int) ≤ last; omega, e0, [], s3 _ _ upd_same, s3 _ _ (s2 _ _ upd_same), Nat.le_refl _⟩
    · have := miss_le (last := last) (kvs := [])
      simp only [List.length_nil]
      omega
    · intro x hx h
      rcases h with h | h
      · exact .inl ⟨_, List.mem_singleton.mpr rfl, h.symm⟩
      · cases h
    · rintro j σ H1 ⟨r, kvs, ps, v4, v5, v6, v7, v8, v9, v10, rfl, sm, hd, hr, rp, cnt, clo, rfl⟩
      refine ⟨_, rfl, _, .inl ⟨_, SqL.of hr, rfl⟩, ?_⟩
      by_cases hps : ps = []
      · subst hps
        refine iteF' rfl ?_
        refine ⟨_, rfl, q H1 d kvs sm hd0 hd fun k hk => ?_⟩
        have c2 : ∀ x ∈ fr, (x.1 = (b : Int) ∨ has kvs x.1 = true) → has kvs x.2.2 = true := fun x hx h => by
          rcases clo x hx h with ⟨_, z, _⟩ | z
          · cases z
          · exact z
        exact fm.all (S := fun g => has kvs g = true) hb (fun x hx e => c2 x hx (.inl e)) (fun x hx e => c2 x hx (.inr e)) k hk
      · refine iteT' (by cases ps; exact absurd rfl hps; rfl) ?_
        refine ⟨_, fun _ _ z => z, ?_⟩
        refine ⟨by decide, fun u hu0 => ?_⟩
        have su := same_upd (o := HO.lst []) hu0
        have hur : u ≠ r := (ne_of_none hr hu0).symm
        have hu00 : H u = none := sm.free hu0
        refine ⟨_, rfl, r, rfl, ⟨_, SqL.of (su _ _ hr)⟩, for_it (walk_list (xs := ps.map fun q => V.ref q.1)) (fun i σ H' => ∃ (kvs2 : List (Key × V)) (qs : List (Addr × Int)) (v5 v6 v7 v8 v9 v10 : Option V), σ = [some (.ref f), some (.int b), some (.ref d), some (.ref r), some (.ref u), v5, v6, v7, v8, v9, v10] ∧
          Co H H' d r u last (miss last kvs) ps qs kvs2 ∧ Clo fr b kvs2 (fun g _ => (∃ q ∈ ps.drop i, q.2 = g) ∨ ∃ q ∈ qs, q.2 = g))
          ⟨kvs, [], v5, v6, v7, v8, v9, v10, rfl, ⟨sm.trans su, su _ _ hd, su _ _ hr, upd_same, rp.keep (Same.keepT su) (Nat.le_refl _), (fun q hq => by cases hq), cnt, .inl ⟨rfl, Nat.le_refl _⟩, Nat.zero_le _⟩, fun x hx h => (clo x hx h).imp (fun z => .inl z) id⟩
          (fun i σ H' _ ⟨_, _, _, _, _, _, _, _, _, C, _⟩ => SqL.of C.hr) ?_ ?_⟩
        · rintro i v σ H2 H3 hi ⟨kvs2, qs, v5, v6, v7, v8, v9, v10, rfl, C, cl⟩ ⟨rfl, hv⟩
          obtain ⟨q1, hq1, rfl⟩ : ∃ q1, ps[i]? = some q1 ∧ v = V.ref q1.1 := by
            rw [List.getElem?_map] at hv
            cases e : ps[i]? with
            | none =>
              rw [e] at hv
              cases hv
            | some q1 =>
              rw [e] at hv
              exact ⟨q1, rfl, (Option.some.inj hv).symm⟩
          obtain ⟨g0, g1, wy, xs, e1, e2, e3⟩ := C.rp q1 (List.mem_of_getElem? hq1)
          have dq : ps.drop i = q1 :: ps.drop (i + 1) := by
            have il := (List.getElem?_eq_some_iff.mp hq1).1
            rw [List.drop_eq_getElem_cons il]
            have := (List.getElem?_eq_some_iff.mp hq1).2
            rw [this]
          obtain ⟨ts, hf, hl, ht⟩ := id fa
          refine ⟨_, _, rfl, SqT.of e1, rfl, _, _, rfl, _, _, rfl, rfl, ?_⟩
          refine ⟨_, rfl, f, _, rfl, SqT.of (C.sm _ _ hf), for_it (walk_enumT (xs := ts.map V.ref)) (fun k σ H' => ∃ (kvs3 : List (Key × V)) (qs3 : List (Addr × Int)) (v7 v8 v9 v10 : Option V), σ = [some (.ref f), some (.int b), some (.ref d), some (.ref r), some (.ref u), some (.ref wy), some (.int q1.2), v7, v8, v9, v10] ∧
            Co H H' d r u last (miss last kvs) ps qs3 kvs3 ∧ H' wy = some (.tup xs) ∧ xs.length ≤ kvs3.length ∧ Clo fr b kvs3 (fun g x => ((∃ q ∈ ps.drop (i + 1), q.2 = g) ∨ ∃ q ∈ qs3, q.2 = g) ∨ (g = q1.2 ∧ x ∈ fr.drop k)))
            ⟨kvs2, qs, v7, v8, v9, v10, rfl, C, e2, e3, fun x hx h => ?_⟩
            (fun k σ H' _ ⟨_, _, _, _, _, _, _, C', _⟩ => SqT.of (C'.sm _ _ hf)) ?_ ?_⟩
          · rcases cl x hx h with (⟨q, z, e⟩ | z) | z
            · rw [dq] at z
              rcases List.mem_cons.mp z with z | z
              · subst z
                exact .inl (.inr ⟨e.symm, by simpa using hx⟩)
              · exact .inl (.inl (.inl ⟨q, z, e⟩))
            · exact .inl (.inl (.inr z))
            · exact .inr z
          · rintro k x σ H3 H4 hk ⟨kvs3, qs3, v7, v8, v9, v10, rfl, C3, w3, wl, cl3⟩ ⟨T, xi, xo, rfl, nT, rfl, h1, h2⟩
            cases h1
            obtain ⟨t, y, hy, rfl, e4⟩ := at_step (i := k) hl ht h2
            have uT := same_upd (o := HO.tup [V.int (k : Nat), V.ref t]) nT
            have C4 := C3.same uT
            have t4 := uT _ _ (C3.sm _ _ e4)
            have w4 := uT _ _ w3
            have hym : y ∈ fr := List.mem_of_getElem? hy
            obtain ⟨b1, b2, _, b3, b4⟩ := fm.stp y hym
            obtain ⟨b5, b6⟩ := fm.lo y hym
            have dk : fr.drop k = y :: fr.drop (k + 1) := by
              have il := (List.getElem?_eq_some_iff.mp hy).1
              rw [List.drop_eq_getElem_cons il]
              have := (List.getElem?_eq_some_iff.mp hy).2
              rw [this]
            -- the step is done with
            have go : ∀ (kvs4 : List (Key × V)) (qs4 : List (Addr × Int)), (∀ g : Int, has kvs4 g = true → has kvs3 g = true ∨ ∃ q ∈ qs4, q.2 = g) → (∀ g : Int, has kvs3 g = true → has kvs4 g = true) → (∀ q ∈ qs3, q ∈ qs4) → (y.1 = q1.2 → has kvs4 y.2.2 = true) →
                Clo fr b kvs4 (fun g x => ((∃ q ∈ ps.drop (i + 1), q.2 = g) ∨ ∃ q ∈ qs4, q.2 = g) ∨ (g = q1.2 ∧ x ∈ fr.drop (k + 1))) := fun kvs4 qs4 n1 n2 n3 n4 x hx h => by
              have old : x.1 = (b : Int) ∨ has kvs3 x.1 = true → ((((∃ q ∈ ps.drop (i + 1), q.2 = x.1) ∨ ∃ q ∈ qs4, q.2 = x.1) ∨ (x.1 = q1.2 ∧ x ∈ fr.drop (k + 1))) ∨ has kvs4 x.2.2 = true) := fun h => by
                rcases cl3 x hx h with ((z | ⟨q, z, e⟩) | ⟨z1, z2⟩) | z
                · exact .inl (.inl (.inl z))
                · exact .inl (.inl (.inr ⟨q, n3 q z, e⟩))
                · rw [dk] at z2
                  rcases List.mem_cons.mp z2 with z2 | z2
                  · subst z2
                    exact .inr (n4 z1)
                  · exact .inl (.inr ⟨z1, z2⟩)
                · exact .inr (n2 _ z)
              rcases h with h | h
              · exact old (.inl h)
              · rcases n1 _ h with z | z
                · exact old (.inr z)
                · exact .inl (.inl (.inr z))
            refine ⟨T, _, rfl, SqT.of upd_same, rfl, _, _, rfl, _, _, rfl, ⟨t, _, rfl, SqT.of t4, rfl, _, _, rfl, _, _, rfl, _, _, rfl, rfl, rfl, ?_⟩⟩
            refine ⟨_, rfl, _, rfl, rfl, _, rfl, ?_⟩
            refine ite2 (fun z => ?_) (fun z => ?_)
            · have z1 : y.1 = q1.2 := V.int.inj (of_decide_eq_true z)
              refine ⟨_, rfl, _, rfl, d, _, rfl, DGet.k (k := Sum.inl y.2.2) C4.hd, _, rfl, ?_⟩
              refine ite2 (fun y1 => ?_) (fun y1 => ?_)
              · have no : has kvs3 y.2.2 = false := by
                  cases e : has kvs3 y.2.2 with
                  | false => rfl
                  | true =>
                    have e' : (valV kvs3 (Sum.inl y.2.2 : Key)).isSome = true := e
                    rw [e'] at y1
                    cases y1
                have mp := miss_put (v := V.non) b3 b6 no
                have l5 := fm.l5
                have c3 := C3.cnt
                refine ⟨_, rfl, ⟨_, rfl, (by show 1 ≤ sizeLine; decide), fun p hp => ⟨wy, p, xs, [V.int (k : Nat)], rfl, rfl, SqT.of (same_upd hp _ _ w4), upd_same, (fun z => by cases z), ?_, fun nw H5 s5 n5 => ?_⟩⟩⟩
                · rw [sizeLine_eq]
                  simp only [List.length_cons, List.length_nil]
                  omega
                have C5 := (C4.same (same_upd (o := HO.tup [V.int (k : Nat)]) hp)).same s5
                have hdu : d ≠ u := ne_of C5.hd C5.hu (fun z => by cases z)
                have hdr : d ≠ r := ne_of C5.hd C5.hr (fun z => by cases z)
                refine ⟨_, rfl, _, rfl, d, _, rfl, DPut.k (k := Sum.inl y.2.2) C5.hd (by rw [sizeLine_eq]; omega), ?_⟩
                have hn : valV kvs3 (Sum.inl y.2.2 : Key) = none := by
                  cases e : valV kvs3 (Sum.inl y.2.2 : Key) with
                  | none => rfl
                  | some v =>
                    have e' : has kvs3 y.2.2 = true := by
                      show (valV kvs3 (Sum.inl y.2.2 : Key)).isSome = true
                      rw [e]
                      rfl
                    rw [e'] at no
                    cases no
                generalize hH6 : upd H5 d (.dK (putK kvs3 (Sum.inl y.2.2) (.ref nw))) = H6
                have k6 : KeepT H5 H6 := by
                  rw [← hH6]
                  exact keepT_upd C5.hd (fun xs z => by cases z)
                have d6 : H6 d = some (.dK (putK kvs3 (Sum.inl y.2.2) (.ref nw))) := by
                  rw [← hH6]
                  exact upd_same
                have u6 : H6 u = some (.lst (qs3.map fun q => V.ref q.1)) := by
                  rw [← hH6, upd_ne hdu.symm]
                  exact C5.hu
                have r6 : H6 r = some (.lst (ps.map fun q => V.ref q.1)) := by
                  rw [← hH6, upd_ne hdr.symm]
                  exact C5.hr
                have m6 : Same H H6 := by
                  rw [← hH6]
                  exact same_set hd0 C5.sm
                have g6 : valV (putK kvs3 (Sum.inl y.2.2) (V.ref nw)) (Sum.inl y.2.2 : Key) = some (.ref nw) := by
                  rw [valV_put, if_pos rfl]
                have n6 := k6 _ _ n5
                have ml := miss_le (last := last) (kvs := kvs3)
                have mp2 := miss_put (v := V.ref nw) b3 b6 no
                have pe : (putK kvs3 (Sum.inl y.2.2 : Key) (V.ref nw)).length = kvs3.length + 1 := by
                  rw [putK_new _ hn, List.length_append]
                  rfl
                have ql := C3.ql
                refine ⟨_, rfl, ?_, _, rfl, _, rfl, ⟨d, _, rfl, by rw [← g6]; exact DGet.k (k := Sum.inl y.2.2) d6, _, rfl, (by show 2 ≤ sizeLine; decide), fun p7 hp7 => ⟨u, qs3.map (fun q => V.ref q.1), _, rfl, rfl, same_upd hp7 _ _ u6, by rw [sizeLine_eq, List.length_map]; omega, ?_⟩⟩⟩
                · exact .inl ⟨rfl, _, SqL.of u6⟩
                have k7 := Same.keepT (same_upd (o := HO.tup [V.ref nw, V.int y.2.2]) hp7)
                have hd7 := same_upd (o := HO.tup [V.ref nw, V.int y.2.2]) hp7 _ _ d6
                have hu7 := same_upd (o := HO.tup [V.ref nw, V.int y.2.2]) hp7 _ _ u6
                have hr7 := same_upd (o := HO.tup [V.ref nw, V.int y.2.2]) hp7 _ _ r6
                have k8 := keepT_upd (o := .lst (qs3.map (fun q => V.ref q.1) ++ [V.ref p7])) hu7 (fun xs z => by cases z)
                have kk : KeepT H5 _ := (k6.trans k7).trans k8
                refine ⟨putK kvs3 (Sum.inl y.2.2) (.ref nw), qs3 ++ [(p7, y.2.2)], _, _, _, _, rfl, ⟨same_set hu00 (m6.trans (same_upd hp7)), ?_, ?_, ?_, ?_, ?_, by rw [pe]; omega, .inr ?_, by rw [pe, List.length_append]; simp only [List.length_cons, List.length_nil]; omega⟩, ?_, by rw [pe]; omega, ?_⟩
                · rw [upd_ne hdu]
                  exact hd7
                · rw [upd_ne hur.symm]
                  exact hr7
                · rw [List.map_append]
                  exact upd_same
                · exact C5.rp.keep kk (by rw [pe]; omega)
                · intro q hq
                  rcases List.mem_append.mp hq with hq | hq
                  · exact C5.rq.keep kk (by rw [pe]; omega) q hq
                  · have e : q = (p7, y.2.2) := by simpa using hq
                    subst e
                    refine ⟨b3, b6, nw, xs ++ [V.int (k : Nat)], k8 _ _ upd_same, k8 _ _ (k7 _ _ n6), ?_⟩
                    rw [pe, List.length_append]
                    simp only [List.length_cons, List.length_nil]
                    omega
                · rcases C3.me with ⟨_, z⟩ | z <;> omega
                · exact kk _ _ ((same_upd (o := HO.tup [V.int (k : Nat)]) hp |>.trans s5) _ _ w4)
                · refine go _ _ (fun g h => ?_) (fun g h => ?_) (fun q h => List.mem_append_left _ h) (fun _ => ?_)
                  · rw [has_put] at h
                    rcases (Bool.or_eq_true _ _).mp h with h | h
                    · exact .inr ⟨_, List.mem_append_right _ (List.mem_singleton.mpr rfl), (of_decide_eq_true h).symm⟩
                    · exact .inl h
                  · rw [has_put, h, Bool.or_true]
                  · rw [has_put, decide_eq_true rfl]
                    rfl
              · have yes : has kvs3 y.2.2 = true := by
                  cases e : has kvs3 y.2.2 with
                  | true => rfl
                  | false =>
                    have e' : (valV kvs3 (Sum.inl y.2.2 : Key)).isSome = false := e
                    rw [e'] at y1
                    exact absurd rfl y1
                exact ⟨kvs3, qs3, _, _, _, _, rfl, C4, w4, wl, go kvs3 qs3 (fun g h => .inl h) (fun g h => h) (fun q h => h) (fun _ => yes)⟩
            · have z1 : ¬ y.1 = q1.2 := fun e => z (decide_eq_true (congrArg V.int e))
              refine iteF ?_
              exact ⟨kvs3, qs3, _, _, _, _, rfl, C4, w4, wl, go kvs3 qs3 (fun g h => .inl h) (fun g h => h) (fun q h => h) (fun e => absurd e z1)⟩
          · rintro σ H3 ⟨kvs3, qs3, v7, v8, v9, v10, rfl, C3, w3, wl, cl3⟩
            refine ⟨kvs3, qs3, _, _, v7, v8, v9, v10, rfl, C3, fun x hx h => ?_⟩
            rcases cl3 x hx h with (z | ⟨_, z⟩) | z
            · exact .inl z
            · rw [show (ts.map V.ref).length = fr.length by simp [hl], List.drop_length] at z
              cases z
            · exact .inr z
        · rintro σ H2 ⟨kvs2, qs, v5, v6, v7, v8, v9, v10, rfl, C, cl⟩
          refine ⟨_, rfl, _, ?_, u, kvs2, qs, some (.ref u), v5, v6, v7, v8, v9, v10, rfl, C.sm, C.hd, C.hu, C.rq, C.cnt, fun x hx h => ?_, rfl⟩
          · rw [if_neg hps]
            rcases C.me with ⟨z, y⟩ | z
            · rw [if_pos z]
              omega
            · split <;> omega
          · rcases cl x hx h with (z | z) | z
            · rw [List.length_map, List.drop_length] at z
              obtain ⟨_, z, _⟩ := z
              cases z
            · exact .inl z
            · exact .inr z
end
end K35

set_option Elab.async false
set_option linter.all false
set_option maxRecDepth 100000
set_option maxHeartbeats 4000000
/-! is_joined, need_framing. -/
namespace K35
open PySem L2 L2.EV
abbrev sJoined : Stmt := top 14
abbrev sNeedF : Stmt := top 15
def spJoined : Sp := fun vs H Q _ => ∃ (f : Addr) (fr : List T3) (last : Nat), vs = [.ref f] ∧ FrA H f fr ∧ Frm fr last ∧ ∀ H', Same H H' → Q (.bl true) H'
def spNeedF : Sp := fun vs H Q _ => ∃ (f : Addr) (fr : List T3) (last : Nat), vs = [.ref f] ∧ FrA H f fr ∧ Frm fr last ∧ ∀ H', Same H H' → Q (.ref f) H'
/-- the defs that need_framing calls -/
structure Fs (K : PySem.W.Frag) (mg : Str → Option Value) where
  fN : Addr
  fP : Addr
  fS : Addr
  fL : Addr
  fW : Addr
  fJ : Addr
  fF : Addr
  dN : FuncData
  dP : FuncData
  dS : FuncData
  dL : FuncData
  dW : FuncData
  dJ : FuncData
  dF : FuncData
  N : Fun K "is_number" "is_number" sNum fN dN
  P : Fun K "is_piece" "is_piece" sPc fP dP
  S : Fun K "is_step" "is_step" sStep fS dS
  L : Fun K "listed_standings" "listed_standings" sListed fL dL
  W : Fun K "ways_from" "ways_from" sWays fW dW
  J : Fun K "is_joined" "is_joined" sJoined fJ dJ
  F : Fun K "need_framing" "need_framing" sNeedF fF dF
  bN : Binds K dN ["thing", "many"] []
  bP : Binds K dP ["thing"] []
  bS : Binds K dS ["thing"] []
  bL : Binds K dL ["framing"] []
  bW : Binds K dW ["framing", "begin"] []
  bJ : Binds K dJ ["framing"] []
  bF : Binds K dF ["thing"] []
  mN : mg "is_number" = some (.ref fN)
  mP : mg "is_piece" = some (.ref fP)
  mS : mg "is_step" = some (.ref fS)
  mL : mg "listed_standings" = some (.ref fL)
  mW : mg "ways_from" = some (.ref fW)
  mJ : mg "is_joined" = some (.ref fJ)
  mF : mg "need_framing" = some (.ref fF)
  T : TxtF mg
  so : mg "sorted" = none
  en : mg "enumerate" = none
  ms : ∃ t, mg "MOST_STEPS" = some (.int 16 t)
section
variable {P : Program} {w : World} {K : PySem.W.Frag} {mg : Str → Option Value} {base : Heap}
theorem scJoined : FnScope ["framing", "reached", "standing"] ["framing"] (defScope sJoined) := ⟨rfl, rfl, rfl, by decide +kernel, rfl, by decide +kernel, by decide +kernel⟩
theorem ok_joined (Z : Fs K mg) : FnOk P w K mg base CX0 2 Z.fJ Z.dJ ["framing"] spJoined := by
  have GL : FnOk P w K mg base CX0 1 Z.fL Z.dL ["framing"] spListed := ok_listed Z.L Z.so
  have GW : FnOk P w K mg base CX0 1 Z.fW Z.dW ["framing", "begin"] spWays := ok_ways Z.W Z.en
  refine Z.J.ok scJoined (fun vs H Q E h => ?_) (fun cdv A outer s H vs Q E hr h => ?_)
  · obtain ⟨f, fr, last, rfl, _⟩ := h
    rfl
  · obtain ⟨f, fr, last, rfl, fa, fm, q⟩ := h
    have hu := hu_of hr
    refine ⟨_, pss_cons (ps_set (i := 1) scJoined.nd rfl (Or.inl rfl) (pe_call GW hr (by rfl) Z.mW Z.W.kp Z.bW .nil pass0 (pa_cons (pv 0) (pa_cons pe_int pa_nil))))
      (pss_cons (ps_for PassesOwn.never rfl (pi_list (pe_call GL hr (by rfl) Z.mL Z.L.kp Z.bL .nil pass0 (pa_cons (pv 0) pa_nil))) (pg_name (i := 2) scJoined.nd rfl (Or.inl rfl))
        (pss_one (ps_if (pw_or (pt_cmp (pc_dnotin hu (pv 2) (pv 1)) (by rfl)) (pw_or1 (pt_cmp (pc_dnotin hu pe_int (pe_call GW hr (by rfl) Z.mW Z.W.kp Z.bW .nil pass0 (pa_cons (pv 0) (pa_cons (pv 2) pa_nil)))) (by rfl)))).pt
          (pss_one (ps_ret pe_bl)) pss_nil)))
      (pss_one (ps_ret pe_bl))), ?_⟩
    refine ⟨_, rfl, f, fr, last, 0, rfl, fa, fm, Nat.zero_le _, fun H1 d kvs s1 n1 e1 h1 => ?_⟩
    refine ⟨_, rfl, f, fr, last, rfl, fa.same s1, fm, fun H2 p ns s2 n2 e2 l2 k2 => ⟨p, rfl, ⟨_, SqL.of e2⟩, for_it (walk_list (xs := ns.map V.int)) (fun i σ H' => ∃ v2 : Option V, σ = [some (.ref f), some (.ref d), v2] ∧ Same H2 H')
      ⟨none, rfl, fun _ _ e => e⟩ (fun i σ H' _ ⟨_, _, z⟩ => SqL.of (z _ _ e2)) ?_ ?_⟩⟩
    · rintro i x σ H3 H4 hi ⟨v2, rfl, s3⟩ ⟨rfl, hx⟩
      obtain ⟨k, hk, rfl⟩ : ∃ k : Int, k ∈ ns ∧ x = .int k := by
        rw [List.getElem?_map] at hx
        cases e : ns[i]? with
        | none =>
          rw [e] at hx
          cases hx
        | some k =>
          rw [e] at hx
          exact ⟨k, List.mem_of_getElem? e, (Option.some.inj hx).symm⟩
      obtain ⟨k0, k1⟩ := k2 k hk
      obtain ⟨b, rfl⟩ := Int.eq_ofNat_of_zero_le k0
      have hb : b ≤ last := by omega
      have hb' : (valV kvs (Sum.inl (b : Int) : Key)).isSome = true := h1 b hb
      refine ⟨_, rfl, _, rfl, d, _, rfl, DGet.k (k := Sum.inl (b : Int)) (s3 _ _ (s2 _ _ e1)), _, rfl, iteF' (by rw [hb']; rfl) ?_⟩
      refine ⟨_, rfl, _, rfl, f, fr, last, b, rfl, (fa.same s1).same (s2.trans s3), fm, hb, fun H5 d5 kvs5 s5 n5 e5 h5 => ?_⟩
      have h0' : (valV kvs5 (Sum.inl (0 : Int) : Key)).isSome = true := h5 0 (Nat.zero_le _)
      refine ⟨d5, _, rfl, DGet.k (k := Sum.inl (0 : Int)) e5, _, rfl, iteF' (by rw [h0']; rfl) ?_⟩
      exact ⟨_, rfl, s3.trans s5⟩
    · rintro σ H3 ⟨v2, rfl, s3⟩
      exact q H3 (s1.trans (s2.trans s3))
theorem scNeedF : FnScope ["thing", "number", "step"] ["thing"] (defScope sNeedF) := ⟨rfl, rfl, rfl, by decide +kernel, rfl, by decide +kernel, by decide +kernel⟩
theorem ok_needF (Z : Fs K mg) : FnOk P w K mg base CX0 3 Z.fF Z.dF ["thing"] spNeedF := by
  have GS : FnOk P w K mg base CX0 2 Z.fS Z.dS ["thing"] spStep := ok_step Z.S Z.T Z.N Z.bN Z.mN Z.P Z.bP Z.mP
  have GJ : FnOk P w K mg base CX0 2 Z.fJ Z.dJ ["framing"] spJoined := ok_joined Z
  refine Z.F.ok scNeedF (fun vs H Q E h => ?_) (fun cdv A outer s H vs Q E hr h => ?_)
  · obtain ⟨f, fr, last, rfl, _⟩ := h
    rfl
  · obtain ⟨f, fr, last, rfl, fa, fm, q⟩ := h
    have hu := hu_of hr
    have hu0 : (A.deeper (PyProof.Rows.envOfC "need_framing" (defScope sNeedF) s.heap.objs.size Z.fF cdv)).units < cLine := by omega
    obtain ⟨tm, eM⟩ := Z.ms
    refine ⟨_, pss_cons (ps_if (pw_or (pt_not (pt_val (pe_callB call_isi (by rfl) Z.T.isi PyProof.Rows.boot_isinstance (pa_cons (pv 0) (pa_cons (pe_bltn (v := .ty "tuple") (by rfl) Z.T.tuple (by decide +kernel) rfl) pa_nil)))))
        (pw_or1 (pt_not (pt_chain op_le op_le pe_int (pe_callB call_len_seq (by rfl) Z.T.len PySem.boot_len (pa_cons (pv 0) pa_nil)) (pe_glob (v := .int 16) (by rfl) eM ⟨_, rfl⟩))))).pt
        (pss_one ps_never) pss_nil)
      (pss_cons (ps_for PassesOwn.never rfl (pi_enumT (by rfl) Z.en (pa_cons (pv 0) pa_nil)) (pg_tup rfl (pgs_cons (pg_name (i := 1) scNeedF.nd rfl (Or.inl rfl)) (pgs_cons (pg_name (i := 2) scNeedF.nd rfl (Or.inl rfl)) pgs_nil)))
        (pss_one (ps_if (pw_or (pt_not (pt_val (pe_call GS hr (by rfl) Z.mS Z.S.kp Z.bS .nil pass0 (pa_cons (pv 2) pa_nil))))
          (pw_or1 (pw_and (pt_cmpR op_gt (pv 1) pe_int (nomark _)) (pw_and1 (pt_cmpR (op_le3 hu0) (pv 2) (pe_ix ix_tup (pv 0) (pe_op op_sub (pv 1) pe_int) (fun _ _ => rfl)) (nomark _)))).pt)).pt
          (pss_one ps_never) pss_nil)))
      (pss_cons (ps_if (pt_not (pt_val (pe_call GJ hr (by rfl) Z.mJ Z.J.kp Z.bJ .nil pass0 (pa_cons (pv 0) pa_nil)))) (pss_one ps_never) pss_nil)
      (pss_one (ps_ret (pv 0))))), ?_⟩
    obtain ⟨ts, hf, hl, ht⟩ := id fa
    have l0 := fm.l0
    have l1 := fm.l1
    refine ⟨_, rfl, .ref f, .ty "tuple", .type "tuple", .type "tuple", true, rfl, .ty "tuple", .base (.tup hf), kit_ty (by decide +kernel), true, rfl, iteF ?_⟩
    refine ⟨_, rfl, f, _, rfl, .inr (SqT.of hf), 1, _, rfl, rfl, _, rfl, iteT' (decide_eq_true (by simp; omega)) ⟨_, 16, rfl, rfl, _, rfl, ?_⟩⟩
    refine iteF' (by rw [decide_eq_true (by simp; omega)]; rfl) ?_
    refine ⟨_, rfl, f, _, rfl, SqT.of hf, for_it (walk_enumT (xs := ts.map V.ref)) (fun i σ H' => ∃ v1 v2 : Option V, σ = [some (.ref f), v1, v2] ∧ Same H H')
      ⟨none, none, rfl, fun _ _ e => e⟩ (fun i σ H' _ ⟨_, _, _, z⟩ => SqT.of (z _ _ hf)) ?_ ?_⟩
    · rintro i x σ H1 H2 hi ⟨v1, v2, rfl, s1⟩ ⟨T, xi, xo, rfl, nT, rfl, h1, h2⟩
      cases h1
      obtain ⟨t, y, hy, rfl, e4⟩ := at_step (i := i) hl ht h2
      have s2 := s1.trans (same_upd (o := HO.tup [V.int (i : Nat), V.ref t]) nT)
      refine ⟨T, _, rfl, SqT.of upd_same, rfl, _, _, rfl, _, _, rfl, rfl, ?_⟩
      refine ⟨_, rfl, t, y, rfl, s2 _ _ e4, fm.stp y (List.mem_of_getElem? hy), fun H3 s3 => ⟨_, rfl, iteF ?_⟩⟩
      refine ⟨_, rfl, (i : Int), 0, rfl, rfl, _, rfl, ?_⟩
      refine ite2 (fun z => ?_) (fun z => ?_)
      · have z1 : (0 : Int) < i := of_decide_eq_true z
        obtain ⟨j, rfl⟩ : ∃ j, i = j + 1 := ⟨i - 1, by omega⟩
        have jl : j < fr.length := by
          have := (List.getElem?_eq_some_iff.mp hy).1
          omega
        have jt : j < ts.length := by omega
        have e5 := ht j ts[j] fr[j] (List.getElem?_eq_getElem jt) (List.getElem?_eq_getElem jl)
        have lt : lt3 fr[j] y = true := by
          have h3 := List.pairwise_iff_getElem.mp fm.srt j (j + 1) jl (List.getElem?_eq_some_iff.mp hy).1 (by omega)
          rw [(List.getElem?_eq_some_iff.mp hy).2] at h3
          exact h3
        refine ⟨_, rfl, _, rfl, _, rfl, _, _, rfl, rfl, f, _, (j : Int), V.ref ts[j], rfl, ?_, SqT.of (s3 _ _ (s2 _ _ hf)), atI_nat ?_, t, ts[j], y, fr[j], rfl, rfl, s3 _ _ (s2 _ _ e4), s3 _ _ (s2 _ _ e5), _, rfl, ?_⟩
        · show V.int (((j + 1 : Nat) : Int) - 1) = V.int (j : Int)
          congr 1
          omega
        · rw [List.getElem?_map, List.getElem?_eq_getElem jt]
          rfl
        · refine iteF' (by rw [lt]; rfl) ?_
          exact ⟨_, _, rfl, s2.trans s3⟩
      · refine iteF ?_
        exact ⟨_, _, rfl, s2.trans s3⟩
    · rintro σ H1 ⟨v1, v2, rfl, s1⟩
      refine ⟨_, rfl, f, fr, last, rfl, fa.same s1, fm, fun H2 s2 => ⟨_, rfl, iteF ⟨_, rfl, q H2 (s1.trans s2)⟩⟩⟩
end
end K35

set_option Elab.async false
set_option linter.all false
set_option maxRecDepth 100000
set_option maxHeartbeats 4000000
/-! try: .. except (A, B, ..) as e: the caught error is kept as a value behind the suite. Raising an own exception that was made by its own __init__. -/
namespace L2
namespace EV
open PySem PySem.Spec PyProof.Rows _root_.EV
/-- an exception that was caught, at a -/
def exh (cls : Value) (d : Option Addr) (a : Addr) : HO := .ext fun h => ∃ (oe : Obj) (vs : Array Value), h.get? a = some oe ∧ Zc cls d oe ∧ oe.data = .fields vs
theorem exh_ok {P : Program} {w : World} {H : Hp} {h : Heap} {a : Addr} {cls : Value} {d : Option Addr} {oe : Obj} {vs : Array Value} (e : h.get? a = some oe) (z : Zc cls d oe) (hd : oe.data = .fields vs) : ObjOk P w H h a (exh cls d a) :=
  ⟨⟨oe, vs, e, z, hd⟩, ⟨oe, e⟩, fun _ _ ⟨o, v, q, r⟩ k => ⟨o, v, k o q, r⟩⟩
theorem exh_at {P : Program} {w : World} {H : Hp} {h : Heap} {a : Addr} {cls : Value} {d : Option Addr} (hok : HOk P w H h) (e : H a = some (exh cls d a)) : ∃ (oe : Obj) (vs : Array Value), h.get? a = some oe ∧ Zc cls d oe ∧ oe.data = .fields vs := by
  have q : ObjOk P w H h a (.ext fun h => ∃ (oe : Obj) (vs : Array Value), h.get? a = some oe ∧ Zc cls d oe ∧ oe.data = .fields vs) := hok a _ e
  exact q.1
theorem flies_keeps {B : Heap} {l : List Env} {a : Addr} {Z : Obj → Prop} {h h' : Heap} (f : HandSPX.FlyingZ B l a Z h) (k : ∀ b o, h.get? b = some o → h'.get? b = some o) : HandSPX.FlyingZ B l a Z h' := by
  obtain ⟨f1, f2, f3, oe, vs, T, oT, ts, e1, e2, e3, e4, e5, e6, e7, e8, e9⟩ := f
  exact ⟨fun b o q => k b o (f1 b o q), f2, f3.of_keeps fun b o q _ => ⟨o, k b o q, rfl⟩, oe, vs, T, oT, ts, k _ _ e1, e2, e3, e4, e5, e6, k _ _ e7, e8, e9⟩
/-! ### does one of several classes match -/
section
variable {M : Model} {K : PySem.W.Frag} {h : Heap} {cls : Value}
theorem all_cls : ∀ {cs : List Value} {b : Bool}, PySem.W.exmAny K cls cs = some b → ∀ c ∈ cs, ∃ v, PySem.W.exmOne K cls c = some v
  | c :: r, b, e, x, hx => by
    obtain ⟨b1, d1, h1, h2, _⟩ := PySem.W.exmAny_cons e
    rcases List.mem_cons.mp hx with rfl | hx
    · exact ⟨_, h1⟩
    · exact all_cls h2 x hx
section
variable {A : Around} {E : Value → Shared → Prop} {s : Shared}
theorem loop_exc (X : K.In h) (k0 : ∀ b o, h.get? b = some o → s.heap.get? b = some o) {R : PUnit → Shared → Prop} (r : R ⟨⟩ s) : ∀ l : List Value, (∀ c ∈ l, ∃ v, PySem.W.exmOne K cls c = some v) →
    wpAny M A (forIn l PUnit.unit fun c _ => do
        if (!(← isExcClass c)) = true then do
          rule "try.except-non-exception-class"
          raiseErrorWords "TypeError" "catching classes that do not inherit from BaseException is not allowed"
          pure (ForInStep.yield PUnit.unit)
        else pure (ForInStep.yield PUnit.unit)) R E s := by
  intro l
  induction l with
  | nil => exact fun _ => wpAny_pure r
  | cons c l ih =>
    intro hl
    obtain ⟨v, hv⟩ := hl c (List.mem_cons_self ..)
    obtain ⟨i1, _⟩ := PySem.W.exm_cls (M := M) X hv
    rw [List.forIn_cons]
    refine wpAny_bind (wpAny_bind ((i1.keeps k0).here ?_))
    simp only [Bool.not_true, Bool.false_eq_true, if_false]
    exact wpAny_pure (ih fun x hx => hl x (List.mem_cons_of_mem _ hx))
theorem loop_sub (X : K.In h) (k0 : ∀ b o, h.get? b = some o → s.heap.get? b = some o) {R : Option Bool × Unit → Shared → Prop} : ∀ (l : List Value) (b : Bool), PySem.W.exmAny K cls l = some b → R (if b = true then (some true, ()) else (none, ())) s →
    wpAny M A (forIn l ((none, ()) : Option Bool × Unit) fun c _ => do
        if (← isSubtype cls c) = true then pure (ForInStep.done (some true, ())) else pure (ForInStep.yield (none, ()))) R E s := by
  intro l
  induction l with
  | nil =>
    intro b e r
    have : some false = some b := e
    cases this
    exact wpAny_pure r
  | cons c l ih =>
    intro b e r
    obtain ⟨b1, d1, h1, h2, rfl⟩ := PySem.W.exmAny_cons e
    obtain ⟨_, S1⟩ := PySem.W.exm_cls (M := M) X h1
    rw [List.forIn_cons]
    refine wpAny_bind (wpAny_bind ((S1.keeps k0).here ?_))
    cases b1 with
    | true =>
      rw [Bool.true_or] at r
      simp only [if_true]
      exact wpAny_pure (wpAny_pure r)
    | false =>
      rw [Bool.false_or] at r
      simp only [Bool.false_eq_true, if_false]
      exact wpAny_pure (ih _ h2 r)
end
theorem match_list {cs : List Value} {b : Bool} {tp e : Addr} (X : K.In h) (LT : PySem.W.Looks M h (typeOf (.ref e)) cls) (hp : h.get? tp = some { cls := .type "tuple", data := .seq cs.toArray }) (hx : PySem.W.exmAny K cls cs = some b) :
    PySem.W.Looks M h (excMatches (.ref e) (.ref tp)) b := by
  intro A Q E s k0 q
  have L0 : PySem.W.Looks M h (isInstance (.ref tp) (.type "tuple")) true := ((PySem.W.Looks.ld hp).andThen .now).andThen (PySem.W.Looks.of_pure isSubtype_tuple_tuple)
  have hp' := k0 _ _ hp
  unfold excMatches
  refine wpAny_bind ((L0.keeps k0).here ?_)
  rw [if_pos rfl]
  have ec : ((some cs.toArray).getD #[]).toList = cs := by simp
  refine wpAny_bind ?_
  refine wpAny_seqItems hp' rfl ?_
  refine wpAny_bind (wpAny_pure ?_)
  show wpAny _ _ (do
      forIn ((some cs.toArray).getD #[]).toList PUnit.unit _
      _) _ _ _
  rw [ec]
  refine wpAny_bind (loop_exc X k0 ?_ cs (all_cls hx))
  refine wpAny_bind ((LT.keeps k0).here ?_)
  refine wpAny_bind (loop_sub X k0 cs b hx ?_)
  cases b with
  | true => exact wpAny_pure q
  | false => exact wpAny_pure q
end
/-! ### the rule -/
/-- classes by their names -/
inductive ClsL (X : Cx) : List Expr → List Value → Prop
  | nil : ClsL X [] []
  | cons {x : Str} {c : Value} {p : Pos} {es : List Expr} {cs : List Value} : Names X x c → ClsL X es cs → ClsL X (.Name x p :: es) (c :: cs)
theorem ClsL.suite {X : Cx} {a : Addr} {pn : List (Addr × Obj)} : ∀ {es : List Expr} {cs : List Value}, ClsL X es cs → ClsL (X.suite a pn) es cs
  | _, _, .nil => .nil
  | _, _, .cons hc r => .cons (X := X.suite a pn) hc r.suite
theorem cls_read {Y : Cx} {pins : List (Addr × Obj)} {σ : St} {H : Hp} {s : Shared} (I : Inv Y pins σ H s) {pos : Pos} {E : Value → Shared → Prop} : ∀ {es : List Expr} {cs : List Value} {Q : List Value → Shared → Prop}, ClsL Y es cs → Q cs s →
    wpAny (model Y.prog Y.w) Y.A (spliced (backTo pos (starEach es Y.env))) Q E s
  | _, _, _, .nil, q => wpAny_items_nil q
  | _, _, Q, .cons (c := c) (es := es) (cs := cs) hc r, q => wpAny_items_cons (by
      have rest : wpAny (model Y.prog Y.w) Y.A (spliced (backTo pos (starEach es Y.env))) (fun vs s2 => Q (c :: vs) s2) E s := cls_read I r q
      obtain ⟨hg, hd, hm | ⟨hm, hv, hn⟩⟩ := hc
      · exact ld_glob I hg hm rest hd
      · exact ld_blt I hg hm hv rest hn hd)
theorem ClsL.len {X : Cx} : ∀ {es : List Expr} {cs : List Value}, ClsL X es cs → cs.length = es.length
  | _, _, .nil => rfl
  | _, _, .cons _ r => by rw [List.length_cons, List.length_cons, r.len]
/-- what is pinned is tracked from now on -/
theorem inv_hold {X : Cx} {pins : List (Addr × Obj)} {σ : St} {H : Hp} {s : Shared} {a : Addr} {oe : Obj} {vs : Array Value} {cls : Value} {d : Option Addr} (I : Inv X ((a, oe) :: pins) σ H s) (hm : ∀ p, p ∈ (a, oe) :: (X.pn ++ pins) → p ∈ X.pn ++ ((a, oe) :: pins)) (z : Zc cls d oe) (hd : oe.data = .fields vs)
    (n0 : X.s_0.heap.get? a = none) (np : ∀ p ∈ X.pn ++ pins, p.1 ≠ a) : Inv X pins σ (upd H a (exh cls d a)) s := by
  obtain ⟨e, n, ne, nf, dc⟩ := I.pin (a, oe) (hm _ (List.mem_cons_self ..))
  have ne : a ≠ X.env.locals := ne
  have n : H a = none := n
  have old : ∀ b o, X.s_0.heap.get? b = some o → b ≠ a := fun b o q z => by
    rw [z, n0] at q
    cases q
  refine ⟨I.ok, I.os, I.bare, ⟨I.base.keep, I.base.slot, fun b o q m hx => ?_, I.base.there, fun b xs q => ?_, fun b o u q => ?_, fun b ps q => ?_⟩, I.loc, I.cell, ?_, fun x c q => ?_, fun p hp => ?_, ?_, I.len⟩
  · rw [upd_ne (old b o q)]
    exact I.base.free b o q m hx
  · have z := I.base.tups b xs q
    rw [upd_ne (ne_of_none z n)]
    exact z
  · have z := I.base.frzs b o u q
    rw [upd_ne (ne_of_none z n)]
    exact z
  · obtain ⟨m, z⟩ := I.base.tbls b ps q
    exact ⟨m, by rw [upd_ne (ne_of_none z n)]; exact z⟩
  · rw [upd_ne ne.symm]
    exact I.free
  · have nc : c ≠ a := fun z => by
      obtain ⟨v, o, q1, q2⟩ := I.cell x c q
      rw [z] at q1
      have e' : s.heap.get? a = some oe := e
      rw [e'] at q1
      cases q1
      rw [hd] at q2
      cases q2
    rw [upd_ne nc]
    exact I.freeC x c q
  · obtain ⟨e1, e2, e3, e4, e5⟩ := I.pin p (hm p (List.mem_cons_of_mem _ hp))
    exact ⟨e1, by rw [upd_ne (np p hp)]; exact e2, e3, e4, e5⟩
  · exact I.hok.laidN (fun _ _ q => q) n (exh_ok e z hd)
/-- what the clause wishes of an exception of the body: it is of one of the classes; behind the suite it stands at a -/
def wKeep (K : PySem.W.Frag) (n : Nat) (cs : List Value) (i : Nat) (ts : Addr → Value → Option Addr → TS) (D : Ends) : WX := fun cls d σ H => σ.length = n → PySem.W.exmAny K cls cs = some true ∧
  ∀ a, H a = none → ts a cls d { nx := fun σ' H' => D.nx (σ'.set i none) (upd H' a (exh cls d a)), rt := fun _ _ => False } (σ.set i (some (.ref a))) H
section
variable {X : Cx} {n : Str} {cs : List Value} {es : List Expr} {kx i : Nat} {body suite : List Stmt} {b0 : Stmt} {tpos pos hpos : Pos} {tb : WX → TS} {ts : Addr → Value → Option Addr → TS}
theorem ps_try_keep (hs : X.stack = X.env :: X.outer) (hf : X.env.frame = some X.env.locals) (hex : X.ex = []) (hN : X.N.Nodup) (hi : X.N[i]? = some n) (hln : X.env.kindOf n = some .local) (hc : ClsL X es cs) (hl : es.length ≤ 1000)
    (hb : ∀ (W : WX) (pn : List (Addr × Obj)) (xe : Value → Shared → Prop), Takes (X.tr pn xe) W → PassesOwn (model X.prog X.w) X.A X.env xe → PSs (X.tr pn xe) body (tb W))
    (hsu : ∀ (a : Addr) (oe : Obj) (cls : Value) (d : Option Addr) (pn : List (Addr × Obj)), Zc cls d oe → (∃ vs, oe.data = .fields vs) → PSs (X.suite a ((a, oe) :: pn)) (b0 :: suite) (ts a cls d)) :
    PS X (.Try body [.ExceptHandler (some (.Tuple es kx tpos)) (some n) (b0 :: suite) hpos] [] [] pos) (fun D σ H => tb (wKeep X.K X.N.length cs i ts D) D σ H) := by
  refine ⟨fun pins s σ H D I h => ?_⟩
  have ok := I.ok
  have hfr : X.A.frames = some (X.env :: X.outer) := by rw [ok.frames, hs]
  have loc : Loc X.env.scope n := .inl hln
  have B0 := hb (wKeep X.K X.N.length cs i ts D) (X.pn ++ pins) (fun e s1 => wpAny (model X.prog X.w) X.A (noteFrame e X.env) (fun _ s2 => wpAny (model X.prog X.w) X.A (setFlight e none) (fun _ s3 =>
    wpAny (model X.prog X.w) X.A (handleBy e X.env [.ExceptHandler (some (.Tuple es kx tpos)) (some n) (b0 :: suite) hpos]) (SP X pins D) X.xe s3) X.xe s2) X.xe s1)
  refine wpAny_Try_except (wpAny_mono ((B0 (fun u s' caught => ?_) PassesOwn.looking).run [] s σ H D (I.toTry _) h) (fun f s1 went => ?_) fun _ _ z => z)
  · obtain ⟨a, B, sI, pins', σ', H', cls, d, rfl, J', nb, up, sky, na, os, ag, hW⟩ := caught
    obtain ⟨hit, hyes⟩ := hW J'.len
    have J : Inv X pins σ' H' sI := J'.ofTry ok
    show wpAny (model X.prog X.w) X.A (noteFrame (.ref a) X.env) _ _ _
    refine Sky.land Zc.steady hfr hf (by rw [← hs]; exact sky) fun h3 fl3 up3 => ?_
    have J3 : Inv X pins σ' H' { s' with heap := h3 } := J.landed nb fl3.1 (up.trans up3) os ag
    obtain ⟨oe3, vs3, he3, hz3, hd3⟩ := fl3.there
    have nfr : a ∉ frs (X.env :: X.outer) := fun hm => by
      obtain ⟨_, o, q, nd⟩ := fl3.2.2.1.mem hm
      rw [he3] at q
      cases q
      exact nd _ hd3
    have nL : a ≠ X.env.locals := fun z => nfr (List.mem_filterMap.mpr ⟨X.env, List.mem_cons_self, by rw [hf, z]⟩)
    have nF : a ∉ X.fs := fun hm => by
      obtain ⟨e, he, q⟩ := List.mem_filterMap.mp hm
      exact nfr (List.mem_filterMap.mpr ⟨e, List.mem_cons_of_mem _ he, q⟩)
    have nI : sI.heap.get? a = none := by
      cases q : sI.heap.get? a with
      | none => rfl
      | some o =>
        have z := nb a o q (by rw [hs]; exact nfr)
        rw [fl3.2.1] at z
        cases z
    have n0 : X.s_0.heap.get? a = none := by
      cases q : X.s_0.heap.get? a with
      | none => rfl
      | some o =>
        obtain ⟨o', z⟩ := J.base.there a o q (by rw [hex]; exact fun z => nomatch z)
        rw [nI] at z
        cases z
    have np : ∀ p ∈ X.pn ++ pins, p.1 ≠ a := fun p hp z => by
      have q := (J.pin p hp).1
      rw [z, nI] at q
      cases q
    have S3 := J3.suite he3 hd3 na nL nF
    refine wpAny_handleBy_cons (codeAny_handlers_test ?_) (by intro q; cases q)
    refine wpAny_Tuple (cls_read S3 hc.suite ⟨by rw [hc.len, sizeLine_eq]; omega, ?_⟩)
    have k5 : ∀ b o, h3.get? b = some o → (h3.push { cls := .type "tuple", data := .seq cs.toArray }).get? b = some o := fun _ _ z => Heap.get?_push_of_some _ z
    have LT : PySem.W.Looks (model X.prog X.w) (h3.push { cls := .type "tuple", data := .seq cs.toArray }) (typeOf (.ref a)) cls := fun A Q E s k q => wpAny_typeOf_ref (k _ _ (k5 _ _ he3)) (by rw [hz3.1]; exact q)
    refine (match_list (M := model X.prog X.w) (J3.kIn.keeps k5) LT (Heap.get?_push_size h3 rfl) hit).here ?_
    refine codeAny_handlers_suite_as ?_
    refine HandSPX.lands_againZ (flies_keeps fl3 k5) fun h4 fl4 up4 => ?_
    have J4 : Inv X pins σ' H' { s' with heap := h4 } := J.landed nb fl4.1 (((up.trans up3).trans (Heap.UpToSlots.of_keeps k5)).trans up4) os ag
    obtain ⟨oe4, vs4, he4, hz4, hd4⟩ := fl4.there
    have S4 := J4.suite he4 hd4 na nL nF
    refine store_ok (X := X.suite a ((a, oe4) :: (X.pn ++ pins))) (v := .ref a) S4 hN hi loc rfl (fun s5 S5 => ?_) (.inr hln)
    refine wpAny_mono ((hsu a oe4 cls d (X.pn ++ pins) hz4 ⟨_, hd4⟩).run [] s5 _ H' _ S5 (hyes a na)) (fun f s6 hsp => ?_) (fun _ _ z => False.elim z)
    cases f with
    | next =>
      obtain ⟨σ6, H6, S6, q6⟩ := hsp
      have K6 : Inv X ((a, oe4) :: pins) σ6 H6 s6 := ⟨ok, S6.os, S6.bare, S6.base, S6.loc, S6.cell, S6.free, S6.freeC, fun p hp => S6.pin p (by
        show p ∈ ((a, oe4) :: (X.pn ++ pins)) ++ []
        rw [List.append_nil]
        rcases List.mem_append.mp hp with z | z
        · exact List.mem_cons_of_mem _ (List.mem_append_left _ z)
        · rcases List.mem_cons.mp z with z | z
          · rw [z]
            exact List.mem_cons_self ..
          · exact List.mem_cons_of_mem _ (List.mem_append_right _ z)), S6.hok, S6.len⟩
      refine gone_ok K6 hN hi hln fun s7 J7 => ⟨_, _, inv_hold J7 (fun p hp => ?_) hz4 hd4 n0 np, q6⟩
      rcases List.mem_cons.mp hp with z | z
      · rw [z]
        exact List.mem_append_right _ (List.mem_cons_self ..)
      · rcases List.mem_append.mp z with z | z
        · exact List.mem_append_left _ z
        · exact List.mem_append_right _ (List.mem_cons_of_mem _ z)
    | brk =>
      obtain ⟨_, _, _, z⟩ := hsp
      exact False.elim z
    | cont =>
      obtain ⟨_, _, _, z⟩ := hsp
      exact False.elim z
    | ret u =>
      obtain ⟨_, _, _, _, _, z⟩ := hsp
      exact False.elim z
  · cases f with
    | next =>
      obtain ⟨σ', H', J', q⟩ := went
      exact wpAny_execs_nil ⟨σ', H', J'.ofTry ok, q⟩
    | brk =>
      obtain ⟨σ', H', J', q⟩ := went
      exact ⟨σ', H', J'.ofTry ok, q⟩
    | cont =>
      obtain ⟨σ', H', J', q⟩ := went
      exact ⟨σ', H', J'.ofTry ok, q⟩
    | ret u =>
      obtain ⟨v, σ', H', J', r, q⟩ := went
      exact ⟨v, σ', H', J'.ofTry ok, r, q⟩
end
/-! ### raise C(..), C with its own __init__ -/
theorem pmk_own2 {X : Cx} {e : Expr} {te : TE} (hx : X.ex = []) (he : PE X e te) :
    PMk X e (fun σ H Q => te σ H fun x H1 => ∃ (a C : Addr) (od : Option Addr), x = .ref a ∧ H1 a = some (exo a C od) ∧ Fr0 X.H_0 a ∧ Raises X (.ref C) ∧ Q (.ref C) od (delH H1 a)) := by
  intro pins s σ H Q I h
  refine wpAny_mono (he.run pins s σ H _ I h) (fun u s1 hu => ?_) fun _ _ x => x
  obtain ⟨v, H1, I1, r1, a, C, od, rfl, ha, h0, hr, q⟩ := hu
  cases r1
  obtain ⟨t1, ho⟩ := exo_at I1.hok ha
  obtain ⟨G, gs, ga, J⟩ := I1.untrack ha h0 hx
  exact ⟨a, _, _, { s1 with heap := G }, delH H1 a, .ref C, od, rfl, J, gs, ga, ho, ⟨rfl, rfl⟩, rfl, rfl, delH_same, rfl, I1.bare, hr, q⟩
/-! ### isinstance of a caught one -/
def rIsC (K : PySem.W.Frag) : List V → Hp → VK → Prop := fun xs H Q => ∃ (a C : Addr) (B newId initId : String) (bm : List Value) (c : V) (u : Value) (b : Bool),
  xs = [.ref a, c] ∧ ClsV c u ∧ OxC K C B newId initId bm ∧ H a = some (exh (.ref C) none a) ∧ PySem.W.kitOne K (.ref C) u = some b ∧ Q (.bl b) H
theorem call_isC {X : Cx} : CallR X (.builtin "isinstance") (rIsC X.K) := by
  intro pins s σ H xs us Q I r h
  obtain ⟨a, C, B, newId, initId, bm, c, u, b, rfl, k, T, ea, e, q⟩ := h
  obtain ⟨u1, u2, rfl, r1, r2⟩ := vals2 r
  have e2 := k.eq r2
  subst e2
  obtain rfl : u1 = Value.ref a := r1
  obtain ⟨oe, vs, ho, hz, hd⟩ := exh_at I.hok ea
  obtain ⟨cd, hcl, _⟩ := T.data
  have some_ : (PySem.W.clsIn X.K C).isSome = true := by rw [hcl]; rfl
  have J : PySem.W.InstAt s.heap a oe C none := ⟨ho, hz.1, by unfold PySem.W.notCls; rw [hd], by rw [hz.2]; exact trivial⟩
  exact PySem.W.kia_one (PySem.W.kitx_exc some_ T.ga T.gg T.exC T.ca T.cn T.ct T.om) I.kIn J e (fun z => nomatch z) fun tk => ⟨.bl b, H, I.tok tk, rfl, q⟩
end EV
end L2

set_option Elab.async false
set_option linter.all false
set_option maxRecDepth 100000
set_option maxHeartbeats 4000000
/-! Data of any form; is_number of it. -/
namespace K35
open PySem L2 L2.EV
mutual
/-- v stands for d, all of its lists and tuples tracked -/
inductive Da (H : Hp) : V → PyData → Prop
  | non : Da H .non .none
  | bl (b : Bool) : Da H (.bl b) (.bool b)
  | int (i : Int) : Da H (.int i) (.int i)
  | str (x : Str) : Da H (.str x) (.str x)
  | lst {a : Addr} {xs : List V} {ds : List PyData} : H a = some (.lst xs) → DaAll H xs ds → Da H (.ref a) (.list ds)
  | tup {a : Addr} {xs : List V} {ds : List PyData} : H a = some (.tup xs) → DaAll H xs ds → Da H (.ref a) (.tuple ds)
inductive DaAll (H : Hp) : List V → List PyData → Prop
  | nil : DaAll H [] []
  | cons {v : V} {vs : List V} {d : PyData} {ds : List PyData} : Da H v d → DaAll H vs ds → DaAll H (v :: vs) (d :: ds)
end
mutual
theorem Da.same {H H' : Hp} (s : Same H H') : ∀ (d : PyData) (v : V), Da H v d → Da H' v d
  | .none, _, h => by cases h; exact .non
  | .bool b, _, h => by cases h; exact .bl b
  | .int i, _, h => by cases h; exact .int i
  | .str x, _, h => by cases h; exact .str x
  | .list ds, _, h => by
    cases h with
    | lst e ha => exact .lst (s _ _ e) (DaAll.same s ds _ ha)
  | .tuple ds, _, h => by
    cases h with
    | tup e ha => exact .tup (s _ _ e) (DaAll.same s ds _ ha)
  | .dict _, _, h => by cases h
theorem DaAll.same {H H' : Hp} (s : Same H H') : ∀ (ds : List PyData) (vs : List V), DaAll H vs ds → DaAll H' vs ds
  | [], _, h => by cases h; exact .nil
  | d :: ds, _, h => by
    cases h with
    | cons h1 h2 => exact .cons (Da.same s d _ h1) (DaAll.same s ds _ h2)
end
mutual
theorem Da.dp {K : PySem.W.Frag} {H : Hp} : ∀ (d : PyData) (v : V), Da H v d → Dp K H v d
  | .none, _, h => by cases h; exact .non
  | .bool b, _, h => by cases h; exact .bl b
  | .int i, _, h => by cases h; exact .int i
  | .str x, _, h => by cases h; exact .str x
  | .list ds, _, h => by
    cases h with
    | lst e ha => exact .lst (SqL.of e) (DaAll.dp ds _ ha)
  | .tuple ds, _, h => by
    cases h with
    | tup e ha => exact .tup (SqT.of e) (DaAll.dp ds _ ha)
  | .dict _, _, h => by cases h
theorem DaAll.dp {K : PySem.W.Frag} {H : Hp} : ∀ (ds : List PyData) (vs : List V), DaAll H vs ds → DpAll K H vs ds
  | [], _, h => by cases h; exact .nil
  | d :: ds, _, h => by
    cases h with
    | cons h1 h2 => exact .cons (Da.dp d _ h1) (DaAll.dp ds _ h2)
end
theorem DaAll.len {H : Hp} : ∀ {vs : List V} {ds : List PyData}, DaAll H vs ds → vs.length = ds.length
  | _, _, .nil => rfl
  | _, _, .cons _ t => by rw [List.length_cons, List.length_cons, t.len]
theorem DaAll.at_ {H : Hp} : ∀ {vs : List V} {ds : List PyData} {i : Nat} {v : V}, DaAll H vs ds → vs[i]? = some v → ∃ d, ds[i]? = some d ∧ Da H v d
  | _, _, 0, _, .cons h _, e => by
    cases e
    exact ⟨_, rfl, h⟩
  | _, _, i + 1, _, .cons _ t, e => t.at_ (i := i) (by simpa using e)
  | _, _, _, _, .nil, e => by simp at e
theorem DaAll.at' {H : Hp} : ∀ {vs : List V} {ds : List PyData} {i : Nat} {d : PyData}, DaAll H vs ds → ds[i]? = some d → ∃ v, vs[i]? = some v ∧ Da H v d
  | _, _, 0, _, .cons h _, e => by
    cases e
    exact ⟨_, rfl, h⟩
  | _, _, i + 1, _, .cons _ t, e => t.at' (i := i) (by simpa using e)
  | _, _, _, _, .nil, e => by simp at e
theorem DaAll.app {H : Hp} : ∀ {vs ws : List V} {ds es : List PyData}, DaAll H vs ds → DaAll H ws es → DaAll H (vs ++ ws) (ds ++ es)
  | _, _, _, _, .nil, q => q
  | _, _, _, _, .cons h t, q => .cons h (t.app q)
theorem DaAll.drop {H : Hp} : ∀ {vs : List V} {ds : List PyData} (n : Nat), DaAll H vs ds → DaAll H (vs.drop n) (ds.drop n)
  | _, _, 0, h => h
  | _, _, n + 1, .nil => .nil
  | _, _, n + 1, .cons _ t => t.drop n
theorem DaAll.take {H : Hp} : ∀ {vs : List V} {ds : List PyData} (n : Nat), DaAll H vs ds → DaAll H (vs.take n) (ds.take n)
  | _, _, 0, h => .nil
  | _, _, n + 1, .nil => .nil
  | _, _, n + 1, .cons h t => .cons h (t.take n)
theorem DaAll.rev {H : Hp} : ∀ {vs : List V} {ds : List PyData}, DaAll H vs ds → DaAll H vs.reverse ds.reverse
  | _, _, .nil => .nil
  | _, _, .cons h t => by
    rw [List.reverse_cons, List.reverse_cons]
    exact t.rev.app (.cons h .nil)
/-! ### of which type -/
def isTup : PyData → Bool
  | .tuple _ => true
  | _ => false
def isInt : PyData → Bool
  | .int _ => true
  | .bool _ => true
  | _ => false
def isBl : PyData → Bool
  | .bool _ => true
  | _ => false
theorem Da.ty {K : PySem.W.Frag} {H : Hp} {v : V} {d : PyData} (h : Da H v d) : ∃ t : Value, TyX K H v t ∧ PySem.W.kitOne K t (.type "tuple") = some (isTup d) ∧ PySem.W.kitOne K t (.type "int") = some (isInt d) ∧ PySem.W.kitOne K t (.type "bool") = some (isBl d) := by
  cases h with
  | non => exact ⟨_, .base .non, kit_ty (r := false) (by decide +kernel), kit_ty (r := false) (by decide +kernel), kit_ty (r := false) (by decide +kernel)⟩
  | bl b => exact ⟨_, .base (.bl b), kit_ty (r := false) (by decide +kernel), kit_ty (r := true) (by decide +kernel), kit_ty (r := true) (by decide +kernel)⟩
  | int i => exact ⟨_, .base (.int i), kit_ty (r := false) (by decide +kernel), kit_ty (r := true) (by decide +kernel), kit_ty (r := false) (by decide +kernel)⟩
  | str x => exact ⟨_, .base (.str x), kit_ty (r := false) (by decide +kernel), kit_ty (r := false) (by decide +kernel), kit_ty (r := false) (by decide +kernel)⟩
  | lst e _ => exact ⟨_, .base (.lst e), kit_ty (r := false) (by decide +kernel), kit_ty (r := false) (by decide +kernel), kit_ty (r := false) (by decide +kernel)⟩
  | tup e _ => exact ⟨_, .base (.tup e), kit_ty (r := true) (by decide +kernel), kit_ty (r := false) (by decide +kernel), kit_ty (r := false) (by decide +kernel)⟩
def isSt : PyData → Bool
  | .str _ => true
  | _ => false
theorem Da.tyS {K : PySem.W.Frag} {H : Hp} {v : V} {d : PyData} (h : Da H v d) : ∃ t : Value, TyX K H v t ∧ PySem.W.kitOne K t (.type "str") = some (isSt d) := by
  cases h with
  | non => exact ⟨_, .base .non, kit_ty (r := false) (by decide +kernel)⟩
  | bl b => exact ⟨_, .base (.bl b), kit_ty (r := false) (by decide +kernel)⟩
  | int i => exact ⟨_, .base (.int i), kit_ty (r := false) (by decide +kernel)⟩
  | str x => exact ⟨_, .base (.str x), kit_ty (r := true) (by decide +kernel)⟩
  | lst e _ => exact ⟨_, .base (.lst e), kit_ty (r := false) (by decide +kernel)⟩
  | tup e _ => exact ⟨_, .base (.tup e), kit_ty (r := false) (by decide +kernel)⟩
/-! ### numbers -/
def numD (m : Int) : PyData → Option Int
  | .int i => if 0 ≤ i ∧ i < m then some i else none
  | _ => none
theorem numD_some {m i : Int} {d : PyData} (h : numD m d = some i) : d = .int i ∧ 0 ≤ i ∧ i < m := by
  cases d with
  | int j =>
    have h : (if 0 ≤ j ∧ j < m then some j else none) = some i := h
    by_cases c : 0 ≤ j ∧ j < m
    · rw [if_pos c] at h
      cases h
      exact ⟨rfl, c⟩
    · rw [if_neg c] at h
      cases h
  | _ => cases h
def spNumD : Sp := fun vs H Q _ => ∃ (v : V) (d : PyData) (m : Int), vs = [v, .int m] ∧ Da H v d ∧ Q (.bl (numD m d).isSome) H
section
variable {P : Program} {w : World} {K : PySem.W.Frag} {mg : Str → Option Value} {base : Heap}
theorem ok_numD {f : Addr} {fd : FuncData} (F : Fun K "is_number" "is_number" sNum f fd) (T : TxtF mg) : FnOk P w K mg base CX0 1 f fd ["thing", "many"] spNumD := by
  refine F.ok scNum (fun vs H Q E h => ?_) (fun cdv A outer s H vs Q E hr h => ?_)
  · obtain ⟨v, d, m, rfl, _⟩ := h
    rfl
  · obtain ⟨v, d, m, rfl, da, q⟩ := h
    refine ⟨_, pss_one (ps_ret (pe_and (pe_callB call_isi (by rfl) T.isi PyProof.Rows.boot_isinstance (pa_cons (pv 0) (pa_cons (pe_bltn (v := .ty "int") (by rfl) T.int (by decide +kernel) rfl) pa_nil)))
      (pe_and (pe_not (pe_callB call_isi (by rfl) T.isi PyProof.Rows.boot_isinstance (pa_cons (pv 0) (pa_cons (pe_bltn (v := .ty "bool") (by rfl) T.bool (by decide +kernel) rfl) pa_nil))))
        (pe_one (pe_chain op_le op_lt pe_int (pv 0) (pv 1)))))), ?_⟩
    obtain ⟨t, ty, _, ki, kb⟩ := da.ty (K := K)
    refine ⟨_, rfl, v, .ty "int", t, .type "int", isInt d, rfl, .ty "int", ty, ki, isInt d, rfl, ?_⟩
    cases da with
    | int n =>
      refine iteT ?_
      refine ⟨_, rfl, .int n, .ty "bool", t, .type "bool", false, rfl, .ty "bool", ty, kb, false, rfl, true, rfl, iteT ?_⟩
      refine ⟨_, rfl, 0, n, rfl, rfl, _, rfl, ?_⟩
      have q : Q (.bl (if 0 ≤ n ∧ n < m then some n else none).isSome) H := q
      refine ite2 (fun z => ?_) (fun z => ?_)
      · have z1 : 0 ≤ n := of_decide_eq_true z
        refine ⟨_, rfl, n, m, rfl, rfl, ?_⟩
        by_cases c : n < m
        · rw [if_pos ⟨z1, c⟩] at q
          show Q (.bl (decide (n < m))) H
          rw [decide_eq_true c]
          exact q
        · rw [if_neg (fun k => c k.2)] at q
          show Q (.bl (decide (n < m))) H
          rw [decide_eq_false c]
          exact q
      · have z1 : ¬ 0 ≤ n := fun k => z (decide_eq_true k)
        rw [if_neg (fun k => z1 k.1)] at q
        exact q
    | bl b =>
      refine iteT ?_
      exact ⟨_, rfl, .bl b, .ty "bool", t, .type "bool", true, rfl, .ty "bool", ty, kb, true, rfl, false, rfl, iteF q⟩
    | non => exact iteF q
    | str x => exact iteF q
    | lst e h => exact iteF q
    | tup e h => exact iteF q
end
end K35

set_option Elab.async false
set_option linter.all false
set_option maxRecDepth 100000
set_option maxHeartbeats 4000000
/-! A caught error that has fields: isinstance, its fields. -/
namespace L2
namespace EV
open PySem PySem.Spec PyProof.Rows _root_.EV
/-- isinstance of a caught one with fields -/
def rIsF (K : PySem.W.Frag) : List V → Hp → VK → Prop := fun xs H Q => ∃ (a C d : Addr) (fs : List (Str × V)) (B newId initId : String) (bm : List Value) (c : V) (u : Value) (b : Bool),
  xs = [.ref a, c] ∧ ClsV c u ∧ OxC K C B newId initId bm ∧ H a = some (exh (.ref C) (some d) a) ∧ H d = some (.xd fs) ∧ PySem.W.kitOne K (.ref C) u = some b ∧ Q (.bl b) H
theorem call_isF {X : Cx} : CallR X (.builtin "isinstance") (rIsF X.K) := by
  intro pins s σ H xs us Q I r h
  obtain ⟨a, C, d, fs, B, newId, initId, bm, c, u, b, rfl, k, T, ea, ed, e, q⟩ := h
  obtain ⟨u1, u2, rfl, r1, r2⟩ := vals2 r
  have e2 := k.eq r2
  subst e2
  obtain rfl : u1 = Value.ref a := r1
  obtain ⟨oe, vs, ho, hz, hd⟩ := exh_at I.hok ea
  have hx : ObjOk X.prog X.w H s.heap d (.xd fs) := I.hok d _ ed
  obtain ⟨mA, hns, hr⟩ := hx
  obtain ⟨od, hod, hl⟩ := lookIn_ns hns
  obtain ⟨cd, hcl, _⟩ := T.data
  have some_ : (PySem.W.clsIn X.K C).isSome = true := by rw [hcl]; rfl
  have J : PySem.W.InstAt s.heap a oe C (some od) := ⟨ho, hz.1, by unfold PySem.W.notCls; rw [hd], by rw [hz.2]; exact hod⟩
  exact PySem.W.kia_one (PySem.W.kitx_exc some_ T.ga T.gg T.exC T.ca T.cn T.ct T.om) I.kIn J e (fun z => nomatch z) fun tk => ⟨.bl b, H, I.tok tk, rfl, q⟩
/-- a caught one's field -/
def tXg (K : PySem.W.Frag) (f : Str) (te : TE) : TE := fun σ H Q => te σ H fun x H1 => ∃ (a C d : Addr) (fs : List (Str × V)) (v : V), x = .ref a ∧ XfC K C ∧ PySem.W.findIn K (.ref C) f = some none ∧ H1 a = some (exh (.ref C) (some d) a) ∧ H1 d = some (.xd fs) ∧ fs.lookup f = some v ∧ Q v H1
theorem pe_xg {X : Cx} {e : Expr} {te : TE} {pos : Pos} {n : Str} (he : PE X e te) (hb : attributeBase e n X.env (eval e X.env) = eval e X.env := by rfl) : PE X (.Attribute e n pos) (tXg X.K n te) := by
  refine ⟨fun pins s σ H Q I h => ?_⟩
  refine attr_of hb (thn (he.run pins s σ H _ I h) fun u s1 hh => ?_)
  obtain ⟨x, H1, I1, rx, a, C, d, fs, v, ex, T, hno, ea, ed, l, q⟩ := hh
  subst ex
  obtain rfl : u = Value.ref a := rx
  obtain ⟨oe, vs, ho, hz, hd⟩ := exh_at I1.hok ea
  have hx : ObjOk X.prog X.w H1 s1.heap d (.xd fs) := I1.hok d _ ed
  obtain ⟨mA, hns, hr⟩ := hx
  obtain ⟨od, hod, hl⟩ := lookIn_ns hns
  obtain ⟨u, hu, ru⟩ := RelO.some_of (v := v) (o := mA n) (by rw [← l]; exact hr n)
  have J : PySem.W.InstAt s1.heap a oe C (some od) := ⟨ho, hz.1, by unfold PySem.W.notCls; rw [hd], by rw [hz.2]; exact hod⟩
  exact HandSPX.exc_get I1.kIn J T.ga T.gg T.exC (PySem.W.findObj_own T.hdC hno rfl (by rw [hl, hu])) (handed_of ru) ⟨v, H1, I1.tok _, ru, q⟩
end EV
end L2

set_option Elab.async false
set_option linter.all false
set_option maxRecDepth 100000
set_option maxHeartbeats 4000000
/-! t[::-1] of a tuple. -/
namespace L2
namespace EV
open PySem PySem.Spec PyProof.Rows _root_.EV PySem.Builtin
theorem rev_adjust (n : Nat) : Slice.sliceAdjust none none (-1) (n : Int) = ((n : Int) - 1, -1) := by
  unfold Slice.sliceAdjust
  simp
theorem rev_places (n : Nat) : Slice.slicePlaces ((n : Int) - 1) (-1) (-1) = n := by
  unfold Slice.slicePlaces
  rw [if_neg (by decide)]
  by_cases h : 0 < n
  · rw [if_pos (by omega)]
    simp only [Int.neg_neg, Int.ediv_one]
    omega
  · rw [if_neg (by omega)]
    omega
theorem fm_congr {α β : Type} {f g : α → Option β} : ∀ {l : List α}, (∀ x ∈ l, f x = g x) → l.filterMap f = l.filterMap g
  | [], _ => rfl
  | x :: l, h => by
    rw [List.filterMap_cons, List.filterMap_cons, h x (List.mem_cons_self ..), fm_congr fun y hy => h y (List.mem_cons_of_mem _ hy)]
theorem rev_pick (xs : Array Value) : ((List.range xs.size).filterMap fun (k : Nat) => xs[((xs.size : Int) - 1 + (k : Int) * -1).toNat]?) = xs.toList.reverse := by
  have e : ∀ k ∈ List.range xs.size, xs[((xs.size : Int) - 1 + (k : Int) * -1).toNat]? = xs.toList.reverse[k]? := fun k hk => by
    have hk := List.mem_range.mp hk
    have z : ((xs.size : Int) - 1 + (k : Int) * -1).toNat = xs.size - 1 - k := by omega
    rw [z, List.getElem?_reverse (by simpa using hk)]
    simp
  rw [fm_congr e]
  have g : ∀ l : List Value, (List.range l.length).filterMap (fun k => l[k]?) = l := fun l => by
    have z := PySem.W.krv_all l.toArray
    simpa using z
  have z := g xs.toList.reverse
  simpa using z
section
variable {prog : Program} {w : World} {A : Around} {E : Value → Shared → Prop} {s : Shared}
theorem rev_applied {sl : Addr} {vk : Value} {n : Nat} {Q : Int × Int × Nat → Shared → Prop} (hs : s.heap.IsSliceOf sl .none .none vk) (pk : IsPart vk (some (-1))) (h : Q ((n : Int) - 1, -1, n) s) :
    wpAny (model prog w) A (Slice.sliceApplied (.ref sl) (pure (n : Int))) Q E s := by
  obtain ⟨os, hos, _, hds⟩ := id hs
  unfold Slice.sliceApplied Slice.sliceFields
  refine wpAny_bind (wpAny_bind (wpAny_field hos hds (x := .none) rfl (wpAny_bind (wpAny_field hos hds (x := .none) rfl (wpAny_bind (wpAny_field hos hds (x := vk) rfl (wpAny_pure ?_)))))))
  refine wpAny_bind (HT.slicePart_ pk ?_)
  show wpAny _ _ (if ((-1 : Int) == 0) = true then _ else _) _ _ s
  rw [if_neg (by decide)]
  refine wpAny_bind (slicePart_none (wpAny_bind (slicePart_none (wpAny_bind (wpAny_pure ?_)))))
  show wpAny _ _ (match Slice.sliceAdjust none none (-1) (n : Int) with | (lo, hi) => pure (lo, (-1 : Int), Slice.slicePlaces lo hi (-1))) _ _ s
  rw [rev_adjust]
  show wpAny _ _ (pure ((n : Int) - 1, (-1 : Int), Slice.slicePlaces ((n : Int) - 1) (-1) (-1))) _ _ s
  rw [rev_places]
  exact wpAny_pure h
theorem rev_item {t sl : Addr} {items : Array Value} {vk : Value} {Q : Value → Shared → Prop} (ht : IsTup s.heap t items) (hs : s.heap.IsSliceOf sl .none .none vk) (pk : IsPart vk (some (-1))) (hz : items.size ≤ sizeLine)
    (h : Q (.ref s.heap.objs.size) { s with heap := s.heap.push { cls := .type "tuple", data := .seq items.toList.reverse.toArray } }) : wpAny (model prog w) A (getItem (.ref t) (.ref sl)) Q E s := by
  have ok : sizeOk (.seq items.toList.reverse.toArray) := by
    show items.toList.reverse.toArray.size ≤ sizeLine
    rw [List.size_toArray, List.length_reverse, Array.length_toList]
    exact hz
  obtain ⟨os, hos, hcs, _⟩ := id hs
  have hTs : s.TypeIs (.ref sl) "slice" := ⟨os, hos, hcs⟩
  unfold getItem
  try with_reducible refine wpAny_holding ?_
  first | refine wpAny_bind (wpAny_pure ?_) | skip
  refine wpAny_bind (wpAny_sequenceKey ht.typeIs (by decide) ?_)
  refine wpAny_bind (wpAny_callSpecial?_slot (name := Str.ofString "__getitem__") ht.typeIs PyProof.Rows.slot_tuple_getitem (wpAny_call_entry PyProof.Rows.slot_tuple_getitem ht.typeIs entry_tuple_getitem ?_ (args_tuple_getitem _ _)))
  show wpAny _ _ (Tuple.tupleItemsOf (.ref t) >>= _) _ _ s
  refine wpAny_bind (tupleItemsOf_ ht (wpAny_bind (wpAny_typeOf hTs ?_)))
  rw [if_pos (by decide)]
  refine wpAny_bind (rev_applied hs pk ?_)
  show wpAny _ _ (if ((((items.size : Nat) : Int) - 1) == 0 && (-1 : Int) == 1 && items.size == items.size) = true then _ else _) _ _ s
  rw [if_neg (by simp), rev_pick]
  first
    | exact wpAny_bind (m := Tuple.tupleExact _) (wpAny_newObj_type (wpAny_pure ⟨_, rfl, wpAny_pure h⟩) ok)
    | exact wpAny_bind (m := Tuple.tupleExact _) (wpAny_newObj_type (wpAny_bind (wpAny_pure (wpAny_pure ⟨_, rfl, wpAny_pure h⟩))) ok)
    | exact wpAny_bind (wpAny_bind (m := Tuple.tupleExact _) (wpAny_newObj_type (wpAny_pure (wpAny_pure ⟨_, rfl, wpAny_pure h⟩)) ok))
    | exact wpAny_bind (wpAny_bind (m := Tuple.tupleExact _) (wpAny_newObj_type (wpAny_pure ⟨_, rfl, wpAny_pure h⟩) ok))
end
def tRevT (K : PySem.W.Frag) (te tk : TE) : TE := fun σ H Q => te σ H fun x H1 => tPart tk σ H1 fun o H2 => o = some (-1) ∧ ∃ a xs, x = .ref a ∧ H2 a = some (.tup xs) ∧ ∀ p, H2 p = none → Q (.ref p) (upd H2 p (.tup xs.reverse))
theorem vals_revs : ∀ {zs : List V} {ws : List Value}, Vals zs ws → Vals zs.reverse ws.reverse
  | _, _, .nil => .nil
  | _, _, .cons r t => by
    rw [List.reverse_cons, List.reverse_cons]
    exact (vals_revs t).append (.cons r .nil)
section
variable {X : Cx} {e k : Expr} {te tk : TE} {pos p2 : Pos}
theorem pe_revT {ops : Value → Value → List Value} (he : PE X e te) (hk : PE X k tk) (hs : ∀ o i : Value, subscripted (.Slice none none (some k) p2) false o i = operate (ops o i) (getItem o i)) : PE X (.Subscript e (.Slice none none (some k) p2) pos) (tRevT X.K te tk) := by
  refine ⟨fun pins s σ H Q I h => ?_⟩
  refine Subscript_ (thn (he.run pins s σ H _ I h) fun v s1 ⟨x, H1, I1, r1, q1⟩ => ?_)
  refine wpAny_Slice (thn (po_none.run pins s1 σ H1 (fun o H' => o = none ∧ H' = H1) I1 ⟨rfl, rfl⟩) fun vl s2 ⟨l, H2, I2, pl, q2⟩ => thn (po_none.run pins s2 σ H2 (fun o H' => o = none ∧ H' = H2) I2 ⟨rfl, rfl⟩) fun vu s3 ⟨u, H3, I3, pu, q3⟩ => ?_)
  obtain ⟨rfl, rfl⟩ := q2
  obtain ⟨rfl, rfl⟩ := q3
  cases pl
  cases pu
  refine thn ((po_some hk).run pins s3 σ _ _ I3 q1) fun vk s4 ⟨o, H4, I4, pk, ho, a, xs, ex, ea, q4⟩ => ?_
  subst ex ho
  obtain rfl : v = Value.ref a := r1
  have I5 : Inv X pins σ H4 { s4 with heap := s4.heap.push { cls := .type "slice", data := .fields #[.none, .none, vk] } } := I4.kept (t' := s4.toks) fun b ob q => Heap.get?_push_of_some _ q
  obtain ⟨its, r, ht, hz⟩ := I5.tuple (SqT.of ea)
  have hg := rev_item (prog := X.prog) (w := X.w) (A := X.A) (E := X.xe) (Q := EP X pins σ Q) (s := { s4 with heap := s4.heap.push { cls := .type "slice", data := .fields #[.none, .none, vk] } }) ht (Heap.IsSliceOf.new ..) pk (by rw [List.size_toArray, ← r.length]; exact hz) ?_
  · exact tail_any ht.typeIs PyProof.Rows.slot_tuple_getitem.lookup hg (hs _ _)
  · rw [List.toList_toArray]
    have fr : H4 (s4.heap.push { cls := .type "slice", data := .fields #[.none, .none, vk] }).objs.size = none := I5.hok.fresh (Nat.le_refl _)
    refine ⟨.ref (s4.heap.push { cls := .type "slice", data := .fields #[.none, .none, vk] }).objs.size, _, I5.laid (t' := s4.toks) (a := (s4.heap.push { cls := .type "slice", data := .fields #[.none, .none, vk] }).objs.size) (o := .tup xs.reverse)
      (h' := (s4.heap.push { cls := .type "slice", data := .fields #[.none, .none, vk] }).push { cls := .type "tuple", data := .seq its.reverse.toArray }) (fun b o q => Heap.get?_push_of_some _ q) (Nat.le_refl _) ?_, rfl, q4 _ fr⟩
    exact ⟨by rw [List.length_reverse]; exact hz, its.reverse, vals_revs r, ⟨_, Heap.get?_push_size _ rfl, rfl, 0, rfl⟩⟩
end
end EV
end L2

set_option Elab.async false
set_option linter.all false
set_option maxRecDepth 100000
set_option maxHeartbeats 4000000
/-! Pairs of an int and a text: <, <=. Raising an own exception whose __init__ has put fields. -/
namespace L2
open PySem PySem.Spec PyProof.Rows
abbrev IS : Type := Int × Str
def ltIS (a b : IS) : Bool := if a.1 = b.1 then decide (sl a.2 < sl b.2) else decide (a.1 < b.1)
def tIS (a : IS) : HO := .tup [.int a.1, .str a.2]
def rLtIS : R2 := fun x y H Q => ∃ (a b : Addr) (m n : IS), x = .ref a ∧ y = .ref b ∧ H a = some (tIS m) ∧ H b = some (tIS n) ∧ Q (.bl (ltIS m n)) H
def rLeIS : R2 := fun x y H Q => ∃ (a b : Addr) (m n : IS), x = .ref a ∧ y = .ref b ∧ H a = some (tIS m) ∧ H b = some (tIS n) ∧ Q (.bl (!ltIS n m)) H
theorem lexP_lt (m n : IS) : Ob.lexAt (fun j => if j = 0 then m.1 == n.1 else m.2 == n.2) (fun j => if j = 0 then decide (m.1 < n.1) else decide (sl m.2 < sl n.2)) false 0 2 = ltIS m n := by
  obtain ⟨m1, m2⟩ := m
  obtain ⟨n1, n2⟩ := n
  simp only [Ob.lexAt, ltIS]
  by_cases e1 : m1 = n1
  · subst e1
    by_cases e2 : m2 = n2
    · subst e2
      have z : ¬ sl m2 < sl m2 := List.lt_irrefl _
      simp
    · simp [e2]
  · simp [e1]
theorem lexP_le (m n : IS) : Ob.lexAt (fun j => if j = 0 then m.1 == n.1 else m.2 == n.2) (fun j => if j = 0 then decide (m.1 ≤ n.1) else decide (sl m.2 ≤ sl n.2)) true 0 2 = !ltIS n m := by
  obtain ⟨m1, m2⟩ := m
  obtain ⟨n1, n2⟩ := n
  simp only [Ob.lexAt, ltIS]
  by_cases e1 : m1 = n1
  · subst e1
    by_cases e2 : m2 = n2
    · subst e2
      have z : ¬ sl m2 < sl m2 := List.lt_irrefl _
      simp
    · have e2' : ¬ n2 = m2 := fun z => e2 z.symm
      simp only [beq_self_eq_true, if_true, Nat.zero_add, Nat.one_ne_zero, if_false, beq_iff_eq, e2]
      by_cases z : sl m2 ≤ sl n2
      · rw [decide_eq_true z, decide_eq_false (List.not_lt.mpr z)]
        rfl
      · rw [decide_eq_false z, decide_eq_true (List.not_le.mp z)]
        rfl
  · have e1' : ¬ n1 = m1 := fun z => e1 z.symm
    simp only [if_true, beq_iff_eq, e1, e1', if_false]
    by_cases z : m1 ≤ n1
    · rw [decide_eq_true z, decide_eq_false (by omega)]
      rfl
    · rw [decide_eq_false z, decide_eq_true (by omega)]
      rfl
theorem lt_strR {A : Around} {s : Shared} (a b : Str) (t u : Tok) : Ob.RcOp .Lt A s (.str a t) (.str b u) (decide (sl a < sl b)) := fun _ _ _ _ h => PyProof.Rows.lt_str h
section
variable {X : Cx}
theorem vals_2 {x y : V} {us : List Value} (r : Vals [x, y] us) : ∃ u w', us = [u, w'] ∧ RelV x u ∧ RelV y w' := by
  cases r with
  | cons r1 r =>
    cases r with
    | cons r2 r =>
      cases r
      exact ⟨_, _, rfl, r1, r2⟩
theorem op_ltIS (hu : X.A.units < cLine) : OpR X (compareOp .Lt) rLtIS := by
  intro pins s σ H x y v u Q I rx ry h
  obtain ⟨a, b, m, n, rfl, rfl, ha, hb, q⟩ := h
  cases rx
  cases ry
  obtain ⟨its, r1, p1, _⟩ := I.tuple (SqT.of ha)
  obtain ⟨its2, r2, p2, _⟩ := I.tuple (SqT.of hb)
  obtain ⟨u1, u2, rfl, ⟨t1, rfl⟩, ⟨t2, rfl⟩⟩ := vals_2 r1
  obtain ⟨v1, v2, rfl, ⟨w1, rfl⟩, ⟨w2, rfl⟩⟩ := vals_2 r2
  have R := Ob.RcOp.tuples_lt (A := X.A) (s := s) (e := fun j => if j = 0 then m.1 == n.1 else m.2 == n.2) (r := fun j => if j = 0 then decide (m.1 < n.1) else decide (sl m.2 < sl n.2)) p1 p2 hu
    (fun j h1 h2 => by
      match j, h1 with
      | 0, _ => exact SeqAt.EqAt.int_int _ _ _ _
      | 1, _ => exact SeqAt.EqAt.str_str _ _ _ _)
    (fun j h1 h2 _ => by
      match j, h1 with
      | 0, _ => exact Ob.RcOp.lt_int _ _ _ _
      | 1, _ => exact lt_strR _ _ _ _)
  have e3 : Ob.lexAt (fun j => if j = 0 then m.1 == n.1 else m.2 == n.2) (fun j => if j = 0 then decide (m.1 < n.1) else decide (sl m.2 < sl n.2)) (decide (2 < 2)) 0 (min 2 2) = ltIS m n := lexP_lt m n
  have z : wpAny (model X.prog X.w) X.A (compareOp .Lt (.ref a) (.ref b)) (EP X pins σ Q) X.xe s := R X.prog X.w X.xe (EP X pins σ Q) ⟨.bl _, H, I, rfl, by
    rw [← e3] at q
    exact q⟩
  exact z
theorem op_leIS (hu : X.A.units < cLine) : OpR X (compareOp .LtE) rLeIS := by
  intro pins s σ H x y v u Q I rx ry h
  obtain ⟨a, b, m, n, rfl, rfl, ha, hb, q⟩ := h
  cases rx
  cases ry
  obtain ⟨its, r1, p1, _⟩ := I.tuple (SqT.of ha)
  obtain ⟨its2, r2, p2, _⟩ := I.tuple (SqT.of hb)
  obtain ⟨u1, u2, rfl, ⟨t1, rfl⟩, ⟨t2, rfl⟩⟩ := vals_2 r1
  obtain ⟨v1, v2, rfl, ⟨w1, rfl⟩, ⟨w2, rfl⟩⟩ := vals_2 r2
  have R := Ob.RcOp.tuples_le (A := X.A) (s := s) (e := fun j => if j = 0 then m.1 == n.1 else m.2 == n.2) (r := fun j => if j = 0 then decide (m.1 ≤ n.1) else decide (sl m.2 ≤ sl n.2)) p1 p2 hu
    (fun j h1 h2 => by
      match j, h1 with
      | 0, _ => exact SeqAt.EqAt.int_int _ _ _ _
      | 1, _ => exact SeqAt.EqAt.str_str _ _ _ _)
    (fun j h1 h2 _ => by
      match j, h1 with
      | 0, _ => exact Ob.RcOp.le_int _ _ _ _
      | 1, _ => exact RcOp.le_str _ _ _ _)
  have e3 : Ob.lexAt (fun j => if j = 0 then m.1 == n.1 else m.2 == n.2) (fun j => if j = 0 then decide (m.1 ≤ n.1) else decide (sl m.2 ≤ sl n.2)) (decide (2 ≤ 2)) 0 (min 2 2) = !ltIS n m := lexP_le m n
  have z : wpAny (model X.prog X.w) X.A (compareOp .LtE (.ref a) (.ref b)) (EP X pins σ Q) X.xe s := R X.prog X.w X.xe (EP X pins σ Q) ⟨.bl _, H, I, rfl, by
    rw [← e3] at q
    exact q⟩
  exact z
end
namespace EV
/-- an exception's fields, told as those of one that flies -/
theorem exd_told {X : Cx} {pins : List (Addr × Obj)} {σ : L2.St} {H : Hp} {s : Shared} {d : Addr} {fs : List (Str × V)} (I : Inv X pins σ H s) (e : H d = some (exd d fs)) : Inv X pins σ (upd H d (.xd fs)) s := by
  obtain ⟨mA, hns, rel⟩ := exd_at I.hok e
  obtain ⟨od, ho, _⟩ := lookIn_ns hns
  exact I.write (h' := s.heap) (t' := s.toks) (x := d) (e := d) (o := .xd fs) (by rw [e]; exact True.intro) (.inl rfl) (fun b u _ q => q) (by
    obtain ⟨o, es, ep, e1, _⟩ := hns
    exact ⟨_, e1⟩) ⟨mA, hns, rel⟩
theorem pmk_own3 {X : Cx} {e : Expr} {te : TE} (hx : X.ex = []) (he : PE X e te) :
    PMk X e (fun σ H Q => te σ H fun x H1 => ∃ (a C d : Addr) (fs : List (Str × V)), x = .ref a ∧ H1 a = some (exo a C (some d)) ∧ d ≠ a ∧ H1 d = some (exd d fs) ∧ Fr0 X.H_0 a ∧ Raises X (.ref C) ∧ Q (.ref C) (some d) (upd (delH H1 a) d (.xd fs))) := by
  intro pins s σ H Q I h
  refine wpAny_mono (he.run pins s σ H _ I h) (fun u s1 hu => ?_) fun _ _ x => x
  obtain ⟨v, H1, I1, r1, a, C, d, fs, rfl, ha, nda, hd, h0, hr, q⟩ := hu
  cases r1
  obtain ⟨t1, ho⟩ := exo_at I1.hok ha
  obtain ⟨G, gs, ga, J⟩ := I1.untrack ha h0 hx
  have hd' : delH H1 a d = some (exd d fs) := by
    rw [delH_ne nda]
    exact hd
  have J2 := exd_told J hd'
  have na : upd (delH H1 a) d (.xd fs) a = none := by
    rw [upd_ne nda.symm]
    exact delH_same
  exact ⟨a, _, _, { s1 with heap := G }, _, .ref C, some d, rfl, J2, gs, ga, ho, ⟨rfl, rfl⟩, rfl, rfl, na, rfl, I1.bare, hr, q⟩
end EV
end L2

set_option Elab.async false
set_option linter.all false
set_option maxRecDepth 100000
set_option maxHeartbeats 4000000
/-! The nine classes: their __init__, message. -/
namespace K35
open PySem L2 L2.EV
/-! ### the arguments -/
mutual
theorem dp_same {K : PySem.W.Frag} {H H' : Hp} (s : Same H H') : ∀ (d : PyData) (v : V), Dp K H v d → Dp K H' v d
  | .none, _, h => by cases h; exact .non
  | .bool b, _, h => by cases h; exact .bl b
  | .int i, _, h => by cases h; exact .int i
  | .str x, _, h => by cases h; exact .str x
  | .list ds, _, h => by
    cases h with
    | lst hs ha => exact .lst (s.seq hs) (dpall_same s ds _ ha)
  | .tuple ds, _, h => by
    cases h with
    | tup hs ha =>
      refine .tup ?_ (dpall_same s ds _ ha)
      rcases hs with (q | ⟨o, q⟩) | q
      · exact .inl (.inl (s _ _ q))
      · exact .inl (.inr ⟨o, s _ _ q⟩)
      · exact .inr q
  | .dict _, _, h => by cases h
theorem dpall_same {K : PySem.W.Frag} {H H' : Hp} (s : Same H H') : ∀ (ds : List PyData) (vs : List V), DpAll K H vs ds → DpAll K H' vs ds
  | [], _, h => by cases h; exact .nil
  | d :: ds, _, h => by
    cases h with
    | cons h1 h2 => exact .cons (dp_same s d _ h1) (dpall_same s ds _ h2)
end
/-- what may be handed to an error, and the data that it is -/
inductive Arg (K : PySem.W.Frag) (H : Hp) : V → PyData → Prop
  | non : Arg K H .non .none
  | bl (b : Bool) : Arg K H (.bl b) (.bool b)
  | int (i : Int) : Arg K H (.int i) (.int i)
  | str (x : Str) : Arg K H (.str x) (.str x)
  | lst {a : Addr} {xs : List V} {ds : List PyData} : H a = some (.lst xs) → DpAll K H xs ds → PyData.hasDict (.list ds) = false → Arg K H (.ref a) (.list ds)
  | tup {a : Addr} {xs : List V} {ds : List PyData} : H a = some (.tup xs) → DpAll K H xs ds → PyData.hasDict (.tuple ds) = false → Arg K H (.ref a) (.tuple ds)
  | dct {a : Addr} : H a = some (.dK [(Sum.inr "a", V.int 1)]) → Arg K H (.ref a) (.dict [(.str "a", .int 1)])
theorem Arg.same {K : PySem.W.Frag} {H H' : Hp} {v : V} {d : PyData} (h : Arg K H v d) (s : Same H H') : Arg K H' v d := by
  cases h with
  | non => exact .non
  | bl b => exact .bl b
  | int i => exact .int i
  | str x => exact .str x
  | lst e ha no => exact .lst (s _ _ e) (dpall_same s _ _ ha) no
  | tup e ha no => exact .tup (s _ _ e) (dpall_same s _ _ ha) no
  | dct e => exact .dct (s _ _ e)
theorem Arg.ty {K : PySem.W.Frag} {H : Hp} {v : V} {d : PyData} (h : Arg K H v d) : ∃ (t : Value) (b : Bool), TyX K H v t ∧ PySem.W.kitOne K t (.type "str") = some b := by
  cases h with
  | non => exact ⟨_, _, .base .non, kit_ty (r := false) (by decide +kernel)⟩
  | bl b => exact ⟨_, _, .base (.bl b), kit_ty (r := false) (by decide +kernel)⟩
  | int i => exact ⟨_, _, .base (.int i), kit_ty (r := false) (by decide +kernel)⟩
  | str x => exact ⟨_, _, .base (.str x), kit_ty (r := true) (by decide +kernel)⟩
  | lst e _ _ => exact ⟨_, _, .base (.lst e), kit_ty (r := false) (by decide +kernel)⟩
  | tup e _ _ => exact ⟨_, _, .base (.tup e), kit_ty (r := false) (by decide +kernel)⟩
  | dct e => exact ⟨_, _, .base (.dK e), kit_ty (r := false) (by decide +kernel)⟩
/-! ### promises -/
def spNo (K : PySem.W.Frag) (C : Addr) : Sp := fun vs H Q _ => ∃ (a : Addr) (x : V) (d : PyData), vs = [.ref a, x] ∧ H a = some (exo a C none) ∧ Arg K H x d ∧ Q .non H
def spMsg (K : PySem.W.Frag) : Sp := fun vs H Q _ => ∃ (x : V) (d : PyData), vs = [x] ∧ Arg K H x d ∧ ∀ v, Q v H
/-- what is asked of a built-in base, for B.__init__(self, ..) -/
structure BI (K : PySem.W.Frag) (mg : Str → Option Value) (nB : Str) (B initId : String) : Prop where
  mg : mg nB = none
  bt : bootBuiltins nB = some (.type B)
  ty : typeOf (.type B) = pure (.type "type")
  vV : PySem.W.findCls K (.type B) (.type "type") "__init__" = some (.val (.builtin initId))
  st : Manifest.isStub B = false
def gP : List Value → List Value → List Value := fun us _ => us
def vP : List V → List V → List V := fun vs _ => vs
theorem kb_pos {K : PySem.W.Frag} {fd : FuncData} {ps : List Str} {n : Nat} (b : Binds K fd ps []) (hn : ps.length = n) : KBn K fd ps n [] gP vP := by
  refine ⟨fun s us ws X l1 l2 => ?_, fun r _ => r⟩
  have z := b s us X (by rw [List.append_nil, l1, hn])
  rw [List.append_nil] at z
  exact z
abbrev bmVE : List Value := [.type "ValueError", .type "Exception", .type "BaseException", .type "object"]
theorem same_none {H H' : Hp} {a : Addr} (s : Same H H') (n : H' a = none) : H a = none := by
  cases e : H a with
  | none => rfl
  | some o =>
    rw [s _ _ e] at n
    cases n
abbrev sMsg : Stmt := top 1
structure TxtM (mg : Str → Option Value) : Prop where
  isi : mg "isinstance" = none
  str : mg "str" = none
section
variable {P : Program} {w : World} {K : PySem.W.Frag} {mg : Str → Option Value} {base : Heap}
theorem scM : FnScope ["text"] ["text"] (defScope sMsg) := ⟨rfl, rfl, rfl, by decide +kernel, rfl, by decide +kernel, by decide +kernel⟩
theorem ok_msg {f : Addr} {fd : FuncData} (F : Fun K "message" "message" sMsg f fd) (T : TxtM mg) : FnOk P w K mg base CX0 1 f fd ["text"] (spMsg K) := by
  refine F.ok scM (fun vs H Q E h => ?_) (fun cdv A outer s H vs Q E hr h => ?_)
  · obtain ⟨x, d, rfl, _⟩ := h
    rfl
  · obtain ⟨x, d, rfl, ar, q⟩ := h
    refine ⟨_, pss_cons (ps_if (pt_val (pe_callB call_isi (by rfl) T.isi PyProof.Rows.boot_isinstance (pa_cons (pv 0) (pa_cons (pe_bltn (v := .ty "str") (by rfl) T.str (by decide +kernel) rfl) pa_nil)))) (pss_one (ps_ret (pv 0))) pss_nil) (pss_one (ps_ret pe_str)), ?_⟩
    obtain ⟨t, b, ty, kt⟩ := ar.ty
    refine ⟨_, rfl, x, .ty "str", t, .type "str", b, rfl, .ty "str", ty, kt, b, rfl, ?_⟩
    cases b with
    | true => exact iteT ⟨_, rfl, q _⟩
    | false => exact iteF (q _)
abbrev sOutOfPlace : Stmt := inClass (top 3) 0
theorem scOutOfPlace : FnScope ["self", "text"] ["self", "text"] (defScope sOutOfPlace) := ⟨rfl, rfl, rfl, by decide +kernel, rfl, by decide +kernel, by decide +kernel⟩
theorem ok_OutOfPlace {f C fM : Addr} {fd fdM : FuncData} (F : Fun K "__init__" "OutOfPlace.__init__" sOutOfPlace f fd) (T : OxC K C "ValueError" "ValueError.__new__" "ValueError.__init__" [.type "ValueError", .type "Exception", .type "BaseException", .type "object"]) (I : BI K mg "ValueError" "ValueError" "ValueError.__init__")
    (FM : Fun K "message" "message" sMsg fM fdM) (bM : Binds K fdM ["text"] []) (mM : mg "message" = some (.ref fM)) (TM : TxtM mg) : FnOk P w K mg base CX0 2 f fd ["self", "text"] (spNo K C) := by
  have GM : FnOk P w K mg base CX0 1 fM fdM ["text"] (spMsg K) := ok_msg FM TM
  refine F.ok scOutOfPlace (fun vs H Q E h => ?_) (fun cdv A outer s H vs Q E hr h => ?_)
  · obtain ⟨a, x, d, rfl, _⟩ := h
    rfl
  · obtain ⟨a, x, d, rfl, e, ar, q⟩ := h
    refine ⟨_, pss_one (ps_expr (pe_bin (newId := "ValueError.__new__") (bm := [.type "ValueError", .type "Exception", .type "BaseException", .type "object"]) (by rfl) I.mg I.bt I.ty I.vV I.st (pa_cons (pv 0) (pa_cons (pe_call GM hr rfl mM FM.kp bM .nil pass0 (pa_cons (pv 1) pa_nil)) pa_nil)) rfl)), ?_⟩
    exact ⟨_, rfl, _, rfl, x, d, rfl, ar, fun v => ⟨a, C, _, rfl, by show 1 ≤ 1000; decide, T, e, q⟩⟩
end
/-- what is known of OutOfPlace -/
structure Oop (K : PySem.W.Frag) (mg : Str → Option Value) where
  C : Addr
  f : Addr
  d : FuncData
  fM : Addr
  dM : FuncData
  T : OxC K C "ValueError" "ValueError.__new__" "ValueError.__init__" bmVE
  I : BI K mg "ValueError" "ValueError" "ValueError.__init__"
  F : Fun K "__init__" "OutOfPlace.__init__" sOutOfPlace f d
  b : Binds K d ["self", "text"] []
  FM : Fun K "message" "message" sMsg fM dM
  bM : Binds K dM ["text"] []
  mM : mg "message" = some (.ref fM)
  TM : TxtM mg
  m : mg "OutOfPlace" = some (.ref C)
  iC : PySem.W.findIn K (.ref C) "__init__" = some (some (.ref f))
  tI : PySem.W.typeIn K (.ref f) = some (.type "function")
  su : PySem.W.subIn K (.ref C) (.type "BaseException") = some true
  ty : PySem.W.typeIn K (.ref C) = some (.type "type")
  own : PySem.W.subIn K (.ref C) (.ref C) = some true
end K35

set_option Elab.async false
set_option linter.all false
set_option maxRecDepth 100000
set_option maxHeartbeats 4000000
/-! need_file_text, need_few_writers of any data. -/
namespace K35
open PySem L2 L2.EV
abbrev sNFT : Stmt := top 24
abbrev sNFW : Stmt := top 25
/-- the error is told -/
def Eo (C : Addr) (E : XK) (H : Hp) : Prop := ∀ H', Same H H' → E (.ref C) none H'
theorem Eo.same {C : Addr} {E : XK} {H H' : Hp} (h : Eo C E H) (s : Same H H') : Eo C E H' := fun H2 s2 => h H2 (s.trans s2)
def fsg : List Nat := sl ("abcdefghijklmnopqrstuvwxyz0123456789;ABCDEFGH" : Str)
def fileT : PyData → Option Str
  | .str x => if (decide (x.length ≤ 60) && (sl x).all fun c => decide (c ∈ fsg)) = true then some x else none
  | _ => none
def fewD (d : PyData) : Option Int := match numD 4 d with
  | some n => if n = 0 then none else some n
  | none => none
theorem fewD_some {d : PyData} {n : Int} (h : fewD d = some n) : d = .int n ∧ 1 ≤ n ∧ n ≤ 3 := by
  unfold fewD at h
  cases e : numD 4 d with
  | none => rw [e] at h; cases h
  | some k =>
    rw [e] at h
    obtain ⟨a, b, c⟩ := numD_some e
    by_cases z : k = 0
    · have h' : (if k = 0 then none else some k) = some n := h
      rw [if_pos z] at h'
      cases h'
    · have h' : (if k = 0 then none else some k) = some n := h
      rw [if_neg z] at h'
      cases h'
      exact ⟨a, by omega, by omega⟩
theorem fileT_some {d : PyData} {x : Str} (h : fileT d = some x) : d = .str x ∧ x.length ≤ 60 ∧ ∀ c ∈ sl x, c ∈ fsg := by
  unfold fileT at h
  cases d with
  | str y =>
    by_cases z : (decide (y.length ≤ 60) && (sl y).all fun c => decide (c ∈ fsg)) = true
    · have h' : (if (decide (y.length ≤ 60) && (sl y).all fun c => decide (c ∈ fsg)) = true then some y else none) = some x := h
      rw [if_pos z] at h'
      cases h'
      rw [Bool.and_eq_true] at z
      exact ⟨rfl, of_decide_eq_true z.1, fun c hc => of_decide_eq_true (List.all_eq_true.mp z.2 c hc)⟩
    · have h' : (if (decide (y.length ≤ 60) && (sl y).all fun c => decide (c ∈ fsg)) = true then some y else none) = some x := h
      rw [if_neg z] at h'
      cases h'
  | _ => cases h
/-- no text, or one that isn't too long for Python -/
def Shrt (d : PyData) : Prop := ∀ x, d = .str x → x.length ≤ 1000
def spNFT (C : Addr) : Sp := fun vs H Q E => ∃ (v : V) (d : PyData), vs = [v] ∧ Da H v d ∧ Shrt d ∧ match fileT d with
  | some x => ∀ H', Same H H' → Q (.str x) H'
  | none => Eo C E H
def spNFW (C : Addr) : Sp := fun vs H Q E => ∃ (v : V) (d : PyData), vs = [v] ∧ Da H v d ∧ match fewD d with
  | some n => ∀ H', Same H H' → Q (.int n) H'
  | none => Eo C E H
structure Wf (K : PySem.W.Frag) (mg : Str → Option Value) where
  Z : Fs K mg
  O : Oop K mg
  fT : Addr
  fW : Addr
  dT : FuncData
  dW : FuncData
  T : Fun K "need_file_text" "need_file_text" sNFT fT dT
  W : Fun K "need_few_writers" "need_few_writers" sNFW fW dW
  bT : Binds K dT ["thing"] []
  bW : Binds K dW ["thing"] []
  mT : mg "need_file_text" = some (.ref fT)
  mW : mg "need_few_writers" = some (.ref fW)
  c1 : ∃ t, mg "FILE_SIGNS" = some (.str "abcdefghijklmnopqrstuvwxyz0123456789;ABCDEFGH" t)
  c2 : ∃ t, mg "MOST_FILE_SIGNS" = some (.int 60 t)
  c3 : ∃ t, mg "MOST_WRITERS" = some (.int 3 t)
section
variable {P : Program} {w : World} {K : PySem.W.Frag} {mg : Str → Option Value} {base : Heap}
theorem scNFT : FnScope ["thing", "sign"] ["thing"] (defScope sNFT) := ⟨rfl, rfl, rfl, by decide +kernel, rfl, by decide +kernel, by decide +kernel⟩
theorem scNFW : FnScope ["thing"] ["thing"] (defScope sNFW) := ⟨rfl, rfl, rfl, by decide +kernel, rfl, by decide +kernel, by decide +kernel⟩
theorem all_snoc {l : List Nat} {i c : Nat} (h : l[i]? = some c) (f : Nat → Bool) : ((l.take (i + 1)).map f) = (l.take i).map f ++ [f c] := by
  rw [List.take_succ, h]
  simp
theorem ok_NFT (W : Wf K mg) : FnOk P w K mg base (L2.CX P w) 4 W.fT W.dT ["thing"] (spNFT W.O.C) := by
  have GO : FnOk P w K mg base CX0 2 W.O.f W.O.d ["self", "text"] (spNo K W.O.C) := ok_OutOfPlace W.O.F W.O.T W.O.I W.O.FM W.O.bM W.O.mM W.O.TM
  refine W.T.okX scNFT (fun vs H Q E h => ?_) (fun cdv A outer s H vs Q E hr h => ?_)
  · obtain ⟨v, d, rfl, _⟩ := h
    rfl
  · obtain ⟨v, d, rfl, da, sh, q⟩ := h
    obtain ⟨t1, e1⟩ := W.c1
    obtain ⟨t2, e2⟩ := W.c2
    refine ⟨_, pss_cons (ps_if (pw_or (pt_not (pt_val (pe_callB call_isi (by rfl) W.Z.T.isi PyProof.Rows.boot_isinstance (pa_cons (pv 0) (pa_cons (pe_bltn (v := .ty "str") (by rfl) W.Z.T.str (by decide +kernel) rfl) pa_nil)))))
        (pw_or1 (pt_cmpR op_gt (pe_callB call_len_str (by rfl) W.Z.T.len PySem.boot_len (pa_cons (pv 0) pa_nil)) (pe_glob (v := .int 60) (by rfl) e2 ⟨_, rfl⟩) (nomark _)))).pt
        (pss_one (ps_raise rfl (takes_of rfl rfl rfl rfl) (pmk_own2 rfl (pe_new W.O.T W.O.iC W.O.tI GO hr (kb_pos W.O.b rfl) pass0 (by rfl) W.O.m (pa_cons pe_str pa_nil))))) pss_nil)
      (pss_cons (ps_if (pt_not (pt_val (pe_callB (cr_all rfl) (by rfl) W.Z.T.all (by decide +kernel) (pa_cons (pe_lc (own := [("sign", 1)]) (g := gName 1) rfl scNFT.nd
        (pi_str (pv 0)) (blkOk_by (N := ["thing", "sign"]) (sc := defScope sNFT) (by decide +kernel))
        (fun _ _ _ _ _ => pg_name (i := 1) scNFT.nd rfl (Or.inl rfl)) (fun _ _ _ _ _ => pts_nil) (fun _ _ _ _ _ => pe_cmpR op_in_sign (pv 1) (pe_glob (v := .str "abcdefghijklmnopqrstuvwxyz0123456789;ABCDEFGH") (by rfl) e1 ⟨_, rfl⟩) (by rfl))) pa_nil))))
        (pss_one (ps_raise rfl (takes_of rfl rfl rfl rfl) (pmk_own2 rfl (pe_new W.O.T W.O.iC W.O.tI GO hr (kb_pos W.O.b rfl) pass0 (by rfl) W.O.m (pa_cons pe_str pa_nil))))) pss_nil)
      (pss_one (ps_ret (pv 0)))), ?_⟩
    obtain ⟨t, ty, kt⟩ := da.tyS (K := K)
    refine ⟨_, rfl, v, .ty "str", t, .type "str", isSt d, rfl, .ty "str", ty, kt, isSt d, rfl, ?_⟩
    cases hs : isSt d with
    | false =>
      have n0 : fileT d = none := by cases d <;> first | rfl | cases hs
      rw [n0] at q
      refine iteT ?_
      refine ⟨rfl, rfl, (by decide), fun a na => ⟨a, .str _, .str _, rfl, upd_same, .str _, rfl, a, W.O.C, none, rfl, upd_same, fr0_none (same_none (Same.refl H) na), raises_own W.O.su W.O.ty, ?_⟩⟩
      rw [delH_new na]
      exact q H (Same.refl H)
    | true =>
      obtain ⟨x, rfl⟩ : ∃ x, d = .str x := by cases d <;> first | exact ⟨_, rfl⟩ | cases hs
      obtain rfl : v = .str x := by cases da; rfl
      have hx := sh x rfl
      refine iteF ?_
      refine ⟨.str x, rfl, x, rfl, by rw [sizeLine_eq]; omega, x.length, 60, rfl, rfl, _, rfl, ?_⟩
      by_cases c1 : x.length ≤ 60
      · refine iteF' (decide_eq_false (by omega)) ?_
        refine ⟨_, rfl, x, rfl, fun D hD => ?_⟩
        refine lc_it walk_str (fun i H' => H' D = some (.lst ((((sl x).take i).map fun c => decide (c ∈ fsg)).map V.bl)) ∧ ∀ b o, H b = some o → H' b = some o) ⟨upd_same, fun b o z => same_upd hD b o z⟩ (fun _ _ _ _ => trivial) ?_ ?_
        · rintro i y H1 H2 hi ⟨hl, kp⟩ ⟨rfl, c, hc, rfl⟩
          refine ⟨rfl, ⟨_, rfl, c, _, rfl, rfl, ?_⟩⟩
          have hc2 : (sl x)[i]? = some c := by simpa using hc
          refine ⟨_, hl, ?_, ?_, fun b o z => ?_⟩
          · rw [List.length_map, List.length_map, sizeLine_eq]
            have l1 := List.length_take_le' i (sl x)
            have l2 := len_sl x
            omega
          · have e : decide (c ∈ ("abcdefghijklmnopqrstuvwxyz0123456789;ABCDEFGH" : Str).cps.toList) = decide (c ∈ fsg) := rfl
            rw [e, all_snoc hc2, List.map_append]
            exact upd_same
          · rw [upd_ne (ne_of_none z hD)]
            exact kp b o z
        · rintro H1 ⟨hl, kp⟩
          have e0 : (sl x).take x.cps.size = sl x := List.take_of_length_le (by rw [← len_sl]; exact Nat.le_refl _)
          rw [e0] at hl
          have ea : ((sl x).map fun c => decide (c ∈ fsg)).all id = (sl x).all fun c => decide (c ∈ fsg) := by rw [List.all_map]; rfl
          refine ⟨D, _, rfl, SqL.of hl, ?_⟩
          rw [ea]
          have sH : Same H H1 := kp
          by_cases c2 : ((sl x).all fun c => decide (c ∈ fsg)) = true
          · have n0 : fileT (.str x) = some x := by
              show (if (decide (x.length ≤ 60) && _) = true then some x else none) = some x
              rw [decide_eq_true c1, c2]
              rfl
            rw [n0] at q
            rw [c2]
            exact ⟨_, rfl, iteF ⟨_, rfl, q H1 sH⟩⟩
          · have n0 : fileT (.str x) = none := by
              show (if (decide (x.length ≤ 60) && _) = true then some x else none) = none
              rw [eq_false_of_ne_true c2, Bool.and_false]
              rfl
            rw [n0] at q
            rw [eq_false_of_ne_true c2]
            refine ⟨_, rfl, iteT ?_⟩
            refine ⟨rfl, rfl, (by decide), fun a na => ⟨a, .str _, .str _, rfl, upd_same, .str _, rfl, a, W.O.C, none, rfl, upd_same, fr0_none (same_none sH na), raises_own W.O.su W.O.ty, ?_⟩⟩
            rw [delH_new na]
            exact q H1 sH
      · refine iteT' (decide_eq_true (by omega)) ?_
        have n0 : fileT (.str x) = none := by
          show (if (decide (x.length ≤ 60) && _) = true then some x else none) = none
          rw [decide_eq_false c1]
          rfl
        rw [n0] at q
        refine ⟨rfl, rfl, (by decide), fun a na => ⟨a, .str _, .str _, rfl, upd_same, .str _, rfl, a, W.O.C, none, rfl, upd_same, fr0_none (same_none (Same.refl H) na), raises_own W.O.su W.O.ty, ?_⟩⟩
        rw [delH_new na]
        exact q H (Same.refl H)
theorem ok_NFW (W : Wf K mg) : FnOk P w K mg base (L2.CX P w) 4 W.fW W.dW ["thing"] (spNFW W.O.C) := by
  have GO : FnOk P w K mg base CX0 2 W.O.f W.O.d ["self", "text"] (spNo K W.O.C) := ok_OutOfPlace W.O.F W.O.T W.O.I W.O.FM W.O.bM W.O.mM W.O.TM
  have GN : FnOk P w K mg base CX0 1 W.Z.fN W.Z.dN ["thing", "many"] spNumD := ok_numD W.Z.N W.Z.T
  refine W.W.okX scNFW (fun vs H Q E h => ?_) (fun cdv A outer s H vs Q E hr h => ?_)
  · obtain ⟨v, d, rfl, _⟩ := h
    rfl
  · obtain ⟨v, d, rfl, da, q⟩ := h
    obtain ⟨t3, e3⟩ := W.c3
    refine ⟨_, pss_cons (ps_if (pw_or (pt_not (pt_val (pe_call GN (hr.mono (by omega)) (by rfl) W.Z.mN W.Z.N.kp W.Z.bN .nil pass0 (pa_cons (pv 0) (pa_cons (pe_op op_add (pe_glob (v := .int 3) (by rfl) e3 ⟨_, rfl⟩) pe_int) pa_nil)))))
        (pw_or1 (pt_cmpR op_eq (pv 0) pe_int (nomark _)))).pt
        (pss_one (ps_raise rfl (takes_of rfl rfl rfl rfl) (pmk_own2 rfl (pe_new W.O.T W.O.iC W.O.tI GO hr (kb_pos W.O.b rfl) pass0 (by rfl) W.O.m (pa_cons pe_str pa_nil))))) pss_nil)
      (pss_one (ps_ret (pv 0))), ?_⟩
    refine ⟨_, rfl, 3, 1, rfl, rfl, v, d, 4, rfl, da, ?_⟩
    cases hn : numD 4 d with
    | none =>
      have n0 : fewD d = none := by unfold fewD; rw [hn]
      rw [n0] at q
      refine ⟨_, rfl, iteT ?_⟩
      refine ⟨rfl, rfl, (by decide), fun a na => ⟨a, .str _, .str _, rfl, upd_same, .str _, rfl, a, W.O.C, none, rfl, upd_same, fr0_none (same_none (Same.refl H) na), raises_own W.O.su W.O.ty, ?_⟩⟩
      rw [delH_new na]
      exact q H (Same.refl H)
    | some n =>
      obtain ⟨rfl, n1, n2⟩ := numD_some hn
      obtain rfl : v = .int n := by cases da; rfl
      refine ⟨_, rfl, iteF ?_⟩
      refine ⟨_, rfl, rfl, _, rfl, ?_⟩
      by_cases c : n = 0
      · have n0 : fewD (.int n) = none := by unfold fewD; rw [hn]; exact if_pos c
        rw [n0] at q
        refine iteT' (by simp [c]) ?_
        refine ⟨rfl, rfl, (by decide), fun a na => ⟨a, .str _, .str _, rfl, upd_same, .str _, rfl, a, W.O.C, none, rfl, upd_same, fr0_none (same_none (Same.refl H) na), raises_own W.O.su W.O.ty, ?_⟩⟩
        rw [delH_new na]
        exact q H (Same.refl H)
      · have n0 : fewD (.int n) = some n := by unfold fewD; rw [hn]; exact if_neg c
        rw [n0] at q
        refine iteF' (by simp [c]) ?_
        exact ⟨_, rfl, q H (Same.refl H)⟩
end
end K35

set_option Elab.async false
set_option linter.all false
set_option maxRecDepth 100000
set_option maxHeartbeats 4000000
/-! Dicts whose keys are nested tuples (of ints, bools, texts, None and such tuples). -/
namespace L2
open PySem PySem.Spec PyProof.Rows
mutual
/-- the value is that key -/
inductive NK (B : Bool) (H : Hp) : NestedKey → V → Prop
  | none : NK B H .none .non
  | bl {b i} : B = true → i = (if b = true then 1 else 0) → NK B H (.num i) (.bl b)
  | int (i) : NK B H (.num i) (.int i)
  | str (x) : NK B H (.text x) (.str x)
  | tup {q xs ks} : H q = some (.tup xs) → NKs B H ks xs → NK B H (.tup ks) (.ref q)
inductive NKs (B : Bool) (H : Hp) : List NestedKey → List V → Prop
  | nil : NKs B H [] []
  | cons {k x ks xs} : NK B H k x → NKs B H ks xs → NKs B H (k :: ks) (x :: xs)
end
mutual
theorem NK.nis {P : Program} {w : World} {B : Bool} {H : Hp} {h : Heap} (ok : HOk P w H h) : ∀ (k : NestedKey) (x : V) (u : Value), NK B H k x → RelV x u → NestedIs h k u
  | .none, _, _, v, r => by cases v; cases r; exact .none
  | .num i, _, _, v, r => by
    cases v with
    | bl _ e => cases r; exact .bool e
    | int _ => obtain ⟨t, rfl⟩ := r; exact .int _ _
  | .text x, _, _, v, r => by cases v; obtain ⟨t, rfl⟩ := r; exact .text _ _
  | .tup ks, _, _, v, r => by
    cases v with
    | @tup q xs _ hq hk =>
      cases r
      obtain ⟨_, its, rv, o, h1, h2, n, h3⟩ := (show ObjOk P w H h q (.tup xs) from ok q _ hq)
      exact .tup h1 h2 h3 (by simpa using NKs.nis ok ks _ _ hk rv)
theorem NKs.nis {P : Program} {w : World} {B : Bool} {H : Hp} {h : Heap} (ok : HOk P w H h) : ∀ (ks : List NestedKey) (xs : List V) (us : List Value), NKs B H ks xs → Vals xs us → NestedAll h ks us
  | [], _, _, v, r => by cases v; cases r; exact .nil
  | k :: ks, _, _, v, r => by
    cases v with
    | cons v1 v2 =>
      cases r with
      | cons r1 r2 => exact .cons (NK.nis ok k _ _ v1 r1) (NKs.nis ok ks _ _ v2 r2)
end
mutual
theorem NK.keep {B : Bool} {H H' : Hp} (ht : ∀ b ys, H b = some (.tup ys) → H' b = some (.tup ys)) : ∀ (k : NestedKey) (x : V), NK B H k x → NK B H' k x
  | .none, _, v => by cases v; exact .none
  | .num i, _, v => by
    cases v with
    | bl h e => exact .bl h e
    | int _ => exact .int _
  | .text x, _, v => by cases v; exact .str _
  | .tup ks, _, v => by
    cases v with
    | tup hq hk => exact .tup (ht _ _ hq) (NKs.keep ht ks _ hk)
theorem NKs.keep {B : Bool} {H H' : Hp} (ht : ∀ b ys, H b = some (.tup ys) → H' b = some (.tup ys)) : ∀ (ks : List NestedKey) (xs : List V), NKs B H ks xs → NKs B H' ks xs
  | [], _, v => by cases v; exact .nil
  | k :: ks, _, v => by
    cases v with
    | cons v1 v2 => exact .cons (NK.keep ht k _ v1) (NKs.keep ht ks _ v2)
end
/-- at b stands that key -/
def KeyB (B : Bool) (H : Hp) (k : NestedKey) (b : Addr) : Prop := NK B H k (.ref b) ∧ k.depth ≤ 8
theorem KeyB.is {P : Program} {w : World} {B : Bool} {H : Hp} {h : Heap} {k : NestedKey} {b : Addr} (ok : HOk P w H h) (z : KeyB B H k b) : (nestedKind P w).is h k b := ⟨NK.nis ok k _ _ z.1 rfl, z.2⟩
theorem KeyB.keep {B : Bool} {H H' : Hp} {k : NestedKey} {b : Addr} (z : KeyB B H k b) (ht : ∀ b ys, H b = some (.tup ys) → H' b = some (.tup ys)) : KeyB B H' k b := ⟨NK.keep ht k _ z.1, z.2⟩

abbrev NEnt := NestedKey × Addr × V
abbrev NPair : List NEnt → List (NestedKey × Addr × Value) → Prop := Paired fun p q => p.1 = q.1 ∧ p.2.1 = q.2.1 ∧ RelV p.2.2 q.2.2
def rows1 (xs : List NEnt) : List (NestedKey × V) := xs.map fun x => (x.1, x.2.2)
def putX (xs : List NEnt) (k : NestedKey) (b : Addr) (y : V) : List NEnt :=
  if (xs.any fun x => decide (x.1 = k)) = true then xs.map (fun x => if x.1 = k then (x.1, x.2.1, y) else x) else xs ++ [(k, b, y)]
theorem rows1_any (k : NestedKey) : ∀ xs : List NEnt, ((rows1 xs).any fun x => decide (x.1 = k)) = xs.any fun x => decide (x.1 = k)
  | [] => rfl
  | x :: xs => by
    show ((x.1, x.2.2) :: rows1 xs).any _ = _
    rw [List.any_cons, List.any_cons, rows1_any k xs]
theorem rows1_put (xs : List NEnt) (k : NestedKey) (b : Addr) (y : V) : rows1 (putX xs k b y) = putK (rows1 xs) k y := by
  unfold putX putK
  rw [rows1_any]
  by_cases q : (xs.any fun x => decide (x.1 = k)) = true
  · rw [if_pos q, if_pos q]
    unfold rows1
    rw [List.map_map, List.map_map]
    refine List.map_congr_left fun x _ => ?_
    show ((if x.1 = k then (x.1, x.2.1, y) else x).1, (if x.1 = k then (x.1, x.2.1, y) else x).2.2) = if x.1 = k then (x.1, y) else (x.1, x.2.2)
    by_cases e : x.1 = k
    · rw [if_pos e, if_pos e]
    · rw [if_neg e, if_neg e]
  · rw [if_neg q, if_neg q]
    unfold rows1
    rw [List.map_append]
    rfl
theorem NPair.val {xs : List NEnt} {ys : List (NestedKey × Addr × Value)} (r : NPair xs ys) (k : NestedKey) : RelO (valV (rows1 xs) k) ((atKey ys k).map (·.2)) := by
  induction r with
  | nil => exact True.intro
  | @cons p q ps qs h t ih =>
    obtain ⟨h1, _, h2⟩ := h
    show RelO (valV ((p.1, p.2.2) :: rows1 ps) k) _
    by_cases e : p.1 = k
    · have e' : q.1 = k := h1.symm.trans e
      have b : atKey (q :: qs) k = some q.2 := by simp [atKey, List.find?_cons, e']
      rw [valV_pos (p := (p.1, p.2.2)) e, b]; exact h2
    · have e' : ¬ q.1 = k := fun z => e (h1.trans z)
      have b : atKey (q :: qs) k = atKey qs k := by simp [atKey, List.find?_cons, e']
      rw [valV_neg (p := (p.1, p.2.2)) e, b]; exact ih
theorem NPair.repl {xs : List NEnt} {ys : List (NestedKey × Addr × Value)} (r : NPair xs ys) (k : NestedKey) {y : V} {u : Value} (ry : RelV y u) :
    NPair (xs.map fun x => if x.1 = k then (x.1, x.2.1, y) else x) (ys.map (putAt k u)) := by
  induction r with
  | nil => exact .nil
  | @cons p q ps qs h t ih =>
    rw [List.map_cons, List.map_cons]
    refine .cons ?_ ih
    obtain ⟨h1, h2, h3⟩ := h
    unfold putAt
    by_cases e : p.1 = k
    · rw [if_pos e, if_pos (h1.symm.trans e)]; exact ⟨h1, h2, ry⟩
    · rw [if_neg e, if_neg (fun z => e (h1.trans z))]; exact ⟨h1, h2, h3⟩
theorem NPair.put {xs : List NEnt} {ys : List (NestedKey × Addr × Value)} (r : NPair xs ys) (k : NestedKey) (b : Addr) {y : V} {u : Value} (ry : RelV y u) : NPair (putX xs k b y) (storedH ys k b u) := by
  have e : (xs.any fun x => decide (x.1 = k)) = (atKey ys k).isSome := by
    rw [← rows1_any, valV_any, (r.val k).isSome_eq, Option.isSome_map]
  unfold putX storedH
  rw [e]
  by_cases q : (atKey ys k).isSome = true
  · rw [if_pos q, if_pos q]; exact r.repl k ry
  · rw [if_neg q, if_neg q]; exact Paired.snoc r ⟨rfl, rfl, ry⟩
def KeysX (B : Bool) (H : Hp) (xs : List NEnt) : Prop := ∀ x ∈ xs, KeyB B H x.1 x.2.1
theorem KeysX.keep {B : Bool} {H H' : Hp} {xs : List NEnt} (z : KeysX B H xs) (ht : ∀ b ys, H b = some (.tup ys) → H' b = some (.tup ys)) : KeysX B H' xs := fun x hx => (z x hx).keep ht
theorem KeysX.put {B : Bool} {H : Hp} {xs : List NEnt} {k : NestedKey} {b : Addr} {y : V} (z : KeysX B H xs) (kb : KeyB B H k b) : KeysX B H (putX xs k b y) := by
  unfold putX
  split
  · intro x hx
    obtain ⟨x0, h0, rfl⟩ := List.mem_map.mp hx
    have := z x0 h0
    split <;> exact this
  · intro x hx
    rcases List.mem_append.mp hx with h | h
    · exact z x h
    · rw [List.mem_singleton.mp h]; exact kb
theorem NPair.all {P : Program} {w : World} {B : Bool} {H : Hp} {h : Heap} (ok : HOk P w H h) {xs : List NEnt} {ys : List (NestedKey × Addr × Value)} (r : NPair xs ys) (z : KeysX B H xs) : ∀ y ∈ ys, (nestedKind P w).is h y.1 y.2.1 := by
  induction r with
  | nil => intro y hy; exact nomatch hy
  | @cons p q ps qs hh t ih =>
    intro y hy
    rcases List.mem_cons.mp hy with e | hy
    · subst e
      rw [← hh.1, ← hh.2.1]
      exact (z p (List.mem_cons_self ..)).is ok
    · exact ih (fun x hx => z x (List.mem_cons_of_mem _ hx)) y hy

def DNf (P : Program) (w : World) (d : Addr) (xs : List NEnt) (h : Heap) : Prop := xs.length ≤ sizeLine ∧ (d == sysModules) = false ∧ ∃ ys : List (NestedKey × Addr × Value), NPair xs ys ∧
  ∃ o es ep, h.get? d = some o ∧ o.ExactDict ∧ o.data = .dict es ep ∧ es.toList = ys.map (entryOfKey (nestedKind P w)) ∧ (ys.map (·.1)).Nodup
def DNo (P : Program) (w : World) (d : Addr) (xs : List NEnt) : HO := .ext (DNf P w d xs)
theorem DNf.stay {P : Program} {w : World} {d : Addr} {xs : List NEnt} {h1 h2 : Heap} (z : DNf P w d xs h1) (k : ∀ o, h1.get? d = some o → h2.get? d = some o) : DNf P w d xs h2 := by
  obtain ⟨a, b, ys, r, o, es, ep, ho, q⟩ := z
  exact ⟨a, b, ys, r, o, es, ep, k o ho, q⟩
theorem DNf.ok {P : Program} {w : World} {H : Hp} {h : Heap} {d : Addr} {xs : List NEnt} (z : DNf P w d xs h) : ObjOk P w H h d (DNo P w d xs) := by
  refine ⟨z, ?_, fun h1 h2 x k => x.stay k⟩
  obtain ⟨_, _, _, _, o, _, _, ho, _⟩ := z
  exact ⟨o, ho⟩
/-- at d stands a dict with these keys and values -/
def DNr (P : Program) (w : World) (B : Bool) (H : Hp) (d : Addr) (kvs : List (NestedKey × V)) : Prop := ∃ xs, rows1 xs = kvs ∧ Rd H d (DNo P w d xs) ∧ KeysX B H xs
/-- .. that may be written -/
def DN (P : Program) (w : World) (B : Bool) (H : Hp) (d : Addr) (kvs : List (NestedKey × V)) : Prop := ∃ xs, rows1 xs = kvs ∧ H d = some (DNo P w d xs) ∧ KeysX B H xs
theorem DN.rd {P : Program} {w : World} {B : Bool} {H : Hp} {d : Addr} {kvs : List (NestedKey × V)} (z : DN P w B H d kvs) : DNr P w B H d kvs := let ⟨xs, a, b, c⟩ := z; ⟨xs, a, .inl b, c⟩
theorem DN.keep {P : Program} {w : World} {B : Bool} {H H' : Hp} {d : Addr} {kvs : List (NestedKey × V)} (z : DN P w B H d kvs) (e : H' d = H d) (ht : ∀ b ys, H b = some (.tup ys) → H' b = some (.tup ys)) : DN P w B H' d kvs :=
  let ⟨xs, a, b, c⟩ := z; ⟨xs, a, e.trans b, c.keep ht⟩
theorem DN.new {P : Program} {w : World} {B : Bool} {H : Hp} {d : Addr} : DN P w B (upd H d (DNo P w d [])) d [] := ⟨[], rfl, upd_same, fun x hx => nomatch hx⟩
section
variable {P : Program} {w : World} {B : Bool} {H : Hp} {h : Heap} {a : Addr} {kvs : List (NestedKey × V)}
theorem rows1_len (xs : List NEnt) : (rows1 xs).length = xs.length := by simp [rows1]
theorem dn_rd (ok : HOk P w H h) (e : DNr P w B H a kvs) : kvs.length ≤ sizeLine ∧ (a == sysModules) = false ∧ ∃ xs ys, rows1 xs = kvs ∧ KeysX B H xs ∧ NPair xs ys ∧ h.DictOfH (nestedKind P w) a ys := by
  obtain ⟨xs, rfl, rd, kx⟩ := e
  obtain ⟨⟨z, hd, ys, r, o, es, ep, h1, h2, h3, h4, h5⟩, _, _⟩ := (show ObjOk P w H h a (DNo P w a xs) from rd_of ok rd)
  exact ⟨by rw [rows1_len]; exact z, hd, xs, ys, rfl, kx, r, o, es, ep, h1, h2, h3, h4, NPair.all ok r kx, h5⟩
end
section
variable {B : Bool} {X : Cx} {pins : List (Addr × Obj)} {σ : St} {H : Hp} {s : Shared} {a b : Addr} {v : V} {u r : Value} {A : Around} {E : Value → Shared → Prop} {kvs : List (NestedKey × V)} {k : NestedKey}
theorem n_room (hu : A.units + 9 < cLine) : (nestedKind X.prog X.w).room A.in1 := by show A.units + 1 + 8 < cLine; omega
theorem n_getItem {Q : Value → Shared → Prop} (hu : A.units + 9 < cLine) (I : Inv X pins σ H s) (e : DNr X.prog X.w B H a kvs) (kb : KeyB B H k b) (hv : valV kvs k = some v) (h : ∀ w' s', Inv X pins σ H s' → RelV v w' → Q w' s') :
    wpAny (model X.prog X.w) A (getItem (.ref a) (.ref b)) Q E s := by
  obtain ⟨z, hd, xs, ys, rfl, kx, rel, dd⟩ := dn_rd I.hok e
  obtain ⟨w', hw, rw'⟩ := RelO.some_of (v := v) (o := (atKey ys k).map (·.2)) (by rw [← hv]; exact rel.val k)
  obtain ⟨p, hp, hp2⟩ := Option.map_eq_some_iff.mp hw
  refine wpAny_getItem_heap (n_room (X := X) hu) (kb.is I.hok) dd hp ?_
  rw [hp2]
  exact h w' _ (I.tok _) rw'
theorem n_in {Q : Value → Shared → Prop} (hu : A.units + 9 < cLine) (I : Inv X pins σ H s) (e : DNr X.prog X.w B H a kvs) (kb : KeyB B H k b) (h : ∀ s', Inv X pins σ H s' → Q (.bool (valV kvs k).isSome) s') :
    wpAny (model X.prog X.w) A (compareOp .In (.ref b) (.ref a)) Q E s := by
  obtain ⟨z, hd, xs, ys, rfl, kx, rel, dd⟩ := dn_rd I.hok e
  refine wpAny_in_heap (n_room (X := X) hu) (kb.is I.hok) hd dd ?_
  have q := (rel.val k).isSome_eq
  rw [Option.isSome_map] at q
  rw [← q]
  exact h _ (I.tok _)
theorem n_notIn {Q : Value → Shared → Prop} (hu : A.units + 9 < cLine) (I : Inv X pins σ H s) (e : DNr X.prog X.w B H a kvs) (kb : KeyB B H k b) (h : ∀ s', Inv X pins σ H s' → Q (.bool (!(valV kvs k).isSome)) s') :
    wpAny (model X.prog X.w) A (compareOp .NotIn (.ref b) (.ref a)) Q E s := by
  obtain ⟨z, hd, xs, ys, rfl, kx, rel, dd⟩ := dn_rd I.hok e
  refine wpAny_notIn_heap (n_room (X := X) hu) (kb.is I.hok) hd dd ?_
  have q := (rel.val k).isSome_eq
  rw [Option.isSome_map] at q
  rw [← q]
  exact h _ (I.tok _)
/-- what may have been made of H by writing the dict at a -/
def OnlyAt (H H' : Hp) (a : Addr) : Prop := ∀ c, c ≠ a → H' c = H c
theorem n_put {h' : Heap} {t' : Nat} {xs : List NEnt} (I : Inv X pins σ H s) (e : H a = some (DNo X.prog X.w a xs)) (kx : KeysX B H xs) (hs : Heap.SameBut a s.heap h') (z : DNf X.prog X.w a xs s.heap) (kb : KeyB B H k b) (rv : RelV v u) (hl : xs.length < sizeLine)
    {ys : List (NestedKey × Addr × Value)} (rel : NPair xs ys) (dd : h'.DictOfH (nestedKind X.prog X.w) a (storedH ys k b u)) :
    ∃ H', Inv X pins σ H' { s with heap := h', toks := t' } ∧ OnlyAt H H' a ∧ DN X.prog X.w B H' a (putK (rows1 xs) k v) := by
  obtain ⟨o, es, ep, h1, h2, h3, h4, _, h5⟩ := dd
  have hn : ∀ c ys, H c = some (.tup ys) → c ≠ a := fun c ys ec q => by rw [q, e] at ec; exact nomatch (show some (DNo X.prog X.w a xs) = some (HO.tup ys) from ec)
  have ln : (putX xs k b v).length ≤ sizeLine := by
    have h6 := length_putK (rows1 xs) k v
    rw [← rows1_put xs k b v, rows1_len, rows1_len] at h6
    omega
  have nw : DNf X.prog X.w a (putX xs k b v) h' := ⟨ln, z.2.1, _, rel.put k b rv, o, es, ep, h1, h2, h3, h4, h5⟩
  refine ⟨upd H a (DNo X.prog X.w a (putX xs k b v)), ?_, fun c hc => upd_ne hc, putX xs k b v, rows1_put xs k b v, upd_same, ?_⟩
  · exact d_write (ob := DNo X.prog X.w a (putX xs k b v)) I (by rw [e]; exact True.intro) hs ⟨o, h1⟩ nw.ok
  · exact (kx.put kb).keep fun c ys ec => by rw [upd_ne (hn c ys ec)]; exact ec
theorem n_setItem {Q : Unit → Shared → Prop} (hu : A.units + 9 < cLine) (I : Inv X pins σ H s) (e : DN X.prog X.w B H a kvs) (kb : KeyB B H k b) (hl : kvs.length < sizeLine) (rv : RelV v r)
    (h : ∀ H' s', Inv X pins σ H' s' → OnlyAt H H' a → DN X.prog X.w B H' a (putK kvs k v) → Q () s') :
    wpAny (model X.prog X.w) A (setItem (.ref a) (.ref b) r) Q E s := by
  obtain ⟨xs, rfl, ex, kx⟩ := e
  obtain ⟨zf, _, _⟩ := (show ObjOk X.prog X.w H s.heap a (DNo X.prog X.w a xs) from I.hok a _ ex)
  obtain ⟨z, hd, ys, rel, o, es, ep, h1, h2, h3, h4, h5⟩ := id zf
  have dd : s.heap.DictOfH (nestedKind X.prog X.w) a ys := ⟨o, es, ep, h1, h2, h3, h4, NPair.all I.hok rel kx, h5⟩
  rw [rows1_len] at hl
  refine wpAny_setItem_heap (hsz := by rw [← Paired.length rel]; exact z) (n_room (X := X) hu) (kb.is I.hok) dd fun h' dd' hs => ?_
  obtain ⟨H', I', q1, q2⟩ := n_put (t' := s.toks + (nestedKind X.prog X.w).draws k) I ex kx hs zf kb rv hl rel dd'
  exact h H' _ I' q1 q2
theorem n_setd {d : V} {Q : Value → Shared → Prop} (hu : A.units + 9 < cLine) (I : Inv X pins σ H s) (e : DN X.prog X.w B H a kvs) (kb : KeyB B H k b) (hl : kvs.length < sizeLine) (rd : RelV d r)
    (h1 : ∀ v, valV kvs k = some v → ∀ (w' : Value) (s' : Shared), Inv X pins σ H s' → RelV v w' → Q w' s')
    (h2 : valV kvs k = none → ∀ H' (w' : Value) (s' : Shared), Inv X pins σ H' s' → OnlyAt H H' a → DN X.prog X.w B H' a (putK kvs k d) → RelV d w' → Q w' s') :
    wpAny (model X.prog X.w) A (call (.builtin "dict.setdefault") [.ref a, .ref b, r]) Q E s := by
  obtain ⟨xs, rfl, ex, kx⟩ := e
  obtain ⟨zf, _, _⟩ := (show ObjOk X.prog X.w H s.heap a (DNo X.prog X.w a xs) from I.hok a _ ex)
  obtain ⟨z, hd, ys, rel, o, es, ep, g1, g2, g3, g4, g5⟩ := id zf
  have dd : s.heap.DictOfH (nestedKind X.prog X.w) a ys := ⟨o, es, ep, g1, g2, g3, g4, NPair.all I.hok rel kx, g5⟩
  rw [rows1_len] at hl
  refine call_setdefault_heap (hsz := by rw [← Paired.length rel]; exact z) (n_room (X := X) hu) (kb.is I.hok) hd dd (fun p hp => ?_) fun hn h' dd' hs => ?_
  · have q := rel.val k
    rw [hp] at q
    cases q0 : valV (rows1 xs) k with
    | none => rw [q0] at q; exact (show False from q).elim
    | some v0 => rw [q0] at q; exact h1 v0 q0 _ _ (I.tok _) q
  · have q := rel.val k
    rw [hn] at q
    cases q0 : valV (rows1 xs) k with
    | some v0 => rw [q0] at q; exact (show False from q).elim
    | none =>
      obtain ⟨H', I', q1, q2⟩ := n_put (t' := s.toks + (nestedKind X.prog X.w).draws k) I ex kx hs zf kb rd hl rel dd'
      exact h2 q0 H' _ _ I' q1 q2 rd
theorem n_typeIs (I : Inv X pins σ H s) (e : DNr X.prog X.w B H a kvs) : s.TypeIs (.ref a) "dict" := by
  obtain ⟨_, _, _, _, _, _, _, dd⟩ := dn_rd I.hok e
  exact dd.typeIs
theorem n_noDict (I : Inv X pins σ H s) (e : DNr X.prog X.w B H a kvs) : ∀ b, Value.ref a = .ref b → ∃ ob, s.heap.get? b = some ob ∧ ob.dict = none := fun b q => by
  cases q
  obtain ⟨_, _, _, _, _, _, _, ob, _, _, h1, h2, _⟩ := dn_rd I.hok e
  exact ⟨ob, h1, h2.2.1⟩
theorem n_new {P : Program} {w : World} {H : Hp} (h : Heap) (hb : sysModules < h.objs.size) : ObjOk P w H (h.push { cls := .type "dict", data := .dict #[] }) h.objs.size (DNo P w h.objs.size []) :=
  DNf.ok ⟨Nat.zero_le _, beq_eq_false_iff_ne.mpr (Ne.symm (Nat.ne_of_lt hb)), [], .nil, _, #[], 0, Heap.get?_push_size _ rfl, ⟨rfl, rfl, rfl⟩, rfl, rfl, List.nodup_nil⟩
end
end L2

set_option Elab.async false
set_option linter.all false
set_option maxRecDepth 100000
set_option maxHeartbeats 4000000
/-! Rules over dicts whose keys are nested tuples. -/
namespace L2
open PySem PySem.Spec PyProof.Rows
def tNNew (P : Program) (w : World) : TE := fun _ H Q => ∀ p, H p = none → Q (.ref p) (upd H p (DNo P w p []))
section
variable (P : Program) (w : World) (B : Bool)
def tNGet (td ty : TE) : TE := fun σ H Q => td σ H fun x H1 => ty σ H1 fun y H2 => ∃ a b kvs k v, x = .ref a ∧ y = .ref b ∧ DNr P w B H2 a kvs ∧ KeyB B H2 k b ∧ valV kvs k = some v ∧ Q v H2
def tNIn (ty td : TE) : TE := fun σ H Q => ty σ H fun y H1 => td σ H1 fun x H2 => ∃ a b kvs k, x = .ref a ∧ y = .ref b ∧ DNr P w B H2 a kvs ∧ KeyB B H2 k b ∧ Q (.bl (valV kvs k).isSome) H2
def tNNotIn (ty td : TE) : TE := fun σ H Q => ty σ H fun y H1 => td σ H1 fun x H2 => ∃ a b kvs k, x = .ref a ∧ y = .ref b ∧ DNr P w B H2 a kvs ∧ KeyB B H2 k b ∧ Q (.bl (!(valV kvs k).isSome)) H2
def sNPut (td ty tv : TE) : TS := fun D σ H => tv σ H fun v H1 => td σ H1 fun x H2 => ty σ H2 fun y H3 => ∃ a b kvs k, x = .ref a ∧ y = .ref b ∧ DN P w B H3 a kvs ∧ KeyB B H3 k b ∧ kvs.length < sizeLine ∧
  ∀ H4, OnlyAt H3 H4 a → DN P w B H4 a (putK kvs k v) → D.nx σ H4
def tNSetd (td ty tx : TE) : TE := fun σ H Q => td σ H fun x H1 => ∃ a kvs0, x = .ref a ∧ DNr P w B H1 a kvs0 ∧ ty σ H1 fun y H2 => tx σ H2 fun z H3 => ∃ b kvs k, y = .ref b ∧ DN P w B H3 a kvs ∧ KeyB B H3 k b ∧ kvs.length < sizeLine ∧
  (∀ v, valV kvs k = some v → Q v H3) ∧ (valV kvs k = none → ∀ H4, OnlyAt H3 H4 a → DN P w B H4 a (putK kvs k z) → Q z H4)
def rLenN : List V → Hp → VK → Prop := fun xs H Q => ∃ (p : Addr) (kvs : List (NestedKey × V)), xs = [.ref p] ∧ DNr P w B H p kvs ∧ Q (.int ((kvs.length : Nat) : Int)) H
def IsKeysN (B : Bool) (H : Hp) (kvs : List (NestedKey × V)) (bs : List Addr) : Prop := Paired (fun p b => KeyB B H p.1 b) kvs bs
end
section
variable {B : Bool} {X : Cx} {o i e f value : Expr} {pos pos' tpos apos cpos : Pos} {td ty tv tx : TE}
theorem pe_nnew : PE X (.Dict [] [] pos) (tNNew X.prog X.w) := ⟨fun pins s σ H Q I h =>
  wpAny_Dict_empty ⟨.ref s.heap.objs.size, _, I.laid (a := s.heap.objs.size) (o := DNo X.prog X.w s.heap.objs.size []) (t' := s.toks) (fun _ _ q => Heap.get?_push_of_some _ q) (Nat.le_refl _) (n_new s.heap I.big), rfl, h _ (I.hok.fresh (Nat.le_refl _))⟩⟩
theorem pe_nget (hu : X.A.units + 9 < cLine) (ho : PE X o td) (hi : PE X i ty) (hs : NoSl i) : PE X (.Subscript o i pos) (tNGet X.prog X.w B td ty) := by
  refine ⟨fun pins s σ H Q I h => ?_⟩
  refine subD_of PySem.F.slot_dict_getitem.lookup hs (thn (ho.run pins s σ H _ I h) fun u s1 ⟨x, H1, I1, rx, q1⟩ => thn (hi.run pins s1 σ H1 _ I1 q1) fun iv s2 ⟨y, H2, I2, ry, a, b, kvs, k, v, ex, ey, g, kb, hv, q2⟩ => ?_)
  subst ex ey
  obtain rfl : u = Value.ref a := rx
  obtain rfl : iv = Value.ref b := ry
  exact ⟨n_typeIs I2 g, n_getItem hu I2 g kb hv fun w' s3 I3 rw' => ⟨v, H2, I3, rw', q2⟩⟩
theorem pc_nin (hu : X.A.units + 9 < cLine) (hi : PE X i ty) (ho : PE X o td) : PC X .In i o (tNIn X.prog X.w B ty td) := by
  refine ⟨fun pins s σ H Q I h => ?_⟩
  refine thn (hi.run pins s σ H _ I h) fun iv s1 ⟨y, H1, I1, ry, q1⟩ => thn (ho.run pins s1 σ H1 _ I1 q1) fun u s2 ⟨x, H2, I2, rx, a, b, kvs, k, ex, ey, g, kb, q2⟩ => ?_
  subst ex ey
  obtain rfl : u = Value.ref a := rx
  obtain rfl : iv = Value.ref b := ry
  exact n_in hu I2 g kb fun s3 I3 => ⟨.bl (valV kvs k).isSome, H2, I3, rfl, q2⟩
theorem pc_nnotin (hu : X.A.units + 9 < cLine) (hi : PE X i ty) (ho : PE X o td) : PC X .NotIn i o (tNNotIn X.prog X.w B ty td) := by
  refine ⟨fun pins s σ H Q I h => ?_⟩
  refine thn (hi.run pins s σ H _ I h) fun iv s1 ⟨y, H1, I1, ry, q1⟩ => thn (ho.run pins s1 σ H1 _ I1 q1) fun u s2 ⟨x, H2, I2, rx, a, b, kvs, k, ex, ey, g, kb, q2⟩ => ?_
  subst ex ey
  obtain rfl : u = Value.ref a := rx
  obtain rfl : iv = Value.ref b := ry
  exact n_notIn hu I2 g kb fun s3 I3 => ⟨.bl (!(valV kvs k).isSome), H2, I3, rfl, q2⟩
theorem ps_nput (hu : X.A.units + 9 < cLine) (ho : PE X o td) (hi : PE X i ty) (hv : PE X value tv) (hs : swapsWith value (some (.Subscript o i pos')) pos.line X.env = pure false) :
    PS X (.Assign [.Subscript o i pos'] value pos) (sNPut X.prog X.w B td ty tv) := by
  refine ⟨fun pins s σ H D I h => ?_⟩
  refine wpAny_Assign_Subscript (thn (hv.run pins s σ H _ I h) fun r s1 ⟨v, H1, I1, rv, q1⟩ => thn (ho.run pins s1 σ H1 _ I1 q1) fun u s2 ⟨x, H2, I2, rx, q2⟩ => thn (hi.run pins s2 σ H2 _ I2 q2) fun iv s3 ⟨y, H3, I3, ry, a, b, kvs, k, ex, ey, g, kb, hl, q3⟩ => ?_) hs
  subst ex ey
  obtain rfl : u = Value.ref a := rx
  obtain rfl : iv = Value.ref b := ry
  exact n_setItem hu I3 g kb hl rv fun H4 s4 I4 c1 c2 => ⟨σ, H4, I4, q3 H4 c1 c2⟩
theorem pe_nsetd (hu : X.A.units + 9 < cLine) (ho : PE X o td) (he : PE X e ty) (hf : PE X f tx) (m : M2 X o "setdefault" apos e f cpos) : PE X (.Call (.Attribute o "setdefault" apos) [e, f] [] cpos) (tNSetd X.prog X.w B td ty tx) := by
  refine ⟨fun pins s σ H Q I h => ?_⟩
  refine wpAny_Call_method m.base m.few m.line PySem.F.plainAttrs_dict PySem.F.slot_dict_setdefault PySem.F.type_dict_setdefault (thn (ho.run pins s σ H _ I h) fun u s1 ⟨x, H1, I1, rx, a, kvs0, ex, d, q1⟩ => ?_)
  subst ex
  obtain rfl : u = Value.ref a := rx
  refine ⟨n_typeIs I1 d, n_noDict I1 d, ?_⟩
  rw [m.trees]
  refine Calls.callWith_builtin rfl (Calls.evalArgs_plain (Calls.spliced_cons (thn (he.run pins s1 σ H1 _ I1 q1) fun iv s2 ⟨y, H2, I2, ry, q2⟩ =>
    Calls.spliced_cons (thn (hf.run pins s2 σ H2 _ I2 q2) fun fv s3 ⟨z, H3, I3, rz, b, kvs, k, ey, g, kb, hl, q3, q4⟩ => Calls.spliced_nil ?_))))
  subst ey
  obtain rfl : iv = Value.ref b := ry
  exact n_setd hu I3 g kb hl rz (fun v hv w' s4 I4 rw' => ⟨v, _, I4, rw', q3 v hv⟩) fun hn H4 w' s4 I4 c1 c2 rw' => ⟨z, _, I4, rw', q4 hn H4 c1 c2⟩
theorem call_len_dN : CallR X (.builtin "len") (rLenN X.prog X.w B) := by
  intro pins s σ H xs us Q I r h
  obtain ⟨p, kvs, rfl, hp, q⟩ := h
  obtain ⟨u, rfl, rx⟩ := vals1 r
  obtain rfl : u = .ref p := rx
  obtain ⟨z, hd, xs, ys, rfl, kx, rel, dd⟩ := dn_rd I.hok hp
  have hl : (rows1 xs).length = ys.length := by rw [rows1_len]; exact Paired.length rel
  refine call_len_dictH hd dd (by rw [← hl]; rw [sizeLine_eq] at z; omega) ?_
  rw [← hl]
  exact ⟨.int (((rows1 xs).length : Nat) : Int), H, I.tok _, ⟨_, rfl⟩, q⟩
theorem isKeysN_of {H : Hp} {xs : List NEnt} {ys : List (NestedKey × Addr × Value)} (r : NPair xs ys) (kx : KeysX B H xs) : IsKeysN B H (rows1 xs) (ys.map fun x => x.2.1) := by
  unfold IsKeysN
  induction r with
  | nil => exact Paired.nil
  | @cons p q ps qs h t ih =>
    refine Paired.cons ?_ (ih fun x hx => kx x (List.mem_cons_of_mem _ hx))
    show KeyB B H p.1 q.2.1
    rw [← h.2.1]
    exact kx p (List.mem_cons_self ..)
/-- what was read of a dict's entries, one by one, is its keys' addresses -/
theorem read_keys {P : Program} {w : World} {ys : List (NestedKey × Addr × Value)} {es : Array DictEntry} {acc : Array Value} (he : es.toList = ys.map (entryOfKey (nestedKind P w))) (hn : acc.size = es.size)
    (hv : ∀ (j : Nat) (v : Value), acc[j]? = some v → ∃ en : DictEntry, es[j]? = some en ∧ v = en.key) : acc.toList = (ys.map (·.2.1)).map Value.ref := by
  have ly : ys.length = es.size := by
    have z := congrArg List.length he
    simpa using z.symm
  refine List.ext_getElem (by simp [hn, ly]) fun j h1 h2 => ?_
  have j1 : j < acc.size := by simpa using h1
  have j2 : j < ys.length := by omega
  obtain ⟨en, e1, e2⟩ := hv j acc[j] (Array.getElem?_eq_getElem j1)
  have e3 : es.toList[j]? = some (entryOfKey (nestedKind P w) ys[j]) := by rw [he, List.getElem?_map, List.getElem?_eq_getElem j2]; rfl
  rw [Array.getElem?_toList, e1] at e3
  have e4 : en.key = Value.ref (ys[j]).2.1 := by rw [Option.some.inj e3]; rfl
  simp only [Array.getElem_toList, List.getElem_map]
  rw [e2, e4]
theorem refs_are : ∀ l : List Addr, Vals (l.map V.ref) (l.map Value.ref)
  | [] => .nil
  | _ :: l => .cons rfl (refs_are l)
theorem call_list_dN (hc : X.calm = true) : CallR X (.type "list") (fun xs H Q => ∃ d kvs, xs = [V.ref d] ∧ DNr X.prog X.w B H d kvs ∧ ∀ p bs, H p = none → IsKeysN B H kvs bs → Q (.ref p) (upd H p (.lst (bs.map V.ref)))) := by
  rintro pins s σ H _ us Q I r ⟨d, kvs, rfl, hd, q⟩
  obtain rfl := Vals.ref1 r
  obtain ⟨z, low, xs, ys, rfl, kx, pr, o, es, ep, ho, hx, hdt, he, _, _⟩ := dn_rd I.hok hd
  have ly : ys.length = es.size := by
    have z := congrArg List.length he
    simpa using z.symm
  have lx : (rows1 xs).length = ys.length := by rw [rows1_len]; exact Paired.length pr
  have small : es.size ≤ sizeLine := by omega
  refine PySem.W.kdl_call (kdl_raw low hx hdt) (I.ok.hd hc) ho small fun h2 tk acc c kp e it => ?_
  have ea := read_keys he it.1 it.2
  have new : ObjOk X.prog X.w (upd H s.heap.objs.size (.lst ((ys.map (·.2.1)).map V.ref))) h2 s.heap.objs.size (.lst ((ys.map (·.2.1)).map V.ref)) := by
    refine ⟨by simp only [List.length_map]; omega, acc.toList, c, by rw [ea]; exact refs_are _, ?_⟩
    simpa using e
  exact ⟨.ref s.heap.objs.size, _, I.laid (t' := tk) kp (Nat.le_refl _) new, rfl, q _ _ (I.hok.fresh (Nat.le_refl _)) (isKeysN_of pr kx)⟩
end
end L2

set_option Elab.async false
set_option linter.all false
set_option maxRecDepth 100000
set_option maxHeartbeats 4000000
/-! One token is out: a for and an assignment in a def; name.replace(y, m[i]). -/
namespace L2
open PySem PySem.Spec PyProof.Rows
theorem thnT {α : Type} {t : Sem α} {Q Q' : α → Shared → Prop} {M : Model} {A : Around} {E : Value → Shared → Prop} {s : Shared} (h : wpAny M A t Q E s) (hQ : ∀ a s', s.toks ≤ s'.toks → Q a s' → Q' a s') : wpAny M A t Q' E s :=
  wpAny_mono (PySem.wpAny_toks h) (fun a s' z => hQ a s' z.1 z.2) fun _ _ z => z.2
section
variable {X : Cx} {st : Stmt} {rest : List Stmt} {t u : TS}
theorem PSsT.nox {b : List Stmt} (h : PSsT X.nox b t) : PSsT X b t := fun pins s σ H D h0 I hw =>
  wpAny_mono (h pins s σ H D h0 (I.wish _) hw) (fun _ _ q => q.unwish) fun _ _ z => False.elim z
theorem PIT.of {tg iter : Expr} {wi : TI} (h : PI X tg iter wi) : PIT X tg iter wi := fun pins s σ H R _ I q => h.run pins s σ H R I q
theorem pst_set {i : Nat} {x : Str} {e : Expr} {te : TE} {pos pos' : Pos} (hN : X.N.Nodup) (hi : X.N[i]? = some x) (hx : Loc X.env.scope x) (he : PET X e te) (hs : swapsWith e (some (.Name x pos')) pos.line X.env = pure false := by rfl) (hf : X.fn x = true ∨ X.env.scope.names.lookup x = some .local := by first | exact .inl rfl | exact .inr rfl | assumption) :
    PST X (.Assign [.Name x pos'] e pos) (tAsg te (gName i)) := by
  intro pins s σ H D h0 I h
  refine wpAny_Assign_Name (thn (he pins s σ H _ h0 I h) fun v s1 ⟨y, H1, I1, r1, q1⟩ => ?_) hs
  exact store_ok I1 hN hi hx r1 (fun s2 I2 => ⟨_, H1, I2, q1⟩) hf
/-- a loop between two turns, a token out -/
def Btw (X : Cx) (pins : List (Addr × Obj)) (fp : List Addr) (tn : Nat → Heap → Prop) (W : Nat → Nat → St → Hp → Prop) (n : Nat) (s : Shared) : Prop :=
  1 ≤ s.toks ∧ ∃ (i : Nat) (σ : St) (H : Hp), W i n σ H ∧ tn i s.heap ∧ (∀ b ∈ fp, H b = none) ∧ Inv X pins σ H s
theorem Btw.mk {tg : Expr} {pins : List (Addr × Obj)} {fp : List Addr} {it : Addr} {tn : Nat → Heap → Prop} {J : It} {W : Nat → Nat → St → Hp → Prop} {N : St → Hp → Prop} {n i : Nat} {s0 s1 : Shared} {σ : St} {H : Hp}
    (T : Turn X.prog X.w X.K tg J fp it tn) (st : tn (i + 1) s0.heap) (out : 1 ≤ s1.toks) (I : Inv X (pins ++ pinsAt fp s0.heap) σ H s1) (less : ∀ σ' H', N σ' H' → ∃ m, m < n ∧ W (i + 1) m σ' H') (hN : N σ H) : ∃ m, m < n ∧ Btw X pins fp tn W m s1 := by
  obtain ⟨m, lt, w⟩ := less σ H hN
  have held : ∀ b ∈ fp, ∀ o, s0.heap.get? b = some o → s1.heap.get? b = some o ∧ H b = none := fun b hb o e => by
    obtain ⟨p1, p2, _⟩ := I.pin (b, o) (by simp [mem_pinsAt hb e])
    exact ⟨p1, p2⟩
  refine ⟨m, lt, out, i + 1, σ, H, w, T.keep _ _ _ st fun b hb o e => (held b hb o e).1, fun b hb => ?_, I.unpinned⟩
  obtain ⟨o, e, _⟩ := T.obj _ _ st b hb
  exact (held b hb o e).2
theorem pst_forT {tg iter : Expr} {body : List Stmt} {wi : TI} {g : TG} {tb : TS} {pos : Pos} (pass : PassesOwn (model X.prog X.w) X.A X.env X.xe) (calm : X.calm = true) (hi : PI X tg iter wi) (hg : PG X tg g) (hb : PSsT X body tb)
    (plain : ∀ x, foldedSetIterable iter X.env x = pure x := by intro _; rfl) : PST X (.For tg iter body [] pos) (tFor wi g tb) := fun pins s σ H D out I wish => by
  have start := hi.run pins s σ H _ I wish
  refine wpAny_For (thnT start fun _ sA kA hA => thnT hA fun _ sB kB hB => ?_) plain
  obtain ⟨it, fp, tn, J, HB, rfl, IB, T, stB, okB, W, ⟨m, wm⟩, each⟩ := hB
  have foot : ∀ {Hx : Hp}, (∀ b ∈ fp, Hx b = none) → ∀ b ∈ fp, FpOk X pins Hx b := fun no b hb => ⟨no b hb, (okB b hb).2⟩
  refine codeAny_forLoop_any (Btw X pins fp tn W) (fun n sC hC => ?_) m ⟨by omega, 0, σ, HB, wm, stB, fun b hb => (okB b hb).1, IB⟩
  obtain ⟨outC, i, σC, HC, wC, stC, noC, IC⟩ := hC
  have turn := each i n σC HC wC
  refine wpAny_passesOwn pass ?_
  rcases turn with ⟨hstop, hnext⟩ | ⟨hgo, N, less, step⟩
  · refine thn (T.done X rfl rfl rfl calm i pins sC σC HC X.xe IC (foot noC) stC hstop) ?_
    rintro _ sD ⟨rfl, ID⟩
    exact wpAny_execs_nil ⟨σC, HC, ID, hnext⟩
  · refine thnT (T.item X rfl rfl rfl calm i pins sC σC HC X.xe IC (foot noC) stC hgo) ?_
    rintro _ sD kD ⟨u, rfl, hD⟩
    refine wpAny_passesOwn pass (thnT hD ?_)
    rintro _ sE kE ⟨x, HE, IE, rE, yE, stE, noE⟩
    have stored := hg.run _ sE σC HE x u _ (IE.pinned (foot noE) (T.obj _ _ stE)) rE (step x HE yE)
    refine wpAny_passesOwn pass (thnT stored ?_)
    rintro _ sF kF ⟨σF, HF, IF, qF⟩
    have outF : 1 ≤ sF.toks := by omega
    refine wpAny_passesOwn pass (thnT (hb _ sF σF HF _ outF IF qF) ?_)
    intro flow sG kG hG
    have outG : 1 ≤ sG.toks := by omega
    match flow, hG with
    | .next, ⟨_, _, IG, nG⟩ => exact Btw.mk T stE outG IG less nG
    | .cont, ⟨_, _, IG, nG⟩ => exact Btw.mk T stE outG IG less nG
    | .brk, ⟨σG, HG, IG, qG⟩ => exact ⟨σG, HG, IG.unpinned, qG⟩
    | .ret _, ⟨x2, σG, HG, IG, rG, qG⟩ => exact ⟨x2, σG, HG, IG.unpinned, rG, qG⟩
end
/-- e.replace(y, m[i]) -/
def tReplN (ta : TE) (y : Str) (tM ti : TE) : TE := fun σ H Q => ta σ H fun v H1 => ∃ x, v = .str x ∧ tM σ H1 fun m H2 => ti σ H2 fun iv H3 =>
  ∃ (z : Str) (c : Nat) (i : Int), m = .str z ∧ iv = .int i ∧ z.length ≤ sizeLine ∧ atI z.cps.toList i = some c ∧ (y == ⟨#[c]⟩) = false ∧ x.length + (x.length + 1) * 1 ≤ 16777216 ∧ Q (.str (Txt.replace x y ⟨#[c]⟩)) H3
section
variable {X : Cx} {a m i : Expr} {ta tM ti : TE} {y : Str} {k : Nat} {c0 p2 p3 apos pos : Pos}
theorem pet_replN (ha : PE X a ta) (hM : PE X m tM) (hi : PE X i ti) (hs3 : PlainIx i)
    (hst : starEach [.Constant (.str y) k c0, .Subscript m i p3] X.env = [(false, eval (.Constant (.str y) k c0) X.env), (false, eval (.Subscript m i p3) X.env)] := by rfl)
    (hbase : attributeBase a "replace" X.env (eval a X.env) = eval a X.env := by rfl)
    (hline : (apos.endLine == pos.line) = true := by rfl) :
    PET X (.Call (.Attribute a "replace" apos) [.Constant (.str y) k c0, .Subscript m i p3] [] pos) (tReplN ta y tM ti) := by
  intro pins s σ H Q h0 I h
  refine PySem.Call_method2 hbase hst hline (thnT (ha.run pins s σ H _ I h) fun v2 s2 hk q => ?_)
  obtain ⟨x2, H2, I2, r2, xs, rfl, q⟩ := q
  obtain ⟨tx, rfl⟩ := r2
  have hk2 : 1 ≤ s2.toks := by omega
  refine ⟨"str", _, PySem.F.plainAttrs_str, PySem.F.slot_str_replace, PySem.F.type_str_replace, typeIs_str _ _ _, (fun _ e => nomatch e), Calls.callWith_builtin rfl (Calls.evalArgs_plain (Calls.spliced_cons ?_))⟩
  refine Calls.Constant_str (Calls.spliced_cons (Subscript_ ?_))
  refine wpAny_mono (PySem.wpAny_toks (hM.run pins _ σ H2 _ (I2.tok (s2.toks + 1)) q)) (fun v3 s3 q => ?_) fun _ _ z => z.2
  obtain ⟨hk3, x3, H3, I3, r3, q⟩ := q
  have hk3' : s2.toks + 1 ≤ s3.toks := hk3
  refine wpAny_mono (PySem.wpAny_toks (hi.run pins _ σ H3 _ I3 q)) (fun v4 s4 q => ?_) fun _ _ z => z.2
  obtain ⟨hk4, x4, H4, I4, r4, z, c, ix, rfl, rfl, hz, he, hyz, hb, q⟩ := q
  obtain ⟨t, rfl⟩ := r3
  obtain ⟨t', rfl⟩ := r4
  obtain ⟨j, h1, h2, h3, h4, h5⟩ := atI_get he
  have hl : z.cps.toList.length = z.length := by simp [Str.length]
  rw [hl] at h1 h4 h5
  have hn := line63
  refine tail_any (typeIs_str s4 z t) slot_str_getitem.lookup (getItem_str (c := c) (by
    have e1 : decide (ix < -(2 ^ 63 : Int)) = false := decide_eq_false (by omega)
    have e2 : decide (ix ≥ 2 ^ 63) = false := decide_eq_false (by omega)
    rw [e1, e2, Bool.or_false]) (by rw [h1]; simpa using h2) ?_) (hs3 _ _)
  refine Calls.spliced_nil ?_
  exact PySem.SC.replace (by show s2.toks ≠ 0; omega) (by show s4.toks ≠ 0; omega) (by show s2.toks ≠ s4.toks; omega) hyz hb fun t' k => ⟨.str (Txt.replace xs y ⟨#[c]⟩), H4, I4.tok k, ⟨t', rfl⟩, q⟩
end
section
variable {P : Program} {w : World} {K : PySem.W.Frag} {mg : Str → Option Value} {base : Heap}
/-- a def by its body, a token out from the start -/
theorem Fun.okT {x qual : Str} {st : Stmt} {f : Addr} {fd : FuncData} {N ps : List Str} {k : Nat} {sp : Sp} (F : Fun K x qual st f fd) (S : FnScope N ps (defScope st)) (hnc : ((defScope st).names.all fun y => !decide (y.2 = .cell)) = true) (hps : 1 ≤ ps.length) (len : ∀ vs H Q E, sp vs H Q E → vs.length = ps.length)
    (hbody : ∀ (cdv : Value) (A : Around) (outer : List Env) (s : Shared) (H : Hp) (vs : List V) (Q : VK) (E : XK), Room k (A.deeper (PyProof.Rows.envOfC qual (defScope st) s.heap.objs.size f cdv)) → sp vs H Q E →
      ∃ t, PSsT (cxOf CX0 P w K mg base N qual (defScope st) f cdv A outer s H E).nox (defBody st) t ∧ t { nx := fun _ H' => Q .non H', rt := Q } (start N vs) H) : FnOk P w K mg base CX0 (k + 1) f fd ps sp := by
  obtain ⟨oc, od, kV, doc, pm, an, cdv, ct, osl, rfl, lk, hcd⟩ := F.ex
  refine fn_ofT lk hcd S (fun y hy z => ?_) hps len fun A outer s H vs Q E hr hsp => ?_
  · have := List.all_eq_true.mp hnc y hy
    rw [decide_eq_true z] at this
    cases this
  · obtain ⟨t, h, q⟩ := hbody cdv A outer s H vs Q E hr hsp
    exact ⟨t, h.nox, q⟩
end
end L2

set_option Elab.async false
set_option linter.all false
set_option maxRecDepth 100000
set_option maxHeartbeats 4000000
/-! States; maker_behind, state_behind. -/
namespace L2
open PySem PySem.Spec PyProof.Rows
/-- t[lo:hi]: somewhere, all else stays -/
def rSlW (K : PySem.W.Frag) : V → Option Int → Option Int → Hp → VK → Prop := fun x lo hi H Q => ∃ a xs, x = .ref a ∧ H a = some (.tup xs) ∧ ∀ p H', Same H H' → H' p = some (.tup (cutV xs lo hi)) → Q (.ref p) H'
theorem sl_tupS {X : Cx} : SlR X (rSlW X.K) := by
  intro pins s σ H x v vl vu lo hi sl Q I rx hs pl pu h
  obtain ⟨a, xs, rfl, ha, q⟩ := h
  refine sl_tupA pins s σ H _ v vl vu lo hi sl Q I rx hs pl pu ⟨a, xs, rfl, SqT.of ha, fun z => ?_, fun _ p hp => q p _ (K35.same_upd hp) upd_same⟩
  refine q a H (fun _ _ e => e) ?_
  rw [ha]
  unfold cutV
  rw [z.1, z.2]
  simp
/-- t + u: somewhere, all else stays -/
def rCatZ (K : PySem.W.Frag) : R2 := fun x y H Q => ∃ a b xs ys, x = .ref a ∧ y = .ref b ∧ H a = some (.tup xs) ∧ H b = some (.tup ys) ∧ xs.length + ys.length ≤ sizeLine ∧ ∀ p H', Same H H' → H' p = some (.tup (xs ++ ys)) → Q (.ref p) H'
theorem op_catZ {X : Cx} : OpR X (binaryOp .Add) (rCatZ X.K) := by
  intro pins s σ H x y v u Q I rx ry h
  obtain ⟨a, b, xs, ys, rfl, rfl, ha, hb, hz, q⟩ := h
  refine op_catA pins s σ H _ _ v u Q I rx ry ⟨a, b, xs, ys, rfl, rfl, SqT.of ha, SqT.of hb, hz, fun z => ?_, fun _ z => ?_, fun _ _ p hp => q p _ (K35.same_upd hp) upd_same⟩
  · subst z
    exact q b H (fun _ _ e => e) hb
  · subst z
    exact q a H (fun _ _ e => e) (by rw [ha, List.append_nil])
theorem set_cut {xs : List V} {w : Nat} {g : V} (h : w < xs.length) (h2 : xs.length < 2 ^ 60) : cutV xs none (some (w : Int)) ++ [g] ++ cutV xs (some ((w : Int) + 1)) none = xs.set w g := by
  have e1 : ((w : Int) + 1) = ((w + 1 : Nat) : Int) := by omega
  unfold cutV
  rw [e1, HT.sIx_nat, HT.sIx_nat, HT.sIx_none, HT.sIx_none, List.set_eq_take_append_cons_drop, if_pos h]
  have e2 : min w xs.length = w := by omega
  have e3 : min (w + 1) xs.length = w + 1 := by omega
  rw [e2, e3, Nat.sub_zero, List.drop_zero, List.append_assoc]
  congr 1
  show g :: (xs.drop (w + 1)).take (xs.length - (w + 1)) = _
  rw [List.take_of_length_le (by rw [List.length_drop]; exact Nat.le_refl _)]
end L2
namespace K35
open PySem L2 L2.EV
abbrev sMaker : Stmt := top 27
abbrev sState : Stmt := top 28
inductive Mk where
  | no | one (w : Int) | mix
  deriving DecidableEq
/-- the standings of the writers, the maker of what the present line has so far -/
abbrev Sx := List Int × Mk
def mkV : Mk → V
  | .no => .non
  | .one w => .int w
  | .mix => .str "mixed"
def keyM : Mk → NestedKey
  | .no => .none
  | .one w => .num w
  | .mix => .text "mixed"
def keyS (s : Sx) : NestedKey := .tup [.tup (s.1.map .num), keyM s.2]
def StA (H : Hp) (a : Addr) (s : Sx) : Prop := ∃ p, H a = some (.tup [.ref p, mkV s.2]) ∧ H p = some (.tup (s.1.map V.int))
theorem StA.keep {H H' : Hp} {a : Addr} {s : Sx} (h : StA H a s) (k : KeepT H H') : StA H' a s := let ⟨p, e1, e2⟩ := h; ⟨p, k _ _ e1, k _ _ e2⟩
theorem nks_ints {B : Bool} {H : Hp} : ∀ ns : List Int, NKs B H (ns.map NestedKey.num) (ns.map V.int)
  | [] => .nil
  | n :: ns => .cons (.int n) (nks_ints ns)
theorem nk_mk {B : Bool} {H : Hp} (m : Mk) : NK B H (keyM m) (mkV m) := by
  cases m with
  | no => exact .none
  | one w => exact .int w
  | mix => exact .str _
theorem depth_nums : ∀ ns : List Int, NestedKey.depthAll (ns.map NestedKey.num) = 0
  | [] => rfl
  | n :: ns => by
    show max (NestedKey.depth (.num n)) (NestedKey.depthAll (ns.map NestedKey.num)) = 0
    rw [depth_nums ns]
    rfl
theorem StA.key {B : Bool} {H : Hp} {a : Addr} {s : Sx} (h : StA H a s) : KeyB B H (keyS s) a := by
  obtain ⟨p, e1, e2⟩ := h
  refine ⟨.tup e1 (.cons (.tup e2 (nks_ints _)) (.cons (nk_mk _) .nil)), ?_⟩
  show NestedKey.depth (.tup [.tup (s.1.map .num), keyM s.2]) ≤ 8
  simp only [NestedKey.depth, NestedKey.depthAll, depth_nums]
  cases s.2 <;> simp only [keyM, NestedKey.depth] <;> decide
theorem ints_nks {H : Hp} : ∀ (ns : List Int) (xs : List V), NKs false H (ns.map NestedKey.num) xs → xs = ns.map V.int
  | [], _, h => by cases h; rfl
  | n :: ns, _, h => by
    cases h with
    | cons h1 h2 =>
      rw [ints_nks ns _ h2]
      cases h1 with
      | bl h _ => cases h
      | int _ => rfl
theorem mk_nk {H : Hp} {m : Mk} {x : V} (h : NK false H (keyM m) x) : x = mkV m := by
  cases m with
  | no => cases h; rfl
  | one w =>
    cases h with
    | bl h _ => cases h
    | int _ => rfl
  | mix => cases h; rfl
/-- a key of a state is that state -/
theorem sta_key {H : Hp} {a : Addr} {s : Sx} (h : KeyB false H (keyS s) a) : StA H a s := by
  obtain ⟨h, _⟩ := h
  cases h with
  | tup e1 h1 =>
    cases h1 with
    | cons ha h2 =>
      cases h2 with
      | cons hb h3 =>
        cases h3
        cases ha with
        | @tup p ys _ e2 h4 =>
          rw [ints_nks _ _ h4] at e2
          rw [mk_nk hb] at e1
          exact ⟨p, e1, e2⟩
theorem keyS_inj {s t : Sx} (h : keyS s = keyS t) : s = t := by
  obtain ⟨a, m⟩ := s
  obtain ⟨b, n⟩ := t
  have h1 : [NestedKey.tup (a.map .num), keyM m] = [NestedKey.tup (b.map .num), keyM n] := NestedKey.tup.inj h
  injection h1 with h2 h3
  injection h3 with h4 _
  have e1 : a.map NestedKey.num = b.map .num := NestedKey.tup.inj h2
  have e2 : a = b := by
    have inj : ∀ x y : List Int, x.map NestedKey.num = y.map .num → x = y := by
      intro x
      induction x with
      | nil => intro y e; cases y with
        | nil => rfl
        | cons _ _ => cases e
      | cons i x ih => intro y e; cases y with
        | nil => cases e
        | cons j y =>
          rw [List.map_cons, List.map_cons] at e
          injection e with e1 e2
          rw [ih y e2, NestedKey.num.inj e1]
    exact inj a b e1
  have e3 : m = n := by
    cases m <;> cases n <;> first | rfl | (cases h4; rfl) | cases h4
  rw [e2, e3]
/-- who has put a line behind a step -/
def behM (m : Mk) (w st : Int) : Mk := if m = .no ∧ st = 0 then .one w else if m = .one w then m else .mix
def behS (s : Sx) (w : Int) (x : T3) : Sx := (s.1.set w.toNat x.2.2, if x.2.2 = 0 then .no else behM s.2 w x.1)
def spMaker : Sp := fun vs H Q _ => ∃ (m : Mk) (w st : Int), vs = [mkV m, .int w, .int st] ∧ Q (mkV (behM m w st)) H
def spState : Sp := fun vs H Q _ => ∃ (a t : Addr) (s : Sx) (w : Int) (x : T3), vs = [.ref a, .int w, .ref t] ∧ StA H a s ∧ S3 H t x ∧ 0 ≤ w ∧ w < s.1.length ∧ s.1.length ≤ 3 ∧ ∀ H' p, Same H H' → StA H' p (behS s w x) → Q (.ref p) H'
structure Sf (K : PySem.W.Frag) (mg : Str → Option Value) where
  Y : Wf K mg
  fM : Addr
  fS : Addr
  dM : FuncData
  dS : FuncData
  M : Fun K "maker_behind" "maker_behind" sMaker fM dM
  S : Fun K "state_behind" "state_behind" sState fS dS
  bM : Binds K dM ["maker", "writer", "start"] []
  bS : Binds K dS ["state", "writer", "step"] []
  mM : mg "maker_behind" = some (.ref fM)
  mS : mg "state_behind" = some (.ref fS)
  cM : ∃ t, mg "MIXED" = some (.str "mixed" t)
section
variable {P : Program} {w : World} {K : PySem.W.Frag} {mg : Str → Option Value} {base : Heap}
theorem scMaker : FnScope ["maker", "writer", "start"] ["maker", "writer", "start"] (defScope sMaker) := ⟨rfl, rfl, rfl, by decide +kernel, rfl, by decide +kernel, by decide +kernel⟩
theorem scState : FnScope ["state", "writer", "step", "places", "maker", "start", "piece", "goal", "further"] ["state", "writer", "step"] (defScope sState) := ⟨rfl, rfl, rfl, by decide +kernel, rfl, by decide +kernel, by decide +kernel⟩
theorem scal_mk (m : Mk) (w : Int) : scal (mkV m) (.int w) = true := by cases m <;> rfl
theorem ok_maker (S : Sf K mg) : FnOk P w K mg base CX0 1 S.fM S.dM ["maker", "writer", "start"] spMaker := by
  refine S.M.ok scMaker (fun vs H Q E h => ?_) (fun cdv A outer s H vs Q E hr h => ?_)
  · obtain ⟨m, w, st, rfl, _⟩ := h
    rfl
  · obtain ⟨m, wr, st, rfl, q⟩ := h
    obtain ⟨tm, eM⟩ := S.cM
    refine ⟨_, pss_cons (ps_if (pw_and (pt_cmpR op_isN (pv 0) pe_non (nomark _)) (pw_and1 (pt_cmpR op_eq (pv 2) pe_int (nomark _)))).pt (pss_one (ps_ret (pv 1))) pss_nil)
      (pss_one (ps_ret (pe_ifExp (pt_cmpR op_eq (pv 0) (pv 1) (nomark _)) (pv 0) (pe_glob (v := .str "mixed") (by rfl) eM ⟨_, rfl⟩)))), ?_⟩
    have fin : ∀ (z : mkV (behM m wr st) = if (decide (mkV m = V.int wr)) = true then mkV m else V.str "mixed"), (tRet (tIf (tTest (tOp rEq (tVar 0) (tVar 1))) (tVar 0) (tC (V.str "mixed")))) { nx := fun x H' => Q V.non H', rt := Q } (start ["maker", "writer", "start"] [mkV m, V.int wr, V.int st]) H := fun z => by
      refine ⟨_, rfl, _, rfl, scal_mk m wr, _, rfl, ?_⟩
      rw [z] at q
      by_cases c : (decide (mkV m = V.int wr)) = true
      · rw [if_pos c] at q
        rw [c]
        exact iteT ⟨_, rfl, q⟩
      · rw [if_neg c] at q
        rw [eq_false_of_ne_true c]
        exact iteF q
    refine ⟨_, rfl, rfl, _, rfl, ?_⟩
    by_cases c1 : m = .no
    · subst c1
      refine iteT' (by simp [mkV]) ?_
      refine ⟨_, rfl, rfl, _, rfl, ?_⟩
      by_cases c2 : st = 0
      · refine iteT' (by simp [c2]) ?_
        have e : mkV (behM .no wr st) = .int wr := by unfold behM; rw [if_pos ⟨rfl, c2⟩]; rfl
        rw [e] at q
        exact ⟨_, rfl, q⟩
      · refine iteF' (by simp [c2]) (fin ?_)
        unfold behM
        rw [if_neg (fun z => c2 z.2), if_neg (fun z => by cases z)]
        rfl
    · refine iteF' (by cases m <;> first | (exact absurd rfl c1) | simp [mkV]) (fin ?_)
      unfold behM
      rw [if_neg (fun z => c1 z.1)]
      cases m with
      | no => exact absurd rfl c1
      | one k =>
        by_cases c : k = wr
        · subst c
          rw [if_pos rfl]
          show V.int k = if (decide (V.int k = V.int k)) = true then V.int k else _
          rw [decide_eq_true rfl, if_pos rfl]
        · rw [if_neg (fun z => c (by injection z))]
          show V.str "mixed" = if (decide (V.int k = V.int wr)) = true then V.int k else _
          rw [decide_eq_false (fun z => c (by injection z)), if_neg (by simp)]
      | mix =>
        rw [if_neg (fun z => by cases z)]
        rfl
theorem ok_state (S : Sf K mg) : FnOk P w K mg base CX0 2 S.fS S.dS ["state", "writer", "step"] spState := by
  have GM : FnOk P w K mg base CX0 1 S.fM S.dM ["maker", "writer", "start"] spMaker := ok_maker S
  refine S.S.ok scState (fun vs H Q E h => ?_) (fun cdv A outer s H vs Q E hr h => ?_)
  · obtain ⟨a, t, s, w, x, rfl, _⟩ := h
    rfl
  · obtain ⟨a, t, st, wr, x, rfl, ea, et, w0, w1, w3, q⟩ := h
    refine ⟨_, pss_cons (ps_asg (pv 0) (pg_tup rfl (pgs_cons (pg_name (i := 3) scState.nd rfl (Or.inl rfl)) (pgs_cons (pg_name (i := 4) scState.nd rfl (Or.inl rfl)) pgs_nil))))
      (pss_cons (ps_asg (pv 2) (pg_tup rfl (pgs_cons (pg_name (i := 5) scState.nd rfl (Or.inl rfl)) (pgs_cons (pg_name (i := 6) scState.nd rfl (Or.inl rfl)) (pgs_cons (pg_name (i := 7) scState.nd rfl (Or.inl rfl)) pgs_nil)))))
      (pss_cons (ps_set (i := 8) scState.nd rfl (Or.inl rfl) (pe_op op_catZ (pe_op op_catZ (pe_slice sl_tupS (pv 3) po_none (po_some (pv 1))) (pe_tup (pa_cons (pv 7) pa_nil))) (pe_slice sl_tupS (pv 3) (po_some (pe_op op_add (pv 1) pe_int)) po_none)))
      (pss_one (ps_ret (pe_tup (pa_cons (pv 8) (pa_cons (pe_ifExp (pt_cmpR op_eq (pv 7) pe_int (nomark _)) pe_non (pe_call GM hr (by rfl) S.mM S.M.kp S.bM .nil pass0 (pa_cons (pv 4) (pa_cons (pv 1) (pa_cons (pv 5) pa_nil))))) pa_nil))))))), ?_⟩
    obtain ⟨p, e1, e2⟩ := ea
    obtain ⟨n, rfl⟩ := Int.eq_ofNat_of_zero_le w0
    have hn : n < (st.1.map V.int).length := by rw [List.length_map]; omega
    refine ⟨_, rfl, a, _, rfl, SqT.of e1, rfl, _, _, rfl, _, _, rfl, rfl, ?_⟩
    refine ⟨_, rfl, t, _, rfl, SqT.of et, rfl, _, _, rfl, _, _, rfl, _, _, rfl, rfl, ?_⟩
    refine ⟨_, rfl, _, rfl, _, rfl, p, _, rfl, e2, fun p1 H1 s1 h1 => ?_⟩
    refine ⟨_, rfl, (by show 1 ≤ sizeLine; decide), fun p2 hp2 => ?_⟩
    have s2 := same_upd (o := HO.tup [V.int x.2.2]) hp2
    have l1 := cutV_length (st.1.map V.int) none (some (n : Int))
    have l2 := cutV_length (st.1.map V.int) (some ((n : Int) + 1)) none
    rw [List.length_map] at l1 l2
    refine ⟨p1, p2, _, _, rfl, rfl, s2 _ _ h1, upd_same, by rw [sizeLine_eq]; show _ + 1 ≤ 16777216; omega, fun p3 H3 s3 h3 => ?_⟩
    have s13 := s1.trans (s2.trans s3)
    refine ⟨_, rfl, _, rfl, n, 1, rfl, rfl, _, rfl, p, _, rfl, s13 _ _ e2, fun p4 H4 s4 h4 => ?_⟩
    refine ⟨p3, p4, _, _, rfl, rfl, s4 _ _ h3, h4, by rw [sizeLine_eq, List.length_append]; show _ + 1 + _ ≤ 16777216; omega, fun p5 H5 s5 h5 => ?_⟩
    rw [set_cut hn (by rw [List.length_map]; omega)] at h5
    have s15 := s13.trans (s4.trans s5)
    have fin : ∀ m, (behS st (n : Int) x).2 = m → ∀ p, H5 p = none → Q (.ref p) (upd H5 p (.tup [.ref p5, mkV m])) := fun m em p6 hp6 => by
      have s6 := same_upd (o := HO.tup [V.ref p5, mkV m]) hp6
      refine q _ p6 (s15.trans s6) ⟨p5, by rw [em]; exact upd_same, ?_⟩
      rw [s6 _ _ h5]
      show some (HO.tup ((st.1.map V.int).set n (V.int x.2.2))) = some (.tup ((st.1.set (n : Int).toNat x.2.2).map V.int))
      rw [Int.toNat_natCast, List.map_set]
    have es : (behS st (n : Int) x).2 = if x.2.2 = 0 then .no else behM st.2 (n : Int) x.1 := rfl
    refine ⟨_, rfl, _, rfl, rfl, _, rfl, ?_⟩
    by_cases c : x.2.2 = 0
    · rw [if_pos c] at es
      refine iteT' (by simp [c]) ?_
      exact ⟨(by show 2 ≤ sizeLine; decide), fin _ es⟩
    · rw [if_neg c] at es
      refine iteF' (by simp [c]) ?_
      exact ⟨_, rfl, _, rfl, _, rfl, st.2, n, x.1, rfl, (by show 2 ≤ sizeLine; decide), fin _ es⟩
end
end K35

set_option Elab.async false
set_option linter.all false
set_option maxRecDepth 100000
set_option maxHeartbeats 8000000
/-! fits_at. -/
namespace K35
open PySem L2 L2.EV
abbrev sFits : Stmt := top 26
abbrev E2 := Int × Int
def stn (fr : List T3) (k : Nat) : T3 := fr.getD k (0, "", 0)
theorem stn_at {fr : List T3} {k : Nat} {x : T3} (h : fr[k]? = some x) : stn fr k = x := by
  unfold stn
  rw [List.getD_eq_getElem?_getD, h]
  rfl
def stt (fr : List T3) (n : Int) : T3 := stn fr n.toNat
theorem stt_at {H : Hp} {f : Addr} {fr : List T3} {n : Int} (fa : FrA H f fr) (n0 : 0 ≤ n) (n1 : n < fr.length) : ∃ (ts : List Addr) (t : Addr), H f = some (.tup (ts.map V.ref)) ∧ atI (ts.map V.ref) n = some (.ref t) ∧ S3 H t (stt fr n) ∧ stt fr n ∈ fr := by
  obtain ⟨ts, hf, hl, ht⟩ := fa
  obtain ⟨k, rfl⟩ := Int.eq_ofNat_of_zero_le n0
  have k1 : k < fr.length := by omega
  have k2 : k < ts.length := by omega
  have e : stt fr (k : Int) = fr[k] := stn_at (List.getElem?_eq_getElem k1)
  refine ⟨ts, ts[k], hf, atI_nat (by rw [List.getElem?_map, List.getElem?_eq_getElem k2]; rfl), ?_, ?_⟩
  · have z := ht k _ _ (List.getElem?_eq_getElem k2) (List.getElem?_eq_getElem k1)
    rw [e]
    exact z
  · rw [e]
    exact List.getElem_mem k1
theorem take_one {α : Type} {es : List α} {i : Nat} {e : α} (h : es[i]? = some e) : es.take (i + 1) = es.take i ++ [e] := by
  rw [List.take_succ, h]
  rfl
def mrk (n : Int) : Nat := (sl ("ABCDEFGH" : Str)).getD n.toNat 0
theorem mrk_at {n : Int} (h0 : 0 ≤ n) (h1 : n < 8) : atI ("ABCDEFGH" : Str).cps.toList n = some (mrk n) ∧ (("@" : Str) == ⟨#[mrk n]⟩) = false := by
  obtain ⟨k, rfl⟩ := Int.eq_ofNat_of_zero_le h0
  have hk : k < 8 := by omega
  have e : ∀ k : Nat, k < 8 → atI ("ABCDEFGH" : Str).cps.toList (k : Int) = some (mrk (k : Int)) ∧ (("@" : Str) == ⟨#[mrk (k : Int)]⟩) = false := by
    intro k hk
    match k, hk with
    | 0, _ => exact ⟨by decide +kernel, by decide +kernel⟩
    | 1, _ => exact ⟨by decide +kernel, by decide +kernel⟩
    | 2, _ => exact ⟨by decide +kernel, by decide +kernel⟩
    | 3, _ => exact ⟨by decide +kernel, by decide +kernel⟩
    | 4, _ => exact ⟨by decide +kernel, by decide +kernel⟩
    | 5, _ => exact ⟨by decide +kernel, by decide +kernel⟩
    | 6, _ => exact ⟨by decide +kernel, by decide +kernel⟩
    | 7, _ => exact ⟨by decide +kernel, by decide +kernel⟩
  exact e k hk
/-- what a writer puts for a piece -/
def putP (p : Str) (n : Int) : Str := Txt.replace p "@" ⟨#[mrk n]⟩
theorem putP_len {p : Str} {n : Int} (h : p.length ≤ 8) : (putP p n).length ≤ 17 := by
  have z := TK.replace_len p "@" ⟨#[mrk n]⟩
  have z1 : (⟨#[mrk n]⟩ : Str).length = 1 := rfl
  unfold putP
  rw [z1] at z
  omega
/-- whether the text has this here -/
def fitB (x : Str) (i : Nat) (p : Str) (n : Int) : Bool := decide (V.str (cutS x (some (i : Int)) (some ((i : Int) + ((putP p n).length : Nat)))) = V.str (putP p n))
def fitsW (fr : List T3) (x : Str) (i : Nat) (n : Int) (k : Nat) : List E2 := ((List.range k).filter fun j => fitB x i (stn fr j).2.1 n).map fun j : Nat => (n, (j : Int))
def fitsF (fr : List T3) (x : Str) (i : Nat) : Nat → List E2
  | 0 => []
  | n + 1 => fitsF fr x i n ++ fitsW fr x i (n : Int) fr.length
theorem fitsW_succ {fr : List T3} {x : Str} {i : Nat} {n : Int} {k : Nat} {y : T3} (h : fr[k]? = some y) : fitsW fr x i n (k + 1) = fitsW fr x i n k ++ (if fitB x i y.2.1 n = true then [(n, (k : Int))] else []) := by
  unfold fitsW
  rw [List.range_succ, List.filter_append, List.map_append, List.filter_cons, stn_at h]
  split <;> rfl
theorem fitsW_len (fr : List T3) (x : Str) (i : Nat) (n : Int) (k : Nat) : (fitsW fr x i n k).length ≤ k := by
  unfold fitsW
  rw [List.length_map]
  have := List.length_filter_le (fun j => fitB x i (stn fr j).2.1 n) (List.range k)
  rw [List.length_range] at this
  exact this
theorem fitsF_len (fr : List T3) (x : Str) (i : Nat) : ∀ n, (fitsF fr x i n).length ≤ n * fr.length
  | 0 => Nat.zero_le _
  | n + 1 => by
    have a := fitsF_len fr x i n
    have b := fitsW_len fr x i (n : Int) fr.length
    show (fitsF fr x i n ++ fitsW fr x i (n : Int) fr.length).length ≤ _
    rw [List.length_append, Nat.succ_mul]
    omega
abbrev A2 (H : Hp) (t : Addr) (e : E2) : Prop := H t = some (.tup [.int e.1, .int e.2])
def At2 (H : Hp) (ts : List Addr) (es : List E2) : Prop := ts.length = es.length ∧ ∀ (i : Nat) t e, ts[i]? = some t → es[i]? = some e → A2 H t e
/-- a list of entries -/
def EsA (H : Hp) (l : Addr) (es : List E2) : Prop := ∃ ts : List Addr, H l = some (.lst (ts.map V.ref)) ∧ At2 H ts es
theorem At2.keep {H H' : Hp} {ts : List Addr} {es : List E2} (h : At2 H ts es) (k : KeepT H H') : At2 H' ts es := ⟨h.1, fun i t e h1 h2 => k _ _ (h.2 i t e h1 h2)⟩
theorem At2.snoc {H : Hp} {ts : List Addr} {es : List E2} {t : Addr} {e : E2} (h : At2 H ts es) (ht : A2 H t e) : At2 H (ts ++ [t]) (es ++ [e]) := by
  refine ⟨by rw [List.length_append, List.length_append, h.1]; rfl, fun i u v h1 h2 => ?_⟩
  by_cases c : i < ts.length
  · rw [List.getElem?_append_left c] at h1
    rw [List.getElem?_append_left (by rw [← h.1]; exact c)] at h2
    exact h.2 i u v h1 h2
  · rw [List.getElem?_append_right (by omega)] at h1
    rw [List.getElem?_append_right (by rw [← h.1]; omega)] at h2
    have i0 : i - ts.length = 0 := by
      cases z : i - ts.length with
      | zero => rfl
      | succ n => rw [z] at h1; simp at h1
    rw [i0] at h1
    rw [← h.1, i0] at h2
    cases h1
    cases h2
    exact ht
/-- the list at l, new since H0 -/
structure Fl (H0 H : Hp) (l : Addr) (es : List E2) : Prop where
  s : Same H0 H
  n : H0 l = none
  e : EsA H l es
theorem Fl.same {H0 H H' : Hp} {l : Addr} {es : List E2} (h : Fl H0 H l es) (s : Same H H') : Fl H0 H' l es := by
  obtain ⟨ts, e, a⟩ := h.e
  exact ⟨h.s.trans s, h.n, ts, s _ _ e, a.keep (Same.keepT s)⟩
theorem Fl.push {H0 H : Hp} {l t : Addr} {es : List E2} {ts : List Addr} {a b : Int} (h : Fl H0 H l es) (e : H l = some (.lst (ts.map V.ref))) (at_ : At2 H ts es) (ht : H t = none) :
    Fl H0 (upd (upd H t (.tup [.int a, .int b])) l (.lst (ts.map V.ref ++ [.ref t]))) l (es ++ [(a, b)]) := by
  have tl : t ≠ l := fun z => by rw [z, e] at ht; cases ht
  refine ⟨fun c o z => ?_, h.n, ts ++ [t], by rw [List.map_append]; exact upd_same, ?_⟩
  · rw [upd_ne (ne_of_none z h.n), upd_ne (ne_of_none (h.s _ _ z) ht)]
    exact h.s _ _ z
  · refine At2.snoc (at_.keep fun c xs z => ?_) ?_
    · rw [upd_ne (ne_of z e (fun q => by cases q)), upd_ne (ne_of_none z ht)]
      exact z
    · show upd _ l _ t = _
      rw [upd_ne tl, upd_same]
def spFits : Sp := fun vs H Q _ => ∃ (f : Addr) (fr : List T3) (last : Nat) (x : Str) (i nw : Nat), vs = [.ref f, .str x, .int (i : Int), .int (nw : Int)] ∧ FrA H f fr ∧ Frm fr last ∧ x.length ≤ 60 ∧ i ≤ 60 ∧ nw ≤ 3 ∧ ∀ H' p, Fl H H' p (fitsF fr x i nw) → Q (.ref p) H'
structure Ff (K : PySem.W.Frag) (mg : Str → Option Value) where
  S : Sf K mg
  f : Addr
  d : FuncData
  F : Fun K "fits_at" "fits_at" sFits f d
  b : Binds K d ["framing", "text", "at", "writers"] []
  m : mg "fits_at" = some (.ref f)
  ra : mg "range" = none
  cK : ∃ t, mg "MARKS" = some (.str "ABCDEFGH" t)
section
variable {P : Program} {w : World} {K : PySem.W.Frag} {mg : Str → Option Value} {base : Heap}
abbrev NF : List Str := ["framing", "text", "at", "writers", "fits", "writer", "number", "start", "piece", "goal", "put"]
theorem scFits : FnScope NF ["framing", "text", "at", "writers"] (defScope sFits) := ⟨rfl, rfl, rfl, by decide +kernel, rfl, by decide +kernel, by decide +kernel⟩
theorem ok_fits (G : Ff K mg) : FnOk P w K mg base CX0 1 G.f G.d ["framing", "text", "at", "writers"] spFits := by
  refine G.F.okT scFits (by decide +kernel) (by decide) (fun vs H Q E h => ?_) (fun cdv A outer s H vs Q E hr h => ?_)
  · obtain ⟨f, fr, last, x, i, nw, rfl, _⟩ := h
    rfl
  · obtain ⟨f, fr, last, x, at0, nw, rfl, fa, fm, x60, i60, n3, q⟩ := h
    obtain ⟨tk, eK⟩ := G.cK
    refine ⟨_, psst_cons (PST.of (ps_set (i := 4) scFits.nd rfl (Or.inl rfl) (pe_lst pa_nil)))
      (psst_cons (pst_forT PassesOwn.never rfl (pi_range1 (by rfl) G.ra (pa_cons (pv 3) pa_nil)) (pg_name (i := 5) scFits.nd rfl (Or.inl rfl))
        (CwR.psst_one (pst_forT PassesOwn.never rfl (pi_enumT (by rfl) G.S.Y.Z.en (pa_cons (pv 0) pa_nil)) (pg_tup rfl (pgs_cons (pg_name (i := 6) scFits.nd rfl (Or.inl rfl)) (pgs_cons (pg_tup rfl (pgs_cons (pg_name (i := 7) scFits.nd rfl (Or.inl rfl)) (pgs_cons (pg_name (i := 8) scFits.nd rfl (Or.inl rfl)) (pgs_cons (pg_name (i := 9) scFits.nd rfl (Or.inl rfl)) pgs_nil)))) pgs_nil)))
          (psst_cons (pst_set (i := 10) scFits.nd rfl (Or.inl rfl) (pet_replN (pv 8) (pe_glob (v := .str "ABCDEFGH") (by rfl) eK ⟨_, rfl⟩) (pv 5) (fun _ _ => rfl)))
            (PSsT.of (pss_one (ps_if (pt_cmpR op_eq (pe_slice sl_str (pv 1) (po_some (pv 2)) (po_some (pe_op op_add (pv 2) (pe_callB call_len_str (by rfl) G.S.Y.Z.T.len PySem.boot_len (pa_cons (pv 10) pa_nil))))) (pv 10) (nomark _))
              (pss_one (ps_expr (pe_bm PySem.F.plainAttrs_list PySem.F.slot_list_append PySem.F.type_list_append mt_append (pv 4) (pa_cons (pe_tup (pa_cons (pv 5) (pa_cons (pv 6) pa_nil))) pa_nil)))) pss_nil)))))))
      (PSsT.of (pss_one (ps_ret (pv 4))))), ?_⟩
    refine ⟨by decide, fun L hL => ?_⟩
    obtain ⟨ts, hf, tl, tt⟩ := id fa
    have F0 : Fl H (upd H L (.lst [])) L [] := ⟨same_upd hL, hL, [], upd_same, rfl, fun i t e z => by cases z⟩
    have p8 : ∀ (k : Nat) (y : T3), fr[k]? = some y → y.2.1.length ≤ 8 := fun k y hy => (pc_len (fm.stp _ (List.mem_of_getElem? hy)).2.2.1).2
    refine ⟨_, rfl, nw, rfl, by omega, by omega, for_it walk_range (fun i σ H' => ∃ (v5 v6 v7 v8 v9 v10 : Option V), σ = [some (.ref f), some (.str x), some (.int (at0 : Int)), some (.int (nw : Int)), some (.ref L), v5, v6, v7, v8, v9, v10] ∧ Fl H H' L (fitsF fr x at0 i))
      ⟨none, none, none, none, none, none, rfl, F0⟩ (fun _ _ _ _ _ => trivial) ?_ ?_⟩
    · rintro i y σ H2 H3 hi ⟨v5, v6, v7, v8, v9, v10, rfl, F2⟩ ⟨rfl, rfl⟩
      have hi3 : i < 3 := by omega
      have ev : (fun i : Nat => V.int (0 + (i : Int))) i = V.int (i : Int) := by
        show V.int (0 + (i : Int)) = _
        rw [Int.zero_add]
      rw [ev]
      obtain ⟨m1, m2⟩ := mrk_at (n := (i : Int)) (by omega) (by omega)
      refine ⟨_, rfl, f, _, rfl, SqT.of (F2.s _ _ hf), for_it (walk_enumT (xs := ts.map V.ref)) (fun k σ H' => ∃ (v6 v7 v8 v9 v10 : Option V), σ = [some (.ref f), some (.str x), some (.int (at0 : Int)), some (.int (nw : Int)), some (.ref L), some (.int (i : Int)), v6, v7, v8, v9, v10] ∧ Fl H H' L (fitsF fr x at0 i ++ fitsW fr x at0 (i : Int) k))
        ⟨v6, v7, v8, v9, v10, rfl, by show Fl H _ L (fitsF fr x at0 i ++ []); rw [List.append_nil]; exact F2⟩ (fun k σ H' _ ⟨_, _, _, _, _, _, z⟩ => SqT.of (z.s _ _ hf)) ?_ ?_⟩
      · rintro k y σ H4 H5 hk ⟨v6, v7, v8, v9, v10, rfl, F4⟩ ⟨T, xi, xo, rfl, nT, rfl, h1, h2⟩
        cases h1
        have h2 : (ts.map V.ref)[k]? = some xo := h2
        obtain ⟨tp, ht, rfl⟩ : ∃ tp, ts[k]? = some tp ∧ xo = .ref tp := by
          rw [List.getElem?_map] at h2
          cases e : ts[k]? with
          | none => rw [e] at h2; cases h2
          | some tp => rw [e] at h2; exact ⟨tp, rfl, (Option.some.inj h2).symm⟩
        have kl : k < fr.length := by rw [← tl]; exact (List.getElem?_eq_some_iff.mp ht).1
        obtain ⟨st, hst⟩ : ∃ st, fr[k]? = some st := ⟨fr[k], List.getElem?_eq_getElem kl⟩
        have h3 := tt k tp st ht hst
        have uT := same_upd (o := HO.tup [V.int (k : Int), V.ref tp]) nT
        have F5 := F4.same uT
        have h3' := F5.s _ _ h3
        have pl := p8 k st hst
        have pl2 := putP_len (n := (i : Int)) pl
        refine ⟨T, _, rfl, SqT.of upd_same, rfl, _, _, rfl, _, _, rfl, tp, _, rfl, SqT.of h3', rfl, _, _, rfl, _, _, rfl, _, _, rfl, rfl, rfl, ?_⟩
        refine ⟨_, rfl, st.2.1, rfl, _, rfl, _, mrk (i : Int), (i : Int), rfl, rfl, (by decide +kernel), m1, m2, by omega, ?_⟩
        refine ⟨_, rfl, _, rfl, _, rfl, _, rfl, _, rfl, putP st.2.1 (i : Int), rfl, by rw [sizeLine_eq]; omega, _, _, rfl, rfl, _, rfl, x, rfl, by rw [sizeLine_eq]; omega, _, rfl, rfl, _, rfl, ?_⟩
        rw [fitsW_succ hst]
        obtain ⟨t5, e5, a5⟩ := F5.e
        have b5 : t5.length ≤ 100 := by
          rw [a5.1, List.length_append]
          have z1 := fitsF_len fr x at0 i
          have z2 := fitsW_len fr x at0 (i : Int) k
          have l1 := fm.l1
          have z3 : i * fr.length ≤ 2 * 16 := Nat.mul_le_mul (by omega) l1
          omega
        have eb : decide (V.str (cutS x (some (at0 : Int)) (some ((at0 : Int) + ((putP st.2.1 (i : Int)).length : Nat)))) = V.str (putP st.2.1 (i : Int))) = fitB x at0 st.2.1 (i : Int) := rfl
        by_cases c : fitB x at0 st.2.1 (i : Int) = true
        · rw [if_pos c]
          refine iteT' (eb.trans c) ?_
          refine ⟨_, rfl, .inl ⟨rfl, _, SqL.of e5⟩, _, rfl, _, rfl, (by show 2 ≤ sizeLine; decide), fun tp2 htp2 => ⟨L, t5.map V.ref, _, rfl, rfl, same_upd htp2 _ _ e5, by rw [List.length_map, sizeLine_eq]; omega, ?_⟩⟩
          have z := F5.push (a := (i : Int)) (b := (k : Int)) e5 a5 htp2
          rw [List.append_assoc] at z
          exact ⟨_, _, _, _, _, rfl, z⟩
        · rw [if_neg c, List.append_nil]
          refine iteF' (eb.trans (eq_false_of_ne_true c)) ?_
          exact ⟨_, _, _, _, _, rfl, F5⟩
      · rintro σ H4 ⟨v6, v7, v8, v9, v10, rfl, F4⟩
        rw [List.length_map, tl] at F4
        exact ⟨_, _, _, _, _, _, rfl, F4⟩
    · rintro σ H2 ⟨v5, v6, v7, v8, v9, v10, rfl, F2⟩
      rw [Int.toNat_natCast] at F2
      exact ⟨_, rfl, q H2 L F2⟩
end
end K35

set_option Elab.async false
set_option linter.all false
set_option maxRecDepth 100000
set_option maxHeartbeats 8000000
/-! The traces of a text, as lists. -/
namespace K35
open PySem L2 L2.EV
theorem replL_one {a m : Nat} : ∀ l : List Nat, StrLaws.replL [a] [m] l = l.map fun c => if c = a then m else c
  | [] => StrLaws.replL_nil
  | c :: r => by
    by_cases h : c = a
    · subst h
      rw [StrLaws.replL_hit (by simp) (by simp)]
      show [m] ++ StrLaws.replL [c] [m] ((c :: r).drop 1) = _
      rw [List.drop_succ_cons, List.drop_zero, replL_one r, List.map_cons, if_pos rfl]
      rfl
    · rw [StrLaws.replL_miss (by simpa using h), replL_one r, List.map_cons, if_neg h]
theorem putP_sl (p : Str) (n : Int) : sl (putP p n) = (sl p).map fun c => if c = 64 then mrk n else c := by
  have e : sl (putP p n) = StrLaws.replL [64] [mrk n] (sl p) := StrLaws.replace_list (by decide)
  rw [e, replL_one]
theorem putP_length (p : Str) (n : Int) : (putP p n).length = p.length := by
  rw [len_sl, putP_sl, List.length_map, ← len_sl]
theorem cutS_len {x : Str} {i k : Nat} : (cutS x (some (i : Int)) (some ((i : Int) + (k : Nat)))).length = min (i + k) x.length - min i x.length := by
  have e : ((i : Int) + (k : Nat)) = ((i + k : Nat) : Int) := by omega
  show ((((x.cps.toList.drop _).take _).toArray).size) = _
  rw [List.size_toArray, List.length_take, List.length_drop, e, HT.sIx_nat, HT.sIx_nat]
  have l : x.cps.toList.length = x.length := by simp [Str.length]
  rw [l]
  omega
/-- what fits ends within the text -/
theorem fit_end {x : Str} {i : Nat} {p : Str} {n : Int} (h : fitB x i p n = true) (h1 : 1 ≤ p.length) : i + p.length ≤ x.length := by
  have e : V.str (cutS x (some (i : Int)) (some ((i : Int) + ((putP p n).length : Nat)))) = V.str (putP p n) := of_decide_eq_true h
  have e2 : cutS x (some (i : Int)) (some ((i : Int) + ((putP p n).length : Nat))) = putP p n := by injection e
  have e3 := congrArg Str.length e2
  rw [cutS_len, putP_length] at e3
  omega
abbrev Trip := Nat × Sx × E2
abbrev Layer := List (Sx × List Trip)
def putL : Layer → Sx → Trip → Layer
  | [], k, t => [(k, [t])]
  | e :: L, k, t => if e.1 = k then (e.1, e.2 ++ [t]) :: L else e :: putL L k t
theorem putL_cases (k : Sx) (t : Trip) : ∀ L : Layer, (∃ (i : Nat) (e : Sx × List Trip), L[i]? = some e ∧ e.1 = k ∧ putL L k t = L.set i (k, e.2 ++ [t])) ∨ (¬ k ∈ L.map (·.1) ∧ putL L k t = L ++ [(k, [t])])
  | [] => .inr ⟨by simp, rfl⟩
  | e :: L => by
    by_cases h : e.1 = k
    · refine .inl ⟨0, e, rfl, h, ?_⟩
      show (if e.1 = k then (e.1, e.2 ++ [t]) :: L else e :: putL L k t) = (k, e.2 ++ [t]) :: L
      rw [if_pos h, h]
    · have hp : putL (e :: L) k t = e :: putL L k t := if_neg h
      rcases putL_cases k t L with ⟨i, e2, h1, h2, h3⟩ | ⟨h1, h2⟩
      · refine .inl ⟨i + 1, e2, by simpa using h1, h2, ?_⟩
        rw [hp, h3]
        rfl
      · refine .inr ⟨fun z => ?_, by rw [hp, h2]; rfl⟩
        rcases List.mem_cons.mp (show k ∈ e.1 :: L.map (·.1) from z) with z | z
        · exact h z.symm
        · exact h1 z
def addT (Ls : List Layer) (j : Nat) (k : Sx) (t : Trip) : List Layer := Ls.set j (putL (Ls.getD j []) k t)
/-- where a writer stands -/
def stdS (s : Sx) (n : Int) : Int := s.1.getD n.toNat 0
def perE (fr : List T3) (i : Nat) (s : Sx) (Ls : List Layer) (e : E2) : List Layer :=
  if (stt fr e.2).1 = stdS s e.1 then addT Ls (i + (stt fr e.2).2.1.length) (behS s e.1 (stt fr e.2)) (i, s, e) else Ls
def perS (fr : List T3) (x : Str) (nw i : Nat) (Ls : List Layer) (s : Sx) : List Layer := (fitsF fr x i nw).foldl (perE fr i s) Ls
def perI (fr : List T3) (x : Str) (nw : Nat) (Ls : List Layer) (i : Nat) : List Layer := ((Ls.getD i []).map (·.1)).foldl (perS fr x nw i) Ls
def init0 (n nw : Nat) : List Layer := (List.replicate (n + 1) []).set 0 [((List.replicate nw 0, .no), [])]
def trF (fr : List T3) (x : Str) (nw : Nat) (i : Nat) : List Layer := (List.range i).foldl (perI fr x nw) (init0 x.length nw)
/-- a state of so many writers -/
structure StOk (nw last : Nat) (s : Sx) : Prop where
  l : s.1.length = nw
  b : ∀ q ∈ s.1, 0 ≤ q ∧ q ≤ last
  m : s.2 = .no ∨ s.2 = .mix ∨ ∃ w : Nat, w < nw ∧ s.2 = .one (w : Int)
structure EOk (fr : List T3) (x : Str) (nw i : Nat) (e : E2) : Prop where
  a0 : 0 ≤ e.1
  a1 : e.1 < nw
  b0 : 0 ≤ e.2
  b1 : e.2 < fr.length
  f : fitB x i (stt fr e.2).2.1 e.1 = true
theorem fitsW_ok {fr : List T3} {x : Str} {i nw : Nat} {n : Nat} (hn : n < nw) {e : E2} (h : e ∈ fitsW fr x i (n : Int) fr.length) : EOk fr x nw i e := by
  unfold fitsW at h
  obtain ⟨j, hj, rfl⟩ := List.mem_map.mp h
  obtain ⟨h1, h2⟩ := List.mem_filter.mp hj
  have h3 := List.mem_range.mp h1
  exact ⟨Int.natCast_nonneg _, Int.ofNat_lt.mpr hn, Int.natCast_nonneg _, Int.ofNat_lt.mpr h3, h2⟩
theorem fitsF_ok {fr : List T3} {x : Str} {i nw : Nat} : ∀ {k : Nat}, k ≤ nw → ∀ e ∈ fitsF fr x i k, EOk fr x nw i e
  | 0, _, e, h => by cases h
  | k + 1, hk, e, h => by
    rcases List.mem_append.mp (show e ∈ fitsF fr x i k ++ fitsW fr x i (k : Int) fr.length from h) with h | h
    · exact fitsF_ok (by omega) e h
    · exact fitsW_ok (by omega) h
/-- what a triple in a layer is -/
structure TOk (fr : List T3) (x : Str) (nw last : Nat) (Ls : List Layer) (j : Nat) (k : Sx) (t : Trip) : Prop where
  e : EOk fr x nw t.1 t.2.2
  s : ∃ L, Ls[t.1]? = some L ∧ t.2.1 ∈ L.map (·.1)
  st : (stt fr t.2.2.2).1 = stdS t.2.1 t.2.2.1
  b : k = behS t.2.1 t.2.2.1 (stt fr t.2.2.2)
  j : j = t.1 + (stt fr t.2.2.2).2.1.length
structure Wl (fr : List T3) (x : Str) (nw last : Nat) (Ls : List Layer) : Prop where
  len : Ls.length = x.length + 1
  so : ∀ (j : Nat) L, Ls[j]? = some L → ∀ e ∈ L, StOk nw last e.1
  to : ∀ (j : Nat) L, Ls[j]? = some L → ∀ e ∈ L, ∀ t ∈ e.2, TOk fr x nw last Ls j e.1 t
  nd : ∀ (j : Nat) L, Ls[j]? = some L → (L.map (·.1)).Nodup
  ne : ∀ (j : Nat) L, Ls[j]? = some L → 1 ≤ j → ∀ e ∈ L, e.2 ≠ []
/-- how many triples there are -/
def totL (L : Layer) : Nat := (L.map fun e => e.2.length).sum
def tot (Ls : List Layer) : Nat := (Ls.map totL).sum
theorem totL_put (k : Sx) (t : Trip) : ∀ L : Layer, totL (putL L k t) = totL L + 1
  | [] => rfl
  | e :: L => by
    by_cases h : e.1 = k
    · have hp : putL (e :: L) k t = (e.1, e.2 ++ [t]) :: L := if_pos h
      rw [hp]
      simp only [totL, List.map_cons, List.sum_cons, List.length_append, List.length_cons, List.length_nil]
      omega
    · have hp : putL (e :: L) k t = e :: putL L k t := if_neg h
      have ih := totL_put k t L
      rw [hp]
      unfold totL at ih ⊢
      rw [List.map_cons, List.sum_cons, ih, List.map_cons, List.sum_cons]
      omega
theorem tot_set : ∀ {Ls : List Layer} {j : Nat} {L L2 : Layer}, Ls[j]? = some L → totL L2 = totL L + 1 → tot (Ls.set j L2) = tot Ls + 1
  | [], _, _, _, h, _ => by simp at h
  | L0 :: Ls, 0, L, L2, h, e => by
    have h : L0 = L := by simpa using h
    subst h
    show ((L2 :: Ls).map totL).sum = ((L0 :: Ls).map totL).sum + 1
    rw [List.map_cons, List.map_cons, List.sum_cons, List.sum_cons, e]
    omega
  | L0 :: Ls, j + 1, L, L2, h, e => by
    have ih := tot_set (Ls := Ls) (j := j) (by simpa using h) e
    show ((L0 :: Ls.set j L2).map totL).sum = ((L0 :: Ls).map totL).sum + 1
    unfold tot at ih
    rw [List.map_cons, List.map_cons, List.sum_cons, List.sum_cons, ih]
    omega
theorem len_totL : ∀ {L : Layer} {e : Sx × List Trip}, e ∈ L → e.2.length ≤ totL L
  | [], _, h => by cases h
  | a :: L, e, h => by
    unfold totL
    rw [List.map_cons, List.sum_cons]
    rcases List.mem_cons.mp h with rfl | h
    · omega
    · have := len_totL h
      unfold totL at this
      omega
theorem totL_tot : ∀ {Ls : List Layer} {L : Layer}, L ∈ Ls → totL L ≤ tot Ls
  | [], _, h => by cases h
  | a :: Ls, L, h => by
    unfold tot
    rw [List.map_cons, List.sum_cons]
    rcases List.mem_cons.mp h with rfl | h
    · omega
    · have := totL_tot h
      unfold tot at this
      omega
theorem getD_at {Ls : List Layer} {j : Nat} {L : Layer} (h : Ls[j]? = some L) : Ls.getD j [] = L := by
  rw [List.getD_eq_getElem?_getD, h]
  rfl
theorem addT_at {Ls : List Layer} {j : Nat} {L : Layer} (h : Ls[j]? = some L) (k : Sx) (t : Trip) : addT Ls j k t = Ls.set j (putL L k t) := by
  unfold addT
  rw [getD_at h]
theorem set_at {α : Type} {l : List α} {j i : Nat} {a b : α} (h : (l.set j a)[i]? = some b) : (i = j ∧ b = a) ∨ (i ≠ j ∧ l[i]? = some b) := by
  by_cases e : j = i
  · subst e
    have hl : j < l.length := by
      have := (List.getElem?_eq_some_iff.mp h).1
      simpa using this
    rw [List.getElem?_set_self hl] at h
    exact .inl ⟨rfl, (Option.some.inj h).symm⟩
  · rw [List.getElem?_set_ne e] at h
    exact .inr ⟨fun z => e z.symm, h⟩
theorem keys_put {L : Layer} {k : Sx} {t : Trip} {s : Sx} (h : s ∈ L.map (·.1)) : s ∈ (putL L k t).map (·.1) := by
  rcases putL_cases k t L with ⟨i, e, h1, h2, h3⟩ | ⟨_, h3⟩
  · rw [h3, List.map_set]
    have hi : (L.map (·.1))[i]? = some k := by rw [List.getElem?_map, h1, ← h2]; rfl
    have : (L.map (·.1)).set i k = L.map (·.1) := by
      apply List.ext_getElem?
      intro m
      by_cases c : i = m
      · subst c
        rw [List.getElem?_set_self (List.getElem?_eq_some_iff.mp hi).1, hi]
      · rw [List.getElem?_set_ne c]
    show s ∈ (L.map (·.1)).set i k
    rw [this]
    exact h
  · rw [h3, List.map_append]
    exact List.mem_append_left _ h
theorem Wl.keyed {fr : List T3} {x : Str} {nw last : Nat} {Ls : List Layer} {j : Nat} {L2 : Layer} {k : Sx} {t : Trip} (hL : Ls[j]? = some L2) {i : Nat} {s : Sx} (h : ∃ L, Ls[i]? = some L ∧ s ∈ L.map (·.1)) : ∃ L, (Ls.set j (putL L2 k t))[i]? = some L ∧ s ∈ L.map (·.1) := by
  obtain ⟨L, e, m⟩ := h
  by_cases c : j = i
  · subst c
    rw [hL] at e
    cases e
    exact ⟨_, by rw [List.getElem?_set_self (List.getElem?_eq_some_iff.mp hL).1], keys_put m⟩
  · exact ⟨L, by rw [List.getElem?_set_ne c]; exact e, m⟩
theorem TOk.set {fr : List T3} {x : Str} {nw last : Nat} {Ls : List Layer} {j i : Nat} {L2 : Layer} {k s : Sx} {t u : Trip} (hL : Ls[j]? = some L2) (h : TOk fr x nw last Ls i s u) : TOk fr x nw last (Ls.set j (putL L2 k t)) i s u :=
  ⟨h.e, Wl.keyed (fr := fr) (x := x) (nw := nw) (last := last) hL h.s, h.st, h.b, h.j⟩
/-- one triple more -/
theorem Wl.add {fr : List T3} {x : Str} {nw last : Nat} {Ls : List Layer} {j : Nat} {L : Layer} {k : Sx} {t : Trip} (W : Wl fr x nw last Ls) (hL : Ls[j]? = some L) (sk : StOk nw last k) (ht : TOk fr x nw last Ls j k t) : Wl fr x nw last (Ls.set j (putL L k t)) := by
  have mem : ∀ e ∈ putL L k t, (e ∈ L) ∨ (e.1 = k ∧ (e.2 = [t] ∨ ∃ e0 ∈ L, e0.1 = k ∧ e.2 = e0.2 ++ [t])) := by
    intro e he
    rcases putL_cases k t L with ⟨i, e0, h1, h2, h3⟩ | ⟨_, h3⟩
    · rw [h3] at he
      rcases List.mem_or_eq_of_mem_set he with h | h
      · exact .inl h
      · rw [h]
        exact .inr ⟨rfl, .inr ⟨e0, List.mem_of_getElem? h1, h2, rfl⟩⟩
    · rw [h3] at he
      rcases List.mem_append.mp he with h | h
      · exact .inl h
      · rw [List.mem_singleton.mp h]
        exact .inr ⟨rfl, .inl rfl⟩
  refine ⟨by rw [List.length_set]; exact W.len, fun i L2 h e he => ?_, fun i L2 h e he u hu => ?_, fun i L2 h => ?_, fun i L2 h h1 e he => ?_⟩
  · rcases set_at h with ⟨rfl, rfl⟩ | ⟨_, h⟩
    · rcases mem e he with z | ⟨z, _⟩
      · exact W.so _ _ hL e z
      · rw [z]; exact sk
    · exact W.so _ _ h e he
  · rcases set_at h with ⟨rfl, rfl⟩ | ⟨_, h⟩
    · rcases mem e he with z | ⟨z, z2⟩
      · exact (W.to _ _ hL e z u hu).set hL
      · rw [z]
        rcases z2 with z2 | ⟨e0, m0, z0, z2⟩
        · rw [z2] at hu
          rw [List.mem_singleton.mp hu]
          exact ht.set hL
        · rw [z2] at hu
          rcases List.mem_append.mp hu with hu | hu
          · rw [← z0]
            exact (W.to _ _ hL e0 m0 u hu).set hL
          · rw [List.mem_singleton.mp hu]
            exact ht.set hL
    · exact (W.to _ _ h e he u hu).set hL
  · rcases set_at h with ⟨rfl, rfl⟩ | ⟨_, h⟩
    · rcases putL_cases k t L with ⟨m, e0, h1, h2, h3⟩ | ⟨h1, h3⟩
      · have e : (putL L k t).map (·.1) = L.map (·.1) := by
          rw [h3, List.map_set]
          apply List.ext_getElem?
          intro n
          by_cases c : m = n
          · subst c
            have hi : (L.map (·.1))[m]? = some k := by rw [List.getElem?_map, h1, ← h2]; rfl
            rw [List.getElem?_set_self (List.getElem?_eq_some_iff.mp hi).1, hi]
          · rw [List.getElem?_set_ne c]
        rw [e]
        exact W.nd _ _ hL
      · rw [h3, List.map_append]
        refine List.nodup_append.mpr ⟨W.nd _ _ hL, by simp, fun a ha b hb => ?_⟩
        rw [List.mem_singleton.mp (show b ∈ [k] from hb)]
        exact fun z => h1 (z ▸ ha)
    · exact W.nd _ _ h
  · rcases set_at h with ⟨rfl, rfl⟩ | ⟨_, h⟩
    · rcases mem e he with z | ⟨_, z | ⟨e0, _, _, z⟩⟩
      · exact W.ne _ _ hL h1 e z
      · rw [z]; simp
      · rw [z]; simp
    · exact W.ne _ _ h h1 e he
/-! how many states there are -/
def allP (last : Nat) : Nat → List (List Int)
  | 0 => [[]]
  | n + 1 => (List.range (last + 1)).flatMap fun q : Nat => (allP last n).map fun r => (q : Int) :: r
theorem allP_mem {last : Nat} : ∀ (n : Nat) (l : List Int), l.length = n → (∀ q ∈ l, 0 ≤ q ∧ q ≤ last) → l ∈ allP last n
  | 0, [], _, _ => List.mem_singleton.mpr rfl
  | n + 1, q :: r, h, hq => by
    obtain ⟨a, b⟩ := hq q (List.mem_cons_self ..)
    obtain ⟨k, rfl⟩ := Int.eq_ofNat_of_zero_le a
    exact List.mem_flatMap.mpr ⟨k, List.mem_range.mpr (by omega), List.mem_map.mpr ⟨r, allP_mem n r (by simpa using h) fun p hp => hq p (List.mem_cons_of_mem _ hp), rfl⟩⟩
theorem allP_len {last : Nat} : ∀ n : Nat, (allP last n).length = (last + 1) ^ n
  | 0 => rfl
  | n + 1 => by
    show ((List.range (last + 1)).flatMap fun q : Nat => (allP last n).map fun r => (q : Int) :: r).length = _
    have e : ∀ l : List Nat, (l.flatMap fun q : Nat => (allP last n).map fun r => (q : Int) :: r).length = l.length * (last + 1) ^ n := by
      intro l
      induction l with
      | nil => rw [List.flatMap_nil]; simp
      | cons a l ih =>
        rw [List.flatMap_cons, List.length_append, ih, List.length_map, allP_len n, List.length_cons, Nat.succ_mul]
        omega
    rw [e, List.length_range, Nat.pow_succ, Nat.mul_comm]
def allM (nw : Nat) : List Mk := .no :: .mix :: (List.range nw).map fun w : Nat => .one (w : Int)
theorem layer_few {nw last : Nat} {L : Layer} (h3 : nw ≤ 3) (h5 : last ≤ 5) (nd : (L.map (·.1)).Nodup) (ok : ∀ e ∈ L, StOk nw last e.1) : L.length ≤ 1080 := by
  have sub : ∀ s ∈ L.map (·.1), s ∈ (allP last nw).flatMap fun p => (allM nw).map fun m => (p, m) := by
    intro s hs
    obtain ⟨e, he, rfl⟩ := List.mem_map.mp hs
    have o := ok e he
    refine List.mem_flatMap.mpr ⟨e.1.1, allP_mem nw _ o.l o.b, List.mem_map.mpr ⟨e.1.2, ?_, rfl⟩⟩
    unfold allM
    rcases o.m with z | z | ⟨w, hw, z⟩
    · rw [z]; exact List.mem_cons_self ..
    · rw [z]; exact List.mem_cons_of_mem _ (List.mem_cons_self ..)
    · rw [z]; exact List.mem_cons_of_mem _ (List.mem_cons_of_mem _ (List.mem_map.mpr ⟨w, List.mem_range.mpr hw, rfl⟩))
  have a := List.Nodup.length_le_of_subset nd sub
  have e : ∀ l : List (List Int), (l.flatMap fun p => (allM nw).map fun m => (p, m)).length = l.length * (nw + 2) := by
    intro l
    induction l with
    | nil => rw [List.flatMap_nil]; simp
    | cons p l ih =>
      rw [List.flatMap_cons, List.length_append, ih, List.length_map, List.length_cons, Nat.succ_mul]
      have : (allM nw).length = nw + 2 := by simp [allM]
      omega
  rw [e, allP_len, List.length_map] at a
  have p1 : (last + 1) ^ nw ≤ 6 ^ nw := Nat.pow_le_pow_left (by omega) nw
  have p2 : 6 ^ nw ≤ 6 ^ 3 := Nat.pow_le_pow_right (by decide) h3
  have p3 : (6 : Nat) ^ 3 = 216 := by decide
  have p4 : (last + 1) ^ nw * (nw + 2) ≤ 216 * 5 := Nat.mul_le_mul (by omega) (by omega)
  omega
end K35

set_option Elab.async false
set_option linter.all false
set_option maxRecDepth 100000
set_option maxHeartbeats 8000000
/-! The layers of traces in the heap. -/
namespace K35
open PySem L2 L2.EV
def kvF (ks : List Sx) (a : List Addr) : List (NestedKey × V) := (ks.zip a).map fun z => (keyS z.1, V.ref z.2)
theorem kvF_len {ks : List Sx} {a : List Addr} (h : a.length = ks.length) : (kvF ks a).length = ks.length := by
  unfold kvF
  rw [List.length_map, List.length_zip, h, Nat.min_self]
theorem kvF_snoc {k : Sx} {b : Addr} : ∀ {ks : List Sx} {a : List Addr}, a.length = ks.length → kvF (ks ++ [k]) (a ++ [b]) = kvF ks a ++ [(keyS k, .ref b)]
  | [], [], _ => rfl
  | [], _ :: _, h => by cases h
  | _ :: _, [], h => by cases h
  | s :: ks, c :: a, h => by
    show (keyS s, V.ref c) :: kvF (ks ++ [k]) (a ++ [b]) = (keyS s, V.ref c) :: (kvF ks a ++ [(keyS k, .ref b)])
    rw [kvF_snoc (by simpa using h)]
theorem kvF_none {k : Sx} : ∀ {ks : List Sx} {a : List Addr}, ¬ k ∈ ks → valV (kvF ks a) (keyS k) = none
  | [], _, _ => rfl
  | _ :: _, [], _ => rfl
  | s :: ks, c :: a, h => by
    show valV ((keyS s, V.ref c) :: kvF ks a) (keyS k) = none
    rw [valV_neg (fun z => h (by rw [keyS_inj z]; exact List.mem_cons_self ..))]
    exact kvF_none fun z => h (List.mem_cons_of_mem _ z)
theorem kvF_at {k : Sx} {b : Addr} : ∀ {ks : List Sx} {a : List Addr} {i : Nat}, ks.Nodup → ks[i]? = some k → a[i]? = some b → valV (kvF ks a) (keyS k) = some (.ref b)
  | [], _, _, _, h, _ => by simp at h
  | _ :: _, [], _, _, _, h => by simp at h
  | s :: ks, c :: a, 0, _, h1, h2 => by
    have h1 : s = k := by simpa using h1
    have h2 : c = b := by simpa using h2
    show valV ((keyS s, V.ref c) :: kvF ks a) (keyS k) = _
    rw [valV_pos (by show keyS s = keyS k; rw [h1]), h2]
  | s :: ks, c :: a, i + 1, nd, h1, h2 => by
    have h1 : ks[i]? = some k := by simpa using h1
    obtain ⟨n1, n2⟩ := List.nodup_cons.mp nd
    show valV ((keyS s, V.ref c) :: kvF ks a) (keyS k) = _
    rw [valV_neg (fun z => n1 (by rw [keyS_inj z]; exact List.mem_of_getElem? h1))]
    exact kvF_at n2 h1 (by simpa using h2)
/-- a triple at t -/
def TrA (H : Hp) (t : Addr) (u : Trip) : Prop := ∃ sa ea, H t = some (.tup [.int (u.1 : Int), .ref sa, .ref ea]) ∧ StA H sa u.2.1 ∧ A2 H ea u.2.2
theorem TrA.keep {H H' : Hp} {t : Addr} {u : Trip} (h : TrA H t u) (k : KeepT H H') : TrA H' t u := let ⟨sa, ea, a, b, c⟩ := h; ⟨sa, ea, k _ _ a, b.keep k, k _ _ c⟩
def AtT (H : Hp) (ts : List Addr) (us : List Trip) : Prop := ts.length = us.length ∧ ∀ (i : Nat) t u, ts[i]? = some t → us[i]? = some u → TrA H t u
theorem AtT.keep {H H' : Hp} {ts : List Addr} {us : List Trip} (h : AtT H ts us) (k : KeepT H H') : AtT H' ts us := ⟨h.1, fun i t u h1 h2 => (h.2 i t u h1 h2).keep k⟩
theorem AtT.snoc {H : Hp} {ts : List Addr} {us : List Trip} {t : Addr} {u : Trip} (h : AtT H ts us) (ht : TrA H t u) : AtT H (ts ++ [t]) (us ++ [u]) := by
  refine ⟨by rw [List.length_append, List.length_append, h.1]; rfl, fun i v e h1 h2 => ?_⟩
  by_cases c : i < ts.length
  · rw [List.getElem?_append_left c] at h1
    rw [List.getElem?_append_left (by rw [← h.1]; exact c)] at h2
    exact h.2 i v e h1 h2
  · rw [List.getElem?_append_right (by omega)] at h1
    rw [List.getElem?_append_right (by rw [← h.1]; omega)] at h2
    have i0 : i - ts.length = 0 := by
      cases z : i - ts.length with
      | zero => rfl
      | succ n => rw [z] at h1; simp at h1
    rw [i0] at h1
    rw [← h.1, i0] at h2
    cases h1
    cases h2
    exact ht
def TrsA (H : Hp) (b : Addr) (us : List Trip) : Prop := ∃ ts : List Addr, H b = some (.lst (ts.map V.ref)) ∧ AtT H ts us
theorem TrsA.keep {H H' : Hp} {b : Addr} {us : List Trip} (h : TrsA H b us) (e : H' b = H b) (k : KeepT H H') : TrsA H' b us := let ⟨ts, a, c⟩ := h; ⟨ts, e.trans a, c.keep k⟩
theorem trs_one {H : Hp} {b p2 : Addr} {u : Trip} (e : H b = some (.lst [V.ref p2])) (t : TrA H p2 u) : TrsA H b [u] := by
  refine ⟨[p2], e, rfl, fun i v z h1 h2 => ?_⟩
  cases i with
  | zero =>
    have h1 : p2 = v := by simpa using h1
    have h2 : u = z := by simpa using h2
    subst h1 h2
    exact t
  | succ i => simp at h1
structure Ly (P : Program) (w : World) (H0 H : Hp) (p : Addr) (Ls : List Layer) (ds : List Addr) (as : List (List Addr)) : Prop where
  s : Same H0 H
  hp : H p = some (.lst (ds.map V.ref))
  np : H0 p = none
  dl : ds.length = Ls.length
  al : as.length = Ls.length
  nd : ds.Nodup
  n0 : ∀ d ∈ ds, H0 d = none
  dd : ∀ (j : Nat) d L a, ds[j]? = some d → Ls[j]? = some L → as[j]? = some a → a.length = L.length ∧ DN P w false H d (kvF (L.map (·.1)) a)
  ll : ∀ (j : Nat) L a (i : Nat) b e, Ls[j]? = some L → as[j]? = some a → a[i]? = some b → L[i]? = some e → TrsA H b e.2 ∧ H0 b = none
  inj : ∀ (j i j' i' : Nat) a a' b, as[j]? = some a → a[i]? = some b → as[j']? = some a' → a'[i']? = some b → j = j' ∧ i = i'
  pl : ∀ (j i : Nat) a b, as[j]? = some a → a[i]? = some b → b ≠ p
section
variable {P : Program} {w : World} {H0 H H' : Hp} {p : Addr} {Ls : List Layer} {ds : List Addr} {as : List (List Addr)}
theorem dn_tup {B : Bool} {d : Addr} {kvs : List (NestedKey × V)} (z : DN P w B H d kvs) : ∀ xs, H d ≠ some (.tup xs) := fun xs q => by
  obtain ⟨_, _, e, _⟩ := z
  rw [e] at q
  cases q
theorem dn_lst {B : Bool} {d : Addr} {kvs : List (NestedKey × V)} (z : DN P w B H d kvs) : ∀ xs, H d ≠ some (.lst xs) := fun xs q => by
  obtain ⟨_, _, e, _⟩ := z
  rw [e] at q
  cases q
theorem dn_some {B : Bool} {d : Addr} {kvs : List (NestedKey × V)} (z : DN P w B H d kvs) : ∃ o, H d = some o := let ⟨_, _, e, _⟩ := z; ⟨_, e⟩
/-- where the lists stand there are entries -/
theorem Ly.ent (y : Ly P w H0 H p Ls ds as) {j i : Nat} {a : List Addr} {b : Addr} (ha : as[j]? = some a) (hb : a[i]? = some b) : ∃ (d : Addr) (L : Layer) (e : Sx × List Trip), ds[j]? = some d ∧ Ls[j]? = some L ∧ L[i]? = some e := by
  have hj := (List.getElem?_eq_some_iff.mp ha).1
  have j1 : j < Ls.length := by rw [← y.al]; exact hj
  have j2 : j < ds.length := by rw [y.dl]; exact j1
  have h1 := (y.dd j _ _ _ (List.getElem?_eq_getElem j2) (List.getElem?_eq_getElem j1) ha).1
  have hi := (List.getElem?_eq_some_iff.mp hb).1
  exact ⟨_, _, _, List.getElem?_eq_getElem j2, List.getElem?_eq_getElem j1, List.getElem?_eq_getElem (by omega)⟩
theorem Ly.keep (y : Ly P w H0 H p Ls ds as) (s : Same H0 H') (k : KeepT H H') (hp : H' p = H p) (hd : ∀ d ∈ ds, H' d = H d) (hl : ∀ (j i : Nat) a b, as[j]? = some a → a[i]? = some b → H' b = H b) : Ly P w H0 H' p Ls ds as :=
  ⟨s, hp.trans y.hp, y.np, y.dl, y.al, y.nd, y.n0, fun j d L a h1 h2 h3 => let ⟨z1, z2⟩ := y.dd j d L a h1 h2 h3; ⟨z1, z2.keep (hd d (List.mem_of_getElem? h1)) k⟩,
    fun j L a i b e h1 h2 h3 h4 => let ⟨z1, z2⟩ := y.ll j L a i b e h1 h2 h3 h4; ⟨z1.keep (hl j i a b h2 h3) k, z2⟩, y.inj, y.pl⟩
theorem Ly.dsome (y : Ly P w H0 H p Ls ds as) {d : Addr} (hd : d ∈ ds) : ∃ (j : Nat) (L : Layer) (a : List Addr), ds[j]? = some d ∧ Ls[j]? = some L ∧ as[j]? = some a ∧ a.length = L.length ∧ DN P w false H d (kvF (L.map (·.1)) a) := by
  obtain ⟨j, hj⟩ := List.mem_iff_getElem?.mp hd
  have j2 := (List.getElem?_eq_some_iff.mp hj).1
  have j1 : j < Ls.length := by rw [← y.dl]; exact j2
  have j3 : j < as.length := by rw [y.al]; exact j1
  obtain ⟨z1, z2⟩ := y.dd j d _ _ hj (List.getElem?_eq_getElem j1) (List.getElem?_eq_getElem j3)
  exact ⟨j, _, _, hj, List.getElem?_eq_getElem j1, List.getElem?_eq_getElem j3, z1, z2⟩
theorem Ly.lsome (y : Ly P w H0 H p Ls ds as) {j i : Nat} {a : List Addr} {b : Addr} (ha : as[j]? = some a) (hb : a[i]? = some b) : ∃ ts : List Addr, H b = some (.lst (ts.map V.ref)) := by
  obtain ⟨d, L, e, h1, h2, h3⟩ := y.ent ha hb
  obtain ⟨⟨ts, z, _⟩, _⟩ := y.ll j L a i b e h2 ha hb h3
  exact ⟨ts, z⟩
theorem Ly.same (y : Ly P w H0 H p Ls ds as) (s : Same H H') : Ly P w H0 H' p Ls ds as := by
  refine y.keep (y.s.trans s) (Same.keepT s) (by rw [s _ _ y.hp, y.hp]) (fun d hd => ?_) fun j i a b h1 h2 => ?_
  · obtain ⟨_, _, _, _, _, _, _, z⟩ := y.dsome hd
    obtain ⟨o, e⟩ := dn_some z
    rw [s _ _ e, e]
  · obtain ⟨ts, e⟩ := y.lsome h1 h2
    rw [s _ _ e, e]
/-- one triple more in a list that is there -/
theorem Ly.old {j i : Nat} {L : Layer} {a : List Addr} {b : Addr} {e : Sx × List Trip} {ts : List Addr} {t : Addr} {u : Trip} (y : Ly P w H0 H p Ls ds as) (hL : Ls[j]? = some L) (ha : as[j]? = some a) (hb : a[i]? = some b) (he : L[i]? = some e)
    (hl : H b = some (.lst (ts.map V.ref))) (hat : AtT H ts e.2) (ht : TrA H t u) : Ly P w H0 (upd H b (.lst (ts.map V.ref ++ [V.ref t]))) p (Ls.set j (L.set i (e.1, e.2 ++ [u]))) ds as := by
  have b0 := (y.ll j L a i b e hL ha hb he).2
  have k : KeepT H (upd H b (.lst (ts.map V.ref ++ [V.ref t]))) := keepT_upd hl (fun xs z => by cases z)
  have jl := (List.getElem?_eq_some_iff.mp hL).1
  have keys : (L.set i (e.1, e.2 ++ [u])).map (·.1) = L.map (·.1) := by
    rw [List.map_set]
    apply List.ext_getElem?
    intro m
    by_cases c : i = m
    · subst c
      have hi : (L.map (·.1))[i]? = some e.1 := by rw [List.getElem?_map, he]; rfl
      rw [List.getElem?_set_self (List.getElem?_eq_some_iff.mp hi).1, hi]
    · rw [List.getElem?_set_ne c]
  refine ⟨fun c o z => by rw [upd_ne (ne_of_none z b0)]; exact y.s _ _ z, by rw [upd_ne (y.pl j i a b ha hb).symm]; exact y.hp, y.np, by rw [List.length_set]; exact y.dl, by rw [List.length_set]; exact y.al, y.nd, y.n0, fun j' d L' a' h1 h2 h3 => ?_, fun j' L' a' i' b' e' h1 h2 h3 h4 => ?_, y.inj, y.pl⟩
  · have fin : ∀ L2, Ls[j']? = some L2 → L2.map (·.1) = L'.map (·.1) → a'.length = L'.length ∧ DN P w false (upd H b (.lst (ts.map V.ref ++ [V.ref t]))) d (kvF (L'.map (·.1)) a') := fun L2 hL2 ek => by
      obtain ⟨z1, z2⟩ := y.dd j' d L2 a' h1 hL2 h3
      have l := congrArg List.length ek
      rw [List.length_map, List.length_map] at l
      rw [ek] at z2
      exact ⟨by omega, z2.keep (upd_ne fun z => dn_lst z2 _ (by rw [z]; exact hl)) k⟩
    rcases set_at h2 with ⟨rfl, rfl⟩ | ⟨_, h2⟩
    · exact fin L hL keys.symm
    · exact fin L' h2 rfl
  · by_cases c : b' = b
    · subst c
      obtain ⟨rfl, rfl⟩ := y.inj _ _ _ _ _ _ _ h2 h3 ha hb
      refine ⟨?_, b0⟩
      rw [List.getElem?_set_self jl] at h1
      cases h1
      rw [List.getElem?_set_self (List.getElem?_eq_some_iff.mp he).1] at h4
      cases h4
      exact ⟨ts ++ [t], by rw [List.map_append]; exact upd_same, (hat.keep k).snoc (ht.keep k)⟩
    · have fin : ∀ L2 e2, Ls[j']? = some L2 → L2[i']? = some e2 → e2.2 = e'.2 → TrsA (upd H b (.lst (ts.map V.ref ++ [V.ref t]))) b' e'.2 ∧ H0 b' = none := fun L2 e2 q1 q2 q3 => by
        obtain ⟨z1, z2⟩ := y.ll j' L2 a' i' b' e2 q1 h2 h3 q2
        rw [q3] at z1
        exact ⟨z1.keep (upd_ne c) k, z2⟩
      rcases set_at h1 with ⟨rfl, rfl⟩ | ⟨_, h1⟩
      · rcases set_at h4 with ⟨rfl, _⟩ | ⟨_, h4⟩
        · rw [ha] at h2
          cases h2
          rw [hb] at h3
          cases h3
          exact absurd rfl c
        · exact fin L e' hL h4 rfl
      · exact fin L' e' h1 h4 rfl
/-- a state that is new in its layer -/
theorem Ly.new {j : Nat} {L : Layer} {a : List Addr} {d b : Addr} {k : Sx} {u : Trip} (y : Ly P w H0 H p Ls ds as) (hd : ds[j]? = some d) (hL : Ls[j]? = some L) (ha : as[j]? = some a) (b0 : H b = none)
    (s : Same H0 H') (kt : KeepT H H') (hp : H' p = H p) (ho : ∀ c ∈ ds, c ≠ d → H' c = H c) (hl : ∀ (j i : Nat) a c, as[j]? = some a → a[i]? = some c → H' c = H c) (dn : DN P w false H' d (kvF (L.map (·.1) ++ [k]) (a ++ [b]))) (tr : TrsA H' b [u]) :
    Ly P w H0 H' p (Ls.set j (L ++ [(k, [u])])) ds (as.set j (a ++ [b])) := by
  have jl := (List.getElem?_eq_some_iff.mp hL).1
  have ja := (List.getElem?_eq_some_iff.mp ha).1
  have l0 := (y.dd j d L a hd hL ha).1
  have bn : ∀ (j i : Nat) a c, as[j]? = some a → a[i]? = some c → c ≠ b := fun j i a c h1 h2 z => by
    obtain ⟨ts, e⟩ := y.lsome h1 h2
    rw [z, b0] at e
    cases e
  have h0b : H0 b = none := by
    cases z : H0 b with
    | none => rfl
    | some o =>
      rw [y.s _ _ z] at b0
      cases b0
  have snoc : ∀ {i : Nat} {c : Addr}, (a ++ [b])[i]? = some c → (a[i]? = some c) ∨ (i = a.length ∧ c = b) := fun {i c} h => by
    by_cases q : i < a.length
    · rw [List.getElem?_append_left q] at h
      exact .inl h
    · rw [List.getElem?_append_right (by omega)] at h
      cases z : i - a.length with
      | zero => rw [z] at h; exact .inr ⟨by omega, (Option.some.inj h).symm⟩
      | succ n => rw [z] at h; simp at h
  refine ⟨s, hp.trans y.hp, y.np, by rw [List.length_set]; exact y.dl, by rw [List.length_set, List.length_set]; exact y.al, y.nd, y.n0, fun j' d' L' a' h1 h2 h3 => ?_, fun j' L' a' i' b' e' h1 h2 h3 h4 => ?_, fun j1 i1 j2 i2 a1 a2 c h1 h2 h3 h4 => ?_, fun j1 i1 a1 c h1 h2 => ?_⟩
  · rcases set_at h2 with ⟨rfl, rfl⟩ | ⟨n, h2⟩
    · rw [List.getElem?_set_self ja] at h3
      cases h3
      rw [hd] at h1
      cases h1
      exact ⟨by rw [List.length_append, List.length_append, l0]; rfl, by rw [List.map_append]; exact dn⟩
    · rw [List.getElem?_set_ne (fun z => n z.symm)] at h3
      obtain ⟨z1, z2⟩ := y.dd j' d' L' a' h1 h2 h3
      refine ⟨z1, z2.keep (ho d' (List.mem_of_getElem? h1) fun z => n ?_) kt⟩
      rw [z] at h1
      exact (List.getElem?_inj (List.getElem?_eq_some_iff.mp h1).1 y.nd).mp (h1.trans hd.symm)
  · rcases set_at h2 with ⟨rfl, rfl⟩ | ⟨n, h2⟩
    · rw [List.getElem?_set_self jl] at h1
      cases h1
      rcases snoc h3 with h3 | ⟨rfl, rfl⟩
      · have il := (List.getElem?_eq_some_iff.mp h3).1
        rw [List.getElem?_append_left (by omega)] at h4
        obtain ⟨z1, z2⟩ := y.ll _ L a i' b' e' hL ha h3 h4
        exact ⟨z1.keep (hl _ _ _ _ ha h3) kt, z2⟩
      · rw [List.getElem?_append_right (by omega), l0, Nat.sub_self] at h4
        cases h4
        exact ⟨tr, h0b⟩
    · rw [List.getElem?_set_ne (fun z => n z.symm)] at h1
      obtain ⟨z1, z2⟩ := y.ll j' L' a' i' b' e' h1 h2 h3 h4
      exact ⟨z1.keep (hl _ _ _ _ h2 h3) kt, z2⟩
  · have cs : ∀ {j1 i1 : Nat} {a1 : List Addr}, (as.set j (a ++ [b]))[j1]? = some a1 → a1[i1]? = some c → (∃ a0, as[j1]? = some a0 ∧ a0[i1]? = some c) ∨ (c = b ∧ j1 = j ∧ i1 = a.length) := fun {j1 i1 a1} h1 h2 => by
      rcases set_at h1 with ⟨rfl, rfl⟩ | ⟨n, h1⟩
      · rcases snoc h2 with h2 | ⟨e1, e2⟩
        · exact .inl ⟨a, ha, h2⟩
        · exact .inr ⟨e2, rfl, e1⟩
      · exact .inl ⟨a1, h1, h2⟩
    rcases cs h1 h2 with ⟨x1, p1, p2⟩ | ⟨q1, q2, q3⟩
    · rcases cs h3 h4 with ⟨x2, p3, p4⟩ | ⟨r1, r2, r3⟩
      · exact y.inj _ _ _ _ _ _ _ p1 p2 p3 p4
      · exact absurd r1 (bn _ _ _ _ p1 p2)
    · rcases cs h3 h4 with ⟨x2, p3, p4⟩ | ⟨r1, r2, r3⟩
      · exact absurd q1 (bn _ _ _ _ p3 p4)
      · exact ⟨by omega, by omega⟩
  · rcases set_at h1 with ⟨rfl, rfl⟩ | ⟨n, h1⟩
    · rcases snoc h2 with h2 | ⟨_, rfl⟩
      · exact y.pl _ _ _ _ ha h2
      · intro z
        rw [z, y.hp] at b0
        cases b0
    · exact y.pl _ _ _ _ h1 h2
/-- a smaller base -/
theorem Ly.weak {H1 : Hp} (y : Ly P w H1 H p Ls ds as) (s : Same H0 H1) : Ly P w H0 H p Ls ds as := by
  have nn : ∀ {c : Addr}, H1 c = none → H0 c = none := fun {c} h => by
    cases z : H0 c with
    | none => rfl
    | some o =>
      rw [s _ _ z] at h
      cases h
  exact ⟨s.trans y.s, y.hp, nn y.np, y.dl, y.al, y.nd, fun d hd => nn (y.n0 d hd), y.dd, fun j L a i b e h1 h2 h3 h4 => let ⟨z1, z2⟩ := y.ll j L a i b e h1 h2 h3 h4; ⟨z1, nn z2⟩, y.inj, y.pl⟩
/-- the base may hold all else -/
theorem Ly.rebase (y : Ly P w H0 H p Ls ds as) : ∃ H1, Ly P w H1 H p Ls ds as ∧ Same H0 H1 ∧ KeepT H H1 ∧ ∀ c o, H c = some o → c ≠ p → (∀ d ∈ ds, c ≠ d) → (∀ (j i : Nat) a b, as[j]? = some a → a[i]? = some b → c ≠ b) → H1 c = some o := by
  classical
  let bad : Addr → Prop := fun c => c = p ∨ c ∈ ds ∨ ∃ (j i : Nat) (a : List Addr), as[j]? = some a ∧ a[i]? = some c
  have e1 : ∀ c, bad c → (if bad c then none else H c) = none := fun c h => if_pos h
  have e2 : ∀ c, ¬ bad c → (if bad c then none else H c) = H c := fun c h => if_neg h
  have nb : ∀ c o, H0 c = some o → ¬ bad c := fun c o e z => by
    rcases z with rfl | z | ⟨j, i, a, h1, h2⟩
    · rw [y.np] at e; cases e
    · rw [y.n0 c z] at e; cases e
    · obtain ⟨d, L, en, q1, q2, q3⟩ := y.ent h1 h2
      rw [(y.ll j L a i c en q2 h1 h2 q3).2] at e
      cases e
  refine ⟨fun c => if bad c then none else H c, ⟨fun c o e => ?_, y.hp, e1 _ (.inl rfl), y.dl, y.al, y.nd, fun d hd => e1 _ (.inr (.inl hd)), y.dd, fun j L a i b e h1 h2 h3 h4 => ⟨(y.ll j L a i b e h1 h2 h3 h4).1, e1 _ (.inr (.inr ⟨j, i, a, h2, h3⟩))⟩, y.inj, y.pl⟩, fun c o e => ?_, fun c xs e => ?_, fun c o e h1 h2 h3 => ?_⟩
  · have e : (if bad c then none else H c) = some o := e
    by_cases b : bad c
    · rw [e1 c b] at e; cases e
    · rw [e2 c b] at e; exact e
  · exact (e2 c (nb c o e)).trans (y.s _ _ e)
  · refine (e2 c ?_).trans e
    rintro (rfl | z | ⟨j, i, a, h1, h2⟩)
    · rw [y.hp] at e; cases e
    · obtain ⟨_, _, _, _, _, _, _, z⟩ := y.dsome z
      exact dn_tup z _ e
    · obtain ⟨ts, z⟩ := y.lsome h1 h2
      rw [z] at e; cases e
  · refine (e2 c ?_).trans e
    rintro (z | z | ⟨j, i, a, q1, q2⟩)
    · exact h1 z
    · exact h2 c z rfl
    · exact h3 j i a c q1 q2 rfl
theorem init0_eq (n nw : Nat) : init0 n nw = [((List.replicate nw 0, .no), [])] :: List.replicate n [] := rfl
theorem rep_at {α : Type} {n j : Nat} {v w : α} (h : (List.replicate n v)[j]? = some w) : w = v := by
  rw [List.getElem?_replicate] at h
  split at h
  · exact (Option.some.inj h).symm
  · cases h
theorem ly_init {d0 l0 D : Addr} {dr : List Addr} {n nw : Nat} (hp : H' D = some (.lst ((d0 :: dr).map V.ref))) (np : H D = none) (s : Same H H') (len : dr.length = n) (nd : (d0 :: dr).Nodup) (n0 : ∀ d ∈ d0 :: dr, H d = none)
    (dn0 : DN P w false H' d0 [(keyS (List.replicate nw 0, .no), .ref l0)]) (dn : ∀ d ∈ dr, DN P w false H' d []) (hl : H' l0 = some (.lst [])) (nl : H l0 = none) (lD : l0 ≠ D) : Ly P w H H' D (init0 n nw) (d0 :: dr) ([l0] :: List.replicate n []) := by
  have only : ∀ {j i : Nat} {a : List Addr} {b : Addr}, ([l0] :: List.replicate n [])[j]? = some a → a[i]? = some b → j = 0 ∧ i = 0 ∧ b = l0 := fun {j i a b} h1 h2 => by
    cases j with
    | zero =>
      have h1 : [l0] = a := by simpa using h1
      subst h1
      cases i with
      | zero => exact ⟨rfl, rfl, by simpa using h2.symm⟩
      | succ i => simp at h2
    | succ j =>
      have h1 : (List.replicate n ([] : List Addr))[j]? = some a := by simpa using h1
      rw [rep_at h1] at h2
      simp at h2
  refine ⟨s, hp, np, by rw [init0_eq]; simp [len], by rw [init0_eq]; simp, nd, n0, fun j d L a h1 h2 h3 => ?_, fun j L a i b e h1 h2 h3 h4 => ?_, fun j i j' i' a a' b h1 h2 h3 h4 => ?_, fun j i a b h1 h2 => ?_⟩
  · rw [init0_eq] at h2
    cases j with
    | zero =>
      have h1 : d0 = d := by simpa using h1
      have h2 : [((List.replicate nw (0 : Int), Mk.no), ([] : List Trip))] = L := by simpa using h2
      have h3 : [l0] = a := by simpa using h3
      subst h1 h2 h3
      exact ⟨rfl, dn0⟩
    | succ j =>
      have h2 : (List.replicate n ([] : Layer))[j]? = some L := by simpa using h2
      have h3 : (List.replicate n ([] : List Addr))[j]? = some a := by simpa using h3
      have h1 : dr[j]? = some d := by simpa using h1
      rw [rep_at h2, rep_at h3]
      exact ⟨rfl, dn d (List.mem_of_getElem? h1)⟩
  · obtain ⟨rfl, rfl, rfl⟩ := only h2 h3
    rw [init0_eq] at h1
    have h1 : [((List.replicate nw (0 : Int), Mk.no), ([] : List Trip))] = L := by simpa using h1
    subst h1
    have h4 : ((List.replicate nw (0 : Int), Mk.no), ([] : List Trip)) = e := by simpa using h4
    subst h4
    exact ⟨⟨[], hl, rfl, fun i t u z => by simp at z⟩, nl⟩
  · obtain ⟨a1, a2, _⟩ := only h1 h2
    obtain ⟨b1, b2, _⟩ := only h3 h4
    exact ⟨by omega, by omega⟩
  · obtain ⟨_, _, rfl⟩ := only h1 h2
    exact lD
theorem wl_init (fr : List T3) (x : Str) (nw last : Nat) : Wl fr x nw last (init0 x.length nw) := by
  have h0 : ∀ {j : Nat} {L : Layer}, (init0 x.length nw)[j]? = some L → (j = 0 ∧ L = [((List.replicate nw 0, .no), [])]) ∨ L = [] := fun {j L} h => by
    rw [init0_eq] at h
    cases j with
    | zero => exact .inl ⟨rfl, by simpa using h.symm⟩
    | succ j => exact .inr (rep_at (by simpa using h))
  refine ⟨by rw [init0_eq]; simp, fun j L h e he => ?_, fun j L h e he t ht => ?_, fun j L h => ?_, fun j L h h1 e he => ?_⟩
  · rcases h0 h with ⟨_, rfl⟩ | rfl
    · rw [List.mem_singleton.mp he]
      exact ⟨List.length_replicate, fun q hq => by rw [(List.mem_replicate.mp hq).2]; omega, .inl rfl⟩
    · cases he
  · rcases h0 h with ⟨_, rfl⟩ | rfl
    · rw [List.mem_singleton.mp he] at ht
      cases ht
    · cases he
  · rcases h0 h with ⟨_, rfl⟩ | rfl
    · simp
    · simp
  · rcases h0 h with ⟨rfl, _⟩ | rfl
    · omega
    · cases he
theorem tot_init (n nw : Nat) : tot (init0 n nw) = 0 := by
  rw [init0_eq]
  unfold tot
  rw [List.map_cons, List.sum_cons]
  have e : ∀ n : Nat, ((List.replicate n ([] : Layer)).map totL).sum = 0 := by
    intro n
    induction n with
    | zero => rfl
    | succ n ih =>
      rw [List.replicate_succ, List.map_cons, List.sum_cons, ih]
      rfl
  rw [e]
  rfl
end
end K35

set_option Elab.async false
set_option linter.all false
set_option maxRecDepth 100000
set_option maxHeartbeats 4000000
/-! tuple * int from 0 on. -/
namespace L2
open PySem PySem.Spec PyProof.Rows
theorem tuple_mul1 (l : Addr) (items : Array Value) (n : Nat) (dd : Option Addr) (sl : Array (Option Value)) (u : Tok) :
    Meets (Builtin.«tuple.__mul__» ⟨[.ref l, .int 1 u], []⟩) (fun _ R s => s.heap.get? l = some { cls := .type "tuple", dict := dd, data := .seq items n, slots := sl } ∧ R (.ok (.ret (.ref l))) s) :=
  .of_wp fun prog w A R s h => by
    obtain ⟨hp, g, d, tk, os⟩ := s
    obtain ⟨hl, h⟩ := h
    have f1 := AutoSeq1.idx_int
    wp_walk using wpAny_loadPart' hl
    exact ⟨_, rfl, h⟩
theorem tuple_mul0 (l : Addr) (items : Array Value) (n : Nat) (dd : Option Addr) (sl : Array (Option Value)) (u : Tok) (c1 : (items.isEmpty || (0 : Int) == 1) = false) :
    Meets (Builtin.«tuple.__mul__» ⟨[.ref l, .int 0 u], []⟩) (fun _ R s => s.heap.get? l = some { cls := .type "tuple", dict := dd, data := .seq items n, slots := sl } ∧
      R (.ok (.ret (Value.ref s.heap.objs.size))) { s with heap := s.heap.push { cls := Value.type "tuple", data := Data.seq #[] }, toks := s.toks }) :=
  .of_wp fun prog w A R s h => by
    obtain ⟨hp, g, d, tk, os⟩ := s
    obtain ⟨hl, h⟩ := h
    have f1 := AutoSeq1.idx_int
    wp_walk using wpAny_loadPart' hl
    repeat (first
      | (refine wpAny_ite_false (decide_eq_false (by rw [c1]; exact Bool.false_ne_true)) ?_; wp_walk using wpAny_loadPart' hl)
      | (refine wpAny_ite_true (decide_eq_true (by decide)) ?_; wp_walk using wpAny_loadPart' hl))
    exact ⟨_, rfl, h⟩
def rRepA : R2 := fun x y H Q => ∃ l k xs, x = .ref l ∧ y = .int k ∧ H l = some (.tup xs) ∧ xs ≠ [] ∧ 0 ≤ k ∧ k ≤ 1000 ∧ xs.length ≤ 1000 ∧
  ∀ H' p, (∀ b o, H b = some o → H' b = some o) → H' p = some (.tup (List.replicate k.toNat xs).flatten) → Q (.ref p) H'
section
variable {X : Cx}
theorem op_repA : OpR X (binaryOp .Mult) rRepA := by
  intro pins s σ H x y v u Q I rx ry h
  obtain ⟨l, k, xs, rfl, rfl, hT, hne, h1, h2, hz, q⟩ := h
  by_cases k2 : 2 ≤ k
  · refine op_repT pins s σ H _ _ v u Q I rx ry ⟨l, k, xs, rfl, rfl, SqT.of hT, hne, k2, h2, hz, fun p hp => q _ p (fun b o e => ?_) upd_same⟩
    rw [upd_ne (ne_of_none e hp)]
    exact e
  · cases rx
    obtain ⟨t, rfl⟩ := ry
    obtain ⟨its, r, ⟨⟨cls, dd, data, sl⟩, ho, hc, n, hd⟩, hs⟩ := I.tuple (SqT.of hT)
    simp only at hc hd
    subst hc hd
    have hle : its.length = xs.length := r.length.symm
    have hn : its ≠ [] := fun e => hne (by
      rw [e] at hle
      exact List.eq_nil_of_length_eq_zero hle.symm)
    have hi : its.toArray.isEmpty = false := by
      cases its with
      | nil => exact absurd rfl hn
      | cons a b => rfl
    rcases (show k = 1 ∨ k = 0 by omega) with rfl | rfl
    · refine wpAny_binaryOp_repeat_ref (T := "tuple") (U := "int") (by decide) ⟨_, ho, rfl⟩ (fun s' => typeIs_int s' 1 t) noFill_tuple_mul F.fills_int_mul F.slot_int_rmul repeat_tuple F.slot_int_index.lookup
        (call_meets F.slot_int_rmul (typeIs_int s 1 t) F.entry_int_rmul (F.args_int_rmul_2 _ _) (int_rmul_tuple 1 t l its.toArray n dd sl)
          ⟨ho, rfl, ⟨_, ho, rfl⟩, call_meets F.slot_tuple_mul ⟨_, ho, rfl⟩ F.entry_tuple_mul (F.args_tuple_mul_2 _ _) (tuple_mul1 l its.toArray n dd sl t) ⟨ho, ?_⟩⟩)
      refine ⟨.ref l, H, I, rfl, q H l (fun _ _ e => e) ?_⟩
      rw [hT]
      simp
    · refine wpAny_binaryOp_repeat_ref (T := "tuple") (U := "int") (by decide) ⟨_, ho, rfl⟩ (fun s' => typeIs_int s' 0 t) noFill_tuple_mul F.fills_int_mul F.slot_int_rmul repeat_tuple F.slot_int_index.lookup
        (call_meets F.slot_int_rmul (typeIs_int s 0 t) F.entry_int_rmul (F.args_int_rmul_2 _ _) (int_rmul_tuple 0 t l its.toArray n dd sl)
          ⟨ho, rfl, ⟨_, ho, rfl⟩, call_meets F.slot_tuple_mul ⟨_, ho, rfl⟩ F.entry_tuple_mul (F.args_tuple_mul_2 _ _) (tuple_mul0 l its.toArray n dd sl t (by rw [hi]; rfl)) ⟨ho, ?_⟩⟩)
      have hf := I.hok.fresh (Nat.le_refl s.heap.objs.size)
      refine ⟨.ref s.heap.objs.size, _, I.laid (t' := s.toks) (o := .tup []) (fun b ob q => Heap.get?_push_of_some _ q) (Nat.le_refl _) ?_, rfl, q _ _ (fun b o e => ?_) upd_same⟩
      · exact ⟨Nat.zero_le _, _, .nil, IsTup.new _ _⟩
      · rw [upd_ne (ne_of_none e hf)]
        exact e
end
end L2

set_option Elab.async false
set_option linter.all false
set_option maxRecDepth 100000
set_option maxHeartbeats 8000000
/-! traces. -/
namespace K35
open PySem L2 L2.EV
abbrev sTraces : Stmt := top 29
def spTraces (P : Program) (w : World) : Sp := fun vs H Q _ => ∃ (f : Addr) (fr : List T3) (last : Nat) (x : Str) (nw : Nat), vs = [.ref f, .str x, .int (nw : Int)] ∧ FrA H f fr ∧ Frm fr last ∧ x.length ≤ 60 ∧ 1 ≤ nw ∧ nw ≤ 3 ∧
  ∀ H' p ds as, Ly P w H H' p (trF fr x nw x.length) ds as → Wl fr x nw last (trF fr x nw x.length) → Q (.ref p) H'
structure Tf (K : PySem.W.Frag) (mg : Str → Option Value) where
  G : Ff K mg
  f : Addr
  d : FuncData
  F : Fun K "traces" "traces" sTraces f d
  b : Binds K d ["framing", "text", "writers"] []
  m : mg "traces" = some (.ref f)
  li : mg "list" = none
abbrev NTr : List Str := ["framing", "text", "writers", "at", "layers", "fits", "state", "writer", "number", "layer", "behind"]
theorem stdS_at {s : Sx} {n : Int} (h0 : 0 ≤ n) (h1 : n < s.1.length) : atI (s.1.map V.int) n = some (.int (stdS s n)) := by
  obtain ⟨k, rfl⟩ := Int.eq_ofNat_of_zero_le h0
  have hk : k < s.1.length := by omega
  refine atI_nat ?_
  unfold stdS
  rw [List.getElem?_map, Int.toNat_natCast, List.getD_eq_getElem?_getD, List.getElem?_eq_getElem hk]
  rfl
theorem keysN_at {H : Hp} : ∀ {ks : List Sx} {a bs : List Addr} {k : Nat} {b : Addr} {s : Sx}, a.length = ks.length → IsKeysN false H (kvF ks a) bs → bs[k]? = some b → ks[k]? = some s → StA H b s
  | [], _, _, _, _, _, _, _, _, h => by simp at h
  | _ :: _, [], _, _, _, _, h, _, _, _ => by cases h
  | s0 :: ks, c :: a, bs, k, b, s, hl, h, hb, hs => by
    have h : Paired (fun p b => KeyB false H p.1 b) ((keyS s0, V.ref c) :: kvF ks a) bs := h
    cases h with
    | @cons p b0 ps bs' h1 h2 =>
      cases k with
      | zero =>
        have e1 : b0 = b := by simpa using hb
        have e2 : s0 = s := by simpa using hs
        subst e1 e2
        exact sta_key h1
      | succ k => exact keysN_at (k := k) (by simpa using hl) h2 (by simpa using hb) (by simpa using hs)
theorem keysN_len {H : Hp} {ks : List Sx} {a bs : List Addr} (hl : a.length = ks.length) (h : IsKeysN false H (kvF ks a) bs) : bs.length = ks.length := by
  have := Paired.length h
  rw [kvF_len hl] at this
  exact this.symm
theorem trF_succ {fr : List T3} {x : Str} {nw i : Nat} : trF fr x nw (i + 1) = perI fr x nw (trF fr x nw i) i := by
  unfold trF
  rw [List.range_succ, List.foldl_append]
  rfl
theorem fold_one {α β : Type} {f : β → α → β} {l : List α} {z : β} {i : Nat} {a : α} (h : l[i]? = some a) : (l.take (i + 1)).foldl f z = f ((l.take i).foldl f z) a := by
  rw [take_one h, List.foldl_append]
  rfl
theorem behS_ok {nw last : Nat} {s : Sx} {n : Int} {x : T3} (h : StOk nw last s) (h0 : 0 ≤ n) (h1 : n < nw) (hx : 0 ≤ x.2.2 ∧ x.2.2 ≤ last) : StOk nw last (behS s n x) := by
  obtain ⟨k, rfl⟩ := Int.eq_ofNat_of_zero_le h0
  have hk : k < nw := by omega
  refine ⟨by show (s.1.set _ _).length = nw; rw [List.length_set]; exact h.l, fun q hq => ?_, ?_⟩
  · rcases List.mem_or_eq_of_mem_set hq with z | z
    · exact h.b q z
    · rw [z]; exact hx
  · have e : (behS s (k : Int) x).2 = if x.2.2 = 0 then Mk.no else behM s.2 (k : Int) x.1 := rfl
    rw [e]
    unfold behM
    by_cases c1 : x.2.2 = 0
    · rw [if_pos c1]
      exact .inl rfl
    · rw [if_neg c1]
      by_cases c2 : s.2 = Mk.no ∧ x.1 = 0
      · rw [if_pos c2]
        exact .inr (.inr ⟨k, hk, rfl⟩)
      · rw [if_neg c2]
        by_cases c3 : s.2 = Mk.one (k : Int)
        · rw [if_pos c3, c3]
          exact .inr (.inr ⟨k, hk, rfl⟩)
        · rw [if_neg c3]
          exact .inr (.inl rfl)
section
variable {P : Program} {w : World} {K : PySem.W.Frag} {mg : Str → Option Value} {base : Heap}
theorem scTraces : FnScope NTr ["framing", "text", "writers"] (defScope sTraces) := ⟨rfl, rfl, rfl, by decide +kernel, rfl, by decide +kernel, by decide +kernel⟩
theorem ok_traces (T : Tf K mg) : FnOk P w K mg base CX0 3 T.f T.d ["framing", "text", "writers"] (spTraces P w) := by
  have GF : FnOk P w K mg base CX0 1 T.G.f T.G.d ["framing", "text", "at", "writers"] spFits := ok_fits T.G
  have GS : FnOk P w K mg base CX0 2 T.G.S.fS T.G.S.dS ["state", "writer", "step"] spState := ok_state T.G.S
  refine T.F.ok scTraces (fun vs H Q E h => ?_) (fun cdv A outer s H vs Q E hr h => ?_)
  · obtain ⟨f, fr, last, x, nw, rfl, _⟩ := h
    rfl
  · obtain ⟨f, fr, last, x, nw, rfl, fa, fm, x60, n1, n3, q⟩ := h
    have hr1 := hr.mono (j := 1) (by omega)
    have hu : (A.deeper (PyProof.Rows.envOfC "traces" (defScope sTraces) s.heap.objs.size T.f cdv)).units + 9 < cLine := by have := hr.un; omega
    refine ⟨_, pss_cons (ps_setLc (i := 4) (own := [("at", 3)]) (g := gName 3) (te := tNNew P w) rfl scTraces.nd rfl rfl rfl (pi_range1 (by rfl) T.G.ra (pa_cons (pe_op op_add (pe_callB call_len_str (by rfl) T.G.S.Y.Z.T.len PySem.boot_len (pa_cons (pv 1) pa_nil)) pe_int) pa_nil))
        (blkOk_by (N := NTr) (sc := defScope sTraces) (by decide +kernel)) (fun _ _ _ _ _ => pg_name (i := 3) scTraces.nd rfl (Or.inl rfl)) (fun _ _ _ _ _ => pts_nil) (fun _ _ _ _ _ => pe_nnew))
      (pss_cons (ps_nput (B := false) hu (pe_ix ix_list (pv 4) pe_int (fun _ _ => rfl)) (pe_tup (pa_cons (pe_op op_repA (pe_tup (pa_cons pe_int pa_nil)) (pv 2)) (pa_cons pe_non pa_nil))) (pe_lst pa_nil) rfl)
      (pss_cons (ps_for PassesOwn.never rfl (pi_range1 (by rfl) T.G.ra (pa_cons (pe_callB call_len_str (by rfl) T.G.S.Y.Z.T.len PySem.boot_len (pa_cons (pv 1) pa_nil)) pa_nil)) (pg_name (i := 3) scTraces.nd rfl (Or.inl rfl))
        (pss_cons (ps_set (i := 5) scTraces.nd rfl (Or.inl rfl) (pe_call GF hr1 (by rfl) T.G.m T.G.F.kp T.G.b .nil pass0 (pa_cons (pv 0) (pa_cons (pv 1) (pa_cons (pv 3) (pa_cons (pv 2) pa_nil))))))
        (pss_one (ps_for PassesOwn.never rfl (pi_list (pe_callTy (call_list_dN (B := false) rfl) (by rfl) T.li (by decide +kernel) (pa_cons (pe_ix ix_list (pv 4) (pv 3) (fun _ _ => rfl)) pa_nil))) (pg_name (i := 6) scTraces.nd rfl (Or.inl rfl))
          (pss_one (ps_for PassesOwn.never rfl (pi_list (pv 5)) (pg_tup rfl (pgs_cons (pg_name (i := 7) scTraces.nd rfl (Or.inl rfl)) (pgs_cons (pg_name (i := 8) scTraces.nd rfl (Or.inl rfl)) pgs_nil)))
            (pss_one (ps_if (pt_cmpR op_eq (pe_ix ix_tup (pe_ix ix_tup (pv 0) (pv 8) (fun _ _ => rfl)) pe_int (fun _ _ => rfl)) (pe_ix ix_tup (pe_ix ix_tup (pv 6) pe_int (fun _ _ => rfl)) (pv 7) (fun _ _ => rfl)) (nomark _))
              (pss_cons (ps_set (i := 9) scTraces.nd rfl (Or.inl rfl) (pe_ix ix_list (pv 4) (pe_op op_add (pv 3) (pe_callB call_len_str (by rfl) T.G.S.Y.Z.T.len PySem.boot_len (pa_cons (pe_ix ix_tup (pe_ix ix_tup (pv 0) (pv 8) (fun _ _ => rfl)) pe_int (fun _ _ => rfl)) pa_nil))) (fun _ _ => rfl)))
              (pss_cons (ps_set (i := 10) scTraces.nd rfl (Or.inl rfl) (pe_call GS hr (by rfl) T.G.S.mS T.G.S.S.kp T.G.S.bS .nil pass0 (pa_cons (pv 6) (pa_cons (pv 7) (pa_cons (pe_ix ix_tup (pv 0) (pv 8) (fun _ _ => rfl)) pa_nil)))))
              (pss_one (ps_expr (pe_bm PySem.F.plainAttrs_list PySem.F.slot_list_append PySem.F.type_list_append mt_append (pe_nsetd (B := false) hu (pv 9) (pv 10) (pe_lst pa_nil) ⟨rfl, rfl, rfl, rfl⟩)
                (pa_cons (pe_tup (pa_cons (pv 3) (pa_cons (pv 6) (pa_cons (pe_tup (pa_cons (pv 7) (pa_cons (pv 8) pa_nil))) pa_nil)))) pa_nil))))))
              pss_nil))))))))
      (pss_one (ps_ret (pv 4))))), ?_⟩
    have hl : x.length ≤ sizeLine := by rw [sizeLine_eq]; omega
    refine ⟨_, rfl, x, rfl, hl, (x.length : Int), 1, rfl, rfl, _, rfl, by omega, by omega, fun D hD => ?_⟩
    have uD := same_upd (o := HO.lst []) hD
    refine lc_it walk_range (fun i H' => ∃ ds : List Addr, H' D = some (.lst (ds.map V.ref)) ∧ ds.length = i ∧ ds.Nodup ∧ (∀ d ∈ ds, H d = none ∧ d ≠ D ∧ DN P w false H' d []) ∧ Same H H')
      ⟨[], upd_same, rfl, List.nodup_nil, (fun d hd => nomatch hd), uD⟩ (fun _ _ _ _ => trivial) ?_ ?_
    · rintro i y H1 H2 hi ⟨ds, h1, h2, h3, h4, h5⟩ ⟨rfl, rfl⟩
      refine ⟨rfl, fun pn hpn => ?_⟩
      have un := same_upd (o := DNo P w pn []) hpn
      have h1' := un _ _ h1
      refine ⟨_, h1', by rw [List.length_map, h2, sizeLine_eq]; omega, ds ++ [pn], ?_, by rw [List.length_append, h2]; rfl, ?_, ?_, fun b o z => ?_⟩
      · rw [List.map_append]
        exact upd_same
      · refine List.nodup_append.mpr ⟨h3, by simp, fun a ha b hb => ?_⟩
        rw [List.mem_singleton.mp hb]
        intro z
        obtain ⟨_, _, z2⟩ := h4 a ha
        obtain ⟨o, z3⟩ := dn_some z2
        rw [z, hpn] at z3
        cases z3
      · have nD : pn ≠ D := fun z => by rw [z, h1] at hpn; cases hpn
        have kt : KeepT H2 (upd (upd H2 pn (DNo P w pn [])) D (.lst (ds.map V.ref ++ [V.ref pn]))) := (Same.keepT un).trans (keepT_upd h1' (fun xs z => by cases z))
        intro d hd
        rcases List.mem_append.mp hd with hd | hd
        · obtain ⟨a1, a2, a3⟩ := h4 d hd
          obtain ⟨o, z3⟩ := dn_some a3
          exact ⟨a1, a2, a3.keep (by rw [upd_ne a2, un _ _ z3, z3]) kt⟩
        · rw [List.mem_singleton.mp hd]
          refine ⟨?_, nD, [], rfl, by rw [upd_ne nD]; exact upd_same, fun x hx => nomatch hx⟩
          exact same_none h5 hpn
      · rw [upd_ne (ne_of_none z hD)]
        exact un _ _ (h5 _ _ z)
    · rintro H1 ⟨ds, h1, h2, h3, h4, hS⟩
      have h2 : ds.length = x.length + 1 := by rw [h2]; omega
      obtain ⟨d0, dr, rfl⟩ : ∃ d0 dr, ds = d0 :: dr := by
        cases ds with
        | nil => cases h2
        | cons a b => exact ⟨a, b, rfl⟩
      refine ⟨by decide, fun l0 hl0 => ?_⟩
      have u0 := same_upd (o := HO.lst []) hl0
      refine ⟨_, rfl, D, _, 0, .ref d0, rfl, rfl, SqL.of (u0 _ _ h1), atI_nat (j := 0) rfl, ?_⟩
      refine ⟨by decide, fun q0 hq0 => ⟨_, rfl, q0, (nw : Int), _, rfl, rfl, upd_same, by simp, by omega, by omega, by decide, fun H5 p5 s5 h5 => ⟨(by show 2 ≤ sizeLine; decide), fun pk hpk => ?_⟩⟩⟩
      have uq := same_upd (o := HO.tup [V.int 0]) hq0
      have uk := same_upd (o := HO.tup [V.ref p5, V.non]) hpk
      have s1k := u0.trans (uq.trans (Same.trans s5 uk))
      have kt1 := Same.keepT s1k
      have dnk : ∀ d ∈ d0 :: dr, DN P w false (upd H5 pk (.tup [V.ref p5, V.non])) d [] := fun d hd => by
        obtain ⟨_, _, z⟩ := h4 d hd
        obtain ⟨o, e⟩ := dn_some z
        exact z.keep (by rw [s1k _ _ e, e]) kt1
      have sta : StA (upd H5 pk (.tup [V.ref p5, V.non])) pk (List.replicate nw 0, .no) := by
        refine ⟨p5, upd_same, ?_⟩
        rw [uk _ _ h5, Int.toNat_natCast]
        have e : ∀ n : Nat, (List.replicate n [V.int 0]).flatten = (List.replicate n (0 : Int)).map V.int := by
          intro n
          induction n with
          | zero => rfl
          | succ n ih =>
            rw [List.replicate_succ, List.flatten_cons, ih]
            rfl
        rw [e]
      refine ⟨d0, pk, [], keyS (List.replicate nw 0, .no), rfl, rfl, dnk d0 (List.mem_cons_self ..), sta.key, by decide, fun H6 oa dn => ?_⟩
      have nd0 : H d0 = none := (h4 d0 (List.mem_cons_self ..)).1
      have d0D : D ≠ d0 := (h4 d0 (List.mem_cons_self ..)).2.1.symm
      have l00 : H1 l0 = none := hl0
      have hl6 : H6 l0 = some (.lst []) := by
        have e := (uq.trans (Same.trans s5 uk)) _ _ (upd_same (H := H1) (a := l0) (o := HO.lst []))
        rw [oa l0 (fun z => by rw [z] at e; exact dn_lst (dnk d0 (List.mem_cons_self ..)) _ e)]
        exact e
      have Y0 : Ly P w H H6 D (init0 x.length nw) (d0 :: dr) ([l0] :: List.replicate x.length []) := by
        refine ly_init (by rw [oa D d0D]; exact s1k _ _ h1) hD (fun b o z => ?_) (by simpa using h2) h3 (fun d hd => (h4 d hd).1) dn (fun d hd => ?_) hl6 (same_none hS hl0) (fun z => by rw [z, h1] at hl0; cases hl0)
        · rw [oa b (ne_of_none z nd0)]
          exact s1k _ _ (hS _ _ z)
        · have nd := dnk d (List.mem_cons_of_mem _ hd)
          refine nd.keep (oa d fun z => (List.nodup_cons.mp h3).1 (z ▸ hd)) fun b ys e => ?_
          rw [oa b fun z => dn_tup (dnk d0 (List.mem_cons_self ..)) _ (by rw [← z]; exact e)]
          exact e
      clear dn hl6 dnk sta kt1
      generalize hds : d0 :: dr = ds at Y0
      clear hds
      generalize [l0] :: List.replicate x.length [] = as at Y0
      refine ⟨_, rfl, x, rfl, hl, _, rfl, by omega, by omega, for_it walk_range (fun i σ H' => ∃ (v3 v5 v6 v7 v8 v9 v10 : Option V) (as : List (List Addr)), σ = [some (.ref f), some (.str x), some (.int (nw : Int)), v3, some (.ref D), v5, v6, v7, v8, v9, v10] ∧
        Ly P w H H' D (trF fr x nw i) ds as ∧ Wl fr x nw last (trF fr x nw i) ∧ tot (trF fr x nw i) ≤ i * 51840) ⟨none, none, none, none, none, none, none, as, rfl, Y0, wl_init fr x nw last, by rw [show trF fr x nw 0 = init0 x.length nw from rfl, tot_init]; omega⟩ (fun _ _ _ _ _ => trivial) ?_ ?_⟩
      · clear Y0 as
        rintro i y σ Hz H3 hi ⟨v3, v5, v6, v7, v8, v9, v10, as, rfl, Y, W, tt⟩ ⟨rfl, rfl⟩
        have ev : (fun i : Nat => V.int (0 + (i : Int))) i = V.int (i : Int) := by
          show V.int (0 + (i : Int)) = _
          rw [Int.zero_add]
        rw [ev]
        have hi : i < x.length := by simpa using hi
        refine ⟨_, rfl, _, rfl, _, rfl, _, rfl, f, fr, last, x, i, nw, rfl, fa.same Y.s, fm, x60, by omega, n3, fun H4 pF F4 => ?_⟩
        have Y4 := Y.same F4.s
        obtain ⟨tf, ef, af⟩ := F4.e
        rw [trF_succ]
        have hLs : (trF fr x nw i)[i]? = some ((trF fr x nw i)[i]'(by rw [W.len]; omega)) := List.getElem?_eq_getElem _
        generalize (trF fr x nw i)[i]'(by rw [W.len]; omega) = L at hLs
        generalize hTr : trF fr x nw i = Ls at Y Y4 W tt hLs
        have jd : i < ds.length := by rw [Y.dl, W.len]; omega
        have ja : i < as.length := by rw [Y.al, W.len]; omega
        have hd := List.getElem?_eq_getElem jd
        have ha := List.getElem?_eq_getElem ja
        generalize ds[i] = d at hd
        generalize as[i] = a at ha
        obtain ⟨la, dn⟩ := Y4.dd i d L a hd hLs ha
        have kl : a.length = (L.map (·.1)).length := by rw [List.length_map]; exact la
        refine ⟨_, rfl, _, rfl, D, _, (i : Int), .ref d, rfl, rfl, SqL.of Y4.hp, atI_nat (by rw [List.getElem?_map, hd]; rfl), d, _, rfl, dn.rd, fun pS bs hS keys => ⟨pS, rfl, ⟨_, SqL.of upd_same⟩, ?_⟩⟩
        have uS := same_upd (o := HO.lst (bs.map V.ref)) hS
        have Y5 := Y4.same uS
        obtain ⟨HB, YB, sB, kB, eB⟩ := Y5.rebase
        have nwn : ∀ {c : Addr} {Hx : Hp} {asx : List (List Addr)} {Lx : List Layer}, Ly P w H Hx D Lx ds asx → Hx c = none → c ≠ D ∧ (∀ d ∈ ds, c ≠ d) ∧ ∀ (j i : Nat) a b, asx[j]? = some a → a[i]? = some b → c ≠ b := fun {c Hx asx Lx} y h => by
          refine ⟨fun z => ?_, fun d hd z => ?_, fun j i a b h1 h2 z => ?_⟩
          · rw [z, y.hp] at h; cases h
          · obtain ⟨_, _, _, _, _, _, _, dn⟩ := y.dsome hd
            obtain ⟨o, e⟩ := dn_some dn
            rw [z, e] at h; cases h
          · obtain ⟨ts, e⟩ := y.lsome h1 h2
            rw [z, e] at h; cases h
        have bF : HB pF = some (.lst (tf.map V.ref)) := by
          obtain ⟨c1, c2, c3⟩ := nwn Y F4.n
          exact eB pF _ (uS _ _ ef) c1 c2 c3
        have bS : HB pS = some (.lst (bs.map V.ref)) := by
          obtain ⟨c1, c2, c3⟩ := nwn Y4 hS
          exact eB pS _ upd_same c1 c2 c3
        have kF : KeepT H4 HB := fun c xs e => kB _ _ (uS _ _ e)
        have aF : At2 HB tf (fitsF fr x i nw) := af.keep kF
        have eOk : ∀ e ∈ fitsF fr x i nw, EOk fr x nw i e := fitsF_ok (Nat.le_refl _)
        have lF : (fitsF fr x i nw).length ≤ 48 := by
          have a := fitsF_len fr x i nw
          have l1 := fm.l1
          have b : nw * fr.length ≤ 3 * 16 := Nat.mul_le_mul n3 l1
          omega
        have lK : (L.map (·.1)).length ≤ 1080 := by rw [List.length_map]; exact layer_few n3 fm.l5 (W.nd i L hLs) (W.so i L hLs)
        have lB := keysN_len kl keys
        have eP : perI fr x nw Ls i = (L.map (·.1)).foldl (perS fr x nw i) Ls := by unfold perI; rw [getD_at hLs]
        rw [eP]
        refine for_it (walk_list (xs := bs.map V.ref)) (fun k σ H' => ∃ (v6 v7 v8 v9 v10 : Option V) (as : List (List Addr)), σ = [some (.ref f), some (.str x), some (.int (nw : Int)), some (.int (i : Int)), some (.ref D), some (.ref pF), v6, v7, v8, v9, v10] ∧
          Ly P w HB H' D (((L.map (·.1)).take k).foldl (perS fr x nw i) Ls) ds as ∧ Wl fr x nw last (((L.map (·.1)).take k).foldl (perS fr x nw i) Ls) ∧ tot (((L.map (·.1)).take k).foldl (perS fr x nw i) Ls) ≤ i * 51840 + k * 48 ∧
          ∀ s ∈ L.map (·.1), ∃ L', (((L.map (·.1)).take k).foldl (perS fr x nw i) Ls)[i]? = some L' ∧ s ∈ L'.map (·.1))
          ⟨v6, v7, v8, v9, v10, as, rfl, YB, W, Nat.le_trans tt (Nat.le_add_right _ _), fun s hs => ⟨L, hLs, hs⟩⟩ (fun k σ H' _ ⟨_, _, _, _, _, _, _, y, _⟩ => SqL.of (y.s _ _ bS)) ?_ ?_
        · clear YB Y5 Y4
          rintro k y σ Hz H6 hk ⟨v6, v7, v8, v9, v10, as, rfl, Y, W, tt, ky⟩ ⟨rfl, hy⟩
          have hk2 : k < bs.length := by simpa using hk
          obtain ⟨b, hb, rfl⟩ : ∃ b, bs[k]? = some b ∧ y = .ref b := by
            have hy : (bs.map V.ref)[k]? = some y := hy
            rw [List.getElem?_map, List.getElem?_eq_getElem hk2] at hy
            exact ⟨_, List.getElem?_eq_getElem hk2, (Option.some.inj hy).symm⟩
          have hks : (L.map (·.1))[k]? = some ((L.map (·.1))[k]'(by omega)) := List.getElem?_eq_getElem _
          generalize (L.map (·.1))[k]'(by omega) = s0 at hks
          have stB : StA HB b s0 := (keysN_at kl keys hb hks).keep kF
          have s0ok : StOk nw last s0 := by
            obtain ⟨L', h1, h2⟩ := ky s0 (List.mem_of_getElem? hks)
            obtain ⟨e, he, rfl⟩ := List.mem_map.mp h2
            exact W.so i L' h1 e he
          rw [fold_one hks]
          have ms := List.mem_of_getElem? hks
          generalize ((L.map (·.1)).take k).foldl (perS fr x nw i) Ls = Lk at Y W tt ky
          refine ⟨_, rfl, pF, rfl, ⟨_, SqL.of (Y.s _ _ bF)⟩, for_it (walk_list (xs := tf.map V.ref)) (fun j σ H' => ∃ (v7 v8 v9 v10 : Option V) (as : List (List Addr)), σ = [some (.ref f), some (.str x), some (.int (nw : Int)), some (.int (i : Int)), some (.ref D), some (.ref pF), some (.ref b), v7, v8, v9, v10] ∧
            Ly P w HB H' D (((fitsF fr x i nw).take j).foldl (perE fr i s0) Lk) ds as ∧ Wl fr x nw last (((fitsF fr x i nw).take j).foldl (perE fr i s0) Lk) ∧ tot (((fitsF fr x i nw).take j).foldl (perE fr i s0) Lk) ≤ i * 51840 + k * 48 + j ∧
            ∀ s ∈ L.map (·.1), ∃ L', (((fitsF fr x i nw).take j).foldl (perE fr i s0) Lk)[i]? = some L' ∧ s ∈ L'.map (·.1))
            ⟨v7, v8, v9, v10, as, rfl, Y, W, Nat.le_trans tt (Nat.le_add_right _ _), ky⟩ (fun k σ H' _ ⟨_, _, _, _, _, _, y, _⟩ => SqL.of (y.s _ _ bF)) ?_ ?_⟩
          · clear Y W tt ky
            rintro j y σ Hz H7 hj ⟨v7, v8, v9, v10, as, rfl, Y, W, tt, ky⟩ ⟨rfl, hy⟩
            have hj2 : j < tf.length := by simpa using hj
            obtain ⟨te, hte, rfl⟩ : ∃ te, tf[j]? = some te ∧ y = .ref te := by
              have hy : (tf.map V.ref)[j]? = some y := hy
              rw [List.getElem?_map, List.getElem?_eq_getElem hj2] at hy
              exact ⟨_, List.getElem?_eq_getElem hj2, (Option.some.inj hy).symm⟩
            have hej : (fitsF fr x i nw)[j]? = some ((fitsF fr x i nw)[j]'(by rw [← aF.1]; exact hj2)) := List.getElem?_eq_getElem _
            generalize (fitsF fr x i nw)[j]'(by rw [← aF.1]; exact hj2) = e at hej
            have e2 := aF.2 j te e hte hej
            have eo := eOk e (List.mem_of_getElem? hej)
            rw [fold_one hej]
            generalize ((fitsF fr x i nw).take j).foldl (perE fr i s0) Lk = Lj at Y W tt ky
            obtain ⟨ts, tp, hf, hta, h3, hm⟩ := stt_at (fa.same (sB.trans Y.s)) eo.b0 eo.b1
            have stp := fm.stp _ hm
            have lo := fm.lo _ hm
            have pl := pc_len stp.2.2.1
            obtain ⟨sp, es1, es2⟩ := stB
            have sl3 : s0.1.length = nw := s0ok.l
            refine ⟨te, _, rfl, SqT.of (Y.s _ _ e2), rfl, _, _, rfl, _, _, rfl, rfl, ?_⟩
            refine ⟨_, rfl, _, rfl, f, _, e.2, .ref tp, rfl, rfl, SqT.of hf, hta, tp, _, 0, _, rfl, rfl, SqT.of h3, atI_nat (j := 0) rfl, _, rfl, b, _, 0, .ref sp, rfl, rfl, SqT.of (Y.s _ _ es1), atI_nat (j := 0) rfl, _, rfl, sp, _, e.1, .int (stdS s0 e.1), rfl, rfl, SqT.of (Y.s _ _ es2), stdS_at eo.a0 (by rw [sl3]; exact eo.a1), rfl, _, rfl, ?_⟩
            by_cases c : (stt fr e.2).1 = stdS s0 e.1
            · refine iteT' (by rw [c]; exact decide_eq_true rfl) ?_
              have fe := fit_end eo.f pl.1
              have hj3 : i + (stt fr e.2).2.1.length < Lj.length := by rw [W.len]; omega
              have hL3 : Lj[i + (stt fr e.2).2.1.length]? = some (Lj[i + (stt fr e.2).2.1.length]) := List.getElem?_eq_getElem hj3
              generalize Lj[i + (stt fr e.2).2.1.length] = L3 at hL3
              have hd3 : ds[i + (stt fr e.2).2.1.length]? = some (ds[i + (stt fr e.2).2.1.length]'(by rw [Y.dl]; exact hj3)) := List.getElem?_eq_getElem _
              generalize ds[i + (stt fr e.2).2.1.length]'(by rw [Y.dl]; exact hj3) = d3 at hd3
              have ha3 : as[i + (stt fr e.2).2.1.length]? = some (as[i + (stt fr e.2).2.1.length]'(by rw [Y.al]; exact hj3)) := List.getElem?_eq_getElem _
              generalize as[i + (stt fr e.2).2.1.length]'(by rw [Y.al]; exact hj3) = a3 at ha3
              refine ⟨_, rfl, _, rfl, _, rfl, _, rfl, f, _, e.2, .ref tp, rfl, rfl, SqT.of hf, hta, tp, _, 1, _, rfl, rfl, SqT.of h3, atI_nat (j := 1) rfl, (stt fr e.2).2.1, rfl, by rw [sizeLine_eq]; omega, _, _, rfl, rfl, D, _, _, .ref d3, rfl, rfl, SqL.of Y.hp, atI_nat (j := i + (stt fr e.2).2.1.length) (by rw [List.getElem?_map, hd3]; rfl), ?_⟩
              refine ⟨_, rfl, _, rfl, _, rfl, _, rfl, f, _, e.2, .ref tp, rfl, rfl, SqT.of hf, hta, b, tp, s0, e.1, stt fr e.2, rfl, ⟨sp, Y.s _ _ es1, Y.s _ _ es2⟩, h3, eo.a0, by rw [sl3]; exact eo.a1, by rw [sl3]; exact n3, fun H8 pb s8 st8 => ?_⟩
              have Y8 := Y.same s8
              have hea : perE fr i s0 Lj e = Lj.set (i + (stt fr e.2).2.1.length) (putL L3 (behS s0 e.1 (stt fr e.2)) (i, s0, e)) := by
                have z : perE fr i s0 Lj e = addT Lj (i + (stt fr e.2).2.1.length) (behS s0 e.1 (stt fr e.2)) (i, s0, e) := if_pos c
                rw [z, addT_at hL3]
              have kOk : StOk nw last (behS s0 e.1 (stt fr e.2)) := behS_ok s0ok eo.a0 eo.a1 ⟨stp.2.2.2.1, lo.2⟩
              have W8 := W.add (t := (i, s0, e)) hL3 kOk ⟨eo, ky s0 ms, c, rfl, rfl⟩
              have T8 : tot (Lj.set (i + (stt fr e.2).2.1.length) (putL L3 (behS s0 e.1 (stt fr e.2)) (i, s0, e))) = tot Lj + 1 := tot_set hL3 (totL_put _ _ _)
              have ky8 : ∀ s ∈ L.map (·.1), ∃ L', (Lj.set (i + (stt fr e.2).2.1.length) (putL L3 (behS s0 e.1 (stt fr e.2)) (i, s0, e)))[i]? = some L' ∧ s ∈ L'.map (·.1) := fun s hs => Wl.keyed (fr := fr) (x := x) (nw := nw) (last := last) hL3 (ky s hs)
              rw [hea]
              have pc := putL_cases (behS s0 e.1 (stt fr e.2)) (i, s0, e) L3
              generalize putL L3 (behS s0 e.1 (stt fr e.2)) (i, s0, e) = L4 at W8 T8 ky8 pc ⊢
              generalize hj4 : i + (stt fr e.2).2.1.length = j4 at hL3 hd3 ha3 W8 T8 ky8
              obtain ⟨la3, dn8⟩ := Y8.dd j4 d3 L3 a3 hd3 hL3 ha3
              have l3 : L3.length ≤ 1080 := layer_few n3 fm.l5 (W.nd j4 L3 hL3) (W.so j4 L3 hL3)
              have kl3 : a3.length = (L3.map (·.1)).length := by rw [List.length_map]; exact la3
              generalize behS s0 e.1 (stt fr e.2) = kk at st8 pc
              refine ⟨_, rfl, d3, _, rfl, dn8.rd, _, rfl, by decide, fun l0 hl0 => ?_⟩
              have u9 := same_upd (o := HO.lst []) hl0
              have Y9 := Y8.same u9
              have dn9 := (Y9.dd j4 d3 L3 a3 hd3 hL3 ha3).2
              refine ⟨pb, _, keyS kk, rfl, dn9, (st8.keep (Same.keepT u9)).key, by rw [kvF_len kl3, List.length_map, sizeLine_eq]; omega, fun v hv => ?_, fun hn H10 oa dn10 => ?_⟩
              · rcases pc with ⟨i3, e3, q1, q2, q3⟩ | ⟨q1, _⟩
                · have ib : i3 < a3.length := by rw [la3]; exact (List.getElem?_eq_some_iff.mp q1).1
                  have hb3 := List.getElem?_eq_getElem ib
                  generalize a3[i3] = b3 at hb3
                  have hk3 : (L3.map (·.1))[i3]? = some kk := by rw [List.getElem?_map, q1, ← q2]; rfl
                  rw [kvF_at (W.nd j4 L3 hL3) hk3 hb3] at hv
                  cases hv
                  obtain ⟨⟨t3, eb, at3⟩, _⟩ := Y9.ll j4 L3 a3 i3 b3 e3 hL3 ha3 hb3 q1
                  refine ⟨.inl ⟨rfl, _, SqL.of eb⟩, _, rfl, _, rfl, _, rfl, _, rfl, (by show 2 ≤ sizeLine; decide), fun p1 hp1 => ⟨(by show 3 ≤ sizeLine; decide), fun p2 hp2 => ?_⟩⟩
                  have v1 := same_upd (o := HO.tup [V.int e.1, V.int e.2]) hp1
                  have v2 := same_upd (o := HO.tup [V.int (i : Int), V.ref b, V.ref p1]) hp2
                  have Y11 := (Y9.same v1).same v2
                  have eb2 := v2 _ _ (v1 _ _ eb)
                  have lt3 : t3.length ≤ 16000000 := by
                    rw [at3.1]
                    have a1 := len_totL (List.mem_of_getElem? q1)
                    have a2 := totL_tot (List.mem_of_getElem? hL3)
                    have a4 : i * 51840 ≤ 60 * 51840 := Nat.mul_le_mul (by omega) (Nat.le_refl _)
                    have a5 : k * 48 ≤ 1080 * 48 := Nat.mul_le_mul (by omega) (Nat.le_refl _)
                    have a6 : j ≤ 48 := by
                      have := (List.getElem?_eq_some_iff.mp hej).1
                      omega
                    omega
                  refine ⟨b3, t3.map V.ref, _, rfl, rfl, eb2, by rw [List.length_map, sizeLine_eq]; omega, ?_⟩
                  have tr : TrA (upd (upd (upd H8 l0 (.lst [])) p1 (.tup [V.int e.1, V.int e.2])) p2 (.tup [V.int (i : Int), V.ref b, V.ref p1])) p2 (i, s0, e) := by
                    refine ⟨b, p1, upd_same, StA.keep (H := HB) ⟨sp, es1, es2⟩ fun c xs z => ?_, v2 _ _ upd_same⟩
                    exact v2 _ _ (v1 _ _ (u9 _ _ (s8 _ _ (Y.s _ _ z))))
                  have Y12 := Y11.old hL3 ha3 hb3 q1 eb2 (at3.keep ((Same.keepT v1).trans (Same.keepT v2))) tr
                  rw [q2, ← q3] at Y12
                  exact ⟨_, _, _, _, as, rfl, Y12, W8, by rw [T8]; omega, ky8⟩
                · rw [kvF_none q1] at hv
                  cases hv
              · rcases pc with ⟨i3, e3, q1, q2, q3⟩ | ⟨q1, q3⟩
                · have ib : i3 < a3.length := by rw [la3]; exact (List.getElem?_eq_some_iff.mp q1).1
                  have hk3 : (L3.map (·.1))[i3]? = some kk := by rw [List.getElem?_map, q1, ← q2]; rfl
                  rw [kvF_at (W.nd j4 L3 hL3) hk3 (List.getElem?_eq_getElem ib)] at hn
                  cases hn
                · obtain ⟨o3, eo3⟩ := dn_some dn8
                  have nl0 : l0 ≠ d3 := fun z => by rw [z, eo3] at hl0; cases hl0
                  have hl10 : H10 l0 = some (.lst []) := by
                    rw [oa l0 nl0]
                    exact upd_same
                  refine ⟨.inl ⟨rfl, _, SqL.of hl10⟩, _, rfl, _, rfl, _, rfl, _, rfl, (by show 2 ≤ sizeLine; decide), fun p1 hp1 => ⟨(by show 3 ≤ sizeLine; decide), fun p2 hp2 => ?_⟩⟩
                  have v1 := same_upd (o := HO.tup [V.int e.1, V.int e.2]) hp1
                  have v2 := same_upd (o := HO.tup [V.int (i : Int), V.ref b, V.ref p1]) hp2
                  have el := v2 _ _ (v1 _ _ hl10)
                  refine ⟨l0, [], _, rfl, rfl, el, by decide, ?_⟩
                  have keepC : ∀ c o, H8 c = some o → c ≠ d3 → upd (upd (upd H10 p1 (.tup [V.int e.1, V.int e.2])) p2 (.tup [V.int (i : Int), V.ref b, V.ref p1])) l0 (.lst ([] ++ [V.ref p2])) c = some o := fun c o z nz => by
                    rw [upd_ne (ne_of_none z hl0)]
                    have z9 : H10 c = some o := by rw [oa c nz]; exact u9 _ _ z
                    exact v2 _ _ (v1 _ _ z9)
                  have k10 : KeepT H10 (upd (upd (upd H10 p1 (.tup [V.int e.1, V.int e.2])) p2 (.tup [V.int (i : Int), V.ref b, V.ref p1])) l0 (.lst ([] ++ [V.ref p2]))) := ((Same.keepT v1).trans (Same.keepT v2)).trans (keepT_upd el (fun xs z => by cases z))
                  have k8 : KeepT H8 (upd (upd (upd H10 p1 (.tup [V.int e.1, V.int e.2])) p2 (.tup [V.int (i : Int), V.ref b, V.ref p1])) l0 (.lst ([] ++ [V.ref p2]))) := fun c xs z => keepC c _ z fun y => dn_tup dn8 xs (by rw [← y]; exact z)
                  have dB : HB d3 = none := Y8.n0 d3 (List.mem_of_getElem? hd3)
                  have DD : D ≠ d3 := fun z => by
                    have := Y8.hp
                    rw [z] at this
                    exact dn_lst dn8 _ this
                  have tr : TrA (upd (upd (upd H10 p1 (.tup [V.int e.1, V.int e.2])) p2 (.tup [V.int (i : Int), V.ref b, V.ref p1])) l0 (.lst ([] ++ [V.ref p2]))) p2 (i, s0, e) := by
                    have p2l : p2 ≠ l0 := fun z => by
                      have := v1 _ _ hl10
                      rw [← z, hp2] at this
                      cases this
                    have p1l : p1 ≠ l0 := fun z => by rw [z, hl10] at hp1; cases hp1
                    refine ⟨b, p1, by rw [upd_ne p2l]; exact upd_same, StA.keep (H := HB) ⟨sp, es1, es2⟩ fun c xs z => k8 _ _ (s8 _ _ (Y.s _ _ z)), ?_⟩
                    show upd _ l0 _ p1 = _
                    rw [upd_ne p1l]
                    exact v2 _ _ upd_same
                  have Y13 := Y8.new (k := kk) (u := (i, s0, e)) hd3 hL3 ha3 hl0 (fun c o z => keepC c o (Y8.s _ _ z) (ne_of_none z dB)) k8 (by rw [Y8.hp]; exact keepC _ _ Y8.hp DD)
                    (fun c hc nc => by
                      obtain ⟨_, _, _, _, _, _, _, dz⟩ := Y8.dsome hc
                      obtain ⟨o, ez⟩ := dn_some dz
                      rw [ez]
                      exact keepC c o ez nc)
                    (fun j5 i5 a5 c h1 h2 => by
                      obtain ⟨t5, ez⟩ := Y8.lsome h1 h2
                      rw [ez]
                      exact keepC c _ ez fun z => dn_lst dn8 _ (by rw [← z]; exact ez))
                    (by
                      rw [kvF_snoc kl3, ← putK_new (V.ref l0) hn]
                      exact dn10.keep (by
                        obtain ⟨o, ez⟩ := dn_some dn10
                        rw [upd_ne (fun z => nl0 z.symm), ez]
                        exact v2 _ _ (v1 _ _ ez)) k10)
                    (trs_one upd_same tr)
                  rw [← q3] at Y13
                  exact ⟨_, _, _, _, _, rfl, Y13, W8, by rw [T8]; omega, ky8⟩
            · refine iteF' (decide_eq_false fun z => c (by injection z)) ?_
              have ep : perE fr i s0 Lj e = Lj := if_neg c
              rw [ep]
              exact ⟨_, _, _, _, as, rfl, Y, W, Nat.le_trans tt (Nat.le_succ _), ky⟩
          · rintro σ H7 ⟨v7, v8, v9, v10, as, rfl, Y, W, tt, ky⟩
            rw [List.length_map, aF.1, List.take_length] at Y W tt ky
            exact ⟨_, _, _, _, _, as, rfl, Y, W, by rw [show (k + 1) * 48 = k * 48 + 48 by omega]; exact Nat.le_trans tt (by omega), ky⟩
        · rintro σ H6 ⟨v6, v7, v8, v9, v10, as, rfl, Y, W, tt, ky⟩
          rw [List.length_map, lB, List.take_length] at Y W tt
          refine ⟨_, _, _, _, _, _, _, as, rfl, Y.weak sB, W, Nat.le_trans tt ?_⟩
          have : (L.map (·.1)).length * 48 ≤ 1080 * 48 := Nat.mul_le_mul lK (Nat.le_refl _)
          omega
      · rintro σ H2 ⟨v3, v5, v6, v7, v8, v9, v10, as, rfl, Y, W, tt⟩
        rw [Int.toNat_natCast] at Y W
        exact ⟨_, rfl, q H2 D ds as Y W⟩
end
end K35

set_option Elab.async false
set_option linter.all false
set_option maxRecDepth 100000
set_option maxHeartbeats 8000000
/-! checked_traces, possible. -/
namespace K35
open PySem L2 L2.EV
abbrev sChecked : Stmt := top 30
abbrev sPossible : Stmt := top 31
/-- what is asked of the arguments -/
structure Ags (H : Hp) (vs : List V) (fr : List T3) (o : Option (Str × Nat)) : Prop where
  ex : ∃ (f : Addr) (last : Nat) (v u : V) (d1 d2 : PyData), vs = [.ref f, v, u] ∧ FrA H f fr ∧ Frm fr last ∧ Da H v d1 ∧ Shrt d1 ∧ Da H u d2 ∧
    o = match fileT d1, fewD d2 with
      | some x, some n => some (x, n.toNat)
      | _, _ => none
def spChecked (P : Program) (w : World) (C : Addr) : Sp := fun vs H Q E => ∃ (fr : List T3) (o : Option (Str × Nat)), Ags H vs fr o ∧ match o with
  | some (x, nw) => ∀ last H' p ds as, Frm fr last → x.length ≤ 60 → 1 ≤ nw → nw ≤ 3 → Ly P w H H' p (trF fr x nw x.length) ds as → Wl fr x nw last (trF fr x nw x.length) → Q (.ref p) H'
  | none => Eo C E H
theorem at_end2 {ds : List Addr} {n : Nat} {d : Addr} (hl : ds.length = n + 1) (hd : ds[n]? = some d) : atI (ds.map V.ref) (-1) = some (.ref d) := by
  have e : ds = ds.take n ++ [d] := by
    have := take_one hd
    rw [List.take_of_length_le (by omega)] at this
    exact this
  rw [e, List.map_append]
  exact atI_last _ _
def endF (fr : List T3) (x : Str) (nw : Nat) : Layer := (trF fr x nw x.length).getD x.length []
def possF (fr : List T3) (x : Str) (nw : Nat) : Bool := decide (0 < (endF fr x nw).length)
def spPossible (C : Addr) : Sp := fun vs H Q E => ∃ (fr : List T3) (o : Option (Str × Nat)), Ags H vs fr o ∧ match o with
  | some (x, nw) => ∀ H', Same H H' → Q (.bl (possF fr x nw)) H'
  | none => Eo C E H
structure Cf (K : PySem.W.Frag) (mg : Str → Option Value) where
  T : Tf K mg
  f : Addr
  d : FuncData
  F : Fun K "checked_traces" "checked_traces" sChecked f d
  b : Binds K d ["framing", "text", "writers"] []
  m : mg "checked_traces" = some (.ref f)
section
variable {P : Program} {w : World} {K : PySem.W.Frag} {mg : Str → Option Value} {base : Heap}
theorem scChecked : FnScope ["framing", "text", "writers"] ["framing", "text", "writers"] (defScope sChecked) := ⟨rfl, rfl, rfl, by decide +kernel, rfl, by decide +kernel, by decide +kernel⟩
theorem scPossible : FnScope ["framing", "text", "writers"] ["framing", "text", "writers"] (defScope sPossible) := ⟨rfl, rfl, rfl, by decide +kernel, rfl, by decide +kernel, by decide +kernel⟩
theorem ok_checked (T : Cf K mg) : FnOk P w K mg base (L2.CX P w) 5 T.f T.d ["framing", "text", "writers"] (spChecked P w T.T.G.S.Y.O.C) := by
  have GN : FnOk P w K mg base CX0 3 T.T.G.S.Y.Z.fF T.T.G.S.Y.Z.dF ["thing"] spNeedF := ok_needF T.T.G.S.Y.Z
  have GT : FnOk P w K mg base (L2.CX P w) 4 T.T.G.S.Y.fT T.T.G.S.Y.dT ["thing"] (spNFT T.T.G.S.Y.O.C) := ok_NFT T.T.G.S.Y
  have GW : FnOk P w K mg base (L2.CX P w) 4 T.T.G.S.Y.fW T.T.G.S.Y.dW ["thing"] (spNFW T.T.G.S.Y.O.C) := ok_NFW T.T.G.S.Y
  have GR : FnOk P w K mg base CX0 3 T.T.f T.T.d ["framing", "text", "writers"] (spTraces P w) := ok_traces T.T
  refine T.F.okX scChecked (fun vs H Q E h => ?_) (fun cdv A outer s H vs Q E hr h => ?_)
  · obtain ⟨fr, o, ⟨f, last, v, u, d1, d2, rfl, _⟩, _⟩ := h
    rfl
  · obtain ⟨fr, o, ⟨f, last, v, u, d1, d2, rfl, fa, fm, da, sh, db, eo⟩, q⟩ := h
    refine ⟨_, pss_cons (ps_expr (pe_call GN (hr.mono (by omega)) (by rfl) T.T.G.S.Y.Z.mF T.T.G.S.Y.Z.F.kp T.T.G.S.Y.Z.bF .nil pass0 (pa_cons (pv 0) pa_nil)))
      (pss_cons (ps_expr (pe_call GT hr (by rfl) T.T.G.S.Y.mT T.T.G.S.Y.T.kp T.T.G.S.Y.bT .nil (passes_call (E := E) (takes_of rfl rfl rfl rfl) fun _ _ _ _ h => h) (pa_cons (pv 1) pa_nil)))
      (pss_cons (ps_expr (pe_call GW hr (by rfl) T.T.G.S.Y.mW T.T.G.S.Y.W.kp T.T.G.S.Y.bW .nil (passes_call (E := E) (takes_of rfl rfl rfl rfl) fun _ _ _ _ h => h) (pa_cons (pv 2) pa_nil)))
      (pss_one (ps_ret (pe_call GR (hr.mono (by omega)) (by rfl) T.T.m T.T.F.kp T.T.b .nil pass0 (pa_cons (pv 0) (pa_cons (pv 1) (pa_cons (pv 2) pa_nil)))))))), ?_⟩
    refine ⟨_, rfl, f, fr, last, rfl, fa, fm, fun H1 s1 => ?_⟩
    refine ⟨_, rfl, v, d1, rfl, Da.same s1 _ _ da, sh, ?_⟩
    cases e1 : fileT d1 with
    | none =>
      rw [e1] at eo
      have eo : o = none := by rw [eo]
      rw [eo] at q
      exact Eo.same q s1
    | some x =>
      intro H2 s2
      have s12 := Same.trans s1 s2
      refine ⟨_, rfl, u, d2, rfl, Da.same s12 _ _ db, ?_⟩
      cases e2 : fewD d2 with
      | none =>
        rw [e1, e2] at eo
        have eo : o = none := eo
        rw [eo] at q
        exact Eo.same q s12
      | some n =>
        intro H3 s3
        have s13 := Same.trans s12 s3
        rw [e1, e2] at eo
        have eo : o = some (x, n.toNat) := eo
        rw [eo] at q
        obtain ⟨rfl, x60, _⟩ := fileT_some e1
        obtain ⟨rfl, n1, n3⟩ := fewD_some e2
        obtain rfl : v = .str x := by cases da; rfl
        obtain rfl : u = .int n := by cases db; rfl
        obtain ⟨k, rfl⟩ := Int.eq_ofNat_of_zero_le (show 0 ≤ n by omega)
        refine ⟨_, rfl, _, rfl, _, rfl, f, fr, last, x, k, rfl, fa.same s13, fm, x60, by omega, by omega, fun H' p ds as Y W => ?_⟩
        exact q last H' p ds as fm x60 (by omega) (by omega) (Y.weak s13) W
theorem ok_possible (T : Cf K mg) {f : Addr} {d : FuncData} (F : Fun K "possible" "possible" sPossible f d) : FnOk P w K mg base (L2.CX P w) 6 f d ["framing", "text", "writers"] (spPossible T.T.G.S.Y.O.C) := by
  have GC : FnOk P w K mg base (L2.CX P w) 5 T.f T.d ["framing", "text", "writers"] (spChecked P w T.T.G.S.Y.O.C) := ok_checked T
  refine F.okX scPossible (fun vs H Q E h => ?_) (fun cdv A outer s H vs Q E hr h => ?_)
  · obtain ⟨fr, o, ⟨f, last, v, u, d1, d2, rfl, _⟩, _⟩ := h
    rfl
  · obtain ⟨fr, o, ag, q⟩ := h
    obtain ⟨f, last, v, u, d1, d2, rfl, _⟩ := id ag.ex
    refine ⟨_, pss_one (ps_ret (pe_cmpR op_gt (pe_callB (call_len_dN (B := false)) (by rfl) T.T.G.S.Y.Z.T.len PySem.boot_len (pa_cons (pe_ix ix_list (pe_call GC hr (by rfl) T.m T.F.kp T.b .nil (passes_call (E := E) (takes_of rfl rfl rfl rfl) fun _ _ _ _ h => h) (pa_cons (pv 0) (pa_cons (pv 1) (pa_cons (pv 2) pa_nil)))) (pe_un un_neg pe_int) (fun _ _ => rfl)) pa_nil)) pe_int (nomark _))), ?_⟩
    refine ⟨_, rfl, _, rfl, _, rfl, fr, o, ag, ?_⟩
    cases o with
    | none => exact q
    | some o =>
      obtain ⟨x, nw⟩ := o
      intro last H' p ds as fm x60 n1 n3 Y W
      have jL : x.length < (trF fr x nw x.length).length := by rw [W.len]; omega
      have hL := List.getElem?_eq_getElem jL
      generalize (trF fr x nw x.length)[x.length] = L at hL
      have hd : ds[x.length]? = some (ds[x.length]'(by rw [Y.dl]; exact jL)) := List.getElem?_eq_getElem _
      generalize ds[x.length]'(by rw [Y.dl]; exact jL) = dl at hd
      have ha : as[x.length]? = some (as[x.length]'(by rw [Y.al]; exact jL)) := List.getElem?_eq_getElem _
      generalize as[x.length]'(by rw [Y.al]; exact jL) = al at ha
      obtain ⟨la, dn⟩ := Y.dd _ _ _ _ hd hL ha
      refine ⟨_, rfl, p, _, -1, .ref dl, rfl, rfl, SqL.of Y.hp, at_end2 (by rw [Y.dl, W.len]) hd, dl, _, rfl, dn.rd, _, _, rfl, rfl, ?_⟩
      have z := q H' Y.s
      have e : possF fr x nw = decide ((0 : Int) < (((kvF (L.map (·.1)) al).length : Nat) : Int)) := by
        unfold possF endF
        rw [kvF_len (by rw [List.length_map]; exact la), List.length_map, getD_at hL]
        by_cases c : 0 < L.length
        · rw [decide_eq_true c, decide_eq_true (by omega)]
        · rw [decide_eq_false c, decide_eq_false (by omega)]
      rw [e] at z
      exact z
end
end K35

set_option Elab.async false
set_option linter.all false
set_option maxRecDepth 100000
set_option maxHeartbeats 8000000
/-! explained. -/
namespace K35
open PySem L2 L2.EV
abbrev sExplained : Stmt := top 32
def seek : Layer → Sx → List Trip
  | [], _ => []
  | e :: L, s => if e.1 = s then e.2 else seek L s
theorem seek_at : ∀ {L : Layer} {i : Nat} {e : Sx × List Trip}, (L.map (·.1)).Nodup → L[i]? = some e → seek L e.1 = e.2
  | [], _, _, _, h => by simp at h
  | a :: L, 0, e, _, h => by
    have h : a = e := by simpa using h
    subst h
    exact if_pos rfl
  | a :: L, i + 1, e, nd, h => by
    have h : L[i]? = some e := by simpa using h
    obtain ⟨n1, n2⟩ := List.nodup_cons.mp (show (a.1 :: L.map (·.1)).Nodup from nd)
    have ne : ¬ a.1 = e.1 := fun z => n1 (by rw [z]; exact List.mem_map.mpr ⟨e, List.mem_of_getElem? h, rfl⟩)
    have : seek (a :: L) e.1 = seek L e.1 := if_neg ne
    rw [this]
    exact seek_at n2 h
/-- the entries that lead to a state, from the last one back -/
def backF (Ls : List Layer) : Nat → Nat → Sx → List E2
  | 0, _, _ => []
  | n + 1, i, s => if i = 0 then [] else match seek (Ls.getD i []) s with
    | [] => []
    | t :: _ => t.2.2 :: backF Ls n t.1 t.2.1
def exF (fr : List T3) (x : Str) (nw : Nat) : Option (List E2) := match endF fr x nw with
  | [] => none
  | e :: _ => some (backF (trF fr x nw x.length) x.length x.length e.1).reverse
/-- a tuple of entries -/
def WvA (H : Hp) (p : Addr) (es : List E2) : Prop := ∃ ts : List Addr, H p = some (.tup (ts.map V.ref)) ∧ At2 H ts es
def spExplained (C : Addr) : Sp := fun vs H Q E => ∃ (fr : List T3) (o : Option (Str × Nat)), Ags H vs fr o ∧ match o with
  | some (x, nw) => match exF fr x nw with
    | none => ∀ H', Same H H' → Q .non H'
    | some es => ∀ H' p, Same H H' → WvA H' p es → Q (.ref p) H'
  | none => Eo C E H
theorem Fl.add {H0 H : Hp} {l t : Addr} {es : List E2} {ts : List Addr} {e : E2} (h : Fl H0 H l es) (el : H l = some (.lst (ts.map V.ref))) (at_ : At2 H ts es) (ht : A2 H t e) : Fl H0 (upd H l (.lst (ts.map V.ref ++ [.ref t]))) l (es ++ [e]) := by
  have k : KeepT H (upd H l (.lst (ts.map V.ref ++ [.ref t]))) := keepT_upd el (fun xs z => by cases z)
  refine ⟨fun c o z => ?_, h.n, ts ++ [t], by rw [List.map_append]; exact upd_same, At2.snoc (at_.keep k) (k _ _ ht)⟩
  rw [upd_ne (ne_of_none z h.n)]
  exact h.s _ _ z
theorem rev_at {α : Type} {l : List α} {i : Nat} {a : α} (h : l.reverse[i]? = some a) : l[l.length - 1 - i]? = some a := by
  have hi : i < l.length := by
    have := (List.getElem?_eq_some_iff.mp h).1
    simpa using this
  rw [List.getElem?_reverse hi] at h
  exact h
theorem At2.rev {H : Hp} {ts : List Addr} {es : List E2} (h : At2 H ts es) : At2 H ts.reverse es.reverse := by
  refine ⟨by rw [List.length_reverse, List.length_reverse, h.1], fun i t e h1 h2 => ?_⟩
  have h1 := rev_at h1
  have h2 := rev_at h2
  rw [← h.1] at h2
  exact h.2 _ t e h1 h2
theorem stt_mem {fr : List T3} {n : Int} (n0 : 0 ≤ n) (n1 : n < fr.length) : stt fr n ∈ fr := by
  obtain ⟨k, rfl⟩ := Int.eq_ofNat_of_zero_le n0
  have k1 : k < fr.length := by omega
  rw [show stt fr (k : Int) = fr[k] from stn_at (List.getElem?_eq_getElem k1)]
  exact List.getElem_mem k1
section
variable {P : Program} {w : World} {K : PySem.W.Frag} {mg : Str → Option Value} {base : Heap}
abbrev NEx : List Str := ["framing", "text", "writers", "layers", "entries", "at", "state", "entry"]
theorem scExplained : FnScope NEx ["framing", "text", "writers"] (defScope sExplained) := ⟨rfl, rfl, rfl, by decide +kernel, rfl, by decide +kernel, by decide +kernel⟩
theorem ok_explained (T : Cf K mg) (tu : mg "tuple" = none) {f : Addr} {d : FuncData} (F : Fun K "explained" "explained" sExplained f d) : FnOk P w K mg base (L2.CX P w) 6 f d ["framing", "text", "writers"] (spExplained T.T.G.S.Y.O.C) := by
  have GC : FnOk P w K mg base (L2.CX P w) 5 T.f T.d ["framing", "text", "writers"] (spChecked P w T.T.G.S.Y.O.C) := ok_checked T
  refine F.okX scExplained (fun vs H Q E h => ?_) (fun cdv A outer s H vs Q E hr h => ?_)
  · obtain ⟨fr, o, ⟨f, last, v, u, d1, d2, rfl, _⟩, _⟩ := h
    rfl
  · obtain ⟨fr, o, ag, q⟩ := h
    obtain ⟨g, last0, v, u, d1, d2, rfl, fa0, fm0, da0, sh0, db0, eo⟩ := id ag.ex
    have hu : (A.deeper (PyProof.Rows.envOfC "explained" (defScope sExplained) s.heap.objs.size f cdv)).units + 9 < cLine := by have := hr.un; omega
    refine ⟨_, pss_cons (ps_set (i := 3) scExplained.nd rfl (Or.inl rfl) (pe_call GC hr (by rfl) T.m T.F.kp T.b .nil (passes_call (E := E) (takes_of rfl rfl rfl rfl) fun _ _ _ _ h => h) (pa_cons (pv 0) (pa_cons (pv 1) (pa_cons (pv 2) pa_nil)))))
      (pss_cons (ps_if (pt_cmpR op_eq (pe_callB (call_len_dN (B := false)) (by rfl) T.T.G.S.Y.Z.T.len PySem.boot_len (pa_cons (pe_ix ix_list (pv 3) (pe_un un_neg pe_int) (fun _ _ => rfl)) pa_nil)) pe_int (nomark _)) (pss_one (ps_ret pe_non)) pss_nil)
      (pss_cons (ps_set (i := 4) scExplained.nd rfl (Or.inl rfl) (pe_lst pa_nil))
      (pss_cons (ps_set (i := 5) scExplained.nd rfl (Or.inl rfl) (pe_callB call_len_str (by rfl) T.T.G.S.Y.Z.T.len PySem.boot_len (pa_cons (pv 1) pa_nil)))
      (pss_cons (ps_set (i := 6) scExplained.nd rfl (Or.inl rfl) (pe_ix ix_list (pe_callTy (call_list_dN (B := false) rfl) (by rfl) T.T.li (by decide +kernel) (pa_cons (pe_ix ix_list (pv 3) (pv 5) (fun _ _ => rfl)) pa_nil)) pe_int (fun _ _ => rfl)))
      (pss_cons (ps_while (passes_of rfl) (pt_cmpR op_gt (pv 5) pe_int (nomark _))
        (pss_cons (ps_asg (pe_ix ix_list (pe_nget (B := false) hu (pe_ix ix_list (pv 3) (pv 5) (fun _ _ => rfl)) (pv 6) (fun _ _ => rfl)) pe_int (fun _ _ => rfl)) (pg_tup rfl (pgs_cons (pg_name (i := 5) scExplained.nd rfl (Or.inl rfl)) (pgs_cons (pg_name (i := 6) scExplained.nd rfl (Or.inl rfl)) (pgs_cons (pg_name (i := 7) scExplained.nd rfl (Or.inl rfl)) pgs_nil)))))
        (pss_one (ps_expr (pe_bm PySem.F.plainAttrs_list PySem.F.slot_list_append PySem.F.type_list_append mt_append (pv 4) (pa_cons (pv 7) pa_nil))))))
      (pss_one (ps_ret (pe_callTy call_tuple_of (by rfl) tu (by decide +kernel) (pa_cons (pe_revL (pv 4)) pa_nil))))))))), ?_⟩
    refine ⟨_, rfl, _, rfl, _, rfl, fr, o, ag, ?_⟩
    cases o with
    | none => exact q
    | some o =>
      obtain ⟨x, nw⟩ := o
      obtain ⟨d1x, rfl⟩ : d1 = .str x ∧ v = .str x := by
        cases e1 : fileT d1 with
        | none => rw [e1] at eo; cases eo
        | some y =>
          cases e2 : fewD d2 with
          | none => rw [e1, e2] at eo; cases eo
          | some n =>
            rw [e1, e2] at eo
            have eo : some (x, nw) = some (y, n.toNat) := eo
            obtain ⟨rfl, _, _⟩ := fileT_some e1
            cases da0
            injection eo with eo
            injection eo with eo _
            rw [eo]
            exact ⟨rfl, rfl⟩
      intro last H1 p ds as fm x60 n1 n3 Y W
      have jL : x.length < (trF fr x nw x.length).length := by rw [W.len]; omega
      have hL := List.getElem?_eq_getElem jL
      have hE : endF fr x nw = (trF fr x nw x.length)[x.length] := getD_at hL
      generalize (trF fr x nw x.length)[x.length] = L at hL hE
      have hd : ds[x.length]? = some (ds[x.length]'(by rw [Y.dl]; exact jL)) := List.getElem?_eq_getElem _
      generalize ds[x.length]'(by rw [Y.dl]; exact jL) = dl at hd
      have ha : as[x.length]? = some (as[x.length]'(by rw [Y.al]; exact jL)) := List.getElem?_eq_getElem _
      generalize as[x.length]'(by rw [Y.al]; exact jL) = al at ha
      obtain ⟨la, dn⟩ := Y.dd _ _ _ _ hd hL ha
      have kl : al.length = (L.map (·.1)).length := by rw [List.length_map]; exact la
      refine ⟨_, rfl, _, rfl, p, _, -1, .ref dl, rfl, rfl, SqL.of Y.hp, at_end2 (by rw [Y.dl, W.len]) hd, dl, _, rfl, dn.rd, rfl, _, rfl, ?_⟩
      have lk : (kvF (L.map (·.1)) al).length = L.length := by rw [kvF_len kl, List.length_map]
      cases L with
      | nil =>
        refine iteT' (by rw [lk]; exact decide_eq_true rfl) ?_
        have e : exF fr x nw = none := by unfold exF; rw [hE]
        simp only [e] at q
        exact q H1 Y.s
      | cons e0 Lr =>
        refine iteF' (by rw [lk]; exact decide_eq_false fun z => by injection z with z; rw [List.length_cons] at z; omega) ?_
        have e : exF fr x nw = some (backF (trF fr x nw x.length) x.length x.length e0.1).reverse := by unfold exF; rw [hE]
        simp only [e] at q
        refine ⟨by decide, fun l hl => ?_⟩
        have ul := same_upd (o := HO.lst []) hl
        have Y2 := Y.same ul
        have dn2 := (Y2.dd _ _ _ _ hd hL ha).2
        refine ⟨_, rfl, x, rfl, by rw [sizeLine_eq]; omega, ?_⟩
        refine ⟨_, rfl, _, rfl, p, _, (x.length : Int), .ref dl, rfl, rfl, SqL.of Y2.hp, atI_nat (by rw [List.getElem?_map, hd]; rfl), dl, _, rfl, dn2.rd, fun pS bs hS keys => ?_⟩
        have lB := keysN_len kl keys
        obtain ⟨b0, br, rfl⟩ : ∃ b0 br, bs = b0 :: br := by
          cases bs with
          | nil => cases lB
          | cons a b => exact ⟨a, b, rfl⟩
        have st0 := keysN_at (k := 0) kl keys rfl rfl
        have uS := same_upd (o := HO.lst ((b0 :: br).map V.ref)) hS
        refine ⟨pS, _, 0, .ref b0, rfl, rfl, SqL.of upd_same, atI_nat (j := 0) rfl, ?_⟩
        refine ⟨fun j σ H' => ∃ (i n : Nat) (st : Sx) (b : Addr) (acc : List E2) (v7 : Option V), j = i ∧ σ = [some (.ref g), some (.str x), some u, some (.ref p), some (.ref l), some (.int (i : Int)), some (.ref b), v7] ∧ i ≤ x.length ∧ i ≤ n ∧ StA H' b st ∧
          (∃ Li, (trF fr x nw x.length)[i]? = some Li ∧ st ∈ Li.map (·.1)) ∧ Fl H1 H' l acc ∧ acc.length + i ≤ x.length ∧ acc ++ backF (trF fr x nw x.length) n i st = backF (trF fr x nw x.length) x.length x.length e0.1,
          ⟨x.length, x.length, x.length, e0.1, b0, [], none, rfl, rfl, Nat.le_refl _, Nat.le_refl _, st0.keep (Same.keepT uS), ⟨_, hL, List.mem_cons_self ..⟩, ⟨ul.trans uS, hl, [], uS _ _ upd_same, rfl, fun i t e z => by simp at z⟩, by simp, rfl⟩, ?_⟩
        rintro i σ H2 ⟨_, n, st, b, acc, v7, rfl, rfl, ix, inn, sb, ⟨Li, hLi, mst⟩, F2, la2, R⟩
        refine ⟨_, rfl, _, _, rfl, rfl, _, rfl, ?_⟩
        have Y3 := Y.same F2.s
        by_cases c : 0 < i
        · refine iteT' (decide_eq_true (by omega)) ?_
          refine ⟨_, fun _ _ z => z, ?_⟩
          obtain ⟨e, he, rfl⟩ := List.mem_map.mp mst
          obtain ⟨mi, hmi⟩ := List.mem_iff_getElem?.mp he
          have jd : i < ds.length := by rw [Y.dl, W.len]; omega
          have ja : i < as.length := by rw [Y.al, W.len]; omega
          have hdi := List.getElem?_eq_getElem jd
          have hai := List.getElem?_eq_getElem ja
          generalize ds[i] = di at hdi
          generalize as[i] = ai at hai
          obtain ⟨lai, dni⟩ := Y3.dd i di Li ai hdi hLi hai
          have ib : mi < ai.length := by rw [lai]; exact (List.getElem?_eq_some_iff.mp hmi).1
          have hbi := List.getElem?_eq_getElem ib
          generalize ai[mi] = bi at hbi
          obtain ⟨⟨tl, ebl, atl⟩, _⟩ := Y3.ll i Li ai mi bi e hLi hai hbi hmi
          obtain ⟨t, rest, et⟩ : ∃ t rest, e.2 = t :: rest := by
            cases z : e.2 with
            | nil => exact absurd z (W.ne i Li hLi c e he)
            | cons a b => exact ⟨a, b, rfl⟩
          have tok := W.to i Li hLi e he t (by rw [et]; exact List.mem_cons_self ..)
          have pl := pc_len (fm.stp _ (stt_mem tok.e.b0 tok.e.b1)).2.2.1
          have tj := tok.j
          obtain ⟨t0, tr, etl⟩ : ∃ t0 tr, tl = t0 :: tr := by
            have := atl.1
            rw [et] at this
            cases tl with
            | nil => cases this
            | cons a b => exact ⟨a, b, rfl⟩
          obtain ⟨sa, ea, z1, z2, z3⟩ := atl.2 0 t0 t (by rw [etl]; rfl) (by rw [et]; rfl)
          have hkm : (Li.map (·.1))[mi]? = some e.1 := by rw [List.getElem?_map, hmi]; rfl
          refine ⟨_, rfl, _, rfl, p, _, (i : Int), .ref di, rfl, rfl, SqL.of Y3.hp, atI_nat (by rw [List.getElem?_map, hdi]; rfl), _, rfl, di, b, _, keyS e.1, .ref bi, rfl, rfl, dni.rd, sb.key, kvF_at (W.nd i Li hLi) hkm hbi, bi, _, 0, .ref t0, rfl, rfl, SqL.of ebl, atI_nat (j := 0) (by rw [etl]; rfl), ?_⟩
          refine ⟨t0, _, rfl, SqT.of z1, rfl, _, _, rfl, _, _, rfl, _, _, rfl, rfl, ?_⟩
          obtain ⟨tsl, el, atE⟩ := F2.e
          refine ⟨_, rfl, .inl ⟨rfl, _, SqL.of el⟩, _, rfl, l, tsl.map V.ref, _, rfl, rfl, el, by rw [List.length_map, sizeLine_eq, atE.1]; omega, ?_⟩
          have F3 := F2.add el atE z3
          obtain ⟨m, rfl⟩ : ∃ m, n = m + 1 := ⟨n - 1, by omega⟩
          have eb : backF (trF fr x nw x.length) (m + 1) i e.1 = t.2.2 :: backF (trF fr x nw x.length) m t.1 t.2.1 := by
            show (if i = 0 then [] else match seek ((trF fr x nw x.length).getD i []) e.1 with
              | [] => []
              | t :: _ => t.2.2 :: backF (trF fr x nw x.length) m t.1 t.2.1) = _
            rw [if_neg (by omega), getD_at hLi, seek_at (W.nd i Li hLi) hmi, et]
          rw [eb] at R
          refine ⟨t.1, by omega, t.1, m, t.2.1, sa, acc ++ [t.2.2], _, rfl, rfl, by omega, by omega, z2.keep (keepT_upd el (fun xs z => by cases z)), tok.s, F3, by rw [List.length_append]; show acc.length + 1 + t.1 ≤ x.length; omega, ?_⟩
          rw [List.append_assoc]
          exact R
        · refine iteF' (decide_eq_false (by omega)) ?_
          obtain ⟨tsl, el, atE⟩ := F2.e
          have e0 : backF (trF fr x nw x.length) n i st = [] := by
            cases n with
            | zero => rfl
            | succ n => exact if_pos (by omega)
          rw [e0, List.append_nil] at R
          refine ⟨_, rfl, l, _, rfl, SqL.of el, fun p2 hp2 => ⟨p2, _, rfl, .inl ⟨SqL.of upd_same, fun p3 hp3 => ?_⟩⟩⟩
          have v2 := same_upd (o := HO.lst (tsl.map V.ref).reverse) hp2
          have v3 := same_upd (o := HO.tup (tsl.map V.ref).reverse) hp3
          refine q _ p3 ((Y.s.trans F2.s).trans (v2.trans v3)) ⟨tsl.reverse, by rw [List.map_reverse]; exact upd_same, ?_⟩
          rw [← R]
          exact (atE.keep ((Same.keepT v2).trans (Same.keepT v3))).rev
end
end K35

set_option Elab.async false
set_option linter.all false
set_option maxRecDepth 100000
set_option maxHeartbeats 4000000
/-! Comprehensions that make a dict whose keys are nested tuples. -/
namespace L2
open PySem PySem.Spec PyProof.Rows
section
variable {B : Bool} {X : Cx} {pins : List (Addr × Obj)} {σ : St} {H : Hp} {s : Shared} {a b : Addr} {v : V} {r : Value} {E : Value → Shared → Prop} {kvs : List (NestedKey × V)} {k : NestedKey}
theorem n_dictSet {Q : Unit → Shared → Prop} (hu : X.A.units + 8 < cLine) (I : Inv X pins σ H s) (e : DN X.prog X.w B H a kvs) (kb : KeyB B H k b) (hl : kvs.length < sizeLine) (rv : RelV v r)
    (h : ∀ H' s', Inv X pins σ H' s' → OnlyAt H H' a → DN X.prog X.w B H' a (putK kvs k v) → Q () s') :
    wpAny (model X.prog X.w) X.A (dictSet a (.ref b) r) Q E s := by
  obtain ⟨xs, rfl, ex, kx⟩ := e
  obtain ⟨zf, _, _⟩ := (show ObjOk X.prog X.w H s.heap a (DNo X.prog X.w a xs) from I.hok a _ ex)
  obtain ⟨z, hd, ys, rel, o, es, ep, h1, h2, h3, h4, h5⟩ := id zf
  have dd : s.heap.DictOfH (nestedKind X.prog X.w) a ys := ⟨o, es, ep, h1, h2, h3, h4, NPair.all I.hok rel kx, h5⟩
  rw [rows1_len] at hl
  refine wpAny_dictSet_heap (hsz := by rw [← Paired.length rel]; exact z) (show X.A.units + 8 < cLine from hu) (kb.is I.hok) dd fun h' dd' hs => ?_
  obtain ⟨H', I', q1, q2⟩ := n_put (t' := s.toks + (nestedKind X.prog X.w).draws k) I ex kx hs zf kb rv hl rel dd'
  exact h H' _ I' q1 q2
end
/-- what one turn of the comprehension is to give: behind it N holds -/
def DcTurn (P : Program) (w : World) (B : Bool) (g : TG) (tk tv : TE) (vs : List Nat) (σ : St) (D : Addr) (N : Hp → Prop) (x : V) (H : Hp) : Prop :=
  g x (wipe σ vs) H fun σ2 H2 => wipe σ2 vs = wipe σ vs ∧ tk σ2 H2 fun y H3 => tv σ2 H3 fun z H4 =>
    ∃ kvs k kb, y = .ref kb ∧ DN P w B H4 D kvs ∧ KeyB B H4 k kb ∧ kvs.length < sizeLine ∧ ∀ H5, OnlyAt H4 H5 D → DN P w B H5 D (putK kvs k z) → N H5
/-- {k: v for target in iter}, keys nested tuples: D the new dict, W what holds ahead of a turn -/
def tDcN (P : Program) (w : World) (B : Bool) (wi : TI) (g : TG) (tk tv : TE) (vs : List Nat) : TE := fun σ H Q => wi σ H fun J H1 => ∀ D, H1 D = none →
  ∃ W : Nat → Nat → Hp → Prop, (∃ m, W 0 m (upd H1 D (DNo P w D []))) ∧ ∀ i m Hx, W i m Hx → (J.stop i Hx ∧ Q (.ref D) Hx) ∨
    (J.go i Hx ∧ ∃ N : Hp → Prop, (∀ Hy, N Hy → ∃ m', m' < m ∧ W (i + 1) m' Hy) ∧ ∀ x Hy, J.yld i Hx x Hy → DcTurn P w B g tk tv vs σ D N x Hy)
section
variable {B : Bool} {X : Cx} {kx vx tg iter : Expr} {scope : Scope} {own : List (Str × Nat)} {pos : Pos} {wi : TI} {g : TG} {tk tv : TE}
/-- the block's context -/
abbrev bCtx (X : Cx) (scope : Scope) (fp : List Addr) (s : Shared) (H : Hp) : Cx := X.blk s H scope (compEnvC scope (cellsFrom (s.heap.objs.size + 1) scope.names (cloFrom X.env.cells scope.names [])) s.heap.objs.size X.env) fp
theorem dcN_loop {pins : List (Addr × Obj)} {s : Shared} {σ : St} {H : Hp} {Q : VK} {fp : List Addr} {it D : Addr} {tn : Nat → Heap → Prop} {J : It} {W : Nat → Nat → Hp → Prop} {m : Nat} (hu : X.A.units + 8 < cLine) (calm : X.calm = true) (hN : X.N.Nodup)
    (I : Inv X pins σ H s) (ok : BlkOk X.N X.env.scope scope own) (T : Turn X.prog X.w X.K tg J fp it tn) (st : tn 0 s.heap) (foot : ∀ b ∈ fp, FpOk X pins H b ∧ b < s.heap.objs.size)
    (pg : PG (bCtx X scope fp s H) tg g) (pk : PE (bCtx X scope fp s H) kx tk) (pv : PE (bCtx X scope fp s H) vx tv) (w0 : W 0 m H)
    (each : ∀ i m Hx, W i m Hx → (J.stop i Hx ∧ Q (.ref D) Hx) ∨ (J.go i Hx ∧ ∃ N : Hp → Prop, (∀ Hy, N Hy → ∃ m', m' < m ∧ W (i + 1) m' Hy) ∧ ∀ x Hy, J.yld i Hx x Hy → DcTurn X.prog X.w B g tk tv (own.map (·.2)) σ D N x Hy)) :
    codeAny (model X.prog X.w) X.A (.compLoop (.DictComp kx vx [⟨tg, iter, [], 0⟩] scope pos) 0 (.ref it) (.ref D) (bCtx X scope fp s H).env) (compPost (model X.prog X.w) X.A X.xe none (EP X pins σ Q) (.ref D) s.heap.objs.size)
      { s with heap := pushCells (s.heap.push { cls := .type "dict", data := .dict #[] }) scope.names } := by
  have IS := block_start I ok hN foot
  have laid : ∀ b o, s.heap.get? b = some o → (pushCells (s.heap.push { cls := .type "dict", data := .dict #[] }) scope.names).get? b = some o := fun b o e => pushCells_keeps _ _ _ _ (Heap.get?_push_of_some _ e)
  have nC : ∀ {σ' Hx s'}, Inv (bCtx X scope fp s H) [] σ' Hx s' → Hx s.heap.objs.size = none := fun {σ' Hx s'} Ix => Ix.free
  have fpB : ∀ {σ' Hx s'}, Inv (bCtx X scope fp s H) [] σ' Hx s' → (∀ b ∈ fp, Hx b = none) → ∀ b ∈ fp, FpOk (bCtx X scope fp s H) [] Hx b := fun {σ' Hx s'} Ix no b hb => by
    obtain ⟨f1, f2⟩ := Ix.ok.exf b hb
    exact ⟨no b hb, f1, Ix.ok.exfs b hb, .inl hb, fun x c e => f2 x c e, fun p hp => absurd hp (by simp [Cx.blk])⟩
  refine compLoop_anyD (fun n s' => ∃ i Hx, W i n Hx ∧ tn i s'.heap ∧ (∀ b ∈ fp, Hx b = none) ∧ Inv (bCtx X scope fp s H) [] (wipe σ (own.map (·.2))) Hx s') ?_ m ⟨0, H, w0, T.keep _ _ _ st fun b _ o e => laid b o e, fun b hb => (foot b hb).1.1, IS⟩
  rintro n sA ⟨i, HA, wA, stA, noA, IA⟩
  rcases each i n HA wA with ⟨hstop, hq⟩ | ⟨hgo, N, less, step⟩
  · refine thnF (T.done (bCtx X scope fp s H) rfl rfl rfl calm i [] sA _ HA (fun _ _ => False) IA (fpB IA noA) stA hstop) ?_
    rintro _ sZ ⟨rfl, IZ⟩
    have back : Inv X pins σ HA sZ := I.call' (ch := fp) IZ.os IZ.base IZ.hok IZ.bare fun b hb => by
      obtain ⟨⟨_, q1, _, q3, q4, q5⟩, _⟩ := foot b hb
      exact ⟨q3, q1, q4, q5⟩
    obtain ⟨mm, hm, _⟩ := IZ.loc
    obtain ⟨_, g1, g2, g3, g4, g5⟩ := I.fpOk (Nat.le_refl _) (nC IZ)
    refine ⟨mm, hm, fun h2 sb => ⟨.ref D, HA, back.turned (t' := sZ.toks) (fun b o hb e => (sb.2 b hb).trans e) (nC IZ) g1 g3 g4 g5, rfl, hq⟩⟩
  · refine thnF (T.item (bCtx X scope fp s H) rfl rfl rfl calm i [] sA _ HA (fun _ _ => False) IA (fpB IA noA) stA hgo) ?_
    rintro _ sB ⟨u, rfl, hB⟩
    refine thnF hB ?_
    rintro _ sC ⟨x, HC, IC, rC, yC, stC, noC⟩
    refine thnF (pg.run _ sC _ HC x u _ (IC.pinned (fpB IC noC) (T.obj _ _ stC)) rC (step x HC yC)) ?_
    rintro _ sE ⟨σE, HE, IE, same, qE⟩
    refine thnF ((pts_nil (X := bCtx X scope fp s H)).run _ sE σE HE (fun b Hx => b = true ∧ Hx = HE) IE ⟨rfl, rfl⟩) ?_
    rintro _ sF ⟨HF, IF, rfl, rfl⟩
    refine thnF (pk.run _ sF σE HF _ IF qE) ?_
    rintro _ sG ⟨y, HG, IG, rG, qG⟩
    refine thnF (pv.run _ sG σE HG _ IG qG) ?_
    rintro _ sH ⟨z, HH, IH, rH, kvs, k, kb, rfl, dn, key, few, put⟩
    obtain rfl := rG
    refine n_dictSet (X := bCtx X scope fp s H) hu IH dn key few rH fun HI sI II oa dn2 => ?_
    obtain ⟨m2, lt, w2⟩ := less HI (put HI oa dn2)
    have held : ∀ b ∈ fp, ∀ o, sC.heap.get? b = some o → sI.heap.get? b = some o ∧ HI b = none := fun b hb o e => by
      obtain ⟨p1, p2, _⟩ := II.pin (b, o) (by simp [mem_pinsAt hb e])
      exact ⟨p1, p2⟩
    have len : (wipe σ (own.map (·.2))).length = σE.length := by rw [← same, wipe_length]
    refine ⟨m2, lt, i + 1, HI, w2, T.keep _ _ _ stC fun b hb o e => (held b hb o e).1, fun b hb => ?_, (II.unpinned (pins := [])).weak len fun j v e => ?_⟩
    · obtain ⟨o, e, _⟩ := T.obj _ _ stC b hb
      exact (held b hb o e).2
    · rw [← same] at e
      exact (wipe_some e).1
theorem pe_dcN (hu : X.A.units + 8 < cLine) (calm : X.calm = true) (hN : X.N.Nodup) (hi : PI X tg iter wi) (ok : BlkOk X.N X.env.scope scope own)
    (pg : ∀ (s : Shared) (H : Hp) (C : Addr) (cl : List (Str × Addr)) (fp : List Addr), PG (X.blk s H scope (compEnvC scope cl C X.env) fp) tg g)
    (pk : ∀ (s : Shared) (H : Hp) (C : Addr) (cl : List (Str × Addr)) (fp : List Addr), PE (X.blk s H scope (compEnvC scope cl C X.env) fp) kx tk)
    (pv : ∀ (s : Shared) (H : Hp) (C : Addr) (cl : List (Str × Addr)) (fp : List Addr), PE (X.blk s H scope (compEnvC scope cl C X.env) fp) vx tv)
    (plain : ∀ x, foldedSetIterable iter X.env x = pure x := by intro _; rfl) : PE X (.DictComp kx vx [⟨tg, iter, [], 0⟩] scope pos) (tDcN X.prog X.w B wi g tk tv (own.map (·.2))) := by
  refine ⟨fun pins s σ H Q I wish => ?_⟩
  have cells : ∀ y ∈ scope.names, y.2 = .free → ∃ c, X.env.cells.lookup y.1 = some c := fun y hy e => I.ok.has _ ((ok.free y hy e).imp id id)
  have first := hi.run pins s σ H _ I wish
  rw [arm_eval_DictComp]
  refine wpAny_comprehension_free rfl plain (closure_ok cells) ok.kind (fun y hy e => by rw [← e]; exact ok.uniq y hy) (thn first fun _ sA hA => thn hA fun _ sB hB => wpAny_newObj_type (newEnv_comp ?_))
  obtain ⟨it, fp, tn, J, HB, rfl, IB, T, stB, okB, wishD⟩ := hB
  have fresh := IB.hok.fresh (Nat.le_refl sB.heap.objs.size)
  obtain ⟨W, ⟨m, wm⟩, each⟩ := wishD _ fresh
  have ID := IB.laid (a := sB.heap.objs.size) (o := DNo X.prog X.w sB.heap.objs.size []) (h' := sB.heap.push { cls := .type "dict", data := .dict #[] }) (t' := sB.toks) (fun _ _ e => Heap.get?_push_of_some _ e) (Nat.le_refl _) (n_new sB.heap IB.big)
  have there : ∀ b ∈ fp, b < sB.heap.objs.size := fun b hb => by
    obtain ⟨o, e, _⟩ := T.obj _ _ stB b hb
    exact Heap.lt_size e
  have loop := dcN_loop (B := B) (kx := kx) (vx := vx) (iter := iter) (pos := pos) (D := sB.heap.objs.size) hu calm hN ID ok T (T.keep _ _ _ stB fun b _ o e => Heap.get?_push_of_some _ e)
    (fun b hb => ⟨⟨by rw [upd_ne (Nat.ne_of_lt (there b hb))]; exact (okB b hb).1, (okB b hb).2⟩, by rw [Heap.size_push]; exact Nat.lt_succ_of_lt (there b hb)⟩) (pg _ _ _ _ _) (pk _ _ _ _ _) (pv _ _ _ _ _) wm each
  exact codeAny_compStart_dict loop (T.self X.A 0 _ _ _ (T.keep _ _ _ stB fun b _ o e => pushCells_keeps _ _ _ _ (Heap.get?_push_of_some _ (Heap.get?_push_of_some _ e))) loop)
end
/-- the keys of a dict that is locked -/
def ItkN (P : Program) (w : World) (B : Bool) (d : Addr) (o : Obj) (xs : List NEnt) : It :=
  ⟨fun i H => H d = some (.frz o (DNo P w d xs)) ∧ KeysX B H xs ∧ i < xs.length, fun i H x H' => H' = H ∧ ∃ e, xs[i]? = some e ∧ x = .ref e.2.1 ∧ KeyB B H e.1 e.2.1, fun i H => H d = some (.frz o (DNo P w d xs)) ∧ xs.length ≤ i⟩
section
variable {B : Bool} {X : Cx} {pins : List (Addr × Obj)} {σ : St} {H : Hp} {s : Shared} {d : Addr} {o : Obj} {xs : List NEnt}
theorem frz_N (I : Inv X pins σ H s) (h : H d = some (.frz o (DNo X.prog X.w d xs))) : (d == sysModules) = false ∧ s.heap.get? d = some o ∧ o.ExactDict ∧
    ∃ (es : Array DictEntry) (ep : Nat), o.data = .dict es ep ∧ es.size = xs.length ∧ ∀ (i : Nat) (e : NEnt), xs[i]? = some e → ∃ en : DictEntry, es[i]? = some en ∧ en.key = .ref e.2.1 := by
  obtain ⟨there, ⟨_, low, ys, pr, o2, es, ep, h1, h2, h3, h4, _⟩, _, _⟩ := I.hok d _ h
  have same : o2 = o := Option.some.inj (h1.symm.trans there)
  subst same
  have ly : ys.length = es.size := by
    have z := congrArg List.length h4
    simpa using z.symm
  have lx : xs.length = ys.length := Paired.length pr
  refine ⟨low, there, h2, es, ep, h3, by omega, fun i e he => ?_⟩
  obtain ⟨y, hy, e1, e2, _⟩ := paired_get pr he
  have z : es.toList[i]? = some (entryOfKey (nestedKind X.prog X.w) y) := by rw [h4, List.getElem?_map, hy]; rfl
  rw [Array.getElem?_toList] at z
  exact ⟨_, z, by rw [e2]; rfl⟩
end
theorem turn_N {B : Bool} {P : Program} {w : World} {K : PySem.W.Frag} {tg : Expr} {d : Addr} {o : Obj} {es : Array DictEntry} {ep : Nat} {xs : List NEnt} (it : Addr) (data : o.data = .dict es ep) :
    Turn P w K tg (ItkN P w B d o xs) [it] it (fun i h => h.IsKeyIter it d i xs.length ep) := by
  have one : ∀ b, b ∈ [it] → b = it := fun b hb => by simpa using hb
  refine ⟨List.mem_singleton.mpr rfl, fun i h st b hb => ?_, fun i h h2 st kp => st.at fun oi e => kp it (List.mem_singleton.mpr rfl) oi e, ?_, ?_, fun A i s Q E st h => wpAny_pyIter_keyiter st h⟩
  · rw [one b hb]
    obtain ⟨oi, e, _, dd⟩ := st
    exact ⟨oi, e, fun v z => by rw [dd] at z; cases z⟩
  · rintro X rfl rfl rfl calm i pins s σ H E I foot st ⟨hd, kx, lt⟩
    obtain ⟨f0, f1, f2, f3, f4, f5⟩ := foot it (List.mem_singleton.mpr rfl)
    obtain ⟨low, there, ex, es2, ep2, dt, sz, ent⟩ := frz_N I hd
    obtain ⟨rfl, rfl⟩ := dict_ep data dt
    have he : xs[i]? = some xs[i] := List.getElem?_eq_getElem lt
    obtain ⟨en, hen, key⟩ := ent i _ he
    refine next_key_item st there dt sz hen fun h2 st2 sb => ?_
    have I2 : Inv X pins σ H { s with heap := h2 } := I.turned (t' := s.toks) (fun b ob hb e => (sb.2 b hb).trans e) f0 f1 f3 f4 f5
    obtain ⟨oi, e, c, dd⟩ := id st2
    refine ⟨en.key, rfl, go_of (s := { s with heap := h2 }) e c dd (by decide) ⟨.ref (xs[i]).2.1, H, I2, key, ⟨rfl, _, he, rfl, kx _ (List.getElem_mem lt)⟩, st2, fun b hb => ?_⟩⟩
    rw [one b hb]
    exact f0
  · rintro X rfl rfl rfl calm i pins s σ H E I foot st ⟨hd, ge⟩
    obtain ⟨f0, f1, f2, f3, f4, f5⟩ := foot it (List.mem_singleton.mpr rfl)
    obtain ⟨low, there, ex, es2, ep2, dt, sz, ent⟩ := frz_N I hd
    obtain ⟨rfl, rfl⟩ := dict_ep data dt
    exact next_key_end (I.ok.hd calm) st there dt sz ge fun h2 eb => ⟨rfl, I.turned (t' := s.toks) (fun b ob hb e => eb b ob hb e) f0 f1 f3 f4 f5⟩
def iKeysN (P : Program) (w : World) (B : Bool) (td : TE) : TI := fun σ H R => td σ H fun x H1 => ∃ d o xs, x = .ref d ∧ H1 d = some (.frz o (DNo P w d xs)) ∧ R (ItkN P w B d o xs) H1
theorem pi_keysN {B : Bool} {X : Cx} {tg e : Expr} {td : TE} (he : PE X e td) : PI X tg e (iKeysN X.prog X.w B td) := by
  refine ⟨fun pins s σ H R I h => thn (he.run pins s σ H _ I h) ?_⟩
  rintro u s1 ⟨_, H1, I1, rx, d, o, xs, rfl, hd, q⟩
  obtain rfl := rx
  obtain ⟨low, there, ex, es, ep, dt, sz, ent⟩ := frz_N I1 hd
  refine iter_keys low there ex dt (pi_one (tk := s1.toks) I1 _ (turn_N _ dt) ⟨_, Heap.get?_push_size _ rfl, rfl, ?_⟩ q)
  rw [sz]
  rfl
theorem walk_keysN {B : Bool} {P : Program} {w : World} {d : Addr} {o : Obj} {xs : List NEnt} : Walk (ItkN P w B d o xs) xs.length (fun H => H d = some (.frz o (DNo P w d xs)) ∧ KeysX B H xs)
    (fun i H x H' => H' = H ∧ ∃ e, xs[i]? = some e ∧ x = .ref e.2.1 ∧ KeyB B H e.1 e.2.1) :=
  ⟨fun _ _ hi q => ⟨q.1, q.2, hi⟩, fun _ q => ⟨q.1, Nat.le_refl _⟩, fun _ _ _ _ _ _ y => y⟩
/-- the comprehension over what a walk tells of -/
theorem dcN_it {P : Program} {w : World} {B : Bool} {J : It} {n : Nat} {G : Hp → Prop} {Y : Nat → Hp → V → Hp → Prop} (wk : Walk J n G Y) {g : TG} {tk tv : TE} {vs : List Nat} {σ : St} {H1 : Hp} {D : Addr} {Qd : Hp → Prop} (Pv : Nat → Hp → Prop) (h0 : Pv 0 (upd H1 D (DNo P w D [])))
    (hG : ∀ i H, i ≤ n → Pv i H → G H) (hs : ∀ i x H H', i < n → Pv i H → Y i H x H' → DcTurn P w B g tk tv vs σ D (Pv (i + 1)) x H') (hd : ∀ H, Pv n H → Qd H) :
    ∃ W : Nat → Nat → Hp → Prop, (∃ m, W 0 m (upd H1 D (DNo P w D []))) ∧ ∀ i m Hx, W i m Hx → (J.stop i Hx ∧ Qd Hx) ∨
      (J.go i Hx ∧ ∃ N : Hp → Prop, (∀ Hy, N Hy → ∃ m', m' < m ∧ W (i + 1) m' Hy) ∧ ∀ x Hy, J.yld i Hx x Hy → DcTurn P w B g tk tv vs σ D N x Hy) := by
  refine ⟨fun i m Hx => i + m = n ∧ Pv i Hx, ⟨n, by omega, h0⟩, fun i m Hx h => ?_⟩
  obtain ⟨e, p⟩ := h
  have gi := hG i Hx (by omega) p
  cases m with
  | zero =>
    have e : i = n := by omega
    rw [e] at p ⊢
    exact .inl ⟨wk.stops Hx gi, hd Hx p⟩
  | succ m =>
    have lt : i < n := by omega
    exact .inr ⟨wk.goes i Hx lt gi, Pv (i + 1), fun Hy q => ⟨m, by omega, by omega, q⟩, fun x Hy y => hs i x Hx Hy lt p (wk.yields i Hx x Hy lt gi y)⟩
end L2

set_option Elab.async false
set_option linter.all false
set_option maxRecDepth 100000
set_option maxHeartbeats 8000000
/-! What words_read writes: where states may stand, the words for the lines. -/
namespace K35
open PySem L2 L2.EV
/-- which states may stand where, and the words for the lines -/
abbrev Wst := List (List Sx) × List (Nat × List Bool)
def addS (g : List Sx) (s : Sx) : List Sx := if s ∈ g then g else g ++ [s]
def addB (l : List Bool) (b : Bool) : List Bool := if b ∈ l then l else l ++ [b]
def addW : List (Nat × List Bool) → Nat → Bool → List (Nat × List Bool)
  | [], i, b => [(i, [b])]
  | e :: l, i, b => if e.1 = i then (e.1, addB e.2 b) :: l else e :: addW l i b
def wT (fr : List T3) (i : Nat) (z : Wst) (t : Trip) : Wst :=
  (z.1.set t.1 (addS (z.1.getD t.1 []) t.2.1), if (stt fr t.2.2.2).2.2 = 0 then addW z.2 i (decide (behM t.2.1.2 t.2.2.1 (stt fr t.2.2.2).1 = .mix)) else z.2)
def wS (fr : List T3) (Ls : List Layer) (i : Nat) (z : Wst) (s : Sx) : Wst := (seek (Ls.getD i []) s).foldl (wT fr i) z
def wI (fr : List T3) (Ls : List Layer) (z : Wst) (i : Nat) : Wst := (z.1.getD i []).foldl (wS fr Ls i) z
def w0 (Ls : List Layer) (n : Nat) : Wst := ((List.replicate (n + 1) []).set n ((Ls.getD n []).map (·.1)), [])
/-- after k turns, from the end back -/
def wF (fr : List T3) (Ls : List Layer) (n k : Nat) : Wst := (List.range k).foldl (fun z j => wI fr Ls z (n - j)) (w0 Ls n)
def tagB (b : Bool) : Str := if b = true then "mixed" else "whole"
abbrev kvB (bs : List Bool) : List (Key × V) := bs.map fun b => ((Sum.inr (tagB b) : Key), V.bl true)

def kvG (g : List Sx) : List (NestedKey × V) := g.map fun s => (keyS s, V.bl true)
theorem kvG_len (g : List Sx) : (kvG g).length = g.length := by simp [kvG]
theorem kvG_none {s : Sx} : ∀ {g : List Sx}, ¬ s ∈ g → valV (kvG g) (keyS s) = none
  | [], _ => rfl
  | a :: g, h => by
    show valV ((keyS a, V.bl true) :: kvG g) (keyS s) = none
    rw [valV_neg (fun z => h (by rw [keyS_inj z]; exact List.mem_cons_self ..))]
    exact kvG_none fun z => h (List.mem_cons_of_mem _ z)
theorem kvG_some {s : Sx} : ∀ {g : List Sx}, s ∈ g → valV (kvG g) (keyS s) = some (.bl true)
  | a :: g, h => by
    show valV ((keyS a, V.bl true) :: kvG g) (keyS s) = _
    by_cases c : keyS a = keyS s
    · rw [valV_pos c]
    · rw [valV_neg c]
      rcases List.mem_cons.mp h with z | z
      · exact absurd (by rw [z]) c
      · exact kvG_some z
theorem kvG_put (g : List Sx) (s : Sx) : putK (kvG g) (keyS s) (.bl true) = kvG (addS g s) := by
  unfold addS
  by_cases h : s ∈ g
  · rw [if_pos h]
    unfold putK
    rw [if_pos (by rw [valV_any, kvG_some h]; rfl)]
    have e : ∀ l : List Sx, (kvG l).map (fun kv => if kv.1 = keyS s then (kv.1, V.bl true) else kv) = kvG l := by
      intro l
      induction l with
      | nil => rfl
      | cons a l ih =>
        show (if keyS a = keyS s then (keyS a, V.bl true) else (keyS a, V.bl true)) :: (kvG l).map (fun kv => if kv.1 = keyS s then (kv.1, V.bl true) else kv) = (keyS a, V.bl true) :: kvG l
        rw [ih]
        by_cases c : keyS a = keyS s
        · rw [if_pos c]
        · rw [if_neg c]
    exact e g
  · rw [if_neg h, putK_new _ (kvG_none h)]
    unfold kvG
    rw [List.map_append]
    rfl
theorem keysG_at {H : Hp} : ∀ {g : List Sx} {bs : List Addr} {k : Nat} {b : Addr} {s : Sx}, IsKeysN false H (kvG g) bs → bs[k]? = some b → g[k]? = some s → StA H b s
  | [], _, _, _, _, _, _, h => by simp at h
  | a :: g, bs, k, b, s, h, hb, hs => by
    have h : Paired (fun p b => KeyB false H p.1 b) ((keyS a, V.bl true) :: kvG g) bs := h
    cases h with
    | @cons p b0 ps bs' h1 h2 =>
      cases k with
      | zero =>
        have e1 : b0 = b := by simpa using hb
        have e2 : a = s := by simpa using hs
        subst e1 e2
        exact sta_key h1
      | succ k => exact keysG_at (k := k) h2 (by simpa using hb) (by simpa using hs)
def nK (n : Nat) : Key := Sum.inl (n : Int)
theorem nK_inj {a b : Nat} (h : nK a = nK b) : a = b := by
  have h : (Sum.inl (a : Int) : Key) = Sum.inl (b : Int) := h
  injection h with h
  omega
def kvZ (ks : List Nat) (a : List Addr) : List (Key × V) := (ks.zip a).map fun z => (nK z.1, V.ref z.2)
theorem kvZ_len {ks : List Nat} {a : List Addr} (h : a.length = ks.length) : (kvZ ks a).length = ks.length := by
  unfold kvZ
  rw [List.length_map, List.length_zip, h, Nat.min_self]
theorem kvZ_snoc {k : Nat} {b : Addr} : ∀ {ks : List Nat} {a : List Addr}, a.length = ks.length → kvZ (ks ++ [k]) (a ++ [b]) = kvZ ks a ++ [(nK k, .ref b)]
  | [], [], _ => rfl
  | [], _ :: _, h => by cases h
  | _ :: _, [], h => by cases h
  | s :: ks, c :: a, h => by
    show (nK s, V.ref c) :: kvZ (ks ++ [k]) (a ++ [b]) = (nK s, V.ref c) :: (kvZ ks a ++ [(nK k, .ref b)])
    rw [kvZ_snoc (by simpa using h)]
theorem kvZ_none {k : Nat} : ∀ {ks : List Nat} {a : List Addr}, ¬ k ∈ ks → valV (kvZ ks a) (nK k) = none
  | [], _, _ => rfl
  | _ :: _, [], _ => rfl
  | s :: ks, c :: a, h => by
    show valV ((nK s, V.ref c) :: kvZ ks a) (nK k) = none
    rw [valV_neg (fun z => h (by rw [nK_inj z]; exact List.mem_cons_self ..))]
    exact kvZ_none fun z => h (List.mem_cons_of_mem _ z)
theorem kvZ_at {k : Nat} {b : Addr} : ∀ {ks : List Nat} {a : List Addr} {i : Nat}, ks.Nodup → ks[i]? = some k → a[i]? = some b → valV (kvZ ks a) (nK k) = some (.ref b)
  | [], _, _, _, h, _ => by simp at h
  | _ :: _, [], _, _, _, h => by simp at h
  | s :: ks, c :: a, 0, _, h1, h2 => by
    have h1 : s = k := by simpa using h1
    have h2 : c = b := by simpa using h2
    show valV ((nK s, V.ref c) :: kvZ ks a) (nK k) = _
    rw [valV_pos (by show nK s = nK k; rw [h1]), h2]
  | s :: ks, c :: a, i + 1, nd, h1, h2 => by
    have h1 : ks[i]? = some k := by simpa using h1
    obtain ⟨n1, n2⟩ := List.nodup_cons.mp nd
    show valV ((nK s, V.ref c) :: kvZ ks a) (nK k) = _
    rw [valV_neg (fun z => n1 (by rw [nK_inj z]; exact List.mem_of_getElem? h1))]
    exact kvZ_at n2 h1 (by simpa using h2)
theorem tagB_inj {a b : Bool} (h : tagB a = tagB b) : a = b := by
  cases a <;> cases b <;> first | rfl | exact absurd h (by decide +kernel)
theorem kvB_none {b : Bool} : ∀ {l : List Bool}, ¬ b ∈ l → valV (kvB l) (Sum.inr (tagB b)) = none
  | [], _ => rfl
  | a :: l, h => by
    show valV (((Sum.inr (tagB a) : Key), V.bl true) :: kvB l) (Sum.inr (tagB b)) = none
    rw [valV_neg (fun z => h (by have z : (Sum.inr (tagB a) : Key) = Sum.inr (tagB b) := z; injection z with z; rw [tagB_inj z]; exact List.mem_cons_self ..))]
    exact kvB_none fun z => h (List.mem_cons_of_mem _ z)
theorem kvB_some {b : Bool} : ∀ {l : List Bool}, b ∈ l → valV (kvB l) (Sum.inr (tagB b)) = some (.bl true)
  | a :: l, h => by
    show valV (((Sum.inr (tagB a) : Key), V.bl true) :: kvB l) (Sum.inr (tagB b)) = _
    by_cases c : (Sum.inr (tagB a) : Key) = Sum.inr (tagB b)
    · rw [valV_pos c]
    · rw [valV_neg c]
      rcases List.mem_cons.mp h with z | z
      · exact absurd (by rw [z]) c
      · exact kvB_some z
theorem kvB_put (l : List Bool) (b : Bool) : putK (kvB l) (Sum.inr (tagB b)) (.bl true) = kvB (addB l b) := by
  unfold addB
  by_cases h : b ∈ l
  · rw [if_pos h]
    unfold putK
    rw [if_pos (by rw [valV_any, kvB_some h]; rfl)]
    have e : ∀ m : List Bool, (kvB m).map (fun kv => if kv.1 = (Sum.inr (tagB b) : Key) then (kv.1, V.bl true) else kv) = kvB m := by
      intro m
      induction m with
      | nil => rfl
      | cons a m ih =>
        show (if (Sum.inr (tagB a) : Key) = Sum.inr (tagB b) then ((Sum.inr (tagB a) : Key), V.bl true) else ((Sum.inr (tagB a) : Key), V.bl true)) :: (kvB m).map (fun kv => if kv.1 = (Sum.inr (tagB b) : Key) then (kv.1, V.bl true) else kv) = _
        rw [ih]
        by_cases c : (Sum.inr (tagB a) : Key) = Sum.inr (tagB b)
        · rw [if_pos c]; rfl
        · rw [if_neg c]; rfl
    exact e l
  · rw [if_neg h, putK_new _ (kvB_none h)]
    show _ = (l ++ [b]).map _
    rw [List.map_append]
    rfl
theorem addW_cases (i : Nat) (b : Bool) : ∀ ws : List (Nat × List Bool), (∃ (m : Nat) (e : Nat × List Bool), ws[m]? = some e ∧ e.1 = i ∧ addW ws i b = ws.set m (i, addB e.2 b)) ∨ (¬ i ∈ ws.map (·.1) ∧ addW ws i b = ws ++ [(i, [b])])
  | [] => .inr ⟨by simp, rfl⟩
  | e :: ws => by
    by_cases h : e.1 = i
    · refine .inl ⟨0, e, rfl, h, ?_⟩
      show (if e.1 = i then (e.1, addB e.2 b) :: ws else e :: addW ws i b) = (i, addB e.2 b) :: ws
      rw [if_pos h, h]
    · have hp : addW (e :: ws) i b = e :: addW ws i b := if_neg h
      rcases addW_cases i b ws with ⟨m, e2, h1, h2, h3⟩ | ⟨h1, h2⟩
      · exact .inl ⟨m + 1, e2, by simpa using h1, h2, by rw [hp, h3]; rfl⟩
      · refine .inr ⟨fun z => ?_, by rw [hp, h2]; rfl⟩
        rcases List.mem_cons.mp (show i ∈ e.1 :: ws.map (·.1) from z) with z | z
        · exact h z.symm
        · exact h1 z
theorem keys_set {ws : List (Nat × List Bool)} {m i : Nat} {e : Nat × List Bool} {l : List Bool} (h : ws[m]? = some e) (hi : e.1 = i) : (ws.set m (i, l)).map (·.1) = ws.map (·.1) := by
  rw [List.map_set]
  apply List.ext_getElem?
  intro n
  by_cases c : m = n
  · subst c
    have hk : (ws.map (·.1))[m]? = some i := by rw [List.getElem?_map, h, ← hi]; rfl
    rw [List.getElem?_set_self (List.getElem?_eq_some_iff.mp hk).1, hk]
  · rw [List.getElem?_set_ne c]
/-- the words -/
structure WdA (H : Hp) (p : Addr) (ws : List (Nat × List Bool)) (as : List Addr) : Prop where
  l : as.length = ws.length
  e : H p = some (.dK (kvZ (ws.map (·.1)) as))
  it : ∀ (i : Nat) w a, ws[i]? = some w → as[i]? = some a → H a = some (.dK (kvB w.2))
/-- what is written: the dicts of where states may stand, words and its dicts -/
structure Zh (P : Program) (w : World) (H0 H : Hp) (q wd : Addr) (z : Wst) (gs was : List Addr) : Prop where
  s : Same H0 H
  hq : H0 q = some (.lst (gs.map V.ref))
  gl : gs.length = z.1.length
  gn : gs.Nodup
  g0 : ∀ d ∈ gs, H0 d = none
  gd : ∀ (j : Nat) d g, gs[j]? = some d → z.1[j]? = some g → DN P w false H d (kvG g)
  wa : WdA H wd z.2 was
  w0 : H0 wd = none
  wi : ∀ a ∈ was, H0 a = none ∧ a ≠ wd
  wn : was.Nodup
section
variable {P : Program} {w : World} {H0 H H' : Hp} {q wd : Addr} {z : Wst} {gs was : List Addr}
theorem Zh.gsome (y : Zh P w H0 H q wd z gs was) {d : Addr} (hd : d ∈ gs) : ∃ (j : Nat) (g : List Sx), gs[j]? = some d ∧ z.1[j]? = some g ∧ DN P w false H d (kvG g) := by
  obtain ⟨j, hj⟩ := List.mem_iff_getElem?.mp hd
  have j1 : j < z.1.length := by rw [← y.gl]; exact (List.getElem?_eq_some_iff.mp hj).1
  exact ⟨j, _, hj, List.getElem?_eq_getElem j1, y.gd j d _ hj (List.getElem?_eq_getElem j1)⟩
theorem Zh.wsome (y : Zh P w H0 H q wd z gs was) {a : Addr} (ha : a ∈ was) : ∃ (i : Nat) (e : Nat × List Bool), was[i]? = some a ∧ z.2[i]? = some e ∧ H a = some (.dK (kvB e.2)) := by
  obtain ⟨j, hj⟩ := List.mem_iff_getElem?.mp ha
  have j1 : j < z.2.length := by rw [← y.wa.l]; exact (List.getElem?_eq_some_iff.mp hj).1
  exact ⟨j, _, hj, List.getElem?_eq_getElem j1, y.wa.it j _ a (List.getElem?_eq_getElem j1) hj⟩
theorem WdA.keep {ws : List (Nat × List Bool)} {p : Addr} {as : List Addr} (y : WdA H p ws as) (e : H' p = H p) (k : ∀ a ∈ as, H' a = H a) : WdA H' p ws as :=
  ⟨y.l, e.trans y.e, fun i w a h1 h2 => (k a (List.mem_of_getElem? h2)).trans (y.it i w a h1 h2)⟩
theorem Zh.keep (y : Zh P w H0 H q wd z gs was) (s : Same H0 H') (k : KeepT H H') (kg : ∀ d ∈ gs, H' d = H d) (kw : H' wd = H wd) (ka : ∀ a ∈ was, H' a = H a) : Zh P w H0 H' q wd z gs was :=
  ⟨s, y.hq, y.gl, y.gn, y.g0, fun j d g h1 h2 => (y.gd j d g h1 h2).keep (kg d (List.mem_of_getElem? h1)) k, y.wa.keep kw ka, y.w0, y.wi, y.wn⟩
theorem Zh.same (y : Zh P w H0 H q wd z gs was) (s : Same H H') : Zh P w H0 H' q wd z gs was := by
  refine y.keep (y.s.trans s) (Same.keepT s) (fun d hd => ?_) (by rw [s _ _ y.wa.e, y.wa.e]) fun a ha => ?_
  · obtain ⟨_, _, _, _, dn⟩ := y.gsome hd
    obtain ⟨o, e⟩ := dn_some dn
    rw [s _ _ e, e]
  · obtain ⟨_, _, _, _, e⟩ := y.wsome ha
    rw [s _ _ e, e]
theorem Zh.weak {H1 : Hp} (y : Zh P w H1 H q wd z gs was) (s : Same H0 H1) (hq : H0 q = some (.lst (gs.map V.ref))) : Zh P w H0 H q wd z gs was := by
  have nn : ∀ {c : Addr}, H1 c = none → H0 c = none := fun {c} h => by
    cases e : H0 c with
    | none => rfl
    | some o =>
      rw [s _ _ e] at h
      cases h
  exact ⟨s.trans y.s, hq, y.gl, y.gn, fun d hd => nn (y.g0 d hd), y.gd, y.wa, nn y.w0, fun a ha => ⟨nn (y.wi a ha).1, (y.wi a ha).2⟩, y.wn⟩
theorem Zh.rebase (y : Zh P w H0 H q wd z gs was) : ∃ H1, Zh P w H1 H q wd z gs was ∧ Same H0 H1 ∧ KeepT H H1 ∧ ∀ c o, H c = some o → ¬ c ∈ gs → c ≠ wd → ¬ c ∈ was → H1 c = some o := by
  classical
  let bad : Addr → Prop := fun c => c ∈ gs ∨ c = wd ∨ c ∈ was
  have e1 : ∀ c, bad c → (if bad c then none else H c) = none := fun c h => if_pos h
  have e2 : ∀ c, ¬ bad c → (if bad c then none else H c) = H c := fun c h => if_neg h
  have nb : ∀ c o, H0 c = some o → ¬ bad c := fun c o e b => by
    rcases b with b | rfl | b
    · rw [y.g0 c b] at e; cases e
    · rw [y.w0] at e; cases e
    · rw [(y.wi c b).1] at e; cases e
  refine ⟨fun c => if bad c then none else H c, ⟨fun c o e => ?_, (e2 q (nb q _ y.hq)).trans (y.s _ _ y.hq), y.gl, y.gn, fun d hd => e1 _ (.inl hd), y.gd, y.wa, e1 _ (.inr (.inl rfl)), fun a ha => ⟨e1 _ (.inr (.inr ha)), (y.wi a ha).2⟩, y.wn⟩, fun c o e => ?_, fun c xs e => ?_, fun c o e h1 h2 h3 => ?_⟩
  · have e : (if bad c then none else H c) = some o := e
    by_cases b : bad c
    · rw [e1 c b] at e; cases e
    · rw [e2 c b] at e; exact e
  · exact (e2 c (nb c o e)).trans (y.s _ _ e)
  · refine (e2 c ?_).trans e
    rintro (b | rfl | b)
    · obtain ⟨_, _, _, _, dn⟩ := y.gsome b
      exact dn_tup dn _ e
    · rw [y.wa.e] at e; cases e
    · obtain ⟨_, _, _, _, e3⟩ := y.wsome b
      rw [e3] at e; cases e
  · refine (e2 c ?_).trans e
    rintro (b | b | b)
    · exact h1 b
    · exact h2 b
    · exact h3 b
/-- a state may stand there too -/
theorem Zh.go {j : Nat} {d : Addr} {g : List Sx} {s : Sx} (y : Zh P w H0 H q wd z gs was) (hd : gs[j]? = some d) (hg : z.1[j]? = some g) (oa : OnlyAt H H' d) (dn : DN P w false H' d (kvG (addS g s))) : Zh P w H0 H' q wd (z.1.set j (addS g s), z.2) gs was := by
  have md := List.mem_of_getElem? hd
  have dn0 := y.gd j d g hd hg
  have kt : KeepT H H' := fun c xs e => by rw [oa c fun b => dn_tup dn0 xs (by rw [← b]; exact e)]; exact e
  refine ⟨fun c o e => ?_, y.hq, by show gs.length = (z.1.set j (addS g s)).length; rw [List.length_set]; exact y.gl, y.gn, y.g0, fun j2 d2 g2 h1 h2 => ?_, y.wa.keep (oa wd fun b => ?_) fun a ha => oa a fun b => ?_, y.w0, y.wi, y.wn⟩
  · rw [oa c (ne_of_none e (y.g0 d md))]
    exact y.s _ _ e
  · rcases set_at (show (z.1.set j (addS g s))[j2]? = some g2 from h2) with ⟨rfl, rfl⟩ | ⟨n, h2⟩
    · rw [hd] at h1
      cases h1
      exact dn
    · refine (y.gd j2 d2 g2 h1 h2).keep (oa d2 fun b => n ?_) kt
      rw [b] at h1
      exact (List.getElem?_inj (List.getElem?_eq_some_iff.mp h1).1 y.gn).mp (h1.trans hd.symm)
  · obtain ⟨_, _, e, _⟩ := dn0
    rw [← b, y.wa.e] at e
    cases e
  · obtain ⟨_, _, _, _, e1⟩ := y.wsome ha
    obtain ⟨_, _, e, _⟩ := dn0
    rw [← b, e1] at e
    cases e
/-- one word more for a line that has words -/
theorem Zh.wold {m i : Nat} {b : Bool} {a : Addr} {e : Nat × List Bool} (y : Zh P w H0 H q wd z gs was) (he : z.2[m]? = some e) (ei : e.1 = i) (ha : was[m]? = some a) : Zh P w H0 (upd H a (.dK (kvB (addB e.2 b)))) q wd (z.1, z.2.set m (i, addB e.2 b)) gs was := by
  have ma := List.mem_of_getElem? ha
  have ea := y.wa.it m e a he ha
  obtain ⟨a0, aw⟩ := y.wi a ma
  have kt : KeepT H (upd H a (.dK (kvB (addB e.2 b)))) := keepT_upd ea (fun xs z => by cases z)
  refine ⟨fun c o x => by rw [upd_ne (ne_of_none x a0)]; exact y.s _ _ x, y.hq, y.gl, y.gn, y.g0, fun j d g h1 h2 => (y.gd j d g h1 h2).keep (upd_ne fun x => ?_) kt, ⟨?_, ?_, fun n v c h1 h2 => ?_⟩, y.w0, y.wi, y.wn⟩
  · obtain ⟨_, _, e1, _⟩ := y.gd j d g h1 h2
    rw [x, ea] at e1
    cases e1
  · show was.length = (z.2.set m (i, addB e.2 b)).length
    rw [List.length_set]
    exact y.wa.l
  · show upd H a _ wd = some (.dK (kvZ ((z.2.set m (i, addB e.2 b)).map (·.1)) was))
    rw [upd_ne aw.symm, keys_set he ei]
    exact y.wa.e
  · rcases set_at (show (z.2.set m (i, addB e.2 b))[n]? = some v from h1) with ⟨rfl, rfl⟩ | ⟨k, h1⟩
    · rw [ha] at h2
      cases h2
      exact upd_same
    · rw [upd_ne fun x => k (by rw [x] at h2; exact (List.getElem?_inj (List.getElem?_eq_some_iff.mp h2).1 y.wn).mp (h2.trans ha.symm))]
      exact y.wa.it n v c h1 h2
/-- a line that had none -/
theorem Zh.wnew {i : Nat} {b : Bool} {l0 : Addr} (y : Zh P w H0 H q wd z gs was) (hl : H l0 = none) (k : ∀ c o, H c = some o → c ≠ wd → H' c = some o) (ew : H' wd = some (.dK (kvZ (z.2.map (·.1) ++ [i]) (was ++ [l0])))) (el : H' l0 = some (.dK (kvB [b]))) :
    Zh P w H0 H' q wd (z.1, z.2 ++ [(i, [b])]) gs (was ++ [l0]) := by
  have kt : KeepT H H' := fun c xs e => k c _ e fun x => by rw [x, y.wa.e] at e; cases e
  have h0 : H0 l0 = none := by
    cases e : H0 l0 with
    | none => rfl
    | some o =>
      rw [y.s _ _ e] at hl
      cases hl
  have lw : l0 ≠ wd := fun x => by rw [x, y.wa.e] at hl; cases hl
  have ln : ∀ a ∈ was, a ≠ l0 := fun a ha x => by
    obtain ⟨_, _, _, _, e⟩ := y.wsome ha
    rw [x, hl] at e
    cases e
  refine ⟨fun c o x => k c o (y.s _ _ x) (ne_of_none x y.w0), y.hq, y.gl, y.gn, y.g0, fun j d g h1 h2 => ?_, ⟨?_, ?_, fun n v c h1 h2 => ?_⟩, y.w0, fun a ha => ?_, ?_⟩
  · have dn := y.gd j d g h1 h2
    obtain ⟨o, e⟩ := dn_some dn
    have dw : d ≠ wd := fun x => by
      obtain ⟨_, _, e1, _⟩ := dn
      rw [x, y.wa.e] at e1
      cases e1
    exact dn.keep (by rw [e]; exact k d o e dw) kt
  · show (was ++ [l0]).length = (z.2 ++ [(i, [b])]).length
    rw [List.length_append, List.length_append, y.wa.l]
    rfl
  · show H' wd = some (.dK (kvZ ((z.2 ++ [(i, [b])]).map (·.1)) (was ++ [l0])))
    rw [List.map_append]
    exact ew
  · by_cases c1 : n < z.2.length
    · rw [List.getElem?_append_left (by rw [y.wa.l]; exact c1)] at h2
      have h1 : z.2[n]? = some v := by
        have h1 : (z.2 ++ [(i, [b])])[n]? = some v := h1
        rw [List.getElem?_append_left c1] at h1
        exact h1
      have e := y.wa.it n v c h1 h2
      exact k c _ e (y.wi c (List.mem_of_getElem? h2)).2
    · have h1 : (z.2 ++ [(i, [b])])[n]? = some v := h1
      rw [List.getElem?_append_right (by omega)] at h1
      rw [List.getElem?_append_right (by rw [y.wa.l]; omega), y.wa.l] at h2
      cases x : n - z.2.length with
      | zero =>
        rw [x] at h1 h2
        cases h1
        cases h2
        exact el
      | succ r => rw [x] at h1; simp at h1
  · rcases List.mem_append.mp ha with x | x
    · exact y.wi a x
    · rw [List.mem_singleton.mp x]
      exact ⟨h0, lw⟩
  · refine List.nodup_append.mpr ⟨y.wn, by simp, fun a ha c hc => ?_⟩
    rw [List.mem_singleton.mp hc]
    exact ln a ha
theorem zh_init {z1 : List (List Sx)} (hq : H q = some (.lst (gs.map V.ref))) (gl : gs.length = z1.length) (gn : gs.Nodup) (gd : ∀ (j : Nat) d g, gs[j]? = some d → z1[j]? = some g → DN P w false H d (kvG g)) (hw : H wd = none) :
    ∃ HB, Zh P w HB (upd H wd (.dK [])) q wd (z1, []) gs [] ∧ ∀ c o, H c = some o → ¬ c ∈ gs → HB c = some o := by
  classical
  have e1 : ∀ c, c ∈ gs → (if c ∈ gs then none else H c) = none := fun c h => if_pos h
  have e2 : ∀ c, ¬ c ∈ gs → (if c ∈ gs then none else H c) = H c := fun c h => if_neg h
  have uw := same_upd (o := HO.dK []) hw
  have some_g : ∀ d ∈ gs, ∃ g, DN P w false H d (kvG g) := fun d hd => by
    obtain ⟨j, hj⟩ := List.mem_iff_getElem?.mp hd
    have j1 : j < z1.length := by rw [← gl]; exact (List.getElem?_eq_some_iff.mp hj).1
    exact ⟨_, gd j d _ hj (List.getElem?_eq_getElem j1)⟩
  have nq : ¬ q ∈ gs := fun h => by
    obtain ⟨g, dn⟩ := some_g q h
    exact dn_lst dn _ hq
  refine ⟨fun c => if c ∈ gs then none else H c, ⟨fun c o e => ?_, (e2 q nq).trans hq, gl, gn, fun d hd => e1 d hd, fun j d g h1 h2 => ?_, ⟨rfl, upd_same, fun i v a h1 _ => by simp at h1⟩, ?_, (fun a ha => nomatch ha), List.nodup_nil⟩, fun c o e n => (e2 c n).trans e⟩
  · have e : (if c ∈ gs then none else H c) = some o := e
    by_cases b : c ∈ gs
    · rw [e1 c b] at e; cases e
    · rw [e2 c b] at e
      exact uw _ _ e
  · have dn := gd j d g h1 h2
    obtain ⟨o, e⟩ := dn_some dn
    exact dn.keep (by rw [uw _ _ e, e]) (Same.keepT uw)
  · by_cases b : wd ∈ gs
    · exact e1 wd b
    · exact (e2 wd b).trans hw
end
/-- what the states and words are while they are found -/
structure Zk (Ls : List Layer) (n : Nat) (z : Wst) : Prop where
  l : z.1.length = n + 1
  sub : ∀ (j : Nat) g, z.1[j]? = some g → ∀ s ∈ g, ∃ L, Ls[j]? = some L ∧ s ∈ L.map (·.1)
  nd : ∀ (j : Nat) g, z.1[j]? = some g → g.Nodup
  wn : (z.2.map (·.1)).Nodup
  wb : ∀ e ∈ z.2, e.1 ≤ n ∧ e.2.Nodup
theorem addS_mem {g : List Sx} {s t : Sx} (h : t ∈ addS g s) : t ∈ g ∨ t = s := by
  unfold addS at h
  split at h
  · exact .inl h
  · rcases List.mem_append.mp h with h | h
    · exact .inl h
    · exact .inr (List.mem_singleton.mp h)
theorem addS_nd {g : List Sx} {s : Sx} (h : g.Nodup) : (addS g s).Nodup := by
  unfold addS
  by_cases c : s ∈ g
  · rw [if_pos c]; exact h
  · rw [if_neg c]
    exact List.nodup_append.mpr ⟨h, by simp, fun a ha b hb => by rw [List.mem_singleton.mp hb]; exact fun z => c (z ▸ ha)⟩
theorem addB_nd {l : List Bool} {b : Bool} (h : l.Nodup) : (addB l b).Nodup := by
  unfold addB
  by_cases c : b ∈ l
  · rw [if_pos c]; exact h
  · rw [if_neg c]
    exact List.nodup_append.mpr ⟨h, by simp, fun a ha b hb => by rw [List.mem_singleton.mp hb]; exact fun z => c (z ▸ ha)⟩
theorem Zk.go {Ls : List Layer} {n : Nat} {z : Wst} {j : Nat} {g : List Sx} {s : Sx} (k : Zk Ls n z) (hg : z.1[j]? = some g) (hs : ∃ L, Ls[j]? = some L ∧ s ∈ L.map (·.1)) : Zk Ls n (z.1.set j (addS g s), z.2) := by
  refine ⟨by show (z.1.set j (addS g s)).length = n + 1; rw [List.length_set]; exact k.l, fun j2 g2 h2 t ht => ?_, fun j2 g2 h2 => ?_, k.wn, k.wb⟩
  · rcases set_at (show (z.1.set j (addS g s))[j2]? = some g2 from h2) with ⟨rfl, rfl⟩ | ⟨_, h2⟩
    · rcases addS_mem ht with ht | rfl
      · exact k.sub _ _ hg t ht
      · exact hs
    · exact k.sub _ _ h2 t ht
  · rcases set_at (show (z.1.set j (addS g s))[j2]? = some g2 from h2) with ⟨rfl, rfl⟩ | ⟨_, h2⟩
    · exact addS_nd (k.nd _ _ hg)
    · exact k.nd _ _ h2
theorem Zk.word {Ls : List Layer} {n : Nat} {z : Wst} {i : Nat} {b : Bool} (k : Zk Ls n z) (hi : i ≤ n) : Zk Ls n (z.1, addW z.2 i b) := by
  refine ⟨k.l, k.sub, k.nd, ?_, ?_⟩
  · show ((addW z.2 i b).map (·.1)).Nodup
    rcases addW_cases i b z.2 with ⟨m, e, h1, h2, h3⟩ | ⟨h1, h3⟩
    · rw [h3, keys_set h1 h2]
      exact k.wn
    · rw [h3, List.map_append]
      exact List.nodup_append.mpr ⟨k.wn, by simp, fun a ha c hc => by rw [List.mem_singleton.mp (show c ∈ [i] from hc)]; exact fun x => h1 (x ▸ ha)⟩
  · intro e he
    have he : e ∈ addW z.2 i b := he
    rcases addW_cases i b z.2 with ⟨m, e2, h1, h2, h3⟩ | ⟨h1, h3⟩
    · rw [h3] at he
      rcases List.mem_or_eq_of_mem_set he with x | x
      · exact k.wb e x
      · rw [x]
        exact ⟨hi, addB_nd (k.wb e2 (List.mem_of_getElem? h1)).2⟩
    · rw [h3] at he
      rcases List.mem_append.mp he with x | x
      · exact k.wb e x
      · rw [List.mem_singleton.mp x]
        exact ⟨hi, by simp⟩
theorem Zk.few {Ls : List Layer} {n : Nat} {z : Wst} (k : Zk Ls n z) : z.2.length ≤ n + 1 := by
  have a := List.Nodup.length_le_of_subset k.wn (l₂ := List.range (n + 1)) fun i hi => by
    obtain ⟨e, he, rfl⟩ := List.mem_map.mp hi
    exact List.mem_range.mpr (by have := (k.wb e he).1; omega)
  rw [List.length_map, List.length_range] at a
  exact a
theorem few_bools {l : List Bool} (h : l.Nodup) : l.length ≤ 2 := by
  have a := List.Nodup.length_le_of_subset h (l₂ := [true, false]) fun b _ => by cases b <;> simp
  exact a
theorem getG {z : List (List Sx)} {j : Nat} {g : List Sx} (h : z[j]? = some g) : z.getD j [] = g := by
  rw [List.getD_eq_getElem?_getD, h]
  rfl
end K35

set_option Elab.async false
set_option linter.all false
set_option maxRecDepth 100000
set_option maxHeartbeats 8000000
/-! words_read. -/
namespace K35
open PySem L2 L2.EV
abbrev sWords : Stmt := top 33
def spWords (P : Program) (w : World) : Sp := fun vs H Q _ => ∃ (f p : Addr) (fr : List T3) (last : Nat) (x : Str) (nw : Nat) (H0 : Hp) (Ls : List Layer) (ds : List Addr) (as : List (List Addr)), vs = [.ref f, .ref p] ∧ FrA H f fr ∧ Frm fr last ∧ x.length ≤ 60 ∧ nw ≤ 3 ∧
  Ly P w H0 H p Ls ds as ∧ Wl fr x nw last Ls ∧ ∀ H' q bs, Same H H' → WdA H' q (wF fr Ls x.length x.length).2 bs → Zk Ls x.length (wF fr Ls x.length x.length) → Q (.ref q) H'
structure Rf (K : PySem.W.Frag) (mg : Str → Option Value) where
  C : Cf K mg
  f : Addr
  d : FuncData
  F : Fun K "words_read" "words_read" sWords f d
  b : Binds K d ["framing", "layers"] []
  m : mg "words_read" = some (.ref f)
  cW : ∃ t, mg "WHOLE" = some (.str "whole" t)
abbrev NW : List Str := ["framing", "layers", "going", "state", "words", "at", "before", "ahead", "writer", "number", "start", "piece", "goal", "mixed", "layer"]
theorem set_nodup {α : Type} {a : α} : ∀ {l : List α} {i : Nat}, ¬ a ∈ l → l.Nodup → (l.set i a).Nodup
  | [], _, _, h => h
  | b :: l, 0, n, h => List.nodup_cons.mpr ⟨fun z => n (List.mem_cons_of_mem _ z), (List.nodup_cons.mp h).2⟩
  | b :: l, i + 1, n, h => by
    obtain ⟨h1, h2⟩ := List.nodup_cons.mp h
    refine List.nodup_cons.mpr ⟨fun z => ?_, set_nodup (fun z => n (List.mem_cons_of_mem _ z)) h2⟩
    rcases List.mem_or_eq_of_mem_set z with z | z
    · exact h1 z
    · exact n (by rw [z]; exact List.mem_cons_self ..)
theorem wF_succ {fr : List T3} {Ls : List Layer} {n k : Nat} : wF fr Ls n (k + 1) = wI fr Ls (wF fr Ls n k) (n - k) := by
  unfold wF
  rw [List.range_succ, List.foldl_append]
  rfl
theorem zk_w0 {fr : List T3} {x : Str} {nw last : Nat} {Ls : List Layer} (W : Wl fr x nw last Ls) : Zk Ls x.length (w0 Ls x.length) := by
  have jL : x.length < Ls.length := by rw [W.len]; omega
  have hL := List.getElem?_eq_getElem jL
  have e : w0 Ls x.length = ((List.replicate (x.length + 1) []).set x.length ((Ls[x.length]).map (·.1)), []) := by unfold w0; rw [getD_at hL]
  rw [e]
  refine ⟨by simp, fun j g h s hs => ?_, fun j g h => ?_, by simp, fun e he => nomatch he⟩
  · rcases set_at h with ⟨rfl, rfl⟩ | ⟨_, h⟩
    · exact ⟨_, hL, hs⟩
    · rw [rep_at h] at hs
      cases hs
  · rcases set_at h with ⟨rfl, rfl⟩ | ⟨_, h⟩
    · exact W.nd _ _ hL
    · rw [rep_at h]
      exact List.nodup_nil
theorem mk_mix (m : Mk) : decide (mkV m = V.str "mixed") = decide (m = .mix) := by
  cases m with
  | no => rw [decide_eq_false (by intro z; cases z), decide_eq_false (by intro z; cases z)]
  | one k => rw [decide_eq_false (by intro z; cases z), decide_eq_false (by intro z; cases z)]
  | mix => simp [mkV]
theorem scal_mix (m : Mk) : scal (mkV m) (.str "mixed") = true := by cases m <;> rfl
section
variable {P : Program} {w : World} {K : PySem.W.Frag} {mg : Str → Option Value} {base : Heap}
theorem scWords : FnScope NW ["framing", "layers"] (defScope sWords) := ⟨rfl, rfl, rfl, by decide +kernel, rfl, by decide +kernel, by decide +kernel⟩
theorem ok_words (T : Rf K mg) : FnOk P w K mg base CX0 2 T.f T.d ["framing", "layers"] (spWords P w) := by
  have GM : FnOk P w K mg base CX0 1 T.C.T.G.S.fM T.C.T.G.S.dM ["maker", "writer", "start"] spMaker := ok_maker T.C.T.G.S
  refine T.F.ok scWords (fun vs H Q E h => ?_) (fun cdv A outer s H vs Q E hr h => ?_)
  · obtain ⟨f, p, fr, last, x, nw, H0, Ls, ds, as, rfl, _⟩ := h
    rfl
  · obtain ⟨f, p, fr, last, x, nw, H0, Ls, ds, as, rfl, fa, fm, x60, n3, Y, W, q⟩ := h
    have hu : (A.deeper (PyProof.Rows.envOfC "words_read" (defScope sWords) s.heap.objs.size T.f cdv)).units + 9 < cLine := by have := hr.un; omega
    have hu8 : (A.deeper (PyProof.Rows.envOfC "words_read" (defScope sWords) s.heap.objs.size T.f cdv)).units + 8 < cLine := by omega
    have hu1 : (A.deeper (PyProof.Rows.envOfC "words_read" (defScope sWords) s.heap.objs.size T.f cdv)).units + 1 < cLine := by omega
    obtain ⟨tM, eM⟩ := T.C.T.G.S.cM
    obtain ⟨tW, eW⟩ := T.cW
    refine ⟨_, pss_cons (ps_setLc (i := 2) (y := "going") (own := [("layer", 14)]) (g := gName 14) (te := tNNew P w) rfl scWords.nd rfl rfl rfl (pi_list (pv 1))
        (blkOk_by (N := NW) (sc := defScope sWords) (by decide +kernel)) (fun _ _ _ _ _ => pg_name (i := 14) scWords.nd rfl (Or.inl rfl)) (fun _ _ _ _ _ => pts_nil) (fun _ _ _ _ _ => pe_nnew))
      (pss_cons (ps_lock (ps_asg (pe_dcN (B := false) (own := [("state", 3)]) (g := gName 3) (tk := tVar 3) (tv := tC (.bl true)) hu8 rfl scWords.nd (pi_keysN (B := false) (pe_ix ix_list (pv 1) (pe_un un_neg pe_int) (fun _ _ => rfl)))
        (blkOk_by (N := NW) (sc := defScope sWords) (by decide +kernel)) (fun _ _ _ _ _ => pg_name (i := 3) scWords.nd rfl (Or.inl rfl)) (fun _ _ _ _ _ => pv 3) (fun _ _ _ _ _ => pe_bl)) (pg_sub (pv 2) (pe_un un_neg pe_int) set_list)))
      (pss_cons (ps_set (i := 4) scWords.nd rfl (Or.inl rfl) pe_dnewK)
      (pss_cons (ps_for PassesOwn.never rfl (pi_range3 (by rfl) T.C.T.G.ra (pa_cons (pe_op op_sub (pe_callB call_len_seq (by rfl) T.C.T.G.S.Y.Z.T.len PySem.boot_len (pa_cons (pv 1) pa_nil)) pe_int) (pa_cons pe_int (pa_cons (pe_un un_neg pe_int) pa_nil)))) (pg_name (i := 5) scWords.nd rfl (Or.inl rfl))
        (pss_one (ps_for PassesOwn.never rfl (pi_list (pe_callTy (call_list_dN (B := false) rfl) (by rfl) T.C.T.li (by decide +kernel) (pa_cons (pe_ix ix_list (pv 2) (pv 5) (fun _ _ => rfl)) pa_nil))) (pg_name (i := 3) scWords.nd rfl (Or.inl rfl))
          (pss_one (ps_for PassesOwn.never rfl (pi_list (pe_nget (B := false) hu (pe_ix ix_list (pv 1) (pv 5) (fun _ _ => rfl)) (pv 3) (fun _ _ => rfl)))
              (pg_tup rfl (pgs_cons (pg_name (i := 6) scWords.nd rfl (Or.inl rfl)) (pgs_cons (pg_name (i := 7) scWords.nd rfl (Or.inl rfl)) (pgs_cons (pg_tup rfl (pgs_cons (pg_name (i := 8) scWords.nd rfl (Or.inl rfl)) (pgs_cons (pg_name (i := 9) scWords.nd rfl (Or.inl rfl)) pgs_nil))) pgs_nil))))
            (pss_cons (ps_nput (B := false) hu (pe_ix ix_list (pv 2) (pv 6) (fun _ _ => rfl)) (pv 7) pe_bl rfl)
            (pss_cons (ps_asg (pe_ix ix_tup (pv 0) (pv 9) (fun _ _ => rfl)) (pg_tup rfl (pgs_cons (pg_name (i := 10) scWords.nd rfl (Or.inl rfl)) (pgs_cons (pg_name (i := 11) scWords.nd rfl (Or.inl rfl)) (pgs_cons (pg_name (i := 12) scWords.nd rfl (Or.inl rfl)) pgs_nil)))))
            (pss_one (ps_if (pt_cmpR op_eq (pv 12) pe_int (nomark _))
              (pss_cons (ps_set (i := 13) scWords.nd rfl (Or.inl rfl) (pe_cmpR op_eq (pe_call GM hr (by rfl) T.C.T.G.S.mM T.C.T.G.S.M.kp T.C.T.G.S.bM .nil pass0 (pa_cons (pe_ix ix_tup (pv 7) pe_int (fun _ _ => rfl)) (pa_cons (pv 8) (pa_cons (pv 10) pa_nil)))) (pe_glob (v := .str "mixed") (by rfl) eM ⟨_, rfl⟩) (nomark _)))
              (pss_one (ps_dput hu1 (pe_dsetd (pv 4) (pv 5) pe_dnewK ⟨rfl, rfl, rfl, rfl⟩) (pe_ifExp (pt_val (pv 13)) (pe_glob (v := .str "mixed") (by rfl) eM ⟨_, rfl⟩) (pe_glob (v := .str "whole") (by rfl) eW ⟨_, rfl⟩)) pe_bl rfl)))
              pss_nil)))))))))
      (pss_one (ps_ret (pv 4)))))), ?_⟩
    have dsl : ds.length = x.length + 1 := by rw [Y.dl, W.len]
    refine ⟨_, rfl, p, rfl, ⟨_, SqL.of Y.hp⟩, fun D hD => ?_⟩
    have uD := same_upd (o := HO.lst []) hD
    refine lc_it (walk_list (xs := ds.map V.ref)) (fun i H' => ∃ gs : List Addr, H' D = some (.lst (gs.map V.ref)) ∧ gs.length = i ∧ gs.Nodup ∧ (∀ d ∈ gs, H d = none ∧ d ≠ D ∧ DN P w false H' d []) ∧ Same H H')
      ⟨[], upd_same, rfl, List.nodup_nil, (fun d hd => nomatch hd), uD⟩ (fun i H' _ ⟨_, _, _, _, _, z⟩ => SqL.of (z _ _ Y.hp)) ?_ ?_
    · rintro i y H1 H2 hi ⟨gs, h1, h2, h3, h4, h5⟩ ⟨rfl, _⟩
      have hi : i < x.length + 1 := by simpa [dsl] using hi
      refine ⟨rfl, fun pn hpn => ?_⟩
      have un := same_upd (o := DNo P w pn []) hpn
      have h1' := un _ _ h1
      refine ⟨_, h1', by rw [List.length_map, h2, sizeLine_eq]; omega, gs ++ [pn], ?_, by rw [List.length_append, h2]; rfl, ?_, ?_, fun b o z => ?_⟩
      · rw [List.map_append]
        exact upd_same
      · refine List.nodup_append.mpr ⟨h3, by simp, fun a ha b hb => ?_⟩
        rw [List.mem_singleton.mp hb]
        intro z
        obtain ⟨_, _, z2⟩ := h4 a ha
        obtain ⟨o, z3⟩ := dn_some z2
        rw [z, hpn] at z3
        cases z3
      · have nD : pn ≠ D := fun z => by rw [z, h1] at hpn; cases hpn
        intro d hd
        rcases List.mem_append.mp hd with hd | hd
        · obtain ⟨a1, a2, a3⟩ := h4 d hd
          obtain ⟨o, z3⟩ := dn_some a3
          exact ⟨a1, a2, a3.keep (by rw [upd_ne a2, un _ _ z3, z3]) ((Same.keepT un).trans (keepT_upd h1' (fun xs z => by cases z)))⟩
        · rw [List.mem_singleton.mp hd]
          exact ⟨same_none h5 hpn, nD, [], rfl, by rw [upd_ne nD]; exact upd_same, fun x hx => nomatch hx⟩
      · rw [upd_ne (ne_of_none z hD)]
        exact un _ _ (h5 _ _ z)
    · rintro H1 ⟨gs, h1, h2, h3, h4, hS⟩
      rw [List.length_map, dsl] at h2
      -- the last layer's states
      have jL : x.length < Ls.length := by rw [W.len]; omega
      have hL := List.getElem?_eq_getElem jL
      generalize Ls[x.length] = L at hL
      have hd : ds[x.length]? = some (ds[x.length]'(by rw [Y.dl]; exact jL)) := List.getElem?_eq_getElem _
      generalize ds[x.length]'(by rw [Y.dl]; exact jL) = dl at hd
      have ha : as[x.length]? = some (as[x.length]'(by rw [Y.al]; exact jL)) := List.getElem?_eq_getElem _
      generalize as[x.length]'(by rw [Y.al]; exact jL) = al at ha
      have Y1 := Y.same hS
      obtain ⟨la, xs, exs, edl, kx⟩ := Y1.dd _ _ _ _ hd hL ha
      have lx : xs.length = L.length := by
        have z := congrArg List.length exs
        rw [rows1_len, kvF_len (by rw [List.length_map]; exact la), List.length_map] at z
        exact z
      refine ⟨dl, _, edl, True.intro, fun od => ?_⟩
      have pdl : p ≠ dl := fun z => by
        have e := Y1.hp
        rw [z, edl] at e
        cases e
      have hp1 : upd H1 dl (.frz od (DNo P w dl xs)) p = some (.lst (ds.map V.ref)) := by
        rw [upd_ne pdl]
        exact Y1.hp
      refine ⟨_, rfl, _, rfl, p, _, -1, .ref dl, rfl, rfl, SqL.of hp1, at_end2 dsl hd, dl, od, xs, rfl, upd_same, fun D2 hD2 => ?_⟩
      -- the keys are the states
      have nk : ∀ (k : Nat) (e : NEnt), xs[k]? = some e → ∃ s, (L.map (·.1))[k]? = some s ∧ e.1 = keyS s := fun k e he => by
        have z : (rows1 xs)[k]? = some (e.1, e.2.2) := by unfold rows1; rw [List.getElem?_map, he]; rfl
        rw [exs] at z
        unfold kvF at z
        rw [List.getElem?_map] at z
        cases zz : ((L.map (·.1)).zip al)[k]? with
        | none => rw [zz] at z; cases z
        | some v =>
          rw [zz] at z
          obtain ⟨z1, z2⟩ := List.getElem?_zip_eq_some.mp zz
          have z3 : (keyS v.1, V.ref v.2) = (e.1, e.2.2) := Option.some.inj z
          exact ⟨v.1, z1, (congrArg Prod.fst z3).symm⟩
      have kF : KeepT H1 (upd H1 dl (.frz od (DNo P w dl xs))) := keepT_upd edl (fun ys z => nomatch (show DNo P w dl xs = HO.tup ys from z))
      have knd := W.nd _ L hL
      refine dcN_it walk_keysN (fun i H' => DN P w false H' D2 (kvG ((L.map (·.1)).take i)) ∧ ∀ b o, upd H1 dl (.frz od (DNo P w dl xs)) b = some o → H' b = some o) ⟨⟨[], rfl, upd_same, fun e he => nomatch he⟩, fun b o z => same_upd hD2 b o z⟩
        (fun i H' _ z => ⟨z.2 _ _ upd_same, (kx.keep kF).keep fun b ys e => z.2 _ _ e⟩) ?_ ?_
      · rintro i y H2 H3 hi ⟨dn, kp⟩ ⟨rfl, e, he, rfl, ke⟩
        obtain ⟨s1, hs1, es1⟩ := nk i e he
        have l10 : L.length ≤ 1080 := layer_few n3 fm.l5 knd (W.so _ L hL)
        have nin : ¬ s1 ∈ (L.map (·.1)).take i := fun z => by
          obtain ⟨k, hk⟩ := List.mem_iff_getElem?.mp z
          have kl : k < i := by
            have := (List.getElem?_eq_some_iff.mp hk).1
            rw [List.length_take] at this
            omega
          rw [List.getElem?_take_of_lt kl] at hk
          have := (List.getElem?_inj (List.getElem?_eq_some_iff.mp hk).1 knd).mp (hk.trans hs1.symm)
          omega
        refine ⟨rfl, _, rfl, _, e.1, e.2.1, rfl, dn, ke, by rw [kvG_len, List.length_take, sizeLine_eq]; have := List.length_map (f := fun x : Sx × List Trip => x.1) (as := L); omega, fun H5 oa dn5 => ⟨?_, fun b o z => ?_⟩⟩
        · rw [es1, kvG_put] at dn5
          unfold addS at dn5
          rw [if_neg nin, ← take_one hs1] at dn5
          exact dn5
        · rw [oa b (ne_of_none z hD2)]
          exact kp b o z
      · rintro H2 ⟨dn, kp⟩
        rw [lx, ← List.length_map (f := fun x : Sx × List Trip => x.1), List.take_length] at dn
        have DD : D ≠ dl := fun z => by rw [z, edl] at h1; cases h1
        have D2D : D2 ≠ D := fun z => by
          rw [z, upd_ne DD, h1] at hD2
          cases hD2
        have hq2 : H2 D = some (.lst (gs.map V.ref)) := kp _ _ (by rw [upd_ne DD]; exact h1)
        have hdl2 : H2 dl = some (.frz od (DNo P w dl xs)) := kp _ _ upd_same
        have D2l : D2 ≠ dl := fun z => by rw [z, upd_same] at hD2; cases hD2
        refine ⟨_, rfl, _, rfl, D, gs.map V.ref, -1, x.length, rfl, rfl, hq2, ?_, by rw [upd_ne DD.symm]; exact hdl2, ?_⟩
        · unfold ixN
          rw [if_neg (by decide), if_pos (by rw [List.length_map, h2]; omega), List.length_map, h2]
          congr 1
          omega
        -- all is in place
        have kq : ∀ c o, H2 c = some o → c ≠ D → c ≠ dl → upd (upd H2 D (.lst ((gs.map V.ref).set x.length (.ref D2)))) dl (DNo P w dl xs) c = some o := fun c o e n1 n2 => by rw [upd_ne n2, upd_ne n1]; exact e
        have sH4 : Same H (upd (upd H2 D (.lst ((gs.map V.ref).set x.length (.ref D2)))) dl (DNo P w dl xs)) := fun c o e => by
          by_cases n2 : c = dl
          · rw [n2, upd_same]
            have e1 := hS _ _ e
            rw [n2, edl] at e1
            exact e1
          · exact kq c o (kp _ _ (by rw [upd_ne n2]; exact hS _ _ e)) (ne_of_none e hD) n2
        have hq4 : upd (upd H2 D (.lst ((gs.map V.ref).set x.length (.ref D2)))) dl (DNo P w dl xs) D = some (.lst ((gs.set x.length D2).map V.ref)) := by
          rw [upd_ne DD, upd_same, List.map_set]
        have k4 : KeepT H2 (upd (upd H2 D (.lst ((gs.map V.ref).set x.length (.ref D2)))) dl (DNo P w dl xs)) := fun c ys e => kq c _ e (fun z => by rw [z, hq2] at e; cases e) fun z => by rw [z, hdl2] at e; cases e
        have gd4 : ∀ (j : Nat) d g, (gs.set x.length D2)[j]? = some d → (w0 Ls x.length).1[j]? = some g → DN P w false (upd (upd H2 D (.lst ((gs.map V.ref).set x.length (.ref D2)))) dl (DNo P w dl xs)) d (kvG g) := fun j d g q1 q2 => by
          have q2 : ((List.replicate (x.length + 1) ([] : List Sx)).set x.length ((Ls.getD x.length []).map (·.1)))[j]? = some g := q2
          rw [getD_at hL] at q2
          rcases set_at q1 with ⟨rfl, rfl⟩ | ⟨n, q1⟩
          · rw [List.getElem?_set_self (by rw [List.length_replicate]; omega)] at q2
            cases q2
            exact dn.keep (by rw [upd_ne D2l, upd_ne D2D]) k4
          · rw [List.getElem?_set_ne (fun z => n z.symm)] at q2
            rw [rep_at q2]
            obtain ⟨a1, a2, a3⟩ := h4 d (List.mem_of_getElem? q1)
            have ddl : d ≠ dl := fun z => by
              obtain ⟨o, e5⟩ := dn_some (Y.dd _ _ _ _ hd hL ha).2
              rw [z, e5] at a1
              cases a1
            obtain ⟨o, e3⟩ := dn_some a3
            have e4 := kp _ _ (by rw [upd_ne ddl]; exact e3)
            refine a3.keep (by rw [upd_ne ddl, upd_ne a2, e4, e3]) (fun c ys e => k4 _ _ (kp _ _ (kF _ _ e)))
        have gn4 : (gs.set x.length D2).Nodup := by
          refine set_nodup (fun hm => ?_) h3
          obtain ⟨_, _, a3⟩ := h4 D2 hm
          obtain ⟨o, e3⟩ := dn_some a3
          rw [upd_ne D2l, e3] at hD2
          cases hD2
        generalize upd (upd H2 D (.lst ((gs.map V.ref).set x.length (.ref D2)))) dl (DNo P w dl xs) = H4 at sH4 hq4 gd4 ⊢
        have gl4 : (gs.set x.length D2).length = (w0 Ls x.length).1.length := by
          show _ = ((List.replicate (x.length + 1) ([] : List Sx)).set x.length _).length
          rw [List.length_set, List.length_set, List.length_replicate, h2]
        have g04 : ∀ d ∈ gs.set x.length D2, H d = none := fun d hd => by
          rcases List.mem_or_eq_of_mem_set hd with z | z
          · exact (h4 d z).1
          · rw [z]
            cases e : H D2 with
            | none => rfl
            | some o =>
              rw [upd_ne D2l, hS _ _ e] at hD2
              cases hD2
        generalize gs.set x.length D2 = ge at gd4 gn4 gl4 g04 hq4
        refine fun wd hwd => ?_
        obtain ⟨HB, Z0, kB⟩ := zh_init hq4 gl4 gn4 gd4 hwd
        have sB : Same H HB := fun c o e => kB c o (sH4 _ _ e) fun z => by rw [g04 c z] at e; cases e
        have YB := Y.same sB
        have hqB : HB D = some (.lst (ge.map V.ref)) := Z0.hq
        have lp : (ds.map V.ref).length = x.length + 1 := by rw [List.length_map, dsl]
        refine ⟨_, rfl, p, _, rfl, .inl (SqL.of (Z0.s _ _ YB.hp)), _, 1, rfl, rfl, _, rfl, _, 0, -1, _, rfl, RgC.neg (by rw [lp]; omega) (by rw [lp]; omega) (by decide) (by decide), for_it walk_rangeC (fun k σ H' => ∃ (v3 v5 v6 v7 v8 v9 v10 v11 v12 v13 v14 : Option V) (was : List Addr), σ = [some (.ref f), some (.ref p), some (.ref D), v3, some (.ref wd), v5, v6, v7, v8, v9, v10, v11, v12, v13, v14] ∧
          Zh P w HB H' D wd (wF fr Ls x.length k) ge was ∧ Zk Ls x.length (wF fr Ls x.length k)) ⟨none, none, none, none, none, none, none, none, none, none, none, [], rfl, Z0, zk_w0 W⟩ (fun _ _ _ _ _ => trivial) ?_ ?_⟩
        · clear Z0 dn kp
          rintro k y σ Hz H5 hk ⟨v3, v5, v6, v7, v8, v9, v10, v11, v12, v13, v14, was, rfl, Z, ZK⟩ ⟨rfl, rfl⟩
          have hk : k < x.length := by rw [lp] at hk; omega
          have ev : (fun i : Nat => V.int (((ds.map V.ref).length : Int) - 1 + (i : Int) * -1)) k = V.int ((x.length - k : Nat) : Int) := by
            show V.int (((ds.map V.ref).length : Int) - 1 + (k : Int) * -1) = _
            rw [lp]
            congr 1
            omega
          rw [ev]
          rw [wF_succ]
          generalize hz : wF fr Ls x.length k = z at Z ZK
          generalize hi : x.length - k = i
          have i1 : 1 ≤ i := by omega
          have ix : i ≤ x.length := by omega
          clear hi ev
          have jz : i < z.1.length := by rw [ZK.l]; omega
          have hg := List.getElem?_eq_getElem jz
          generalize z.1[i] = g at hg
          have hdi : ge[i]? = some (ge[i]'(by rw [Z.gl]; exact jz)) := List.getElem?_eq_getElem _
          generalize ge[i]'(by rw [Z.gl]; exact jz) = gi at hdi
          have dng := Z.gd i gi g hdi hg
          refine ⟨_, rfl, _, rfl, D, _, (i : Int), .ref gi, rfl, rfl, SqL.of (Z.s _ _ Z.hq), atI_nat (by rw [List.getElem?_map, hdi]; rfl), gi, _, rfl, dng.rd, fun pS bs hS keys => ⟨pS, rfl, ⟨_, SqL.of upd_same⟩, ?_⟩⟩
          have uS := same_upd (o := HO.lst (bs.map V.ref)) hS
          have Z5 := Z.same uS
          obtain ⟨HC, ZC, sC, kC, eC⟩ := Z5.rebase
          have bS : HC pS = some (.lst (bs.map V.ref)) := by
            refine eC pS _ upd_same (fun h => ?_) (fun h => ?_) fun h => ?_
            · obtain ⟨_, _, _, _, dn⟩ := Z.gsome h
              obtain ⟨o, e⟩ := dn_some dn
              rw [e] at hS
              cases hS
            · rw [h, Z.wa.e] at hS
              cases hS
            · obtain ⟨_, _, _, _, e⟩ := Z.wsome h
              rw [e] at hS
              cases hS
          have YC := YB.same sC
          have lB : bs.length = g.length := by
            have := Paired.length keys
            rw [kvG_len] at this
            exact this.symm
          have eI : wI fr Ls z i = g.foldl (wS fr Ls i) z := by unfold wI; rw [getG hg]
          rw [eI]
          have hLi : Ls[i]? = some (Ls[i]'(by rw [W.len]; omega)) := List.getElem?_eq_getElem _
          generalize Ls[i]'(by rw [W.len]; omega) = Li at hLi
          have hdl : ds[i]? = some (ds[i]'(by rw [dsl]; omega)) := List.getElem?_eq_getElem _
          generalize ds[i]'(by rw [dsl]; omega) = di at hdl
          have hal : as[i]? = some (as[i]'(by rw [Y.al, W.len]; omega)) := List.getElem?_eq_getElem _
          generalize as[i]'(by rw [Y.al, W.len]; omega) = ai at hal
          have sub := ZK.sub i g hg
          refine for_it (walk_list (xs := bs.map V.ref)) (fun m σ H' => ∃ (v3 v6 v7 v8 v9 v10 v11 v12 v13 v14 : Option V) (was : List Addr), σ = [some (.ref f), some (.ref p), some (.ref D), v3, some (.ref wd), some (.int (i : Int)), v6, v7, v8, v9, v10, v11, v12, v13, v14] ∧
            Zh P w HC H' D wd ((g.take m).foldl (wS fr Ls i) z) ge was ∧ Zk Ls x.length ((g.take m).foldl (wS fr Ls i) z)) ⟨v3, v6, v7, v8, v9, v10, v11, v12, v13, v14, was, rfl, ZC, ZK⟩ (fun m σ H' _ ⟨_, _, _, _, _, _, _, _, _, _, _, _, y, _⟩ => SqL.of (y.s _ _ bS)) ?_ ?_
          · clear ZC Z5 Z ZK dng
            rintro m y σ Hz H6 hm ⟨v3, v6, v7, v8, v9, v10, v11, v12, v13, v14, was, rfl, Z, ZK⟩ ⟨rfl, hy⟩
            have hm2 : m < bs.length := by simpa using hm
            obtain ⟨b, hb, rfl⟩ : ∃ b, bs[m]? = some b ∧ y = .ref b := by
              have hy : (bs.map V.ref)[m]? = some y := hy
              rw [List.getElem?_map, List.getElem?_eq_getElem hm2] at hy
              exact ⟨_, List.getElem?_eq_getElem hm2, (Option.some.inj hy).symm⟩
            have hgs : g[m]? = some (g[m]'(by omega)) := List.getElem?_eq_getElem _
            generalize g[m]'(by omega) = s0 at hgs
            have stB : StA HC b s0 := (keysG_at keys hb hgs).keep fun c ys e => kC _ _ (uS _ _ e)
            obtain ⟨L', e1, ms⟩ := sub s0 (List.mem_of_getElem? hgs)
            rw [hLi] at e1
            cases e1
            obtain ⟨e, he, rfl⟩ := List.mem_map.mp ms
            obtain ⟨mi, hmi⟩ := List.mem_iff_getElem?.mp he
            obtain ⟨lai, dni⟩ := YC.dd i di Li ai hdl hLi hal
            have ib : mi < ai.length := by rw [lai]; exact (List.getElem?_eq_some_iff.mp hmi).1
            have hbi := List.getElem?_eq_getElem ib
            generalize ai[mi] = bi at hbi
            obtain ⟨⟨tl, ebl, atl⟩, _⟩ := YC.ll i Li ai mi bi e hLi hal hbi hmi
            have hkm : (Li.map (·.1))[mi]? = some e.1 := by rw [List.getElem?_map, hmi]; rfl
            rw [fold_one hgs]
            have eS : ∀ z, wS fr Ls i z e.1 = e.2.foldl (wT fr i) z := fun z => by
              unfold wS
              rw [getD_at hLi, seek_at (W.nd i Li hLi) hmi]
            rw [eS]
            generalize (g.take m).foldl (wS fr Ls i) z = zm at Z ZK
            have dn6 := ((YC.same Z.s).dd i di Li ai hdl hLi hal).2
            refine ⟨_, rfl, _, rfl, p, _, (i : Int), .ref di, rfl, rfl, SqL.of (Z.s _ _ YC.hp), atI_nat (by rw [List.getElem?_map, hdl]; rfl), _, rfl, di, b, _, keyS e.1, .ref bi, rfl, rfl, dn6.rd, (stB.keep (Same.keepT Z.s)).key, kvF_at (W.nd i Li hLi) hkm hbi, bi, rfl, ⟨_, SqL.of (Z.s _ _ ebl)⟩, ?_⟩
            refine for_it (walk_list (xs := tl.map V.ref)) (fun r σ H' => ∃ (v6 v7 v8 v9 v10 v11 v12 v13 v14 : Option V) (was : List Addr), σ = [some (.ref f), some (.ref p), some (.ref D), some (.ref b), some (.ref wd), some (.int (i : Int)), v6, v7, v8, v9, v10, v11, v12, v13, v14] ∧
              Zh P w HC H' D wd ((e.2.take r).foldl (wT fr i) zm) ge was ∧ Zk Ls x.length ((e.2.take r).foldl (wT fr i) zm)) ⟨v6, v7, v8, v9, v10, v11, v12, v13, v14, was, rfl, Z, ZK⟩ (fun m σ H' _ ⟨_, _, _, _, _, _, _, _, _, _, _, y, _⟩ => SqL.of (y.s _ _ ebl)) ?_ ?_
            · clear Z ZK dn6
              rintro r y σ Hz H7 hr2 ⟨v6, v7, v8, v9, v10, v11, v12, v13, v14, was, rfl, Z, ZK⟩ ⟨rfl, hy⟩
              have hr3 : r < tl.length := by simpa using hr2
              obtain ⟨tr, htr, rfl⟩ : ∃ tr, tl[r]? = some tr ∧ y = .ref tr := by
                have hy : (tl.map V.ref)[r]? = some y := hy
                rw [List.getElem?_map, List.getElem?_eq_getElem hr3] at hy
                exact ⟨_, List.getElem?_eq_getElem hr3, (Option.some.inj hy).symm⟩
              have hu2 : e.2[r]? = some (e.2[r]'(by rw [← atl.1]; exact hr3)) := List.getElem?_eq_getElem _
              generalize e.2[r]'(by rw [← atl.1]; exact hr3) = u at hu2
              obtain ⟨sa, ea, z1, z2, z3⟩ := atl.2 r tr u htr hu2
              have tok := W.to i Li hLi e he u (List.mem_of_getElem? hu2)
              rw [fold_one hu2]
              generalize (e.2.take r).foldl (wT fr i) zm = zr at Z ZK
              obtain ⟨sp, es1, es2⟩ := z2
              have ul : u.1 < zr.1.length := by
                obtain ⟨L2, e2, _⟩ := tok.s
                have := (List.getElem?_eq_some_iff.mp e2).1
                rw [ZK.l]
                rw [W.len] at this
                exact this
              have hgu := List.getElem?_eq_getElem ul
              generalize zr.1[u.1] = gu at hgu
              have hdu : ge[u.1]? = some (ge[u.1]'(by rw [Z.gl]; exact ul)) := List.getElem?_eq_getElem _
              generalize ge[u.1]'(by rw [Z.gl]; exact ul) = gb at hdu
              have dnu := Z.gd _ _ _ hdu hgu
              have gfew : gu.length ≤ 1080 := by
                have a := List.Nodup.length_le_of_subset (ZK.nd _ _ hgu) (l₂ := (Ls.getD u.1 []).map (·.1)) fun s hs => by
                  obtain ⟨L2, q1, q2⟩ := ZK.sub _ _ hgu s hs
                  rw [getD_at q1]
                  exact q2
                obtain ⟨L2, q1, _⟩ := tok.s
                rw [getD_at q1, List.length_map] at a
                have := layer_few n3 fm.l5 (W.nd _ _ q1) (W.so _ _ q1)
                omega
              refine ⟨tr, _, rfl, SqT.of (Z.s _ _ z1), rfl, _, _, rfl, _, _, rfl, _, _, rfl, ea, _, rfl, SqT.of (Z.s _ _ z3), rfl, _, _, rfl, _, _, rfl, rfl, rfl, ?_⟩
              refine ⟨_, rfl, _, rfl, D, _, (u.1 : Int), .ref gb, rfl, rfl, SqL.of (Z.s _ _ ((Z.weak (Same.refl HC) ?_).hq)), atI_nat (by rw [List.getElem?_map, hdu]; rfl), _, rfl, gb, sa, _, keyS u.2.1, rfl, rfl, dnu, (StA.keep (H := HC) ⟨sp, es1, es2⟩ (Same.keepT Z.s)).key, by rw [kvG_len, sizeLine_eq]; omega, fun H8 oa dn8 => ?_⟩
              · exact Z.hq
              rw [kvG_put] at dn8
              have Z8 := Z.go hdu hgu oa dn8
              have ZK8 := ZK.go hgu tok.s
              obtain ⟨ts, tp, hf, hta, h3, hm3⟩ := stt_at (fa.same (Same.trans sB (Same.trans sC Z8.s))) tok.e.b0 tok.e.b1
              refine ⟨_, rfl, _, rfl, f, _, u.2.2.2, .ref tp, rfl, rfl, SqT.of hf, hta, tp, _, rfl, SqT.of h3, rfl, _, _, rfl, _, _, rfl, _, _, rfl, rfl, ?_⟩
              refine ⟨_, rfl, rfl, _, rfl, ?_⟩
              have ew : wT fr i zr u = (zr.1.set u.1 (addS gu u.2.1), if (stt fr u.2.2.2).2.2 = 0 then addW zr.2 i (decide (behM u.2.1.2 u.2.2.1 (stt fr u.2.2.2).1 = .mix)) else zr.2) := by
                unfold wT
                rw [getG hgu]
              rw [ew]
              by_cases c : (stt fr u.2.2.2).2.2 = 0
              · rw [if_pos c]
                refine iteT' (by rw [c]; exact decide_eq_true rfl) ?_
                refine ⟨_, rfl, sa, _, 1, mkV u.2.1.2, rfl, rfl, SqT.of (Z8.s _ _ es1), atI_nat (j := 1) rfl, _, rfl, _, rfl, u.2.1.2, u.2.2.1, (stt fr u.2.2.2).1, rfl, scal_mix _, ?_⟩
                rw [mk_mix]
                generalize decide (behM u.2.1.2 u.2.2.1 (stt fr u.2.2.2).1 = .mix) = bb
                have ZK9 := ZK8.word (b := bb) (i := i) ix
                have wfew : (z1 : Nat) → z1 = (kvZ (zr.2.map (·.1)) was).length → z1 < sizeLine := fun z1 e => by
                  have a := ZK.few
                  rw [e, kvZ_len (by rw [List.length_map]; exact Z8.wa.l), List.length_map, sizeLine_eq]
                  omega
                refine ⟨_, rfl, wd, rfl, .inl ⟨_, .inl Z8.wa.e⟩, _, rfl, fun l0 hl0 => ?_⟩
                have u9 := same_upd (o := HO.dK []) hl0
                have Z9 := Z8.same u9
                have pc := addW_cases i bb zr.2
                have few2 : ∀ (m : Nat) (v : Nat × List Bool), zr.2[m]? = some v → (kvB v.2).length < sizeLine := fun m v h => by
                  have := few_bools (ZK8.wb v (List.mem_of_getElem? h)).2
                  rw [List.length_map, sizeLine_eq]
                  omega
                -- the name of the word
                have tag : ∀ (σ : St) (H2 : Hp) (Qv : VK), σ[13]? = some (some (.bl bb)) → Qv (kV (Sum.inr (tagB bb))) H2 → tIf (tB (tVar 13)) (tC (.str "mixed")) (tC (.str "whole")) σ H2 Qv := fun σ H2 Qv h13 hq => by
                  refine ⟨_, h13, bb, rfl, ?_⟩
                  cases bb with
                  | true => exact iteT hq
                  | false => exact iteF hq
                refine ⟨_, nK i, Z9.wa.e, rfl, wfew _ rfl, fun v hv => ?_, fun hn => ?_⟩
                · rcases pc with ⟨m2, v2, q1, q2, q3⟩ | ⟨q1, _⟩
                  · have im : m2 < was.length := by rw [Z8.wa.l]; exact (List.getElem?_eq_some_iff.mp q1).1
                    have ha2 := List.getElem?_eq_getElem im
                    generalize was[m2] = a2 at ha2
                    have hk2 : (zr.2.map (·.1))[m2]? = some i := by rw [List.getElem?_map, q1, ← q2]; rfl
                    have e9 : valV (kvZ (zr.2.map (·.1)) was) (nK i) = some (.ref a2) := kvZ_at ZK.wn hk2 ha2
                    rw [e9] at hv
                    cases hv
                    have Z10 := Z9.wold (b := bb) q1 q2 ha2
                    rw [← q3, ← kvB_put] at Z10
                    exact tag _ _ _ rfl ⟨a2, _, rfl, DPut.k (Z9.wa.it m2 v2 a2 q1 ha2) (few2 m2 v2 q1), ⟨_, _, _, _, _, _, _, _, _, was, rfl, Z10, ZK9⟩⟩
                  · have e9 : valV (kvZ (zr.2.map (·.1)) was) (nK i) = none := kvZ_none q1
                    rw [e9] at hv
                    cases hv
                · rcases pc with ⟨m2, v2, q1, q2, q3⟩ | ⟨q1, q3⟩
                  · have im : m2 < was.length := by rw [Z8.wa.l]; exact (List.getElem?_eq_some_iff.mp q1).1
                    have hk2 : (zr.2.map (·.1))[m2]? = some i := by rw [List.getElem?_map, q1, ← q2]; rfl
                    have e9 : valV (kvZ (zr.2.map (·.1)) was) (nK i) = some (.ref was[m2]) := kvZ_at ZK.wn hk2 (List.getElem?_eq_getElem im)
                    rw [e9] at hn
                    cases hn
                  · have lw : l0 ≠ wd := fun h => by rw [h, Z8.wa.e] at hl0; cases hl0
                    have el0 : upd (upd H8 l0 (.dK [])) wd (.dK (putK (kvZ (zr.2.map (·.1)) was) (nK i) (.ref l0))) l0 = some (.dK []) := by rw [upd_ne lw, upd_same]
                    have Z10 := Z8.wnew (i := i) (b := bb) (l0 := l0) (H' := upd (upd (upd H8 l0 (.dK [])) wd (.dK (putK (kvZ (zr.2.map (·.1)) was) (nK i) (.ref l0)))) l0 (.dK (putK [] (Sum.inr (tagB bb)) (.bl true)))) hl0
                      (fun c o h n => by rw [upd_ne (ne_of_none h hl0), upd_ne n]; exact u9 _ _ h)
                      (by rw [upd_ne lw.symm, upd_same, putK_new _ hn, kvZ_snoc (by rw [List.length_map]; exact Z8.wa.l)])
                      (by rw [upd_same]; rfl)
                    rw [q3] at ZK9 ⊢
                    exact tag _ _ _ rfl ⟨l0, _, rfl, DPut.k el0 (by decide), ⟨_, _, _, _, _, _, _, _, _, was ++ [l0], rfl, Z10, ZK9⟩⟩
              · rw [if_neg c]
                refine iteF' (decide_eq_false fun z => c (by injection z)) ?_
                exact ⟨_, _, _, _, _, _, _, _, _, was, rfl, Z8, ZK8⟩
            · rintro σ H7 ⟨v6, v7, v8, v9, v10, v11, v12, v13, v14, was, rfl, Z, ZK⟩
              rw [List.length_map, atl.1, List.take_length] at Z ZK
              exact ⟨_, _, _, _, _, _, _, _, _, _, was, rfl, Z, ZK⟩
          · rintro σ H6 ⟨v3, v6, v7, v8, v9, v10, v11, v12, v13, v14, was, rfl, Z, ZK⟩
            rw [List.length_map, lB, List.take_length] at Z ZK
            exact ⟨_, _, _, _, _, _, _, _, _, _, _, was, rfl, Z.weak sC hqB, ZK⟩
        · rintro σ H5 ⟨v3, v5, v6, v7, v8, v9, v10, v11, v12, v13, v14, was, rfl, Z, ZK⟩
          have en : (((ds.map V.ref).length : Int) - 1 - 0).toNat = x.length := by rw [lp]; omega
          rw [en] at Z ZK
          exact ⟨_, rfl, q H5 wd was (Same.trans sB Z.s) Z.wa ZK⟩
end
end K35

set_option Elab.async false
set_option linter.all false
set_option maxRecDepth 100000
set_option maxHeartbeats 8000000
/-! verdicts. -/
namespace K35
open PySem L2 L2.EV
abbrev sVerdicts : Stmt := top 34
def lookW : List (Nat × List Bool) → Nat → List Bool
  | [], _ => []
  | e :: ws, i => if e.1 = i then e.2 else lookW ws i
theorem lookW_at : ∀ {ws : List (Nat × List Bool)} {m : Nat} {e : Nat × List Bool}, (ws.map (·.1)).Nodup → ws[m]? = some e → lookW ws e.1 = e.2
  | [], _, _, _, h => by simp at h
  | a :: ws, 0, e, _, h => by
    have h : a = e := by simpa using h
    subst h
    exact if_pos rfl
  | a :: ws, m + 1, e, nd, h => by
    have h : ws[m]? = some e := by simpa using h
    obtain ⟨n1, n2⟩ := List.nodup_cons.mp (show (a.1 :: ws.map (·.1)).Nodup from nd)
    have ne : ¬ a.1 = e.1 := fun z => n1 (by rw [z]; exact List.mem_map.mpr ⟨e, List.mem_of_getElem? h, rfl⟩)
    exact Eq.trans (if_neg ne) (lookW_at n2 h)
/-- what is told of a line -/
def tellW : List Bool → Str
  | [b] => tagB b
  | _ => "open"
/-- the places that have words, ascending -/
def ascW (n : Nat) (ws : List (Nat × List Bool)) : List Nat := (List.range (n + 1)).filter fun i => decide (i ∈ ws.map (·.1))
def verF (fr : List T3) (x : Str) (nw : Nat) : Option (List Str) := match endF fr x nw with
  | [] => none
  | _ :: _ => some ((ascW x.length (wF fr (trF fr x nw x.length) x.length x.length).2).map fun i => tellW (lookW (wF fr (trF fr x nw x.length) x.length x.length).2 i))
def spVerdicts (C : Addr) : Sp := fun vs H Q E => ∃ (fr : List T3) (o : Option (Str × Nat)), Ags H vs fr o ∧ match o.bind fun q => verF fr q.1 q.2 with
  | some ts => ∀ H' p, Same H H' → H' p = some (.tup (ts.map V.str)) → Q (.ref p) H'
  | none => Eo C E H
theorem asc_one : ∀ {a b : List Int}, a.Perm b → a.Pairwise (· ≤ ·) → b.Pairwise (· ≤ ·) → a = b
  | [], b, h, _, _ => (List.nil_perm.mp h).symm
  | x :: a, b, h, ha, hb => by
    cases b with
    | nil => exact absurd h (by simp)
    | cons y b =>
      obtain ⟨a1, a2⟩ := List.pairwise_cons.mp ha
      obtain ⟨b1, b2⟩ := List.pairwise_cons.mp hb
      have xy : x ≤ y := by
        rcases List.mem_cons.mp (h.mem_iff.mpr (List.mem_cons_self (a := y) (l := b))) with z | z
        · omega
        · exact a1 y z
      have yx : y ≤ x := by
        rcases List.mem_cons.mp (h.mem_iff.mp (List.mem_cons_self (a := x) (l := a))) with z | z
        · omega
        · exact b1 x z
      have e : x = y := by omega
      subst e
      rw [asc_one (List.Perm.cons_inv h) a2 b2]
theorem ascW_perm {n : Nat} {ws : List (Nat × List Bool)} (nd : (ws.map (·.1)).Nodup) (b : ∀ e ∈ ws, e.1 ≤ n) : (ascW n ws).Perm (ws.map (·.1)) := by
  refine (List.perm_ext_iff_of_nodup (List.Pairwise.filter _ List.nodup_range) nd).mpr fun i => ?_
  rw [List.mem_filter, List.mem_range, decide_eq_true_eq]
  refine ⟨fun h => h.2, fun h => ⟨?_, h⟩⟩
  obtain ⟨e, he, rfl⟩ := List.mem_map.mp h
  have := b e he
  omega
theorem ascW_asc {n : Nat} {ws : List (Nat × List Bool)} : ((ascW n ws).map fun i : Nat => (i : Int)).Pairwise (· ≤ ·) := by
  rw [List.pairwise_map]
  refine List.Pairwise.filter _ ?_
  refine List.Pairwise.imp (fun {a b} h => ?_) (List.pairwise_lt_range (n := n + 1))
  omega
abbrev NV : List Str := ["framing", "text", "writers", "layers", "words", "at"]
section
variable {P : Program} {w : World} {K : PySem.W.Frag} {mg : Str → Option Value} {base : Heap}
theorem scVerdicts : FnScope NV ["framing", "text", "writers"] (defScope sVerdicts) := ⟨rfl, rfl, rfl, by decide +kernel, rfl, by decide +kernel, by decide +kernel⟩
theorem ok_verdicts (T : Rf K mg) (tu : mg "tuple" = none) (so : mg "sorted" = none) (cO : ∃ t, mg "OPEN" = some (.str "open" t)) {f : Addr} {d : FuncData} (F : Fun K "verdicts" "verdicts" sVerdicts f d) : FnOk P w K mg base (L2.CX P w) 6 f d ["framing", "text", "writers"] (spVerdicts T.C.T.G.S.Y.O.C) := by
  have GC : FnOk P w K mg base (L2.CX P w) 5 T.C.f T.C.d ["framing", "text", "writers"] (spChecked P w T.C.T.G.S.Y.O.C) := ok_checked T.C
  have GW : FnOk P w K mg base CX0 2 T.f T.d ["framing", "layers"] (spWords P w) := ok_words T
  have GO : FnOk P w K mg base CX0 2 T.C.T.G.S.Y.O.f T.C.T.G.S.Y.O.d ["self", "text"] (spNo K T.C.T.G.S.Y.O.C) := ok_OutOfPlace T.C.T.G.S.Y.O.F T.C.T.G.S.Y.O.T T.C.T.G.S.Y.O.I T.C.T.G.S.Y.O.FM T.C.T.G.S.Y.O.bM T.C.T.G.S.Y.O.mM T.C.T.G.S.Y.O.TM
  refine F.okX scVerdicts (fun vs H Q E h => ?_) (fun cdv A outer s H vs Q E hr h => ?_)
  · obtain ⟨fr, o, ⟨f, last, v, u, d1, d2, rfl, _⟩, _⟩ := h
    rfl
  · obtain ⟨fr, o, ag, q⟩ := h
    obtain ⟨g, last0, v, u, d1, d2, rfl, fa0, fm0, da0, sh0, db0, eo⟩ := id ag.ex
    obtain ⟨tO, eO⟩ := cO
    have hu1 : (A.deeper (PyProof.Rows.envOfC "verdicts" (defScope sVerdicts) s.heap.objs.size f cdv)).units + 1 < cLine := by have := hr.un; omega
    refine ⟨_, pss_cons (ps_set (i := 3) scVerdicts.nd rfl (Or.inl rfl) (pe_call GC hr (by rfl) T.C.m T.C.F.kp T.C.b .nil (passes_call (E := E) (takes_of rfl rfl rfl rfl) fun _ _ _ _ h => h) (pa_cons (pv 0) (pa_cons (pv 1) (pa_cons (pv 2) pa_nil)))))
      (pss_cons (ps_if (pt_cmpR op_eq (pe_callB (call_len_dN (B := false)) (by rfl) T.C.T.G.S.Y.Z.T.len PySem.boot_len (pa_cons (pe_ix ix_list (pv 3) (pe_un un_neg pe_int) (fun _ _ => rfl)) pa_nil)) pe_int (nomark _))
        (pss_one (ps_raise rfl (takes_of rfl rfl rfl rfl) (pmk_own2 rfl (pe_new T.C.T.G.S.Y.O.T T.C.T.G.S.Y.O.iC T.C.T.G.S.Y.O.tI GO (hr.mono (by omega)) (kb_pos T.C.T.G.S.Y.O.b rfl) pass0 (by rfl) T.C.T.G.S.Y.O.m (pa_cons pe_str pa_nil))))) pss_nil)
      (pss_cons (ps_set (i := 4) scVerdicts.nd rfl (Or.inr rfl) (pe_call GW (hr.mono (by omega)) (by rfl) T.m T.F.kp T.b .nil pass0 (pa_cons (pv 0) (pa_cons (pv 3) pa_nil))))
      (pss_one (ps_ret (pe_callTy call_tuple_of (by rfl) tu (by decide +kernel) (pa_cons (pe_lc (own := [("at", 5)]) (g := gName 5) (te := tIf (tTest (tOp rEq (tCB (fun xs H Q => ∃ a kvs, xs = [V.ref a] ∧ H a = some (.dK kvs) ∧ Q (.int kvs.length) H) (tCons (tDGet (tVar 4) (tVar 5)) tNil)) (tC (.int 1)))) (tOp (rIxL K) (tCB rListD (tCons (tDGet (tVar 4) (tVar 5)) tNil)) (tC (.int 0))) (tC (.str "open"))) rfl scVerdicts.nd
        (pi_list (pe_callB (call_sortedDI rfl) (by rfl) so (by decide +kernel) (pa_cons (pv 4) pa_nil)))
        (blkOk_by (N := NV) (sc := defScope sVerdicts) (by decide +kernel)) (fun _ _ _ _ _ => pg_name (i := 5) scVerdicts.nd rfl (Or.inl rfl)) (fun _ _ _ _ _ => pts_nil)
        (fun _ _ _ _ _ => pe_ifExp (pt_cmpR op_eq (pe_callB call_lenD (by rfl) T.C.T.G.S.Y.Z.T.len PySem.boot_len (pa_cons (pe_dget hu1 (pv 4) (pv 5) (fun _ _ => rfl)) pa_nil)) pe_int (nomark _))
          (pe_ix ix_list (pe_callTy (call_list_dK rfl) (by rfl) T.C.T.li (by decide +kernel) (pa_cons (pe_dget hu1 (pv 4) (pv 5) (fun _ _ => rfl)) pa_nil)) pe_int (fun _ _ => rfl))
          (pe_glob (v := .str "open") (by rfl) eO ⟨_, rfl⟩))) pa_nil)))))), ?_⟩
    refine ⟨_, rfl, _, rfl, _, rfl, fr, o, ag, ?_⟩
    cases o with
    | none => exact q
    | some o =>
      obtain ⟨x, nw⟩ := o
      intro last H1 p ds as fm x60 n1 n3 Y W
      have jL : x.length < (trF fr x nw x.length).length := by rw [W.len]; omega
      have hL := List.getElem?_eq_getElem jL
      have hE : endF fr x nw = (trF fr x nw x.length)[x.length] := getD_at hL
      generalize (trF fr x nw x.length)[x.length] = L at hL hE
      have hd : ds[x.length]? = some (ds[x.length]'(by rw [Y.dl]; exact jL)) := List.getElem?_eq_getElem _
      generalize ds[x.length]'(by rw [Y.dl]; exact jL) = dl at hd
      have ha : as[x.length]? = some (as[x.length]'(by rw [Y.al]; exact jL)) := List.getElem?_eq_getElem _
      generalize as[x.length]'(by rw [Y.al]; exact jL) = al at ha
      obtain ⟨la, dn⟩ := Y.dd _ _ _ _ hd hL ha
      have lk : (kvF (L.map (·.1)) al).length = L.length := by rw [kvF_len (by rw [List.length_map]; exact la), List.length_map]
      refine ⟨_, rfl, _, rfl, p, _, -1, .ref dl, rfl, rfl, SqL.of Y.hp, at_end2 (by rw [Y.dl, W.len]) hd, dl, _, rfl, dn.rd, rfl, _, rfl, ?_⟩
      cases L with
      | nil =>
        refine iteT' (by rw [lk]; exact decide_eq_true rfl) ?_
        have e : verF fr x nw = none := by unfold verF; rw [hE]
        simp only [Option.bind_some, e] at q
        refine ⟨rfl, rfl, (by decide), fun a na => ⟨a, .str _, .str _, rfl, upd_same, .str _, rfl, a, T.C.T.G.S.Y.O.C, none, rfl, upd_same, fr0_none (same_none Y.s na), raises_own T.C.T.G.S.Y.O.su T.C.T.G.S.Y.O.ty, ?_⟩⟩
        rw [delH_new na]
        exact q H1 Y.s
      | cons e0 Lr =>
        refine iteF' (by rw [lk]; exact decide_eq_false fun z => by injection z with z; rw [List.length_cons] at z; omega) ?_
        have e : verF fr x nw = some ((ascW x.length (wF fr (trF fr x nw x.length) x.length x.length).2).map fun i => tellW (lookW (wF fr (trF fr x nw x.length) x.length x.length).2 i)) := by unfold verF; rw [hE]
        simp only [Option.bind_some, e] at q
        refine ⟨_, rfl, _, rfl, g, p, fr, last, x, nw, H, trF fr x nw x.length, ds, as, rfl, fa0.same Y.s, fm, x60, n3, Y, W, fun H2 wd was s2 WA ZK => ?_⟩
        generalize wF fr (trF fr x nw x.length) x.length x.length = z at q WA ZK
        have hk : (kvZ (z.2.map (·.1)) was).map (·.1) = (z.2.map fun e : Nat × List Bool => (e.1 : Int)).map Sum.inl := by
          have e : ∀ (ks : List Nat) (a : List Addr), a.length = ks.length → (kvZ ks a).map (·.1) = (ks.map fun k : Nat => (k : Int)).map Sum.inl := by
            intro ks
            induction ks with
            | nil => intro a _; rfl
            | cons k ks ih =>
              intro a h
              cases a with
              | nil => cases h
              | cons b a =>
                show nK k :: (kvZ ks a).map (·.1) = _
                rw [ih a (by simpa using h)]
                rfl
          rw [e _ _ (by rw [List.length_map]; exact WA.l), List.map_map (f := fun e : Nat × List Bool => e.1)]
          rfl
        refine ⟨_, rfl, wd, _, _, rfl, .inl WA.e, hk, by rw [List.length_map]; have := ZK.few; omega, fun ys l hp hs hl => ⟨l, rfl, ⟨_, SqL.of upd_same⟩, fun D hD => ?_⟩⟩
        have hy : ys = (ascW x.length z.2).map fun i : Nat => (i : Int) := by
          refine asc_one (hp.trans ?_) hs ascW_asc
          have a := (ascW_perm ZK.wn (fun e he => (ZK.wb e he).1)).map fun i : Nat => (i : Int)
          rw [List.map_map] at a
          exact a.symm
        subst hy
        have few : (ascW x.length z.2).length ≤ 61 := by
          have a := (ascW_perm ZK.wn (fun e he => (ZK.wb e he).1)).length_eq
          rw [List.length_map] at a
          have := ZK.few
          omega
        have mem : ∀ k ∈ ascW x.length z.2, k ∈ z.2.map (·.1) := fun k hk => (ascW_perm ZK.wn (fun e he => (ZK.wb e he).1)).mem_iff.mp hk
        generalize ascW x.length z.2 = aw at q hl hp hs few mem hD ⊢
        have ul := same_upd (o := HO.lst ((aw.map fun i : Nat => (i : Int)).map V.int)) hl
        have uD := same_upd (o := HO.lst []) hD
        have s0 := ul.trans uD
        have e00 := uD _ _ (upd_same (H := H2) (a := l) (o := HO.lst ((aw.map fun i : Nat => (i : Int)).map V.int)))
        refine lc_it (walk_list (xs := (aw.map fun i : Nat => (i : Int)).map V.int)) (fun i H' => H' D = some (.lst (((aw.take i).map fun i => tellW (lookW z.2 i)).map V.str)) ∧ (∀ b o, upd H2 l (.lst ((aw.map fun i : Nat => (i : Int)).map V.int)) b = some o → H' b = some o))
          ⟨upd_same, fun b o h => uD _ _ h⟩ (fun i H' _ h => SqL.of (h.2 _ _ upd_same)) ?_ ?_
        · rintro i y Hz H3 hi ⟨hl3, kp⟩ ⟨rfl, hx⟩
          obtain ⟨k, hk, rfl⟩ : ∃ k, aw[i]? = some k ∧ y = .int (k : Int) := by
            rw [List.getElem?_map, List.getElem?_map] at hx
            cases e : aw[i]? with
            | none => rw [e] at hx; cases hx
            | some k => rw [e] at hx; exact ⟨k, rfl, (Option.some.inj hx).symm⟩
          obtain ⟨m, hm⟩ := List.mem_iff_getElem?.mp (mem k (List.mem_of_getElem? hk))
          have ml : m < z.2.length := by
            have := (List.getElem?_eq_some_iff.mp hm).1
            simpa using this
          have hze := List.getElem?_eq_getElem ml
          generalize z.2[m] = ee at hze
          have ek : ee.1 = k := by
            rw [List.getElem?_map, hze] at hm
            exact Option.some.inj hm
          have hwa : was[m]? = some (was[m]'(by rw [WA.l]; exact ml)) := List.getElem?_eq_getElem _
          generalize was[m]'(by rw [WA.l]; exact ml) = aa at hwa
          have s3 : ∀ b o, H2 b = some o → H3 b = some o := fun b o h => kp _ _ (ul _ _ h)
          have dg : DGet H3 wd (.int (k : Int)) (some (.ref aa)) := by
            have d0 := DGet.k (k := nK k) (s3 _ _ WA.e)
            rw [kvZ_at ZK.wn hm hwa] at d0
            exact d0
          have ea := s3 _ _ (WA.it m ee aa hze hwa)
          have lw : lookW z.2 k = ee.2 := by rw [← ek]; exact lookW_at ZK.wn hze
          refine ⟨rfl, _, rfl, _, rfl, wd, .ref aa, rfl, dg, aa, _, rfl, ea, rfl, _, rfl, ?_⟩
          have snoc : (aw.take (i + 1)).map (fun i => tellW (lookW z.2 i)) = (aw.take i).map (fun i => tellW (lookW z.2 i)) ++ [tellW ee.2] := by
            rw [take_one hk, List.map_append, ← lw]
            rfl
          have lt : ((aw.take i).map fun i => tellW (lookW z.2 i)).length ≤ 61 := by
            rw [List.length_map, List.length_take]
            omega
          cases hb : ee.2 with
          | nil =>
            refine iteF' (by rw [List.length_map]; exact decide_eq_false fun h => by injection h with h; cases h) ?_
            refine ⟨_, hl3, by rw [List.length_map, sizeLine_eq]; omega, ?_, fun b o h => ?_⟩
            · rw [snoc, hb, List.map_append]
              exact upd_same
            · rw [upd_ne fun h2 => by rw [h2, hD] at h; cases h]
              exact kp _ _ h
          | cons b1 bs =>
            cases bs with
            | nil =>
              refine iteT' (by rw [List.length_map]; exact decide_eq_true rfl) ?_
              rw [hb] at ea
              refine ⟨_, rfl, _, rfl, wd, .ref aa, rfl, dg, aa, _, rfl, ea, fun l2 hl2 => ⟨l2, _, 0, .str (tagB b1), rfl, rfl, SqL.of upd_same, atI_nat (j := 0) rfl, ?_⟩⟩
              have u2 := same_upd (o := HO.lst ((kvB [b1]).map fun kv => kV kv.1)) hl2
              refine ⟨_, u2 _ _ hl3, by rw [List.length_map, sizeLine_eq]; omega, ?_, fun b o h => ?_⟩
              · rw [snoc, hb, List.map_append]
                exact upd_same
              · rw [upd_ne fun h2 => by rw [h2, hD] at h; cases h]
                exact u2 _ _ (kp _ _ h)
            | cons b2 bs =>
              refine iteF' (by rw [List.length_map]; exact decide_eq_false fun h => by injection h with h; simp only [List.length_cons] at h; omega) ?_
              refine ⟨_, hl3, by rw [List.length_map, sizeLine_eq]; omega, ?_, fun b o h => ?_⟩
              · rw [snoc, hb, List.map_append]
                exact upd_same
              · rw [upd_ne fun h2 => by rw [h2, hD] at h; cases h]
                exact kp _ _ h
        · rintro H3 ⟨hl3, kp⟩
          rw [List.length_map, List.length_map, List.take_length] at hl3
          refine ⟨D, _, rfl, .inl ⟨SqL.of hl3, fun p3 hp3 => ?_⟩⟩
          exact q _ p3 (fun c o h => same_upd hp3 _ _ (kp _ _ (ul _ _ (s2 _ _ (Y.s _ _ h))))) upd_same
end
end K35

set_option Elab.async false
set_option linter.all false
set_option maxRecDepth 100000
set_option maxHeartbeats 4000000
/-! is_entry, first_wrong, need_weaving. -/
namespace K35
open PySem L2 L2.EV
theorem WvA.same {H H' : Hp} {f : Addr} {es : List E2} (h : WvA H f es) (s : Same H H') : WvA H' f es := by
  obtain ⟨ts, e, l, c⟩ := h
  exact ⟨ts, s _ _ e, l, fun i t x h1 h2 => s _ _ (c i t x h1 h2)⟩
theorem at_ent {H : Hp} {ts : List Addr} {es : List E2} {i : Nat} {x : V} (hl : ts.length = es.length) (ht : ∀ (i : Nat) t e, ts[i]? = some t → es[i]? = some e → A2 H t e) (hx : (ts.map V.ref)[i]? = some x) :
    ∃ t e, es[i]? = some e ∧ ts[i]? = some t ∧ x = .ref t ∧ A2 H t e := by
  rw [List.getElem?_map] at hx
  cases e : ts[i]? with
  | none =>
    rw [e] at hx
    cases hx
  | some t =>
    rw [e] at hx
    have il : i < es.length := by
      have := (List.getElem?_eq_some_iff.mp e).1
      omega
    exact ⟨t, es[i], List.getElem?_eq_getElem il, rfl, (Option.some.inj hx).symm, ht i t _ e (List.getElem?_eq_getElem il)⟩
/-- the standings behind some entries -/
def plc (fr : List T3) (es : List E2) : List Int := es.foldl (fun pl e => pl.set e.1.toNat (stt fr e.2).2.2) (List.replicate 8 0)
/-- an entry by itself -/
def Ent (fr : List T3) (e : E2) : Prop := 0 ≤ e.1 ∧ e.1 < 8 ∧ 0 ≤ e.2 ∧ e.2 < fr.length
structure Wv (fr : List T3) (es : List E2) : Prop where
  l : es.length ≤ 60
  ent : ∀ e ∈ es, Ent fr e
  go : ∀ (i : Nat) e, es[i]? = some e → (plc fr (es.take i))[e.1.toNat]? = some (stt fr e.2).1
theorem plc_snoc {fr : List T3} {es : List E2} {e : E2} : plc fr (es ++ [e]) = (plc fr es).set e.1.toNat (stt fr e.2).2.2 := by
  unfold plc
  rw [List.foldl_append]
  rfl
theorem plc_len {fr : List T3} : ∀ {es : List E2}, (plc fr es).length = 8 := by
  have z : ∀ (es : List E2) (pl : List Int), (es.foldl (fun pl e => pl.set e.1.toNat (stt fr e.2).2.2) pl).length = pl.length := by
    intro es
    induction es with
    | nil => exact fun pl => rfl
    | cons e es ih =>
      intro pl
      rw [List.foldl_cons, ih, List.length_set]
  intro es
  unfold plc
  rw [z, List.length_replicate]
end K35

set_option Elab.async false
set_option linter.all false
set_option maxRecDepth 100000
set_option maxHeartbeats 4000000
/-! Drawn pieces. -/
namespace K35
open PySem L2 L2.EV
abbrev sPiece : Stmt := top 39
/-- the draws have gone on from H0, where they were at k0 with the list l0: all other things are as they were -/
structure Dr (H0 H : Hp) (m c l0 l : Addr) (k : Int) : Prop where
  at_ : MAt H m c l k
  hl : l = l0 ∨ H0 l = none
  kp : ∀ b o, H0 b = some o → b ≠ m → b ≠ l0 → H b = some o
theorem Dr.refl {H : Hp} {m c l : Addr} {k : Int} (M : MAt H m c l k) : Dr H H m c l l k := ⟨M, .inl rfl, fun b o e _ _ => e⟩
theorem Dr.same {H0 H H' : Hp} {m c l0 l : Addr} {k : Int} (d : Dr H0 H m c l0 l k) (s : Same H H') : Dr H0 H' m c l0 l k :=
  ⟨d.at_.same s, d.hl, fun b o e h1 h2 => s _ _ (d.kp b o e h1 h2)⟩
/-- one part behind another -/
theorem Dr.trans {H0 H H' : Hp} {m c l0 l l' : Addr} {k k' : Int} (d : Dr H0 H m c l0 l k) (e : Dr H H' m c l l' k') : Dr H0 H' m c l0 l' k' := by
  refine ⟨e.at_, ?_, fun b o e1 h1 h2 => e.kp b o (d.kp b o e1 h1 h2) h1 ?_⟩
  · rcases e.hl with h | h
    · rw [h]
      exact d.hl
    · by_cases z : l' = l0
      · exact .inl z
      · refine .inr ?_
        cases q : H0 l' with
        | none => rfl
        | some o =>
          have ne : l' ≠ m := (ne_of_none d.at_.hm h).symm
          rw [d.kp l' o q ne z] at h
          cases h
  · rcases d.hl with hl | hl
    · rw [hl]
      exact h2
    · exact ne_of_none e1 hl
/-- a thing of another kind than the draws' own stays -/
theorem Dr.tup {H0 H : Hp} {m c l0 l : Addr} {k k0 : Int} {a : Addr} {xs : List V} (d : Dr H0 H m c l0 l k) (M : MAt H0 m c l0 k0) (e : H0 a = some (.tup xs)) : H a = some (.tup xs) := by
  obtain ⟨ls, hl, _⟩ := M.hl
  exact d.kp a _ e (ne_of e M.hm (fun z => by cases z)) (ne_of e hl (fun z => by cases z))
theorem Dr.fr {H0 H : Hp} {m c l0 l : Addr} {k k0 : Int} {f : Addr} {fr : List T3} (d : Dr H0 H m c l0 l k) (M : MAt H0 m c l0 k0) (h : FrA H0 f fr) : FrA H f fr := by
  obtain ⟨ts, e, l, cc⟩ := h
  exact ⟨ts, d.tup M e, l, fun i t x h1 h2 => d.tup M (cc i t x h1 h2)⟩
/-- another list stays, and is none of the draws' own -/
theorem Dr.lst {H H' : Hp} {m c l l' : Addr} {k k0 : Int} {a : Addr} {xs : List V} (d : Dr H H' m c l l' k) (M : MAt H m c l k0) (e : H a = some (.lst xs)) (ne : a ≠ l) : H' a = some (.lst xs) ∧ a ≠ l' := by
  refine ⟨d.kp a _ e (ne_of e M.hm (fun z => by cases z)) ne, ?_⟩
  rcases d.hl with z | z
  · rw [z]
    exact ne
  · exact ne_of_none e z
/-- a draw, as spNext wants it -/
theorem dr_next {H : Hp} {m c l : Addr} {k n : Int} {Q : VK} {E : XK} (M : MAt H m c l k) (hn : 0 < n) (hn1 : n < 1073741824) (hk : k < 900000)
    (q : ∀ (r : Int) (H' : Hp) (l' : Addr) (k' : Int), 0 ≤ r → r < n → k' ≤ k + 1 → Dr H H' m c l l' k' → Q (.int r) H') : spNext [.ref m, .int n] H Q E :=
  ⟨m, c, l, k, n, rfl, M, hn, hn1, by omega, fun r H' l' k' r0 r1 kk M' fl kp => q r H' l' k' r0 r1 kk ⟨M', fl, kp⟩⟩
theorem MAt.l_some {H : Hp} {m c l : Addr} {k : Int} (M : MAt H m c l k) {a : Addr} (h : H a = none) : a ≠ l := by
  obtain ⟨ls, hl, _⟩ := M.hl
  exact (ne_of_none hl h).symm
theorem sl_app (a b : Str) : sl (a ++ b) = sl a ++ sl b := by
  show (Str.append a b).cps.toList = _
  simp [Str.append]
theorem sl_empty : sl ("" : Str) = [] := by decide +kernel
theorem sl_join : ∀ ys : List Str, sl (Str.join "" ys) = (ys.map sl).flatten
  | [] => rfl
  | [x] => by
    show sl x = _
    simp
  | x :: y :: r => by
    show sl (x ++ "" ++ Str.join "" (y :: r)) = _
    rw [sl_app, sl_app, sl_empty, sl_join (y :: r)]
    simp
theorem txt_join (ys : List Str) : sl (Txt.join "" ys) = (ys.map sl).flatten := by
  have z := PyProof.Rows.join_plain_closes "" ys
  rw [eq_of_beq z, sl_join]
theorem flat_one {ys : List Str} (h : ∀ y ∈ ys, ∃ c, y = ⟨#[c]⟩ ∧ c ∈ sgs) : (∀ c, c ∈ (ys.map sl).flatten → c ∈ sgs) ∧ ((ys.map sl).flatten).length = ys.length := by
  induction ys with
  | nil => exact ⟨fun c h => (by cases h), rfl⟩
  | cons y ys ih =>
    obtain ⟨c, e, hc⟩ := h y (List.mem_cons_self ..)
    have e2 : sl y = [c] := by rw [e]
    obtain ⟨h1, h2⟩ := ih fun y hy => h y (List.mem_cons_of_mem _ hy)
    rw [List.map_cons, List.flatten_cons, e2]
    refine ⟨fun d hd => ?_, ?_⟩
    · rcases List.mem_append.mp hd with hd | hd
      · have e : d = c := by simpa using hd
        rw [e]
        exact hc
      · exact h1 d hd
    · rw [List.length_append, h2, List.length_cons, List.length_cons, List.length_nil]
      omega
/-- the five lists of signs -/
def fives : List Str := ["ab", "ab", "abc@", "@", "xyz019@"]
theorem five_ok : ∀ x ∈ fives, 1 ≤ x.length ∧ x.length ≤ 7 ∧ ∀ c ∈ sl x, c ∈ sgs := by decide +kernel
theorem MAt.upd {H : Hp} {m c l D : Addr} {k : Int} {o : HO} (M : MAt H m c l k) (hm : D ≠ m) (hc : D ≠ c) (hl : D ≠ l) : MAt (L2.upd H D o) m c l k := by
  obtain ⟨h1, ⟨cs, h2, h3⟩, ⟨ls0, h4, h5⟩, h6, h7, h8⟩ := M
  exact ⟨by rw [upd_ne hm.symm]; exact h1, ⟨cs, by rw [upd_ne hc.symm]; exact h2, h3⟩, ⟨ls0, by rw [upd_ne hl.symm]; exact h4, h5⟩, h6, h7, h8⟩
theorem MAt.c_some {H : Hp} {m c l : Addr} {k : Int} (M : MAt H m c l k) {a : Addr} (h : H a = none) : a ≠ c := by
  obtain ⟨ls, hl, _⟩ := M.hc
  exact (ne_of_none hl h).symm
def spPiece : Sp := fun vs H Q _ => ∃ (m c l : Addr) (k : Int) (last : Bool), vs = [.ref m, .bl last] ∧ MAt H m c l k ∧ k < 800000 ∧
  ∀ (p : Str) (H' : Hp) (l' : Addr) (k' : Int), Pc p last → k' ≤ k + 20 → Dr H H' m c l l' k' → Q (.str p) H'
section
variable {P : Program} {w : World} {K : PySem.W.Frag} {mg : Str → Option Value} {base : Heap}
structure Ls (K : PySem.W.Frag) (mg : Str → Option Value) where
  f1 : Addr
  d1 : FuncData
  N : Fun K "_law_next" "_law_next" sNext f1 d1
  bN : Binds K d1 ["m", "total"] []
  mN : mg "_law_next" = some (.ref f1)
  T : TxtD mg
  ra : mg "range" = none
  f2 : Addr
  d2 : FuncData
  P : Fun K "_law_piece" "_law_piece" sPiece f2 d2
  bP : Binds K d2 ["m", "last"] []
  mP : mg "_law_piece" = some (.ref f2)
theorem scPiece : FnScope ["m", "last", "total", "signs", "k", "body"] ["m", "last"] (defScope sPiece) := ⟨rfl, rfl, rfl, by decide +kernel, rfl, by decide +kernel, by decide +kernel⟩
theorem ok_piece (L : Ls K mg) : FnOk P w K mg base CX0 2 L.f2 L.d2 ["m", "last"] spPiece := by
  have GX : FnOk P w K mg base CX0 1 L.f1 L.d1 ["m", "total"] spNext := ok_next L.N L.T
  refine L.P.ok scPiece (fun vs H Q E h => ?_) (fun cdv A outer s H vs Q E hr h => ?_)
  · obtain ⟨m, c, l, k, last, rfl, _⟩ := h
    rfl
  · obtain ⟨m, c, l, k, last, rfl, M, hk, q⟩ := h
    refine ⟨_, pss_cons (ps_set (i := 2) scPiece.nd rfl (Or.inl rfl) (pe_ix ix_list (pe_lst (pa_cons pe_int (pa_cons pe_int (pa_cons pe_int (pa_cons pe_int (pa_cons pe_int (pa_cons (pe_op op_add pe_int (pe_call GX hr (by rfl) L.mN L.N.kp L.bN .nil pass0 (pa_cons (pv 0) (pa_cons pe_int pa_nil)))) pa_nil)))))))
        (pe_call GX hr (by rfl) L.mN L.N.kp L.bN .nil pass0 (pa_cons (pv 0) (pa_cons pe_int pa_nil))) (fun _ _ => rfl)))
      (pss_cons (ps_set (i := 3) scPiece.nd rfl (Or.inr rfl) (pe_ix ix_list (pe_lst (pa_cons pe_str (pa_cons pe_str (pa_cons pe_str (pa_cons pe_str (pa_cons pe_str pa_nil)))))) (pe_call GX hr (by rfl) L.mN L.N.kp L.bN .nil pass0 (pa_cons (pv 0) (pa_cons pe_int pa_nil))) (fun _ _ => rfl)))
      (pss_cons (ps_set (i := 5) scPiece.nd rfl (Or.inl rfl) (pe_m1 PySem.F.slot_str_join PySem.F.type_str_join mt_join pe_str (pe_lc (own := [("k", 4)]) (g := gName 4) rfl scPiece.nd (pi_range1 (by rfl) L.ra (pa_cons (pv 2) pa_nil))
        (blkOk_by (N := ["m", "last", "total", "signs", "k", "body"]) (sc := defScope sPiece) (by decide +kernel))
        (fun _ _ _ _ _ => pg_name (i := 4) scPiece.nd rfl (Or.inl rfl)) (fun _ _ _ _ _ => pts_nil)
        (fun _ _ _ _ _ => pe_ix ix_str (pv 3) (pe_call GX hr (by rfl) L.mN L.N.kp L.bN .nil pass0 (pa_cons (pv 0) (pa_cons (pe_callB call_len_str (by rfl) L.T.len PySem.boot_len (pa_cons (pv 3) pa_nil)) pa_nil))) (fun _ _ => rfl)))))
      (pss_cons (ps_if (pt_val (pv 1)) (pss_one (ps_ret (pe_op op_add_str (pe_ix ix_list (pe_lst (pa_cons (pv 5) (pa_cons (pv 5) (pa_cons pe_str pa_nil)))) (pe_call GX hr (by rfl) L.mN L.N.kp L.bN .nil pass0 (pa_cons (pv 0) (pa_cons pe_int pa_nil))) (fun _ _ => rfl)) pe_str))) pss_nil)
      (pss_one (ps_ret (pv 5)))))), ?_⟩
    refine ⟨_, rfl, m, c, l, k, 7, rfl, M, by decide, by decide, by omega, fun r1 H1 l1 k1 a1 b1 g1 N1 f1 q1 => ?_⟩
    have d1 : Dr H H1 m c l l1 k1 := ⟨N1, f1, q1⟩
    refine ⟨1, r1, rfl, rfl, (by show 6 ≤ sizeLine; decide), fun p1 hp1 => ?_⟩
    have M1 := d1.at_.same (same_upd (o := HO.lst [V.int 1, V.int 1, V.int 1, V.int 2, V.int 2, V.int (1 + r1)]) hp1)
    have D1 := d1.same (same_upd (o := HO.lst [V.int 1, V.int 1, V.int 1, V.int 2, V.int 2, V.int (1 + r1)]) hp1)
    refine ⟨_, rfl, m, c, l1, k1, 6, rfl, M1, by decide, by decide, by omega, fun r2 H2 l2 k2 a2 b2 g2 N2 f2 q2 => ?_⟩
    have d2 : Dr _ H2 m c l1 l2 k2 := ⟨N2, f2, q2⟩
    obtain ⟨e2, _⟩ := d2.lst M1 upd_same (d1.at_.l_some hp1)
    have D2 := D1.trans d2
    obtain ⟨T, hT, t1, t7⟩ : ∃ T : Int, atI [V.int 1, V.int 1, V.int 1, V.int 2, V.int 2, V.int (1 + r1)] r2 = some (.int T) ∧ 1 ≤ T ∧ T ≤ 7 := by
      obtain ⟨j, rfl⟩ := Int.eq_ofNat_of_zero_le a2
      have hj : j < 6 := by omega
      match j, hj with
      | 0, _ => exact ⟨1, atI_nat (j := 0) rfl, by decide, by decide⟩
      | 1, _ => exact ⟨1, atI_nat (j := 1) rfl, by decide, by decide⟩
      | 2, _ => exact ⟨1, atI_nat (j := 2) rfl, by decide, by decide⟩
      | 3, _ => exact ⟨2, atI_nat (j := 3) rfl, by decide, by decide⟩
      | 4, _ => exact ⟨2, atI_nat (j := 4) rfl, by decide, by decide⟩
      | 5, _ => exact ⟨1 + r1, atI_nat (j := 5) rfl, by omega, by omega⟩
    refine ⟨p1, _, r2, .int T, rfl, rfl, SqL.of e2, hT, ?_⟩
    refine ⟨(by show 5 ≤ sizeLine; decide), fun p3 hp3 => ?_⟩
    have u3 := same_upd (o := HO.lst (fives.map V.str)) hp3
    have M3 := d2.at_.same u3
    refine ⟨_, rfl, m, c, l2, k2, 5, rfl, M3, by decide, by decide, by omega, fun r3 H3 l3 k3 a3 b3 g3 N3 f3 q3 => ?_⟩
    have d3 : Dr _ H3 m c l2 l3 k3 := ⟨N3, f3, q3⟩
    obtain ⟨e3, _⟩ := d3.lst M3 upd_same (d2.at_.l_some hp3)
    have D3 := (D2.same u3).trans d3
    obtain ⟨sg, hsg, hm⟩ : ∃ sg : Str, atI (fives.map V.str) r3 = some (.str sg) ∧ sg ∈ fives := by
      obtain ⟨j, rfl⟩ := Int.eq_ofNat_of_zero_le a3
      have hj : j < fives.length := by show j < 5; omega
      refine ⟨fives[j], atI_nat ?_, List.getElem_mem hj⟩
      rw [List.getElem?_map, List.getElem?_eq_getElem hj]
      rfl
    obtain ⟨z1, z7, zs⟩ := five_ok sg hm
    refine ⟨p3, _, r3, .str sg, rfl, rfl, SqL.of e3, hsg, ?_⟩
    refine ⟨⟨_, rfl⟩, _, rfl, T, rfl, by omega, by omega, fun D hD => ?_⟩
    have D4 := D3.same (same_upd (o := HO.lst []) hD)
    have nD := D3.at_.l_some hD
    have hD0 : H D = none ∨ True := .inr trivial
    refine lc_it walk_range (fun i H' => ∃ (ys : List Str) (l' : Addr) (k' : Int), H' D = some (.lst (ys.map V.str)) ∧ D ≠ l' ∧ ys.length = i ∧ (∀ y ∈ ys, ∃ c, y = ⟨#[c]⟩ ∧ c ∈ sgs) ∧ k' ≤ k3 + i ∧ MAt H' m c l' k' ∧ (l' = l ∨ H l' = none) ∧ ∀ b o, H b = some o → b ≠ m → b ≠ l → H' b = some o)
      ⟨[], l3, k3, upd_same, nD, rfl, (fun y h => by cases h), by omega, D4.at_, D4.hl, D4.kp⟩ (fun _ _ _ _ => trivial) ?_ ?_
    · rintro i x H4 H5 hi ⟨ys, l4, k4, hl, nl, ly, hy, kk, M4, f4, q4⟩ ⟨rfl, rfl⟩
      have d0 : Dr H H5 m c l l4 k4 := ⟨M4, f4, q4⟩
      have hi7 : i < 7 := by omega
      refine ⟨rfl, _, rfl, _, rfl, _, rfl, sg, rfl, by rw [sizeLine_eq]; omega, m, c, l4, k4, _, rfl, M4, by omega, by omega, by omega, fun r5 H6 l6 k6 a6 b6 g6 N6 f6 q6 => ?_⟩
      have d6 : Dr H5 H6 m c l4 l6 k6 := ⟨N6, f6, q6⟩
      obtain ⟨e6, n6⟩ := d6.lst M4 hl nl
      obtain ⟨j, rfl⟩ := Int.eq_ofNat_of_zero_le a6
      have js : j < (sl sg).length := by rw [← len_sl]; omega
      refine ⟨sg, (j : Int), (sl sg)[j], rfl, rfl, by rw [sizeLine_eq]; omega, atI_nat (List.getElem?_eq_getElem js), _, e6, ?_, ?_⟩
      · rw [List.length_map, ly, sizeLine_eq]
        omega
      · have dk := d0.trans d6
        have hDm : D ≠ m := ne_of e6 N6.hm (fun z => by cases z)
        refine ⟨ys ++ [⟨#[(sl sg)[j]]⟩], l6, k6, ?_, n6, by rw [List.length_append, ly]; rfl, fun y h => ?_, by omega, ?_, dk.hl, fun b o z h1 h2 => ?_⟩
        · rw [List.map_append]
          exact upd_same
        · rcases List.mem_append.mp h with h | h
          · exact hy y h
          · exact ⟨_, by simpa using h, zs _ (List.getElem_mem js)⟩
        · exact N6.upd hDm (D3.at_.c_some hD) n6
        · rw [upd_ne (ne_of_none (D3.kp b o z h1 h2) hD)]
          exact dk.kp b o z h1 h2
    · rintro H4 ⟨ys, l4, k4, hl, nl, ly, hy, kk, M4, f4, q4⟩
      have d4 : Dr H H4 m c l l4 k4 := ⟨M4, f4, q4⟩
      obtain ⟨w1, w2⟩ := flat_one hy
      rw [← txt_join] at w1 w2
      have le : ∀ zs : List Str, (∀ y ∈ zs, ∃ c, y = ⟨#[c]⟩ ∧ c ∈ sgs) → (zs.map (·.length)).sum = zs.length := by
        intro zs
        induction zs with
        | nil => exact fun _ => rfl
        | cons y zs ih =>
          intro h
          obtain ⟨c, e, _⟩ := h y (List.mem_cons_self ..)
          have e2 : y.length = 1 := by rw [e]; rfl
          rw [List.map_cons, List.sum_cons, e2, ih fun y hy => h y (List.mem_cons_of_mem _ hy), List.length_cons]
          omega
      have z0 : ("" : Str).length = 0 := by decide +kernel
      refine ⟨"", D, ys, rfl, rfl, .inl (SqL.of hl), by rw [le ys hy, z0]; omega, ?_⟩
      generalize hbd : Txt.join "" ys = body at w1 w2 ⊢
      have pc0 : Pc body false := ⟨sl body, by rw [if_neg (by simp), List.append_nil], by rw [w2]; omega, w1, fun _ e => by rw [e] at w2; simp at w2; omega⟩
      have pc1 : ∀ b2 : Str, (b2 = body ∨ b2 = "") → Pc (b2 ++ ";") true := fun b2 h => by
        refine ⟨sl b2, by rw [sl_app, semi, if_pos rfl], ?_, ?_, fun e => by cases e⟩
        · rcases h with h | h
          · rw [h, w2]
            omega
          · rw [h, sl_empty]
            exact Nat.zero_le _
        · rcases h with h | h
          · rw [h]
            exact w1
          · rw [h, sl_empty]
            exact fun c h => by cases h
      refine ⟨_, rfl, _, rfl, ?_⟩
      cases last with
      | false =>
        refine iteF ⟨_, rfl, ?_⟩
        exact q body H4 l4 k4 pc0 (by omega) d4
      | true =>
        refine iteT ?_
        refine ⟨_, rfl, _, rfl, (by show 3 ≤ sizeLine; decide), fun p5 hp5 => ?_⟩
        have u5 := same_upd (o := HO.lst [V.str body, V.str body, V.str ""]) hp5
        have M5 := M4.same u5
        refine ⟨_, rfl, m, c, l4, k4, 3, rfl, M5, by decide, by decide, by omega, fun r7 H7 l7 k7 a7 b7 g7 N7 f7 q7 => ?_⟩
        have d7 : Dr _ H7 m c l4 l7 k7 := ⟨N7, f7, q7⟩
        obtain ⟨e7, _⟩ := d7.lst M5 upd_same (M4.l_some hp5)
        obtain ⟨b2, hb2, hor⟩ : ∃ b2 : Str, atI [V.str body, V.str body, V.str ""] r7 = some (.str b2) ∧ (b2 = body ∨ b2 = "") := by
          obtain ⟨j, rfl⟩ := Int.eq_ofNat_of_zero_le a7
          have hj : j < 3 := by omega
          match j, hj with
          | 0, _ => exact ⟨body, atI_nat (j := 0) rfl, .inl rfl⟩
          | 1, _ => exact ⟨body, atI_nat (j := 1) rfl, .inl rfl⟩
          | 2, _ => exact ⟨"", atI_nat (j := 2) rfl, .inr rfl⟩
        have pcz := pc1 b2 hor
        have lz := (pc_len pcz).2
        refine ⟨p5, _, r7, .str b2, rfl, rfl, SqL.of e7, hb2, b2, ";", rfl, rfl, ?_, ?_⟩
        · rw [semi1, sizeLine_eq, len_sl]
          rw [len_sl, sl_app, List.length_append] at lz
          omega
        · exact q (b2 ++ ";") H7 l7 k7 pcz (by omega) ((d4.same u5).trans d7)
end
end K35

set_option Elab.async false
set_option linter.all false
set_option maxRecDepth 100000
set_option maxHeartbeats 4000000
/-! Drawn framings. -/
namespace K35
open PySem L2 L2.EV
abbrev sFraming : Stmt := top 40
def d3 (x : T3) : PyData := .tuple [.int x.1, .str x.2.1, .int x.2.2]
theorem d3_eq (x y : T3) : PyData.eqv (d3 x) (d3 y) = decide (x = y) := by
  unfold d3
  simp only [PyData.eqv, PyData.eqvAll, Bool.and_true]
  by_cases e : x = y
  · subst e
    simp
  · rw [decide_eq_false e]
    cases h1 : (x.1 == y.1) with
    | false => rfl
    | true =>
      cases h2 : (x.2.1 == y.2.1) with
      | false => rfl
      | true =>
        cases h3 : (x.2.2 == y.2.2) with
        | false => rfl
        | true => exact absurd (Prod.ext (eq_of_beq h1) (Prod.ext (eq_of_beq h2) (eq_of_beq h3))) e
theorem sgs_low : ∀ c ∈ sgs, c < 0x110000 := by decide +kernel
theorem pc_ok {p : Str} {l : Bool} (h : Pc p l) : PyData.strOk p = true := by
  obtain ⟨b, e, _, hb, _⟩ := h
  unfold PyData.strOk
  rw [← Array.all_toList, show p.cps.toList = sl p from rfl, e, List.all_eq_true]
  intro c hc
  refine decide_eq_true ?_
  rcases List.mem_append.mp hc with hc | hc
  · exact sgs_low c (hb c hc)
  · cases l with
    | false => cases hc
    | true =>
      have z : c = 59 := by simpa using hc
      omega
theorem d3_lay {x : T3} (h : PyData.strOk x.2.1 = true) : PyData.canLay0 (d3 x) = true := by
  unfold d3
  simp only [PyData.canLay0, PyData.canLayAll0, Bool.and_true, Bool.and_self, h]
theorem d3_depth (x : T3) : (d3 x).depth ≤ 1 := by
  unfold d3
  simp only [PyData.depth, PyData.depthAll]
  omega
theorem d3_shaped {x : T3} (h : PyData.strOk x.2.1 = true) : SeqAt.shaped (d3 x) = true := by
  show (PyData.canLay0 (d3 x) && decide (PyData.depth (d3 x) ≤ 64)) = true
  rw [d3_lay h, decide_eq_true (Nat.le_trans (d3_depth x) (by decide))]
  rfl
theorem d3s_lay : ∀ xs : List T3, (∀ x ∈ xs, PyData.strOk x.2.1 = true) → PyData.canLayAll0 (xs.map d3) = true
  | [], _ => by simp [PyData.canLayAll0]
  | x :: xs, h => by
    rw [List.map_cons]
    simp only [PyData.canLayAll0, d3_lay (h x (List.mem_cons_self ..)), d3s_lay xs (fun y hy => h y (List.mem_cons_of_mem _ hy)), Bool.and_self]
theorem d3s_depth : ∀ xs : List T3, PyData.depthAll (xs.map d3) ≤ 1
  | [] => by simp [PyData.depthAll]
  | x :: xs => by
    rw [List.map_cons]
    simp only [PyData.depthAll]
    have h1 := d3_depth x
    have h2 := d3s_depth xs
    omega
theorem d3s_shaped {xs : List T3} (hx : ∀ x ∈ xs, PyData.strOk x.2.1 = true) : SeqAt.shaped (.list (xs.map d3)) = true := by
  show (PyData.canLay0 (.list (xs.map d3)) && decide (PyData.depth (.list (xs.map d3)) ≤ 64)) = true
  have h := d3s_depth xs
  have h1 : PyData.canLay0 (.list (xs.map d3)) = true := by simp only [PyData.canLay0]; exact d3s_lay xs hx
  have h2 : PyData.depth (.list (xs.map d3)) ≤ 64 := by simp only [PyData.depth]; omega
  rw [h1, decide_eq_true h2]
  rfl
/-- steps at ts -/
def At3 (H : Hp) (ts : List Addr) (xs : List T3) : Prop := ts.length = xs.length ∧ ∀ (i : Nat) t x, ts[i]? = some t → xs[i]? = some x → S3 H t x
theorem dp3 {K : PySem.W.Frag} {H : Hp} {t : Addr} {x : T3} (h : S3 H t x) : Dp K H (.ref t) (d3 x) := .tup (SqT.of h) (.cons (.int _) (.cons (.str _) (.cons (.int _) .nil)))
theorem dp3s {K : PySem.W.Frag} {H : Hp} : ∀ {ts : List Addr} {xs : List T3}, At3 H ts xs → DpAll K H (ts.map V.ref) (xs.map d3)
  | [], [], _ => .nil
  | [], _ :: _, h => by cases h.1
  | _ :: _, [], h => by cases h.1
  | t :: ts, x :: xs, h => .cons (dp3 (h.2 0 t x rfl rfl)) (dp3s ⟨by have := h.1; simpa using this, fun i t x h1 h2 => h.2 (i + 1) t x (by simpa using h1) (by simpa using h2)⟩)
theorem At3.same {H H' : Hp} {ts : List Addr} {xs : List T3} (h : At3 H ts xs) (s : KeepT H H') : At3 H' ts xs := ⟨h.1, fun i t x h1 h2 => s _ _ (h.2 i t x h1 h2)⟩
theorem At3.snoc {H : Hp} {ts : List Addr} {xs : List T3} {t : Addr} {x : T3} (h : At3 H ts xs) (hx : S3 H t x) : At3 H (ts ++ [t]) (xs ++ [x]) := by
  refine ⟨by rw [List.length_append, List.length_append, h.1]; rfl, fun i u y h1 h2 => ?_⟩
  by_cases e : i < ts.length
  · rw [List.getElem?_append_left e] at h1
    rw [List.getElem?_append_left (by rw [← h.1]; exact e)] at h2
    exact h.2 i u y h1 h2
  · have i1 := (List.getElem?_eq_some_iff.mp h1).1
    rw [List.length_append] at i1
    have e2 : i = ts.length := by simp only [List.length_cons, List.length_nil] at i1; omega
    subst e2
    rw [List.getElem?_append_right (Nat.le_refl _), Nat.sub_self] at h1
    rw [h.1, List.getElem?_append_right (Nat.le_refl _), Nat.sub_self] at h2
    have e3 : t = u := Option.some.inj h1
    have e4 : x = y := Option.some.inj h2
    rw [← e3, ← e4]
    exact hx
theorem At3.take {H : Hp} {ts : List Addr} {xs : List T3} (h : At3 H ts xs) (n : Nat) : At3 H (ts.take n) (xs.take n) := by
  refine ⟨by rw [List.length_take, List.length_take, h.1], fun i t x h1 h2 => ?_⟩
  rw [List.getElem?_take] at h1 h2
  by_cases e : i < n
  · rw [if_pos e] at h1 h2
    exact h.2 i t x h1 h2
  · rw [if_neg e] at h1
    cases h1
theorem lt3_tri {x y : T3} (h1 : lt3 x y = false) (h2 : lt3 y x = false) : x = y := by
  have a := lt3_no.mp h1
  have b := lt3_no.mp h2
  have e1 : x.1 = y.1 := by
    have a1 : ¬ x.1 < y.1 := fun q => a (.inl q)
    have b1 : ¬ y.1 < x.1 := fun q => b (.inl q)
    omega
  have a2 : ¬ sl x.2.1 < sl y.2.1 := fun q => a (.inr ⟨e1, .inl q⟩)
  have b2 : ¬ sl y.2.1 < sl x.2.1 := fun q => b (.inr ⟨e1.symm, .inl q⟩)
  have e2 : x.2.1 = y.2.1 := sl_inj (List.le_antisymm (List.not_lt.mp b2) (List.not_lt.mp a2))
  have a3 : ¬ x.2.2 < y.2.2 := fun q => a (.inr ⟨e1, .inr ⟨e2, q⟩⟩)
  have b3 : ¬ y.2.2 < x.2.2 := fun q => b (.inr ⟨e1.symm, .inr ⟨e2.symm, q⟩⟩)
  exact Prod.ext e1 (Prod.ext e2 (by omega))
def spFraming : Sp := fun vs H Q _ => ∃ (m c l : Addr) (k : Int) (b : Nat), vs = [.ref m, .int (b : Int)] ∧ b ≤ 5 ∧ MAt H m c l k ∧ k < 700000 ∧
  ∀ (f : Addr) (fr : List T3) (last : Nat) (H' : Hp) (l' : Addr) (k' : Int), FrA H' f fr → Frm fr last → last ≤ b → k' ≤ k + 400 → Dr H H' m c l l' k' → Q (.ref f) H'
/-- the found steps at F -/
structure FS (H H' : Hp) (m c l F : Addr) (kb : Int) (last : Nat) (xs : List T3) : Prop where
  ex : ∃ (ts : List Addr) (l' : Addr) (k' : Int), H' F = some (.lst (ts.map V.ref)) ∧ At3 H' ts xs ∧ F ≠ l' ∧ F ≠ m ∧ F ≠ c ∧ k' ≤ kb ∧ Dr H H' m c l l' k'
  ok : ∀ x ∈ xs, Stp x ∧ x.1 ≤ last ∧ x.2.2 ≤ last
  hF : ∀ b o, H b = some o → b ≠ m → b ≠ l → b ≠ F
theorem bl_eq (t : Int) : decide (V.int t = V.int 0) = decide (t = 0) := by
  rw [dec_int]
  by_cases z : t = 0
  · rw [z]
    rfl
  · rw [decide_eq_false z]
    exact beq_eq_false_iff_ne.mpr z
theorem Dr.keepT {H0 H : Hp} {m c l0 l : Addr} {k k0 : Int} (d : Dr H0 H m c l0 l k) (M : MAt H0 m c l0 k0) : KeepT H0 H := fun a xs e => d.tup M e
/-- one step more -/
theorem FS.push {H H1 H2 H3 : Hp} {m c l F l1 l2 t : Addr} {k1 k2 kb : Int} {last : Nat} {xs : List T3} {ts : List Addr} {x : T3} (hF : H1 F = some (.lst (ts.map V.ref))) (ha : At3 H1 ts xs) (n1 : F ≠ l1) (n2 : F ≠ m) (n3 : F ≠ c) (d1 : Dr H H1 m c l l1 k1)
    (d2 : Dr H1 H2 m c l1 l2 k2) (ht : H2 t = none) (e3 : H3 = upd (upd H2 t (.tup [.int x.1, .str x.2.1, .int x.2.2])) F (.lst (ts.map V.ref ++ [.ref t]))) (hk : k2 ≤ kb)
    (ok : ∀ y ∈ xs, Stp y ∧ y.1 ≤ last ∧ y.2.2 ≤ last) (okx : Stp x ∧ x.1 ≤ last ∧ x.2.2 ≤ last) (hF0 : ∀ b o, H b = some o → b ≠ m → b ≠ l → b ≠ F) : FS H H3 m c l F kb last (xs ++ [x]) := by
  obtain ⟨hF2, n4⟩ := d2.lst d1.at_ hF n1
  have u := same_upd (o := HO.tup [.int x.1, .str x.2.1, .int x.2.2]) ht
  have hF2' := u _ _ hF2
  have kt := keepT_upd (o := .lst (ts.map V.ref ++ [.ref t])) hF2' (fun xs z => by cases z)
  have D2 := (d1.trans d2).same u
  subst e3
  refine ⟨⟨ts ++ [t], l2, k2, by rw [List.map_append]; exact upd_same, ?_, n4, n2, n3, hk, ⟨D2.at_.upd n2 n3 n4, D2.hl, fun b o z h1 h2 => ?_⟩⟩, fun y hy => ?_, hF0⟩
  · refine At3.snoc (ha.same ?_) (kt _ _ upd_same)
    exact ((d2.keepT d1.at_).trans (Same.keepT u)).trans kt
  · rw [upd_ne (hF0 b o z h1 h2)]
    exact D2.kp b o z h1 h2
  · rcases List.mem_append.mp hy with h | h
    · exact ok y h
    · have e : y = x := by simpa using h
      rw [e]
      exact okx
def dd (xs : List T3) : List T3 := xs.foldl (fun acc x => if x ∈ acc then acc else acc ++ [x]) []
theorem dd_snoc (xs : List T3) (x : T3) : dd (xs ++ [x]) = if x ∈ dd xs then dd xs else dd xs ++ [x] := by
  unfold dd
  rw [List.foldl_append]
  rfl
theorem snoc_ind {α : Type} {p : List α → Prop} (h0 : p []) (h1 : ∀ l x, p l → p (l ++ [x])) (l : List α) : p l := by
  have z : ∀ n (l : List α), l.length = n → p l := by
    intro n
    induction n with
    | zero => exact fun l h => by rw [List.length_eq_zero_iff.mp h]; exact h0
    | succ n ih =>
      intro l h
      obtain ⟨M, y, rfl⟩ := SrtO.snoc_of (l := l) (by omega)
      exact h1 M y (ih M (by rw [List.length_append] at h; simp only [List.length_cons, List.length_nil] at h; omega))
  exact z _ l rfl
theorem dd_mem (y : T3) (xs : List T3) : y ∈ dd xs ↔ y ∈ xs := by
  refine snoc_ind (p := fun xs => y ∈ dd xs ↔ y ∈ xs) Iff.rfl (fun l x ih => ?_) xs
  rw [dd_snoc]
  by_cases e : x ∈ dd l
  · rw [if_pos e, ih, List.mem_append, List.mem_singleton]
    refine ⟨.inl, fun h => h.elim id fun z => ?_⟩
    rw [z]
    rw [z] at ih
    exact ih.mp e
  · rw [if_neg e, List.mem_append, ih, List.mem_append]
theorem dd_nodup (xs : List T3) : (dd xs).Nodup := by
  refine snoc_ind (p := fun xs => (dd xs).Nodup) List.nodup_nil (fun l x ih => ?_) xs
  rw [dd_snoc]
  by_cases e : x ∈ dd l
  · rw [if_pos e]
    exact ih
  · rw [if_neg e]
    refine List.nodup_append.mpr ⟨ih, by simp, fun a ha b hb => ?_⟩
    have e2 : b = x := by simpa using hb
    rw [e2]
    exact fun z => e (z ▸ ha)
theorem dd_len (xs : List T3) : (dd xs).length ≤ xs.length := by
  refine snoc_ind (p := fun xs => (dd xs).length ≤ xs.length) (Nat.le_refl _) (fun l x ih => ?_) xs
  rw [dd_snoc, List.length_append]
  split
  · omega
  · rw [List.length_append]
    omega
/-- the step that stands at an address -/
def stepAt (H : Hp) : V → T3
  | .ref t => match H t with
    | some (.tup [.int a, .str b, .int c]) => (a, b, c)
    | _ => (0, "", 0)
  | _ => (0, "", 0)
theorem stepAt_of {H : Hp} {t : Addr} {x : T3} (h : S3 H t x) : stepAt H (.ref t) = x := by
  unfold stepAt
  dsimp only
  rw [h]
theorem map_stepAt {H : Hp} {ts : List Addr} {xs : List T3} (h : At3 H ts xs) : (ts.map V.ref).map (stepAt H) = xs := by
  refine List.ext_getElem? fun i => ?_
  rw [List.getElem?_map, List.getElem?_map]
  by_cases hi : i < ts.length
  · have hx : i < xs.length := by rw [← h.1]; exact hi
    rw [List.getElem?_eq_getElem hi, List.getElem?_eq_getElem hx]
    show some (stepAt H (.ref ts[i])) = _
    rw [stepAt_of (h.2 i _ _ (List.getElem?_eq_getElem hi) (List.getElem?_eq_getElem hx))]
  · rw [List.getElem?_eq_none (by omega), List.getElem?_eq_none (by rw [← h.1]; omega)]
    rfl
/-- sorted: a framing -/
theorem frm_of {H : Hp} {ts : List Addr} {xs ys : List T3} {vs : List V} {last : Nat} (h : At3 H ts ys) (hy : ys = dd xs) (sr : SrtO.Srtd (fun x y => lt3 (stepAt H x) (stepAt H y)) vs) (pm : vs.Perm (ts.map V.ref)) (l1 : xs.length ≤ 16) (l5 : last ≤ 5)
    (ok : ∀ x ∈ xs, Stp x ∧ x.1 ≤ last ∧ x.2.2 ≤ last) (ring : ∀ k : Nat, k ≤ last → ∃ x ∈ xs, x.1 = (k : Int) ∧ x.2.2 = (if k < last then (k : Int) + 1 else 0)) : Frm (vs.map (stepAt H)) last ∧ ∃ us : List Addr, vs = us.map V.ref ∧ At3 H us (vs.map (stepAt H)) := by
  have pm2 : (vs.map (stepAt H)).Perm ys := by
    have z := pm.map (stepAt H)
    rw [map_stepAt h] at z
    exact z
  have mem : ∀ x, x ∈ vs.map (stepAt H) ↔ x ∈ xs := fun x => by rw [pm2.mem_iff, hy, dd_mem]
  have nd : (vs.map (stepAt H)).Nodup := by
    rw [pm2.nodup_iff, hy]
    exact dd_nodup xs
  have len : (vs.map (stepAt H)).length ≤ 16 := by
    rw [pm2.length_eq, hy]
    exact Nat.le_trans (dd_len xs) l1
  refine ⟨⟨?_, len, fun x hx => (ok x ((mem x).mp hx)).1, ?_, fun k hk => ?_, fun x hx => (ok x ((mem x).mp hx)).2, l5⟩, ?_⟩
  · obtain ⟨x, hx, _⟩ := ring 0 (Nat.zero_le _)
    have := (mem x).mpr hx
    exact List.length_pos_of_mem this
  · have s2 : (vs.map (stepAt H)).Pairwise fun x y => lt3 y x = false := List.pairwise_map.mpr sr
    refine (s2.and nd).imp fun {x y} z => ?_
    cases e : lt3 x y with
    | true => rfl
    | false => exact absurd (lt3_tri e z.1) z.2
  · obtain ⟨x, hx, e⟩ := ring k hk
    exact ⟨x, (mem x).mpr hx, e⟩
  · have rf : ∀ v ∈ vs, ∃ t x, v = V.ref t ∧ S3 H t x := fun v hv => by
      obtain ⟨t, ht, rfl⟩ := List.mem_map.mp (pm.mem_iff.mp hv)
      obtain ⟨i, hi, e⟩ := List.getElem_of_mem ht
      have hx : i < ys.length := by rw [← h.1]; exact hi
      exact ⟨t, ys[i], rfl, h.2 i t _ (by rw [List.getElem?_eq_getElem hi, e]) (List.getElem?_eq_getElem hx)⟩
    have go : ∀ ws : List V, (∀ v ∈ ws, ∃ t x, v = V.ref t ∧ S3 H t x) → ∃ us : List Addr, ws = us.map V.ref ∧ At3 H us (ws.map (stepAt H)) := by
      intro ws
      induction ws with
      | nil => exact fun _ => ⟨[], rfl, rfl, fun i t x h => by cases h⟩
      | cons v ws ih =>
        intro hw
        obtain ⟨t, x, rfl, hx⟩ := hw v (List.mem_cons_self ..)
        obtain ⟨us, e1, e2⟩ := ih fun v hv => hw v (List.mem_cons_of_mem _ hv)
        refine ⟨t :: us, by rw [e1]; rfl, by rw [List.length_cons, e2.1]; rfl, fun i u y h1 h2 => ?_⟩
        cases i with
        | zero =>
          have e3 : t = u := Option.some.inj h1
          have e4 : stepAt H (.ref t) = y := Option.some.inj h2
          rw [← e3, ← e4, stepAt_of hx]
          exact hx
        | succ i => exact e2.2 i u y (by simpa using h1) (by simpa using h2)
    exact go vs rf
end K35

set_option Elab.async false
set_option linter.all false
set_option maxRecDepth 100000
set_option maxHeartbeats 4000000
/-! Drawn framings: the def. -/
namespace K35
open PySem L2 L2.EV
theorem cut_to {ts : List Addr} {i : Nat} : cutV (ts.map V.ref) none (some (i : Int)) = (ts.take i).map V.ref := by
  unfold cutV
  rw [HT.sIx_nat, HT.sIx_none, List.length_map, List.drop_zero, Nat.sub_zero, ← List.map_take]
  congr 1
  by_cases h : i ≤ ts.length
  · rw [Nat.min_eq_left h]
  · rw [Nat.min_eq_right (by omega), List.take_length, List.take_of_length_le (by omega)]
theorem any_d3 (y : T3) : ∀ xs : List T3, ((xs.map d3).any fun z => PyData.eqv z (d3 y)) = decide (y ∈ xs)
  | [] => by simp
  | x :: xs => by
    rw [List.map_cons, List.any_cons, any_d3 y xs, d3_eq]
    by_cases e : x = y
    · subst e
      simp
    · have e' : ¬ y = x := fun z => e z.symm
      rw [decide_eq_false e, Bool.false_or]
      by_cases m : y ∈ xs
      · rw [decide_eq_true m, decide_eq_true (List.mem_cons_of_mem _ m)]
      · rw [decide_eq_false m, decide_eq_false (fun z => (List.mem_cons.mp z).elim e' m)]
section
variable {P : Program} {w : World} {K : PySem.W.Frag} {mg : Str → Option Value} {base : Heap}
structure Lf (K : PySem.W.Frag) (mg : Str → Option Value) where
  L : Ls K mg
  f : Addr
  d : FuncData
  F : Fun K "_law_framing" "_law_framing" sFraming f d
  b : Binds K d ["m", "most"] []
  g : mg "_law_framing" = some (.ref f)
  so : mg "sorted" = none
  tu : mg "tuple" = none
  en : mg "enumerate" = none
theorem scFraming : FnScope ["m", "most", "last", "found", "here", "to", "again", "k", "step"] ["m", "most"] (defScope sFraming) := ⟨rfl, rfl, rfl, by decide +kernel, rfl, by decide +kernel, by decide +kernel⟩
theorem ok_framing (G : Lf K mg) : FnOk P w K mg base CX0 3 G.f G.d ["m", "most"] spFraming := by
  have GX : FnOk P w K mg base CX0 1 G.L.f1 G.L.d1 ["m", "total"] spNext := ok_next G.L.N G.L.T
  have GP : FnOk P w K mg base CX0 2 G.L.f2 G.L.d2 ["m", "last"] spPiece := ok_piece G.L
  refine G.F.ok scFraming (fun vs H Q E h => ?_) (fun cdv A outer s H vs Q E hr h => ?_)
  · obtain ⟨m, c, l, k, b, rfl, _⟩ := h
    rfl
  · obtain ⟨m, c, l, k, bm, rfl, hbm, M, hk, q⟩ := h
    have hr1 := hr.mono (j := 1) (by omega)
    have hu65 : (A.deeper (PyProof.Rows.envOfC "_law_framing" (defScope sFraming) s.heap.objs.size G.f cdv)).units + 65 < cLine := by have := hr.un; omega
    refine ⟨_, pss_cons (ps_asg (pe_tup (pa_cons (pe_call GX hr1 (by rfl) G.L.mN G.L.N.kp G.L.bN .nil pass0 (pa_cons (pv 0) (pa_cons (pe_op op_add (pv 1) pe_int) pa_nil))) (pa_cons (pe_lst pa_nil) pa_nil))) (pg_tup rfl (pgs_cons (pg_name (i := 2) scFraming.nd rfl (Or.inl rfl)) (pgs_cons (pg_name (i := 3) scFraming.nd rfl (Or.inr rfl)) pgs_nil))))
      (pss_cons (ps_for PassesOwn.never rfl (pi_range1 (by rfl) G.L.ra (pa_cons (pe_op op_add (pv 2) pe_int) pa_nil)) (pg_name (i := 4) scFraming.nd rfl (Or.inl rfl))
        (pss_cons (ps_set (i := 5) scFraming.nd rfl (Or.inl rfl) (pe_ifExp (pt_cmpR op_lt (pv 4) (pv 2) (nomark _)) (pe_op op_add (pv 4) pe_int) pe_int))
        (pss_one (ps_expr (pe_bm PySem.F.plainAttrs_list PySem.F.slot_list_append PySem.F.type_list_append mt_append (pv 3) (pa_cons (pe_tup (pa_cons (pv 4) (pa_cons (pe_call GP hr (by rfl) G.L.mP G.L.P.kp G.L.bP .nil pass0 (pa_cons (pv 0) (pa_cons (pe_cmpR op_eq (pv 5) pe_int (nomark _)) pa_nil))) (pa_cons (pv 5) pa_nil)))) pa_nil))))))
      (pss_cons (ps_for PassesOwn.never rfl (pi_range1 (by rfl) G.L.ra (pa_cons (pe_call GX hr1 (by rfl) G.L.mN G.L.N.kp G.L.bN .nil pass0 (pa_cons (pv 0) (pa_cons pe_int pa_nil))) pa_nil)) (pg_name (i := 6) scFraming.nd rfl (Or.inl rfl))
        (pss_cons (ps_par (i := 4) (j := 5) (x := "here") (y := "to") rfl scFraming.nd rfl rfl (by decide) rfl rfl (pa_cons (pe_call GX hr1 (by rfl) G.L.mN G.L.N.kp G.L.bN .nil pass0 (pa_cons (pv 0) (pa_cons (pe_op op_add (pv 2) pe_int) pa_nil))) (pa_cons (pe_call GX hr1 (by rfl) G.L.mN G.L.N.kp G.L.bN .nil pass0 (pa_cons (pv 0) (pa_cons (pe_op op_add (pv 2) pe_int) pa_nil))) pa_nil)) (by rfl))
        (pss_one (ps_expr (pe_bm PySem.F.plainAttrs_list PySem.F.slot_list_append PySem.F.type_list_append mt_append (pv 3) (pa_cons (pe_tup (pa_cons (pv 4) (pa_cons (pe_call GP hr (by rfl) G.L.mP G.L.P.kp G.L.bP .nil pass0 (pa_cons (pv 0) (pa_cons (pe_cmpR op_eq (pv 5) pe_int (nomark _)) pa_nil))) (pa_cons (pv 5) pa_nil)))) pa_nil))))))
      (pss_one (ps_ret (pe_callTy call_tuple_of (by rfl) G.tu (by decide +kernel) (pa_cons (pe_callB cr_sorted3 (by rfl) G.so (by decide +kernel) (pa_cons (pe_lc (own := [("k", 7), ("step", 8)]) (g := gTup K 2 (gCons (gName 7) (gCons (gName 8) gNil))) (tt := tTest (tOp (rNotInD K) (tVar 8) (tSl (rSlL K) (tVar 3) tNoPart (tPart (tVar 7))))) (te := tVar 8) rfl scFraming.nd
        (pi_enum (by rfl) G.en (pa_cons (pv 3) pa_nil)) (blkOk_by (N := ["m", "most", "last", "found", "here", "to", "again", "k", "step"]) (sc := defScope sFraming) (by decide +kernel))
        (fun _ _ _ _ _ => pg_tup rfl (pgs_cons (pg_name (i := 7) scFraming.nd rfl (Or.inl rfl)) (pgs_cons (pg_name (i := 8) scFraming.nd rfl (Or.inl rfl)) pgs_nil)))
        (fun _ _ _ _ _ => pts_one (pt_cmpR (op_notInD hu65) (pv 8) (pe_slice sl_list (pv 3) po_none (po_some (pv 7))) (by rfl))) (fun _ _ _ _ _ => pv 8)) pa_nil)) pa_nil)))))), ?_⟩
    refine ⟨_, rfl, _, rfl, bm, 1, rfl, rfl, m, c, l, k, _, rfl, M, by omega, by omega, by omega, fun r0 H1 l1 k1 a1 b1 g1 N1 f1 q1 => ?_⟩
    have d1 : Dr H H1 m c l l1 k1 := ⟨N1, f1, q1⟩
    obtain ⟨last, rfl⟩ := Int.eq_ofNat_of_zero_le a1
    have lbm : last ≤ bm := by omega
    have l5 : last ≤ 5 := by omega
    refine ⟨by decide, fun F hF => ⟨(by show 2 ≤ sizeLine; decide), fun p hp => ?_⟩⟩
    have u1 := same_upd (o := HO.lst []) hF
    have u2 := same_upd (o := HO.tup [V.int (last : Int), V.ref F]) hp
    refine ⟨p, _, rfl, SqT.of upd_same, rfl, _, _, rfl, _, _, rfl, rfl, ?_⟩
    have D1 := d1.same (u1.trans u2)
    have fs0 : FS H _ m c l F k1 last [] := ⟨⟨[], l1, k1, u2 _ _ upd_same, ⟨rfl, fun i t x h => by cases h⟩, N1.l_some hF, (ne_of_none N1.hm hF).symm, N1.c_some hF, Int.le_refl _, D1⟩, (fun x h => by cases h), fun b o z h1 h2 => ne_of_none (d1.kp b o z h1 h2) hF⟩
    have hn : ((last : Int) + 1).toNat = last + 1 := by omega
    refine ⟨_, rfl, last, 1, rfl, rfl, _, rfl, by omega, by omega, for_it walk_range (fun i σ H' => ∃ (v4 v5 : Option V) (xs : List T3), σ = [some (.ref m), some (.int (bm : Int)), some (.int (last : Int)), some (.ref F), v4, v5, none, none, none] ∧
      FS H H' m c l F (k1 + 21 * i) last xs ∧ xs.length = i ∧ ∀ j : Nat, j < i → ∃ x ∈ xs, x.1 = (j : Int) ∧ x.2.2 = (if j < last then (j : Int) + 1 else 0))
      ⟨none, none, [], rfl, by simpa using fs0, rfl, fun j h => absurd h (by omega)⟩ (fun _ _ _ _ _ => trivial) ?_ ?_⟩
    · rintro i x σ H2 H3 hi ⟨v4, v5, xs, rfl, fs, lx, rg⟩ ⟨rfl, rfl⟩
      have hil : i ≤ last := by omega
      obtain ⟨ts, l3, k3, hF3, ha3, n3, nm, nc, kk3, D3⟩ := fs.ex
      have M3 := D3.at_
      refine ⟨_, rfl, _, rfl, _, _, rfl, rfl, _, rfl, ?_⟩
      have fin : ∀ (t : Int) (pp : Str) (H' : Hp), t = (if i < last then (i : Int) + 1 else 0) → FS H H' m c l F (k1 + 21 * ((i + 1 : Nat) : Int)) last (xs ++ [(0 + (i : Int), pp, t)]) → (xs ++ [(0 + (i : Int), pp, t)]).length = i + 1 ∧ ∀ j : Nat, j < i + 1 → ∃ x ∈ xs ++ [(0 + (i : Int), pp, t)], x.1 = (j : Int) ∧ x.2.2 = (if j < last then (j : Int) + 1 else 0) := fun t pp H' et _ => by
        refine ⟨by rw [List.length_append, lx]; rfl, fun j hj => ?_⟩
        by_cases e : j = i
        · subst e
          exact ⟨_, List.mem_append_right _ (List.mem_singleton.mpr rfl), Int.zero_add _, et⟩
        · obtain ⟨x, hx, e2⟩ := rg j (by omega)
          exact ⟨x, List.mem_append_left _ hx, e2⟩
      refine ite2 (fun z => ?_) (fun z => ?_)
      · have z1 : 0 + (i : Int) < last := of_decide_eq_true z
        refine ⟨_, rfl, _, 1, rfl, rfl, ?_⟩
        refine ⟨_, rfl, .inl ⟨rfl, _, SqL.of hF3⟩, _, rfl, _, rfl, _, rfl, rfl, m, c, l3, k3, decide (V.int (0 + (i : Int) + 1) = V.int 0), rfl, M3, by omega, fun pp H4 l4 k4 hp kk4 d4 => ?_⟩
        rw [bl_eq] at hp
        refine ⟨_, rfl, (by show 3 ≤ sizeLine; decide), fun tp htp => ?_⟩
        obtain ⟨hF4, n4⟩ := d4.lst M3 hF3 n3
        refine ⟨F, ts.map V.ref, _, rfl, rfl, same_upd htp _ _ hF4, by rw [List.length_map, ha3.1, sizeLine_eq]; omega, ?_⟩
        have okx : Stp ((0 + (i : Int), pp, 0 + (i : Int) + 1) : T3) ∧ (0 + (i : Int) : Int) ≤ last ∧ (0 + (i : Int) + 1 : Int) ≤ last := ⟨⟨by show (0 : Int) ≤ 0 + i; omega, by show (0 + (i : Int)) < 6; omega, hp, by show (0 : Int) ≤ 0 + i + 1; omega, by show (0 + (i : Int) + 1) < 6; omega⟩, by omega, by omega⟩
        have fs' := FS.push (x := (0 + (i : Int), pp, 0 + (i : Int) + 1)) hF3 ha3 n3 nm nc D3 d4 htp rfl (kb := k1 + 21 * ((i + 1 : Nat) : Int)) (by omega) fs.ok okx fs.hF
        
        have et : 0 + (i : Int) + 1 = (if i < last then (i : Int) + 1 else 0) := by rw [if_pos (by omega)]; omega
        obtain ⟨w1, w2⟩ := fin _ pp _ et fs'
        exact ⟨_, _, _, rfl, fs', w1, w2⟩
      · have z1 : ¬ 0 + (i : Int) < last := fun y => z (decide_eq_true y)
        refine ⟨_, rfl, .inl ⟨rfl, _, SqL.of hF3⟩, _, rfl, _, rfl, _, rfl, rfl, m, c, l3, k3, decide (V.int (0) = V.int 0), rfl, M3, by omega, fun pp H4 l4 k4 hp kk4 d4 => ?_⟩
        rw [bl_eq] at hp
        refine ⟨_, rfl, (by show 3 ≤ sizeLine; decide), fun tp htp => ?_⟩
        obtain ⟨hF4, n4⟩ := d4.lst M3 hF3 n3
        refine ⟨F, ts.map V.ref, _, rfl, rfl, same_upd htp _ _ hF4, by rw [List.length_map, ha3.1, sizeLine_eq]; omega, ?_⟩
        have okx : Stp ((0 + (i : Int), pp, 0) : T3) ∧ (0 + (i : Int) : Int) ≤ last ∧ (0 : Int) ≤ last := ⟨⟨by show (0 : Int) ≤ 0 + i; omega, by show (0 + (i : Int)) < 6; omega, hp, Int.le_refl _, (by show (0 : Int) < 6; decide)⟩, by omega, by omega⟩
        have fs' := FS.push (x := (0 + (i : Int), pp, 0)) hF3 ha3 n3 nm nc D3 d4 htp rfl (kb := k1 + 21 * ((i + 1 : Nat) : Int)) (by omega) fs.ok okx fs.hF
        
        have et : (0 : Int) = (if i < last then (i : Int) + 1 else 0) := by rw [if_neg (by omega)]
        obtain ⟨w1, w2⟩ := fin _ pp _ et fs'
        exact ⟨_, _, _, rfl, fs', w1, w2⟩
    · rintro σ H2 ⟨v4, v5, xs, rfl, fs, lx, rg⟩
      rw [hn] at fs lx rg
      obtain ⟨ts, l3, k3, hF3, ha3, n3, nm, nc, kk3, D3⟩ := fs.ex
      refine ⟨_, rfl, m, c, l3, k3, 7, rfl, D3.at_, by decide, by decide, by omega, fun r2 H3 l4 k4 a4 b4 g4 N4 f4 q4 => ?_⟩
      have d4 : Dr H2 H3 m c l3 l4 k4 := ⟨N4, f4, q4⟩
      obtain ⟨hF4, n4⟩ := d4.lst D3.at_ hF3 n3
      have fs4 : FS H H3 m c l F (k1 + 127) last xs := ⟨⟨ts, l4, k4, hF4, ha3.same (d4.keepT D3.at_), n4, nm, nc, by omega, D3.trans d4⟩, fs.ok, fs.hF⟩
      refine ⟨r2, rfl, by omega, by omega, for_it walk_range (fun i σ H' => ∃ (v4 v5 v6 : Option V) (xs : List T3), σ = [some (.ref m), some (.int (bm : Int)), some (.int (last : Int)), some (.ref F), v4, v5, v6, none, none] ∧
        FS H H' m c l F (k1 + 127 + 23 * i) last xs ∧ xs.length = last + 1 + i ∧ ∀ j : Nat, j < last + 1 → ∃ x ∈ xs, x.1 = (j : Int) ∧ x.2.2 = (if j < last then (j : Int) + 1 else 0))
        ⟨v4, v5, none, xs, rfl, by simpa using fs4, lx, rg⟩ (fun _ _ _ _ _ => trivial) ?_ ?_⟩
      · rintro i x σ H5 H6 hi ⟨v4, v5, v6, xs, rfl, fs, lx, rg⟩ ⟨rfl, rfl⟩
        have hi6 : i < 7 := by omega
        obtain ⟨ts, l5', k5, hF5, ha5, n5, nm, nc, kk5, D5⟩ := fs.ex
        refine ⟨_, rfl, _, rfl, last, 1, rfl, rfl, m, c, l5', k5, _, rfl, D5.at_, by omega, by omega, by omega, fun rh H7 l7 k7 a7 b7 g7 N7 f7 q7 => ?_⟩
        have d7 : Dr _ H7 m c l5' l7 k7 := ⟨N7, f7, q7⟩
        refine ⟨_, rfl, _, rfl, last, 1, rfl, rfl, m, c, l7, k7, _, rfl, N7, by omega, by omega, by omega, fun rt H8 l8 k8 a8 b8 g8 N8 f8 q8 => ?_⟩
        have d8 : Dr _ H8 m c l7 l8 k8 := ⟨N8, f8, q8⟩
        have D3 := D5.trans (d7.trans d8)
        have M3 := D3.at_
        obtain ⟨hF3, n3⟩ := (d7.trans d8).lst D5.at_ hF5 n5
        have ha3 := ha5.same ((d7.trans d8).keepT D5.at_)
        refine ⟨_, _, rfl, ?_⟩
        refine ⟨_, rfl, .inl ⟨rfl, _, SqL.of hF3⟩, _, rfl, _, rfl, _, rfl, rfl, m, c, l8, k8, decide (V.int (rt) = V.int 0), rfl, M3, by omega, fun pp H4 l4 k4 hp kk4 d4 => ?_⟩
        rw [bl_eq] at hp
        refine ⟨_, rfl, (by show 3 ≤ sizeLine; decide), fun tp htp => ?_⟩
        obtain ⟨hF4, n4⟩ := d4.lst M3 hF3 n3
        refine ⟨F, ts.map V.ref, _, rfl, rfl, same_upd htp _ _ hF4, by rw [List.length_map, ha3.1, sizeLine_eq]; omega, ?_⟩
        have okx : Stp ((rh, pp, rt) : T3) ∧ (rh : Int) ≤ last ∧ (rt : Int) ≤ last := ⟨⟨a7, by show rh < 6; omega, hp, a8, by show rt < 6; omega⟩, by omega, by omega⟩
        have fs' := FS.push (x := (rh, pp, rt)) hF3 ha3 n3 nm nc D3 d4 htp rfl (kb := k1 + 127 + 23 * ((i + 1 : Nat) : Int)) (by omega) fs.ok okx fs.hF
        
        exact ⟨_, _, _, _, rfl, fs', by rw [List.length_append, lx]; rfl, fun j hj => by
          obtain ⟨x, hx, e2⟩ := rg j hj
          exact ⟨x, List.mem_append_left _ hx, e2⟩⟩
      · rintro σ H5 ⟨v4, v5, v6, xs, rfl, fs, lx, rg⟩
        obtain ⟨ts, l6, k6, hF6, ha6, n6, nm, nc, kk6, D6⟩ := fs.ex
        have hr2 : r2.toNat ≤ 6 := by omega
        have l16 : xs.length ≤ 16 := by omega
        have sok : ∀ x ∈ xs, PyData.strOk x.2.1 = true := fun x hx => pc_ok (fs.ok x hx).1.2.2.1
        refine ⟨_, rfl, F, _, rfl, SqL.of hF6, fun D hD => ?_⟩
        have nFD : F ≠ D := ne_of_none hF6 hD
        refine lc_it (walk_enum (xs := ts.map V.ref)) (fun i H' => ∃ ks : List Addr, H' D = some (.lst (ks.map V.ref)) ∧ At3 H' ks (dd (xs.take i)) ∧ ∀ b o, H5 b = some o → H' b = some o)
          ⟨[], upd_same, ⟨rfl, fun i t x h => by cases h⟩, fun b o z => same_upd hD b o z⟩ (fun i H' _ ⟨_, _, _, z⟩ => SqL.of (z _ _ hF6)) ?_ ?_
        · rintro i x H6 H7 hi ⟨ks, hk, hka, kp⟩ ⟨T, xi, xo, rfl, nT, rfl, h1, h2⟩
          cases h1
          obtain ⟨t, y, hy, rfl, e4⟩ := at_step (i := i) ha6.1 ha6.2 h2
          have uT := same_upd (o := HO.tup [V.int (i : Nat), V.ref t]) nT
          have il : i < xs.length := (List.getElem?_eq_some_iff.mp hy).1
          refine ⟨T, _, rfl, SqT.of upd_same, rfl, _, _, rfl, _, _, rfl, rfl, rfl, ?_⟩
          refine ⟨_, rfl, _, rfl, _, rfl, _, rfl, F, _, rfl, SqL.of (uT _ _ (kp _ _ hF6)), fun p5 hp5 => ?_⟩
          have u5 := same_upd (o := HO.lst (cutV (ts.map V.ref) none (some ((i : Nat) : Int)))) hp5
          have s5 : Same H5 _ := (show Same H5 H6 from kp).trans (uT.trans u5)
          have t5 := s5 _ _ e4
          refine ⟨d3 y, (xs.take i).map d3, dp3 t5, .lst (SqL.of upd_same) ?_, d3_shaped (sok y (List.mem_of_getElem? hy)), d3s_shaped (fun x hx => sok x (List.mem_of_mem_take hx)), _, rfl, ?_⟩
          · rw [cut_to] at s5 ⊢
            exact dp3s ((ha6.take i).same (Same.keepT s5))
          · rw [any_d3]
            have kk := uT.trans u5
            refine ite2 (fun z => ?_) (fun z => ?_)
            · have nm2 : ¬ y ∈ dd (xs.take i) := fun w => by
                rw [decide_eq_true ((dd_mem _ _).mp w)] at z
                cases z
              have hk5 := kk _ _ hk
              have kt := keepT_upd (o := .lst (ks.map V.ref ++ [.ref t])) hk5 (fun xs z => by cases z)
              refine ⟨_, rfl, _, hk5, ?_, ks ++ [t], ?_, ?_, fun b o w => ?_⟩
              · have := dd_len (xs.take i)
                rw [List.length_take] at this
                rw [List.length_map, hka.1, sizeLine_eq]
                omega
              · rw [List.map_append]
                exact upd_same
              · rw [take_one hy, dd_snoc, if_neg nm2]
                exact (hka.same ((Same.keepT kk).trans kt)).snoc (kt _ _ t5)
              · rw [upd_ne (ne_of_none w hD)]
                exact s5 _ _ w
            · have nm2 : y ∈ dd (xs.take i) := (dd_mem _ _).mpr (by
                by_cases w : y ∈ xs.take i
                · exact w
                · rw [decide_eq_false w] at z
                  exact absurd rfl z)
              refine ⟨ks, kk _ _ hk, ?_, fun b o w => s5 _ _ w⟩
              rw [take_one hy, dd_snoc, if_pos nm2]
              exact hka.same (Same.keepT kk)
        · rintro H6 ⟨ks, hk, hka, kp⟩
          rw [List.length_map, ha6.1, List.take_length] at hka
          have hkm := map_stepAt hka
          refine ⟨D, _, stepAt H6, rfl, SqL.of hk, fun x hx => ?_, fun ys p5 sr pm hp5 => ?_⟩
          · obtain ⟨t, ht, rfl⟩ := List.mem_map.mp hx
            obtain ⟨j, hj, e⟩ := List.getElem_of_mem ht
            have hx2 : j < (dd xs).length := by rw [← hka.1]; exact hj
            have s3 := hka.2 j t _ (by rw [List.getElem?_eq_getElem hj, e]) (List.getElem?_eq_getElem hx2)
            refine ⟨t, rfl, ?_⟩
            rw [stepAt_of s3]
            exact s3
          · obtain ⟨fm, us, eu, hu⟩ := frm_of hka rfl sr pm l16 l5 fs.ok (fun k hk => rg k (by omega))
            have u5 := same_upd (o := HO.lst ys) hp5
            refine ⟨p5, _, rfl, .inl ⟨SqL.of upd_same, fun p6 hp6 => ?_⟩⟩
            have u6 := same_upd (o := HO.tup ys) hp6
            have k5 : Same H5 _ := (show Same H5 H6 from kp).trans (u5.trans u6)
            refine q p6 (ys.map (stepAt H6)) last _ l6 k6 ⟨us, by rw [← eu]; exact upd_same, hu.1, fun i t x h1 h2 => (u5.trans u6) _ _ (hu.2 i t x h1 h2)⟩ fm lbm (by omega) (D6.same k5)
end
end K35

set_option Elab.async false
set_option linter.all false
set_option maxRecDepth 100000
set_option maxHeartbeats 4000000
/-! Drawn weavings. -/
namespace K35
open PySem L2 L2.EV
abbrev sFrom : Stmt := top 41
abbrev sWeave : Stmt := top 42
def spFrom : Sp := fun vs H Q _ => ∃ (f : Addr) (fr : List T3) (last : Nat) (h : Int), vs = [.ref f, .int h] ∧ FrA H f fr ∧ Frm fr last ∧
  ∀ (H' : Hp) (p : Addr) (ns : List Int), Same H H' → H p = none → H' p = some (.lst (ns.map V.int)) → ns.length ≤ 16 → (∀ n ∈ ns, 0 ≤ n ∧ n < fr.length ∧ (stt fr n).1 = h) → ((∃ x ∈ fr, x.1 = h) → ns ≠ []) → Q (.ref p) H'
theorem At2.same {H H' : Hp} {ts : List Addr} {xs : List E2} (h : At2 H ts xs) (s : KeepT H H') : At2 H' ts xs := ⟨h.1, fun i t x h1 h2 => s _ _ (h.2 i t x h1 h2)⟩
def spWeave : Sp := fun vs H Q _ => ∃ (m c l f : Addr) (k : Int) (fr : List T3) (last nw tot : Nat), vs = [.ref m, .ref f, .int nw, .int tot] ∧ MAt H m c l k ∧ k < 600000 ∧ FrA H f fr ∧ Frm fr last ∧ 1 ≤ nw ∧ nw ≤ 8 ∧ tot ≤ 60 ∧
  ∀ (w : Addr) (es : List E2) (H' : Hp) (l' : Addr) (k' : Int), WvA H' w es → Wv fr es → (∀ e ∈ es, e.1 < nw) → es.length ≤ tot → k' ≤ k + 200 → Dr H H' m c l l' k' → Q (.ref w) H'
theorem wv_snoc {fr : List T3} {es : List E2} {e : E2} (W : Wv fr es) (hl : es.length < 60) (he : Ent fr e) (g : (plc fr es)[e.1.toNat]? = some (stt fr e.2).1) : Wv fr (es ++ [e]) := by
  refine ⟨by rw [List.length_append]; simp only [List.length_cons, List.length_nil]; omega, fun x hx => ?_, fun i x hx => ?_⟩
  · rcases List.mem_append.mp hx with h | h
    · exact W.ent x h
    · have e2 : x = e := by simpa using h
      rw [e2]
      exact he
  · by_cases hi : i < es.length
    · rw [List.getElem?_append_left hi] at hx
      rw [List.take_append_of_le_length (by omega)]
      exact W.go i x hx
    · have i1 := (List.getElem?_eq_some_iff.mp hx).1
      rw [List.length_append] at i1
      have e2 : i = es.length := by simp only [List.length_cons, List.length_nil] at i1; omega
      subst e2
      rw [List.getElem?_append_right (Nat.le_refl _), Nat.sub_self] at hx
      have e3 : e = x := Option.some.inj hx
      rw [List.take_left' rfl, ← e3]
      exact g
theorem rep_flat : ∀ n : Nat, (List.replicate n [V.int 0]).flatten = (List.replicate n (0 : Int)).map V.int
  | 0 => rfl
  | n + 1 => by
    rw [List.replicate_succ, List.flatten_cons, rep_flat n, List.replicate_succ]
    rfl
structure WS (H H' : Hp) (m c l F W : Addr) (kb : Int) (fr : List T3) (nw : Nat) (es : List E2) : Prop where
  ex : ∃ (ts : List Addr) (l' : Addr) (k' : Int), H' F = some (.lst (ts.map V.ref)) ∧ At2 H' ts es ∧ H' W = some (.lst (((plc fr es).take nw).map V.int)) ∧ F ≠ l' ∧ F ≠ m ∧ F ≠ c ∧ W ≠ l' ∧ W ≠ m ∧ W ≠ c ∧ k' ≤ kb ∧ Dr H H' m c l l' k'
  hF : H F = none
  hW : H W = none
  fw : F ≠ W
theorem WS.push {H H1 : Hp} {m c l F W l1 tp : Addr} {k1 kb : Int} {fr : List T3} {nw : Nat} {es : List E2} {ts : List Addr} {e : E2} (hF1 : H1 F = some (.lst (ts.map V.ref))) (ha : At2 H1 ts es) (hW1 : H1 W = some (.lst (((plc fr es).take nw).map V.int)))
    (n1 : F ≠ l1) (n2 : F ≠ m) (n3 : F ≠ c) (n4 : W ≠ l1) (n5 : W ≠ m) (n6 : W ≠ c) (hk : k1 ≤ kb) (d : Dr H H1 m c l l1 k1) (ht : H1 tp = none) (hF : H F = none) (hW : H W = none) (fw : F ≠ W) :
    WS H (upd (upd (upd H1 tp (.tup [.int e.1, .int e.2])) F (.lst (ts.map V.ref ++ [.ref tp]))) W (.lst ((((plc fr es).take nw).map V.int).set e.1.toNat (.int (stt fr e.2).2.2)))) m c l F W kb fr nw (es ++ [e]) := by
  have u := same_upd (o := HO.tup [V.int e.1, V.int e.2]) ht
  have kF := keepT_upd (o := .lst (ts.map V.ref ++ [.ref tp])) (u _ _ hF1) (fun xs z => by cases z)
  have hW2 : upd (upd H1 tp (.tup [.int e.1, .int e.2])) F (.lst (ts.map V.ref ++ [.ref tp])) W = some (.lst (((plc fr es).take nw).map V.int)) := by
    rw [upd_ne fw.symm]
    exact u _ _ hW1
  have kW := keepT_upd (o := .lst ((((plc fr es).take nw).map V.int).set e.1.toNat (.int (stt fr e.2).2.2))) hW2 (fun xs z => by cases z)
  have kk := (Same.keepT u).trans (kF.trans kW)
  have D := d.same u
  refine ⟨⟨ts ++ [tp], l1, k1, by rw [List.map_append, upd_ne fw]; exact upd_same, (ha.same kk).snoc (kW _ _ (kF _ _ upd_same)), ?_, n1, n2, n3, n4, n5, n6, hk, ⟨(D.at_.upd n2 n3 n1).upd n5 n6 n4, D.hl, fun b o z h1 h2 => ?_⟩⟩, hF, hW, fw⟩
  · rw [upd_same, plc_snoc, List.take_set, List.map_set]
  · rw [upd_ne (ne_of_none z hW), upd_ne (ne_of_none z hF)]
    exact D.kp b o z h1 h2
/-- the standings of the writers -/
theorem plc_ok {fr : List T3} {last : Nat} (fm : Frm fr last) {es : List E2} (h : ∀ e ∈ es, Ent fr e) : ∀ g ∈ plc fr es, 0 ≤ g ∧ g ≤ last := by
  refine snoc_ind (p := fun es => (∀ e ∈ es, Ent fr e) → ∀ g ∈ plc fr es, 0 ≤ g ∧ g ≤ last) (fun _ g hg => ?_) (fun l e ih h g hg => ?_) es h
  · have z : g = 0 := by
      have := List.eq_of_mem_replicate (show g ∈ List.replicate 8 (0 : Int) from hg)
      exact this
    subst z
    omega
  · rw [plc_snoc] at hg
    rcases List.mem_or_eq_of_mem_set hg with z | z
    · exact ih (fun e he => h e (List.mem_append_left _ he)) g z
    · obtain ⟨_, _, n0, n1⟩ := h e (List.mem_append_right _ (List.mem_singleton.mpr rfl))
      have hm : stt fr e.2 ∈ fr := by
        obtain ⟨k, hk⟩ := Int.eq_ofNat_of_zero_le n0
        unfold stt stn
        rw [hk] at n1 ⊢
        have kl : k < fr.length := by omega
        rw [List.getD_eq_getElem?_getD, Int.toNat_natCast, List.getElem?_eq_getElem kl]
        exact List.getElem_mem kl
      rw [z]
      exact ⟨(fm.stp _ hm).2.2.2.1, (fm.lo _ hm).2⟩
section
variable {P : Program} {w : World} {K : PySem.W.Frag} {mg : Str → Option Value} {base : Heap}
structure Lw (K : PySem.W.Frag) (mg : Str → Option Value) where
  G : Lf K mg
  f1 : Addr
  f2 : Addr
  d1 : FuncData
  d2 : FuncData
  F : Fun K "_law_from" "_law_from" sFrom f1 d1
  W : Fun K "_law_weaving" "_law_weaving" sWeave f2 d2
  bF : Binds K d1 ["framing", "here"] []
  bW : Binds K d2 ["m", "framing", "writers", "total"] []
  gF : mg "_law_from" = some (.ref f1)
  gW : mg "_law_weaving" = some (.ref f2)
theorem scFrom : FnScope ["framing", "here", "number", "step"] ["framing", "here"] (defScope sFrom) := ⟨rfl, rfl, rfl, by decide +kernel, rfl, by decide +kernel, by decide +kernel⟩
theorem ok_from (G : Lw K mg) : FnOk P w K mg base CX0 1 G.f1 G.d1 ["framing", "here"] spFrom := by
  refine G.F.ok scFrom (fun vs H Q E h => ?_) (fun cdv A outer s H vs Q E hr h => ?_)
  · obtain ⟨f, fr, last, h, rfl, _⟩ := h
    rfl
  · obtain ⟨f, fr, last, h, rfl, fa, fm, q⟩ := h
    refine ⟨_, pss_one (ps_ret (pe_lc (own := [("number", 2), ("step", 3)]) (g := gTup K 2 (gCons (gName 2) (gCons (gName 3) gNil))) (tt := tTest (tOp rEq (tOp (rIxT K) (tVar 3) (tC (.int 0))) (tVar 1))) (te := tVar 2) rfl scFrom.nd (pi_enumT (by rfl) G.G.en (pa_cons (pv 0) pa_nil))
      (blkOk_by (N := ["framing", "here", "number", "step"]) (sc := defScope sFrom) (by decide +kernel))
      (fun _ _ _ _ _ => pg_tup rfl (pgs_cons (pg_name (i := 2) scFrom.nd rfl (Or.inl rfl)) (pgs_cons (pg_name (i := 3) scFrom.nd rfl (Or.inl rfl)) pgs_nil)))
      (fun _ _ _ _ _ => pts_one (pt_cmpR op_eq (pe_ix ix_tup (pv 3) pe_int (fun _ _ => rfl)) (pv 1) (nomark _))) (fun _ _ _ _ _ => pv 2))), ?_⟩
    obtain ⟨ts, hf, hl, ht⟩ := id fa
    have l1 := fm.l1
    refine ⟨_, rfl, f, _, rfl, SqT.of hf, fun D hD => ?_⟩
    refine lc_it (walk_enumT (xs := ts.map V.ref)) (fun i H' => ∃ ns : List Int, H' D = some (.lst (ns.map V.int)) ∧ ns.length ≤ i ∧ (∀ n ∈ ns, 0 ≤ n ∧ n < fr.length ∧ (stt fr n).1 = h) ∧ (∀ (j : Nat) x, j < i → fr[j]? = some x → x.1 = h → ns ≠ []) ∧ ∀ b o, H b = some o → H' b = some o)
      ⟨[], upd_same, Nat.le_refl _, (fun n h => by cases h), (fun j x hj => absurd hj (by omega)), fun b o z => same_upd hD b o z⟩ (fun i H' _ ⟨_, _, _, _, _, z⟩ => SqT.of (z _ _ hf)) ?_ ?_
    · rintro i x H1 H2 hi ⟨ns, hn, nl, nk, nz, kp⟩ ⟨T, xi, xo, rfl, nT, rfl, h1, h2⟩
      cases h1
      obtain ⟨t, y, hy, rfl, e4⟩ := at_step (i := i) hl ht h2
      have uT := same_upd (o := HO.tup [V.int (i : Nat), V.ref t]) nT
      have s3 : Same H _ := (show Same H H1 from kp).trans uT
      have il : i < fr.length := (List.getElem?_eq_some_iff.mp hy).1
      have es : stt fr (i : Int) = y := by
        unfold stt stn
        rw [List.getD_eq_getElem?_getD, Int.toNat_natCast, hy]
        rfl
      refine ⟨T, _, rfl, SqT.of upd_same, rfl, _, _, rfl, _, _, rfl, rfl, rfl, ?_⟩
      refine ⟨_, rfl, t, _, 0, _, rfl, rfl, SqT.of (s3 _ _ e4), atI_nat (j := 0) rfl, _, rfl, rfl, _, rfl, ?_⟩
      refine ite2 (fun z => ?_) (fun z => ?_)
      · have z1 : y.1 = h := V.int.inj (of_decide_eq_true z)
        refine ⟨_, rfl, _, uT _ _ hn, ?_, ns ++ [(i : Int)], ?_, ?_, fun n hn2 => ?_, fun j x _ _ _ => by simp, fun b o w => ?_⟩
        · rw [List.length_map, sizeLine_eq]
          omega
        · rw [List.map_append]
          exact upd_same
        · rw [List.length_append]
          simp only [List.length_cons, List.length_nil]
          omega
        · rcases List.mem_append.mp hn2 with h3 | h3
          · exact nk n h3
          · have e2 : n = (i : Int) := by simpa using h3
            subst e2
            rw [es]
            exact ⟨by omega, by omega, z1⟩
        · rw [upd_ne (ne_of_none w hD)]
          exact s3 _ _ w
      · have z1 : ¬ y.1 = h := fun e => z (decide_eq_true (congrArg V.int e))
        refine ⟨ns, uT _ _ hn, by omega, nk, fun j x hj hx he => ?_, fun b o w => s3 _ _ w⟩
        by_cases e : j = i
        · subst e
          rw [hy] at hx
          exact absurd he (by rw [← Option.some.inj hx]; exact z1)
        · exact nz j x (by omega) hx he
    · rintro H1 ⟨ns, hn, nl, nk, nz, kp⟩
      rw [List.length_map, hl] at nl nz
      refine q H1 D ns kp hD hn (by omega) nk (fun ⟨x, hx, he⟩ => ?_)
      obtain ⟨j, hj, e⟩ := List.getElem_of_mem hx
      exact nz j x hj (by rw [List.getElem?_eq_getElem hj, e]) he
theorem scWeave : FnScope ["m", "framing", "writers", "total", "found", "now", "writer", "k", "some", "number"] ["m", "framing", "writers", "total"] (defScope sWeave) := ⟨rfl, rfl, rfl, by decide +kernel, rfl, by decide +kernel, by decide +kernel⟩
theorem ok_weave (G : Lw K mg) : FnOk P w K mg base CX0 2 G.f2 G.d2 ["m", "framing", "writers", "total"] spWeave := by
  have GX : FnOk P w K mg base CX0 1 G.G.L.f1 G.G.L.d1 ["m", "total"] spNext := ok_next G.G.L.N G.G.L.T
  have GF : FnOk P w K mg base CX0 1 G.f1 G.d1 ["framing", "here"] spFrom := ok_from G
  refine G.W.ok scWeave (fun vs H Q E h => ?_) (fun cdv A outer s H vs Q E hr h => ?_)
  · obtain ⟨m, c, l, f, k, fr, last, nw, tot, rfl, _⟩ := h
    rfl
  · obtain ⟨m, c, l, f, k, fr, last, nw, tot, rfl, M, hk, fa, fm, w1, w8, t60, q⟩ := h
    refine ⟨_, pss_cons (ps_par (i := 4) (j := 5) (x := "found") (y := "now") rfl scWeave.nd rfl rfl (by decide) rfl rfl (pa_cons (pe_lst pa_nil) (pa_cons (pe_op op_rep (pe_lst (pa_cons pe_int pa_nil)) (pv 2)) pa_nil)) (by rfl))
      (pss_cons (ps_set (i := 6) scWeave.nd rfl (Or.inl rfl) (pe_call GX hr (by rfl) G.G.L.mN G.G.L.N.kp G.G.L.bN .nil pass0 (pa_cons (pv 0) (pa_cons (pv 2) pa_nil))))
      (pss_cons (ps_for PassesOwn.never rfl (pi_range1 (by rfl) G.G.L.ra (pa_cons (pv 3) pa_nil)) (pg_name (i := 7) scWeave.nd rfl (Or.inl rfl))
        (pss_cons (ps_if (pt_cmpR op_gt (pe_call GX hr (by rfl) G.G.L.mN G.G.L.N.kp G.G.L.bN .nil pass0 (pa_cons (pv 0) (pa_cons pe_int pa_nil))) pe_int (nomark _))
          (pss_one (ps_set (i := 6) scWeave.nd rfl (Or.inl rfl) (pe_call GX hr (by rfl) G.G.L.mN G.G.L.N.kp G.G.L.bN .nil pass0 (pa_cons (pv 0) (pa_cons (pv 2) pa_nil))))) pss_nil)
        (pss_cons (ps_set (i := 8) scWeave.nd rfl (Or.inl rfl) (pe_call GF hr (by rfl) G.gF G.F.kp G.bF .nil pass0 (pa_cons (pv 1) (pa_cons (pe_ix ix_list (pv 5) (pv 6) (fun _ _ => rfl)) pa_nil))))
        (pss_cons (ps_set (i := 9) scWeave.nd rfl (Or.inl rfl) (pe_ix ix_list (pv 8) (pe_call GX hr (by rfl) G.G.L.mN G.G.L.N.kp G.G.L.bN .nil pass0 (pa_cons (pv 0) (pa_cons (pe_callB call_len_seq (by rfl) G.G.L.T.len PySem.boot_len (pa_cons (pv 8) pa_nil)) pa_nil))) (fun _ _ => rfl)))
        (pss_cons (ps_expr (pe_bm PySem.F.plainAttrs_list PySem.F.slot_list_append PySem.F.type_list_append mt_append (pv 4) (pa_cons (pe_tup (pa_cons (pv 6) (pa_cons (pv 9) pa_nil))) pa_nil)))
        (pss_one (ps_asg (pe_ix ix_tup (pe_ix ix_tup (pv 1) (pv 9) (fun _ _ => rfl)) pe_int (fun _ _ => rfl)) (pg_sub (pv 5) (pv 6) set_list))))))))
      (pss_one (ps_ret (pe_callTy call_tuple_of (by rfl) G.G.tu (by decide +kernel) (pa_cons (pv 4) pa_nil)))))), ?_⟩
    refine ⟨by decide, fun F hF => ⟨(by show 1 ≤ sizeLine; decide), fun z hz => ?_⟩⟩
    refine ⟨_, rfl, z, nw, _, rfl, rfl, upd_same, by omega, by omega, (by rw [sizeLine_eq]; simp; omega), fun W hW => ⟨_, _, rfl, ?_⟩⟩
    have u1 := same_upd (o := HO.lst []) hF
    have u2 := same_upd (o := HO.lst [V.int 0]) hz
    have u3 := same_upd (o := HO.lst (List.replicate (nw : Int).toNat [V.int 0]).flatten) hW
    have sA : Same H _ := u1.trans (u2.trans u3)
    have MA := M.same sA
    have hFA := (u2.trans u3) _ _ (upd_same (H := H) (a := F) (o := HO.lst []))
    have hWA : upd (upd (upd H F (.lst [])) z (.lst [V.int 0])) W (.lst (List.replicate (nw : Int).toNat [V.int 0]).flatten) W = some (.lst (((plc fr []).take nw).map V.int)) := by
      rw [upd_same, rep_flat, Int.toNat_natCast]
      show _ = some (HO.lst (((List.replicate 8 (0 : Int)).take nw).map V.int))
      rw [List.take_replicate, Nat.min_eq_left w8]
    have hW0 : H W = none := (u1.trans u2).free hW
    have fw : F ≠ W := ne_of_none ((u2) _ _ (upd_same (H := H) (a := F) (o := HO.lst []))) hW
    have nFm : F ≠ m := (ne_of_none M.hm hF).symm
    have nWm : W ≠ m := (ne_of_none M.hm hW0).symm
    have nFc := M.c_some hF
    have nWc := M.c_some hW0
    refine ⟨_, rfl, _, rfl, m, c, l, k, nw, rfl, MA, by omega, by omega, by omega, fun r H1 l1 k1 a1 b1 g1 N1 f1 q1 => ?_⟩
    have d1 : Dr _ H1 m c l l1 k1 := ⟨N1, f1, q1⟩
    obtain ⟨hF1, nF1⟩ := d1.lst MA hFA (M.l_some hF)
    obtain ⟨hW1, nW1⟩ := d1.lst MA hWA (M.l_some hW0)
    have DA : Dr H H1 m c l l1 k1 := ((Dr.refl M).same sA).trans d1
    have ws0 : WS H H1 m c l F W (k + 1) fr nw [] := ⟨⟨[], l1, k1, hF1, ⟨rfl, fun i t x h => by cases h⟩, hW1, nF1, nFm, nFc, nW1, nWm, nWc, by omega, DA⟩, hF, hW0, fw⟩
    refine ⟨_, rfl, tot, rfl, by omega, by omega, for_it walk_range (fun i σ H' => ∃ (wr : Int) (v7 v8 v9 : Option V) (es : List E2), σ = [some (.ref m), some (.ref f), some (.int (nw : Int)), some (.int (tot : Int)), some (.ref F), some (.ref W), some (.int wr), v7, v8, v9] ∧
      0 ≤ wr ∧ wr < nw ∧ WS H H' m c l F W (k + 1 + 3 * i) fr nw es ∧ es.length = i ∧ (∀ e ∈ es, e.1 < nw) ∧ Wv fr es)
      ⟨r, none, none, none, [], rfl, a1, b1, by simpa using ws0, rfl, (fun e h => by cases h), ⟨Nat.zero_le _, fun e h => (by cases h), fun i e h => (by cases h)⟩⟩ (fun _ _ _ _ _ => trivial) ?_ ?_⟩
    · rintro i x σ H2 H2' hi ⟨wr, v7, v8, v9, es, rfl, wr0, wr1, ws, le, lw, wo⟩ ⟨rfl, rfl⟩
      have hi60 : i < 60 := by
        rw [Int.toNat_natCast] at hi
        omega
      obtain ⟨ts, l2, k2, hF2, ha2, hW2, nF2, _, _, nW2, _, _, kk2, D2⟩ := ws.ex
      refine ⟨_, rfl, m, c, l2, k2, 3, rfl, D2.at_, by decide, by decide, by omega, fun rb Hb lb kb ab bb gb Nb fb qb => ?_⟩
      have db : Dr _ Hb m c l2 lb kb := ⟨Nb, fb, qb⟩
      obtain ⟨hFb, nFb⟩ := db.lst D2.at_ hF2 nF2
      obtain ⟨hWb, nWb⟩ := db.lst D2.at_ hW2 nW2
      have hab := ha2.same (db.keepT D2.at_)
      have Db := D2.trans db
      refine ⟨rb, 0, rfl, rfl, _, rfl, ?_⟩
      refine ite2 (fun _ => ?_) (fun _ => ?_)
      · refine ⟨_, rfl, _, rfl, m, c, lb, kb, nw, rfl, Nb, by omega, by omega, by omega, fun wq H3 l3 k3 wr0 wr1 g3 N3 f3 q3 => ?_⟩
        have d3 : Dr _ H3 m c lb l3 k3 := ⟨N3, f3, q3⟩
        obtain ⟨hF3, nF3⟩ := d3.lst Nb hFb nFb
        obtain ⟨hW3, nW3⟩ := d3.lst Nb hWb nWb
        have ha3 := hab.same (d3.keepT Nb)
        have D3 := Db.trans d3
        have wn0 : (wq).toNat < (plc fr es).length := by rw [plc_len]; omega
        obtain ⟨g, hg⟩ : ∃ g, (plc fr es)[(wq).toNat]? = some g := ⟨_, List.getElem?_eq_getElem wn0⟩
        obtain ⟨g0, g1⟩ := plc_ok fm wo.ent g (List.mem_of_getElem? hg)
        have hgi : atI (((plc fr es).take nw).map V.int) (wq) = some (.int g) := by
          obtain ⟨j, hj⟩ := Int.eq_ofNat_of_zero_le wr0
          rw [hj] at hg ⊢
          refine atI_nat ?_
          rw [List.getElem?_map, List.getElem?_take, if_pos (by omega)]
          have hg' : (plc fr es)[j]? = some g := hg
          rw [hg']
          rfl
        refine ⟨_, rfl, _, rfl, _, rfl, W, _, wq, .int g, rfl, rfl, SqL.of hW3, hgi, f, fr, last, g, rfl, D3.fr M fa, fm, fun H4 p ns s4 np ep nl nk nz => ?_⟩
        obtain ⟨gn, rfl⟩ := Int.eq_ofNat_of_zero_le g0
        obtain ⟨x0, hx0, ex0, _⟩ := fm.ring gn (by omega)
        have nne := List.length_pos_iff.mpr (nz ⟨x0, hx0, ex0⟩)
        have M4 := D3.at_.same s4
        refine ⟨_, rfl, _, rfl, _, rfl, p, _, rfl, .inl (SqL.of ep), m, c, l3, k3, _, rfl, M4, by rw [List.length_map]; omega, by rw [List.length_map]; omega, by omega, fun r5 H5 l5 k5 a5 b5 g5 N5 f5 q5 => ?_⟩
        have d5 : Dr H4 H5 m c l3 l5 k5 := ⟨N5, f5, q5⟩
        rw [List.length_map] at b5
        obtain ⟨ep5, _⟩ := d5.lst M4 ep (D3.at_.l_some np)
        obtain ⟨j, rfl⟩ := Int.eq_ofNat_of_zero_le a5
        have jl : j < ns.length := by omega
        obtain ⟨m0, m1, m2⟩ := nk ns[j] (List.getElem_mem jl)
        have D5 := (D3.same s4).trans d5
        obtain ⟨hF5, nF5⟩ := d5.lst M4 (s4 _ _ hF3) nF3
        obtain ⟨hW5, nW5⟩ := d5.lst M4 (s4 _ _ hW3) nW3
        have ha5 := (ha3.same (Same.keepT s4)).same (d5.keepT M4)
        refine ⟨p, _, (j : Int), .int ns[j], rfl, rfl, SqL.of ep5, atI_nat (by rw [List.getElem?_map, List.getElem?_eq_getElem jl]; rfl), ?_⟩
        refine ⟨_, rfl, .inl ⟨rfl, _, SqL.of hF5⟩, _, rfl, _, rfl, (by show 2 ≤ sizeLine; decide), fun tp htp => ?_⟩
        have u6 := same_upd (o := HO.tup [V.int (wq), V.int ns[j]]) htp
        refine ⟨F, ts.map V.ref, _, rfl, rfl, u6 _ _ hF5, by rw [List.length_map, ha3.1, sizeLine_eq]; omega, ?_⟩
        have k6 := keepT_upd (o := .lst (ts.map V.ref ++ [.ref tp])) (u6 _ _ hF5) (fun xs z => by cases z)
        obtain ⟨tf, t2, hf, hat, h3, _⟩ := stt_at (D5.fr M fa) m0 m1
        have kk := (Same.keepT u6).trans k6
        refine ⟨_, rfl, _, rfl, f, _, ns[j], .ref t2, rfl, rfl, SqT.of (kk _ _ hf), hat, t2, _, 2, _, rfl, rfl, SqT.of (kk _ _ h3), atI_nat (j := 2) rfl, _, rfl, _, rfl, W, _, wq, (wq).toNat, rfl, rfl, by rw [upd_ne ws.fw.symm]; exact u6 _ _ hW5, ?_, ?_⟩
        · rw [List.length_map, List.length_take, plc_len]
          unfold ixN
          rw [if_pos wr0, if_pos (by omega)]
        · have ent : Ent fr (wq, ns[j]) := ⟨wr0, by show (wq : Int) < 8; omega, m0, m1⟩
          have ws' := WS.push (e := (wq, ns[j])) hF5 ha5 hW5 nF5 nFm nFc nW5 nWm nWc (kb := k + 1 + 3 * ((i + 1 : Nat) : Int)) (by omega) D5 htp ws.hF ws.hW ws.fw
          refine ⟨_, _, _, _, es ++ [(wq, ns[j])], rfl, wr0, wr1, ws', by rw [List.length_append, le]; rfl, (fun e he => (List.mem_append.mp he).elim (lw e) (fun h => by cases List.mem_singleton.mp h; exact wr1)), wv_snoc wo (by omega) ent ?_⟩
          show (plc fr es)[(wq).toNat]? = some (stt fr ns[j]).1
          rw [hg, m2]
        
      · have hF3 := hFb
        have hW3 := hWb
        have nF3 := nFb
        have nW3 := nWb
        have ha3 := hab
        have D3 := Db
        generalize lb = l3 at *
        generalize kb = k3 at *
        have wn0 : (wr).toNat < (plc fr es).length := by rw [plc_len]; omega
        obtain ⟨g, hg⟩ : ∃ g, (plc fr es)[(wr).toNat]? = some g := ⟨_, List.getElem?_eq_getElem wn0⟩
        obtain ⟨g0, g1⟩ := plc_ok fm wo.ent g (List.mem_of_getElem? hg)
        have hgi : atI (((plc fr es).take nw).map V.int) (wr) = some (.int g) := by
          obtain ⟨j, hj⟩ := Int.eq_ofNat_of_zero_le wr0
          rw [hj] at hg ⊢
          refine atI_nat ?_
          rw [List.getElem?_map, List.getElem?_take, if_pos (by omega)]
          have hg' : (plc fr es)[j]? = some g := hg
          rw [hg']
          rfl
        refine ⟨_, rfl, _, rfl, _, rfl, W, _, wr, .int g, rfl, rfl, SqL.of hW3, hgi, f, fr, last, g, rfl, D3.fr M fa, fm, fun H4 p ns s4 np ep nl nk nz => ?_⟩
        obtain ⟨gn, rfl⟩ := Int.eq_ofNat_of_zero_le g0
        obtain ⟨x0, hx0, ex0, _⟩ := fm.ring gn (by omega)
        have nne := List.length_pos_iff.mpr (nz ⟨x0, hx0, ex0⟩)
        have M4 := D3.at_.same s4
        refine ⟨_, rfl, _, rfl, _, rfl, p, _, rfl, .inl (SqL.of ep), m, c, l3, k3, _, rfl, M4, by rw [List.length_map]; omega, by rw [List.length_map]; omega, by omega, fun r5 H5 l5 k5 a5 b5 g5 N5 f5 q5 => ?_⟩
        have d5 : Dr H4 H5 m c l3 l5 k5 := ⟨N5, f5, q5⟩
        rw [List.length_map] at b5
        obtain ⟨ep5, _⟩ := d5.lst M4 ep (D3.at_.l_some np)
        obtain ⟨j, rfl⟩ := Int.eq_ofNat_of_zero_le a5
        have jl : j < ns.length := by omega
        obtain ⟨m0, m1, m2⟩ := nk ns[j] (List.getElem_mem jl)
        have D5 := (D3.same s4).trans d5
        obtain ⟨hF5, nF5⟩ := d5.lst M4 (s4 _ _ hF3) nF3
        obtain ⟨hW5, nW5⟩ := d5.lst M4 (s4 _ _ hW3) nW3
        have ha5 := (ha3.same (Same.keepT s4)).same (d5.keepT M4)
        refine ⟨p, _, (j : Int), .int ns[j], rfl, rfl, SqL.of ep5, atI_nat (by rw [List.getElem?_map, List.getElem?_eq_getElem jl]; rfl), ?_⟩
        refine ⟨_, rfl, .inl ⟨rfl, _, SqL.of hF5⟩, _, rfl, _, rfl, (by show 2 ≤ sizeLine; decide), fun tp htp => ?_⟩
        have u6 := same_upd (o := HO.tup [V.int (wr), V.int ns[j]]) htp
        refine ⟨F, ts.map V.ref, _, rfl, rfl, u6 _ _ hF5, by rw [List.length_map, ha3.1, sizeLine_eq]; omega, ?_⟩
        have k6 := keepT_upd (o := .lst (ts.map V.ref ++ [.ref tp])) (u6 _ _ hF5) (fun xs z => by cases z)
        obtain ⟨tf, t2, hf, hat, h3, _⟩ := stt_at (D5.fr M fa) m0 m1
        have kk := (Same.keepT u6).trans k6
        refine ⟨_, rfl, _, rfl, f, _, ns[j], .ref t2, rfl, rfl, SqT.of (kk _ _ hf), hat, t2, _, 2, _, rfl, rfl, SqT.of (kk _ _ h3), atI_nat (j := 2) rfl, _, rfl, _, rfl, W, _, wr, (wr).toNat, rfl, rfl, by rw [upd_ne ws.fw.symm]; exact u6 _ _ hW5, ?_, ?_⟩
        · rw [List.length_map, List.length_take, plc_len]
          unfold ixN
          rw [if_pos wr0, if_pos (by omega)]
        · have ent : Ent fr (wr, ns[j]) := ⟨wr0, by show (wr : Int) < 8; omega, m0, m1⟩
          have ws' := WS.push (e := (wr, ns[j])) hF5 ha5 hW5 nF5 nFm nFc nW5 nWm nWc (kb := k + 1 + 3 * ((i + 1 : Nat) : Int)) (by omega) D5 htp ws.hF ws.hW ws.fw
          refine ⟨_, _, _, _, es ++ [(wr, ns[j])], rfl, wr0, wr1, ws', by rw [List.length_append, le]; rfl, (fun e he => (List.mem_append.mp he).elim (lw e) (fun h => by cases List.mem_singleton.mp h; exact wr1)), wv_snoc wo (by omega) ent ?_⟩
          show (plc fr es)[(wr).toNat]? = some (stt fr ns[j]).1
          rw [hg, m2]
        
    · rintro σ H2 ⟨wr, v7, v8, v9, es, rfl, wr0, wr1, ws, le, lw, wo⟩
      obtain ⟨ts, l2, k2, hF2, ha2, hW2, nF2, _, _, nW2, _, _, kk2, D2⟩ := ws.ex
      refine ⟨_, rfl, F, _, rfl, .inl ⟨SqL.of hF2, fun p hp => ?_⟩⟩
      have u := same_upd (o := HO.tup (ts.map V.ref)) hp
      rw [Int.toNat_natCast] at kk2
      exact q p es _ l2 k2 ⟨ts, upd_same, ha2.1, fun i t e h1 h2 => u _ _ (ha2.2 i t e h1 h2)⟩ wo lw (by rw [le]; simp) (by omega) (D2.same u)
end
end K35

set_option Elab.async false
set_option linter.all false
set_option maxRecDepth 100000
set_option maxHeartbeats 4000000
/-! repr of data, of any size. -/
namespace L2
namespace EV
open PySem PySem.Spec PyProof.Rows _root_.EV
/-- repr of data -/
def rShowV (K : PySem.W.Frag) : List V → Hp → VK → Prop := fun xs H Q => ∃ (v : V) (d : PyData), xs = [v] ∧ Dp K H v d ∧ d.showable = true ∧ d.hasDict = false ∧ d.shown.length ≤ sizeLine ∧ d.depth ≤ 5 ∧ Q (.str d.shown) H
theorem call_showV {X : Cx} (hgd : X.A.guards = some []) (hu : X.A.units + 64 < cLine) : CallR X (.builtin "repr") (rShowV X.K) := by
  intro pins s σ H xs us Q I r h
  obtain ⟨v, d, rfl, hd, sh, nd, sz, dp, q⟩ := h
  obtain ⟨u, rfl, ru⟩ := vals1 r
  obtain ⟨as, rd⟩ := Dp.reads I d v u hd ru
  have at_ : ∀ a : Addr, u = .ref a → wpAny (model X.prog X.w) X.A (call (.builtin "repr") [u]) (EP X pins σ Q) X.xe s := fun a e => by
    subst e
    exact repr_of_reads' rd sh (fun z => by rw [nd] at z; cases z) hgd (by omega) (fun _ _ e => e) (fun h' t tk hk => ⟨.str _, H, I.kept (t' := tk) hk, ⟨_, rfl⟩, q⟩) sz
  cases hd with
  | non =>
    obtain rfl : u = Value.none := ru
    simp only [PyData.shown] at q
    exact PySem.P.repr_of_none ⟨.str _, H, I.tok _, ⟨_, rfl⟩, q⟩
  | bl b =>
    obtain rfl : u = Value.bool b := ru
    simp only [PyData.shown] at q
    exact PySem.P.repr_of_bool ⟨.str _, H, I.tok _, ⟨_, rfl⟩, q⟩
  | int i =>
    obtain ⟨t, rfl⟩ := (show ∃ t, u = Value.int i t from ru)
    simp only [PyData.shown] at q
    simp only [PyData.showable, decide_eq_true_eq] at sh
    exact PySem.P.repr_of_int sh ⟨.str _, H, I.tok _, ⟨_, rfl⟩, q⟩
  | str x =>
    obtain ⟨t, rfl⟩ := (show ∃ t, u = Value.str x t from ru)
    simp only [PyData.shown] at q sz
    exact PySem.P.repr_of_str ⟨.str _, H, I.tok _, ⟨_, rfl⟩, q⟩ sz
  | @lst a xs ds h1 h2 => exact at_ a ru
  | @tup a xs ds h1 h2 => exact at_ a ru
end EV
end L2
namespace K35
open PySem L2 L2.EV
structure Okd (d : PyData) (n dp : Nat) : Prop where
  sh : d.showable = true
  nd : d.hasDict = false
  sz : d.shown.length ≤ n
  dp : d.depth ≤ dp
  lay : d.canLay0 = true
theorem Okd.le {d : PyData} {n m dp dq : Nat} (h : Okd d n dp) (a : n ≤ m) (b : dp ≤ dq) : Okd d m dq := ⟨h.sh, h.nd, Nat.le_trans h.sz a, Nat.le_trans h.dp b, h.lay⟩
theorem okd_int {i : Int} (h0 : 0 ≤ i) (h1 : i < 64) : Okd (.int i) 10 0 := by
  obtain ⟨k, rfl⟩ := Int.eq_ofNat_of_zero_le h0
  have hk : k < 64 := by omega
  have z : ∀ k : Fin 64, (PyData.int ((k.val : Nat) : Int)).showable = true ∧ (PyData.int ((k.val : Nat) : Int)).shown.length ≤ 10 := by decide +kernel
  obtain ⟨z1, z2⟩ := z ⟨k, hk⟩
  exact ⟨z1, by simp only [PyData.hasDict], z2, by simp only [PyData.depth]; omega, by simp only [PyData.canLay0]⟩
theorem okd_str {x : Str} {m : Nat} (hs : PyData.strOk x = true) (hl : x.length ≤ m) : Okd (.str x) (10 * m + 2) 0 := by
  refine ⟨by simp only [PyData.showable], by simp only [PyData.hasDict], ?_, by simp only [PyData.depth]; omega, by simp only [PyData.canLay0]; exact hs⟩
  simp only [PyData.shown]
  have z := PySem.StrLaws.reprText_len x (fun c hc => by
    unfold PyData.strOk at hs
    rw [← Array.all_toList, List.all_eq_true] at hs
    have := of_decide_eq_true (hs c hc)
    exact Nat.lt_trans this (by decide))
  omega
theorem okd_all {n dp : Nat} : ∀ {ds : List PyData}, (∀ d ∈ ds, Okd d n dp) → PyData.showableAll ds = true ∧ PyData.hasDictAll ds = false ∧ ((PyData.shownAll ds).map (·.length)).sum ≤ n * ds.length ∧ (PyData.shownAll ds).length = ds.length ∧ PyData.depthAll ds ≤ dp ∧ PyData.canLayAll0 ds = true
  | [], _ => ⟨by simp [PyData.showableAll], by simp [PyData.hasDictAll], by simp [PyData.shownAll], by simp [PyData.shownAll], by simp [PyData.depthAll], by simp [PyData.canLayAll0]⟩
  | d :: ds, h => by
    have h1 := h d (List.mem_cons_self ..)
    obtain ⟨a, b, c, e, f, g⟩ := okd_all (ds := ds) fun d hd => h d (List.mem_cons_of_mem _ hd)
    have h2 := h1.sz
    have h3 := h1.dp
    refine ⟨by simp only [PyData.showableAll, h1.sh, a, Bool.and_self], by simp only [PyData.hasDictAll, h1.nd, b, Bool.or_self], ?_, by simp only [PyData.shownAll, List.length_cons, e], by simp only [PyData.depthAll]; omega, by simp only [PyData.canLayAll0, h1.lay, g, Bool.and_self]⟩
    simp only [PyData.shownAll, List.map_cons, List.sum_cons, List.length_cons, Nat.mul_add, Nat.mul_one]
    omega
theorem okd_list {n dp m : Nat} {ds : List PyData} (h : ∀ d ∈ ds, Okd d n dp) (hl : ds.length ≤ m) : Okd (.list ds) (m * (n + 2) + 3) (dp + 1) := by
  obtain ⟨a, b, c, e, f, g⟩ := okd_all h
  refine ⟨by simp only [PyData.showable, a], by simp only [PyData.hasDict, b], ?_, by simp only [PyData.depth]; omega, by simp only [PyData.canLay0, g]⟩
  simp only [PyData.shown]
  have z := listText_len_le (PyData.shownAll ds)
  rw [e] at z
  have y : n * ds.length ≤ n * m := Nat.mul_le_mul_left _ hl
  rw [Nat.mul_add, Nat.mul_comm m n]
  omega
theorem okd_tuple {n dp m : Nat} {ds : List PyData} (h : ∀ d ∈ ds, Okd d n dp) (hl : ds.length ≤ m) : Okd (.tuple ds) (m * (n + 2) + 3) (dp + 1) := by
  obtain ⟨a, b, c, e, f, g⟩ := okd_all h
  refine ⟨by simp only [PyData.showable, a], by simp only [PyData.hasDict, b], ?_, by simp only [PyData.depth]; omega, by simp only [PyData.canLay0, g]⟩
  simp only [PyData.shown]
  have z := tupleText_len_le (PyData.shownAll ds)
  rw [e] at z
  have y : n * ds.length ≤ n * m := Nat.mul_le_mul_left _ hl
  rw [Nat.mul_add, Nat.mul_comm m n]
  omega
end K35

set_option Elab.async false
set_option linter.all false
set_option maxRecDepth 100000
set_option maxHeartbeats 4000000
/-! e[n].replace(y, m[i]) with a written y. -/
namespace L2
open PySem PySem.Spec PyProof.Rows
def tReplM (r : R2) (ta : TE) (n : Int) (y : Str) (tM ti : TE) : TE := fun σ H Q => tOp r ta (tC (.int n)) σ H fun v H1 => ∃ x, v = .str x ∧ tM σ H1 fun m H2 => ti σ H2 fun iv H3 =>
  ∃ (z : Str) (c : Nat) (i : Int), m = .str z ∧ iv = .int i ∧ z.length ≤ sizeLine ∧ atI z.cps.toList i = some c ∧ (y == ⟨#[c]⟩) = false ∧ x.length + (x.length + 1) * 1 ≤ 16777216 ∧ Q (.str (Txt.replace x y ⟨#[c]⟩)) H3
section
variable {X : Cx} {a m i : Expr} {ta tM ti : TE} {y : Str} {n : Int} {j k : Nat} {c0 p1 p2 p3 apos pos : Pos} {r : R2}
theorem pe_replM (hr : IxR X r) (ha : PE X a ta) (hM : PE X m tM) (hi : PE X i ti) (hs : PlainIx (.Constant (.int n) j p1)) (hs3 : PlainIx i)
    (hst : starEach [.Constant (.str y) k c0, .Subscript m i p3] X.env = [(false, eval (.Constant (.str y) k c0) X.env), (false, eval (.Subscript m i p3) X.env)] := by rfl)
    (hbase : attributeBase (.Subscript a (.Constant (.int n) j p1) p2) "replace" X.env (eval (.Subscript a (.Constant (.int n) j p1) p2) X.env) = eval (.Subscript a (.Constant (.int n) j p1) p2) X.env := by rfl)
    (hline : (apos.endLine == pos.line) = true := by rfl) :
    PE X (.Call (.Attribute (.Subscript a (.Constant (.int n) j p1) p2) "replace" apos) [.Constant (.str y) k c0, .Subscript m i p3] [] pos) (tReplM r ta n y tM ti) := by
  refine ⟨fun pins s σ H Q I h => ?_⟩
  refine PySem.Call_method2 hbase hst hline (Subscript_ (thn (ha.run pins s σ H _ I h) fun v s1 ⟨x, H1, I1, rx, q1⟩ => ?_))
  refine wpAny_Constant_int ?_
  refine wpAny_mono (PySem.wpAny_toks (hr a (.Constant (.int n) j p1) pins _ σ H1 x (.int n) v (.int n s1.toks) _ (I1.tok _) rx ⟨_, rfl⟩ q1 (hs _ _))) (fun v2 s2 q => ?_) fun _ _ z => z.2
  obtain ⟨hk, x2, H2, I2, r2, xs, rfl, q⟩ := q
  obtain ⟨tx, rfl⟩ := r2
  have hk2 : s1.toks + 1 ≤ s2.toks := hk
  refine ⟨"str", _, PySem.F.plainAttrs_str, PySem.F.slot_str_replace, PySem.F.type_str_replace, typeIs_str _ _ _, (fun _ e => nomatch e), Calls.callWith_builtin rfl (Calls.evalArgs_plain (Calls.spliced_cons ?_))⟩
  refine Calls.Constant_str (Calls.spliced_cons (Subscript_ ?_))
  refine wpAny_mono (PySem.wpAny_toks (hM.run pins _ σ H2 _ (I2.tok (s2.toks + 1)) q)) (fun v3 s3 q => ?_) fun _ _ z => z.2
  obtain ⟨hk3, x3, H3, I3, r3, q⟩ := q
  have hk3' : s2.toks + 1 ≤ s3.toks := hk3
  refine wpAny_mono (PySem.wpAny_toks (hi.run pins _ σ H3 _ I3 q)) (fun v4 s4 q => ?_) fun _ _ z => z.2
  obtain ⟨hk4, x4, H4, I4, r4, z, c, ix, rfl, rfl, hz, he, hyz, hb, q⟩ := q
  obtain ⟨t, rfl⟩ := r3
  obtain ⟨t', rfl⟩ := r4
  obtain ⟨j, h1, h2, h3, h4, h5⟩ := atI_get he
  have hl : z.cps.toList.length = z.length := by simp [Str.length]
  rw [hl] at h1 h4 h5
  have hn := line63
  refine tail_any (typeIs_str s4 z t) slot_str_getitem.lookup (getItem_str (c := c) (by
    have e1 : decide (ix < -(2 ^ 63 : Int)) = false := decide_eq_false (by omega)
    have e2 : decide (ix ≥ 2 ^ 63) = false := decide_eq_false (by omega)
    rw [e1, e2, Bool.or_false]) (by rw [h1]; simpa using h2) ?_) (hs3 _ _)
  refine Calls.spliced_nil ?_
  exact PySem.SC.replace (by show s2.toks ≠ 0; omega) (by show s4.toks ≠ 0; omega) (by show s2.toks ≠ s4.toks; omega) hyz hb fun t' k => ⟨.str (Txt.replace xs y ⟨#[c]⟩), H4, I4.tok k, ⟨t', rfl⟩, q⟩
end
end L2

set_option Elab.async false
set_option linter.all false
set_option maxRecDepth 100000
set_option maxHeartbeats 4000000
/-! The law's own text and lines. -/
namespace K35
open PySem L2 L2.EV
def putE (fr : List T3) (e : E2) : Str := Txt.replace (stt fr e.2).2.1 "@" ⟨#[mrk e.1]⟩
def textE (fr : List T3) (es : List E2) : Str := Txt.join "" (es.map (putE fr))
theorem putE_len {fr : List T3} {e : E2} (h : (stt fr e.2).2.1.length ≤ 8) : (putE fr e).length ≤ 17 := by
  have z := TK.replace_len (stt fr e.2).2.1 "@" ⟨#[mrk e.1]⟩
  have z1 : (⟨#[mrk e.1]⟩ : Str).length = 1 := rfl
  unfold putE
  rw [z1] at z
  omega
abbrev sPutL : Stmt := top 43
abbrev sTextL : Stmt := top 44
def spPutL : Sp := fun vs H Q _ => ∃ (f t : Addr) (fr : List T3) (last : Nat) (e : E2), vs = [.ref f, .ref t] ∧ FrA H f fr ∧ Frm fr last ∧ A2 H t e ∧ Ent fr e ∧ Q (.str (putE fr e)) H
def spPutT : Sp := fun vs H Q _ => ∃ (f w : Addr) (fr : List T3) (last : Nat) (es : List E2), vs = [.ref f, .ref w] ∧ FrA H f fr ∧ Frm fr last ∧ WvA H w es ∧ (∀ e ∈ es, Ent fr e) ∧ es.length ≤ 200 ∧ ∀ H', Same H H' → Q (.str (textE fr es)) H'
section
variable {P : Program} {w : World} {K : PySem.W.Frag} {mg : Str → Option Value} {base : Heap}
structure Lx (K : PySem.W.Frag) (mg : Str → Option Value) where
  f1 : Addr
  f2 : Addr
  d1 : FuncData
  d2 : FuncData
  P : Fun K "_law_put" "_law_put" sPutL f1 d1
  T : Fun K "_law_text" "_law_text" sTextL f2 d2
  bP : Binds K d1 ["framing", "entry"] []
  bT : Binds K d2 ["framing", "entries"] []
  gP : mg "_law_put" = some (.ref f1)
  gT : mg "_law_text" = some (.ref f2)
theorem scPutL : FnScope ["framing", "entry"] ["framing", "entry"] (defScope sPutL) := ⟨rfl, rfl, rfl, by decide +kernel, rfl, by decide +kernel, by decide +kernel⟩
theorem ok_putL (G : Lx K mg) : FnOk P w K mg base CX0 1 G.f1 G.d1 ["framing", "entry"] spPutL := by
  refine G.P.ok scPutL (fun vs H Q E h => ?_) (fun cdv A outer s H vs Q E hr h => ?_)
  · obtain ⟨f, t, fr, last, e, rfl, _⟩ := h
    rfl
  · obtain ⟨f, t, fr, last, e, rfl, fa, fm, ha, ⟨e0, e1, n0, n1⟩, q⟩ := h
    refine ⟨_, pss_one (ps_ret (pe_replM ix_tup (pe_ix ix_tup (pv 0) (pe_ix ix_tup (pv 1) pe_int (fun _ _ => rfl)) (fun _ _ => rfl)) pe_str (pe_ix ix_tup (pv 1) pe_int (fun _ _ => rfl)) (fun _ _ => rfl) (fun _ _ => rfl))), ?_⟩
    obtain ⟨ts, t2, hf, hat, h3, hm⟩ := stt_at fa n0 n1
    obtain ⟨m1, m2⟩ := mrk_at e0 e1
    have p8 := (pc_len (fm.stp _ hm).2.2.1).2
    exact ⟨_, rfl, _, rfl, t, _, 1, _, rfl, rfl, SqT.of ha, atI_nat (j := 1) rfl, f, _, e.2, .ref t2, rfl, rfl, SqT.of hf, hat, t2, _, 1, _, rfl, rfl, SqT.of h3, atI_nat (j := 1) rfl, _, rfl, _, rfl, t, _, 0, _, rfl, rfl, SqT.of ha, atI_nat (j := 0) rfl, _, mrk e.1, e.1, rfl, rfl, (by decide +kernel), m1, m2, by omega, q⟩
theorem scTextL : FnScope ["framing", "entries", "entry"] ["framing", "entries"] (defScope sTextL) := ⟨rfl, rfl, rfl, by decide +kernel, rfl, by decide +kernel, by decide +kernel⟩
theorem ok_textT (G : Lx K mg) : FnOk P w K mg base CX0 2 G.f2 G.d2 ["framing", "entries"] spPutT := by
  have GP : FnOk P w K mg base CX0 1 G.f1 G.d1 ["framing", "entry"] spPutL := ok_putL G
  refine G.T.ok scTextL (fun vs H Q E h => ?_) (fun cdv A outer s H vs Q E hr h => ?_)
  · obtain ⟨f, t, fr, l, e, rfl, _⟩ := h
    rfl
  · obtain ⟨f, wv, fr, last, es, rfl, fa, fm, wa, wo, l60, q⟩ := h
    refine ⟨_, pss_one (ps_ret (pe_m1 PySem.F.slot_str_join PySem.F.type_str_join mt_join pe_str (pe_lc (own := [("entry", 2)]) (g := gName 2) rfl scTextL.nd (pi_tup (pv 1))
      (blkOk_by (N := ["framing", "entries", "entry"]) (sc := defScope sTextL) (by decide +kernel))
      (fun _ _ _ _ _ => pg_name (i := 2) scTextL.nd rfl (Or.inl rfl)) (fun _ _ _ _ _ => pts_nil)
      (fun _ _ _ _ _ => pe_call GP hr (by rfl) G.gP G.P.kp G.bP .nil pass0 (pa_cons (pv 0) (pa_cons (pv 2) pa_nil)))))), ?_⟩
    obtain ⟨tw, hw, wl, wt⟩ := id wa
    have pl : ∀ e ∈ es, (stt fr e.2).2.1.length ≤ 8 := fun e he => by
      obtain ⟨_, _, n0, n1⟩ := wo e he
      obtain ⟨_, _, _, _, _, hm⟩ := stt_at fa n0 n1
      exact (pc_len (fm.stp _ hm).2.2.1).2
    refine ⟨⟨_, rfl⟩, _, rfl, wv, rfl, ⟨_, SqT.of hw⟩, fun D hD => ?_⟩
    refine lc_it (walk_tup (xs := tw.map V.ref)) (fun i H' => H' D = some (.lst (((es.take i).map (putE fr)).map V.str)) ∧ ∀ b o, H b = some o → H' b = some o) ⟨upd_same, fun b o z => same_upd hD b o z⟩ (fun i H' _ z => SqT.of (z.2 _ _ hw)) ?_ ?_
    · rintro i x H1 H2 hi ⟨hl, kp⟩ ⟨rfl, hx⟩
      obtain ⟨t, e, he, _, rfl, e4⟩ := at_ent (i := i) wl wt hx
      have hm := List.mem_of_getElem? he
      refine ⟨rfl, _, rfl, _, rfl, f, t, fr, last, e, rfl, fa.same kp, fm, kp _ _ e4, wo e hm, _, hl, ?_, ?_, fun b o z => ?_⟩
      · rw [List.length_map, List.length_map, List.length_take, sizeLine_eq]
        omega
      · rw [take_one he, List.map_append, List.map_append]
        exact upd_same
      · rw [upd_ne (ne_of_none z hD)]
        exact kp b o z
    · rintro H1 ⟨hl, kp⟩
      have e0 : es.take (tw.map V.ref).length = es := by
        rw [List.length_map, wl, List.take_length]
      rw [e0] at hl
      refine ⟨"", D, es.map (putE fr), rfl, rfl, .inl (SqL.of hl), ?_, q H1 kp⟩
      have z : ∀ l : List E2, (∀ e ∈ l, (stt fr e.2).2.1.length ≤ 8) → ((l.map (putE fr)).map (·.length)).sum ≤ 17 * l.length := by
        intro l
        induction l with
        | nil => exact fun _ => Nat.le_refl _
        | cons e l ih =>
          intro h
          have h1 := putE_len (h e (List.mem_cons_self ..))
          have h2 := ih fun e he => h e (List.mem_cons_of_mem _ he)
          simp only [List.map_cons, List.sum_cons, List.length_cons]
          omega
      have z1 := z es pl
      have z2 : ("" : Str).length = 0 := by decide +kernel
      rw [z2]
      omega
end
end K35

set_option Elab.async false
set_option linter.all false
/-! Ways through a text, place by place and line by line. -/
namespace TL
structure Env (S E : Type) where
  n : Nat
  fit : Nat → E → Prop
  len : E → Nat
  ok : S → E → Prop
  beh : S → E → S
  ends : E → Prop
  rst : S → S
  B : Nat → Prop
  s0 : S
  r0 : rst s0 = s0
  rr : ∀ s, rst (rst s) = rst s
  l1 : ∀ {p e}, fit p e → 1 ≤ len e
  ln : ∀ {p e}, fit p e → p + len e ≤ n
  nb : ∀ {p e i}, fit p e → p < i → i < p + len e → ¬ B i
  eb : ∀ {p e}, fit p e → (B (p + len e) ↔ ends e)
section
variable {S E : Type} (M : Env S E)
open Classical
noncomputable def nxt (s : S) (e : E) : S := if M.ends e then M.rst (M.beh s e) else M.beh s e
noncomputable def rsb (p : Nat) (s : S) : S := if M.B p then M.rst s else s
inductive PR : Nat → S → Prop
  | nil : PR 0 M.s0
  | snoc {p s e} : PR p s → M.fit p e → M.ok s e → PR (p + M.len e) (nxt M s e)
inductive PU (q b : Nat) (z : S) : Nat → S → Prop
  | nil : PU q b z b z
  | snoc {p s e} : PU q b z p s → M.fit p e → M.ok s e → p + M.len e ≤ q → PU q b z (p + M.len e) (M.beh s e)
inductive PG : Nat → S → Prop
  | fin {s} : PR M M.n s → PG M.n s
  | back {p s e} : PR M p s → M.fit p e → M.ok s e → PG (p + M.len e) (nxt M s e) → PG p s
variable {M}
theorem rsb_nxt {p : Nat} {s : S} {e : E} (f : M.fit p e) : rsb M (p + M.len e) (M.beh s e) = nxt M s e := by
  unfold rsb nxt
  by_cases c : M.ends e
  · rw [if_pos c, if_pos ((M.eb f).mpr c)]
  · rw [if_neg c, if_neg fun z => c ((M.eb f).mp z)]
theorem PR.le {p : Nat} {s : S} (h : PR M p s) : p ≤ M.n := by
  cases h with
  | nil => exact Nat.zero_le _
  | snoc _ f _ => exact M.ln f
theorem PU.ge {q b p : Nat} {z s : S} (h : PU M q b z p s) : b ≤ p := by
  induction h with
  | nil => exact Nat.le_refl _
  | snoc _ _ _ _ ih => omega
theorem PU.le {q b p : Nat} {z s : S} (h : PU M q b z p s) (bq : b ≤ q) : p ≤ q := by
  cases h with
  | nil => exact bq
  | snoc _ _ _ l => exact l
theorem PR.clean {p : Nat} {s : S} (h : PR M p s) (hb : p = 0 ∨ M.B p) : M.rst s = s := by
  cases h with
  | nil => exact M.r0
  | @snoc p s e h f o =>
    have l := M.l1 f
    have c := (M.eb f).mp (by rcases hb with z | z; · omega
                              · exact z)
    unfold nxt
    rw [if_pos c, M.rr]
/-- from lines to places -/
theorem PU.pr {q b p : Nat} {z s : S} (h : PU M q b z p s) (r : PR M b z) (nb : ∀ i, b < i → i < p → ¬ M.B i) : (p = b ∧ s = z) ∨ (b < p ∧ PR M p (rsb M p s)) := by
  induction h with
  | nil => exact .inl ⟨rfl, rfl⟩
  | @snoc p s e h f o l ih =>
    have l1 := M.l1 f
    have g := h.ge
    refine .inr ⟨by omega, ?_⟩
    rw [rsb_nxt f]
    rcases ih fun i h1 h2 => nb i h1 (by omega) with ⟨rfl, rfl⟩ | ⟨lt, ih⟩
    · exact .snoc r f o
    · have e : rsb M p s = s := if_neg (nb p lt (by omega))
      rw [e] at ih
      exact .snoc ih f o
/-- from places to lines -/
theorem PR.pu {q b p : Nat} {s : S} (h : PR M p s) (hb : b = 0 ∨ M.B b) (bp : b < p) (pq : p ≤ q) (nb : ∀ i, b < i → i < p → ¬ M.B i) :
    ∃ z t, PR M b z ∧ PU M q b z p t ∧ s = rsb M p t := by
  induction h with
  | nil => omega
  | @snoc p s e h f o ih =>
    have l1 := M.l1 f
    have pb : b ≤ p := by
      rcases hb with z | z
      · omega
      · by_cases c : p < b
        · exact absurd z (M.nb f c bp)
        · omega
    rcases Nat.eq_or_lt_of_le pb with c | c
    · subst c
      exact ⟨s, M.beh s e, h, .snoc .nil f o pq, (rsb_nxt f).symm⟩
    · obtain ⟨z, t, h1, h2, h3⟩ := ih c (by omega) fun i a1 a2 => nb i a1 (by omega)
      have e : rsb M p t = t := if_neg (nb p c (by omega))
      rw [e] at h3
      subst h3
      exact ⟨z, M.beh s _, h1, .snoc h2 f o pq, (rsb_nxt f).symm⟩
theorem PG.pr {p : Nat} {s : S} (h : PG M p s) : PR M p s := by
  cases h with
  | fin h => exact h
  | back h _ _ _ => exact h
theorem PG.fwd {q b p : Nat} {z s : S} (h : PG M p s) (u : PU M q b z p s) (pq : p < q) (qn : q ≤ M.n) (hq : M.B q ∨ q = M.n) (nb : ∀ i, b < i → i < q → ¬ M.B i) : ∃ t, PU M q b z q t ∧ PG M q (rsb M q t) := by
  induction h with
  | fin h =>
    omega
  | @back p s e r f o g ih =>
    have l1 := M.l1 f
    have ln := M.ln f
    have pl : p + M.len e ≤ q := by
      by_cases c : p + M.len e ≤ q
      · exact c
      · rcases hq with z | z
        · exact absurd z (M.nb f pq (by omega))
        · omega
    have ge := u.ge
    rcases Nat.eq_or_lt_of_le pl with c | c
    · refine ⟨M.beh s e, ?_, ?_⟩
      · have := PU.snoc u f o pl
        rw [c] at this
        exact this
      · have := rsb_nxt (s := s) f
        rw [c] at this g
        rw [this]
        exact g
    · have e1 : nxt M s e = M.beh s e := if_neg fun z => nb _ (by omega) c ((M.eb f).mpr z)
      rw [e1] at ih
      exact ih (.snoc u f o pl) c
theorem PG.bwd {q b p : Nat} {z s : S} (u : PU M q b z p s) (r : PR M b z) (bp : b < p) (nb : ∀ i, b < i → i < p → ¬ M.B i) (g : PG M p (rsb M p s)) : PG M b z := by
  induction u with
  | nil => omega
  | @snoc p s e u f o l ih =>
    have l1 := M.l1 f
    rw [rsb_nxt f] at g
    rcases u.pr r fun i h1 h2 => nb i h1 (by omega) with ⟨rfl, rfl⟩ | ⟨lt, h⟩
    · exact .back r f o g
    · have e1 : rsb M p s = s := if_neg (nb p lt (by omega))
      rw [e1] at h
      refine ih lt (fun i a1 a2 => nb i a1 (by omega)) ?_
      rw [e1]
      exact .back h f o g
/-- what is told of a line's end -/
def FlP (q : Nat) (f : S → Prop) : Prop := ∃ p s e, PR M p s ∧ M.fit p e ∧ M.ok s e ∧ p + M.len e = q ∧ M.ends e ∧ PG M q (nxt M s e) ∧ f (M.beh s e)
def FlU (b q : Nat) (f : S → Prop) : Prop := ∃ z t, PR M b z ∧ PU M q b z q t ∧ PG M q (M.rst t) ∧ f t
theorem fl_iff {b q : Nat} {f : S → Prop} (hb : b = 0 ∨ M.B b) (bq : b < q) (hq : M.B q) (nb : ∀ i, b < i → i < q → ¬ M.B i) : FlP (M := M) q f ↔ FlU (M := M) b q f := by
  constructor
  · rintro ⟨p, s, e, r, fi, o, rfl, en, g, hf⟩
    have l1 := M.l1 fi
    have pb : b ≤ p := by
      rcases hb with z | z
      · omega
      · by_cases c : p < b
        · exact absurd z (M.nb fi c bq)
        · omega
    have e1 : nxt M s e = M.rst (M.beh s e) := if_pos en
    rw [e1] at g
    rcases Nat.eq_or_lt_of_le pb with c | c
    · subst c
      exact ⟨s, M.beh s e, r, .snoc .nil fi o (Nat.le_refl _), g, hf⟩
    · obtain ⟨z, t, h1, h2, h3⟩ := r.pu (q := p + M.len e) hb c (by omega) fun i a1 a2 => nb i a1 (by omega)
      have e : rsb M p t = t := if_neg (nb p c (by omega))
      rw [e] at h3
      subst h3
      exact ⟨z, M.beh s _, h1, .snoc h2 fi o (Nat.le_refl _), g, hf⟩
  · rintro ⟨z, t, r, u, g, hf⟩
    generalize hqq : q = q' at u g
    have u2 : PU M q b z q' t := by rw [hqq]; exact u
    clear u
    cases u2 with
    | nil => omega
    | @snoc p s e u fi o l =>
      have l1 := M.l1 fi
      have en : M.ends e := (M.eb fi).mp (by rw [← hqq]; exact hq)
      have e1 : nxt M s e = M.rst (M.beh s e) := if_pos en
      subst hqq
      refine ⟨p, s, e, ?_, fi, o, rfl, en, by rw [e1]; exact g, hf⟩
      rcases u.pr r fun i h1 h2 => nb i h1 (by omega) with ⟨rfl, rfl⟩ | ⟨lt, h⟩
      · exact r
      · have e2 : rsb M p s = s := if_neg (nb p lt (by omega))
        rw [e2] at h
        exact h
theorem thru {p i : Nat} {s : S} (h : PR M p s) (g : PG M p s) (hi : M.B i) (i1 : 1 ≤ i) (ip : i ≤ p) : FlP (M := M) i (fun _ => True) := by
  induction h with
  | nil => omega
  | @snoc p s e r f o ih =>
    by_cases c : i = p + M.len e
    · subst c
      exact ⟨p, s, e, r, f, o, rfl, (M.eb f).mp hi, g, trivial⟩
    · by_cases c2 : p < i
      · exact absurd hi (M.nb f c2 (by omega))
      · exact ih (.back r f o g) (by omega)
end
end TL

set_option Elab.async false
set_option linter.all false
set_option maxRecDepth 100000
set_option maxHeartbeats 4000000
/-! What the traces hold: all that can be come to. -/
namespace K35
open PySem L2 L2.EV
/-! ### what fits, by signs -/
def mrkF (n : Int) (c : Nat) : Nat := if c = 64 then mrk n else c
theorem cutS_sl {x : Str} {i k : Nat} : sl (cutS x (some (i : Int)) (some ((i : Int) + (k : Nat)))) = ((sl x).drop i).take k := by
  have e : ((i : Int) + (k : Nat)) = ((i + k : Nat) : Int) := by omega
  have l : x.cps.toList.length = x.length := by simp [Str.length]
  show ((x.cps.toList.drop _).take _).toArray.toList = ((x.cps.toList).drop i).take k
  rw [e, HT.sIx_nat, HT.sIx_nat]
  rw [List.toList_toArray]
  by_cases c : i ≤ x.length
  · have e1 : min i x.length = i := by omega
    rw [e1]
    by_cases c2 : i + k ≤ x.length
    · have e2 : min (i + k) x.length - i = k := by omega
      rw [e2]
    · have e2 : min (i + k) x.length - i = x.length - i := by omega
      rw [e2, List.take_of_length_le (by rw [List.length_drop, l]; exact Nat.le_refl _), List.take_of_length_le (by rw [List.length_drop, l]; omega)]
  · have e1 : min i x.length = x.length := by omega
    rw [e1, List.drop_of_length_le (by omega), List.drop_of_length_le (by omega)]
    simp
theorem str_ext {a b : Str} (h : sl a = sl b) : a = b := by
  obtain ⟨⟨a⟩⟩ := a
  obtain ⟨⟨b⟩⟩ := b
  have h : a = b := h
  rw [h]
theorem fitB_iff {x : Str} {i : Nat} {p : Str} {n : Int} : fitB x i p n = true ↔ ((sl x).drop i).take p.length = (sl p).map (mrkF n) := by
  unfold fitB
  rw [decide_eq_true_eq]
  rw [putP_length]
  constructor
  · intro h
    have h : cutS x (some (i : Int)) (some ((i : Int) + (p.length : Nat))) = putP p n := by injection h
    have h := congrArg sl h
    rw [cutS_sl, putP_sl] at h
    exact h
  · intro h
    have e : cutS x (some (i : Int)) (some ((i : Int) + (p.length : Nat))) = putP p n := str_ext (by rw [cutS_sl, putP_sl]; exact h)
    rw [e]
theorem fit_at {x : Str} {i j : Nat} {p : Str} {n : Int} (h : fitB x i p n = true) (hj : j < p.length) : (sl x)[i + j]? = ((sl p)[j]?).map (mrkF n) := by
  have e := fitB_iff.mp h
  have e2 : (((sl x).drop i).take p.length)[j]? = ((sl p).map (mrkF n))[j]? := by rw [e]
  rw [List.getElem?_take_of_lt hj, List.getElem?_drop, List.getElem?_map] at e2
  exact e2
theorem mrk_59 {n : Int} (h0 : 0 ≤ n) (h1 : n < 8) : mrk n ≠ 59 := by
  obtain ⟨k, rfl⟩ := Int.eq_ofNat_of_zero_le h0
  have hk : k < 8 := by omega
  have z : ∀ k : Nat, k < 8 → mrk (k : Int) ≠ 59 := by decide +kernel
  exact z k hk
theorem mrkF_59 {n : Int} {c : Nat} (h0 : 0 ≤ n) (h1 : n < 8) (hc : c ≠ 59) : mrkF n c ≠ 59 := by
  unfold mrkF
  split
  · exact mrk_59 h0 h1
  · exact hc
/-- just behind a line's end -/
def Bd (x : Str) (p : Nat) : Prop := 1 ≤ p ∧ (sl x)[p - 1]? = some 59
instance (x : Str) (p : Nat) : Decidable (Bd x p) := by unfold Bd; infer_instance
theorem pc_in {p : Str} {l : Bool} (h : Pc p l) {j : Nat} (hj : j + 1 < p.length) : ∃ c, (sl p)[j]? = some c ∧ c ≠ 59 := by
  obtain ⟨b, e, _, hs, _⟩ := h
  have hl := len_sl p
  rw [e, List.length_append] at hl
  have lb : p.length ≤ b.length + 1 := by
    cases l <;> simp at hl <;> omega
  have jb : j < b.length := by omega
  refine ⟨b[j], by rw [e, List.getElem?_append_left jb, List.getElem?_eq_getElem jb], fun z => ?_⟩
  have := hs _ (List.getElem_mem jb)
  rw [z] at this
  exact no59 this
theorem pc_end {p : Str} {l : Bool} (h : Pc p l) : ∃ c, (sl p)[p.length - 1]? = some c ∧ (c = 59 ↔ l = true) := by
  have hp := (pc_len h).1
  obtain ⟨b, e, _, hs, hn⟩ := h
  have hl := len_sl p
  rw [e, List.length_append] at hl
  cases l with
  | true =>
    have lb : p.length = b.length + 1 := by simpa using hl
    refine ⟨59, ?_, by simp⟩
    rw [e, lb, List.getElem?_append_right (by omega)]
    simp
  | false =>
    have lb : p.length = b.length := by simpa using hl
    have jb : b.length - 1 < b.length := by omega
    refine ⟨b[b.length - 1], ?_, ?_⟩
    · rw [e, lb, List.getElem?_append_left jb, List.getElem?_eq_getElem jb]
    · constructor
      · intro z
        have := hs _ (List.getElem_mem jb)
        rw [z] at this
        exact absurd this no59
      · intro z
        cases z
/-- one step's standings behind -/
def behU (s : Sx) (w : Int) (x : T3) : Sx := (s.1.set w.toNat x.2.2, behM s.2 w x.1)
theorem stt_pc {fr : List T3} {last : Nat} (fm : Frm fr last) {n : Int} (n0 : 0 ≤ n) (n1 : n < fr.length) : Pc (stt fr n).2.1 (decide ((stt fr n).2.2 = 0)) := (fm.stp _ (stt_mem n0 n1)).2.2.1
def envF {fr : List T3} {last : Nat} (fm : Frm fr last) (x : Str) (nw : Nat) (n3 : nw ≤ 3) : TL.Env Sx E2 where
  n := x.length
  fit p e := EOk fr x nw p e
  len e := (stt fr e.2).2.1.length
  ok s e := (stt fr e.2).1 = stdS s e.1
  beh s e := behU s e.1 (stt fr e.2)
  ends e := (stt fr e.2).2.2 = 0
  rst s := (s.1, .no)
  B p := Bd x p
  s0 := (List.replicate nw 0, .no)
  r0 := rfl
  rr _ := rfl
  l1 {p e} f := (pc_len (stt_pc fm f.b0 f.b1)).1
  ln {p e} f := fit_end f.f (pc_len (stt_pc fm f.b0 f.b1)).1
  nb {p e i} f h1 h2 := by
    rintro ⟨_, hb⟩
    obtain ⟨c, hc, h59⟩ := pc_in (stt_pc fm f.b0 f.b1) (j := i - 1 - p) (by omega)
    have e1 := fit_at f.f (j := i - 1 - p) (by omega)
    have e2 : p + (i - 1 - p) = i - 1 := by omega
    rw [e2, hb, hc] at e1
    have e3 : 59 = mrkF e.1 c := Option.some.inj e1
    have a1 := f.a1
    exact mrkF_59 f.a0 (by omega) h59 e3.symm
  eb {p e} f := by
    have l1 := (pc_len (stt_pc fm f.b0 f.b1)).1
    obtain ⟨c, hc, h59⟩ := pc_end (stt_pc fm f.b0 f.b1)
    have e1 := fit_at f.f (j := (stt fr e.2).2.1.length - 1) (by omega)
    rw [hc] at e1
    have e2 : p + ((stt fr e.2).2.1.length - 1) = p + (stt fr e.2).2.1.length - 1 := by omega
    rw [e2] at e1
    have a1 := f.a1
    unfold Bd
    rw [e1]
    constructor
    · rintro ⟨_, h⟩
      have h : mrkF e.1 c = 59 := Option.some.inj h
      by_cases c59 : c = 59
      · exact of_decide_eq_true (h59.mp c59)
      · exact absurd h (mrkF_59 f.a0 (by omega) c59)
    · intro h
      have c59 := h59.mpr (decide_eq_true h)
      refine ⟨by omega, ?_⟩
      rw [c59]
      rfl
section
variable {fr : List T3} {last : Nat} {fm : Frm fr last} {x : Str} {nw : Nat} {n3 : nw ≤ 3}
theorem nxt_is (s : Sx) (e : E2) : TL.nxt (envF fm x nw n3) s e = behS s e.1 (stt fr e.2) := by
  by_cases c : (stt fr e.2).2.2 = 0
  · have e1 : TL.nxt (envF fm x nw n3) s e = ((behU s e.1 (stt fr e.2)).1, Mk.no) := if_pos c
    rw [e1]
    show _ = (s.1.set e.1.toNat (stt fr e.2).2.2, if (stt fr e.2).2.2 = 0 then Mk.no else behM s.2 e.1 (stt fr e.2).1)
    rw [if_pos c]
    rfl
  · have e1 : TL.nxt (envF fm x nw n3) s e = behU s e.1 (stt fr e.2) := if_neg c
    rw [e1]
    show _ = (s.1.set e.1.toNat (stt fr e.2).2.2, if (stt fr e.2).2.2 = 0 then Mk.no else behM s.2 e.1 (stt fr e.2).1)
    rw [if_neg c]
    rfl
end
theorem fitsF_all {fr : List T3} {x : Str} {i nw : Nat} {e : E2} (h : EOk fr x nw i e) : e ∈ fitsF fr x i nw := by
  obtain ⟨a, b⟩ := e
  obtain ⟨w, rfl⟩ := Int.eq_ofNat_of_zero_le h.a0
  obtain ⟨j, rfl⟩ := Int.eq_ofNat_of_zero_le h.b0
  have hw : w < nw := by have := h.a1; omega
  have hj : j < fr.length := by have := h.b1; omega
  have m1 : ((w : Int), (j : Int)) ∈ fitsW fr x i (w : Int) fr.length := by
    unfold fitsW
    exact List.mem_map.mpr ⟨j, List.mem_filter.mpr ⟨List.mem_range.mpr hj, h.f⟩, rfl⟩
  clear h
  induction nw with
  | zero => omega
  | succ n ih =>
    show _ ∈ fitsF fr x i n ++ fitsW fr x i (n : Int) fr.length
    by_cases c : w = n
    · subst c
      exact List.mem_append_right _ m1
    · exact List.mem_append_left _ (ih (by omega))
/-! ### the layers -/
def HasK (Ls : List Layer) (j : Nat) (k : Sx) : Prop := ∃ L, Ls[j]? = some L ∧ k ∈ L.map (·.1)
def Has (Ls : List Layer) (j : Nat) (k : Sx) (t : Trip) : Prop := ∃ L en, Ls[j]? = some L ∧ en ∈ L ∧ en.1 = k ∧ t ∈ en.2
theorem Has.k {Ls : List Layer} {j : Nat} {k : Sx} {t : Trip} (h : Has Ls j k t) : HasK Ls j k := by
  obtain ⟨L, en, h1, h2, h3, _⟩ := h
  exact ⟨L, h1, List.mem_map.mpr ⟨en, h2, h3⟩⟩
theorem putL_has {L : Layer} {k k' : Sx} {t t' : Trip} (h : ∃ en ∈ L, en.1 = k ∧ t ∈ en.2) : ∃ en ∈ putL L k' t', en.1 = k ∧ t ∈ en.2 := by
  obtain ⟨en, h1, h2, h3⟩ := h
  induction L with
  | nil => cases h1
  | cons a L ih =>
    show ∃ en ∈ (if a.1 = k' then (a.1, a.2 ++ [t']) :: L else a :: putL L k' t'), en.1 = k ∧ t ∈ en.2
    by_cases c : a.1 = k'
    · rw [if_pos c]
      rcases List.mem_cons.mp h1 with z | z
      · subst z
        exact ⟨_, List.mem_cons_self .., h2, List.mem_append_left _ h3⟩
      · exact ⟨en, List.mem_cons_of_mem _ z, h2, h3⟩
    · rw [if_neg c]
      rcases List.mem_cons.mp h1 with z | z
      · subst z
        exact ⟨en, List.mem_cons_self .., h2, h3⟩
      · obtain ⟨e2, z1, z2, z3⟩ := ih z
        exact ⟨e2, List.mem_cons_of_mem _ z1, z2, z3⟩
theorem putL_new {L : Layer} {k : Sx} {t : Trip} : ∃ en ∈ putL L k t, en.1 = k ∧ t ∈ en.2 := by
  induction L with
  | nil => exact ⟨(k, [t]), List.mem_cons_self .., rfl, List.mem_cons_self ..⟩
  | cons a L ih =>
    show ∃ en ∈ (if a.1 = k then (a.1, a.2 ++ [t]) :: L else a :: putL L k t), en.1 = k ∧ t ∈ en.2
    by_cases c : a.1 = k
    · rw [if_pos c]
      exact ⟨_, List.mem_cons_self .., c, List.mem_append_right _ (List.mem_cons_self ..)⟩
    · rw [if_neg c]
      obtain ⟨e2, z1, z2, z3⟩ := ih
      exact ⟨e2, List.mem_cons_of_mem _ z1, z2, z3⟩
theorem putL_key {L : Layer} {k k' : Sx} {t : Trip} (h : k ∈ (putL L k' t).map (·.1)) : k ∈ L.map (·.1) ∨ k = k' := by
  induction L with
  | nil =>
    have h : k ∈ [k'] := h
    exact .inr (List.mem_singleton.mp h)
  | cons a L ih =>
    have h : k ∈ (if a.1 = k' then (a.1, a.2 ++ [t]) :: L else a :: putL L k' t).map (·.1) := h
    by_cases c : a.1 = k'
    · rw [if_pos c] at h
      exact .inl h
    · rw [if_neg c] at h
      rcases List.mem_cons.mp (show k ∈ a.1 :: (putL L k' t).map (·.1) from h) with z | z
      · exact .inl (by rw [z]; exact List.mem_cons_self ..)
      · rcases ih z with z | z
        · exact .inl (List.mem_cons_of_mem _ z)
        · exact .inr z
theorem addT_len {Ls : List Layer} {j : Nat} {k : Sx} {t : Trip} : (addT Ls j k t).length = Ls.length := by
  unfold addT
  rw [List.length_set]
theorem addT_has {Ls : List Layer} {j j' : Nat} {k k' : Sx} {t t' : Trip} (h : Has Ls j k t) : Has (addT Ls j' k' t') j k t := by
  obtain ⟨L, en, h1, h2, h3, h4⟩ := h
  by_cases c : j' = j
  · subst c
    rw [addT_at h1]
    obtain ⟨e2, z1, z2, z3⟩ := putL_has (k' := k') (t' := t') ⟨en, h2, h3, h4⟩
    exact ⟨_, e2, List.getElem?_set_self (List.getElem?_eq_some_iff.mp h1).1, z1, z2, z3⟩
  · unfold addT
    exact ⟨L, en, by rw [List.getElem?_set_ne c]; exact h1, h2, h3, h4⟩
theorem addT_new {Ls : List Layer} {j : Nat} {k : Sx} {t : Trip} (h : j < Ls.length) : Has (addT Ls j k t) j k t := by
  rw [addT_at (List.getElem?_eq_getElem h)]
  obtain ⟨e2, z1, z2, z3⟩ := putL_new (L := Ls[j]) (k := k) (t := t)
  exact ⟨_, e2, List.getElem?_set_self h, z1, z2, z3⟩
theorem addT_other {Ls : List Layer} {j j' : Nat} {k : Sx} {t : Trip} (n : j' ≠ j) : (addT Ls j' k t)[j]? = Ls[j]? := by
  unfold addT
  rw [List.getElem?_set_ne n]
theorem perE_len {fr : List T3} {i : Nat} {s : Sx} {Ls : List Layer} {e : E2} : (perE fr i s Ls e).length = Ls.length := by
  unfold perE
  split
  · exact addT_len
  · rfl
theorem perE_has {fr : List T3} {i j : Nat} {s k : Sx} {Ls : List Layer} {e : E2} {t : Trip} (h : Has Ls j k t) : Has (perE fr i s Ls e) j k t := by
  unfold perE
  split
  · exact addT_has h
  · exact h
theorem foldP {α β : Type} {f : β → α → β} {P : β → Prop} : ∀ (l : List α) (z : β), P z → (∀ z, ∀ a ∈ l, P z → P (f z a)) → P (l.foldl f z)
  | [], z, h, _ => h
  | a :: l, z, h, hs => foldP l (f z a) (hs z a (List.mem_cons_self ..) h) fun z b hb => hs z b (List.mem_cons_of_mem _ hb)
/-- what holds from some turn on -/
theorem foldOnce {α β : Type} {f : β → α → β} {P I : β → Prop} : ∀ (l : List α) (z : β) (a : α), a ∈ l → I z → (∀ z, ∀ b ∈ l, I z → I (f z b)) → (∀ z, I z → P (f z a)) → (∀ z, ∀ b ∈ l, I z → P z → P (f z b)) → P (l.foldl f z)
  | b :: l, z, a, h, hi, ii, h1, h2 => by
    rcases List.mem_cons.mp h with e | h
    · subst e
      have := foldP (f := f) (P := fun z => I z ∧ P z) l (f z a) ⟨ii z a (List.mem_cons_self ..) hi, h1 z hi⟩ fun z b hb y => ⟨ii z b (List.mem_cons_of_mem _ hb) y.1, h2 z b (List.mem_cons_of_mem _ hb) y.1 y.2⟩
      exact this.2
    · exact foldOnce l (f z b) a h (ii z b (List.mem_cons_self ..) hi) (fun z c hc => ii z c (List.mem_cons_of_mem _ hc)) h1 fun z c hc => h2 z c (List.mem_cons_of_mem _ hc)
theorem perS_len {fr : List T3} {x : Str} {nw i : Nat} {s : Sx} {Ls : List Layer} : (perS fr x nw i Ls s).length = Ls.length :=
  foldP (P := fun z : List Layer => z.length = Ls.length) _ _ rfl fun z a _ h => perE_len.trans h
theorem perI_len {fr : List T3} {x : Str} {nw i : Nat} {Ls : List Layer} : (perI fr x nw Ls i).length = Ls.length :=
  foldP (P := fun z : List Layer => z.length = Ls.length) _ _ rfl fun z a _ h => perS_len.trans h
theorem perI_has {fr : List T3} {x : Str} {nw i j : Nat} {k : Sx} {Ls : List Layer} {t : Trip} (h : Has Ls j k t) : Has (perI fr x nw Ls i) j k t :=
  foldP (P := fun z : List Layer => Has z j k t) _ _ h fun z a _ h => foldP (P := fun z : List Layer => Has z j k t) _ _ h fun z a _ h => perE_has h
section
variable {fr : List T3} {last : Nat} (fm : Frm fr last) {x : Str} {nw : Nat}
include fm
theorem fit_pos {i : Nat} {e : E2} (f : EOk fr x nw i e) : 1 ≤ (stt fr e.2).2.1.length ∧ i + (stt fr e.2).2.1.length ≤ x.length :=
  ⟨(pc_len (stt_pc fm f.b0 f.b1)).1, fit_end f.f (pc_len (stt_pc fm f.b0 f.b1)).1⟩
theorem perS_low {i j : Nat} {s : Sx} {Ls : List Layer} (h : j ≤ i) : (perS fr x nw i Ls s)[j]? = Ls[j]? :=
  foldP (P := fun z : List Layer => z[j]? = Ls[j]?) _ _ rfl fun z e he h2 => by
    have f := fitsF_ok (Nat.le_refl nw) e he
    have p := (fit_pos fm f).1
    unfold perE
    split
    · rw [addT_other (by omega)]
      exact h2
    · exact h2
theorem perI_low {i j : Nat} {Ls : List Layer} (h : j ≤ i) : (perI fr x nw Ls i)[j]? = Ls[j]? :=
  foldP (P := fun z : List Layer => z[j]? = Ls[j]?) _ _ rfl fun z s _ h2 => (perS_low fm h).trans h2
theorem trF_len {i : Nat} : (trF fr x nw i).length = x.length + 1 := by
  induction i with
  | zero => show (init0 x.length nw).length = _; rw [init0_eq]; simp
  | succ i ih => rw [trF_succ, perI_len, ih]
theorem trF_zero {i : Nat} : (trF fr x nw i)[0]? = some [((List.replicate nw 0, .no), [])] := by
  induction i with
  | zero => rfl
  | succ i ih => rw [trF_succ, perI_low fm (Nat.zero_le _), ih]
theorem trF_low {j m : Nat} (h : j ≤ m) : (trF fr x nw m)[j]? = (trF fr x nw j)[j]? := by
  obtain ⟨d, rfl⟩ := Nat.exists_eq_add_of_le h
  clear h
  induction d with
  | zero => rfl
  | succ d ih =>
    rw [show j + (d + 1) = (j + d) + 1 from rfl, trF_succ, perI_low fm (by omega)]
    exact ih
theorem trF_has {j m m' : Nat} {k : Sx} {t : Trip} (h : m ≤ m') (z : Has (trF fr x nw m) j k t) : Has (trF fr x nw m') j k t := by
  obtain ⟨d, rfl⟩ := Nat.exists_eq_add_of_le h
  clear h
  induction d with
  | zero => exact z
  | succ d ih =>
    rw [show m + (d + 1) = (m + d) + 1 from rfl, trF_succ]
    exact perI_has ih
theorem trF_clo {p : Nat} (hp : p < x.length) {s : Sx} (hs : HasK (trF fr x nw x.length) p s) {e : E2} (f : EOk fr x nw p e) (o : (stt fr e.2).1 = stdS s e.1) :
    Has (trF fr x nw x.length) (p + (stt fr e.2).2.1.length) (behS s e.1 (stt fr e.2)) (p, s, e) := by
  refine trF_has fm (m := p + 1) hp ?_
  rw [trF_succ]
  obtain ⟨L, hL, hk⟩ := hs
  rw [trF_low fm (Nat.le_of_lt hp)] at hL
  have ln := (fit_pos fm f).2
  unfold perI
  rw [getD_at hL]
  refine foldOnce (P := fun z : List Layer => Has z (p + (stt fr e.2).2.1.length) (behS s e.1 (stt fr e.2)) (p, s, e)) (I := fun z : List Layer => z.length = x.length + 1) _ _ s hk (trF_len fm) (fun z b _ h => perS_len.trans h) (fun z hz => ?_) fun z b _ _ h => foldP (P := fun z : List Layer => Has z _ _ _) _ _ h fun z a _ h => perE_has h
  refine foldOnce (P := fun z : List Layer => Has z (p + (stt fr e.2).2.1.length) (behS s e.1 (stt fr e.2)) (p, s, e)) (I := fun z : List Layer => z.length = x.length + 1) _ _ e (fitsF_all f) hz (fun z b _ h => perE_len.trans h) (fun z hz => ?_) fun z b _ _ h => perE_has h
  unfold perE
  rw [if_pos o]
  exact addT_new (by omega)
theorem has_pr (n3 : nw ≤ 3) (W : Wl fr x nw last (trF fr x nw x.length)) : ∀ (p : Nat) (s : Sx), HasK (trF fr x nw x.length) p s → TL.PR (envF fm x nw n3) p s := by
  intro p
  induction p using Nat.strongRecOn with
  | ind p ih =>
    rintro s ⟨L, hL, hk⟩
    obtain ⟨en, he, rfl⟩ := List.mem_map.mp hk
    by_cases c : p = 0
    · subst c
      rw [trF_zero fm] at hL
      cases hL
      rw [List.mem_singleton.mp he]
      exact .nil
    · have ne := W.ne p L hL (by omega) en he
      obtain ⟨t, ht⟩ : ∃ t, t ∈ en.2 := by
        cases z : en.2 with
        | nil => exact absurd z ne
        | cons a b => exact ⟨a, List.mem_cons_self ..⟩
      have T := W.to p L hL en he t ht
      have l1 := (fit_pos fm T.e).1
      have tj := T.j
      have r := ih t.1 (by omega) t.2.1 T.s
      have z := TL.PR.snoc (M := envF fm x nw n3) r T.e T.st
      rw [nxt_is] at z
      rw [T.b, T.j]
      exact z
theorem pr_has (n3 : nw ≤ 3) {p : Nat} {s : Sx} (h : TL.PR (envF fm x nw n3) p s) : HasK (trF fr x nw x.length) p s := by
  induction h with
  | nil => exact ⟨_, trF_zero fm, List.mem_cons_self ..⟩
  | @snoc p s e h f o ih =>
    have l := fit_pos fm f
    rw [nxt_is]
    exact (trF_clo fm (by omega) ih f o).k
end
theorem seek_mem {Ls : List Layer} {p : Nat} {L : Layer} (hL : Ls[p]? = some L) (nd : (L.map (·.1)).Nodup) {s : Sx} {t : Trip} : t ∈ seek (Ls.getD p []) s ↔ Has Ls p s t := by
  rw [getD_at hL]
  constructor
  · intro h
    have : ∀ L : Layer, t ∈ seek L s → ∃ en ∈ L, en.1 = s ∧ t ∈ en.2 := by
      intro L
      induction L with
      | nil => intro h; cases h
      | cons a L ih =>
        intro h
        have h : t ∈ (if a.1 = s then a.2 else seek L s) := h
        by_cases c : a.1 = s
        · rw [if_pos c] at h
          exact ⟨a, List.mem_cons_self .., c, h⟩
        · rw [if_neg c] at h
          obtain ⟨en, h1, h2⟩ := ih h
          exact ⟨en, List.mem_cons_of_mem _ h1, h2⟩
    obtain ⟨en, h1, h2, h3⟩ := this L h
    exact ⟨L, en, hL, h1, h2, h3⟩
  · rintro ⟨L', en, h1, h2, rfl, h4⟩
    rw [hL] at h1
    cases h1
    obtain ⟨i, hi⟩ := List.mem_iff_getElem?.mp h2
    rw [seek_at nd hi]
    exact h4
end K35

set_option Elab.async false
set_option linter.all false
set_option maxRecDepth 100000
set_option maxHeartbeats 4000000
/-! What words_read finds. -/
namespace K35
open PySem L2 L2.EV
theorem getG_set {l : List (List Sx)} {j p : Nat} {v : List Sx} : (l.set j v).getD p [] = if j = p ∧ j < l.length then v else l.getD p [] := by
  rw [List.getD_eq_getElem?_getD, List.getD_eq_getElem?_getD]
  by_cases c : j = p
  · subst c
    by_cases c2 : j < l.length
    · rw [if_pos ⟨rfl, c2⟩, List.getElem?_set_self c2]
      rfl
    · rw [if_neg (fun z => c2 z.2), List.set_eq_of_length_le (by omega)]
  · rw [if_neg (fun z => c z.1), List.getElem?_set_ne c]
theorem addS_in {g : List Sx} {s t : Sx} : t ∈ addS g s ↔ t ∈ g ∨ t = s := by
  unfold addS
  by_cases c : s ∈ g
  · rw [if_pos c]
    constructor
    · exact .inl
    · rintro (h | h)
      · exact h
      · rw [h]; exact c
  · rw [if_neg c, List.mem_append, List.mem_singleton]
theorem addB_in {l : List Bool} {b c : Bool} : c ∈ addB l b ↔ c ∈ l ∨ c = b := by
  unfold addB
  by_cases h : b ∈ l
  · rw [if_pos h]
    constructor
    · exact .inl
    · rintro (z | z)
      · exact z
      · rw [z]; exact h
  · rw [if_neg h, List.mem_append, List.mem_singleton]
def WHas (ws : List (Nat × List Bool)) (i : Nat) (b : Bool) : Prop := ∃ e ∈ ws, e.1 = i ∧ b ∈ e.2
theorem addW_in {i i' : Nat} {b b' : Bool} : ∀ {ws : List (Nat × List Bool)}, WHas (addW ws i b) i' b' ↔ WHas ws i' b' ∨ (i' = i ∧ b' = b)
  | [] => by
    show WHas [(i, [b])] i' b' ↔ _
    unfold WHas
    simp
    exact fun _ => eq_comm
  | e :: ws => by
    have ih := addW_in (i := i) (i' := i') (b := b) (b' := b') (ws := ws)
    have cons : ∀ (a : Nat × List Bool) (l : List (Nat × List Bool)), WHas (a :: l) i' b' ↔ (a.1 = i' ∧ b' ∈ a.2) ∨ WHas l i' b' := by
      intro a l
      unfold WHas
      simp
    have hd : addW (e :: ws) i b = if e.1 = i then (e.1, addB e.2 b) :: ws else e :: addW ws i b := rfl
    rw [hd]
    by_cases c : e.1 = i
    · rw [if_pos c, cons, cons, addB_in]
      constructor
      · rintro (⟨h1, h2 | h2⟩ | h)
        · exact .inl (.inl ⟨h1, h2⟩)
        · exact .inr ⟨h1.symm.trans c, h2⟩
        · exact .inl (.inr h)
      · rintro ((⟨h1, h2⟩ | h) | ⟨h1, h2⟩)
        · exact .inl ⟨h1, .inl h2⟩
        · exact .inr h
        · exact .inl ⟨c.trans h1.symm, .inr h2⟩
    · rw [if_neg c, cons, cons, ih]
      constructor
      · rintro (h | h | h)
        · exact .inl (.inl h)
        · exact .inl (.inr h)
        · exact .inr h
      · rintro ((h | h) | h)
        · exact .inl h
        · exact .inr (.inl h)
        · exact .inr (.inr h)
def mixB (fr : List T3) (t : Trip) : Bool := decide (behM t.2.1.2 t.2.2.1 (stt fr t.2.2.2).1 = .mix)
theorem wT_g {fr : List T3} {i p : Nat} {z : Wst} {t : Trip} (h : t.1 < z.1.length) {s : Sx} : s ∈ (wT fr i z t).1.getD p [] ↔ s ∈ z.1.getD p [] ∨ (p = t.1 ∧ s = t.2.1) := by
  show s ∈ (z.1.set t.1 (addS (z.1.getD t.1 []) t.2.1)).getD p [] ↔ _
  rw [getG_set]
  by_cases c : t.1 = p
  · subst c
    rw [if_pos ⟨rfl, h⟩, addS_in]
    simp
  · rw [if_neg (fun z => c z.1)]
    constructor
    · exact .inl
    · rintro (h | h)
      · exact h
      · exact absurd h.1.symm c
theorem wT_w {fr : List T3} {i j : Nat} {z : Wst} {t : Trip} {b : Bool} : WHas (wT fr i z t).2 j b ↔ WHas z.2 j b ∨ ((stt fr t.2.2.2).2.2 = 0 ∧ j = i ∧ b = mixB fr t) := by
  show WHas (if (stt fr t.2.2.2).2.2 = 0 then addW z.2 i (mixB fr t) else z.2) j b ↔ _
  by_cases c : (stt fr t.2.2.2).2.2 = 0
  · rw [if_pos c, addW_in]
    simp [c]
  · rw [if_neg c]
    simp [c]
theorem wT_len {fr : List T3} {i : Nat} {z : Wst} {t : Trip} : (wT fr i z t).1.length = z.1.length := by
  show (z.1.set _ _).length = _
  rw [List.length_set]
theorem wS_len {fr : List T3} {Ls : List Layer} {i : Nat} {z : Wst} {s : Sx} : (wS fr Ls i z s).1.length = z.1.length :=
  foldP (P := fun y : Wst => y.1.length = z.1.length) _ _ rfl fun y t _ h => wT_len.trans h
theorem wI_len {fr : List T3} {Ls : List Layer} {i : Nat} {z : Wst} : (wI fr Ls z i).1.length = z.1.length :=
  foldP (P := fun y : Wst => y.1.length = z.1.length) _ _ rfl fun y t _ h => wS_len.trans h
theorem wF_len {fr : List T3} {Ls : List Layer} {n k : Nat} : (wF fr Ls n k).1.length = n + 1 := by
  induction k with
  | zero => show (w0 Ls n).1.length = _; unfold w0; simp
  | succ k ih => rw [wF_succ, wI_len, ih]
section
variable {fr : List T3} {last : Nat} (fm : Frm fr last) {x : Str} {nw : Nat} (n3 : nw ≤ 3) (W : Wl fr x nw last (trF fr x nw x.length))
include fm W
theorem trip_ok {i : Nat} {s : Sx} {t : Trip} (h : t ∈ seek ((trF fr x nw x.length).getD i []) s) (hi : i ≤ x.length) : TOk fr x nw last (trF fr x nw x.length) i s t ∧ t.1 < i := by
  have jl : i < (trF fr x nw x.length).length := by rw [W.len]; omega
  have hL := List.getElem?_eq_getElem jl
  obtain ⟨L, en, h1, h2, h3, h4⟩ := (seek_mem hL (W.nd _ _ hL)).mp h
  have T := W.to i L h1 en h2 t h4
  rw [h3] at T
  have p := (fit_pos fm T.e).1
  have := T.j
  exact ⟨T, by omega⟩
/-- what is found is so -/
def Snd (z : Wst) : Prop := z.1.length = x.length + 1 ∧ (∀ p s, s ∈ z.1.getD p [] → TL.PG (envF fm x nw n3) p s) ∧ ∀ i b, WHas z.2 i b → TL.FlP (M := envF fm x nw n3) i (fun s => decide (s.2 = .mix) = b)
theorem snd_T {i : Nat} {z : Wst} {s : Sx} {t : Trip} (hi : i ≤ x.length) (hz : Snd (x := x) fm n3 z) (g : TL.PG (envF fm x nw n3) i s) (h : t ∈ seek ((trF fr x nw x.length).getD i []) s) : Snd (x := x) fm n3 (wT fr i z t) := by
  obtain ⟨T, lt⟩ := trip_ok fm W h hi
  have r := has_pr fm n3 W t.1 t.2.1 T.s
  have ti : i = t.1 + (stt fr t.2.2.2).2.1.length := T.j
  have g2 : TL.PG (envF fm x nw n3) (t.1 + (envF fm x nw n3).len t.2.2) (TL.nxt (envF fm x nw n3) t.2.1 t.2.2) := by
    rw [nxt_is, ← T.b]
    show TL.PG _ (t.1 + (stt fr t.2.2.2).2.1.length) _
    rw [← ti]
    exact g
  obtain ⟨z1, z2, z3⟩ := hz
  refine ⟨by rw [wT_len]; exact z1, fun p s' hs => ?_, fun j b hb => ?_⟩
  · rcases (wT_g (by omega)).mp hs with h | ⟨rfl, rfl⟩
    · exact z2 p s' h
    · exact .back r T.e T.st g2
  · rcases wT_w.mp hb with h | ⟨e1, rfl, rfl⟩
    · exact z3 j b h
    · refine ⟨t.1, t.2.1, t.2.2, r, T.e, T.st, ti.symm, e1, ?_, rfl⟩
      rw [ti]
      exact g2
theorem snd_I {i : Nat} {z : Wst} (hi : i ≤ x.length) (hz : Snd (x := x) fm n3 z) : Snd (x := x) fm n3 (wI fr (trF fr x nw x.length) z i) :=
  foldP (P := Snd (x := x) fm n3) _ _ hz fun y s hs hy => foldP (P := Snd (x := x) fm n3) _ _ hy fun v t ht hv => snd_T fm n3 W hi hv (hz.2.1 i s hs) ht
theorem snd_F {k : Nat} : Snd (x := x) fm n3 (wF fr (trF fr x nw x.length) x.length k) := by
  induction k with
  | zero =>
    have jl : x.length < (trF fr x nw x.length).length := by rw [W.len]; omega
    have hL := List.getElem?_eq_getElem jl
    refine ⟨wF_len, fun p s hs => ?_, fun i b hb => ?_⟩
    · have hs2 : s ∈ ((List.replicate (x.length + 1) []).set x.length (((trF fr x nw x.length).getD x.length []).map (·.1))).getD p [] := hs
      rw [getG_set] at hs2
      by_cases c : x.length = p
      · rw [if_pos ⟨c, by rw [List.length_replicate]; omega⟩, getD_at hL] at hs2
        subst c
        exact .fin (has_pr fm n3 W _ _ ⟨_, hL, hs2⟩)
      · rw [if_neg (fun z => c z.1)] at hs2
        have e : (List.replicate (x.length + 1) ([] : List Sx)).getD p [] = [] := by
          rw [List.getD_eq_getElem?_getD, List.getElem?_replicate]
          split <;> rfl
        rw [e] at hs2
        cases hs2
    · obtain ⟨e, he, _⟩ := hb
      cases he
  | succ k ih =>
    rw [wF_succ]
    exact snd_I fm n3 W (by omega) ih
/-- all there is is found -/
theorem wT_mono {i p : Nat} {z : Wst} {t : Trip} {s : Sx} (h : t.1 < z.1.length) (hs : s ∈ z.1.getD p []) : s ∈ (wT fr i z t).1.getD p [] := (wT_g h).mpr (.inl hs)
def Cpl (p : Nat) (s : Sx) (z : Wst) : Prop := z.1.length = x.length + 1 ∧ s ∈ z.1.getD p []
theorem cpl_S {i p : Nat} {z : Wst} {s0 s : Sx} (hi : i ≤ x.length) (h : Cpl (x := x) p s z) : Cpl (x := x) p s (wS fr (trF fr x nw x.length) i z s0) :=
  foldP (P := Cpl (x := x) p s) _ _ h fun y t ht hy => ⟨by rw [wT_len]; exact hy.1, (wT_g (by have := (trip_ok fm W ht hi).2; rw [hy.1]; omega)).mpr (.inl hy.2)⟩
theorem cpl_I {i p : Nat} {z : Wst} {s : Sx} (hi : i ≤ x.length) (h : Cpl (x := x) p s z) : Cpl (x := x) p s (wI fr (trF fr x nw x.length) z i) :=
  foldP (P := Cpl (x := x) p s) _ _ h fun y s0 _ hy => cpl_S fm W hi hy
theorem cpl_F {p k k' : Nat} {s : Sx} (hk : k ≤ k') (h : Cpl (x := x) p s (wF fr (trF fr x nw x.length) x.length k)) : Cpl (x := x) p s (wF fr (trF fr x nw x.length) x.length k') := by
  obtain ⟨d, rfl⟩ := Nat.exists_eq_add_of_le hk
  clear hk
  induction d with
  | zero => exact h
  | succ d ih =>
    rw [show k + (d + 1) = (k + d) + 1 from rfl, wF_succ]
    exact cpl_I fm W (by omega) ih
theorem whas_I {i j : Nat} {z : Wst} {b : Bool} (h : WHas z.2 j b) : WHas (wI fr (trF fr x nw x.length) z i).2 j b :=
  foldP (P := fun y : Wst => WHas y.2 j b) _ _ h fun y s0 _ hy => foldP (P := fun y : Wst => WHas y.2 j b) _ _ hy fun v t _ hv => wT_w.mpr (.inl hv)
theorem whas_F {j k k' : Nat} {b : Bool} (hk : k ≤ k') (h : WHas (wF fr (trF fr x nw x.length) x.length k).2 j b) : WHas (wF fr (trF fr x nw x.length) x.length k').2 j b := by
  obtain ⟨d, rfl⟩ := Nat.exists_eq_add_of_le hk
  clear hk
  induction d with
  | zero => exact h
  | succ d ih =>
    rw [show k + (d + 1) = (k + d) + 1 from rfl, wF_succ]
    exact whas_I fm W ih
theorem wI_high {i j : Nat} {z : Wst} (hz : z.1.length = x.length + 1) (hi : i ≤ x.length) (h : i ≤ j) : (wI fr (trF fr x nw x.length) z i).1.getD j [] = z.1.getD j [] :=
  (foldP (P := fun y : Wst => y.1.length = x.length + 1 ∧ y.1.getD j [] = z.1.getD j []) _ _ ⟨hz, rfl⟩ fun y s _ hy =>
    foldP (P := fun y : Wst => y.1.length = x.length + 1 ∧ y.1.getD j [] = z.1.getD j []) _ _ hy fun v t ht hv => by
      have lt := (trip_ok fm W ht hi).2
      refine ⟨by rw [wT_len]; exact hv.1, ?_⟩
      show (v.1.set t.1 _).getD j [] = _
      rw [getG_set, if_neg (fun z => by have := z.1; omega)]
      exact hv.2).2
theorem wF_high {j k : Nat} (hj : j ≤ x.length) (h : x.length - j ≤ k) : (wF fr (trF fr x nw x.length) x.length k).1.getD j [] = (wF fr (trF fr x nw x.length) x.length (x.length - j)).1.getD j [] := by
  obtain ⟨d, rfl⟩ := Nat.exists_eq_add_of_le h
  clear h
  induction d with
  | zero => rfl
  | succ d ih =>
    rw [show x.length - j + (d + 1) = (x.length - j + d) + 1 from rfl, wF_succ, wI_high fm W wF_len (by omega) (by omega)]
    exact ih
/-- one turn's deeds -/
theorem turn_did {q : Nat} (q1 : 1 ≤ q) (qn : q ≤ x.length) {s : Sx} (hs : s ∈ (wF fr (trF fr x nw x.length) x.length x.length).1.getD q []) {t : Trip} (ht : Has (trF fr x nw x.length) q s t) :
    t.2.1 ∈ (wF fr (trF fr x nw x.length) x.length x.length).1.getD t.1 [] ∧ ((stt fr t.2.2.2).2.2 = 0 → WHas (wF fr (trF fr x nw x.length) x.length x.length).2 q (mixB fr t)) := by
  have jl : q < (trF fr x nw x.length).length := by rw [W.len]; omega
  have hL := List.getElem?_eq_getElem jl
  have ht := (seek_mem hL (W.nd _ _ hL)).mpr ht
  have tl := (trip_ok fm W ht qn).2
  rw [wF_high fm W qn (by omega)] at hs
  have key : ∀ k, x.length - k = q → s ∈ (wF fr (trF fr x nw x.length) x.length k).1.getD q [] → Cpl (x := x) t.1 t.2.1 (wF fr (trF fr x nw x.length) x.length (k + 1)) ∧ ((stt fr t.2.2.2).2.2 = 0 → WHas (wF fr (trF fr x nw x.length) x.length (k + 1)).2 q (mixB fr t)) := by
    intro k hk hs
    rw [wF_succ, hk]
    unfold wI
    refine foldOnce (P := fun y : Wst => Cpl (x := x) t.1 t.2.1 y ∧ ((stt fr t.2.2.2).2.2 = 0 → WHas y.2 q (mixB fr t))) (I := fun y : Wst => y.1.length = x.length + 1) _ _ s hs wF_len (fun y b _ h => wS_len.trans h) (fun y hy => ?_) fun y b _ _ h => ⟨cpl_S fm W qn h.1, fun e => foldP (P := fun y : Wst => WHas y.2 q (mixB fr t)) _ _ (h.2 e) fun v t _ hv => wT_w.mpr (.inl hv)⟩
    refine foldOnce (P := fun y : Wst => Cpl (x := x) t.1 t.2.1 y ∧ ((stt fr t.2.2.2).2.2 = 0 → WHas y.2 q (mixB fr t))) (I := fun y : Wst => y.1.length = x.length + 1) _ _ t ht hy (fun y b _ h => wT_len.trans h) (fun y hy => ?_) fun y b hb hy h => ⟨⟨by rw [wT_len]; exact hy, (wT_g (by have := (trip_ok fm W hb qn).2; omega)).mpr (.inl h.1.2)⟩, fun e => wT_w.mpr (.inl (h.2 e))⟩
    exact ⟨⟨by rw [wT_len]; exact hy, (wT_g (by omega)).mpr (.inr ⟨rfl, rfl⟩)⟩, fun e => wT_w.mpr (.inr ⟨e, rfl, rfl⟩)⟩
  obtain ⟨a, b⟩ := key (x.length - q) (by omega) hs
  exact ⟨(cpl_F fm W (by omega) a).2, fun e => whas_F fm W (by omega) (b e)⟩
theorem pg_in {p : Nat} {s : Sx} (h : TL.PG (envF fm x nw n3) p s) : s ∈ (wF fr (trF fr x nw x.length) x.length x.length).1.getD p [] := by
  induction h with
  | @fin s h =>
    show s ∈ (wF fr (trF fr x nw x.length) x.length x.length).1.getD x.length []
    rw [wF_high fm W (Nat.le_refl _) (by omega), Nat.sub_self]
    show s ∈ ((List.replicate (x.length + 1) []).set x.length (((trF fr x nw x.length).getD x.length []).map (·.1))).getD x.length []
    rw [getG_set, if_pos ⟨rfl, by rw [List.length_replicate]; omega⟩]
    obtain ⟨L, hL, hk⟩ := pr_has fm n3 h
    have hL : (trF fr x nw x.length)[x.length]? = some L := hL
    rw [getD_at hL]
    exact hk
  | @back p s e r f o g ih =>
    have l := fit_pos fm f
    rw [nxt_is] at ih
    exact (turn_did fm W (q := p + (stt fr e.2).2.1.length) (t := (p, s, e)) (by omega) l.2 ih (trF_clo fm (by omega) (pr_has fm n3 r) f o)).1
theorem fl_in {q : Nat} {b : Bool} (h : TL.FlP (M := envF fm x nw n3) q (fun s => decide (s.2 = .mix) = b)) : WHas (wF fr (trF fr x nw x.length) x.length x.length).2 q b := by
  obtain ⟨p, s, e, r, f, o, rfl, en, g, hb⟩ := h
  have l := fit_pos fm f
  have g := pg_in fm n3 W g
  rw [nxt_is] at g
  have z := (turn_did fm W (q := p + (stt fr e.2).2.1.length) (t := (p, s, e)) (by omega) l.2 g (trF_clo fm (by omega) (pr_has fm n3 r) f o)).2 en
  rw [← hb]
  exact z
theorem fl_out {q : Nat} {b : Bool} (h : WHas (wF fr (trF fr x nw x.length) x.length x.length).2 q b) : TL.FlP (M := envF fm x nw n3) q (fun s => decide (s.2 = .mix) = b) := (snd_F fm n3 W).2.2 q b h
end
end K35

set_option Elab.async false
set_option linter.all false
set_option maxRecDepth 100000
set_option maxHeartbeats 4000000
/-! What verdicts and explained tell. -/
namespace K35
open PySem L2 L2.EV
open Classical
/-- the ends of the lines -/
def bds (x : Str) : List Nat := (List.range (x.length + 1)).filter fun q => decide (Bd x q)
def FlB {fr : List T3} {last : Nat} (fm : Frm fr last) (x : Str) (nw : Nat) (n3 : nw ≤ 3) (q : Nat) (b : Bool) : Prop := TL.FlP (M := envF fm x nw n3) q (fun s => decide (s.2 = .mix) = b)
noncomputable def wordC {fr : List T3} {last : Nat} (fm : Frm fr last) (x : Str) (nw : Nat) (n3 : nw ≤ 3) (q : Nat) : Str :=
  if FlB fm x nw n3 q true ∧ FlB fm x nw n3 q false then "open" else if FlB fm x nw n3 q false then "whole" else "mixed"
def Psb {fr : List T3} {last : Nat} (fm : Frm fr last) (x : Str) (nw : Nat) (n3 : nw ≤ 3) : Prop := ∃ s, TL.PR (envF fm x nw n3) x.length s
section
variable {fr : List T3} {last : Nat} (fm : Frm fr last) {x : Str} {nw : Nat} (n3 : nw ≤ 3) (W : Wl fr x nw last (trF fr x nw x.length))
include fm W
theorem end_iff : endF fr x nw ≠ [] ↔ Psb fm x nw n3 := by
  have jl : x.length < (trF fr x nw x.length).length := by rw [W.len]; omega
  have hL := List.getElem?_eq_getElem jl
  have e : endF fr x nw = (trF fr x nw x.length)[x.length] := getD_at hL
  rw [e]
  constructor
  · intro h
    obtain ⟨en, he⟩ : ∃ en, en ∈ (trF fr x nw x.length)[x.length] := by
      cases z : (trF fr x nw x.length)[x.length] with
      | nil => exact absurd z h
      | cons a b => exact ⟨a, List.mem_cons_self ..⟩
    exact ⟨en.1, has_pr fm n3 W _ _ ⟨_, hL, List.mem_map.mpr ⟨en, he, rfl⟩⟩⟩
  · rintro ⟨s, h⟩ z
    obtain ⟨L, h1, h2⟩ := pr_has fm n3 h
    rw [hL] at h1
    cases h1
    rw [z] at h2
    cases h2
theorem poss_iff : possF fr x nw = true ↔ Psb fm x nw n3 := by
  rw [← end_iff fm n3 W]
  unfold possF
  rw [decide_eq_true_eq]
  constructor
  · intro h z
    rw [z] at h
    simp at h
  · intro h
    exact List.length_pos_iff.mpr h
theorem ws_ne : ∀ e ∈ (wF fr (trF fr x nw x.length) x.length x.length).2, e.2 ≠ [] := by
  have aw : ∀ (ws : List (Nat × List Bool)) (i : Nat) (b : Bool), (∀ e ∈ ws, e.2 ≠ []) → ∀ e ∈ addW ws i b, e.2 ≠ [] := by
    intro ws i b
    induction ws with
    | nil =>
      intro _ e he
      rw [List.mem_singleton.mp (show e ∈ [(i, [b])] from he)]
      simp
    | cons a ws ih =>
      intro h e he
      have he : e ∈ (if a.1 = i then (a.1, addB a.2 b) :: ws else a :: addW ws i b) := he
      by_cases c : a.1 = i
      · rw [if_pos c] at he
        rcases List.mem_cons.mp he with z | z
        · rw [z]
          intro y
          have : b ∈ addB a.2 b := addB_in.mpr (.inr rfl)
          have y : addB a.2 b = [] := y
          rw [y] at this
          cases this
        · exact h e (List.mem_cons_of_mem _ z)
      · rw [if_neg c] at he
        rcases List.mem_cons.mp he with z | z
        · rw [z]; exact h a (List.mem_cons_self ..)
        · exact ih (fun e he => h e (List.mem_cons_of_mem _ he)) e z
  have st : ∀ k, ∀ e ∈ (wF fr (trF fr x nw x.length) x.length k).2, e.2 ≠ [] := by
    intro k
    induction k with
    | zero => intro e he; cases he
    | succ k ih =>
      rw [wF_succ]
      exact foldP (P := fun y : Wst => ∀ e ∈ y.2, e.2 ≠ []) _ _ ih fun y s _ hy => foldP (P := fun y : Wst => ∀ e ∈ y.2, e.2 ≠ []) _ _ hy fun v t _ hv => by
        show ∀ e ∈ (if (stt fr t.2.2.2).2.2 = 0 then addW v.2 _ _ else v.2), e.2 ≠ []
        split
        · exact aw _ _ _ hv
        · exact hv
  exact st x.length
theorem key_iff (hp : Psb fm x nw n3) {i : Nat} (hi : i ≤ x.length) : i ∈ (wF fr (trF fr x nw x.length) x.length x.length).2.map (·.1) ↔ Bd x i := by
  constructor
  · intro h
    obtain ⟨e, he, rfl⟩ := List.mem_map.mp h
    obtain ⟨b, hb⟩ : ∃ b, b ∈ e.2 := by
      cases z : e.2 with
      | nil => exact absurd z (ws_ne fm W e he)
      | cons a l => exact ⟨a, List.mem_cons_self ..⟩
    obtain ⟨p, s, e2, r, f, o, e3, en, _⟩ := fl_out fm n3 W ⟨e, he, rfl, hb⟩
    have z := ((envF fm x nw n3).eb f).mpr en
    rw [e3] at z
    exact z
  · intro h
    obtain ⟨s, r⟩ := hp
    obtain ⟨p, s, e, r, f, o, e3, en, g, _⟩ := TL.thru r (.fin r) (i := i) h h.1 hi
    obtain ⟨e2, he, h1, _⟩ := fl_in fm n3 W (q := i) (b := decide (((envF fm x nw n3).beh s e).2 = .mix)) ⟨p, s, e, r, f, o, e3, en, g, rfl⟩
    exact List.mem_map.mpr ⟨e2, he, h1⟩
theorem verF_is (Z : Zk (trF fr x nw x.length) x.length (wF fr (trF fr x nw x.length) x.length x.length)) : verF fr x nw = if Psb fm x nw n3 then some ((bds x).map (wordC fm x nw n3)) else none := by
  by_cases hp : Psb fm x nw n3
  · rw [if_pos hp]
    have e : verF fr x nw = some ((ascW x.length (wF fr (trF fr x nw x.length) x.length x.length).2).map fun i => tellW (lookW (wF fr (trF fr x nw x.length) x.length x.length).2 i)) := by
      unfold verF
      cases z : endF fr x nw with
      | nil => exact absurd z ((end_iff fm n3 W).mpr hp)
      | cons a b => rfl
    rw [e]
    congr 1
    have e1 : ascW x.length (wF fr (trF fr x nw x.length) x.length x.length).2 = bds x := by
      unfold ascW bds
      refine List.filter_congr fun i hi => ?_
      have hi := List.mem_range.mp hi
      exact decide_eq_decide.mpr (key_iff fm n3 W hp (by omega))
    rw [e1]
    refine List.map_congr_left fun q hq => ?_
    obtain ⟨q1, q2⟩ := List.mem_filter.mp hq
    have q1 := List.mem_range.mp q1
    have bq := of_decide_eq_true q2
    have hk := (key_iff fm n3 W hp (i := q) (by omega)).mpr bq
    obtain ⟨en, hen, rfl⟩ := List.mem_map.mp hk
    obtain ⟨m, hm⟩ := List.mem_iff_getElem?.mp hen
    rw [lookW_at Z.wn hm]
    have uni : ∀ b, b ∈ en.2 ↔ FlB fm x nw n3 en.1 b := fun b => by
      constructor
      · intro h
        exact fl_out fm n3 W ⟨en, hen, rfl, h⟩
      · intro h
        obtain ⟨e2, h1, h2, h3⟩ := fl_in fm n3 W h
        obtain ⟨m2, hm2⟩ := List.mem_iff_getElem?.mp h1
        have a1 : ((wF fr (trF fr x nw x.length) x.length x.length).2.map (·.1))[m]? = some en.1 := by rw [List.getElem?_map, hm]; rfl
        have a2 : ((wF fr (trF fr x nw x.length) x.length x.length).2.map (·.1))[m2]? = some en.1 := by rw [List.getElem?_map, hm2, ← h2]; rfl
        have a3 := (List.getElem?_inj (List.getElem?_eq_some_iff.mp a1).1 Z.wn).mp (a1.trans a2.symm)
        subst a3
        rw [hm] at hm2
        cases hm2
        exact h3
    have nd := (Z.wb en hen).2
    have ne := ws_ne fm W en hen
    unfold wordC
    cases hb : en.2 with
    | nil => exact absurd hb ne
    | cons b l =>
      have hbb : FlB fm x nw n3 en.1 b := (uni b).mp (by rw [hb]; exact List.mem_cons_self ..)
      cases l with
      | nil =>
        have ot : ¬ FlB fm x nw n3 en.1 (!b) := fun z => by
          have := (uni (!b)).mpr z
          rw [hb] at this
          have := List.mem_singleton.mp this
          cases b <;> cases this
        cases b with
        | true =>
          have ot : ¬ FlB fm x nw n3 en.1 false := ot
          rw [if_neg (fun z => ot z.2), if_neg ot]
          rfl
        | false =>
          rw [if_neg (fun z => ot z.1), if_pos hbb]
          rfl
      | cons c l =>
        have hc : FlB fm x nw n3 en.1 c := (uni c).mp (by rw [hb]; exact List.mem_cons_of_mem _ (List.mem_cons_self ..))
        rw [hb] at nd
        have bc : b ≠ c := fun z => (List.nodup_cons.mp nd).1 (by rw [z]; exact List.mem_cons_self ..)
        have both : FlB fm x nw n3 en.1 true ∧ FlB fm x nw n3 en.1 false := by
          cases b <;> cases c
          · exact absurd rfl bc
          · exact ⟨hc, hbb⟩
          · exact ⟨hbb, hc⟩
          · exact absurd rfl bc
        rw [if_pos both]
        rfl
  · rw [if_neg hp]
    unfold verF
    cases z : endF fr x nw with
    | nil => rfl
    | cons a b => exact absurd ((end_iff fm n3 W).mp (by rw [z]; simp)) hp
end
/-- entries that lead through a text -/
inductive Rn (fr : List T3) (x : Str) (nw : Nat) : List E2 → Nat → Sx → Prop
  | nil : Rn fr x nw [] 0 (List.replicate nw 0, .no)
  | snoc {es p s e} : Rn fr x nw es p s → EOk fr x nw p e → (stt fr e.2).1 = stdS s e.1 → Rn fr x nw (es ++ [e]) (p + (stt fr e.2).2.1.length) (behS s e.1 (stt fr e.2))
section
variable {fr : List T3} {last : Nat} (fm : Frm fr last) {x : Str} {nw : Nat} (W : Wl fr x nw last (trF fr x nw x.length))
include fm W
theorem back_run : ∀ (n p : Nat) (s : Sx), p ≤ n → HasK (trF fr x nw x.length) p s → Rn fr x nw (backF (trF fr x nw x.length) n p s).reverse p s
  | 0, p, s, hp, h => by
    have : p = 0 := by omega
    subst this
    obtain ⟨L, hL, hk⟩ := h
    rw [trF_zero fm] at hL
    cases hL
    have hk : s ∈ [((List.replicate nw (0 : Int), Mk.no) : Sx)] := hk
    rw [List.mem_singleton.mp hk]
    exact .nil
  | n + 1, p, s, hp, h => by
    obtain ⟨L, hL, hk⟩ := h
    by_cases c : p = 0
    · subst c
      have e : backF (trF fr x nw x.length) (n + 1) 0 s = [] := if_pos rfl
      rw [e]
      rw [trF_zero fm] at hL
      cases hL
      have hk : s ∈ [((List.replicate nw (0 : Int), Mk.no) : Sx)] := hk
      rw [List.mem_singleton.mp hk]
      exact .nil
    · obtain ⟨en, he, rfl⟩ := List.mem_map.mp hk
      obtain ⟨m, hm⟩ := List.mem_iff_getElem?.mp he
      obtain ⟨t, rest, et⟩ : ∃ t rest, en.2 = t :: rest := by
        cases z : en.2 with
        | nil => exact absurd z (W.ne p L hL (by omega) en he)
        | cons a b => exact ⟨a, b, rfl⟩
      have eb : backF (trF fr x nw x.length) (n + 1) p en.1 = t.2.2 :: backF (trF fr x nw x.length) n t.1 t.2.1 := by
        show (if p = 0 then [] else match seek ((trF fr x nw x.length).getD p []) en.1 with
          | [] => []
          | t :: _ => t.2.2 :: backF (trF fr x nw x.length) n t.1 t.2.1) = _
        rw [if_neg c, getD_at hL, seek_at (W.nd p L hL) hm, et]
      rw [eb, List.reverse_cons]
      have T := W.to p L hL en he t (by rw [et]; exact List.mem_cons_self ..)
      have l1 := (fit_pos fm T.e).1
      have tj := T.j
      have r := back_run n t.1 t.2.1 (by omega) T.s
      have z := Rn.snoc r T.e T.st
      rw [← T.b, ← T.j] at z
      exact z
theorem ex_run {es : List E2} (h : exF fr x nw = some es) : ∃ s, Rn fr x nw es x.length s := by
  unfold exF at h
  cases z : endF fr x nw with
  | nil => rw [z] at h; cases h
  | cons e L =>
    rw [z] at h
    have h : some (backF (trF fr x nw x.length) x.length x.length e.1).reverse = some es := h
    rw [← Option.some.inj h]
    have jl : x.length < (trF fr x nw x.length).length := by rw [W.len]; omega
    have hL := List.getElem?_eq_getElem jl
    have e2 : endF fr x nw = (trF fr x nw x.length)[x.length] := getD_at hL
    exact ⟨e.1, back_run fm W _ _ _ (Nat.le_refl _) ⟨_, hL, by rw [← e2, z]; exact List.mem_cons_self ..⟩⟩
theorem ex_none (n3 : nw ≤ 3) : exF fr x nw = none ↔ ¬ Psb fm x nw n3 := by
  rw [← end_iff fm n3 W]
  unfold exF
  cases z : endF fr x nw with
  | nil => simp
  | cons e L => simp
end
theorem run_text {fr : List T3} {x : Str} {nw : Nat} {es : List E2} {p : Nat} {s : Sx} (h : Rn fr x nw es p s) : (es.map fun e => sl (putP (stt fr e.2).2.1 e.1)).flatten = (sl x).take p ∧ ∀ e ∈ es, 0 ≤ e.1 ∧ e.1 < nw ∧ 0 ≤ e.2 ∧ e.2 < fr.length := by
  induction h with
  | nil => exact ⟨rfl, fun e h => nomatch h⟩
  | @snoc es p s e r f o ih =>
    obtain ⟨h1, h2⟩ := ih
    refine ⟨?_, fun e' h => ?_⟩
    · rw [List.map_append, List.flatten_append, h1, List.take_add]
      congr 1
      show [sl (putP (stt fr e.2).2.1 e.1)].flatten = _
      rw [fitB_iff.mp f.f, putP_sl]
      simp
      exact fun _ _ => rfl
    · rcases List.mem_append.mp h with h | h
      · exact h2 e' h
      · rw [List.mem_singleton.mp h]
        exact ⟨f.a0, f.a1, f.b0, f.b1⟩
end K35

set_option Elab.async false
set_option linter.all false
set_option maxRecDepth 100000
set_option maxHeartbeats 4000000
/-! _law_from, exactly. -/
namespace K35
open PySem L2 L2.EV
def spFromE : Sp := fun vs H Q _ => ∃ (f : Addr) (fr : List T3) (last : Nat) (h : Int), vs = [.ref f, .int h] ∧ FrA H f fr ∧ Frm fr last ∧
  ∀ (H' : Hp) (p : Addr) (ns : List Int), Same H H' → H p = none → H' p = some (.lst (ns.map V.int)) → ns.length ≤ 16 → (∀ n ∈ ns, 0 ≤ n ∧ n < fr.length ∧ (stt fr n).1 = h) → (∀ k : Nat, k < fr.length → (stt fr (k : Int)).1 = h → (k : Int) ∈ ns) → Q (.ref p) H'
section
variable {P : Program} {w : World} {K : PySem.W.Frag} {mg : Str → Option Value} {base : Heap}
theorem ok_fromE (G : Lw K mg) : FnOk P w K mg base CX0 1 G.f1 G.d1 ["framing", "here"] spFromE := by
  refine G.F.ok scFrom (fun vs H Q E h => ?_) (fun cdv A outer s H vs Q E hr h => ?_)
  · obtain ⟨f, fr, last, h, rfl, _⟩ := h
    rfl
  · obtain ⟨f, fr, last, h, rfl, fa, fm, q⟩ := h
    refine ⟨_, pss_one (ps_ret (pe_lc (own := [("number", 2), ("step", 3)]) (g := gTup K 2 (gCons (gName 2) (gCons (gName 3) gNil))) (tt := tTest (tOp rEq (tOp (rIxT K) (tVar 3) (tC (.int 0))) (tVar 1))) (te := tVar 2) rfl scFrom.nd (pi_enumT (by rfl) G.G.en (pa_cons (pv 0) pa_nil))
      (blkOk_by (N := ["framing", "here", "number", "step"]) (sc := defScope sFrom) (by decide +kernel))
      (fun _ _ _ _ _ => pg_tup rfl (pgs_cons (pg_name (i := 2) scFrom.nd rfl (Or.inl rfl)) (pgs_cons (pg_name (i := 3) scFrom.nd rfl (Or.inl rfl)) pgs_nil)))
      (fun _ _ _ _ _ => pts_one (pt_cmpR op_eq (pe_ix ix_tup (pv 3) pe_int (fun _ _ => rfl)) (pv 1) (nomark _))) (fun _ _ _ _ _ => pv 2))), ?_⟩
    obtain ⟨ts, hf, hl, ht⟩ := id fa
    have l1 := fm.l1
    refine ⟨_, rfl, f, _, rfl, SqT.of hf, fun D hD => ?_⟩
    refine lc_it (walk_enumT (xs := ts.map V.ref)) (fun i H' => ∃ ns : List Int, H' D = some (.lst (ns.map V.int)) ∧ ns.length ≤ i ∧ (∀ n ∈ ns, 0 ≤ n ∧ n < fr.length ∧ (stt fr n).1 = h) ∧ (∀ (j : Nat) x, j < i → fr[j]? = some x → x.1 = h → (j : Int) ∈ ns) ∧ ∀ b o, H b = some o → H' b = some o)
      ⟨[], upd_same, Nat.le_refl _, (fun n h => by cases h), (fun j x hj => absurd hj (by omega)), fun b o z => same_upd hD b o z⟩ (fun i H' _ ⟨_, _, _, _, _, z⟩ => SqT.of (z _ _ hf)) ?_ ?_
    · rintro i x H1 H2 hi ⟨ns, hn, nl, nk, nz, kp⟩ ⟨T, xi, xo, rfl, nT, rfl, h1, h2⟩
      cases h1
      obtain ⟨t, y, hy, rfl, e4⟩ := at_step (i := i) hl ht h2
      have uT := same_upd (o := HO.tup [V.int (i : Nat), V.ref t]) nT
      have s3 : Same H _ := (show Same H H1 from kp).trans uT
      have il : i < fr.length := (List.getElem?_eq_some_iff.mp hy).1
      have es : stt fr (i : Int) = y := by
        unfold stt stn
        rw [List.getD_eq_getElem?_getD, Int.toNat_natCast, hy]
        rfl
      refine ⟨T, _, rfl, SqT.of upd_same, rfl, _, _, rfl, _, _, rfl, rfl, rfl, ?_⟩
      refine ⟨_, rfl, t, _, 0, _, rfl, rfl, SqT.of (s3 _ _ e4), atI_nat (j := 0) rfl, _, rfl, rfl, _, rfl, ?_⟩
      refine ite2 (fun z => ?_) (fun z => ?_)
      · have z1 : y.1 = h := V.int.inj (of_decide_eq_true z)
        refine ⟨_, rfl, _, uT _ _ hn, ?_, ns ++ [(i : Int)], ?_, ?_, fun n hn2 => ?_, fun j x hj hx he => ?_, fun b o w => ?_⟩
        · rw [List.length_map, sizeLine_eq]
          omega
        · rw [List.map_append]
          exact upd_same
        · rw [List.length_append]
          simp only [List.length_cons, List.length_nil]
          omega
        · rcases List.mem_append.mp hn2 with h3 | h3
          · exact nk n h3
          · have e2 : n = (i : Int) := by simpa using h3
            subst e2
            rw [es]
            exact ⟨by omega, by omega, z1⟩
        · by_cases e : j = i
          · subst e
            exact List.mem_append_right _ (List.mem_singleton.mpr rfl)
          · exact List.mem_append_left _ (nz j x (by omega) hx he)
        · rw [upd_ne (ne_of_none w hD)]
          exact s3 _ _ w
      · have z1 : ¬ y.1 = h := fun e => z (decide_eq_true (congrArg V.int e))
        refine ⟨ns, uT _ _ hn, by omega, nk, fun j x hj hx he => ?_, fun b o w => s3 _ _ w⟩
        by_cases e : j = i
        · subst e
          rw [hy] at hx
          exact absurd he (by rw [← Option.some.inj hx]; exact z1)
        · exact nz j x (by omega) hx he
    · rintro H1 ⟨ns, hn, nl, nk, nz, kp⟩
      rw [List.length_map, hl] at nl nz
      refine q H1 D ns kp hD hn (by omega) nk fun k hk he => ?_
      exact nz k _ hk (List.getElem?_eq_getElem hk) (by rw [show stt fr (k : Int) = fr[k] from stn_at (List.getElem?_eq_getElem hk)] at he; exact he)
end
end K35

set_option Elab.async false
set_option linter.all false
set_option maxRecDepth 100000
set_option maxHeartbeats 4000000
/-! What _law_grown goes through. -/
namespace K35
open PySem L2 L2.EV
/-- a place in a part of a text, the standings there, of whom all is -/
abbrev G3 := Nat × List Int × Int
def ownI (wh w st : Int) : Int := if wh = -1 ∧ st = 0 then w else if wh = w then wh else -2
def stI (l : List Int) (w : Int) : Int := l.getD w.toNat 0
/-- one piece more -/
def tgt (fr : List T3) (a : G3) (w n : Int) : G3 := (a.1 + (stt fr n).2.1.length, a.2.1.set w.toNat (stt fr n).2.2, ownI a.2.2 w (stI a.2.1 w))
structure Go1 (fr : List T3) (seg : Str) (nw : Nat) (a : G3) (w n : Int) : Prop where
  a0 : 0 ≤ w
  a1 : w < nw
  b0 : 0 ≤ n
  b1 : n < fr.length
  st : (stt fr n).1 = stI a.2.1 w
  f : fitB seg a.1 (stt fr n).2.1 w = true
inductive Rc (fr : List T3) (seg : Str) (nw : Nat) (now : List Int) : G3 → Prop
  | nil : Rc fr seg nw now (0, now, -1)
  | snoc {a w n} : Rc fr seg nw now a → Go1 fr seg nw a w n → Rc fr seg nw now (tgt fr a w n)
structure GOk (last nw n : Nat) (a : G3) : Prop where
  p : a.1 ≤ n
  l : a.2.1.length = nw
  b : ∀ q ∈ a.2.1, 0 ≤ q ∧ q ≤ last
  w : a.2.2 = -1 ∨ a.2.2 = -2 ∨ (0 ≤ a.2.2 ∧ a.2.2 < nw)
theorem set_in {l : List Int} {last : Nat} {i : Nat} {g : Int} (h : ∀ q ∈ l, 0 ≤ q ∧ q ≤ last) (hg : 0 ≤ g ∧ g ≤ last) : ∀ q ∈ l.set i g, 0 ≤ q ∧ q ≤ last := fun q hq => by
  rcases List.mem_or_eq_of_mem_set hq with z | z
  · exact h q z
  · rw [z]; exact hg
theorem ownI_ok {wh w st : Int} {nw : Nat} (h : wh = -1 ∨ wh = -2 ∨ (0 ≤ wh ∧ wh < nw)) (w0 : 0 ≤ w) (w1 : w < nw) : ownI wh w st = -1 ∨ ownI wh w st = -2 ∨ (0 ≤ ownI wh w st ∧ ownI wh w st < nw) := by
  unfold ownI
  by_cases c : wh = -1 ∧ st = 0
  · rw [if_pos c]; exact .inr (.inr ⟨w0, w1⟩)
  · rw [if_neg c]
    by_cases c2 : wh = w
    · rw [if_pos c2]; exact h
    · rw [if_neg c2]; exact .inr (.inl rfl)
theorem GOk.go {fr : List T3} {last nw : Nat} (fm : Frm fr last) {seg : Str} {a : G3} {w n : Int} (h : GOk last nw seg.length a) (g : Go1 fr seg nw a w n) : GOk last nw seg.length (tgt fr a w n) := by
  have pl := pc_len (stt_pc fm g.b0 g.b1)
  have lo := fm.lo _ (stt_mem g.b0 g.b1)
  have sp := fm.stp _ (stt_mem g.b0 g.b1)
  refine ⟨fit_end g.f pl.1, ?_, set_in h.b ⟨sp.2.2.2.1, lo.2⟩, ownI_ok h.w g.a0 g.a1⟩
  show (a.2.1.set _ _).length = nw
  rw [List.length_set]
  exact h.l
theorem Rc.ok {fr : List T3} {last nw : Nat} (fm : Frm fr last) {seg : Str} {now : List Int} (hl : now.length = nw) (hb : ∀ q ∈ now, 0 ≤ q ∧ q ≤ last) {a : G3} (h : Rc fr seg nw now a) : GOk last nw seg.length a := by
  induction h with
  | nil => exact ⟨Nat.zero_le _, hl, hb, .inl rfl⟩
  | snoc _ g ih => exact ih.go fm g
/-! how many there are -/
def boxW (nw : Nat) : List Int := -1 :: -2 :: (List.range nw).map fun w : Nat => (w : Int)
def box (last nw n : Nat) : List G3 := (List.range (n + 1)).flatMap fun p => (allP last nw).flatMap fun l => (boxW nw).map fun w => (p, l, w)
theorem box_mem {last nw n : Nat} {a : G3} (h : GOk last nw n a) : a ∈ box last nw n := by
  refine List.mem_flatMap.mpr ⟨a.1, List.mem_range.mpr (by have := h.p; omega), List.mem_flatMap.mpr ⟨a.2.1, allP_mem nw _ h.l h.b, List.mem_map.mpr ⟨a.2.2, ?_, rfl⟩⟩⟩
  unfold boxW
  rcases h.w with z | z | ⟨z1, z2⟩
  · rw [z]; exact List.mem_cons_self ..
  · rw [z]; exact List.mem_cons_of_mem _ (List.mem_cons_self ..)
  · obtain ⟨k, hk⟩ := Int.eq_ofNat_of_zero_le z1
    rw [hk]
    exact List.mem_cons_of_mem _ (List.mem_cons_of_mem _ (List.mem_map.mpr ⟨k, List.mem_range.mpr (by omega), rfl⟩))
theorem flat_len {α β : Type} {f : α → List β} {k : Nat} : ∀ l : List α, (∀ a ∈ l, (f a).length = k) → (l.flatMap f).length = l.length * k
  | [], _ => by simp
  | a :: l, h => by
    rw [List.flatMap_cons, List.length_append, h a (List.mem_cons_self ..), flat_len l fun b hb => h b (List.mem_cons_of_mem _ hb), List.length_cons, Nat.succ_mul]
    omega
theorem box_len {last nw n : Nat} (h5 : last ≤ 5) (h3 : nw ≤ 3) (hn : n ≤ 60) : (box last nw n).length ≤ 65880 := by
  have e1 : ∀ p : Nat, ((allP last nw).flatMap fun l => (boxW nw).map fun w => ((p, l, w) : G3)).length = (last + 1) ^ nw * (nw + 2) := fun p => by
    rw [flat_len (k := nw + 2) _ fun l _ => by rw [List.length_map]; simp [boxW], allP_len]
  unfold box
  rw [flat_len _ fun p _ => e1 p, List.length_range]
  have p1 : (last + 1) ^ nw ≤ 6 ^ nw := Nat.pow_le_pow_left (by omega) nw
  have p2 : 6 ^ nw ≤ 6 ^ 3 := Nat.pow_le_pow_right (by decide) h3
  have p3 : (6 : Nat) ^ 3 = 216 := by decide
  have p4 : (last + 1) ^ nw * (nw + 2) ≤ 216 * 5 := Nat.mul_le_mul (by omega) (by omega)
  have p5 : (n + 1) * ((last + 1) ^ nw * (nw + 2)) ≤ 61 * (216 * 5) := Nat.mul_le_mul (by omega) p4
  omega
theorem kn_few {last nw n : Nat} (h5 : last ≤ 5) (h3 : nw ≤ 3) (hn : n ≤ 60) {kn : List G3} (nd : kn.Nodup) (ok : ∀ a ∈ kn, GOk last nw n a) : kn.length ≤ 65880 :=
  Nat.le_trans (List.Nodup.length_le_of_subset nd fun a ha => box_mem (ok a ha)) (box_len h5 h3 hn)
/-! in the heap -/
def GA (H : Hp) (t : Addr) (a : G3) : Prop := ∃ p, H t = some (.tup [.int (a.1 : Int), .ref p, .int a.2.2]) ∧ H p = some (.tup (a.2.1.map V.int))
theorem GA.keep {H H' : Hp} {t : Addr} {a : G3} (h : GA H t a) (k : KeepT H H') : GA H' t a := let ⟨p, a, b⟩ := h; ⟨p, k _ _ a, k _ _ b⟩
def FdA (H : Hp) (t : Addr) (f : List Int × Int) : Prop := ∃ p, H t = some (.tup [.ref p, .int f.2]) ∧ H p = some (.tup (f.1.map V.int))
theorem FdA.keep {H H' : Hp} {t : Addr} {a : List Int × Int} (h : FdA H t a) (k : KeepT H H') : FdA H' t a := let ⟨p, a, b⟩ := h; ⟨p, k _ _ a, k _ _ b⟩
def keyG (a : G3) : NestedKey := .tup [.num (a.1 : Int), .tup (a.2.1.map .num), .num a.2.2]
theorem nums_inj : ∀ {x y : List Int}, x.map NestedKey.num = y.map .num → x = y
  | [], [], _ => rfl
  | [], _ :: _, e => by cases e
  | _ :: _, [], e => by cases e
  | i :: x, j :: y, e => by
    rw [List.map_cons, List.map_cons] at e
    injection e with e1 e2
    rw [nums_inj e2, NestedKey.num.inj e1]
theorem keyG_inj {a b : G3} (h : keyG a = keyG b) : a = b := by
  obtain ⟨p, l, w⟩ := a
  obtain ⟨q, m, v⟩ := b
  have h1 : [NestedKey.num (p : Int), .tup (l.map .num), .num w] = [NestedKey.num (q : Int), .tup (m.map .num), .num v] := NestedKey.tup.inj h
  injection h1 with h2 h3
  injection h3 with h4 h5
  injection h5 with h6 _
  have e1 := NestedKey.num.inj h2
  have e2 : p = q := by omega
  rw [e2, nums_inj (NestedKey.tup.inj h4), NestedKey.num.inj h6]
theorem GA.key {B : Bool} {H : Hp} {t : Addr} {a : G3} (h : GA H t a) : KeyB B H (keyG a) t := by
  obtain ⟨p, e1, e2⟩ := h
  refine ⟨.tup e1 (.cons (.int _) (.cons (.tup e2 (nks_ints _)) (.cons (.int _) .nil))), ?_⟩
  show NestedKey.depth (.tup [.num _, .tup (a.2.1.map .num), .num _]) ≤ 8
  simp only [NestedKey.depth, NestedKey.depthAll, depth_nums]
  decide
def kvK (g : List G3) : List (NestedKey × V) := g.map fun s => (keyG s, V.bl true)
theorem kvK_len (g : List G3) : (kvK g).length = g.length := by simp [kvK]
theorem kvK_none {s : G3} : ∀ {g : List G3}, ¬ s ∈ g → valV (kvK g) (keyG s) = none
  | [], _ => rfl
  | a :: g, h => by
    show valV ((keyG a, V.bl true) :: kvK g) (keyG s) = none
    rw [valV_neg (fun z => h (by rw [keyG_inj z]; exact List.mem_cons_self ..))]
    exact kvK_none fun z => h (List.mem_cons_of_mem _ z)
theorem kvK_some {s : G3} : ∀ {g : List G3}, s ∈ g → valV (kvK g) (keyG s) = some (.bl true)
  | a :: g, h => by
    show valV ((keyG a, V.bl true) :: kvK g) (keyG s) = _
    by_cases c : keyG a = keyG s
    · rw [valV_pos c]
    · rw [valV_neg c]
      rcases List.mem_cons.mp h with z | z
      · exact absurd (by rw [z]) c
      · exact kvK_some z
theorem kvK_put {g : List G3} {s : G3} (h : ¬ s ∈ g) : putK (kvK g) (keyG s) (.bl true) = kvK (g ++ [s]) := by
  rw [putK_new _ (kvK_none h)]
  unfold kvK
  rw [List.map_append]
  rfl
theorem kvK_in {g : List G3} {s : G3} : (valV (kvK g) (keyG s)).isSome = decide (s ∈ g) := by
  by_cases c : s ∈ g
  · rw [kvK_some c, decide_eq_true c]; rfl
  · rw [kvK_none c, decide_eq_false c]; rfl
/-! things at addresses -/
def AtX {α : Type} (R : Addr → α → Prop) (ads : List Addr) (xs : List α) : Prop := ads.length = xs.length ∧ ∀ (i : Nat) a x, ads[i]? = some a → xs[i]? = some x → R a x
theorem AtX.mono {α : Type} {R S : Addr → α → Prop} {ads : List Addr} {xs : List α} (h : AtX R ads xs) (k : ∀ a x, R a x → S a x) : AtX S ads xs := ⟨h.1, fun i a x h1 h2 => k _ _ (h.2 i a x h1 h2)⟩
theorem AtX.nil {α : Type} {R : Addr → α → Prop} : AtX R [] ([] : List α) := ⟨rfl, fun i x y z => by simp at z⟩
theorem AtX.snoc {α : Type} {R : Addr → α → Prop} {ads : List Addr} {xs : List α} {a : Addr} {x : α} (h : AtX R ads xs) (r : R a x) : AtX R (ads ++ [a]) (xs ++ [x]) := by
  refine ⟨by rw [List.length_append, List.length_append, h.1]; rfl, fun i b y h1 h2 => ?_⟩
  have l1 := h.1
  by_cases c : i < ads.length
  · rw [List.getElem?_append_left c] at h1
    rw [List.getElem?_append_left (by omega)] at h2
    exact h.2 i b y h1 h2
  · rw [List.getElem?_append_right (by omega)] at h1 h2
    have z : i - ads.length = 0 := by
      have := (List.getElem?_eq_some_iff.mp h1).1
      simp at this
      omega
    rw [z] at h1
    rw [← l1, z] at h2
    cases h1
    cases h2
    exact r
theorem snoc_of {α : Type} {l : List α} (h : l ≠ []) : ∃ i x, l = i ++ [x] := ⟨l.dropLast, l.getLast h, (List.dropLast_concat_getLast h).symm⟩
theorem AtX.unsnoc {α : Type} {R : Addr → α → Prop} {ads : List Addr} {xs : List α} (h : AtX R ads xs) (n : xs ≠ []) : ∃ as a ys y, ads = as ++ [a] ∧ xs = ys ++ [y] ∧ AtX R as ys ∧ R a y := by
  obtain ⟨ys, y, rfl⟩ := snoc_of n
  have l1 := h.1
  have na : ads ≠ [] := fun z => by rw [z] at l1; simp at l1
  obtain ⟨as, a, rfl⟩ := snoc_of na
  rw [List.length_append, List.length_append] at l1
  have l2 : as.length = ys.length := by
    have e1 : [a].length = 1 := rfl
    have e2 : [y].length = 1 := rfl
    omega
  refine ⟨as, a, ys, y, rfl, rfl, ⟨l2, fun i b z h1 h2 => h.2 i b z (by rw [List.getElem?_append_left (List.getElem?_eq_some_iff.mp h1).1]; exact h1) (by rw [List.getElem?_append_left (List.getElem?_eq_some_iff.mp h2).1]; exact h2)⟩, h.2 as.length a y (by simp) (by rw [l2]; simp)⟩
theorem AtX.at_ {α : Type} {R : Addr → α → Prop} {ads : List Addr} {xs : List α} (h : AtX R ads xs) {i : Nat} {v : V} (hv : (ads.map V.ref)[i]? = some v) : ∃ a x, ads[i]? = some a ∧ xs[i]? = some x ∧ v = .ref a ∧ R a x := by
  rw [List.getElem?_map] at hv
  cases e : ads[i]? with
  | none => rw [e] at hv; cases hv
  | some a =>
    rw [e] at hv
    have il : i < xs.length := by rw [← h.1]; exact (List.getElem?_eq_some_iff.mp e).1
    exact ⟨a, _, rfl, List.getElem?_eq_getElem il, (Option.some.inj hv).symm, h.2 i a _ e (List.getElem?_eq_getElem il)⟩
/-- data of the items -/
def dG (a : G3) : PyData := .tuple [.int (a.1 : Int), .tuple (a.2.1.map .int), .int a.2.2]
theorem dp_G {K : PySem.W.Frag} {H : Hp} {t : Addr} {a : G3} (h : GA H t a) : Dp K H (.ref t) (dG a) := by
  obtain ⟨p, h1, h2⟩ := h
  exact .tup (SqT.of h1) (.cons (.int _) (.cons (.tup (SqT.of h2) (dp_ints _)) (.cons (.int _) .nil)))
theorem dp_Gs {K : PySem.W.Frag} {H : Hp} : ∀ {ads : List Addr} {ps : List G3}, AtX (GA H) ads ps → DpAll K H (ads.map V.ref) (ps.map dG)
  | [], [], _ => .nil
  | [], _ :: _, h => by cases h.1
  | _ :: _, [], h => by cases h.1
  | a :: ads, p :: ps, h => .cons (dp_G (h.2 0 a p rfl rfl)) (dp_Gs ⟨by simpa using h.1, fun i a x h1 h2 => h.2 (i + 1) a x (by simpa using h1) (by simpa using h2)⟩)
theorem lay_G (a : G3) : (dG a).canLay0 = true ∧ (dG a).depth ≤ 2 := by
  have x := canLay_ints a.2.1
  have y := depth_ints a.2.1
  unfold dG
  refine ⟨by simp only [PyData.canLay0, PyData.canLayAll0, x, Bool.and_self], ?_⟩
  simp only [PyData.depth, PyData.depthAll]
  omega
theorem shaped_Gs (ps : List G3) : SeqAt.shaped (.list (ps.map dG)) = true := by
  have all : PyData.canLayAll0 (ps.map dG) = true ∧ PyData.depthAll (ps.map dG) ≤ 2 := by
    induction ps with
    | nil => exact ⟨by simp [PyData.canLayAll0], by simp [PyData.depthAll]⟩
    | cons p ps ih =>
      obtain ⟨a1, b1⟩ := lay_G p
      refine ⟨by simp only [List.map_cons, PyData.canLayAll0, a1, ih.1, Bool.and_self], ?_⟩
      have := ih.2
      simp only [List.map_cons, PyData.depthAll]
      omega
  show (PyData.canLay0 (.list (ps.map dG)) && decide (PyData.depth (.list (ps.map dG)) ≤ 64)) = true
  have h1 : PyData.canLay0 (.list (ps.map dG)) = true := by
    simp only [PyData.canLay0]
    exact all.1
  have h2 : PyData.depth (.list (ps.map dG)) ≤ 64 := by
    have := all.2
    simp only [PyData.depth]
    omega
  rw [h1, decide_eq_true h2]
  rfl
theorem shaped_nil : SeqAt.shaped (.list []) = true := by decide +kernel
theorem eqv_nilD (ds : List PyData) : PyData.eqv (.list ds) (.list []) = ds.isEmpty := by
  cases ds with
  | nil => simp [PyData.eqv, PyData.eqvAll]
  | cons a l => simp [PyData.eqv, PyData.eqvAll]
/-- what _law_grown has -/
structure Gw (P : Program) (w : World) (H0 H : Hp) (F L D : Addr) (fd : List (List Int × Int)) (st kn : List G3) : Prop where
  s : Same H0 H
  nF : H0 F = none
  nL : H0 L = none
  nD : H0 D = none
  FL : F ≠ L
  hF : ∃ fa : List Addr, H F = some (.lst (fa.map V.ref)) ∧ AtX (FdA H) fa fd
  hL : ∃ la : List Addr, H L = some (.lst (la.map V.ref)) ∧ AtX (GA H) la st
  hD : DN P w false H D (kvK kn)
section
variable {P : Program} {w : World} {H0 H H' : Hp} {F L D : Addr} {fd : List (List Int × Int)} {st kn : List G3}
theorem Gw.same (g : Gw P w H0 H F L D fd st kn) (s : Same H H') : Gw P w H0 H' F L D fd st kn := by
  obtain ⟨fa, f1, f2⟩ := g.hF
  obtain ⟨la, l1, l2⟩ := g.hL
  obtain ⟨o, e⟩ := dn_some g.hD
  have k := Same.keepT s
  exact ⟨g.s.trans s, g.nF, g.nL, g.nD, g.FL, ⟨fa, s _ _ f1, f2.mono fun _ _ h => h.keep k⟩, ⟨la, s _ _ l1, l2.mono fun _ _ h => h.keep k⟩, g.hD.keep (by rw [s _ _ e, e]) k⟩
theorem Gw.DF (g : Gw P w H0 H F L D fd st kn) : D ≠ F := fun z => by
  obtain ⟨fa, f1, _⟩ := g.hF
  exact dn_lst g.hD _ (by rw [z]; exact f1)
theorem Gw.DL (g : Gw P w H0 H F L D fd st kn) : D ≠ L := fun z => by
  obtain ⟨la, l1, _⟩ := g.hL
  exact dn_lst g.hD _ (by rw [z]; exact l1)
theorem Gw.found (g : Gw P w H0 H F L D fd st kn) {fa : List Addr} {t : Addr} {f : List Int × Int} (h : H F = some (.lst (fa.map V.ref))) (ht : FdA H t f) : Gw P w H0 (upd H F (.lst (fa.map V.ref ++ [.ref t]))) F L D (fd ++ [f]) st kn := by
  obtain ⟨fa', f1, f2⟩ := g.hF
  rw [h] at f1
  have e : fa.map V.ref = fa'.map V.ref := by injection f1 with f1; injection f1
  rw [e] at h ⊢
  obtain ⟨la, l1, l2⟩ := g.hL
  have k : KeepT H (upd H F (.lst (fa'.map V.ref ++ [.ref t]))) := keepT_upd h (fun xs z => by cases z)
  refine ⟨fun b o z => by rw [upd_ne (ne_of_none z g.nF)]; exact g.s _ _ z, g.nF, g.nL, g.nD, g.FL, ⟨fa' ++ [t], by rw [List.map_append]; exact upd_same, (f2.mono fun _ _ h => h.keep k).snoc (ht.keep k)⟩, ⟨la, by rw [upd_ne g.FL.symm]; exact l1, l2.mono fun _ _ h => h.keep k⟩, g.hD.keep (upd_ne g.DF) k⟩
theorem Gw.lay (g : Gw P w H0 H F L D fd st kn) {xs : List V} {la2 : List Addr} {st2 : List G3} (h : H L = some (.lst xs)) (a : ∀ H', KeepT H H' → AtX (GA H') la2 st2) : Gw P w H0 (upd H L (.lst (la2.map V.ref))) F L D fd st2 kn := by
  obtain ⟨fa, f1, f2⟩ := g.hF
  have k : KeepT H (upd H L (.lst (la2.map V.ref))) := keepT_upd h (fun xs z => by cases z)
  exact ⟨fun b o z => by rw [upd_ne (ne_of_none z g.nL)]; exact g.s _ _ z, g.nF, g.nL, g.nD, g.FL, ⟨fa, by rw [upd_ne g.FL]; exact f1, f2.mono fun _ _ h => h.keep k⟩, ⟨la2, upd_same, a _ k⟩, g.hD.keep (upd_ne g.DL) k⟩
theorem Gw.know (g : Gw P w H0 H F L D fd st kn) {kn2 : List G3} (oa : OnlyAt H H' D) (dn : DN P w false H' D (kvK kn2)) : Gw P w H0 H' F L D fd st kn2 ∧ KeepT H H' := by
  have k : KeepT H H' := fun c xs e => by rw [oa c fun z => dn_tup g.hD _ (by rw [← z]; exact e)]; exact e
  obtain ⟨fa, f1, f2⟩ := g.hF
  obtain ⟨la, l1, l2⟩ := g.hL
  exact ⟨⟨fun b o z => by rw [oa b (ne_of_none z g.nD)]; exact g.s _ _ z, g.nF, g.nL, g.nD, g.FL, ⟨fa, by rw [oa F g.DF.symm]; exact f1, f2.mono fun _ _ h => h.keep k⟩, ⟨la, by rw [oa L g.DL.symm]; exact l1, l2.mono fun _ _ h => h.keep k⟩, dn⟩, k⟩
end
/-- all else stays -/
def Kp (F L D : Addr) (H H' : Hp) : Prop := ∀ c o, H c = some o → c ≠ F → c ≠ L → c ≠ D → H' c = some o
theorem kp_L {F L D : Addr} {H : Hp} {o : HO} : Kp F L D H (upd H L o) := fun c o e _ n _ => by rw [upd_ne n]; exact e
theorem kp_F {F L D : Addr} {H : Hp} {o : HO} : Kp F L D H (upd H F o) := fun c o e n _ _ => by rw [upd_ne n]; exact e
theorem joinH1 {P ok : Hp → Prop} {G : Prop} (a : (∀ Hx, ok Hx → P Hx) → G) (b : ∀ Hx, ok Hx → P Hx) : G := a b
/-- what is found and what is left to look at -/
structure Gi (fr : List T3) (seg : Str) (nw last : Nat) (now : List Int) (fd : List (List Int × Int)) (st kn : List G3) (ex : List G3) : Prop where
  s : ∀ a ∈ st, Rc fr seg nw now a
  k : ∀ a ∈ kn, Rc fr seg nw now a
  nd : kn.Nodup
  c : ∀ a, (a = (0, now, -1) ∨ a ∈ kn) → a ∈ st ∨ a ∈ ex ∨ ((∀ w n, Go1 fr seg nw a w n → tgt fr a w n ∈ kn) ∧ (a.1 = seg.length → a.2 ∈ fd))
  f : ∀ f ∈ fd, Rc fr seg nw now (seg.length, f)
  l : fd.length + st.length ≤ kn.length + 1
theorem Gi.all {fr : List T3} {seg : Str} {nw last : Nat} {now : List Int} {fd : List (List Int × Int)} {kn : List G3} (g : Gi fr seg nw last now fd [] kn []) : ∀ f, f ∈ fd ↔ Rc fr seg nw now (seg.length, f) := by
  have cl : ∀ a, (a = (0, now, -1) ∨ a ∈ kn) → (∀ w n, Go1 fr seg nw a w n → tgt fr a w n ∈ kn) ∧ (a.1 = seg.length → a.2 ∈ fd) := fun a h => by
    rcases g.c a h with z | z | z
    · cases z
    · cases z
    · exact z
  have al : ∀ a, Rc fr seg nw now a → a = (0, now, -1) ∨ a ∈ kn := by
    intro a h
    induction h with
    | nil => exact .inl rfl
    | snoc _ g1 ih => exact .inr ((cl _ ih).1 _ _ g1)
  exact fun f => ⟨g.f f, fun h => (cl _ (al _ h)).2 rfl⟩
section
variable {fr : List T3} {seg : Str} {nw last : Nat} {now : List Int} {fd : List (List Int × Int)} {st kn : List G3} {a b : G3}
theorem Gi.pop (g : Gi fr seg nw last now fd (st ++ [a]) kn []) : Gi fr seg nw last now fd st kn [a] ∧ fd.length + st.length ≤ kn.length ∧ Rc fr seg nw now a := by
  have l := g.l
  rw [List.length_append] at l
  have l2 : [a].length = 1 := rfl
  refine ⟨⟨fun b hb => g.s b (List.mem_append_left _ hb), g.k, g.nd, fun b hb => ?_, g.f, by omega⟩, by omega, g.s a (List.mem_append_right _ (List.mem_cons_self ..))⟩
  rcases g.c b hb with z | z | z
  · rcases List.mem_append.mp z with z | z
    · exact .inl z
    · exact .inr (.inl z)
  · cases z
  · exact .inr (.inr z)
theorem Gi.find (g : Gi fr seg nw last now fd st kn [a]) (l : fd.length + st.length ≤ kn.length) (r : Rc fr seg nw now a) (e : a.1 = seg.length) : Gi fr seg nw last now (fd ++ [a.2]) st kn [a] := by
  refine ⟨g.s, g.k, g.nd, fun b hb => ?_, fun f hf => ?_, by rw [List.length_append]; show _ + 1 + _ ≤ _; omega⟩
  · rcases g.c b hb with z | z | z
    · exact .inl z
    · exact .inr (.inl z)
    · exact .inr (.inr ⟨z.1, fun h => List.mem_append_left _ (z.2 h)⟩)
  · rcases List.mem_append.mp hf with z | z
    · exact g.f f z
    · rw [List.mem_singleton.mp z, ← e]
      exact r
theorem Gi.add {w n : Int} (g : Gi fr seg nw last now fd st kn [a]) (r : Rc fr seg nw now a) (h : Go1 fr seg nw a w n) (nk : ¬ tgt fr a w n ∈ kn) : Gi fr seg nw last now fd (st ++ [tgt fr a w n]) (kn ++ [tgt fr a w n]) [a] := by
  have r2 := r.snoc h
  refine ⟨fun b hb => ?_, fun b hb => ?_, ?_, fun b hb => ?_, g.f, by rw [List.length_append, List.length_append]; have := g.l; omega⟩
  · rcases List.mem_append.mp hb with z | z
    · exact g.s b z
    · rw [List.mem_singleton.mp z]; exact r2
  · rcases List.mem_append.mp hb with z | z
    · exact g.k b z
    · rw [List.mem_singleton.mp z]; exact r2
  · refine List.nodup_append.mpr ⟨g.nd, by simp, fun x hx y hy => ?_⟩
    rw [List.mem_singleton.mp hy]
    exact fun z => nk (z ▸ hx)
  · have cl : (b = (0, now, -1) ∨ b ∈ kn) → b ∈ st ++ [tgt fr a w n] ∨ b ∈ [a] ∨ ((∀ w' n', Go1 fr seg nw b w' n' → tgt fr b w' n' ∈ kn ++ [tgt fr a w n]) ∧ (b.1 = seg.length → b.2 ∈ fd)) := fun h => by
      rcases g.c b h with z | z | z
      · exact .inl (List.mem_append_left _ z)
      · exact .inr (.inl z)
      · exact .inr (.inr ⟨fun w' n' h => List.mem_append_left _ (z.1 w' n' h), z.2⟩)
    rcases hb with z | z
    · exact cl (.inl z)
    · rcases List.mem_append.mp z with z | z
      · exact cl (.inr z)
      · exact .inl (List.mem_append_right _ z)
theorem Gi.done (g : Gi fr seg nw last now fd st kn [a]) (h : ∀ w n, Go1 fr seg nw a w n → tgt fr a w n ∈ kn) (e : a.1 = seg.length → a.2 ∈ fd) : Gi fr seg nw last now fd st kn [] := by
  refine ⟨g.s, g.k, g.nd, fun b hb => ?_, g.f, g.l⟩
  rcases g.c b hb with z | z | z
  · exact .inl z
  · rw [List.mem_singleton.mp z]
    exact .inr (.inr ⟨h, e⟩)
  · exact .inr (.inr z)
theorem gi_start : Gi fr seg nw last now [] [(0, now, -1)] [] [] := by
  refine ⟨fun b hb => ?_, (fun b hb => nomatch hb), List.nodup_nil, fun b hb => ?_, (fun b hb => nomatch hb), by simp⟩
  · rw [List.mem_singleton.mp hb]; exact .nil
  · rcases hb with z | z
    · rw [z]; exact .inl (List.mem_cons_self ..)
    · cases z
end
end K35

set_option Elab.async false
set_option linter.all false
set_option maxRecDepth 100000
set_option maxHeartbeats 8000000
/-! _law_grown. -/
namespace K35
open PySem L2 L2.EV
abbrev sGrown : Stmt := top 48
abbrev NGr : List Str := ["framing", "segment", "now", "found", "layer", "known", "place", "here", "whose", "writer", "number", "put", "own", "stand", "fresh"]
def spGrown : Sp := fun vs H Q _ => ∃ (f a : Addr) (fr : List T3) (last : Nat) (seg : Str) (now : List Int), vs = [.ref f, .str seg, .ref a] ∧ FrA H f fr ∧ Frm fr last ∧ seg.length ≤ 60 ∧ H a = some (.tup (now.map V.int)) ∧ 1 ≤ now.length ∧ now.length ≤ 3 ∧ (∀ q ∈ now, 0 ≤ q ∧ q ≤ last) ∧
  ∀ (H' : Hp) (p : Addr) (fa : List Addr) (fd : List (List Int × Int)), Same H H' → H p = none → H' p = some (.lst (fa.map V.ref)) → AtX (FdA H') fa fd → (∀ f, f ∈ fd ↔ Rc fr seg now.length now (seg.length, f)) → fd.length ≤ 65881 → Q (.ref p) H'
structure Lg (K : PySem.W.Frag) (mg : Str → Option Value) where
  W : Lw K mg
  X : Lx K mg
  f : Addr
  d : FuncData
  F : Fun K "_law_grown" "_law_grown" sGrown f d
  b : Binds K d ["framing", "segment", "now"] []
  g : mg "_law_grown" = some (.ref f)
theorem joinS {t1 t2 : TS} {D : Ends} {L1 L2 : List (Option V)} {H : Hp} {G : Prop} (x : Int) (a : (∀ o, o = x → tSeq t1 t2 D (L1 ++ some (.int o) :: L2) H) → G) (b : ∀ o, o = x → tSeq t1 t2 D (L1 ++ some (.int o) :: L2) H) : G := a b
section
variable {P : Program} {w : World} {K : PySem.W.Frag} {mg : Str → Option Value} {base : Heap}
theorem scGrown : FnScope NGr ["framing", "segment", "now"] (defScope sGrown) := ⟨rfl, rfl, rfl, by decide +kernel, rfl, by decide +kernel, by decide +kernel⟩
theorem ok_grown (G : Lg K mg) : FnOk P w K mg base CX0 2 G.f G.d ["framing", "segment", "now"] spGrown := by
  have GF : FnOk P w K mg base CX0 1 G.W.f1 G.W.d1 ["framing", "here"] spFromE := ok_fromE G.W
  have GP : FnOk P w K mg base CX0 1 G.X.f1 G.X.d1 ["framing", "entry"] spPutL := ok_putL G.X
  refine G.F.ok scGrown (fun vs H Q E h => ?_) (fun cdv A outer s H vs Q E hr h => ?_)
  · obtain ⟨f, a, fr, last, seg, now, rfl, _⟩ := h
    rfl
  · obtain ⟨f, a, fr, last, seg, now, rfl, fa, fm, s60, ha, n1, n3, nb, q⟩ := h
    have hu : (A.deeper (PyProof.Rows.envOfC "_law_grown" (defScope sGrown) s.heap.objs.size G.f cdv)).units + 9 < cLine := by have := hr.un; omega
    have hu64 : (A.deeper (PyProof.Rows.envOfC "_law_grown" (defScope sGrown) s.heap.objs.size G.f cdv)).units + 64 < cLine := by have := hr.un; omega
    refine ⟨_, pss_cons (ps_par3 (i := 3) (j := 4) (l := 5) (x := "found") (y := "layer") (z := "known") rfl scGrown.nd rfl rfl rfl (by decide) (by decide) (by decide) rfl rfl rfl (pa_cons (pe_lst pa_nil) (pa_cons (pe_lst (pa_cons (pe_tup (pa_cons pe_int (pa_cons (pv 2) (pa_cons (pe_un un_neg pe_int) pa_nil)))) pa_nil)) (pa_cons pe_nnew pa_nil))) (by rfl))
      (pss_cons (ps_while PassesOwn.never (pt_cmpR (op_neD hu64) (pv 4) (pe_lst pa_nil) (nomark _))
        (pss_cons (ps_asg (pe_bm0 PySem.F.plainAttrs_list PySem.F.slot_list_pop PySem.F.type_list_pop mt_pop (pv 4)) (pg_tup rfl (pgs_cons (pg_name (i := 6) scGrown.nd rfl (Or.inl rfl)) (pgs_cons (pg_name (i := 7) scGrown.nd rfl (Or.inl rfl)) (pgs_cons (pg_name (i := 8) scGrown.nd rfl (Or.inl rfl)) pgs_nil)))))
        (pss_cons (ps_if (pt_cmpR op_eq (pv 6) (pe_callB call_len_str (by rfl) G.W.G.L.T.len PySem.boot_len (pa_cons (pv 1) pa_nil)) (nomark _))
          (pss_one (ps_expr (pe_bm PySem.F.plainAttrs_list PySem.F.slot_list_append PySem.F.type_list_append mt_append (pv 3) (pa_cons (pe_tup (pa_cons (pv 7) (pa_cons (pv 8) pa_nil))) pa_nil)))) pss_nil)
        (pss_one (ps_for PassesOwn.never rfl (pi_range1 (by rfl) G.W.G.L.ra (pa_cons (pe_callB call_len_seq (by rfl) G.W.G.L.T.len PySem.boot_len (pa_cons (pv 2) pa_nil)) pa_nil)) (pg_name (i := 9) scGrown.nd rfl (Or.inl rfl))
          (pss_one (ps_for PassesOwn.never rfl (pi_list (pe_call GF hr (by rfl) G.W.gF G.W.F.kp G.W.bF .nil pass0 (pa_cons (pv 0) (pa_cons (pe_ix ix_tup (pv 7) (pv 9) (fun _ _ => rfl)) pa_nil)))) (pg_name (i := 10) scGrown.nd rfl (Or.inl rfl))
            (pss_cons (ps_set (i := 11) scGrown.nd rfl (Or.inl rfl) (pe_call GP hr (by rfl) G.X.gP G.X.P.kp G.X.bP .nil pass0 (pa_cons (pv 0) (pa_cons (pe_tup (pa_cons (pv 9) (pa_cons (pv 10) pa_nil))) pa_nil))))
            (pss_cons (ps_set (i := 12) scGrown.nd rfl (Or.inl rfl) (pe_ifExp (pt_cmpR op_eq (pv 8) (pv 9) (nomark _)) (pv 8) (pe_un un_neg pe_int)))
            (pss_cons (ps_if (pw_and (pt_cmpR op_eq (pv 8) (pe_un un_neg pe_int) (nomark _)) (pw_and1 (pt_cmpR op_eq (pe_ix ix_tup (pv 7) (pv 9) (fun _ _ => rfl)) pe_int (nomark _)))).pt
              (pss_one (ps_set (i := 12) scGrown.nd rfl (Or.inl rfl) (pv 9))) pss_nil)
            (pss_cons (ps_set (i := 13) scGrown.nd rfl (Or.inl rfl) (pe_op op_catZ (pe_op op_catZ (pe_slice sl_tupS (pv 7) po_none (po_some (pv 9))) (pe_tup (pa_cons (pe_ix ix_tup (pe_ix ix_tup (pv 0) (pv 10) (fun _ _ => rfl)) pe_int (fun _ _ => rfl)) pa_nil))) (pe_slice sl_tupS (pv 7) (po_some (pe_op op_add (pv 9) pe_int)) po_none)))
            (pss_cons (ps_set (i := 14) scGrown.nd rfl (Or.inl rfl) (pe_tup (pa_cons (pe_op op_add (pv 6) (pe_callB call_len_str (by rfl) G.W.G.L.T.len PySem.boot_len (pa_cons (pv 11) pa_nil))) (pa_cons (pv 13) (pa_cons (pv 12) pa_nil)))))
            (pss_one (ps_if (pw_and (pt_cmpR op_eq (pe_slice sl_str (pv 1) (po_some (pv 6)) (po_some (pe_op op_add (pv 6) (pe_callB call_len_str (by rfl) G.W.G.L.T.len PySem.boot_len (pa_cons (pv 11) pa_nil))))) (pv 11) (nomark _)) (pw_and1 (pt_cmp (pc_nnotin (B := false) hu (pv 14) (pv 5)) (by rfl)))).pt
              (pss_cons (ps_nput (B := false) hu (pv 5) (pv 14) pe_bl rfl)
              (pss_one (ps_expr (pe_bm PySem.F.plainAttrs_list PySem.F.slot_list_append PySem.F.type_list_append mt_append (pv 4) (pa_cons (pv 14) pa_nil))))) pss_nil))))))))))))))
      (pss_one (ps_ret (pv 3)))), ?_⟩
    refine ⟨by decide, fun F nF => ?_⟩
    have uF := same_upd (o := HO.lst []) nF
    refine ⟨_, rfl, 1, rfl, (by show 3 ≤ sizeLine; decide), fun T0 nT => ?_⟩
    have uT := same_upd (o := HO.tup [V.int 0, V.ref a, V.int (-1)]) nT
    refine ⟨(by show 1 ≤ sizeLine; decide), fun L nL => ?_⟩
    have uL := same_upd (o := HO.lst [V.ref T0]) nL
    refine fun D nD => ⟨_, _, _, rfl, ?_⟩
    have uD := same_upd (o := DNo P w D []) nD
    have s0 := uF.trans (uT.trans (uL.trans uD))
    have g0 : Gw P w H (upd (upd (upd (upd H F (.lst [])) T0 (.tup [V.int 0, V.ref a, V.int (-1)])) L (.lst [V.ref T0])) D (DNo P w D [])) F L D [] [(0, now, -1)] [] := by
      refine ⟨s0, nF, same_none (uF.trans uT) nL, same_none (uF.trans (uT.trans uL)) nD, fun z => ?_, ⟨[], ?_, AtX.nil⟩, ⟨[T0], uD _ _ upd_same, AtX.snoc (ads := []) (xs := []) AtX.nil ⟨a, uD _ _ (uL _ _ upd_same), s0 _ _ ha⟩⟩, DN.new⟩
      · rw [← z, uT _ _ upd_same] at nL
        cases nL
      · exact uD _ _ (uL _ _ (uT _ _ upd_same))
    have few : ∀ {kn : List G3}, (∀ b ∈ kn, Rc fr seg now.length now b) → kn.Nodup → kn.length ≤ 65880 := fun hk nd => kn_few fm.l5 n3 s60 nd fun b hb => (hk b hb).ok fm rfl nb
    refine ⟨fun m σ H' => ∃ (fd : List (List Int × Int)) (st kn : List G3) (v6 v7 v8 v9 v10 v11 v12 v13 v14 : Option V), σ = [some (.ref f), some (.str seg), some (.ref a), some (.ref F), some (.ref L), some (.ref D), v6, v7, v8, v9, v10, v11, v12, v13, v14] ∧
      Gw P w H H' F L D fd st kn ∧ Gi fr seg now.length last now fd st kn [] ∧ m = 2 * (65880 - kn.length) + st.length,
      ⟨_, [], [(0, now, -1)], [], none, none, none, none, none, none, none, none, none, rfl, g0, gi_start, rfl⟩, ?_⟩
    clear g0 s0 uD uL uT uF nD nL nT
    rintro m σ H1 ⟨fd, st, kn, v6, v7, v8, v9, v10, v11, v12, v13, v14, rfl, gw, gi, rfl⟩
    obtain ⟨la, hL, aL⟩ := gw.hL
    refine ⟨_, rfl, by decide, fun p3 np3 => ?_⟩
    have u3 := same_upd (o := HO.lst []) np3
    refine ⟨.list (st.map dG), .list [], .lst (SqL.of (u3 _ _ hL)) (dp_Gs (aL.mono fun x p h => h.keep (Same.keepT u3))), .lst (SqL.of upd_same) .nil, shaped_Gs st, shaped_nil, _, rfl, ?_⟩
    rw [eqv_nilD, List.isEmpty_map]
    have gw2 := gw.same u3
    clear gw hL aL
    generalize upd H1 p3 (HO.lst []) = H2 at gw2
    by_cases c : st = []
    · subst c
      refine iteF' rfl ?_
      obtain ⟨fa2, hF, aF⟩ := gw2.hF
      refine ⟨_, rfl, q H2 F fa2 fd gw2.s gw2.nF hF aF gi.all ?_⟩
      have := gi.l
      have := few gi.k gi.nd
      show fd.length ≤ 65881
      have e : ([] : List G3).length = 0 := rfl
      omega
    · refine iteT' (by cases st with | nil => exact absurd rfl c | cons _ _ => rfl) ?_
      obtain ⟨la2, hL2, aL2⟩ := gw2.hL
      obtain ⟨la3, k, st1, it, rfl, rfl, aL3, ik⟩ := aL2.unsnoc c
      obtain ⟨gi1, gl, rc⟩ := gi.pop
      refine ⟨fun σ' H' => ∃ (fd : List (List Int × Int)) (st kn2 : List G3) (v6 v7 v8 v9 v10 v11 v12 v13 v14 : Option V), σ' = [some (.ref f), some (.str seg), some (.ref a), some (.ref F), some (.ref L), some (.ref D), v6, v7, v8, v9, v10, v11, v12, v13, v14] ∧
        Gw P w H H' F L D fd st kn2 ∧ Gi fr seg now.length last now fd st kn2 [] ∧ 2 * (65880 - kn2.length) + st.length < 2 * (65880 - kn.length) + (st1 ++ [it]).length,
        fun σ' H' ⟨fd, st, kn2, v6, v7, v8, v9, v10, v11, v12, v13, v14, h1, h2, h3, h4⟩ => ⟨_, h4, fd, st, kn2, v6, v7, v8, v9, v10, v11, v12, v13, v14, h1, h2, h3, rfl⟩, ?_⟩
      refine ⟨_, rfl, .inl ⟨rfl, _, SqL.of hL2⟩, L, (la3 ++ [k]).map V.ref, .ref k, rfl, rfl, hL2, by simp, ?_⟩
      have hdl : ((la3 ++ [k]).map V.ref).dropLast = la3.map V.ref := by
        rw [List.map_append, List.map_cons, List.map_nil, List.dropLast_concat]
      rw [hdl]
      have kL := keepT_upd (o := .lst (la3.map V.ref)) hL2 (fun xs z => by cases z)
      have gw3 := gw2.lay (la2 := la3) (st2 := st1) hL2 fun H' kp => aL3.mono fun x p h => h.keep kp
      have q3 : Kp F L D H2 (upd H2 L (.lst (la3.map V.ref))) := kp_L
      obtain ⟨pl, e1, e2⟩ := ik.keep kL
      clear ik aL3 aL2 hL2 hdl kL q3 gw2 gi
      generalize upd H2 L (.lst (la3.map V.ref)) = H3 at gw3 e1 e2 ⊢
      refine ⟨k, _, rfl, SqT.of e1, rfl, _, _, rfl, _, _, rfl, _, _, rfl, rfl, ?_⟩
      refine ⟨_, rfl, _, rfl, seg, rfl, by rw [sizeLine_eq]; omega, rfl, _, rfl, ?_⟩
      apply joinH1 (ok := fun Hx => ∃ fd2, Gw P w H Hx F L D fd2 st1 kn ∧ Gi fr seg now.length last now fd2 st1 kn [it] ∧ (it.1 = seg.length → it.2 ∈ fd2) ∧ Hx pl = some (.tup (it.2.1.map V.int)))
      · intro fin
        by_cases z : it.1 = seg.length
        · refine iteT' (by rw [z]; exact decide_eq_true rfl) ?_
          obtain ⟨fa2, hF, aF⟩ := gw3.hF
          refine ⟨_, rfl, .inl ⟨rfl, _, SqL.of hF⟩, _, rfl, _, rfl, (by show 2 ≤ sizeLine; decide), fun t nt => ?_⟩
          have ut := same_upd (o := HO.tup [V.ref pl, V.int it.2.2]) nt
          have gw4 := gw3.same ut
          have hF4 := ut _ _ hF
          refine ⟨F, fa2.map V.ref, _, rfl, rfl, hF4, ?_, ?_⟩
          · have := few gi1.k gi1.nd
            rw [List.length_map, aF.1, sizeLine_eq]
            omega
          · have gw5 := gw4.found (f := it.2) hF4 ⟨pl, upd_same, ut _ _ e2⟩
            exact fin _ ⟨_, gw5, gi1.find gl rc z, fun _ => List.mem_append_right _ (List.mem_cons_self ..), keepT_upd hF4 (fun xs z => by cases z) _ _ (ut _ _ e2)⟩
        · refine iteF' (decide_eq_false fun y => z (by injection y with y; omega)) ?_
          exact fin _ ⟨fd, gw3, gi1, fun y => absurd y z, e2⟩
      · clear gw3 gi1 e1 e2
        rintro Hx ⟨fd2, gwx, gix, hfd, hpl⟩
        have gok := rc.ok fm rfl nb
        refine ⟨_, rfl, a, _, rfl, .inr (SqT.of (gwx.s _ _ ha)), _, rfl, by rw [List.length_map]; omega, by rw [List.length_map]; omega, for_it walk_range (fun i σ H' => ∃ (st kn2 : List G3) (v9 v10 v11 v12 v13 v14 : Option V), σ = [some (.ref f), some (.str seg), some (.ref a), some (.ref F), some (.ref L), some (.ref D), some (.int (it.1 : Int)), some (.ref pl), some (.int it.2.2), v9, v10, v11, v12, v13, v14] ∧
          Gw P w H H' F L D fd2 st kn2 ∧ Gi fr seg now.length last now fd2 st kn2 [it] ∧ H' pl = some (.tup (it.2.1.map V.int)) ∧ (∀ w n : Int, Go1 fr seg now.length it w n → w < (i : Int) → tgt fr it w n ∈ kn2) ∧ 2 * (65880 - kn2.length) + st.length ≤ 2 * (65880 - kn.length) + st1.length)
          ⟨st1, kn, v9, v10, v11, v12, v13, v14, rfl, gwx, gix, hpl, fun w n g h => absurd h (by have := g.a0; omega), Nat.le_refl _⟩ (fun _ _ _ _ _ => trivial) ?_ ?_⟩
        · clear gwx gix hpl v9 v10 v11 v12 v13 v14
          rintro i y σ Hy H4 hi ⟨st, kn2, v9, v10, v11, v12, v13, v14, rfl, gw4, gi4, hpl, dn, ms⟩ ⟨rfl, rfl⟩
          rw [List.length_map] at hi
          have hi : i < now.length := by omega
          have ev : (fun i : Nat => V.int (0 + (i : Int))) i = V.int (i : Int) := by
            show V.int (0 + (i : Int)) = _
            rw [Int.zero_add]
          rw [ev]
          have li : i < it.2.1.length := by rw [gok.l]; exact hi
          have est : stI it.2.1 (i : Int) = it.2.1[i] := by
            unfold stI
            rw [Int.toNat_natCast, List.getD_eq_getElem?_getD, List.getElem?_eq_getElem li]
            rfl
          have hat : atI (it.2.1.map V.int) (i : Int) = some (.int (stI it.2.1 (i : Int))) := atI_nat (by rw [List.getElem?_map, List.getElem?_eq_getElem li, est]; rfl)
          refine ⟨_, rfl, _, rfl, _, rfl, pl, _, (i : Int), _, rfl, rfl, SqT.of hpl, hat, f, fr, last, _, rfl, fa.same gw4.s, fm, fun H5 p ns s5 np ep nl nk nz => ?_⟩
          have gw5 := gw4.same s5
          have hpl5 := s5 _ _ hpl
          have pF : p ≠ F := fun z => by
            obtain ⟨_, h, _⟩ := gw4.hF
            rw [z, h] at np
            cases np
          have pL : p ≠ L := fun z => by
            obtain ⟨_, h, _⟩ := gw4.hL
            rw [z, h] at np
            cases np
          have pD : p ≠ D := fun z => by
            obtain ⟨o, h⟩ := dn_some gw4.hD
            rw [z, h] at np
            cases np
          refine ⟨p, rfl, ⟨_, SqL.of ep⟩, for_it (walk_list (xs := ns.map V.int)) (fun j σ H' => ∃ (st kn2 : List G3) (v10 v11 v12 v13 v14 : Option V), σ = [some (.ref f), some (.str seg), some (.ref a), some (.ref F), some (.ref L), some (.ref D), some (.int (it.1 : Int)), some (.ref pl), some (.int it.2.2), some (.int (i : Int)), v10, v11, v12, v13, v14] ∧
            Gw P w H H' F L D fd2 st kn2 ∧ Gi fr seg now.length last now fd2 st kn2 [it] ∧ Kp F L D H5 H' ∧ H' pl = some (.tup (it.2.1.map V.int)) ∧ (∀ w n : Int, Go1 fr seg now.length it w n → w < (i : Int) → tgt fr it w n ∈ kn2) ∧ (∀ n ∈ ns.take j, Go1 fr seg now.length it (i : Int) n → tgt fr it (i : Int) n ∈ kn2) ∧ 2 * (65880 - kn2.length) + st.length ≤ 2 * (65880 - kn.length) + st1.length)
            ⟨st, kn2, v10, v11, v12, v13, v14, rfl, gw5, gi4, fun _ _ e _ _ _ => e, hpl5, dn, (fun n h => by simp at h), ms⟩ (fun j σ H' _ ⟨_, _, _, _, _, _, _, _, _, _, z, _⟩ => SqL.of (z _ _ ep pF pL pD)) ?_ ?_⟩
          · clear gw4 gi4 dn ms gw5 v10 v11 v12 v13 v14 st kn2 hpl5
            rintro j y σ Hy H6 hj ⟨st, kn2, v10, v11, v12, v13, v14, rfl, gw6, gi6, kp6, hpl6, dn, dm, ms⟩ ⟨rfl, hy⟩
            obtain ⟨n, hn, rfl⟩ : ∃ n, ns[j]? = some n ∧ y = .int n := by
              have hy : (ns.map V.int)[j]? = some y := hy
              rw [List.getElem?_map] at hy
              cases e : ns[j]? with
              | none => rw [e] at hy; cases hy
              | some n => rw [e] at hy; exact ⟨n, rfl, (Option.some.inj hy).symm⟩
            obtain ⟨m0, m1, mst⟩ := nk n (List.mem_of_getElem? hn)
            refine ⟨_, rfl, _, rfl, _, rfl, (by show 2 ≤ sizeLine; decide), fun t nt => ?_⟩
            have ut := same_upd (o := HO.tup [V.int (i : Int), V.int n]) nt
            have gw7 := gw6.same ut
            have ent : Ent fr ((i : Int), n) := ⟨Int.natCast_nonneg _, by show (i : Int) < 8; omega, m0, m1⟩
            refine ⟨f, t, fr, last, ((i : Int), n), rfl, fa.same gw7.s, fm, upd_same, ent, ?_⟩
            have hpl7 := ut _ _ hpl6
            have kp7 : Kp F L D H5 (upd H6 t (.tup [V.int (i : Int), V.int n])) := fun c o e n1 n2 n3 => ut _ _ (kp6 c o e n1 n2 n3)
            clear gw6 hpl6 kp6 nt ut
            generalize upd H6 t (.tup [V.int (i : Int), V.int n]) = H7 at gw7 hpl7 kp7 ⊢
            have pl8 := (pc_len (stt_pc fm m0 m1))
            have pe17 : (putE fr ((i : Int), n)).length ≤ 17 := putE_len pl8.2
            have pel : (putE fr ((i : Int), n)).length = (stt fr n).2.1.length := putP_length _ _
            refine ⟨_, rfl, _, rfl, rfl, _, rfl, ?_⟩
            apply joinS (L1 := [some (.ref f), some (.str seg), some (.ref a), some (.ref F), some (.ref L), some (.ref D), some (.int (it.1 : Int)), some (.ref pl), some (.int it.2.2), some (.int (i : Int)), some (.int n), some (.str (putE fr ((i : Int), n)))]) (L2 := [v13, v14]) (ownI it.2.2 (i : Int) (stI it.2.1 (i : Int)))
            · intro fin
              by_cases c1 : it.2.2 = (i : Int)
              · refine iteT' (by rw [c1]; exact decide_eq_true rfl) ⟨_, rfl, ?_⟩
                refine ⟨_, rfl, 1, rfl, rfl, _, rfl, ?_⟩
                refine iteF' (decide_eq_false fun y => ?_) (iteF (fin it.2.2 ?_))
                · injection y with y
                  omega
                · unfold ownI
                  rw [if_neg (fun z => by have := z.1; omega), if_pos c1]
              · refine iteF' (decide_eq_false fun y => c1 (by injection y)) ⟨1 + 1, rfl, ?_⟩
                refine ⟨_, rfl, 1, rfl, rfl, _, rfl, ?_⟩
                by_cases c2 : it.2.2 = -1
                · refine iteT' (by rw [c2]; exact decide_eq_true rfl) ?_
                  refine ⟨_, rfl, _, rfl, pl, _, (i : Int), _, rfl, rfl, SqT.of hpl7, hat, rfl, _, rfl, ?_⟩
                  by_cases c3 : stI it.2.1 (i : Int) = 0
                  · refine iteT' (by rw [c3]; exact decide_eq_true rfl) ⟨_, rfl, fin (i : Int) ?_⟩
                    unfold ownI
                    rw [if_pos ⟨c2, c3⟩]
                  · refine iteF' (decide_eq_false fun y => c3 (by injection y)) (fin (-2) ?_)
                    unfold ownI
                    rw [if_neg (fun z => c3 z.2), if_neg c1]
                · refine iteF' (decide_eq_false fun y => c2 (by injection y)) (iteF (fin (-2) ?_))
                  unfold ownI
                  rw [if_neg (fun z => c2 z.1), if_neg c1]
            · rintro o rfl
              have fa7 := fa.same gw7.s
              obtain ⟨tf, t2, hf, hatf, h3, _⟩ := stt_at fa7 m0 m1
              refine ⟨_, rfl, _, rfl, _, rfl, pl, _, rfl, hpl7, fun p1 Ha sa h1 => ?_⟩
              refine ⟨_, rfl, _, rfl, f, _, n, .ref t2, rfl, rfl, SqT.of (sa _ _ hf), hatf, t2, _, 2, _, rfl, rfl, SqT.of (sa _ _ h3), atI_nat (j := 2) rfl, (by show 1 ≤ sizeLine; decide), fun p2 hp2 => ?_⟩
              have u2 := same_upd (o := HO.tup [V.int (stt fr n).2.2]) hp2
              have l1 := cutV_length (it.2.1.map V.int) none (some (i : Int))
              have l2 := cutV_length (it.2.1.map V.int) (some ((i : Int) + 1)) none
              have l3 := gok.l
              rw [List.length_map] at l1 l2
              refine ⟨p1, p2, _, _, rfl, rfl, u2 _ _ h1, upd_same, by rw [sizeLine_eq]; show _ + 1 ≤ 16777216; omega, fun q8 H8 s8 h8 => ?_⟩
              have s78 := sa.trans (u2.trans s8)
              refine ⟨_, rfl, _, rfl, _, _, rfl, rfl, _, rfl, pl, _, rfl, s78 _ _ hpl7, fun p4 H9 s9 h9 => ?_⟩
              refine ⟨q8, p4, _, _, rfl, rfl, s9 _ _ h8, h9, by rw [sizeLine_eq, List.length_append]; show _ + 1 + _ ≤ 16777216; omega, fun q9 Hb sb hb => ?_⟩
              rw [set_cut (by rw [List.length_map]; omega) (by rw [List.length_map]; omega)] at hb
              have s7b := s78.trans (s9.trans sb)
              refine ⟨_, rfl, _, rfl, _, rfl, by rw [sizeLine_eq]; omega, _, _, rfl, rfl, _, rfl, _, rfl, (by show 3 ≤ sizeLine; decide), fun t nt => ?_⟩
              have ut := same_upd (o := HO.tup [V.int ((it.1 : Int) + ((putE fr ((i : Int), n)).length : Nat)), V.ref q9, V.int (ownI it.2.2 (i : Int) (stI it.2.1 (i : Int)))]) nt
              have s7c := s7b.trans ut
              have gwc := gw7.same s7c
              have hplc := s7c _ _ hpl7
              have kpc : Kp F L D H5 _ := fun c o e n1 n2 n3 => s7c _ _ (kp7 c o e n1 n2 n3)
              have gat : GA (upd Hb t (.tup [V.int ((it.1 : Int) + ((putE fr ((i : Int), n)).length : Nat)), V.ref q9, V.int (ownI it.2.2 (i : Int) (stI it.2.1 (i : Int)))])) t (tgt fr it (i : Int) n) := by
                refine ⟨q9, ?_, ?_⟩
                · rw [upd_same, pel]
                  show some (HO.tup [V.int ((it.1 : Int) + ((stt fr n).2.1.length : Nat)), _, _]) = some (HO.tup [V.int ((it.1 + (stt fr n).2.1.length : Nat) : Int), _, _])
                  rw [Int.natCast_add]
                  rfl
                · show _ = some (HO.tup ((it.2.1.set (i : Int).toNat (stt fr n).2.2).map V.int))
                  rw [Int.toNat_natCast, List.map_set]
                  exact ut _ _ hb
              clear s7c ut nt s7b hb sb s9 h9 s78 s8 h8 u2 hp2 sa h1 gw7 hpl7 kp7 fa7
              refine ⟨_, rfl, _, rfl, _, rfl, _, rfl, _, rfl, _, rfl, by rw [sizeLine_eq]; omega, _, _, rfl, rfl, _, rfl, seg, rfl, by rw [sizeLine_eq]; omega, _, rfl, rfl, _, rfl, ?_⟩
              have eb : decide (V.str (cutS seg (some (it.1 : Int)) (some ((it.1 : Int) + ((putE fr ((i : Int), n)).length : Nat)))) = V.str (putE fr ((i : Int), n))) = fitB seg it.1 (stt fr n).2.1 (i : Int) := rfl
              have tk : ∀ n' ∈ ns.take (j + 1), n' ∈ ns.take j ∨ n' = n := fun n' h => by
                rw [take_one hn] at h
                rcases List.mem_append.mp h with h | h
                · exact .inl h
                · exact .inr (List.mem_singleton.mp h)
              by_cases c1 : fitB seg it.1 (stt fr n).2.1 (i : Int) = true
              · refine iteT' (eb.trans c1) ?_
                have g1 : Go1 fr seg now.length it (i : Int) n := ⟨Int.natCast_nonneg _, by omega, m0, m1, mst, c1⟩
                refine ⟨_, rfl, _, rfl, D, t, _, keyG (tgt fr it (i : Int) n), rfl, rfl, gwc.hD.rd, gat.key, _, rfl, ?_⟩
                rw [kvK_in]
                by_cases c2 : tgt fr it (i : Int) n ∈ kn2
                · refine iteF' (by rw [decide_eq_true c2]; rfl) ?_
                  exact ⟨st, kn2, _, _, _, _, _, rfl, gwc, gi6, kpc, hplc, dn, fun n' h g => by
                    rcases tk n' h with z | z
                    · exact dm n' z g
                    · rw [z]; exact c2, ms⟩
                · refine iteT' (by rw [decide_eq_false c2]; rfl) ?_
                  have kl := few gi6.k gi6.nd
                  have gi7 := gi6.add rc g1 c2
                  have kl2 := few gi7.k gi7.nd
                  rw [List.length_append] at kl2
                  have e1 : [tgt fr it (i : Int) n].length = 1 := rfl
                  refine ⟨_, rfl, _, rfl, D, t, _, keyG (tgt fr it (i : Int) n), rfl, rfl, gwc.hD, gat.key, by rw [kvK_len, sizeLine_eq]; omega, fun Hd oa dn4 => ?_⟩
                  rw [kvK_put c2] at dn4
                  obtain ⟨gwd, kd⟩ := gwc.know oa dn4
                  obtain ⟨la5, hL5, aL5⟩ := gwd.hL
                  refine ⟨_, rfl, .inl ⟨rfl, _, SqL.of hL5⟩, _, rfl, L, la5.map V.ref, _, rfl, rfl, hL5, ?_, ?_⟩
                  · rw [List.length_map, aL5.1, sizeLine_eq]
                    have := gi6.l
                    omega
                  · have gwe := gwd.lay (la2 := la5 ++ [t]) (st2 := st ++ [tgt fr it (i : Int) n]) hL5 fun H' kp => (aL5.mono fun x p h => h.keep kp).snoc ((gat.keep kd).keep kp)
                    rw [List.map_append] at gwe
                    refine ⟨st ++ [tgt fr it (i : Int) n], kn2 ++ [tgt fr it (i : Int) n], _, _, _, _, _, rfl, gwe, gi7, fun c o e n1 n2 n3 => ?_, ?_, fun w' n' g h => List.mem_append_left _ (dn w' n' g h), fun n' h g => ?_, ?_⟩
                    · rw [upd_ne n2, oa c n3]
                      exact kpc c o e n1 n2 n3
                    · exact keepT_upd hL5 (fun xs z => by cases z) _ _ (kd _ _ hplc)
                    · rcases tk n' h with z | z
                      · exact List.mem_append_left _ (dm n' z g)
                      · rw [z]; exact List.mem_append_right _ (List.mem_cons_self ..)
                    · rw [List.length_append, List.length_append]
                      omega
              · refine iteF' (eb.trans (eq_false_of_ne_true c1)) ?_
                exact iteF ⟨st, kn2, _, _, _, _, _, rfl, gwc, gi6, kpc, hplc, dn, fun n' h g => by
                  rcases tk n' h with z | z
                  · exact dm n' z g
                  · rw [z] at g
                    exact absurd g.f c1, ms⟩
          · rintro σ H6 ⟨st, kn2, v10, v11, v12, v13, v14, rfl, gw6, gi6, kp6, hpl6, dn, dm, ms⟩
            rw [List.length_map, List.take_length] at dm
            refine ⟨st, kn2, _, _, _, _, _, _, rfl, gw6, gi6, hpl6, fun w' n' g h => ?_, ms⟩
            by_cases c1 : w' < (i : Int)
            · exact dn w' n' g c1
            · have e1 : w' = (i : Int) := by omega
              subst e1
              obtain ⟨k', hk'⟩ := Int.eq_ofNat_of_zero_le g.b0
              have b1 := g.b1
              have gst := g.st
              rw [hk'] at gst b1
              refine dm n' ?_ g
              rw [hk']
              exact nz k' (by omega) gst
        · rintro σ H4 ⟨st, kn2, v9, v10, v11, v12, v13, v14, rfl, gw4, gi4, hpl4, dn, ms⟩
          have gi5 := gi4.done (fun w' n' g => dn w' n' g (by have := g.a1; rw [List.length_map]; omega)) hfd
          refine ⟨fd2, st, kn2, _, _, _, _, _, _, _, _, _, rfl, gw4, gi5, ?_⟩
          rw [List.length_append]
          show _ < _ + (_ + 1)
          omega
end
end K35

set_option Elab.async false
set_option linter.all false
set_option maxRecDepth 100000
set_option maxHeartbeats 4000000
/-! The law's own search, line by line, and the program's, place by place. -/
namespace K35
open PySem L2 L2.EV
open Classical
def mkO (i : Int) : Mk := if i = -1 then .no else if i = -2 then .mix else .one i
def whI : Mk → Int
  | .no => -1
  | .one w => w
  | .mix => -2
theorem mkO_whI {m : Mk} (h : ∀ k, m = .one k → 0 ≤ k) : mkO (whI m) = m := by
  cases m with
  | no => rfl
  | mix => rfl
  | one k =>
    have := h k rfl
    show (if k = -1 then Mk.no else if k = -2 then Mk.mix else Mk.one k) = Mk.one k
    rw [if_neg (by omega), if_neg (by omega)]
theorem own1 {wh w st : Int} (h : wh = -1 ∧ st = 0) : ownI wh w st = w := if_pos h
theorem own2 {wh w st : Int} (h : ¬ (wh = -1 ∧ st = 0)) (e : wh = w) : ownI wh w st = wh := Eq.trans (if_neg h) (if_pos e)
theorem own3 {wh w st : Int} (h : ¬ (wh = -1 ∧ st = 0)) (e : ¬ wh = w) : ownI wh w st = -2 := Eq.trans (if_neg h) (if_neg e)
theorem beh1 {m : Mk} {w st : Int} (h : m = .no ∧ st = 0) : behM m w st = .one w := if_pos h
theorem beh2 {m : Mk} {w st : Int} (h : ¬ (m = .no ∧ st = 0)) (e : m = .one w) : behM m w st = m := Eq.trans (if_neg h) (if_pos e)
theorem beh3 {m : Mk} {w st : Int} (h : ¬ (m = .no ∧ st = 0)) (e : ¬ m = .one w) : behM m w st = .mix := Eq.trans (if_neg h) (if_neg e)
theorem own_beh {m : Mk} (h : ∀ k, m = .one k → 0 ≤ k) {w st : Int} (w0 : 0 ≤ w) : ownI (whI m) w st = whI (behM m w st) := by
  cases m with
  | no =>
    by_cases c : st = 0
    · rw [own1 (wh := whI .no) ⟨rfl, c⟩, beh1 ⟨rfl, c⟩]; rfl
    · rw [own3 (wh := whI .no) (fun z => c z.2) (by show ¬ (-1 : Int) = w; omega), beh3 (fun z => c z.2) (fun z => by cases z)]; rfl
  | mix => rw [own3 (wh := whI .mix) (fun z => by have : (-2 : Int) = -1 := z.1; omega) (by show ¬ (-2 : Int) = w; omega), beh3 (fun z => by have := z.1; cases this) (fun z => by cases z)]; rfl
  | one k =>
    have k0 := h k rfl
    have n1 : ¬ (whI (Mk.one k) = -1 ∧ st = 0) := fun z => by have : k = -1 := z.1; omega
    have n2 : ¬ (Mk.one k = Mk.no ∧ st = 0) := fun z => by have := z.1; cases this
    by_cases c : k = w
    · rw [own2 n1 (show whI (Mk.one k) = w from c), beh2 n2 (by rw [c])]
    · rw [own3 n1 (show ¬ whI (Mk.one k) = w from c), beh3 n2 (fun z => c (by injection z))]; rfl
theorem beh_pos {m : Mk} (h : ∀ k, m = .one k → 0 ≤ k) {w st : Int} (w0 : 0 ≤ w) : ∀ k, behM m w st = .one k → 0 ≤ k := by
  intro k e
  unfold behM at e
  by_cases c : m = .no ∧ st = 0
  · rw [if_pos c] at e
    injection e with e
    omega
  · rw [if_neg c] at e
    by_cases c2 : m = .one w
    · rw [if_pos c2] at e
      exact h k e
    · rw [if_neg c2] at e
      cases e
theorem beh_no {m : Mk} {w st : Int} : behM m w st ≠ .no := by
  unfold behM
  by_cases c : m = .no ∧ st = 0
  · rw [if_pos c]; exact fun z => by cases z
  · rw [if_neg c]
    by_cases c2 : m = .one w
    · rw [if_pos c2, c2]; exact fun z => by cases z
    · rw [if_neg c2]; exact fun z => by cases z
/-- a part of a text -/
def IsSub (x : Str) (b q : Nat) (seg : Str) : Prop := sl seg = ((sl x).drop b).take (q - b)
theorem sub_len {x : Str} {b q : Nat} {seg : Str} (h : IsSub x b q seg) (bq : b ≤ q) (qn : q ≤ x.length) : seg.length = q - b := by
  rw [len_sl, h, List.length_take, List.length_drop, ← len_sl]
  omega
theorem sub_fit {x : Str} {b q : Nat} {seg : Str} (h : IsSub x b q seg) {i : Nat} {p : Str} {n : Int} (hp : 1 ≤ p.length) : fitB seg i p n = true ↔ fitB x (b + i) p n = true ∧ b + i + p.length ≤ max q (b + i + p.length - 0) ∧ i + p.length ≤ q - b := by
  rw [fitB_iff, fitB_iff, h, List.drop_take, List.take_take, List.drop_drop]
  have ml : ((sl p).map (mrkF n)).length = p.length := by rw [List.length_map, ← len_sl]
  constructor
  · intro e
    have e2 := congrArg List.length e
    rw [List.length_take, ml] at e2
    have lt : i + p.length ≤ q - b := by omega
    have m1 : min p.length (q - b - i) = p.length := by omega
    rw [m1] at e
    exact ⟨e, by omega, lt⟩
  · rintro ⟨e, _, lt⟩
    have m1 : min p.length (q - b - i) = p.length := by omega
    rw [m1]
    exact e
section
variable {fr : List T3} {last : Nat} {fm : Frm fr last} {x : Str} {nw : Nat} {n3 : nw ≤ 3} {b q : Nat} {seg : Str}
theorem rc_pu (hs : IsSub x b q seg) (bq : b ≤ q) {now : List Int} {a : G3} (h : Rc fr seg nw now a) : ∃ m, (∀ k, m = Mk.one k → 0 ≤ k) ∧ a.2.2 = whI m ∧ TL.PU (envF fm x nw n3) q b (now, .no) (b + a.1) (a.2.1, m) := by
  induction h with
  | nil => exact ⟨.no, (fun k e => by cases e), rfl, .nil⟩
  | @snoc a w n _ g ih =>
    obtain ⟨m, h1, h2, h3⟩ := ih
    have hp := (pc_len (stt_pc fm g.b0 g.b1)).1
    obtain ⟨f1, _, f2⟩ := (sub_fit hs hp).mp g.f
    refine ⟨behM m w (stI a.2.1 w), beh_pos h1 g.a0, ?_, ?_⟩
    · show ownI a.2.2 w (stI a.2.1 w) = _
      rw [h2, own_beh h1 g.a0]
    · have z := TL.PU.snoc (M := envF fm x nw n3) (e := (w, n)) h3 ⟨g.a0, g.a1, g.b0, g.b1, f1⟩ (show (stt fr n).1 = stdS (a.2.1, m) w from g.st) (by show b + a.1 + (stt fr n).2.1.length ≤ q; omega)
      have e : b + a.1 + (envF fm x nw n3).len (w, n) = b + (tgt fr a w n).1 := by
        show b + a.1 + (stt fr n).2.1.length = b + (a.1 + (stt fr n).2.1.length)
        omega
      rw [e] at z
      have e2 : (envF fm x nw n3).beh (a.2.1, m) (w, n) = ((tgt fr a w n).2.1, behM m w (stI a.2.1 w)) := by
        show (a.2.1.set w.toNat (stt fr n).2.2, behM m w (stt fr n).1) = (a.2.1.set w.toNat (stt fr n).2.2, behM m w (stI a.2.1 w))
        rw [g.st]
      rw [e2] at z
      exact z
theorem pu_rc (hs : IsSub x b q seg) (bq : b ≤ q) {now : List Int} {p : Nat} {s : Sx} (h : TL.PU (envF fm x nw n3) q b (now, .no) p s) : ∃ i, p = b + i ∧ (∀ k, s.2 = Mk.one k → 0 ≤ k) ∧ Rc fr seg nw now (i, s.1, whI s.2) := by
  induction h with
  | nil => exact ⟨0, rfl, (fun k e => by cases e), .nil⟩
  | @snoc p s e _ f o l ih =>
    obtain ⟨i, rfl, h1, h2⟩ := ih
    have l : b + i + (stt fr e.2).2.1.length ≤ q := l
    have hp := (pc_len (stt_pc fm f.b0 f.b1)).1
    have g : Go1 fr seg nw (i, s.1, whI s.2) e.1 e.2 := ⟨f.a0, f.a1, f.b0, f.b1, o, (sub_fit hs hp).mpr ⟨f.f, by omega, by omega⟩⟩
    refine ⟨i + (stt fr e.2).2.1.length, by show b + i + (stt fr e.2).2.1.length = _; omega, beh_pos h1 f.a0, ?_⟩
    have z := h2.snoc g
    have e2 : tgt fr (i, s.1, whI s.2) e.1 e.2 = (i + (stt fr e.2).2.1.length, ((envF fm x nw n3).beh s e).1, whI ((envF fm x nw n3).beh s e).2) := by
      show (i + (stt fr e.2).2.1.length, s.1.set e.1.toNat (stt fr e.2).2.2, ownI (whI s.2) e.1 (stI s.1 e.1)) = (i + (stt fr e.2).2.1.length, s.1.set e.1.toNat (stt fr e.2).2.2, whI (behM s.2 e.1 (stt fr e.2).1))
      rw [own_beh h1 f.a0, show (stt fr e.2).1 = stI s.1 e.1 from o]
    rw [e2] at z
    exact z
end
/-! ### where lines begin and end -/
def bdsN (x : Str) (i : Nat) : List Nat := (List.range (i + 1)).filter fun q => decide (Bd x q)
theorem bdsN_zero {x : Str} : bdsN x 0 = [] := by
  unfold bdsN
  rw [List.filter_eq_nil_iff]
  intro q hq
  have hq := List.mem_range.mp hq
  have : q = 0 := by omega
  subst this
  rw [decide_eq_true_eq]
  exact fun z => by have := z.1; omega
theorem bdsN_succ {x : Str} {i : Nat} : bdsN x (i + 1) = bdsN x i ++ if Bd x (i + 1) then [i + 1] else [] := by
  unfold bdsN
  rw [List.range_succ, List.filter_append, List.filter_cons]
  congr 1
  by_cases c : Bd x (i + 1)
  · rw [if_pos (decide_eq_true c), if_pos c]; rfl
  · rw [if_neg (by rw [decide_eq_true_eq]; exact c), if_neg c]; rfl
/-- the places where the lines begin, and where the rest does -/
def ptsN (x : Str) (i : Nat) : List Nat := 0 :: bdsN x i
theorem pts_last {x : Str} {i : Nat} : ∃ M y, ptsN x i = M ++ [y] ∧ y ≤ i ∧ (y = 0 ∨ Bd x y) ∧ ∀ k, y < k → k ≤ i → ¬ Bd x k := by
  induction i with
  | zero => exact ⟨[], 0, by unfold ptsN; rw [bdsN_zero]; rfl, Nat.le_refl _, .inl rfl, fun k h1 h2 => by omega⟩
  | succ i ih =>
    obtain ⟨M, y, e, h1, h2, h3⟩ := ih
    by_cases c : Bd x (i + 1)
    · refine ⟨M ++ [y], i + 1, ?_, Nat.le_refl _, .inr c, fun k h1 h2 => by omega⟩
      show 0 :: bdsN x (i + 1) = _
      rw [bdsN_succ, if_pos c, ← List.cons_append]
      show ptsN x i ++ _ = _
      rw [e]
    · refine ⟨M, y, ?_, by omega, h2, fun k h4 h5 => ?_⟩
      · show 0 :: bdsN x (i + 1) = _
        rw [bdsN_succ, if_neg c, List.append_nil]
        exact e
      · by_cases z : k = i + 1
        · rw [z]; exact c
        · exact h3 k h4 (by omega)
theorem zip_snoc (l : List Nat) (M : List Nat) (y x : Nat) (h : l = M ++ [y]) : (l ++ [x]).zip (l ++ [x]).tail = l.zip l.tail ++ [(y, x)] := by
  subst h
  induction M with
  | nil => rfl
  | cons a M ih =>
    cases M with
    | nil => rfl
    | cons c M =>
      have e1 : ((a :: c :: M ++ [y]) ++ [x]).zip ((a :: c :: M ++ [y]) ++ [x]).tail = (a, c) :: ((c :: M ++ [y]) ++ [x]).zip ((c :: M ++ [y]) ++ [x]).tail := rfl
      have e2 : (a :: c :: M ++ [y]).zip (a :: c :: M ++ [y]).tail = (a, c) :: (c :: M ++ [y]).zip (c :: M ++ [y]).tail := rfl
      rw [e1, e2, ih]
      rfl
/-- the lines so far, from where to where -/
def lnsN (x : Str) (i : Nat) : List (Nat × Nat) := (ptsN x i).zip (ptsN x i).tail
def lastN (x : Str) (i : Nat) : Nat := (ptsN x i).getLastD 0
theorem lastN_is {x : Str} {i : Nat} : ∃ M, ptsN x i = M ++ [lastN x i] ∧ lastN x i ≤ i ∧ (lastN x i = 0 ∨ Bd x (lastN x i)) ∧ ∀ k, lastN x i < k → k ≤ i → ¬ Bd x k := by
  obtain ⟨M, y, e, h⟩ := pts_last (x := x) (i := i)
  have z : lastN x i = y := by unfold lastN; rw [e]; simp
  rw [z]
  exact ⟨M, e, h⟩
theorem lns_succ {x : Str} {i : Nat} : (Bd x (i + 1) → lnsN x (i + 1) = lnsN x i ++ [(lastN x i, i + 1)] ∧ lastN x (i + 1) = i + 1) ∧ (¬ Bd x (i + 1) → lnsN x (i + 1) = lnsN x i ∧ lastN x (i + 1) = lastN x i) := by
  obtain ⟨M, e, _⟩ := lastN_is (x := x) (i := i)
  constructor
  · intro c
    have ep : ptsN x (i + 1) = ptsN x i ++ [i + 1] := by
      show 0 :: bdsN x (i + 1) = _
      rw [bdsN_succ, if_pos c]
      rfl
    refine ⟨?_, by unfold lastN; rw [ep]; simp⟩
    unfold lnsN
    rw [ep]
    exact zip_snoc _ M _ _ e
  · intro c
    have ep : ptsN x (i + 1) = ptsN x i := by
      show 0 :: bdsN x (i + 1) = _
      rw [bdsN_succ, if_neg c, List.append_nil]
      rfl
    unfold lnsN lastN
    rw [ep]
    exact ⟨rfl, rfl⟩
theorem lns_len {x : Str} {i : Nat} : (lnsN x i).length = (bdsN x i).length := by
  unfold lnsN ptsN
  rw [List.length_zip]
  simp
theorem lns_snd {x : Str} {i : Nat} : (lnsN x i).map (·.2) = bdsN x i := by
  unfold lnsN ptsN
  show (((0 :: bdsN x i).zip (bdsN x i)).map Prod.snd) = _
  rw [List.map_snd_zip]
  simp
/-- a line from here to there -/
structure Ln (x : Str) (b q : Nat) : Prop where
  bg : b = 0 ∨ Bd x b
  lt : b < q
  en : Bd x q
  no : ∀ k, b < k → k < q → ¬ Bd x k
theorem lns_ok {x : Str} {i : Nat} : (∀ p ∈ lnsN x i, Ln x p.1 p.2 ∧ p.2 ≤ i) ∧ (∀ (j : Nat) p p', (lnsN x i)[j]? = some p → (lnsN x i)[j + 1]? = some p' → p'.1 = p.2) ∧ (∀ p, (lnsN x i)[0]? = some p → p.1 = 0) ∧ (∀ (j : Nat) p, (lnsN x i)[j]? = some p → j + 1 = (lnsN x i).length → lastN x i = p.2) ∧ (lnsN x i = [] → lastN x i = 0) := by
  induction i with
  | zero =>
    have e : lnsN x 0 = [] := by unfold lnsN ptsN; rw [bdsN_zero]; rfl
    have e2 : lastN x 0 = 0 := by unfold lastN ptsN; rw [bdsN_zero]; rfl
    rw [e]
    exact ⟨(fun p h => nomatch h), fun j p p' h => by simp at h, fun p h => by simp at h, fun j p h => by simp at h, fun _ => e2⟩
  | succ i ih =>
    obtain ⟨h1, h2, h3, h4, h5⟩ := ih
    by_cases c : Bd x (i + 1)
    · obtain ⟨e1, e2⟩ := lns_succ.1 c
      obtain ⟨M, _, l1, l2, l3⟩ := lastN_is (x := x) (i := i)
      rw [e1]
      refine ⟨fun p hp => ?_, fun j p p' hp hp' => ?_, fun p hp => ?_, fun j p hp hj => ?_, fun z => absurd z (by simp)⟩
      · rcases List.mem_append.mp hp with z | z
        · exact ⟨(h1 p z).1, by have := (h1 p z).2; omega⟩
        · rw [List.mem_singleton.mp z]
          exact ⟨⟨l2, by show lastN x i < i + 1; omega, c, fun k a1 a2 => l3 k a1 (by have a2 : k < i + 1 := a2; omega)⟩, Nat.le_refl _⟩
      · by_cases z : j + 1 < (lnsN x i).length
        · rw [List.getElem?_append_left (by omega)] at hp
          rw [List.getElem?_append_left z] at hp'
          exact h2 j p p' hp hp'
        · rw [List.getElem?_append_right (by omega)] at hp'
          have y := (List.getElem?_eq_some_iff.mp hp').1
          have y : j + 1 - (lnsN x i).length < 1 := y
          have y0 : j + 1 - (lnsN x i).length = 0 := by omega
          rw [y0] at hp'
          have hp' : (lastN x i, i + 1) = p' := Option.some.inj hp'
          rw [List.getElem?_append_left (by omega)] at hp
          rw [← hp']
          exact h4 j p hp (by omega)
      · cases hl : lnsN x i with
        | nil =>
          rw [hl] at hp
          have hp : (lastN x i, i + 1) = p := Option.some.inj hp
          rw [← hp]
          exact h5 hl
        | cons a l =>
          rw [hl] at hp
          have hp : a = p := Option.some.inj hp
          exact h3 p (by rw [hl, ← hp]; rfl)
      · rw [e2]
        rw [List.length_append] at hj
        have y : [(lastN x i, i + 1)].length = 1 := rfl
        rw [List.getElem?_append_right (by omega)] at hp
        have y0 : j - (lnsN x i).length = 0 := by omega
        rw [y0] at hp
        have hp : (lastN x i, i + 1) = p := Option.some.inj hp
        rw [← hp]
    · obtain ⟨e1, e2⟩ := lns_succ.2 c
      rw [e1, e2]
      exact ⟨fun p hp => ⟨(h1 p hp).1, by have := (h1 p hp).2; omega⟩, h2, h3, h4, h5⟩
end K35

set_option Elab.async false
set_option linter.all false
set_option maxRecDepth 100000
set_option maxHeartbeats 4000000
/-! Line by line: what the law's search tells is what verdicts tells. -/
namespace K35
open PySem L2 L2.EV
open Classical
def subS (x : Str) (b q : Nat) : Str := ⟨(((sl x).drop b).take (q - b)).toArray⟩
theorem subS_is {x : Str} {b q : Nat} : IsSub x b q (subS x b q) := by
  unfold IsSub subS
  show (((sl x).drop b).take (q - b)).toArray.toList = _
  rw [List.toList_toArray]
/-- the lines and the rest -/
def lines (x : Str) : List (Nat × Nat) := lnsN x x.length ++ [(lastN x x.length, x.length)]
def segsF (x : Str) : List Str := (lines x).map fun p => subS x p.1 p.2
def sgF (x : Str) (j : Nat) : Str := (segsF x).getD j ""
def LayP (fr : List T3) (x : Str) (nw : Nat) : Nat → List Int → Prop
  | 0, st => st = List.replicate nw 0
  | j + 1, st => ∃ now wh, LayP fr x nw j now ∧ Rc fr (sgF x j) nw now ((sgF x j).length, st, wh)
def mF (x : Str) : Nat := (lnsN x x.length).length
def GdP (fr : List T3) (x : Str) (nw : Nat) : Nat → List Int → Prop
  | 0, st => LayP fr x nw (mF x + 1) st
  | d + 1, now => LayP fr x nw (mF x - d) now ∧ ∃ st wh, Rc fr (sgF x (mF x - d)) nw now ((sgF x (mF x - d)).length, st, wh) ∧ GdP fr x nw d st
def FlL (fr : List T3) (x : Str) (nw : Nat) (j : Nat) (f : Bool) : Prop := ∃ now st wh, LayP fr x nw j now ∧ Rc fr (sgF x j) nw now ((sgF x j).length, st, wh) ∧ GdP fr x nw (mF x - j) st ∧ decide (wh < 0) = f
noncomputable def wordL (fr : List T3) (x : Str) (nw : Nat) (j : Nat) : Str := if FlL fr x nw j true ∧ FlL fr x nw j false then "open" else if FlL fr x nw j false then "whole" else "mixed"
theorem lines_len {x : Str} : (lines x).length = mF x + 1 := by unfold lines mF; rw [List.length_append]; rfl
theorem sg_at {x : Str} {j : Nat} {p : Nat × Nat} (h : (lines x)[j]? = some p) : sgF x j = subS x p.1 p.2 := by
  unfold sgF segsF
  rw [List.getD_eq_getElem?_getD, List.getElem?_map, h]
  rfl
theorem line_lt {x : Str} {j : Nat} (h : j < mF x) : ∃ p, (lines x)[j]? = some p ∧ (lnsN x x.length)[j]? = some p ∧ Ln x p.1 p.2 ∧ p.2 ≤ x.length := by
  have e := List.getElem?_eq_getElem h
  refine ⟨_, ?_, e, ((lns_ok (x := x) (i := x.length)).1 _ (List.getElem_mem h)).1, ((lns_ok (x := x) (i := x.length)).1 _ (List.getElem_mem h)).2⟩
  unfold lines
  rw [List.getElem?_append_left h]
  exact e
theorem line_end {x : Str} : (lines x)[mF x]? = some (lastN x x.length, x.length) := by
  unfold lines mF
  rw [List.getElem?_append_right (Nat.le_refl _), Nat.sub_self]
  rfl
/-- each begins where the one ahead ends -/
theorem line_next {x : Str} {j : Nat} {p p' : Nat × Nat} (h : (lines x)[j]? = some p) (h' : (lines x)[j + 1]? = some p') : p'.1 = p.2 := by
  obtain ⟨_, k2, _, k4, _⟩ := lns_ok (x := x) (i := x.length)
  have jl := (List.getElem?_eq_some_iff.mp h').1
  rw [lines_len] at jl
  by_cases c : j + 1 < mF x
  · have e1 : (lnsN x x.length)[j]? = some p := by
      unfold lines at h
      rw [List.getElem?_append_left (by show j < mF x; omega)] at h
      exact h
    have e2 : (lnsN x x.length)[j + 1]? = some p' := by
      unfold lines at h'
      rw [List.getElem?_append_left c] at h'
      exact h'
    exact k2 j p p' e1 e2
  · have cj : j + 1 = mF x := by omega
    have e1 : (lnsN x x.length)[j]? = some p := by
      unfold lines at h
      rw [List.getElem?_append_left (by show j < mF x; omega)] at h
      exact h
    rw [cj, line_end] at h'
    have h' : (lastN x x.length, x.length) = p' := Option.some.inj h'
    rw [← h']
    exact k4 j p e1 cj
theorem line_zero {x : Str} {p : Nat × Nat} (h : (lines x)[0]? = some p) : p.1 = 0 := by
  obtain ⟨_, _, k3, _, k5⟩ := lns_ok (x := x) (i := x.length)
  cases c : lnsN x x.length with
  | nil =>
    have e := line_end (x := x)
    have m0 : mF x = 0 := by unfold mF; rw [c]; rfl
    rw [m0, h] at e
    rw [Option.some.inj e]
    exact k5 c
  | cons a l =>
    refine k3 p ?_
    unfold lines at h
    rw [List.getElem?_append_left (by rw [c]; simp)] at h
    exact h
section
variable {fr : List T3} {last : Nat} (fm : Frm fr last) {x : Str} {nw : Nat} (n3 : nw ≤ 3)
include fm
theorem rc_line {b q : Nat} {now st : List Int} {wh : Int} (bq : b ≤ q) (qn : q ≤ x.length) (h : Rc fr (subS x b q) nw now ((subS x b q).length, st, wh)) : ∃ m, wh = whI m ∧ TL.PU (envF fm x nw n3) q b (now, .no) q (st, m) := by
  obtain ⟨m, _, e, u⟩ := rc_pu (fm := fm) (n3 := n3) subS_is bq h
  refine ⟨m, e, ?_⟩
  have e2 : b + (subS x b q).length = q := by rw [sub_len subS_is bq qn]; omega
  have u : TL.PU (envF fm x nw n3) q b (now, .no) (b + (subS x b q).length) (st, m) := u
  rw [e2] at u
  exact u
theorem line_rc {b q : Nat} {now : List Int} {s : Sx} (bq : b ≤ q) (qn : q ≤ x.length) (h : TL.PU (envF fm x nw n3) q b (now, .no) q s) : Rc fr (subS x b q) nw now ((subS x b q).length, s.1, whI s.2) := by
  obtain ⟨i, e, _, r⟩ := pu_rc subS_is bq h
  have e2 : i = (subS x b q).length := by rw [sub_len subS_is bq qn]; omega
  rw [← e2]
  exact r
theorem pr_clean {b : Nat} {z : Sx} (h : TL.PR (envF fm x nw n3) b z) (hb : b = 0 ∨ Bd x b) : z = (z.1, .no) := (h.clean hb).symm
theorem rsb_at {q : Nat} {t : Sx} (h : Bd x q) : TL.rsb (envF fm x nw n3) q t = (t.1, .no) := if_pos h
theorem lay_pr : ∀ (j : Nat) (p : Nat × Nat) (st : List Int), (lines x)[j]? = some p → (LayP fr x nw j st ↔ TL.PR (envF fm x nw n3) p.1 (st, .no))
  | 0, p, st, h => by
    rw [line_zero h]
    constructor
    · intro e
      have e : st = List.replicate nw 0 := e
      rw [e]
      exact .nil
    · intro r
      generalize hz : (0 : Nat) = z at r
      generalize hs : (st, Mk.no) = s at r
      cases r with
      | nil =>
        have hs : (st, Mk.no) = (List.replicate nw (0 : Int), Mk.no) := hs
        injection hs
      | snoc _ f _ =>
        have := (envF fm x nw n3).l1 f
        omega
  | j + 1, p', st, h' => by
    have jl := (List.getElem?_eq_some_iff.mp h').1
    rw [lines_len] at jl
    obtain ⟨p, h, _, L, pn⟩ := line_lt (x := x) (j := j) (by omega)
    rw [line_next h h']
    have ih := fun now => lay_pr j p now h
    have sg := sg_at h
    constructor
    · rintro ⟨now, wh, l, r⟩
      rw [sg] at r
      obtain ⟨m, _, u⟩ := rc_line fm n3 (Nat.le_of_lt L.lt) pn r
      rcases u.pr ((ih now).mp l) (fun i h1 h2 => L.no i h1 h2) with ⟨e, _⟩ | ⟨_, z⟩
      · have := L.lt; omega
      · rw [rsb_at fm n3 L.en] at z
        exact z
    · intro r
      obtain ⟨z, t, h1, h2, h3⟩ := r.pu (q := p.2) L.bg L.lt (Nat.le_refl _) (fun i h1 h2 => L.no i h1 h2)
      rw [rsb_at fm n3 L.en] at h3
      have h3 : st = t.1 := by injection h3
      have hz := pr_clean fm n3 h1 L.bg
      rw [hz] at h1 h2
      refine ⟨z.1, whI t.2, (ih _).mpr h1, ?_⟩
      rw [sg, h3]
      exact line_rc fm n3 (Nat.le_of_lt L.lt) pn h2
theorem rest_ok : (lastN x x.length = 0 ∨ Bd x (lastN x x.length)) ∧ lastN x x.length ≤ x.length ∧ ∀ k, lastN x x.length < k → k ≤ x.length → ¬ Bd x k := by
  obtain ⟨_, _, h1, h2, h3⟩ := lastN_is (x := x) (i := x.length)
  exact ⟨h2, h1, h3⟩
theorem psb_lay : (∃ st, LayP fr x nw (mF x + 1) st) ↔ Psb fm x nw n3 := by
  obtain ⟨r1, r2, r3⟩ := rest_ok fm (x := x)
  have le := line_end (x := x)
  have sg := sg_at le
  have ih := fun now => lay_pr fm n3 (mF x) _ now le
  constructor
  · rintro ⟨st, now, wh, l, r⟩
    rw [sg] at r
    obtain ⟨m, _, u⟩ := rc_line fm n3 r2 (Nat.le_refl _) r
    rcases u.pr ((ih now).mp l) (fun i h1 h2 => r3 i h1 (by omega)) with ⟨e, e2⟩ | ⟨_, z⟩
    · have z := (ih now).mp l
      have z : TL.PR (envF fm x nw n3) (lastN x x.length) (now, .no) := z
      have e : x.length = lastN x x.length := e
      rw [← e] at z
      exact ⟨_, z⟩
    · exact ⟨_, z⟩
  · rintro ⟨s, r⟩
    by_cases c : lastN x x.length < x.length
    · obtain ⟨z, t, h1, h2, h3⟩ := r.pu (q := x.length) r1 c (Nat.le_refl _) (fun i h1 h2 => r3 i h1 (by omega))
      have hz := pr_clean fm n3 h1 r1
      rw [hz] at h1 h2
      refine ⟨t.1, z.1, whI t.2, (ih _).mpr h1, ?_⟩
      rw [sg]
      exact line_rc fm n3 r2 (Nat.le_refl _) h2
    · have e : x.length = lastN x x.length := by omega
      rw [e] at r
      have hz := pr_clean fm n3 r r1
      rw [hz] at r
      refine ⟨s.1, s.1, -1, (ih _).mpr r, ?_⟩
      rw [sg]
      have l0 : (subS x (lastN x x.length) x.length).length = 0 := by rw [sub_len subS_is r2 (Nat.le_refl _)]; omega
      rw [show (lastN x x.length, x.length).1 = lastN x x.length from rfl, l0]
      exact .nil
theorem gd_pg : ∀ (d : Nat) (p : Nat × Nat) (now : List Int), d ≤ mF x → (lines x)[mF x - d]? = some p → (GdP fr x nw (d + 1) now ↔ TL.PG (envF fm x nw n3) p.1 (now, .no))
  | 0, p, now, _, h => by
    obtain ⟨r1, r2, r3⟩ := rest_ok fm (x := x)
    have le := line_end (x := x)
    have sg := sg_at le
    rw [Nat.sub_zero, le] at h
    have h : (lastN x x.length, x.length) = p := Option.some.inj h
    rw [← h]
    have ih := fun now => lay_pr fm n3 (mF x) _ now le
    show (LayP fr x nw (mF x - 0) now ∧ ∃ st wh, Rc fr (sgF x (mF x - 0)) nw now ((sgF x (mF x - 0)).length, st, wh) ∧ LayP fr x nw (mF x + 1) st) ↔ _
    rw [Nat.sub_zero, sg]
    constructor
    · rintro ⟨l, st, wh, r, _⟩
      have pr := (ih now).mp l
      obtain ⟨m, _, u⟩ := rc_line fm n3 r2 (Nat.le_refl _) r
      rcases u.pr pr (fun i h1 h2 => r3 i h1 (by omega)) with ⟨e, e2⟩ | ⟨lt, z⟩
      · have e : x.length = lastN x x.length := e
        show TL.PG _ (lastN x x.length) (now, Mk.no)
        have pr : TL.PR (envF fm x nw n3) (lastN x x.length) (now, .no) := pr
        rw [← e] at pr ⊢
        exact .fin pr
      · exact TL.PG.bwd u pr lt (fun i h1 h2 => r3 i h1 (by omega)) (.fin z)
    · intro g
      have pr := g.pr
      have l := (ih now).mpr pr
      by_cases c : lastN x x.length < x.length
      · obtain ⟨t, h1, _⟩ := g.fwd (q := x.length) (.nil) c (Nat.le_refl _) (.inr rfl) (fun i h1 h2 => r3 i h1 (by omega))
        have r := line_rc fm n3 r2 (Nat.le_refl _) h1
        refine ⟨l, t.1, whI t.2, r, now, whI t.2, l, ?_⟩
        rw [sg]
        exact r
      · have l0 : (subS x (lastN x x.length) x.length).length = 0 := by rw [sub_len subS_is r2 (Nat.le_refl _)]; omega
        have r : Rc fr (subS x (lastN x x.length) x.length) nw now ((subS x (lastN x x.length) x.length).length, now, -1) := by
          rw [l0]
          exact .nil
        refine ⟨l, now, -1, r, now, -1, l, ?_⟩
        rw [sg]
        exact r
  | d + 1, p, now, hd, h => by
    obtain ⟨p2, h2, _, L, pn⟩ := line_lt (x := x) (j := mF x - (d + 1)) (by omega)
    rw [h] at h2
    cases h2
    have e1 : mF x - (d + 1) + 1 = mF x - d := by omega
    obtain ⟨p', h'⟩ : ∃ p', (lines x)[mF x - d]? = some p' := ⟨_, List.getElem?_eq_getElem (by rw [lines_len]; omega)⟩
    have en := line_next h (by rw [e1]; exact h')
    have gd := fun st => gd_pg d p' st (by omega) h'
    have ih := fun now => lay_pr fm n3 _ _ now h
    have sg := sg_at h
    show (LayP fr x nw (mF x - (d + 1)) now ∧ ∃ st wh, Rc fr (sgF x (mF x - (d + 1))) nw now ((sgF x (mF x - (d + 1))).length, st, wh) ∧ GdP fr x nw (d + 1) st) ↔ _
    rw [sg]
    rw [en] at gd
    constructor
    · rintro ⟨l, st, wh, r, g⟩
      obtain ⟨m, _, u⟩ := rc_line fm n3 (Nat.le_of_lt L.lt) pn r
      refine TL.PG.bwd u ((ih now).mp l) L.lt (fun i h1 h2 => L.no i h1 h2) ?_
      rw [rsb_at fm n3 L.en]
      exact (gd st).mp g
    · intro g
      obtain ⟨t, h1, h2⟩ := g.fwd (q := p.2) (.nil) L.lt pn (.inl L.en) (fun i h1 h2 => L.no i h1 h2)
      rw [rsb_at fm n3 L.en] at h2
      exact ⟨(ih now).mpr g.pr, t.1, whI t.2, line_rc fm n3 (Nat.le_of_lt L.lt) pn h1, (gd _).mpr h2⟩
theorem pu_made {q b p : Nat} {z s : Sx} (h : TL.PU (envF fm x nw n3) q b z p s) (lt : b < p) : s.2 ≠ .no := by
  cases h with
  | nil => omega
  | snoc _ _ _ _ => exact beh_no
theorem fl_word {j : Nat} {p : Nat × Nat} (hj : j < mF x) (h : (lines x)[j]? = some p) (f : Bool) : FlL fr x nw j f ↔ FlB fm x nw n3 p.2 f := by
  obtain ⟨p2, h2, _, L, pn⟩ := line_lt hj
  rw [h] at h2
  cases h2
  unfold FlB
  rw [TL.fl_iff L.bg L.lt L.en (fun i h1 h2 => L.no i h1 h2)]
  have ih := fun now => lay_pr fm n3 _ _ now h
  have sg := sg_at h
  obtain ⟨p', h'⟩ : ∃ p', (lines x)[j + 1]? = some p' := ⟨_, List.getElem?_eq_getElem (by rw [lines_len]; omega)⟩
  have en := line_next h h'
  have ej : mF x - j = mF x - (j + 1) + 1 := by omega
  have ej2 : mF x - (mF x - (j + 1)) = j + 1 := by omega
  have gd := fun st => gd_pg (x := x) (nw := nw) fm n3 (mF x - (j + 1)) p' st (by omega) (by rw [ej2]; exact h')
  rw [en] at gd
  have fw : ∀ m : Mk, m ≠ .no → (∀ k, m = .one k → 0 ≤ k) → decide (whI m < 0) = decide (m = .mix) := fun m h0 hp => by
    cases m with
    | no => exact absurd rfl h0
    | mix => rfl
    | one k =>
      have := hp k rfl
      show decide (k < 0) = _
      rw [decide_eq_false (show ¬ k < 0 by omega), decide_eq_false (by intro z; cases z)]
  constructor
  · rintro ⟨now, st, wh, l, r, g, e⟩
    rw [sg] at r
    obtain ⟨m, hp, ew, u⟩ := rc_pu (fm := fm) (n3 := n3) subS_is (Nat.le_of_lt L.lt) r
    have e2 : p.1 + (subS x p.1 p.2).length = p.2 := by rw [sub_len subS_is (Nat.le_of_lt L.lt) pn]; have := L.lt; omega
    have u : TL.PU (envF fm x nw n3) p.2 p.1 (now, .no) (p.1 + (subS x p.1 p.2).length) (st, m) := u
    rw [e2] at u
    rw [ej] at g
    refine ⟨(now, .no), (st, m), (ih now).mp l, u, (gd st).mp g, ?_⟩
    have ew : wh = whI m := ew
    show decide (m = .mix) = f
    rw [← fw m (pu_made fm n3 u L.lt) hp, ← ew]
    exact e
  · rintro ⟨z, t, r, u, g, e⟩
    have hz := pr_clean fm n3 r L.bg
    rw [hz] at r u
    obtain ⟨i, ei, hp, rc⟩ := pu_rc subS_is (Nat.le_of_lt L.lt) u
    have e2 : i = (subS x p.1 p.2).length := by rw [sub_len subS_is (Nat.le_of_lt L.lt) pn]; omega
    rw [e2] at rc
    refine ⟨z.1, t.1, whI t.2, (ih _).mpr r, by rw [sg]; exact rc, by rw [ej]; exact (gd _).mpr g, ?_⟩
    rw [fw t.2 (pu_made fm n3 u L.lt) hp]
    exact e
theorem words_is : (List.range (mF x)).map (wordL fr x nw) = (bds x).map (wordC fm x nw n3) := by
  have eb : bds x = (lnsN x x.length).map (·.2) := lns_snd.symm
  rw [eb]
  apply List.ext_getElem?
  intro j
  rw [List.getElem?_map, List.getElem?_map, List.getElem?_map]
  by_cases c : j < mF x
  · obtain ⟨p, h1, h2, _, _⟩ := line_lt c
    rw [h2, List.getElem?_range c]
    have z := fun f => propext (fl_word fm n3 c h1 f)
    show some (wordL fr x nw j) = some (wordC fm x nw n3 p.2)
    unfold wordL wordC
    rw [z true, z false]
  · rw [List.getElem?_eq_none (by rw [List.length_range]; omega), List.getElem?_eq_none (show (lnsN x x.length).length ≤ j from by show mF x ≤ j; omega)]
    rfl
end
end K35

set_option Elab.async false
set_option linter.all false
set_option maxRecDepth 100000
set_option maxHeartbeats 4000000
/-! _law_segments. -/
namespace K35
open PySem L2 L2.EV
abbrev sSegs : Stmt := top 49
theorem sl_subS {x : Str} {b q : Nat} : sl (subS x b q) = ((sl x).drop b).take (q - b) := subS_is
theorem sub_more {x : Str} {b i c : Nat} (bi : b ≤ i) (hc : (sl x)[i]? = some c) : subS x b i ++ (⟨#[c]⟩ : Str) = subS x b (i + 1) := by
  refine str_ext ?_
  rw [sl_app, sl_subS, sl_subS]
  have e : i + 1 - b = (i - b) + 1 := by omega
  rw [e, List.take_succ, List.getElem?_drop]
  have e2 : b + (i - b) = i := by omega
  rw [e2, hc]
  rfl
theorem sub_none {x : Str} {b : Nat} : subS x b b = "" := by
  refine str_ext ?_
  rw [sl_subS, Nat.sub_self, sl_empty]
  rfl
theorem sub_short {x : Str} {b q : Nat} : (subS x b q).length ≤ x.length := by
  rw [len_sl, sl_subS, List.length_take, List.length_drop, ← len_sl]
  omega
theorem lines_few {x : Str} {i : Nat} (h : i ≤ 60) : (lnsN x i).length ≤ 61 := by
  rw [lns_len]
  unfold bdsN
  have := List.length_filter_le (fun q => decide (Bd x q)) (List.range (i + 1))
  rw [List.length_range] at this
  omega
def spSegs : Sp := fun vs H Q _ => ∃ x : Str, vs = [.str x] ∧ x.length ≤ 60 ∧ ∀ H' p, Same H H' → H p = none → H' p = some (.lst ((segsF x).map V.str)) → Q (.ref p) H'
structure Lgs (K : PySem.W.Frag) (mg : Str → Option Value) where
  f : Addr
  d : FuncData
  F : Fun K "_law_segments" "_law_segments" sSegs f d
  b : Binds K d ["text"] []
  g : mg "_law_segments" = some (.ref f)
section
variable {P : Program} {w : World} {K : PySem.W.Frag} {mg : Str → Option Value} {base : Heap}
theorem scSegs : FnScope ["text", "found", "rest", "sign"] ["text"] (defScope sSegs) := ⟨rfl, rfl, rfl, by decide +kernel, rfl, by decide +kernel, by decide +kernel⟩
theorem ok_segs (G : Lgs K mg) : FnOk P w K mg base CX0 1 G.f G.d ["text"] spSegs := by
  refine G.F.ok scSegs (fun vs H Q E h => ?_) (fun cdv A outer s H vs Q E hr h => ?_)
  · obtain ⟨x, rfl, _⟩ := h
    rfl
  · obtain ⟨x, rfl, x60, q⟩ := h
    refine ⟨_, pss_cons (ps_par (i := 1) (j := 2) (x := "found") (y := "rest") rfl scSegs.nd rfl rfl (by decide) rfl rfl (pa_cons (pe_lst pa_nil) (pa_cons pe_str pa_nil)) (by rfl))
      (pss_cons (ps_for PassesOwn.never rfl (pi_str (pv 0)) (pg_name (i := 3) scSegs.nd rfl (Or.inl rfl))
        (pss_cons (ps_set (i := 2) scSegs.nd rfl (Or.inl rfl) (pe_op op_add_str (pv 2) (pv 3)))
        (pss_one (ps_if (pt_cmpR op_eq (pv 3) pe_str (nomark _))
          (pss_cons (ps_expr (pe_bm PySem.F.plainAttrs_list PySem.F.slot_list_append PySem.F.type_list_append mt_append (pv 1) (pa_cons (pv 2) pa_nil)))
          (pss_one (ps_set (i := 2) scSegs.nd rfl (Or.inl rfl) pe_str))) pss_nil))))
      (pss_one (ps_ret (pe_op op_cat (pv 1) (pe_lst (pa_cons (pv 2) pa_nil)))))), ?_⟩
    refine ⟨by decide, fun F nF => ⟨_, _, rfl, ?_⟩⟩
    have uF := same_upd (o := HO.lst []) nF
    refine ⟨_, rfl, x, rfl, for_it walk_str (fun i σ H' => ∃ v3 : Option V, σ = [some (.str x), some (.ref F), some (.str (subS x (lastN x i) i)), v3] ∧ Same H H' ∧ H' F = some (.lst ((lnsN x i).map fun p => V.str (subS x p.1 p.2)))) ⟨none, ?_, uF, ?_⟩ (fun _ _ _ _ _ => trivial) ?_ ?_⟩
    · obtain ⟨_, _, l0, _⟩ := lastN_is (x := x) (i := 0)
      rw [show lastN x 0 = 0 by omega, sub_none]
      rfl
    · have e : lnsN x 0 = [] := by unfold lnsN ptsN; rw [bdsN_zero]; rfl
      rw [e]
      exact upd_same
    · rintro i y σ H1 H2 hi ⟨v3, rfl, s1, hF⟩ ⟨rfl, c, hc, rfl⟩
      have hc : (sl x)[i]? = some c := by simpa using hc
      have il : i < x.length := by
        have := (List.getElem?_eq_some_iff.mp hc).1
        rw [← len_sl] at this
        exact this
      obtain ⟨_, _, l1, _⟩ := lastN_is (x := x) (i := i)
      have sh := sub_short (x := x) (b := lastN x i) (q := i)
      refine ⟨_, rfl, _, rfl, _, _, rfl, rfl, by rw [sizeLine_eq]; show _ + 1 ≤ 16777216; omega, ?_⟩
      rw [sub_more l1 hc]
      refine ⟨_, rfl, rfl, _, rfl, ?_⟩
      have eb : Bd x (i + 1) ↔ c = 59 := by
        unfold Bd
        rw [Nat.add_sub_cancel, hc]
        constructor
        · intro z; exact Option.some.inj z.2
        · intro z; rw [z]; exact ⟨by omega, rfl⟩
      by_cases z : c = 59
      · have bd := eb.mpr z
        obtain ⟨e1, e2⟩ := lns_succ.1 bd
        refine iteT' (by rw [z]; decide +kernel) ?_
        refine ⟨_, rfl, .inl ⟨rfl, _, SqL.of hF⟩, _, rfl, F, _, _, rfl, rfl, hF, ?_, ?_⟩
        · have := lines_few (x := x) (i := i) (by omega)
          rw [List.length_map, sizeLine_eq]
          omega
        · refine ⟨some (.str ⟨#[c]⟩), ?_, fun b o h => by rw [upd_ne (ne_of_none h nF)]; exact s1 _ _ h, ?_⟩
          · rw [e2, sub_none]
            rfl
          · rw [e1, List.map_append]
            exact upd_same
      · obtain ⟨e1, e2⟩ := lns_succ.2 fun h => z (eb.mp h)
        refine iteF' (decide_eq_false fun h => z (by
          have h : (⟨#[c]⟩ : Str) = ";" := by injection h
          have h := congrArg sl h
          rw [semi] at h
          have h : [c] = [59] := h
          injection h)) ?_
        refine ⟨some (.str ⟨#[c]⟩), ?_, s1, by rw [e1]; exact hF⟩
        rw [e2]
        rfl
    · rintro σ H1 ⟨v3, rfl, s1, hF⟩
      have lx : x.cps.size = x.length := rfl
      rw [lx] at hF ⊢
      refine ⟨_, rfl, _, rfl, (by show 1 ≤ sizeLine; decide), fun p hp => ?_⟩
      have u := same_upd (o := HO.lst [V.str (subS x (lastN x x.length) x.length)]) hp
      refine ⟨F, p, _, _, rfl, rfl, u _ _ hF, upd_same, ?_, fun p2 hp2 => ?_⟩
      · have := lines_few (x := x) (i := x.length) x60
        rw [List.length_map, sizeLine_eq]
        show _ + 1 ≤ _
        omega
      · have u2 := same_upd (o := HO.lst ((lnsN x x.length).map (fun p => V.str (subS x p.1 p.2)) ++ [V.str (subS x (lastN x x.length) x.length)])) hp2
        refine q _ p2 (s1.trans (u.trans u2)) (same_none (s1.trans u) hp2) ?_
        have e : (segsF x).map V.str = (lnsN x x.length).map (fun p => V.str (subS x p.1 p.2)) ++ [V.str (subS x (lastN x x.length) x.length)] := by
          unfold segsF lines
          rw [List.map_append, List.map_append, List.map_map]
          rfl
        rw [e]
        exact upd_same
end
end K35

set_option Elab.async false
set_option linter.all false
set_option maxRecDepth 100000
set_option maxHeartbeats 4000000
/-! xs[:0:-1]: all but the first, from the end back. -/
namespace SLR
open PySem PyProof.Rows PySem.W
theorem downTo (m : Nat) : sliceRange ((m + 1 : Nat) - 1 : Int) 0 (-1) = ((List.range m).map (1 + ·)).reverse := by
  have e : (((m + 1 : Nat) - 1 : Int) - 0 - -1 - 1) / (- -1) = (m : Int) := by
    rw [show (- -1 : Int) = 1 from rfl, Int.ediv_one]
    omega
  have l : sliceRange ((m + 1 : Nat) - 1 : Int) 0 (-1) = (List.range m).map fun k => m - k := by
    unfold sliceRange
    have no : ¬ ((-1 : Int) > 0) := by decide
    by_cases c : ((m + 1 : Nat) - 1 : Int) > 0
    · rw [if_neg no, if_pos c, e]
      refine List.map_congr_left fun k hk => ?_
      have hk := List.mem_range.mp hk
      show (((m + 1 : Nat) - 1 : Int) + -1 * (k : Int)).toNat = m - k
      omega
    · have z : m = 0 := by omega
      subst z
      rfl
  rw [l]
  apply List.ext_getElem
  · simp
  · intro i h1 h2
    have hi : i < m := by simpa using h1
    rw [List.getElem_map, List.getElem_reverse, List.getElem_map, List.getElem_range, List.getElem_range]
    simp only [List.length_map, List.length_range]
    omega
theorem picked (its : Array Value) : slicePick its none (some 0) (some (-1)) = its.toList.tail.reverse.toArray := by
  unfold slicePick
  cases h : its.size with
  | zero =>
    have e : its = #[] := Array.eq_empty_of_size_eq_zero h
    subst e
    rfl
  | succ m =>
    have hb : sliceBounds none (some 0) (some (-1)) (m + 1) = (((m + 1 : Nat) - 1 : Int), 0, -1) := by
      unfold sliceBounds
      have no : ¬ ((-1 : Int) > 0) := by decide
      simp only [Option.getD_some, no, if_false]
      congr 1
      congr 1
      rw [if_neg (by decide)]
      omega
    rw [hb]
    show ((sliceRange ((m + 1 : Nat) - 1 : Int) 0 (-1)).filterMap (its[·]?)).toArray = _
    rw [downTo, List.filterMap_reverse, pick_run its 1 m, List.take_of_length_le (by rw [List.length_drop, Array.length_toList]; omega), List.drop_one]
end SLR
namespace L2
open PySem PySem.Spec PyProof.Rows
def tRevTl (K : PySem.W.Frag) (tx : TE) : TE := fun σ H Q => tx σ H fun v H1 => ∃ l xs, v = .ref l ∧ SqL K H1 l xs ∧ ∀ p, H1 p = none → Q (.ref p) (upd H1 p (.lst xs.tail.reverse))
theorem Vals.tl {xs : List V} {us : List Value} (r : Vals xs us) : Vals xs.tail us.tail := by
  cases r with
  | nil => exact .nil
  | cons _ t => exact t
theorem pe_revTl {X : Cx} {x : Expr} {tx : TE} {k kz : Nat} {pz q1 q2 q3 q4 : Pos} (hx : PE X x tx) : PE X (.Subscript x (.Slice none (some (.Constant (.int 0) kz pz)) (some (.UnaryOp .USub (.Constant (.int 1) k q1) q2)) q3) q4) (tRevTl X.K tx) := by
  constructor
  intro pins s σ H Q I h
  have P2 : PO X (some (.Constant (.int 0) kz pz)) (tPart (tC (.int 0))) := po_some pe_int
  have P3 : PO X (some (.UnaryOp .USub (.Constant (.int 1) k q1) q2)) (tPart (tUn (rU fun i => .int (-i)) (tC (.int 1)))) := po_some (pe_un un_neg pe_int)
  refine Subscript_ (thn (hx.run pins s σ H _ I h) ?_)
  rintro v sA ⟨w, HA, IA, rA, l, xs, rfl, hl, q⟩
  cases rA
  refine wpAny_Slice (thn (po_none.run pins sA σ HA (fun o Hz => o = none ∧ Hz = HA) IA ⟨rfl, rfl⟩) ?_)
  rintro va sB ⟨oa, HB, IB, pa, rfl, rfl⟩
  refine thn (P2.run pins sB σ _ (fun o Hz => o = some 0 ∧ Hz = HB) IB ⟨0, rfl, rfl, rfl⟩) ?_
  rintro vb sC ⟨ob, HC, IC, pb, rfl, rfl⟩
  refine thn (P3.run pins sC σ _ (fun o Hz => o = some (-1) ∧ Hz = HC) IC ⟨1, rfl, -1, rfl, rfl, rfl⟩) ?_
  rintro vc sD ⟨oc, HD, ID, pc, rfl, rfl⟩
  have IE : Inv X pins σ HD { sD with heap := sD.heap.push { cls := .type "slice", data := .fields #[va, vb, vc] } } := ID.kept (t' := sD.toks) fun _ _ z => Heap.get?_push_of_some _ z
  obtain ⟨its, ri, isl, small⟩ := IE.list hl
  have len := ri.length
  show wpAny (model X.prog X.w) X.A (subscriptTail x (.Slice none (some (.Constant (.int 0) kz pz)) (some (.UnaryOp .USub (.Constant (.int 1) k q1) q2)) q3) (.ref l) (.ref sD.heap.objs.size)) (EP X pins σ Q) X.xe _
  refine tail_any (ops := [.ref l, .ref sD.heap.objs.size]) isl.isList.typeIs PySem.slot_list_getitem.lookup (wpAny_getItem_list_slice isl.isList (Heap.IsSliceOf.new _ va vb vc) pa pb pc (by decide) ?_ (by rw [List.size_toArray]; omega)) (by with_unfolding_all rfl)
  rw [SLR.picked]
  refine ⟨.ref _, _, IE.laid (t' := sD.toks) (o := .lst xs.tail.reverse) (fun _ _ z => Heap.get?_push_of_some _ z) (Nat.le_refl _) ⟨?_, _, 0, ri.tl.reverse, Heap.get?_push_size _ rfl⟩, rfl, q _ (IE.hok.fresh (Nat.le_refl _))⟩
  rw [List.length_reverse, List.length_tail]
  omega
end L2

set_option Elab.async false
set_option linter.all false
set_option maxRecDepth 100000
set_option maxHeartbeats 4000000
/-! What _law_verdicts has. -/
namespace K35
open PySem L2 L2.EV
/-- now, stand, whose -/
abbrev RowE := List Int × List Int × Int
def TpA (H : Hp) (a : Addr) (l : List Int) : Prop := H a = some (.tup (l.map V.int))
def TlA (H : Hp) (k : Addr) (ls : List (List Int)) : Prop := ∃ ts : List Addr, H k = some (.lst (ts.map V.ref)) ∧ AtX (TpA H) ts ls
def RwA (H : Hp) (t : Addr) (e : RowE) : Prop := ∃ a b, H t = some (.tup [.ref a, .ref b, .int e.2.2]) ∧ TpA H a e.1 ∧ TpA H b e.2.1
def RwsA (H : Hp) (a : Addr) (r : List RowE) : Prop := ∃ ts : List Addr, H a = some (.lst (ts.map V.ref)) ∧ AtX (RwA H) ts r
theorem TpA.keep {H H' : Hp} {a : Addr} {l : List Int} (h : TpA H a l) (k : KeepT H H') : TpA H' a l := k _ _ h
theorem RwA.keep {H H' : Hp} {t : Addr} {e : RowE} (h : RwA H t e) (k : KeepT H H') : RwA H' t e := let ⟨a, b, h1, h2, h3⟩ := h; ⟨a, b, k _ _ h1, k _ _ h2, k _ _ h3⟩
theorem TlA.keep {H H' : Hp} {a : Addr} {l : List (List Int)} (h : TlA H a l) (k : KeepT H H') (e : ∀ o, H a = some o → H' a = some o) : TlA H' a l := let ⟨ts, h1, h2⟩ := h; ⟨ts, e _ h1, h2.mono fun _ _ h => h.keep k⟩
theorem RwsA.keep {H H' : Hp} {a : Addr} {r : List RowE} (h : RwsA H a r) (k : KeepT H H') (e : ∀ o, H a = some o → H' a = some o) : RwsA H' a r := let ⟨ts, h1, h2⟩ := h; ⟨ts, e _ h1, h2.mono fun _ _ h => h.keep k⟩
theorem TlA.same {H H' : Hp} {a : Addr} {l : List (List Int)} (h : TlA H a l) (s : Same H H') : TlA H' a l := h.keep (Same.keepT s) fun o e => s _ _ e
theorem RwsA.same {H H' : Hp} {a : Addr} {l : List RowE} (h : RwsA H a l) (s : Same H H') : RwsA H' a l := h.keep (Same.keepT s) fun o e => s _ _ e
structure V1 (H0 H : Hp) (LA RW : Addr) (la ra : List Addr) (rs : List (List RowE)) : Prop where
  s : Same H0 H
  nL : H0 LA = none
  nR : H0 RW = none
  LR : LA ≠ RW
  hL : H LA = some (.lst (la.map V.ref))
  hR : H RW = some (.lst (ra.map V.ref))
  aR : AtX (RwsA H) ra rs
  ne : ∀ a ∈ ra, a ≠ LA ∧ a ≠ RW
theorem AtX.monoM {α : Type} {R S : Addr → α → Prop} {ads : List Addr} {xs : List α} (h : AtX R ads xs) (k : ∀ a x, a ∈ ads → R a x → S a x) : AtX S ads xs := ⟨h.1, fun i a x h1 h2 => k _ _ (List.mem_of_getElem? h1) (h.2 i a x h1 h2)⟩
section
variable {H0 H H' : Hp} {LA RW : Addr} {la ra : List Addr} {rs : List (List RowE)}
theorem V1.same (v : V1 H0 H LA RW la ra rs) (s : Same H H') : V1 H0 H' LA RW la ra rs :=
  ⟨v.s.trans s, v.nL, v.nR, v.LR, s _ _ v.hL, s _ _ v.hR, v.aR.mono fun _ _ h => h.same s, v.ne⟩
theorem V1.pushR {a : Addr} {r : List RowE} (v : V1 H0 H LA RW la ra rs) (h : RwsA H a r) (n1 : a ≠ LA) (n2 : a ≠ RW) : V1 H0 (upd H RW (.lst (ra.map V.ref ++ [.ref a]))) LA RW la (ra ++ [a]) (rs ++ [r]) := by
  have k : KeepT H (upd H RW (.lst (ra.map V.ref ++ [.ref a]))) := keepT_upd v.hR (fun xs z => by cases z)
  refine ⟨fun c o z => by rw [upd_ne (ne_of_none z v.nR)]; exact v.s _ _ z, v.nL, v.nR, v.LR, by rw [upd_ne v.LR]; exact v.hL, by rw [List.map_append]; exact upd_same, (v.aR.monoM fun b x hb h => h.keep k fun o e => by rw [upd_ne (v.ne b hb).2]; exact e).snoc (h.keep k fun o e => by rw [upd_ne n2]; exact e), fun b hb => ?_⟩
  rcases List.mem_append.mp hb with z | z
  · exact v.ne b z
  · rw [List.mem_singleton.mp z]; exact ⟨n1, n2⟩
theorem V1.pushL {k : Addr} (v : V1 H0 H LA RW la ra rs) : V1 H0 (upd H LA (.lst (la.map V.ref ++ [.ref k]))) LA RW (la ++ [k]) ra rs := by
  have kt : KeepT H (upd H LA (.lst (la.map V.ref ++ [.ref k]))) := keepT_upd v.hL (fun xs z => by cases z)
  exact ⟨fun c o z => by rw [upd_ne (ne_of_none z v.nL)]; exact v.s _ _ z, v.nL, v.nR, v.LR, by rw [List.map_append]; exact upd_same, by rw [upd_ne v.LR.symm]; exact v.hR, v.aR.monoM fun b x hb h => h.keep kt fun o e => by rw [upd_ne (v.ne b hb).1]; exact e, v.ne⟩
/-- another list is written -/
theorem V1.at_ {k : Addr} (v : V1 H0 H LA RW la ra rs) (kp : ∀ c o, H c = some o → c ≠ k → H' c = some o) (kt : KeepT H H') (n0 : H0 k = none) (n1 : k ≠ LA) (n2 : k ≠ RW) (n3 : ¬ k ∈ ra) : V1 H0 H' LA RW la ra rs :=
  ⟨fun c o z => kp c o (v.s _ _ z) (ne_of_none z n0), v.nL, v.nR, v.LR, kp _ _ v.hL n1.symm, kp _ _ v.hR n2.symm, v.aR.monoM fun b x hb h => h.keep kt fun o e => kp _ _ e fun z => n3 (z ▸ hb), v.ne⟩
end
/-! bounds -/
theorem lay_ok {fr : List T3} {last : Nat} (fm : Frm fr last) {x : Str} {nw : Nat} : ∀ (j : Nat) (st : List Int), LayP fr x nw j st → st.length = nw ∧ ∀ q ∈ st, 0 ≤ q ∧ q ≤ last
  | 0, st, h => by
    have h : st = List.replicate nw 0 := h
    rw [h]
    exact ⟨List.length_replicate, fun q hq => by rw [(List.mem_replicate.mp hq).2]; omega⟩
  | j + 1, st, h => by
    obtain ⟨now, wh, l, r⟩ := h
    obtain ⟨h1, h2⟩ := lay_ok fm j now l
    have g := r.ok fm h1 h2
    exact ⟨g.l, g.b⟩
theorem stands_few {last nw : Nat} (h5 : last ≤ 5) (h3 : nw ≤ 3) {ls : List (List Int)} (nd : ls.Nodup) (ok : ∀ st ∈ ls, st.length = nw ∧ ∀ q ∈ st, 0 ≤ q ∧ q ≤ last) : ls.length ≤ 216 := by
  have a := List.Nodup.length_le_of_subset nd fun st hs => allP_mem nw st (ok st hs).1 (ok st hs).2
  rw [allP_len] at a
  have p1 : (last + 1) ^ nw ≤ 6 ^ nw := Nat.pow_le_pow_left (by omega) nw
  have p2 : 6 ^ nw ≤ 6 ^ 3 := Nat.pow_le_pow_right (by decide) h3
  have p3 : (6 : Nat) ^ 3 = 216 := by decide
  omega
/-! data -/
def dT (l : List Int) : PyData := .tuple (l.map .int)
theorem dp_T {K : PySem.W.Frag} {H : Hp} {a : Addr} {l : List Int} (h : TpA H a l) : Dp K H (.ref a) (dT l) := .tup (SqT.of h) (dp_ints _)
theorem dp_Ts {K : PySem.W.Frag} {H : Hp} : ∀ {ads : List Addr} {ls : List (List Int)}, AtX (TpA H) ads ls → DpAll K H (ads.map V.ref) (ls.map dT)
  | [], [], _ => .nil
  | [], _ :: _, h => by cases h.1
  | _ :: _, [], h => by cases h.1
  | a :: ads, p :: ps, h => .cons (dp_T (h.2 0 a p rfl rfl)) (dp_Ts ⟨by simpa using h.1, fun i a x h1 h2 => h.2 (i + 1) a x (by simpa using h1) (by simpa using h2)⟩)
theorem lay_T (l : List Int) : (dT l).canLay0 = true ∧ (dT l).depth ≤ 1 := by
  have x := canLay_ints l
  have y := depth_ints l
  unfold dT
  refine ⟨by simp only [PyData.canLay0]; exact x, ?_⟩
  simp only [PyData.depth]
  omega
theorem shaped_T (l : List Int) : SeqAt.shaped (dT l) = true := by
  show (PyData.canLay0 (dT l) && decide (PyData.depth (dT l) ≤ 64)) = true
  rw [(lay_T l).1, decide_eq_true (by have := (lay_T l).2; omega)]
  rfl
theorem shaped_Ts (ps : List (List Int)) : SeqAt.shaped (.list (ps.map dT)) = true := by
  have all : PyData.canLayAll0 (ps.map dT) = true ∧ PyData.depthAll (ps.map dT) ≤ 1 := by
    induction ps with
    | nil => exact ⟨by simp [PyData.canLayAll0], by simp [PyData.depthAll]⟩
    | cons p ps ih =>
      obtain ⟨a1, b1⟩ := lay_T p
      refine ⟨by simp only [List.map_cons, PyData.canLayAll0, a1, ih.1, Bool.and_self], ?_⟩
      have := ih.2
      simp only [List.map_cons, PyData.depthAll]
      omega
  show (PyData.canLay0 (.list (ps.map dT)) && decide (PyData.depth (.list (ps.map dT)) ≤ 64)) = true
  have h1 : PyData.canLay0 (.list (ps.map dT)) = true := by
    simp only [PyData.canLay0]
    exact all.1
  have h2 : PyData.depth (.list (ps.map dT)) ≤ 64 := by
    have := all.2
    simp only [PyData.depth]
    omega
  rw [h1, decide_eq_true h2]
  rfl
theorem eqv_intsd : ∀ a b : List Int, PyData.eqvAll (a.map PyData.int) (b.map PyData.int) = decide (a = b)
  | [], [] => by simp [PyData.eqvAll]
  | [], _ :: _ => by simp [PyData.eqvAll]
  | _ :: _, [] => by simp [PyData.eqvAll]
  | x :: a, y :: b => by
    simp only [List.map_cons, PyData.eqvAll, eqv_intsd a b, PyData.eqv]
    by_cases c : x = y
    · subst c
      by_cases d : a = b <;> simp [d]
    · simp [c]
theorem eqv_T (a b : List Int) : PyData.eqv (dT a) (dT b) = decide (a = b) := by
  unfold dT
  simp only [PyData.eqv]
  exact eqv_intsd a b
theorem any_T (l : List Int) : ∀ ls : List (List Int), ((ls.map dT).any fun z => PyData.eqv z (dT l)) = decide (l ∈ ls)
  | [] => by simp
  | a :: ls => by
    rw [List.map_cons, List.any_cons, any_T l ls, eqv_T]
    by_cases c : a = l
    · subst c
      simp
    · rw [decide_eq_false c, Bool.false_or]
      by_cases d : l ∈ ls
      · rw [decide_eq_true d, decide_eq_true (List.mem_cons_of_mem _ d)]
      · rw [decide_eq_false d, decide_eq_false]
        intro z
        rcases List.mem_cons.mp z with z | z
        · exact c z.symm
        · exact d z
theorem dp_bls {K : PySem.W.Frag} {H : Hp} : ∀ bs : List Bool, DpAll K H (bs.map V.bl) (bs.map PyData.bool)
  | [] => .nil
  | b :: bs => .cons (.bl b) (dp_bls bs)
theorem shaped_bls (bs : List Bool) : SeqAt.shaped (.list (bs.map PyData.bool)) = true := by
  have all : PyData.canLayAll0 (bs.map PyData.bool) = true ∧ PyData.depthAll (bs.map PyData.bool) = 0 := by
    induction bs with
    | nil => exact ⟨by simp [PyData.canLayAll0], by simp [PyData.depthAll]⟩
    | cons p ps ih =>
      refine ⟨by simp only [List.map_cons, PyData.canLayAll0, PyData.canLay0, ih.1, Bool.and_self], ?_⟩
      have := ih.2
      simp only [List.map_cons, PyData.depthAll, PyData.depth]
      omega
  show (PyData.canLay0 (.list (bs.map PyData.bool)) && decide (PyData.depth (.list (bs.map PyData.bool)) ≤ 64)) = true
  have h1 : PyData.canLay0 (.list (bs.map PyData.bool)) = true := by
    simp only [PyData.canLay0]
    exact all.1
  have h2 : PyData.depth (.list (bs.map PyData.bool)) ≤ 64 := by
    have := all.2
    simp only [PyData.depth]
    omega
  rw [h1, decide_eq_true h2]
  rfl
theorem shaped_bl (b : Bool) : SeqAt.shaped (.bool b) = true := by cases b <;> decide +kernel
theorem any_bl (b : Bool) : ∀ bs : List Bool, ((bs.map PyData.bool).any fun z => PyData.eqv z (.bool b)) = decide (b ∈ bs)
  | [] => by simp
  | a :: ls => by
    rw [List.map_cons, List.any_cons, any_bl b ls]
    have e : PyData.eqv (.bool a) (.bool b) = decide (a = b) := by cases a <;> cases b <;> simp [PyData.eqv]
    rw [e]
    by_cases c : a = b
    · subst c
      simp
    · rw [decide_eq_false c, Bool.false_or]
      by_cases d : b ∈ ls
      · rw [decide_eq_true d, decide_eq_true (List.mem_cons_of_mem _ d)]
      · rw [decide_eq_false d, decide_eq_false]
        intro z
        rcases List.mem_cons.mp z with z | z
        · exact c z.symm
        · exact d z
theorem atx_app {α : Type} {R : Addr → α → Prop} {as bs : List Addr} {xs ys : List α} (h : AtX R as xs) (k : AtX R bs ys) : AtX R (as ++ bs) (xs ++ ys) := by
  refine ⟨by rw [List.length_append, List.length_append, h.1, k.1], fun i a x h1 h2 => ?_⟩
  have l := h.1
  by_cases c : i < as.length
  · rw [List.getElem?_append_left c] at h1
    rw [List.getElem?_append_left (by omega)] at h2
    exact h.2 i a x h1 h2
  · rw [List.getElem?_append_right (by omega)] at h1 h2
    rw [← l] at h2
    exact k.2 _ a x h1 h2
theorem words_back {f : Nat → Str} {m : Nat} : ((((List.range (m + 1)).map fun t => f (m - t)).map V.str).tail.reverse) = ((List.range m).map f).map V.str := by
  have e : (List.range (m + 1)).map (fun t => f (m - t)) = ((List.range (m + 1)).map f).reverse := by
    apply List.ext_getElem
    · simp
    · intro i h1 h2
      rw [List.getElem_map, List.getElem_reverse, List.getElem_map, List.getElem_range, List.getElem_range]
      simp only [List.length_map, List.length_range]
      congr 1
  rw [e, List.map_reverse, List.tail_reverse, List.reverse_reverse, List.range_succ, List.map_append, List.map_append, List.map_cons, List.map_nil, List.map_cons, List.map_nil, List.dropLast_concat]
/-- one row -/
def RowOk (fr : List T3) (x : Str) (nw j : Nat) (r : List RowE) : Prop := ∀ e : RowE, e ∈ r ↔ LayP fr x nw j e.1 ∧ Rc fr (sgF x j) nw e.1 ((sgF x j).length, e.2.1, e.2.2)
end K35

set_option Elab.async false
set_option linter.all false
set_option maxRecDepth 100000
set_option maxHeartbeats 8000000
/-! _law_verdicts. -/
namespace K35
open PySem L2 L2.EV
abbrev sVerL : Stmt := top 50
abbrev NVL : List Str := ["framing", "text", "writers", "layers", "rows", "segment", "row", "now", "stand", "whose", "good", "words", "some", "wholes"]
def spVerL : Sp := fun vs H Q _ => ∃ (f : Addr) (fr : List T3) (last : Nat) (x : Str) (nw : Nat), vs = [.ref f, .str x, .int (nw : Int)] ∧ FrA H f fr ∧ Frm fr last ∧ x.length ≤ 60 ∧ 1 ≤ nw ∧ nw ≤ 3 ∧
  ((∃ st, LayP fr x nw (mF x + 1) st) → ∀ H' p, Same H H' → H' p = some (.tup (((List.range (mF x)).map (wordL fr x nw)).map V.str)) → Q (.ref p) H') ∧ ((¬ ∃ st, LayP fr x nw (mF x + 1) st) → ∀ H', Same H H' → Q .non H')
theorem joinA {ta : TA} {σ : L2.St} {H : Hp} {R : List V → Hp → Prop} (vs : List V) (a : ∀ R : List V → Hp → Prop, R vs H → ta σ H R) (b : R vs H) : ta σ H R := a R b
structure Lv (K : PySem.W.Frag) (mg : Str → Option Value) where
  G : Lg K mg
  S : Lgs K mg
  f : Addr
  d : FuncData
  F : Fun K "_law_verdicts" "_law_verdicts" sVerL f d
  b : Binds K d ["framing", "text", "writers"] []
  g : mg "_law_verdicts" = some (.ref f)
section
variable {P : Program} {w : World} {K : PySem.W.Frag} {mg : Str → Option Value} {base : Heap}
theorem scVerL : FnScope NVL ["framing", "text", "writers"] (defScope sVerL) := ⟨rfl, rfl, rfl, by decide +kernel, rfl, by decide +kernel, by decide +kernel⟩
theorem ok_verL (G : Lv K mg) : FnOk P w K mg base CX0 3 G.f G.d ["framing", "text", "writers"] spVerL := by
  have GG : FnOk P w K mg base CX0 2 G.G.f G.G.d ["framing", "segment", "now"] spGrown := ok_grown G.G
  have GS : FnOk P w K mg base CX0 1 G.S.f G.S.d ["text"] spSegs := ok_segs G.S
  refine G.F.ok scVerL (fun vs H Q E h => ?_) (fun cdv A outer s H vs Q E hr h => ?_)
  · obtain ⟨f, fr, last, x, nw, rfl, _⟩ := h
    rfl
  · obtain ⟨f, fr, last, x, nw, rfl, fa, fm, x60, n1, n3, qS, qN⟩ := h
    have hu64 : (A.deeper (PyProof.Rows.envOfC "_law_verdicts" (defScope sVerL) s.heap.objs.size G.f cdv)).units + 64 < cLine := by have := hr.un; omega
    have hu65 : (A.deeper (PyProof.Rows.envOfC "_law_verdicts" (defScope sVerL) s.heap.objs.size G.f cdv)).units + 65 < cLine := by have := hr.un; omega
    refine ⟨_, pss_cons (ps_par (i := 3) (j := 4) (x := "layers") (y := "rows") rfl scVerL.nd rfl rfl (by decide) rfl rfl (pa_cons (pe_lst (pa_cons (pe_lst (pa_cons (pe_op op_repA (pe_tup (pa_cons pe_int pa_nil)) (pv 2)) pa_nil)) pa_nil)) (pa_cons (pe_lst pa_nil) pa_nil)) (by rfl))
      (pss_cons (ps_for PassesOwn.never rfl (pi_list (pe_call GS (hr.mono (by omega)) (by rfl) G.S.g G.S.F.kp G.S.b .nil pass0 (pa_cons (pv 1) pa_nil))) (pg_name (i := 5) scVerL.nd rfl (Or.inl rfl))
        (pss_cons (ps_set (i := 6) scVerL.nd rfl (Or.inl rfl) (pe_lst pa_nil))
        (pss_cons (ps_for PassesOwn.never rfl (pi_list (pe_ix ix_list (pv 3) (pe_un un_neg pe_int) (fun _ _ => rfl))) (pg_name (i := 7) scVerL.nd rfl (Or.inr rfl))
          (pss_one (ps_set (i := 6) scVerL.nd rfl (Or.inl rfl) (pe_op op_cat (pv 6) (pe_lc (own := [("stand", 8), ("whose", 9)]) (g := gTup K 2 (gCons (gName 8) (gCons (gName 9) gNil))) (te := tTup (tCons (tVar 7) (tCons (tVar 8) (tCons (tVar 9) tNil)))) rfl scVerL.nd
            (pi_list (pe_call GG hr (by rfl) G.G.g G.G.F.kp G.G.b .nil pass0 (pa_cons (pv 0) (pa_cons (pv 5) (pa_cons (pv 7) pa_nil)))))
            (blkOk_by (N := NVL) (sc := defScope sVerL) (by decide +kernel))
            (fun _ _ _ _ _ => pg_tup rfl (pgs_cons (pg_name (i := 8) scVerL.nd rfl (Or.inl rfl)) (pgs_cons (pg_name (i := 9) scVerL.nd rfl (Or.inl rfl)) pgs_nil)))
            (fun _ _ _ _ _ => pts_nil) (fun _ _ _ _ _ => pe_tup (pa_cons (pv 7) (pa_cons (pv 8) (pa_cons (pv 9) pa_nil)))))))))
        (pss_cons (ps_expr (pe_bm PySem.F.plainAttrs_list PySem.F.slot_list_append PySem.F.type_list_append mt_append (pv 4) (pa_cons (pv 6) pa_nil)))
        (pss_cons (ps_expr (pe_bm PySem.F.plainAttrs_list PySem.F.slot_list_append PySem.F.type_list_append mt_append (pv 3) (pa_cons (pe_lst pa_nil) pa_nil)))
        (pss_one (ps_for PassesOwn.never rfl (pi_list (pv 6)) (pg_tup rfl (pgs_cons (pg_name (i := 7) scVerL.nd rfl (Or.inr rfl)) (pgs_cons (pg_name (i := 8) scVerL.nd rfl (Or.inl rfl)) (pgs_cons (pg_name (i := 9) scVerL.nd rfl (Or.inl rfl)) pgs_nil))))
          (pss_one (ps_if (pt_cmpR (op_notInD hu65) (pv 8) (pe_ix ix_list (pv 3) (pe_un un_neg pe_int) (fun _ _ => rfl)) (by rfl))
            (pss_one (ps_expr (pe_bm PySem.F.plainAttrs_list PySem.F.slot_list_append PySem.F.type_list_append mt_append (pe_ix ix_list (pv 3) (pe_un un_neg pe_int) (fun _ _ => rfl)) (pa_cons (pv 8) pa_nil)))) pss_nil)))))))))
      (pss_cons (ps_asg (pe_tup (pa_cons (pe_ix ix_list (pv 3) (pe_un un_neg pe_int) (fun _ _ => rfl)) (pa_cons (pe_lst pa_nil) pa_nil))) (pg_tup rfl (pgs_cons (pg_name (i := 10) scVerL.nd rfl (Or.inr rfl)) (pgs_cons (pg_name (i := 11) scVerL.nd rfl (Or.inl rfl)) pgs_nil))))
      (pss_cons (ps_if (pt_cmpR (op_eqD hu64) (pv 10) (pe_lst pa_nil) (nomark _)) (pss_one (ps_ret pe_non)) pss_nil)
      (pss_cons (ps_for PassesOwn.never rfl (pi_list (pe_revL (pv 4))) (pg_name (i := 6) scVerL.nd rfl (Or.inl rfl))
        (pss_cons (ps_setLc (i := 12) (y := "some") (own := [("now", 7), ("stand", 8), ("whose", 9)]) (g := gTup K 3 (gCons (gName 7) (gCons (gName 8) (gCons (gName 9) gNil)))) (tt := tTest (tOp (rInD K) (tVar 8) (tVar 10))) (te := tVar 9) rfl scVerL.nd rfl rfl rfl (pi_list (pv 6))
            (blkOk_by (N := NVL) (sc := defScope sVerL) (by decide +kernel))
            (fun _ _ _ _ _ => pg_tup rfl (pgs_cons (pg_name (i := 7) scVerL.nd rfl (Or.inl rfl)) (pgs_cons (pg_name (i := 8) scVerL.nd rfl (Or.inl rfl)) (pgs_cons (pg_name (i := 9) scVerL.nd rfl (Or.inl rfl)) pgs_nil))))
            (fun _ _ _ _ _ => pts_one (pt_cmpR (op_inD hu65) (pv 8) (pv 10) (by rfl))) (fun _ _ _ _ _ => pv 9))
        (pss_cons (ps_setLc (i := 13) (y := "wholes") (own := [("whose", 9)]) (g := gName 9) (te := tOp (rI0 fun i j => .bl (decide (j ≤ i))) (tVar 9) (tC (.int 0))) rfl scVerL.nd rfl rfl rfl (pi_list (pv 12))
            (blkOk_by (N := NVL) (sc := defScope sVerL) (by decide +kernel))
            (fun _ _ _ _ _ => pg_name (i := 9) scVerL.nd rfl (Or.inl rfl))
            (fun _ _ _ _ _ => pts_nil) (fun _ _ _ _ _ => pe_cmpR op_ge (pv 9) pe_int (by rfl)))
        (pss_cons (ps_expr (pe_bm PySem.F.plainAttrs_list PySem.F.slot_list_append PySem.F.type_list_append mt_append (pv 11) (pa_cons
            (pe_ifExp (pw_and (pt_cmpR (op_inD hu65) pe_bl (pv 13) (by rfl)) (pw_and1 (pt_cmpR (op_inD hu65) pe_bl (pv 13) (by rfl)))).pt pe_str (pe_ifExp (pt_cmpR (op_inD hu65) pe_bl (pv 13) (by rfl)) pe_str pe_str)) pa_nil)))
        (pss_one (ps_set (i := 10) scVerL.nd rfl (Or.inr rfl) (pe_lc (own := [("now", 7), ("stand", 8), ("whose", 9)]) (g := gTup K 3 (gCons (gName 7) (gCons (gName 8) (gCons (gName 9) gNil)))) (tt := tTest (tOp (rInD K) (tVar 8) (tVar 10))) (te := tVar 7) rfl scVerL.nd
            (pi_list (pv 6)) (blkOk_by (N := NVL) (sc := defScope sVerL) (by decide +kernel))
            (fun _ _ _ _ _ => pg_tup rfl (pgs_cons (pg_name (i := 7) scVerL.nd rfl (Or.inl rfl)) (pgs_cons (pg_name (i := 8) scVerL.nd rfl (Or.inl rfl)) (pgs_cons (pg_name (i := 9) scVerL.nd rfl (Or.inl rfl)) pgs_nil))))
            (fun _ _ _ _ _ => pts_one (pt_cmpR (op_inD hu65) (pv 8) (pv 10) (by rfl))) (fun _ _ _ _ _ => pv 7))))))))
      (pss_one (ps_ret (pe_callTy call_tuple_of (by rfl) G.G.W.G.tu (by decide +kernel) (pa_cons (pe_revTl (pv 11)) pa_nil)))))))), ?_⟩
    refine ⟨by decide, fun q0 hq0 => ⟨_, rfl, q0, (nw : Int), _, rfl, rfl, upd_same, by simp, by omega, by omega, by decide, fun H5 p5 s5 h5 => ?_⟩⟩
    have uq := same_upd (o := HO.tup [V.int 0]) hq0
    rw [Int.toNat_natCast, rep_flat] at h5
    refine ⟨(by show 1 ≤ sizeLine; decide), fun k0 nk0 => ?_⟩
    have uk := same_upd (o := HO.lst [V.ref p5]) nk0
    refine ⟨(by show 1 ≤ sizeLine; decide), fun LA nLA => ?_⟩
    have uL := same_upd (o := HO.lst [V.ref k0]) nLA
    refine ⟨by decide, fun RW nRW => ⟨_, _, rfl, ?_⟩⟩
    have uR := same_upd (o := HO.lst []) nRW
    have s05 : Same H H5 := uq.trans s5
    have kL : k0 ≠ LA := fun z => by
      rw [← z, upd_same] at nLA
      cases nLA
    have kR : k0 ≠ RW := fun z => by
      rw [← z, uL _ _ upd_same] at nRW
      cases nRW
    have LR : LA ≠ RW := fun z => by
      rw [← z, upd_same] at nRW
      cases nRW
    have v0 : V1 H (upd (upd (upd H5 k0 (.lst [V.ref p5])) LA (.lst [V.ref k0])) RW (.lst [])) LA RW ([] ++ [k0]) [] [] :=
      ⟨s05.trans (uk.trans (uL.trans uR)), same_none (s05.trans uk) nLA, same_none (s05.trans (uk.trans uL)) nRW, LR, uR _ _ upd_same, upd_same, AtX.nil, fun a h => nomatch h⟩
    have t0 : TlA (upd (upd (upd H5 k0 (.lst [V.ref p5])) LA (.lst [V.ref k0])) RW (.lst [])) k0 [List.replicate nw 0] :=
      ⟨[p5], uR _ _ (uL _ _ upd_same), AtX.snoc (ads := []) (xs := []) AtX.nil (uR _ _ (uL _ _ (uk _ _ h5)))⟩
    have k0n : H k0 = none := same_none s05 nk0
    clear uR uL uk uq nRW nLA nk0 hq0 s5 h5
    refine ⟨_, rfl, x, rfl, x60, fun H8 pS s8 nS eS => ?_⟩
    have pL : pS ≠ LA := fun z => by rw [z, v0.hL] at nS; cases nS
    have pR : pS ≠ RW := fun z => by rw [z, v0.hR] at nS; cases nS
    have pK : pS ≠ k0 := fun z => by
      obtain ⟨_, h, _⟩ := t0
      rw [z, h] at nS
      cases nS
    have v8 := v0.same s8
    have t8 := t0.same s8
    clear v0 t0 nS
    have lsg : (segsF x).length = mF x + 1 := by unfold segsF; rw [List.length_map, lines_len]
    have m61 : mF x ≤ 61 := lines_few x60
    refine ⟨pS, rfl, ⟨_, SqL.of eS⟩, for_it (walk_list (xs := (segsF x).map V.str)) (fun j σ H' => ∃ (la : List Addr) (k : Addr) (lj : List (List Int)) (ra : List Addr) (rs : List (List RowE)) (v5 v6 v7 v8 v9 : Option V),
        σ = [some (.ref f), some (.str x), some (.int (nw : Int)), some (.ref LA), some (.ref RW), v5, v6, v7, v8, v9, none, none, none, none] ∧ V1 H H' LA RW (la ++ [k]) ra rs ∧ TlA H' k lj ∧ (k ≠ LA ∧ k ≠ RW ∧ (¬ k ∈ ra) ∧ H k = none ∧ pS ≠ k) ∧ lj.Nodup ∧ (∀ st, st ∈ lj ↔ LayP fr x nw j st) ∧
        (rs.length = j ∧ la.length = j) ∧ (∀ (i : Nat) r, rs[i]? = some r → RowOk fr x nw i r ∧ r.length ≤ 14230296) ∧ H' pS = some (.lst ((segsF x).map V.str)))
      ⟨[], k0, [List.replicate nw 0], [], [], none, none, none, none, none, rfl, v8, t8, ⟨kL, kR, (by simp), k0n, pK⟩, by simp, fun st => by rw [List.mem_singleton]; exact Iff.rfl, ⟨rfl, rfl⟩, (fun i r h => by simp at h), eS⟩ (fun j σ H' _ ⟨_, _, _, _, _, _, _, _, _, _, _, _, _, _, _, _, _, _, z⟩ => SqL.of z) ?_ ?_⟩
    · clear v8 t8 s8 eS kL kR k0n pK k0
      rintro j y σ Hy H1 hj ⟨la, k, lj, ra, rs, v5, v6, v7, v8, v9, rfl, v1, tk, ⟨kL, kR, kra, kn, pk⟩, ndj, lay, ⟨lrs, lla⟩, rok, eS⟩ ⟨rfl, hy⟩
      obtain ⟨sg, hsg, rfl⟩ : ∃ sg, (segsF x)[j]? = some sg ∧ y = .str sg := by
        have hy : ((segsF x).map V.str)[j]? = some y := hy
        rw [List.getElem?_map] at hy
        cases e : (segsF x)[j]? with
        | none => rw [e] at hy; cases hy
        | some g => rw [e] at hy; exact ⟨g, rfl, (Option.some.inj hy).symm⟩
      have esg : sgF x j = sg := by unfold sgF; rw [List.getD_eq_getElem?_getD, hsg]; rfl
      have sg60 : sg.length ≤ 60 := by
        have z := List.mem_of_getElem? hsg
        unfold segsF at z
        obtain ⟨p, _, rfl⟩ := List.mem_map.mp z
        have := sub_short (x := x) (b := p.1) (q := p.2)
        omega
      have jm : j ≤ mF x := by
        have := (List.getElem?_eq_some_iff.mp hsg).1
        omega
      have lok : ∀ st ∈ lj, st.length = nw ∧ ∀ q ∈ st, 0 ≤ q ∧ q ≤ last := fun st h => lay_ok fm j st ((lay st).mp h)
      have l216 := stands_few fm.l5 n3 ndj lok
      refine ⟨by decide, fun R0 nR0 => ?_⟩
      have u0 := same_upd (o := HO.lst []) nR0
      obtain ⟨ts, hts, ats⟩ := tk
      refine ⟨_, rfl, _, rfl, LA, _, -1, .ref k, rfl, rfl, SqL.of (u0 _ _ v1.hL), by rw [List.map_append]; exact atI_last _ _, k, rfl, ⟨_, SqL.of (u0 _ _ hts)⟩, ?_⟩
      refine for_it (walk_list (xs := ts.map V.ref)) (fun i σ H' => ∃ (R : Addr) (r : List RowE) (v7 v8 v9 : Option V), σ = [some (.ref f), some (.str x), some (.int (nw : Int)), some (.ref LA), some (.ref RW), some (.str sg), some (.ref R), v7, v8, v9, none, none, none, none] ∧
          Same H1 H' ∧ H1 R = none ∧ RwsA H' R r ∧ (∀ e : RowE, e ∈ r ↔ e.1 ∈ lj.take i ∧ Rc fr sg nw e.1 (sg.length, e.2.1, e.2.2)) ∧ r.length ≤ i * 65881)
        ⟨R0, [], v7, v8, v9, rfl, u0, nR0, ⟨[], upd_same, AtX.nil⟩, (fun e => by simp), by simp⟩ (fun i σ H' _ ⟨_, _, _, _, _, _, z, _⟩ => SqL.of (z _ _ hts)) ?_ ?_
      · clear u0 nR0 R0
        rintro i y σ Hy H2 hi ⟨R, r, v7, v8, v9, rfl, s2, nR, ⟨rt, hR, aR⟩, rr, lr⟩ ⟨rfl, hy⟩
        obtain ⟨a, st, ha, hst, rfl, ta⟩ := ats.at_ (i := i) hy
        have ta2 := ta.keep (Same.keepT s2)
        obtain ⟨sl1, sl2⟩ := lok st (List.mem_of_getElem? hst)
        have il : i < lj.length := (List.getElem?_eq_some_iff.mp hst).1
        refine ⟨_, rfl, _, rfl, _, rfl, _, rfl, f, a, fr, last, sg, st, rfl, fa.same (v1.s.trans s2), fm, sg60, ta2, by omega, by omega, sl2, fun H3 pG fa2 fd s3 n3' e3 aF hF lF => ⟨pG, rfl, ⟨_, SqL.of e3⟩, fun D hD => ?_⟩⟩
        rw [sl1] at hF
        have uD := same_upd (o := HO.lst []) hD
        refine lc_it (walk_list (xs := fa2.map V.ref)) (fun t H' => ∃ ds : List Addr, H' D = some (.lst (ds.map V.ref)) ∧ AtX (RwA H') ds ((fd.take t).map fun g => ((st, g.1, g.2) : RowE)) ∧ Same H3 H') ⟨[], upd_same, AtX.nil, uD⟩ (fun t H' _ ⟨_, _, _, z⟩ => SqL.of (z _ _ e3)) ?_ ?_
        · rintro t y Hy H4 ht ⟨ds, hDs, aD, s4⟩ ⟨rfl, hy⟩
          obtain ⟨tf, g, htf, hg, rfl, ⟨pf, g1, g2⟩⟩ := aF.at_ (i := t) hy
          refine ⟨tf, _, rfl, SqT.of (s4 _ _ g1), rfl, _, _, rfl, _, _, rfl, rfl, rfl, ?_⟩
          refine ⟨_, rfl, _, rfl, _, rfl, (by show 3 ≤ sizeLine; decide), fun q nq => ?_⟩
          have uq := same_upd (o := HO.tup [V.ref a, V.ref pf, V.int g.2]) nq
          have lt : t < fd.length := (List.getElem?_eq_some_iff.mp hg).1
          refine ⟨_, uq _ _ hDs, ?_, ds ++ [q], ?_, ?_, fun b o z => by rw [upd_ne (ne_of_none z hD)]; exact uq _ _ (s4 _ _ z)⟩
          · rw [List.length_map, aD.1, List.length_map, List.length_take, sizeLine_eq]
            omega
          · rw [List.map_append]
            exact upd_same
          · have kd := keepT_upd (o := .lst (ds.map V.ref ++ [V.ref q])) (uq _ _ hDs) (fun xs z => by cases z)
            rw [take_one hg, List.map_append]
            refine (aD.mono fun _ _ h => (h.keep (Same.keepT uq)).keep kd).snoc ?_
            exact RwA.keep (H := upd H4 q (.tup [V.ref a, V.ref pf, V.int g.2])) ⟨a, pf, upd_same, uq _ _ (s4 _ _ (s3 _ _ ta2)), uq _ _ (s4 _ _ g2)⟩ kd
        · rintro H4 ⟨ds, hDs, aD, s4⟩
          have e0 : fd.take (fa2.map V.ref).length = fd := by rw [List.length_map, aF.1, List.take_length]
          rw [e0] at aD
          have lr2 : rt.length ≤ i * 65881 := by rw [aR.1]; exact lr
          have ld : ds.length ≤ 65881 := by rw [aD.1, List.length_map]; exact lF
          have li : i * 65881 ≤ 215 * 65881 := Nat.mul_le_mul (by omega) (Nat.le_refl _)
          refine ⟨R, D, _, _, rfl, rfl, s4 _ _ (s3 _ _ hR), hDs, by rw [List.length_map, List.length_map, sizeLine_eq]; omega, fun R2 nR2 => ?_⟩
          have u2 := same_upd (o := HO.lst (rt.map V.ref ++ ds.map V.ref)) nR2
          have s14 := s2.trans (Same.trans s3 s4)
          refine ⟨R2, r ++ fd.map fun g => ((st, g.1, g.2) : RowE), _, _, _, rfl, s14.trans u2, same_none s14 nR2, ⟨rt ++ ds, by rw [List.map_append]; exact upd_same, ?_⟩, fun e => ?_, ?_⟩
          · have k2 := Same.keepT u2
            have k3 := Same.keepT (Same.trans s3 s4)
            exact atx_app (aR.mono fun _ _ h => (h.keep k3).keep k2) (aD.mono fun _ _ h => h.keep k2)
          · rw [List.mem_append, take_one hst, List.mem_append, List.mem_singleton, rr e, List.mem_map]
            constructor
            · rintro (⟨h1, h2⟩ | ⟨g, hg, rfl⟩)
              · exact ⟨.inl h1, h2⟩
              · exact ⟨.inr rfl, (hF g).mp hg⟩
            · rintro ⟨h1 | h1, h2⟩
              · exact .inl ⟨h1, h2⟩
              · refine .inr ⟨(e.2.1, e.2.2), (hF _).mpr ?_, ?_⟩
                · rw [h1] at h2
                  exact h2
                · rw [← h1]
          · rw [List.length_append, List.length_map, Nat.succ_mul]
            omega
      · rintro σ H2 ⟨R, r, v7, v8, v9, rfl, s2, nR, hRr, rr, lr⟩
        rw [List.length_map, ats.1, List.take_length] at rr
        rw [List.length_map, ats.1] at lr
        have v2 := v1.same s2
        have lr3 : r.length ≤ 14230296 := by
          have : lj.length * 65881 ≤ 216 * 65881 := Nat.mul_le_mul l216 (Nat.le_refl _)
          omega
        have RL : R ≠ LA := fun z => by rw [z, v1.hL] at nR; cases nR
        have RR : R ≠ RW := fun z => by rw [z, v1.hR] at nR; cases nR
        have rowok : RowOk fr x nw j r := fun e => by
          rw [rr e, lay, esg]
        have lra := v2.aR.1
        refine ⟨_, rfl, .inl ⟨rfl, _, SqL.of v2.hR⟩, _, rfl, RW, _, _, rfl, rfl, v2.hR, by rw [List.length_map, lra, lrs, sizeLine_eq]; omega, ?_⟩
        have v3 := v2.pushR hRr RL RR
        have hR3 : RwsA (upd H2 RW (.lst (ra.map V.ref ++ [.ref R]))) R r := hRr.keep (keepT_upd v2.hR (fun xs z => by cases z)) fun o e => by rw [upd_ne RR]; exact e
        have eS3 : upd H2 RW (.lst (ra.map V.ref ++ [.ref R])) pS = some (.lst ((segsF x).map V.str)) := by rw [upd_ne pR]; exact s2 _ _ eS
        clear v2 hRr
        generalize upd H2 RW (.lst (ra.map V.ref ++ [.ref R])) = H3 at v3 hR3 eS3 ⊢
        refine ⟨_, rfl, .inl ⟨rfl, _, SqL.of v3.hL⟩, by decide, fun k2 nk2 => ⟨LA, _, _, rfl, rfl, same_upd nk2 _ _ v3.hL, ?_, ?_⟩⟩
        · rw [List.length_map, List.length_append, lla, sizeLine_eq]
          show j + 1 + 1 ≤ _
          omega
        have uk2 := same_upd (o := HO.lst []) nk2
        have v4 := v3.same uk2
        have k2L : k2 ≠ LA := fun z => by rw [z, v3.hL] at nk2; cases nk2
        have k2R : k2 ≠ RW := fun z => by rw [z, v3.hR] at nk2; cases nk2
        have k2S : pS ≠ k2 := fun z => by rw [z, nk2] at eS3; cases eS3
        have k2a : ¬ k2 ∈ ra ++ [R] := fun z => by
          obtain ⟨i, hi⟩ := List.mem_iff_getElem?.mp z
          have il : i < (rs ++ [r]).length := by rw [← v3.aR.1]; exact (List.getElem?_eq_some_iff.mp hi).1
          obtain ⟨_, h, _⟩ := v3.aR.2 i k2 _ hi (List.getElem?_eq_getElem il)
          rw [nk2] at h
          cases h
        have k2H : H k2 = none := same_none v3.s nk2
        have hR4 := (hR3.same uk2)
        have v5' := v4.pushL (k := k2)
        have kt5 : KeepT (upd H3 k2 (.lst [])) (upd (upd H3 k2 (.lst [])) LA (.lst ((la ++ [k]).map V.ref ++ [.ref k2]))) := keepT_upd v4.hL (fun xs z => by cases z)
        have hR5 : RwsA (upd (upd H3 k2 (.lst [])) LA (.lst ((la ++ [k]).map V.ref ++ [.ref k2]))) R r := hR4.keep kt5 fun o e => by rw [upd_ne RL]; exact e
        have hk5 : upd (upd H3 k2 (.lst [])) LA (.lst ((la ++ [k]).map V.ref ++ [.ref k2])) k2 = some (.lst []) := by rw [upd_ne k2L]; exact upd_same
        have eS5 : upd (upd H3 k2 (.lst [])) LA (.lst ((la ++ [k]).map V.ref ++ [.ref k2])) pS = some (.lst ((segsF x).map V.str)) := by rw [upd_ne pL]; exact uk2 _ _ eS3
        clear kt5 hR4 v4 v3 hR3 eS3 uk2 nk2
        generalize upd (upd H3 k2 (.lst [])) LA (.lst ((la ++ [k]).map V.ref ++ [.ref k2])) = H4 at v5' hR5 hk5 eS5 ⊢
        obtain ⟨tr, htr, atr⟩ := id hR5
        have Rk2 : R ≠ k2 := fun z => k2a (by rw [z]; simp)
        refine ⟨_, rfl, R, rfl, ⟨_, SqL.of htr⟩, for_it (walk_list (xs := tr.map V.ref)) (fun t σ H' => ∃ (lk : List (List Int)) (v7 v8 v9 : Option V), σ = [some (.ref f), some (.str x), some (.int (nw : Int)), some (.ref LA), some (.ref RW), some (.str sg), some (.ref R), v7, v8, v9, none, none, none, none] ∧
            (∀ c o, H4 c = some o → c ≠ k2 → H' c = some o) ∧ KeepT H4 H' ∧ TlA H' k2 lk ∧ lk.Nodup ∧ ∀ st, st ∈ lk ↔ ∃ e ∈ r.take t, e.2.1 = st)
          ⟨[], v7, v8, v9, rfl, (fun c o e _ => e), (fun c xs e => e), ⟨[], hk5, AtX.nil⟩, List.nodup_nil, (fun st => by simp)⟩ (fun t σ H' _ ⟨_, _, _, _, _, z, _⟩ => SqL.of (z _ _ htr Rk2)) ?_ ?_⟩
        · rintro t y σ Hy H5 ht ⟨lk, v7, v8, v9, rfl, kp, kt, ⟨tl, htl, atl⟩, ndl, ml⟩ ⟨rfl, hy⟩
          obtain ⟨te, e, hte, he, rfl, re⟩ := atr.at_ (i := t) hy
          obtain ⟨pa, pb, r1, r2, r3⟩ := re.keep kt
          have hL5 := kp _ _ v5'.hL k2L.symm
          have atL : atI (((la ++ [k]) ++ [k2]).map V.ref) (-1) = some (.ref k2) := by rw [List.map_append]; exact atI_last _ _
          have lksub : ∀ st ∈ lk, st.length = nw ∧ ∀ q ∈ st, 0 ≤ q ∧ q ≤ last := fun st h => by
            obtain ⟨e', he', rfl⟩ := (ml st).mp h
            have z := (rowok e').mp (List.mem_of_mem_take he')
            exact lay_ok fm (j + 1) _ ⟨e'.1, e'.2.2, z.1, z.2⟩
          have l5 := stands_few fm.l5 n3 ndl lksub
          refine ⟨te, _, rfl, SqT.of r1, rfl, _, _, rfl, _, _, rfl, _, _, rfl, rfl, ?_⟩
          refine ⟨_, rfl, _, rfl, _, rfl, LA, _, -1, .ref k2, rfl, rfl, SqL.of hL5, atL, dT e.2.1, lk.map dT, dp_T r3, .lst (SqL.of htl) (dp_Ts atl), shaped_T _, shaped_Ts _, _, rfl, ?_⟩
          rw [any_T]
          by_cases c : e.2.1 ∈ lk
          · refine iteF' (by rw [decide_eq_true c]; rfl) ?_
            refine ⟨lk, _, _, _, rfl, kp, kt, ⟨tl, htl, atl⟩, ndl, fun st => ?_⟩
            rw [ml, take_one he]
            constructor
            · rintro ⟨e', h1, h2⟩
              exact ⟨e', List.mem_append_left _ h1, h2⟩
            · rintro ⟨e', h1, h2⟩
              rcases List.mem_append.mp h1 with z | z
              · exact ⟨e', z, h2⟩
              · rw [List.mem_singleton.mp z] at h2
                rw [h2] at c
                exact (ml st).mp c
          · refine iteT' (by rw [decide_eq_false c]; rfl) ?_
            refine ⟨_, rfl, _, rfl, LA, _, -1, .ref k2, rfl, rfl, SqL.of hL5, atL, .inl ⟨rfl, _, SqL.of htl⟩, _, rfl, k2, tl.map V.ref, _, rfl, rfl, htl, by rw [List.length_map, atl.1, sizeLine_eq]; omega, ?_⟩
            have k6 := keepT_upd (o := .lst (tl.map V.ref ++ [V.ref pb])) htl (fun xs z => by cases z)
            refine ⟨lk ++ [e.2.1], _, _, _, rfl, fun c o z n => by rw [upd_ne n]; exact kp c o z n, KeepT.trans kt k6, ⟨tl ++ [pb], by rw [List.map_append]; exact upd_same, (atl.mono fun _ _ h => h.keep k6).snoc (r3.keep k6)⟩, ?_, fun st => ?_⟩
            · refine List.nodup_append.mpr ⟨ndl, by simp, fun u hu v hv => ?_⟩
              rw [List.mem_singleton.mp hv]
              exact fun z => c (z ▸ hu)
            · rw [List.mem_append, ml, take_one he, List.mem_singleton]
              constructor
              · rintro (⟨e', h1, h2⟩ | h)
                · exact ⟨e', List.mem_append_left _ h1, h2⟩
                · exact ⟨e, List.mem_append_right _ (List.mem_cons_self ..), h.symm⟩
              · rintro ⟨e', h1, h2⟩
                rcases List.mem_append.mp h1 with z | z
                · exact .inl ⟨e', z, h2⟩
                · rw [List.mem_singleton.mp z] at h2
                  exact .inr h2.symm
        · rintro σ H5 ⟨lk, v7, v8, v9, rfl, kp, kt, tk2, ndl, ml⟩
          rw [List.length_map, atr.1, List.take_length] at ml
          refine ⟨la ++ [k], k2, lk, ra ++ [R], rs ++ [r], _, _, _, _, _, rfl, v5'.at_ kp kt k2H k2L k2R k2a, tk2, ⟨k2L, k2R, k2a, k2H, k2S⟩, ndl, fun st => ?_, ⟨by rw [List.length_append, lrs]; rfl, by rw [List.length_append, lla]; rfl⟩, fun i r' hi => ?_, kp _ _ eS5 k2S⟩
          · rw [ml]
            constructor
            · rintro ⟨e, h1, rfl⟩
              have z := (rowok e).mp h1
              exact ⟨e.1, e.2.2, z.1, z.2⟩
            · rintro ⟨now, wh, h1, h2⟩
              exact ⟨(now, st, wh), (rowok _).mpr ⟨h1, h2⟩, rfl⟩
          · by_cases c : i < rs.length
            · rw [List.getElem?_append_left c] at hi
              exact rok i r' hi
            · have il := (List.getElem?_eq_some_iff.mp hi).1
              rw [List.length_append] at il
              have e1 : [r].length = 1 := rfl
              have ei : i = rs.length := by omega
              rw [List.getElem?_append_right (by omega), ei, Nat.sub_self] at hi
              have hi : r = r' := Option.some.inj hi
              rw [← hi, ei, lrs]
              exact ⟨rowok, lr3⟩
    · clear v8 t8 s8 eS kL kR k0n pK
      rintro σ H1 ⟨la, k, lj, ra, rs, v5, v6, v7, v8, v9, rfl, v1, ⟨ts, hts, ats⟩, ⟨kL, kR, kra, kn, pk⟩, ndj, lay, ⟨lrs, lla⟩, rok, eS⟩
      rw [List.length_map, lsg] at lay lrs lla
      refine ⟨_, rfl, _, rfl, LA, _, -1, .ref k, rfl, rfl, SqL.of v1.hL, by rw [List.map_append]; exact atI_last _ _, by decide, fun W nW => ⟨(by show 2 ≤ sizeLine; decide), fun T nT => ?_⟩⟩
      have uW := same_upd (o := HO.lst []) nW
      have uT := same_upd (o := HO.tup [V.ref k, V.ref W]) nT
      refine ⟨T, _, rfl, SqT.of upd_same, rfl, _, _, rfl, _, _, rfl, rfl, ?_⟩
      have s2 := uW.trans uT
      have v2 := v1.same s2
      have hts2 := s2 _ _ hts
      have ats2 := ats.mono fun _ _ h => TpA.keep h (Same.keepT s2)
      have hW2 := uT _ _ (upd_same (H := H1) (a := W) (o := HO.lst []))
      have WN : H W = none := same_none v1.s nW
      have Wk : W ≠ k := fun z => by rw [z, hts] at nW; cases nW
      have Wra : ¬ W ∈ ra := fun z => by
        obtain ⟨i, hi⟩ := List.mem_iff_getElem?.mp z
        have il : i < rs.length := by rw [← v1.aR.1]; exact (List.getElem?_eq_some_iff.mp hi).1
        obtain ⟨_, h, _⟩ := v1.aR.2 i W _ hi (List.getElem?_eq_getElem il)
        rw [nW] at h
        cases h
      have WL : W ≠ LA := fun z => by rw [z, v1.hL] at nW; cases nW
      have WR : W ≠ RW := fun z => by rw [z, v1.hR] at nW; cases nW
      clear uT uW nT nW hts ats v1 eS
      generalize upd (upd H1 W (.lst [])) T (.tup [V.ref k, V.ref W]) = H2 at v2 hts2 ats2 hW2 s2 ⊢
      refine ⟨_, rfl, by decide, fun p3 np3 => ?_⟩
      have u3 := same_upd (o := HO.lst []) np3
      refine ⟨.list (lj.map dT), .list [], .lst (SqL.of (u3 _ _ hts2)) (dp_Ts (ats2.mono fun x p h => h.keep (Same.keepT u3))), .lst (SqL.of upd_same) .nil, shaped_Ts lj, shaped_nil, _, rfl, ?_⟩
      rw [eqv_nilD, List.isEmpty_map]
      by_cases c : lj = []
      · subst c
        refine iteT' rfl ?_
        exact qN (fun ⟨st, h⟩ => by have := (lay st).mpr h; cases this) _ (v2.s.trans u3)
      · refine iteF' (by cases lj with | nil => exact absurd rfl c | cons _ _ => rfl) ?_
        have ex : ∃ st, LayP fr x nw (mF x + 1) st := by
          obtain ⟨st, hst⟩ := List.exists_mem_of_ne_nil lj c
          exact ⟨st, (lay st).mp hst⟩
        have q := qS ex
        have v3 := v2.same u3
        refine ⟨_, rfl, RW, _, rfl, SqL.of v3.hR, fun pr npr => ⟨pr, rfl, ⟨_, SqL.of upd_same⟩, ?_⟩⟩
        have ur := same_upd (o := HO.lst (ra.map V.ref).reverse) npr
        have v4 := v3.same ur
        have s24 := u3.trans ur
        have hW4 := s24 _ _ hW2
        have prW : pr ≠ W := fun z => by rw [z, u3 _ _ hW2] at npr; cases npr
        have tk4 : TlA (upd (upd H2 p3 (.lst [])) pr (.lst (ra.map V.ref).reverse)) k lj := ⟨ts, s24 _ _ hts2, ats2.mono fun _ _ h => TpA.keep h (Same.keepT s24)⟩
        have hpr4 : upd (upd H2 p3 (.lst [])) pr (.lst (ra.map V.ref).reverse) pr = some (.lst (ra.map V.ref).reverse) := upd_same
        clear v2 v3 hts2 ats2 hW2 u3 ur npr np3 s2 s24
        generalize upd (upd H2 p3 (.lst [])) pr (.lst (ra.map V.ref).reverse) = H4 at v4 hW4 tk4 hpr4 ⊢
        refine for_it (walk_list (xs := (ra.map V.ref).reverse)) (fun d σ H' => ∃ (g : Addr) (gl : List (List Int)) (v6 v7 v8 v9 v12 v13 : Option V), σ = [some (.ref f), some (.str x), some (.int (nw : Int)), some (.ref LA), some (.ref RW), v5, v6, v7, v8, v9, some (.ref g), some (.ref W), v12, v13] ∧
            (∀ c o, H4 c = some o → c ≠ W → H' c = some o) ∧ KeepT H4 H' ∧ TlA H' g gl ∧ g ≠ W ∧ (∀ st, st ∈ gl ↔ GdP fr x nw d st) ∧ H' W = some (.lst (((List.range d).map fun t => wordL fr x nw (mF x - t)).map V.str)))
          ⟨k, lj, v6, v7, v8, v9, none, none, rfl, (fun c o e _ => e), (fun c xs e => e), tk4, Wk.symm, lay, hW4⟩ (fun d σ H' _ ⟨_, _, _, _, _, _, _, _, _, z, _⟩ => SqL.of (z _ _ hpr4 prW)) ?_ ?_
        · clear tk4 hW4 hpr4
          rintro d y σ Hy H5 hd ⟨g, gl, v6, v7, v8, v9, v12, v13, rfl, kp, kt, ⟨tg, htg, atg⟩, gW, mg', hW⟩ ⟨rfl, hy⟩
          have lra := v4.aR.1
          have hy : ((ra.map V.ref).reverse)[d]? = some y := hy
          have dl : d < ra.length := by
            have := (List.getElem?_eq_some_iff.mp hy).1
            simpa using this
          rw [List.getElem?_reverse (by rw [List.length_map]; exact dl), List.length_map] at hy
          have dm : d ≤ mF x := by omega
          have e1 : ra.length - 1 - d = mF x - d := by omega
          rw [e1] at hy
          obtain ⟨R, r, hR, hr, rfl, rwa⟩ := v4.aR.at_ (i := mF x - d) hy
          have RW' : R ≠ W := fun z => Wra (by rw [← z]; exact List.mem_of_getElem? hR)
          obtain ⟨rowok, rl⟩ := rok _ r hr
          obtain ⟨tr, htr, atr⟩ := rwa.keep kt fun o e => kp _ _ e RW'
          -- some
          refine ⟨_, rfl, R, rfl, ⟨_, SqL.of htr⟩, fun D hD => ?_⟩
          have uD := same_upd (o := HO.lst []) hD
          refine lc_it (walk_list (xs := tr.map V.ref)) (fun t H' => H' D = some (.lst (((r.take t).filter fun e => decide (e.2.1 ∈ gl)).map fun e => V.int e.2.2)) ∧ Same H5 H') ⟨upd_same, uD⟩ (fun t H' _ z => SqL.of (z.2 _ _ htr)) ?_ ?_
          · rintro t y Hy H6 ht ⟨hDs, s6⟩ ⟨rfl, hy⟩
            obtain ⟨te, e, hte, he, rfl, re⟩ := atr.at_ (i := t) hy
            obtain ⟨pa, pb, r1, r2, r3⟩ := re.keep (Same.keepT s6)
            refine ⟨te, _, rfl, SqT.of r1, rfl, _, _, rfl, _, _, rfl, _, _, rfl, rfl, rfl, ?_⟩
            refine ⟨_, rfl, _, rfl, dT e.2.1, gl.map dT, dp_T r3, .lst (SqL.of (s6 _ _ htg)) (dp_Ts (atg.mono fun _ _ h => TpA.keep h (Same.keepT s6))), shaped_T _, shaped_Ts _, _, rfl, ?_⟩
            rw [any_T]
            have et : ((r.take (t + 1)).filter fun e => decide (e.2.1 ∈ gl)).map (fun e => V.int e.2.2) = ((r.take t).filter fun e => decide (e.2.1 ∈ gl)).map (fun e => V.int e.2.2) ++ if decide (e.2.1 ∈ gl) = true then [V.int e.2.2] else [] := by
              rw [take_one he, List.filter_append, List.map_append]
              congr 1
              rw [List.filter_cons]
              split <;> rfl
            rw [et]
            have fl := List.length_filter_le (fun e : RowE => decide (e.2.1 ∈ gl)) (r.take t)
            rw [List.length_take] at fl
            by_cases c : decide (e.2.1 ∈ gl) = true
            · rw [c]
              refine iteT ?_
              refine ⟨_, rfl, _, hDs, by rw [List.length_map, sizeLine_eq]; omega, upd_same, fun b o z => by rw [upd_ne (ne_of_none z hD)]; exact s6 _ _ z⟩
            · rw [eq_false_of_ne_true c]
              refine iteF ?_
              rw [if_neg (by simp), List.append_nil]
              exact ⟨hDs, s6⟩
          · rintro H6 ⟨hDs, s6⟩
            rw [List.length_map, atr.1, List.take_length] at hDs
            generalize hrf : (r.filter fun e => decide (e.2.1 ∈ gl)) = rf at hDs
            have rfl2 : rf.length ≤ r.length := by rw [← hrf]; exact List.length_filter_le _ _
            have mrf : ∀ e : RowE, e ∈ rf ↔ e ∈ r ∧ e.2.1 ∈ gl := fun e => by rw [← hrf, List.mem_filter, decide_eq_true_eq]
            refine ⟨_, rfl, D, rfl, ⟨_, SqL.of hDs⟩, fun D2 hD2 => ?_⟩
            have uD2 := same_upd (o := HO.lst []) hD2
            refine lc_it (walk_list (xs := rf.map fun e => V.int e.2.2)) (fun t H' => H' D2 = some (.lst (((rf.take t).map fun e => decide (0 ≤ e.2.2)).map V.bl)) ∧ Same H6 H') ⟨upd_same, uD2⟩ (fun t H' _ z => SqL.of (z.2 _ _ hDs)) ?_ ?_
            · rintro t y Hy H7 ht ⟨hD2s, s7⟩ ⟨rfl, hy⟩
              obtain ⟨e, he, rfl⟩ : ∃ e, rf[t]? = some e ∧ y = V.int e.2.2 := by
                have hy : (rf.map fun e => V.int e.2.2)[t]? = some y := hy
                rw [List.getElem?_map] at hy
                cases z : rf[t]? with
                | none => rw [z] at hy; cases hy
                | some e => rw [z] at hy; exact ⟨e, rfl, (Option.some.inj hy).symm⟩
              refine ⟨rfl, _, rfl, _, _, rfl, rfl, _, hD2s, ?_, ?_, fun b o z => by rw [upd_ne (ne_of_none z hD2)]; exact s7 _ _ z⟩
              · rw [List.length_map, List.length_map, List.length_take, sizeLine_eq]
                omega
              · rw [take_one he, List.map_append, List.map_append]
                exact upd_same
            · rintro H7 ⟨hD2s, s7⟩
              rw [List.length_map, List.take_length] at hD2s
              generalize hwb : (rf.map fun e => decide (0 ≤ e.2.2)) = wb at hD2s
              have s57 := Same.trans s6 s7
              have ed : mF x - (mF x - d) = d := by omega
              have fT : true ∈ wb ↔ FlL fr x nw (mF x - d) false := by
                rw [← hwb, List.mem_map]
                unfold FlL
                rw [ed]
                constructor
                · rintro ⟨e, h1, h2⟩
                  obtain ⟨h3, h4⟩ := (mrf e).mp h1
                  have h5 := (rowok e).mp h3
                  have h2 := of_decide_eq_true h2
                  exact ⟨e.1, e.2.1, e.2.2, h5.1, h5.2, (mg' _).mp h4, decide_eq_false (by omega)⟩
                · rintro ⟨now, st, wh, h1, h2, h3, h4⟩
                  have h4 := of_decide_eq_false h4
                  exact ⟨(now, st, wh), (mrf _).mpr ⟨(rowok _).mpr ⟨h1, h2⟩, (mg' _).mpr h3⟩, decide_eq_true (by show 0 ≤ wh; omega)⟩
              have fF : false ∈ wb ↔ FlL fr x nw (mF x - d) true := by
                rw [← hwb, List.mem_map]
                unfold FlL
                rw [ed]
                constructor
                · rintro ⟨e, h1, h2⟩
                  obtain ⟨h3, h4⟩ := (mrf e).mp h1
                  have h5 := (rowok e).mp h3
                  have h2 := of_decide_eq_false h2
                  exact ⟨e.1, e.2.1, e.2.2, h5.1, h5.2, (mg' _).mp h4, decide_eq_true (by omega)⟩
                · rintro ⟨now, st, wh, h1, h2, h3, h4⟩
                  have h4 := of_decide_eq_true h4
                  exact ⟨(now, st, wh), (mrf _).mpr ⟨(rowok _).mpr ⟨h1, h2⟩, (mg' _).mpr h3⟩, decide_eq_false (by show ¬ 0 ≤ wh; omega)⟩
              have hW7 := s57 _ _ hW
              refine ⟨_, rfl, .inl ⟨rfl, _, SqL.of hW7⟩, ?_⟩
              have dpw : ∀ {K : PySem.W.Frag}, Dp K H7 (.ref D2) (.list (wb.map PyData.bool)) := fun {K} => .lst (SqL.of hD2s) (dp_bls _)
              refine joinA [V.str (wordL fr x nw (mF x - d))] (fun RR hRR => ?_) ?_
              · have fin : ∀ word : Str, word = wordL fr x nw (mF x - d) → RR [V.str word] H7 := fun word e => by rw [e]; exact hRR
                refine ⟨_, rfl, .bool true, _, .bl true, dpw, shaped_bl _, shaped_bls _, _, rfl, ?_⟩
                rw [any_bl]
                by_cases cT : true ∈ wb
                · refine iteT' (decide_eq_true cT) ?_
                  refine ⟨_, rfl, .bool false, _, .bl false, dpw, shaped_bl _, shaped_bls _, _, rfl, ?_⟩
                  rw [any_bl]
                  by_cases cF : false ∈ wb
                  · refine iteT' (decide_eq_true cF) ?_
                    refine fin "open" ?_
                    unfold wordL
                    rw [if_pos ⟨fF.mp cF, fT.mp cT⟩]
                  · refine iteF' (decide_eq_false cF) ?_
                    refine ⟨_, rfl, .bool true, _, .bl true, dpw, shaped_bl _, shaped_bls _, _, rfl, ?_⟩
                    rw [any_bl]
                    refine iteT' (decide_eq_true cT) ?_
                    refine fin "whole" ?_
                    unfold wordL
                    rw [if_neg (fun z => cF (fF.mpr z.1)), if_pos (fT.mp cT)]
                · refine iteF' (decide_eq_false cT) (iteF ?_)
                  refine ⟨_, rfl, .bool true, _, .bl true, dpw, shaped_bl _, shaped_bls _, _, rfl, ?_⟩
                  rw [any_bl]
                  refine iteF' (decide_eq_false cT) ?_
                  refine fin "mixed" ?_
                  unfold wordL
                  rw [if_neg (fun z => cT (fT.mpr z.2)), if_neg (fun z => cT (fT.mpr z))]
              · refine ⟨W, _, _, rfl, rfl, hW7, by rw [List.length_map, List.length_map, List.length_range, sizeLine_eq]; omega, ?_⟩
                have W8 : KeepT H7 (upd H7 W (.lst ((((List.range d).map fun t => wordL fr x nw (mF x - t)).map V.str) ++ [V.str (wordL fr x nw (mF x - d))]))) := keepT_upd hW7 (fun xs z => by cases z)
                have s8 : ∀ c o, H7 c = some o → c ≠ W → upd H7 W (.lst ((((List.range d).map fun t => wordL fr x nw (mF x - t)).map V.str) ++ [V.str (wordL fr x nw (mF x - d))])) c = some o := fun c o e n => by rw [upd_ne n]; exact e
                have hW8 : upd H7 W (.lst ((((List.range d).map fun t => wordL fr x nw (mF x - t)).map V.str) ++ [V.str (wordL fr x nw (mF x - d))])) W = some (.lst (((List.range (d + 1)).map fun t => wordL fr x nw (mF x - t)).map V.str)) := by
                  rw [upd_same, List.range_succ, List.map_append, List.map_append]
                  rfl
                generalize upd H7 W (.lst ((((List.range d).map fun t => wordL fr x nw (mF x - t)).map V.str) ++ [V.str (wordL fr x nw (mF x - d))])) = H8 at W8 s8 hW8 ⊢
                have k58 : KeepT H5 H8 := (Same.keepT s57).trans W8
                have htr8 := s8 _ _ (s57 _ _ htr) RW'
                have htg8 := s8 _ _ (s57 _ _ htg) gW
                have atg8 := atg.mono fun _ _ h => TpA.keep h k58
                have atr8 := atr.mono fun _ _ h => RwA.keep h k58
                refine ⟨_, rfl, R, rfl, ⟨_, SqL.of htr8⟩, fun D3 hD3 => ?_⟩
                have uD3 := same_upd (o := HO.lst []) hD3
                refine lc_it (walk_list (xs := tr.map V.ref)) (fun t H' => ∃ ds : List Addr, H' D3 = some (.lst (ds.map V.ref)) ∧ AtX (TpA H') ds (((r.take t).filter fun e => decide (e.2.1 ∈ gl)).map (·.1)) ∧ Same H8 H') ⟨[], upd_same, AtX.nil, uD3⟩ (fun t H' _ ⟨_, _, _, z⟩ => SqL.of (z _ _ htr8)) ?_ ?_
                · rintro t y Hy H9 ht ⟨ds, hDs, aD, s9⟩ ⟨rfl, hy⟩
                  obtain ⟨te, e, hte, he, rfl, re⟩ := atr8.at_ (i := t) hy
                  obtain ⟨pa, pb, r1, r2, r3⟩ := re.keep (Same.keepT s9)
                  refine ⟨te, _, rfl, SqT.of r1, rfl, _, _, rfl, _, _, rfl, _, _, rfl, rfl, rfl, ?_⟩
                  refine ⟨_, rfl, _, rfl, dT e.2.1, gl.map dT, dp_T r3, .lst (SqL.of (s9 _ _ htg8)) (dp_Ts (atg8.mono fun _ _ h => TpA.keep h (Same.keepT s9))), shaped_T _, shaped_Ts _, _, rfl, ?_⟩
                  rw [any_T]
                  have et : ((r.take (t + 1)).filter fun e => decide (e.2.1 ∈ gl)).map (·.1) = ((r.take t).filter fun e => decide (e.2.1 ∈ gl)).map (·.1) ++ if decide (e.2.1 ∈ gl) = true then [e.1] else [] := by
                    rw [take_one he, List.filter_append, List.map_append]
                    congr 1
                    rw [List.filter_cons]
                    split <;> rfl
                  have fl := List.length_filter_le (fun e : RowE => decide (e.2.1 ∈ gl)) (r.take t)
                  rw [List.length_take] at fl
                  by_cases c : decide (e.2.1 ∈ gl) = true
                  · rw [c] at et ⊢
                    rw [if_pos rfl] at et
                    refine iteT ?_
                    have kd := keepT_upd (o := .lst (ds.map V.ref ++ [V.ref pa])) hDs (fun xs z => by cases z)
                    refine ⟨_, rfl, _, hDs, by rw [List.length_map, aD.1, List.length_map, sizeLine_eq]; omega, ds ++ [pa], by rw [List.map_append]; exact upd_same, ?_, fun b o z => by rw [upd_ne (ne_of_none z hD3)]; exact s9 _ _ z⟩
                    rw [et]
                    exact (aD.mono fun _ _ h => TpA.keep h kd).snoc (r2.keep kd)
                  · rw [eq_false_of_ne_true c] at et ⊢
                    rw [if_neg (by simp), List.append_nil] at et
                    refine iteF ⟨ds, hDs, ?_, s9⟩
                    rw [et]
                    exact aD
                · rintro H9 ⟨ds, hDs, aD, s9⟩
                  rw [List.length_map, atr.1, List.take_length, hrf] at aD
                  refine ⟨D3, rf.map (·.1), _, _, _, _, _, _, rfl, fun c o e n => s9 _ _ (s8 _ _ (s57 _ _ (kp c o e n)) n), (kt.trans k58).trans (Same.keepT s9), ⟨ds, hDs, aD⟩, fun z => ?_, fun st => ?_, s9 _ _ hW8⟩
                  · rw [z, hW8] at hD3
                    cases hD3
                  · rw [List.mem_map]
                    constructor
                    · rintro ⟨e, h1, rfl⟩
                      obtain ⟨h3, h4⟩ := (mrf e).mp h1
                      have h5 := (rowok e).mp h3
                      exact ⟨h5.1, e.2.1, e.2.2, h5.2, (mg' _).mp h4⟩
                    · rintro ⟨h1, st', wh, h2, h3⟩
                      exact ⟨(st, st', wh), (mrf _).mpr ⟨(rowok _).mpr ⟨h1, h2⟩, (mg' _).mpr h3⟩, rfl⟩
        · rintro σ H5 ⟨g, gl, v6, v7, v8, v9, v12, v13, rfl, kp, kt, _, gW, _, hW⟩
          have el : ((ra.map V.ref).reverse).length = mF x + 1 := by rw [List.length_reverse, List.length_map, v4.aR.1, lrs]
          rw [el] at hW
          have s5 : Same H H5 := fun c o e => kp c o (v4.s _ _ e) (ne_of_none e WN)
          refine ⟨_, rfl, W, _, rfl, SqL.of hW, fun p2 hp2 => ⟨p2, _, rfl, .inl ⟨SqL.of upd_same, fun p3 hp3 => ?_⟩⟩⟩
          refine q _ p3 (s5.trans ((same_upd hp2).trans (same_upd hp3))) ?_
          rw [upd_same, words_back]
end
end K35

set_option Elab.async false
set_option linter.all false
set_option maxRecDepth 100000
set_option maxHeartbeats 4000000
/-! What the three calls tell, by the law's own search. -/
namespace L2
open PySem PySem.Spec PyProof.Rows EV
/-- a promise of a def that may raise, where it doesn't -/
theorem fnOk0 {P : Program} {w : World} {K : PySem.W.Frag} {mg : Str → Option Value} {base : Heap} {k : Nat} {f : Addr} {fd : FuncData} {ps : List Str} {sp sp2 : Sp} (F : FnOk P w K mg base (L2.CX P w) k f fd ps sp) (h : ∀ vs H Q E, sp2 vs H Q E → sp vs H Q E0) : FnOk P w K mg base CX0 k f fd ps sp2 :=
  ⟨fun vs H Q E q => F.len vs H Q E0 (h _ _ _ _ q), fun A outer s H args us vs Q E hr he hb hv hs => codeAny_mono (F.run A outer s H args us vs Q E0 hr he hb hv (h _ _ _ _ hs)) fun r s' z => by
    cases r with
    | error e =>
      obtain ⟨_, _, _, _, _, _, _, _, _, _, _, _, bad⟩ := z
      exact bad
    | ok fl => cases fl <;> exact z⟩
end L2
namespace K35
open PySem L2 L2.EV
open Classical
/-- what is never refused of a promise -/
def sp0 (sp : Sp) : Sp := fun vs H Q _ => sp vs H Q E0
/-! ### the layers are as they should be -/
section
variable {fr : List T3} {last : Nat} (fm : Frm fr last) {x : Str} {nw : Nat}
include fm
theorem wl_T {i : Nat} {s : Sx} {e : E2} {Ls : List Layer} (W : Wl fr x nw last Ls) (hs : HasK Ls i s) (he : e ∈ fitsF fr x i nw) : Wl fr x nw last (perE fr i s Ls e) ∧ ∀ t, HasK Ls i t → HasK (perE fr i s Ls e) i t := by
  have f := fitsF_ok (Nat.le_refl nw) e he
  have p := fit_pos fm f
  unfold perE
  by_cases c : (stt fr e.2).1 = stdS s e.1
  · rw [if_pos c]
    have jl : i + (stt fr e.2).2.1.length < Ls.length := by rw [W.len]; omega
    have hL := List.getElem?_eq_getElem jl
    rw [addT_at hL]
    obtain ⟨L0, h0, hk⟩ := hs
    obtain ⟨en, hen, rfl⟩ := List.mem_map.mp hk
    have so := W.so i L0 h0 en hen
    have sp := fm.stp _ (stt_mem f.b0 f.b1)
    have lo := fm.lo _ (stt_mem f.b0 f.b1)
    refine ⟨W.add hL (behS_ok so f.a0 f.a1 ⟨sp.2.2.2.1, lo.2⟩) ⟨f, ⟨L0, h0, hk⟩, c, rfl, rfl⟩, fun t ht => Wl.keyed (fr := fr) (x := x) (nw := nw) (last := last) hL ht⟩
  · rw [if_neg c]
    exact ⟨W, fun t h => h⟩
theorem wl_I {i : Nat} {Ls : List Layer} (W : Wl fr x nw last Ls) (hi : i < Ls.length) : Wl fr x nw last (perI fr x nw Ls i) := by
  have hL := List.getElem?_eq_getElem hi
  unfold perI
  rw [getD_at hL]
  refine (foldP (P := fun z : List Layer => Wl fr x nw last z ∧ ∀ t, HasK Ls i t → HasK z i t) _ _ ⟨W, fun t h => h⟩ fun z s hs hz => ?_).1
  refine foldP (P := fun z : List Layer => Wl fr x nw last z ∧ ∀ t, HasK Ls i t → HasK z i t) _ _ hz fun z e he hz => ?_
  obtain ⟨a, b⟩ := wl_T fm hz.1 (hz.2 s ⟨_, hL, hs⟩) he
  exact ⟨a, fun t h => b t (hz.2 t h)⟩
theorem wl_trF : ∀ i : Nat, i ≤ x.length → Wl fr x nw last (trF fr x nw i)
  | 0, _ => wl_init fr x nw last
  | i + 1, h => by
    rw [trF_succ]
    exact wl_I fm (wl_trF i (by omega)) (by rw [trF_len fm]; omega)
theorem zk_T {i : Nat} {s : Sx} {t : Trip} {z : Wst} (W : Wl fr x nw last (trF fr x nw x.length)) (hi : i ≤ x.length) (ht : t ∈ seek ((trF fr x nw x.length).getD i []) s) (h : Zk (trF fr x nw x.length) x.length z) : Zk (trF fr x nw x.length) x.length (wT fr i z t) := by
  obtain ⟨T, lt⟩ := trip_ok fm W ht hi
  have jl : t.1 < z.1.length := by rw [h.l]; omega
  have hg := List.getElem?_eq_getElem jl
  have z1 := h.go (s := t.2.1) hg T.s
  show Zk _ _ (z.1.set t.1 (addS (z.1.getD t.1 []) t.2.1), if (stt fr t.2.2.2).2.2 = 0 then addW z.2 i _ else z.2)
  rw [getG hg]
  split
  · exact z1.word hi
  · exact z1
theorem zk_wF (W : Wl fr x nw last (trF fr x nw x.length)) : ∀ k, Zk (trF fr x nw x.length) x.length (wF fr (trF fr x nw x.length) x.length k)
  | 0 => zk_w0 W
  | k + 1 => by
    rw [wF_succ]
    refine foldP (P := Zk (trF fr x nw x.length) x.length) _ _ (zk_wF W k) fun z s _ hz => ?_
    exact foldP (P := Zk (trF fr x nw x.length) x.length) _ _ hz fun z t ht hz => zk_T fm W (by omega) ht hz
end
/-- there is an explanation -/
def PosL (fr : List T3) (x : Str) (nw : Nat) : Prop := ∃ st, LayP fr x nw (mF x + 1) st
noncomputable def wordsL (fr : List T3) (x : Str) (nw : Nat) : List Str := (List.range (mF x)).map (wordL fr x nw)
section
variable {fr : List T3} {last : Nat} (fm : Frm fr last) {x : Str} {nw : Nat} (n3 : nw ≤ 3)
include fm n3
theorem told_poss : possF fr x nw = decide (PosL fr x nw) := by
  have W := wl_trF fm (nw := nw) x.length (Nat.le_refl _)
  have z := poss_iff fm n3 W
  have y := psb_lay fm (x := x) n3
  by_cases c : PosL fr x nw
  · rw [decide_eq_true c]
    exact z.mpr (y.mp c)
  · rw [decide_eq_false c]
    cases e : possF fr x nw with
    | false => rfl
    | true => exact absurd (y.mpr (z.mp e)) c
theorem told_ver : verF fr x nw = if PosL fr x nw then some (wordsL fr x nw) else none := by
  have W := wl_trF fm (nw := nw) x.length (Nat.le_refl _)
  have z := verF_is fm n3 W (zk_wF fm W x.length)
  have y := psb_lay fm (x := x) n3
  rw [z]
  unfold wordsL
  rw [words_is fm n3]
  have e : (Psb fm x nw n3) = PosL fr x nw := propext y.symm
  rw [e]
theorem told_ex : (PosL fr x nw → ∃ es s, exF fr x nw = some es ∧ Rn fr x nw es x.length s) ∧ (¬ PosL fr x nw → exF fr x nw = none) := by
  have W := wl_trF fm (nw := nw) x.length (Nat.le_refl _)
  have y := psb_lay fm (x := x) n3
  have z := ex_none fm W n3
  constructor
  · intro h
    cases e : exF fr x nw with
    | none => exact absurd (y.mp h) (z.mp e)
    | some es =>
      obtain ⟨s, r⟩ := ex_run fm W e
      exact ⟨es, s, rfl, r⟩
  · intro h
    exact z.mpr fun c => h (y.mpr c)
end
theorem sl_textE (fr : List T3) (es : List E2) : sl (textE fr es) = (es.map fun e => sl (putP (stt fr e.2).2.1 e.1)).flatten := by
  unfold textE
  rw [txt_join, List.map_map]
  rfl
theorem run_textE {fr : List T3} {x : Str} {nw : Nat} {es : List E2} {s : Sx} (h : Rn fr x nw es x.length s) : textE fr es = x := by
  refine str_ext ?_
  rw [sl_textE, (run_text h).1, List.take_of_length_le (by rw [← len_sl]; exact Nat.le_refl _)]
/-! ### texts that a file can have -/
def TxtOk (x : Str) : Prop := x.length ≤ 60 ∧ ∀ c ∈ sl x, c ∈ fsg
theorem txt_file {x : Str} (h : TxtOk x) : fileT (.str x) = some x := by
  have e : (decide (x.length ≤ 60) && (sl x).all fun c => decide (c ∈ fsg)) = true := by
    rw [decide_eq_true h.1, Bool.true_and]
    exact List.all_eq_true.mpr fun c hc => decide_eq_true (h.2 c hc)
  exact if_pos e
theorem few_ok {n : Nat} (h1 : 1 ≤ n) (h3 : n ≤ 3) : fewD (.int (n : Int)) = some (n : Int) := by
  have : n = 1 ∨ n = 2 ∨ n = 3 := by omega
  rcases this with rfl | rfl | rfl <;> decide +kernel
theorem ags_ok {H : Hp} {f : Addr} {fr : List T3} {last : Nat} {x : Str} {nw : Nat} (fa : FrA H f fr) (fm : Frm fr last) (g : TxtOk x) (h1 : 1 ≤ nw) (h3 : nw ≤ 3) : Ags H [.ref f, .str x, .int (nw : Int)] fr (some (x, nw)) := by
  refine ⟨f, last, .str x, .int (nw : Int), .str x, .int (nw : Int), rfl, fa, fm, .str x, fun y z => ?_, .int _, ?_⟩
  · cases z
    have := g.1
    omega
  · rw [txt_file g, few_ok h1 h3]
    show some (x, nw) = some (x, ((nw : Nat) : Int).toNat)
    rw [Int.toNat_natCast]
theorem cut_mem {x : Str} {lo hi : Option Int} {c : Nat} (h : c ∈ sl (cutS x lo hi)) : c ∈ sl x := by
  have h : c ∈ ((x.cps.toList.drop _).take _).toArray.toList := h
  rw [List.toList_toArray] at h
  exact List.mem_of_mem_drop (List.mem_of_mem_take h)
theorem cut_to60 {x : Str} : (cutS x none (some 60)).length ≤ 60 := by
  rw [len_sl]
  show ((x.cps.toList.drop _).take _).toArray.toList.length ≤ 60
  rw [List.toList_toArray, List.length_take]
  have e : HT.sIx x.length x.length (some (60 : Int)) = min 60 x.length := HT.sIx_nat _ _ 60
  rw [e, HT.sIx_none]
  omega
theorem cut_le {x : Str} {lo hi : Option Int} : (cutS x lo hi).length ≤ x.length := by
  rw [len_sl]
  show ((x.cps.toList.drop _).take _).toArray.toList.length ≤ _
  rw [List.toList_toArray, List.length_take, List.length_drop]
  have l : x.cps.toList.length = x.length := by simp [Str.length]
  omega
theorem txt_cut {x : Str} (h : ∀ c ∈ sl x, c ∈ fsg) : TxtOk (cutS x none (some 60)) := ⟨cut_to60, fun c hc => h c (cut_mem hc)⟩
theorem sgs_fsg : ∀ c ∈ sgs, c ≠ 64 → c ∈ fsg := by decide +kernel
theorem put_fsg {p : Str} {l : Bool} (h : Pc p l) {n : Int} (n0 : 0 ≤ n) (n1 : n < 8) : ∀ c ∈ sl (putP p n), c ∈ fsg := by
  intro c hc
  rw [putP_sl] at hc
  obtain ⟨d, hd, rfl⟩ := List.mem_map.mp hc
  by_cases e : d = 64
  · rw [if_pos e]
    obtain ⟨k, rfl⟩ := Int.eq_ofNat_of_zero_le n0
    have hk : k < 8 := by omega
    have z : ∀ k : Nat, k < 8 → mrk (k : Int) ∈ fsg := by decide +kernel
    exact z k hk
  · rw [if_neg e]
    obtain ⟨b, eb, _, hs, _⟩ := h
    rw [eb] at hd
    rcases List.mem_append.mp hd with z | z
    · exact sgs_fsg d (hs d z) e
    · cases l with
      | true =>
        have : d = 59 := by simpa using z
        rw [this]
        decide +kernel
      | false => simp at z
theorem text_fsg {fr : List T3} {last : Nat} (fm : Frm fr last) {es : List E2} (h : ∀ e ∈ es, Ent fr e) : ∀ c ∈ sl (textE fr es), c ∈ fsg := by
  intro c hc
  rw [sl_textE] at hc
  obtain ⟨l, hl, hc⟩ := List.mem_flatten.mp hc
  obtain ⟨e, he, rfl⟩ := List.mem_map.mp hl
  obtain ⟨e0, e1, n0, n1⟩ := h e he
  exact put_fsg (stt_pc fm n0 n1) e0 e1 c hc
end K35

set_option Elab.async false
set_option linter.all false
set_option maxRecDepth 100000
set_option maxHeartbeats 4000000
/-! The law's own text and lines. -/
namespace K35
open PySem L2 L2.EV
def ends (fr : List T3) (e : E2) : Bool := decide ((stt fr e.2).2.2 = 0)
abbrev sLinesL : Stmt := top 45
def spl (fr : List T3) (es : List E2) : List (List E2) × List E2 := es.foldl (fun a e => if ends fr e = true then (a.1 ++ [a.2 ++ [e]], []) else (a.1, a.2 ++ [e])) ([], [])
theorem spl_snoc (fr : List T3) (es : List E2) (e : E2) : spl fr (es ++ [e]) = if ends fr e = true then ((spl fr es).1 ++ [(spl fr es).2 ++ [e]], []) else ((spl fr es).1, (spl fr es).2 ++ [e]) := by
  unfold spl
  rw [List.foldl_append]
  rfl
theorem semi_eq : (";" : Str) = ⟨#[59]⟩ := by decide +kernel
theorem pc_lastc {p : Str} {l : Bool} (h : Pc p l) : ∃ ch, atI p.cps.toList (-1) = some ch ∧ decide (V.str ⟨#[ch]⟩ = V.str ";") = l := by
  have at1 : ∀ (M : List Nat) (y : Nat), sl p = M ++ [y] → atI p.cps.toList (-1) = some y := fun M y e => by
    have e' : p.cps.toList = M ++ [y] := e
    rw [e']
    unfold atI ixN
    simp only [List.length_append, List.length_cons, List.length_nil]
    rw [if_neg (by omega), if_pos (by omega)]
    show (M ++ [y])[((-1 : Int) + ((M.length + (0 + 1) : Nat) : Int)).toNat]? = _
    have e2 : ((-1 : Int) + ((M.length + (0 + 1) : Nat) : Int)).toNat = M.length := by omega
    rw [e2, List.getElem?_append_right (Nat.le_refl _)]
    simp
  obtain ⟨b, e, _, hb, h2⟩ := h
  cases l with
  | true =>
    rw [if_pos rfl] at e
    refine ⟨59, at1 b 59 e, decide_eq_true ?_⟩
    rw [semi_eq]
  | false =>
    rw [if_neg (by simp), List.append_nil] at e
    obtain ⟨M, y, hM⟩ := SrtO.snoc_of (l := b) (List.length_pos_iff.mpr (h2 rfl))
    have hy : y ∈ sgs := hb y (by rw [hM]; simp)
    refine ⟨y, at1 M y (e.trans hM), decide_eq_false fun z => ?_⟩
    have z2 : (⟨#[y]⟩ : Str) = ";" := V.str.inj z
    rw [semi_eq] at z2
    have z3 : y = 59 := by
      have z4 := congrArg (fun s : Str => s.cps.toList) z2
      simpa using z4
    exact no59 (z3 ▸ hy)
def spLinesL : Sp := fun vs H Q _ => ∃ (f w : Addr) (fr : List T3) (last : Nat) (es : List E2), vs = [.ref f, .ref w] ∧ FrA H f fr ∧ Frm fr last ∧ WvA H w es ∧ Wv fr es ∧
  ∀ (H' : Hp) (p q r : Addr) (qs : List Addr), Same H H' → H' p = some (.tup [.ref q, .ref r]) → H' q = some (.lst (qs.map V.ref)) → qs.length = (spl fr es).1.length → (∀ (i : Nat) a l, qs[i]? = some a → (spl fr es).1[i]? = some l → WvA H' a l) → WvA H' r (spl fr es).2 → Q (.ref p) H'
section
variable {P : Program} {w : World} {K : PySem.W.Frag} {mg : Str → Option Value} {base : Heap}
structure Lt (K : PySem.W.Frag) (mg : Str → Option Value) where
  f3 : Addr
  d3 : FuncData
  L : Fun K "_law_lines" "_law_lines" sLinesL f3 d3
  bL : Binds K d3 ["framing", "weaving"] []
  gL : mg "_law_lines" = some (.ref f3)
  tu : mg "tuple" = none
theorem scLinesL : FnScope ["framing", "weaving", "found", "rest", "entry"] ["framing", "weaving"] (defScope sLinesL) := ⟨rfl, rfl, rfl, by decide +kernel, rfl, by decide +kernel, by decide +kernel⟩
theorem ok_linesL (G : Lt K mg) : FnOk P w K mg base CX0 1 G.f3 G.d3 ["framing", "weaving"] spLinesL := by
  refine G.L.ok scLinesL (fun vs H Q E h => ?_) (fun cdv A outer s H vs Q E hr h => ?_)
  · obtain ⟨f, t, fr, l, e, rfl, _⟩ := h
    rfl
  · obtain ⟨f, wv, fr, last, es, rfl, fa, fm, wa, wo, q⟩ := h
    refine ⟨_, pss_cons (ps_par (i := 2) (j := 3) (x := "found") (y := "rest") rfl scLinesL.nd rfl rfl (by decide) rfl rfl (pa_cons (pe_lst pa_nil) (pa_cons (pe_lst pa_nil) pa_nil)) (by rfl))
      (pss_cons (ps_for PassesOwn.never rfl (pi_tup (pv 1)) (pg_name (i := 4) scLinesL.nd rfl (Or.inl rfl))
        (pss_cons (ps_expr (pe_bm PySem.F.plainAttrs_list PySem.F.slot_list_append PySem.F.type_list_append mt_append (pv 3) (pa_cons (pv 4) pa_nil)))
        (pss_one (ps_if (pt_cmpR op_eq (pe_ix ix_str (pe_ix ix_tup (pe_ix ix_tup (pv 0) (pe_ix ix_tup (pv 4) pe_int (fun _ _ => rfl)) (fun _ _ => rfl)) pe_int (fun _ _ => rfl)) (pe_un un_neg pe_int) (fun _ _ => rfl)) pe_str (nomark _))
          (pss_cons (ps_expr (pe_bm PySem.F.plainAttrs_list PySem.F.slot_list_append PySem.F.type_list_append mt_append (pv 2) (pa_cons (pe_callTy call_tuple_of (by rfl) G.tu (by decide +kernel) (pa_cons (pv 3) pa_nil)) pa_nil)))
          (pss_one (ps_set (i := 3) scLinesL.nd rfl (Or.inl rfl) (pe_lst pa_nil)))) pss_nil))))
      (pss_one (ps_ret (pe_tup (pa_cons (pv 2) (pa_cons (pe_callTy call_tuple_of (by rfl) G.tu (by decide +kernel) (pa_cons (pv 3) pa_nil)) pa_nil)))))), ?_⟩
    obtain ⟨tw, hw, wl, wt⟩ := id wa
    have l60 := wo.l
    refine ⟨by decide, fun Fq hFq => ⟨by decide, fun R0 hR0 => ⟨_, _, rfl, ?_⟩⟩⟩
    have u1 := same_upd (o := HO.lst []) hFq
    have u2 := same_upd (o := HO.lst []) hR0
    refine ⟨_, rfl, wv, rfl, ⟨_, SqT.of ((u1.trans u2) _ _ hw)⟩, for_it (walk_tup (xs := tw.map V.ref)) (fun i σ H' => ∃ (R : Addr) (v4 : Option V) (qs rs : List Addr), σ = [some (.ref f), some (.ref wv), some (.ref Fq), some (.ref R), v4] ∧ Same H H' ∧
      H' Fq = some (.lst (qs.map V.ref)) ∧ H' R = some (.lst (rs.map V.ref)) ∧ Fq ≠ R ∧ H R = none ∧ qs.length = (spl fr (es.take i)).1.length ∧ qs.length ≤ i ∧ (∀ (j : Nat) a l, qs[j]? = some a → (spl fr (es.take i)).1[j]? = some l → WvA H' a l) ∧ At2 H' rs (spl fr (es.take i)).2 ∧ rs.length ≤ i)
      ⟨R0, none, [], [], rfl, u1.trans u2, u2 _ _ upd_same, upd_same, ne_of_none (upd_same (H := H) (a := Fq) (o := HO.lst [])) hR0, u1.free hR0, rfl, Nat.le_refl _, (fun j a l h => by cases h), ⟨rfl, fun j t e h => by cases h⟩, Nat.le_refl _⟩
      (fun i σ H' _ ⟨_, _, _, _, _, z, _⟩ => SqT.of (z _ _ hw)) ?_ ?_⟩
    · rintro i x σ H2 H2' hi ⟨R, v4, qs, rs, rfl, sm, hF, hR, fR, nR, ql, qi, qp, ra, ri⟩ ⟨rfl, hx⟩
      obtain ⟨t, e, he, _, rfl, e4⟩ := at_ent (i := i) wl wt hx
      obtain ⟨e0, e1, n0, n1⟩ := wo.ent e (List.mem_of_getElem? he)
      have ie : i < es.length := (List.getElem?_eq_some_iff.mp he).1
      refine ⟨_, rfl, .inl ⟨rfl, _, SqL.of hR⟩, _, rfl, R, rs.map V.ref, _, rfl, rfl, hR, by rw [List.length_map, sizeLine_eq]; omega, ?_⟩
      have k3 := keepT_upd (o := .lst (rs.map V.ref ++ [.ref t])) hR (fun xs z => by cases z)
      have s3 : Same H (upd H2' R (.lst (rs.map V.ref ++ [.ref t]))) := same_set nR sm
      have hF3 : upd H2' R (.lst (rs.map V.ref ++ [.ref t])) Fq = some (.lst (qs.map V.ref)) := by
        rw [upd_ne fR]
        exact hF
      have hR3 : upd H2' R (.lst (rs.map V.ref ++ [.ref t])) R = some (.lst ((rs ++ [t]).map V.ref)) := by
        rw [List.map_append]
        exact upd_same
      have ra3 := (ra.same k3).snoc (s3 _ _ e4)
      generalize upd H2' R (.lst (rs.map V.ref ++ [.ref t])) = H3 at *
      obtain ⟨ts, t2, hf, hat, h3, hm⟩ := stt_at (fa.same s3) n0 n1
      have hpc := (fm.stp _ hm).2.2.1
      obtain ⟨ch, hch, hdec⟩ := pc_lastc hpc
      have p8 := (pc_len hpc).2
      refine ⟨_, rfl, _, rfl, t, _, 1, _, rfl, rfl, SqT.of (s3 _ _ e4), atI_nat (j := 1) rfl, f, _, e.2, .ref t2, rfl, rfl, SqT.of hf, hat, t2, _, 1, _, rfl, rfl, SqT.of h3, atI_nat (j := 1) rfl, 1, rfl, _, -1, ch, rfl, rfl, by rw [sizeLine_eq]; omega, hch, rfl, _, rfl, ?_⟩
      rw [hdec]
      have wk : ∀ {H4 : Hp} {a : Addr} {l : List E2}, KeepT H2' H4 → WvA H2' a l → WvA H4 a l := fun {H4 a l} kt ⟨ts, e, b, c⟩ => ⟨ts, kt _ _ e, b, fun i t e h1 h2 => kt _ _ (c i t e h1 h2)⟩
      refine ite2 (fun z => ?_) (fun z => ?_)
      · have en : ends fr e = true := z
        refine ⟨_, rfl, .inl ⟨rfl, _, SqL.of hF3⟩, _, rfl, R, _, rfl, .inl ⟨SqL.of hR3, fun pt hpt => ?_⟩⟩
        have u4 := same_upd (o := HO.tup ((rs ++ [t]).map V.ref)) hpt
        refine ⟨Fq, qs.map V.ref, _, rfl, rfl, u4 _ _ hF3, by rw [List.length_map, sizeLine_eq]; omega, by decide, fun R2 hR2 => ?_⟩
        have k5 := keepT_upd (o := .lst (qs.map V.ref ++ [.ref pt])) (u4 _ _ hF3) (fun xs z => by cases z)
        have u6 := same_upd (o := HO.lst []) hR2
        have kt := (Same.keepT u4).trans (k5.trans (Same.keepT u6))
        have s5 : Same H (upd (upd H3 pt (.tup ((rs ++ [t]).map V.ref))) Fq (.lst (qs.map V.ref ++ [.ref pt]))) := same_set hFq (s3.trans u4)
        refine ⟨R2, _, qs ++ [pt], [], rfl, s5.trans u6, u6 _ _ (by rw [upd_same, List.map_append]; rfl), upd_same, ne_of_none (upd_same (H := upd H3 pt (.tup ((rs ++ [t]).map V.ref))) (a := Fq) (o := HO.lst (qs.map V.ref ++ [.ref pt]))) hR2, s5.free hR2, ?_, ?_, ?_, ?_, Nat.zero_le _⟩
        · rw [take_one he, spl_snoc, if_pos en, List.length_append, List.length_append, ql]
          rfl
        · rw [List.length_append]
          simp only [List.length_cons, List.length_nil]
          omega
        · intro j a l h1 h2
          rw [take_one he, spl_snoc, if_pos en] at h2
          by_cases hj : j < qs.length
          · rw [List.getElem?_append_left hj] at h1
            rw [List.getElem?_append_left (by rw [← ql]; exact hj)] at h2
            exact wk (k3.trans kt) (qp j a l h1 h2)
          · have j1 := (List.getElem?_eq_some_iff.mp h1).1
            rw [List.length_append] at j1
            have e2 : j = qs.length := by simp only [List.length_cons, List.length_nil] at j1; omega
            subst e2
            rw [List.getElem?_append_right (Nat.le_refl _), Nat.sub_self] at h1
            rw [ql, List.getElem?_append_right (Nat.le_refl _), Nat.sub_self] at h2
            have e3 : pt = a := Option.some.inj h1
            have e5 := Option.some.inj h2
            rw [← e3, ← e5]
            exact ⟨rs ++ [t], (k5.trans (Same.keepT u6)) _ _ upd_same, ra3.1, fun i t e h1 h2 => kt _ _ (ra3.2 i t e h1 h2)⟩
        · rw [take_one he, spl_snoc, if_pos en]
          exact ⟨rfl, fun j t e h => by cases h⟩
      · have en : ¬ ends fr e = true := z
        refine ⟨R, _, qs, rs ++ [t], rfl, s3, hF3, hR3, fR, nR, ?_, by omega, ?_, ?_, ?_⟩
        · rw [take_one he, spl_snoc, if_neg en]
          exact ql
        · intro j a l h1 h2
          rw [take_one he, spl_snoc, if_neg en] at h2
          exact wk k3 (qp j a l h1 h2)
        · rw [take_one he, spl_snoc, if_neg en]
          exact ra3
        · rw [List.length_append]
          simp only [List.length_cons, List.length_nil]
          omega
    · rintro σ H2 ⟨R, v4, qs, rs, rfl, sm, hF, hR, fR, nR, ql, qi, qp, ra, ri⟩
      rw [List.length_map, wl, List.take_length] at ql qp ra
      refine ⟨_, rfl, _, rfl, R, _, rfl, .inl ⟨SqL.of hR, fun pr hpr => ⟨(by show 2 ≤ sizeLine; decide), fun pp hpp => ?_⟩⟩⟩
      have u4 := same_upd (o := HO.tup (rs.map V.ref)) hpr
      have u5 := same_upd (o := HO.tup [V.ref Fq, V.ref pr]) hpp
      have kk := Same.keepT (u4.trans u5)
      refine q _ pp Fq pr qs (sm.trans (u4.trans u5)) upd_same ((u4.trans u5) _ _ hF) ql (fun j a l h1 h2 => (qp j a l h1 h2).same (u4.trans u5)) ?_
      exact ⟨rs, u5 _ _ upd_same, ra.1, fun i t e h1 h2 => kk _ _ (ra.2 i t e h1 h2)⟩
end
end K35

set_option Elab.async false
set_option linter.all false
set_option maxRecDepth 100000
set_option maxHeartbeats 4000000
/-! The law's own look: _law_is_whole, _law_whole. -/
namespace K35
open PySem L2 L2.EV
def d2 (e : E2) : PyData := .tuple [.int e.1, .int e.2]
def wholeE (fr : List T3) (es : List E2) : Bool := decide ((stt fr (es.headD (0, 0)).2).1 = 0) && es.all fun e => decide (e.1 = (es.headD (0, 0)).1)
abbrev sWhole : Stmt := top 46
def spWholeL : Sp := fun vs H Q _ => ∃ (f w : Addr) (fr : List T3) (es : List E2), vs = [.ref f, .ref w] ∧ FrA H f fr ∧ WvA H w es ∧ (∀ e ∈ es, Ent fr e) ∧ es ≠ [] ∧ es.length ≤ 60 ∧ ∀ H', Same H H' → Q (.bl (wholeE fr es)) H'
structure Lwh (K : PySem.W.Frag) (mg : Str → Option Value) where
  f2 : Addr
  d2 : FuncData
  W : Fun K "_law_whole" "_law_whole" sWhole f2 d2
  bW : Binds K d2 ["framing", "line"] []
  gW : mg "_law_whole" = some (.ref f2)
theorem eqv_nilT (ds : List PyData) : PyData.eqv (.tuple ds) (.tuple []) = ds.isEmpty := by
  cases ds <;> simp [PyData.eqv, PyData.eqvAll]
theorem shaped_d2 (es : List E2) : PyData.canLayAll0 (es.map d2) = true ∧ PyData.depthAll (es.map d2) ≤ 1 := by
  induction es with
  | nil => exact ⟨by simp [PyData.canLayAll0], by simp [PyData.depthAll]⟩
  | cons e es ih => exact ⟨by simp [PyData.canLayAll0, d2, PyData.canLay0, ih.1], by simp only [List.map_cons, PyData.depthAll, d2, PyData.depth]; have := ih.2; omega⟩
theorem shaped_lst (es : List E2) : SeqAt.shaped (.list (es.map d2)) = true := by
  obtain ⟨a, b⟩ := shaped_d2 es
  show (PyData.canLay0 (.list (es.map d2)) && decide (PyData.depth (.list (es.map d2)) ≤ 64)) = true
  rw [Bool.and_eq_true]
  refine ⟨by simp only [PyData.canLay0]; exact a, decide_eq_true ?_⟩
  simp only [PyData.depth]
  omega
theorem shaped_nilT : SeqAt.shaped (.tuple []) = true := by decide +kernel
section
variable {P : Program} {w : World} {K : PySem.W.Frag} {mg : Str → Option Value} {base : Heap}
theorem scWhole : FnScope ["framing", "line", "entry"] ["framing", "line"] (defScope sWhole) := ⟨rfl, rfl, rfl, by decide +kernel, rfl, by decide +kernel, by decide +kernel⟩
theorem ok_wholeL (L : Lwh K mg) : FnOk P w K mg base CX0 1 L.f2 L.d2 ["framing", "line"] spWholeL := by
  refine L.W.ok scWhole (fun vs H Q E h => ?_) (fun cdv A outer s H vs Q E hr h => ?_)
  · obtain ⟨f, w, fr, es, rfl, _⟩ := h
    rfl
  · obtain ⟨f, w, fr, es, rfl, fa, wa, ent, ne, l60, q⟩ := h
    have hu2 := hr.units
    refine ⟨_, pss_cons (ps_if (pt_cmpR op_ne (pe_ix ix_tup (pe_ix ix_tup (pv 0) (pe_ix ix_tup (pe_ix ix_tup (pv 1) pe_int (fun _ _ => rfl)) pe_int (fun _ _ => rfl)) (fun _ _ => rfl)) pe_int (fun _ _ => rfl)) pe_int (nomark _)) (pss_one (ps_ret pe_bl)) pss_nil)
      (pss_one (ps_ret (pe_cmpR (op_eqD hu2) (pe_lc (own := [("entry", 2)]) (g := gName 2) (tt := tTest (tOp rNe (tOp (rIxT K) (tVar 2) (tC (.int 0))) (tOp (rIxT K) (tOp (rIxT K) (tVar 1) (tC (.int 0))) (tC (.int 0))))) (te := tVar 2) rfl scWhole.nd (pi_tup (pv 1))
        (blkOk_by (N := ["framing", "line", "entry"]) (sc := defScope sWhole) (by decide +kernel))
        (fun _ _ _ _ _ => pg_name (i := 2) scWhole.nd rfl (Or.inl rfl))
        (fun _ _ _ _ _ => pts_one (pt_cmpR op_ne (pe_ix ix_tup (pv 2) pe_int (fun _ _ => rfl)) (pe_ix ix_tup (pe_ix ix_tup (pv 1) pe_int (fun _ _ => rfl)) pe_int (fun _ _ => rfl)) (nomark _)))
        (fun _ _ _ _ _ => pv 2)) (pe_lst pa_nil) (nomark _)))), ?_⟩
    match es, ne with
    | e0 :: rest, _ =>
      obtain ⟨tw, hw, wl, wt⟩ := id wa
      obtain ⟨t0, ht0⟩ : ∃ t0, tw[0]? = some t0 := ⟨tw[0]'(by rw [wl]; simp), List.getElem?_eq_getElem _⟩
      have h0 := wt 0 t0 e0 ht0 rfl
      have atw : atI (tw.map V.ref) 0 = some (V.ref t0) := atI_nat (j := 0) (by rw [List.getElem?_map, ht0]; rfl)
      obtain ⟨e1, e2, n0, n1⟩ := ent e0 (List.mem_cons_self ..)
      obtain ⟨ts, t2, hf, ha, h3, _⟩ := stt_at fa n0 n1
      refine ⟨_, rfl, _, rfl, w, _, 0, .ref t0, rfl, rfl, SqT.of hw, atw, t0, _, 1, _, rfl, rfl, SqT.of h0, atI_nat (j := 1) rfl, f, _, e0.2, .ref t2, rfl, rfl, SqT.of hf, ha, t2, _, 0, _, rfl, rfl, SqT.of h3, atI_nat (j := 0) rfl, rfl, _, rfl, ?_⟩
      by_cases y1 : (stt fr e0.2).1 = 0
      · refine iteF' (by simp [y1]) ?_
        refine ⟨_, rfl, w, rfl, ⟨_, SqT.of hw⟩, fun D hD => ?_⟩
        refine lc_it (walk_tup (xs := tw.map V.ref)) (fun i H' => (∃ (ss : List Addr), H' D = some (.lst (ss.map V.ref)) ∧ At2 H ss (((e0 :: rest).take i).filter fun e => decide (¬ e.1 = e0.1))) ∧ ∀ b o, H b = some o → H' b = some o)
          ⟨⟨[], upd_same, rfl, fun i t e h => by cases h⟩, fun b o z => same_upd hD b o z⟩ (fun i H' _ z => SqT.of (z.2 _ _ hw)) ?_ ?_
        · rintro i x H3 H4 hi ⟨⟨ss, hl, hs⟩, kp⟩ ⟨rfl, hx⟩
          obtain ⟨t, e, he, _, rfl, e4⟩ := at_ent (i := i) wl wt hx
          refine ⟨rfl, ?_⟩
          refine ⟨_, rfl, t, _, 0, _, rfl, rfl, SqT.of (kp _ _ e4), atI_nat (j := 0) rfl, _, rfl, w, _, 0, .ref t0, rfl, rfl, SqT.of (kp _ _ hw), atw, t0, _, 0, _, rfl, rfl, SqT.of (kp _ _ h0), atI_nat (j := 0) rfl, rfl, _, rfl, ?_⟩
          have flt : ((e0 :: rest).take (i + 1)).filter (fun e => decide (¬ e.1 = e0.1)) = ((e0 :: rest).take i).filter (fun e => decide (¬ e.1 = e0.1)) ++ (if e.1 = e0.1 then [] else [e]) := by
            rw [take_one he, List.filter_append, List.filter_cons]
            by_cases c : e.1 = e0.1
            · rw [if_pos c]
              simp [c]
            · rw [if_neg c]
              simp [c]
          refine ite2 (fun y => ?_) (fun y => ?_)
          · have c : ¬ e.1 = e0.1 := fun k => by simp [k] at y
            rw [if_neg c] at flt
            refine ⟨_, rfl, _, hl, ?_, ⟨⟨ss ++ [t], by rw [List.map_append]; exact upd_same, by rw [flt]; exact hs.snoc (wt i t e (by
              rw [List.getElem?_map] at hx
              cases q : tw[i]? with
              | none => rw [q] at hx; cases hx
              | some t' =>
                rw [q] at hx
                have z : V.ref t' = V.ref t := Option.some.inj hx
                cases z
                rfl) he)⟩, fun b o z => ?_⟩⟩
            · rw [List.length_map, hs.1, sizeLine_eq]
              have := List.length_filter_le (fun e : E2 => decide (¬ e.1 = e0.1)) ((e0 :: rest).take i)
              rw [List.length_take] at this
              omega
            · rw [upd_ne (ne_of_none z hD)]
              exact kp b o z
          · have c : e.1 = e0.1 := Classical.byContradiction fun k => y (by simp [k])
            rw [if_pos c, List.append_nil] at flt
            refine ⟨⟨ss, hl, by rw [flt]; exact hs⟩, kp⟩
        · rintro H3 ⟨⟨ss, hl, hs⟩, kp⟩
          have e9 : (e0 :: rest).take (tw.map V.ref).length = e0 :: rest := by
            rw [List.length_map, wl, List.take_length]
          rw [e9] at hs
          generalize hfl : (e0 :: rest).filter (fun e => decide (¬ e.1 = e0.1)) = fl at hs
          refine ⟨(by show 0 ≤ sizeLine; decide), fun p3 hp3 => ?_⟩
          have u3 := same_upd (o := HO.lst []) hp3
          refine ⟨.list (fl.map d2), .list [], .lst (SqL.of (u3 _ _ hl)) ?_, .lst (SqL.of upd_same) .nil, shaped_lst fl, shaped_nil, ?_⟩
          · have k : ∀ {fl : List E2} {ss : List Addr}, At2 H ss fl → DpAll K (upd H3 p3 (.lst [])) (ss.map V.ref) (fl.map d2) := by
              intro fl
              induction fl with
              | nil =>
                intro ss h
                cases ss with
                | nil => exact .nil
                | cons t ts => cases h.1
              | cons x fl ih =>
                intro ss h
                cases ss with
                | nil => cases h.1
                | cons t ts => exact .cons (.tup (SqT.of (u3 _ _ (kp _ _ (h.2 0 t x rfl rfl)))) (.cons (.int _) (.cons (.int _) .nil))) (ih ⟨by have := h.1; simpa using this, fun i t e h1 h2 => h.2 (i + 1) t e (by simpa using h1) (by simpa using h2)⟩)
            exact k hs
          · rw [eqv_nilD]
            have z := q _ (Same.trans kp u3)
            have ew : wholeE fr (e0 :: rest) = (fl.map d2).isEmpty := by
              show (decide ((stt fr e0.2).1 = 0) && (e0 :: rest).all fun e => decide (e.1 = e0.1)) = _
              rw [decide_eq_true y1, Bool.true_and, ← hfl, List.isEmpty_map]
              rw [Bool.eq_iff_iff, List.all_eq_true, List.isEmpty_iff, List.filter_eq_nil_iff]
              constructor
              · intro h x hx
                have := h x hx
                simpa using this
              · intro h x hx
                have := h x hx
                simpa using this
            rw [ew] at z
            exact z
      · refine iteT' (by simp [y1]) ?_
        have z := q H (Same.refl H)
        have ew : wholeE fr (e0 :: rest) = false := by
          show (decide ((stt fr e0.2).1 = 0) && (e0 :: rest).all fun e => decide (e.1 = e0.1)) = _
          rw [decide_eq_false y1, Bool.false_and]
        rw [ew] at z
        exact z
end
end K35

set_option Elab.async false
set_option linter.all false
set_option maxRecDepth 100000
set_option maxHeartbeats 4000000
/-! A weaving is an explanation of its file; its lines' words. -/
namespace K35
open PySem L2 L2.EV
open Classical
theorem getD_take {l : List Int} {n i : Nat} (h : i < n) (hl : n ≤ l.length) : l[i]? = some ((l.take n).getD i 0) := by
  rw [List.getD_eq_getElem?_getD, List.getElem?_take_of_lt h]
  rw [List.getElem?_eq_getElem (show i < l.length by omega)]
  rfl
theorem run_plc {fr : List T3} {x : Str} {nw : Nat} (n8 : nw ≤ 8) {es : List E2} {p : Nat} {s : Sx} (h : Rn fr x nw es p s) : s.1 = (plc fr es).take nw := by
  induction h with
  | nil =>
    show List.replicate nw 0 = (List.replicate 8 (0 : Int)).take nw
    rw [List.take_replicate]
    congr 1
    omega
  | @snoc es p s e r f o ih =>
    show s.1.set e.1.toNat (stt fr e.2).2.2 = _
    rw [plc_snoc, ih, List.take_set]
theorem run_wv {fr : List T3} {x : Str} {nw : Nat} (n8 : nw ≤ 8) {es : List E2} {p : Nat} {s : Sx} (h : Rn fr x nw es p s) (l : es.length ≤ 60) : Wv fr es := by
  induction h with
  | nil => exact ⟨Nat.zero_le _, (fun e h => nomatch h), (fun i e h => by simp at h)⟩
  | @snoc es p s e r f o ih =>
    rw [List.length_append] at l
    have e1 : [e].length = 1 := rfl
    have W := ih (by omega)
    have a0 := f.a0
    have a1 := f.a1
    refine wv_snoc W (by omega) ⟨f.a0, by omega, f.b0, f.b1⟩ ?_
    have sp := run_plc n8 r
    have z := getD_take (l := plc fr es) (n := nw) (i := e.1.toNat) (by omega) (by rw [plc_len]; exact n8)
    rw [z, ← sp]
    exact congrArg some o.symm
/-- a weaving leads through its text -/
theorem wv_run {fr : List T3} {last : Nat} (fm : Frm fr last) {x : Str} {nw : Nat} (n8 : nw ≤ 8) {es : List E2} : Wv fr es → (∀ e ∈ es, e.1 < nw) → ∀ rest, sl x = sl (textE fr es) ++ rest → ∃ s, Rn fr x nw es (textE fr es).length s := by
  induction es using snoc_ind with
  | h0 =>
    intro _ _ rest _
    have e : (textE fr []).length = 0 := by rw [len_sl, sl_textE]; rfl
    rw [e]
    exact ⟨_, .nil⟩
  | h1 es e ih =>
    intro W lw rest hx
    have ent := W.ent e (List.mem_append_right _ (List.mem_singleton.mpr rfl))
    obtain ⟨e0, e1, n0, n1⟩ := id ent
    have lt := lw e (List.mem_append_right _ (List.mem_singleton.mpr rfl))
    have W0 : Wv fr es := by
      refine ⟨by have := W.l; rw [List.length_append] at this; omega, fun a ha => W.ent a (List.mem_append_left _ ha), fun i a ha => ?_⟩
      have il := (List.getElem?_eq_some_iff.mp ha).1
      have z := W.go i a (by rw [List.getElem?_append_left il]; exact ha)
      rw [List.take_append_of_le_length (by omega)] at z
      exact z
    have te : sl (textE fr (es ++ [e])) = sl (textE fr es) ++ sl (putP (stt fr e.2).2.1 e.1) := by
      rw [sl_textE, sl_textE, List.map_append, List.flatten_append]
      simp
    rw [te, List.append_assoc] at hx
    obtain ⟨s, r⟩ := ih W0 (fun a ha => lw a (List.mem_append_left _ ha)) _ hx
    have lp : (textE fr (es ++ [e])).length = (textE fr es).length + (stt fr e.2).2.1.length := by
      rw [len_sl, te, List.length_append, ← len_sl, ← len_sl, putP_length]
    rw [lp]
    have fit : fitB x (textE fr es).length (stt fr e.2).2.1 e.1 = true := by
      rw [fitB_iff, hx, len_sl (textE fr es), List.drop_left]
      have l1 : (stt fr e.2).2.1.length = (sl (putP (stt fr e.2).2.1 e.1)).length := by rw [← len_sl, putP_length]
      rw [l1, List.take_left, putP_sl]
      rfl
    have g := W.go es.length e (by simp)
    rw [List.take_left' rfl] at g
    have sp := run_plc n8 r
    have z := getD_take (l := plc fr es) (n := nw) (i := e.1.toNat) (by omega) (by rw [plc_len]; exact n8)
    refine ⟨_, r.snoc ⟨e0, lt, n0, n1, fit⟩ ?_⟩
    show (stt fr e.2).1 = s.1.getD e.1.toNat 0
    rw [sp]
    rw [g] at z
    exact Option.some.inj z
theorem run_pr {fr : List T3} {last : Nat} (fm : Frm fr last) {x : Str} {nw : Nat} (n3 : nw ≤ 3) {es : List E2} {p : Nat} {s : Sx} (h : Rn fr x nw es p s) : TL.PR (envF fm x nw n3) p s := by
  induction h with
  | nil => exact .nil
  | @snoc es p s e r f o ih =>
    have z := TL.PR.snoc (M := envF fm x nw n3) ih f o
    rw [nxt_is] at z
    exact z
theorem wv_pos {fr : List T3} {last : Nat} (fm : Frm fr last) {nw : Nat} (n3 : nw ≤ 3) {es : List E2} (W : Wv fr es) (lw : ∀ e ∈ es, e.1 < nw) : PosL fr (textE fr es) nw := by
  obtain ⟨s, r⟩ := wv_run fm (x := textE fr es) (nw := nw) (by omega) W lw [] (by simp)
  exact (psb_lay fm (x := textE fr es) n3).mpr ⟨s, run_pr fm n3 r⟩
/-! ### the lines' words -/
/-- of whom the rest of a line is -/
def MkR (fr : List T3) (r : List E2) (m : Mk) : Prop := (r = [] ∧ m = .no) ∨ (r ≠ [] ∧ ((wholeE fr r = true ∧ m = .one (r.headD (0, 0)).1) ∨ (wholeE fr r = false ∧ m = .mix)))
theorem headD_app {r : List E2} {e d : E2} (h : r ≠ []) : (r ++ [e]).headD d = r.headD d := by
  cases r with
  | nil => exact absurd rfl h
  | cons a l => rfl
theorem whole_app {fr : List T3} {r : List E2} {e : E2} (h : r ≠ []) : wholeE fr (r ++ [e]) = (wholeE fr r && decide (e.1 = (r.headD (0, 0)).1)) := by
  unfold wholeE
  rw [headD_app h, List.all_append, Bool.and_assoc]
  simp
theorem mkR_step {fr : List T3} {r : List E2} {m : Mk} (h : MkR fr r m) (e : E2) : MkR fr (r ++ [e]) (behM m e.1 (stt fr e.2).1) := by
  refine .inr ⟨by simp, ?_⟩
  rcases h with ⟨rfl, rfl⟩ | ⟨hr, ⟨hw, rfl⟩ | ⟨hw, rfl⟩⟩
  · have ew : wholeE fr ([] ++ [e]) = decide ((stt fr e.2).1 = 0) := by
      show (decide ((stt fr e.2).1 = 0) && [e].all fun a => decide (a.1 = e.1)) = _
      simp
    rw [ew]
    by_cases c : (stt fr e.2).1 = 0
    · exact .inl ⟨decide_eq_true c, beh1 ⟨rfl, c⟩⟩
    · exact .inr ⟨decide_eq_false c, beh3 (fun z => c z.2) (fun z => by cases z)⟩
  · rw [whole_app hr, hw, Bool.true_and, headD_app hr]
    have n1 : ¬ (Mk.one (r.headD (0, 0)).1 = Mk.no ∧ (stt fr e.2).1 = 0) := fun z => by have := z.1; cases this
    by_cases c : e.1 = (r.headD (0, 0)).1
    · exact .inl ⟨decide_eq_true c, beh2 n1 (by rw [c])⟩
    · exact .inr ⟨decide_eq_false c, beh3 n1 fun z => c (by injection z with z; exact z.symm)⟩
  · rw [whole_app hr, hw, Bool.false_and]
    exact .inr ⟨rfl, beh3 (fun z => by have := z.1; cases this) (fun z => by cases z)⟩
theorem mkR_mix {fr : List T3} {r : List E2} {m : Mk} (h : MkR fr r m) (hr : r ≠ []) : decide (m = .mix) = !wholeE fr r := by
  rcases h with ⟨rfl, _⟩ | ⟨_, ⟨hw, rfl⟩ | ⟨hw, rfl⟩⟩
  · exact absurd rfl hr
  · rw [hw]; exact decide_eq_false fun z => by cases z
  · rw [hw]; exact decide_eq_true rfl
theorem bdsN_jump {x : Str} {p : Nat} : ∀ d : Nat, (∀ i, p < i → i < p + (d + 1) → ¬ Bd x i) → bdsN x (p + (d + 1)) = bdsN x p ++ if Bd x (p + (d + 1)) then [p + (d + 1)] else []
  | 0, _ => bdsN_succ
  | d + 1, h => by
    have ih := bdsN_jump (x := x) (p := p) d fun i h1 h2 => h i h1 (by omega)
    rw [show p + (d + 1 + 1) = (p + (d + 1)) + 1 from rfl, bdsN_succ, ih, if_neg (h (p + (d + 1)) (by omega) (by omega)), List.append_nil]
theorem run_lines {fr : List T3} {last : Nat} (fm : Frm fr last) {x : Str} {nw : Nat} (n3 : nw ≤ 3) {es : List E2} {p : Nat} {s : Sx} (h : Rn fr x nw es p s) : TL.PG (envF fm x nw n3) p s → (spl fr es).1.length = (bdsN x p).length ∧
    (∀ (j : Nat) l q, (spl fr es).1[j]? = some l → (bdsN x p)[j]? = some q → FlB fm x nw n3 q (!wholeE fr l)) ∧ MkR fr (spl fr es).2 s.2 := by
  induction h with
  | nil =>
    intro _
    rw [bdsN_zero]
    exact ⟨rfl, fun j l q h => by simp [spl] at h, .inl ⟨rfl, rfl⟩⟩
  | @snoc es p s e r f o ih =>
    intro g
    have rp := run_pr fm n3 r
    have g1 : TL.PG (envF fm x nw n3) (p + (envF fm x nw n3).len e) (TL.nxt (envF fm x nw n3) s e) := by
      rw [nxt_is]
      exact g
    obtain ⟨h1, h2, h3⟩ := ih (.back rp f o g1)
    have l1 := (fit_pos fm f).1
    obtain ⟨d, hd⟩ : ∃ d, (stt fr e.2).2.1.length = d + 1 := ⟨(stt fr e.2).2.1.length - 1, by omega⟩
    have eb : Bd x (p + (stt fr e.2).2.1.length) ↔ (stt fr e.2).2.2 = 0 := (envF fm x nw n3).eb f
    have nb : ∀ i, p < i → i < p + (stt fr e.2).2.1.length → ¬ Bd x i := fun i a b => (envF fm x nw n3).nb f a b
    have jump := bdsN_jump (x := x) (p := p) d (by rw [← hd]; exact nb)
    rw [← hd] at jump
    rw [spl_snoc, jump]
    have st := mkR_step h3 e
    by_cases c : (stt fr e.2).2.2 = 0
    · have en : ends fr e = true := decide_eq_true c
      rw [if_pos en, if_pos (eb.mpr c)]
      refine ⟨by rw [List.length_append, List.length_append, h1]; rfl, fun j l q hl hq => ?_, ?_⟩
      · by_cases cj : j < (bdsN x p).length
        · rw [List.getElem?_append_left (by omega)] at hl
          rw [List.getElem?_append_left cj] at hq
          exact h2 j l q hl hq
        · rw [List.getElem?_append_right (by omega)] at hl hq
          rw [h1] at hl
          cases z : j - (bdsN x p).length with
          | zero =>
            rw [z] at hl hq
            have hl : (spl fr es).2 ++ [e] = l := Option.some.inj hl
            have hq : p + (stt fr e.2).2.1.length = q := Option.some.inj hq
            rw [← hl, ← hq, ← mkR_mix st (by simp)]
            exact ⟨p, s, e, rp, f, o, rfl, c, g1, rfl⟩
          | succ k => rw [z] at hl; simp at hl
      · refine .inl ⟨rfl, ?_⟩
        show (if (stt fr e.2).2.2 = 0 then Mk.no else _) = Mk.no
        rw [if_pos c]
    · have en : ¬ ends fr e = true := by unfold ends; rw [decide_eq_true_eq]; exact c
      rw [if_neg en, if_neg (fun z => c (eb.mp z)), List.append_nil]
      refine ⟨h1, h2, ?_⟩
      show MkR fr ((spl fr es).2 ++ [e]) (if (stt fr e.2).2.2 = 0 then Mk.no else behM s.2 e.1 (stt fr e.2).1)
      rw [if_neg c]
      exact st
/-- the words of a weaving's own file -/
theorem word_line {fr : List T3} {last : Nat} (fm : Frm fr last) {nw : Nat} (n3 : nw ≤ 3) {es : List E2} (W : Wv fr es) (lw : ∀ e ∈ es, e.1 < nw) : (wordsL fr (textE fr es) nw).length = (spl fr es).1.length ∧
    ∀ (j : Nat) l s, (spl fr es).1[j]? = some l → (wordsL fr (textE fr es) nw)[j]? = some s → s ≠ (if wholeE fr l = true then "mixed" else "whole") := by
  obtain ⟨s, r⟩ := wv_run fm (x := textE fr es) (nw := nw) (by omega) W lw [] (by simp)
  obtain ⟨h1, h2, _⟩ := run_lines fm n3 r (.fin (run_pr fm n3 r))
  have ew : wordsL fr (textE fr es) nw = (bds (textE fr es)).map (wordC fm (textE fr es) nw n3) := words_is fm n3
  have eb : bds (textE fr es) = bdsN (textE fr es) (textE fr es).length := rfl
  rw [ew, eb]
  refine ⟨by rw [List.length_map, h1], fun j l s hl hs => ?_⟩
  rw [List.getElem?_map] at hs
  cases hq : (bdsN (textE fr es) (textE fr es).length)[j]? with
  | none => rw [hq] at hs; cases hs
  | some q =>
    rw [hq] at hs
    have hs : wordC fm (textE fr es) nw n3 q = s := Option.some.inj hs
    have fl := h2 j l q hl hq
    rw [← hs]
    clear hs ew eb
    cases hw : wholeE fr l with
    | true =>
      rw [hw] at fl
      have fl : FlB fm (textE fr es) nw n3 q false := fl
      by_cases c : FlB fm (textE fr es) nw n3 q true
      · have e : wordC fm (textE fr es) nw n3 q = "open" := if_pos ⟨c, fl⟩
        rw [e]; decide +kernel
      · have e : wordC fm (textE fr es) nw n3 q = "whole" := (if_neg (fun z => c z.1)).trans (if_pos fl)
        rw [e]; decide +kernel
    | false =>
      rw [hw] at fl
      have fl : FlB fm (textE fr es) nw n3 q true := fl
      by_cases c : FlB fm (textE fr es) nw n3 q false
      · have e : wordC fm (textE fr es) nw n3 q = "open" := if_pos ⟨fl, c⟩
        rw [e]; decide +kernel
      · have e : wordC fm (textE fr es) nw n3 q = "mixed" := (if_neg (fun z => c z.2)).trans (if_neg c)
        rw [e]; decide +kernel
end K35

set_option Elab.async false
set_option linter.all false
set_option maxRecDepth 100000
set_option maxHeartbeats 4000000
/-! What the law shows (as in the law of the texts decided). -/
namespace K35
open PySem L2 L2.EV PySem.Spec PyProof.Rows
theorem fr_keepT {H H' : Hp} {f : Addr} {fr : List T3} (h : FrA H f fr) (k : KeepT H H') : FrA H' f fr := by
  obtain ⟨ts, e, l, c⟩ := h
  exact ⟨ts, k _ _ e, l, fun i t x h1 h2 => k _ _ (c i t x h1 h2)⟩
def dW (ts : List Str) : PyData := .tuple (ts.map .str)
theorem dp_strs {K : PySem.W.Frag} {H : Hp} : ∀ ts : List Str, DpAll K H (ts.map V.str) (ts.map PyData.str)
  | [] => .nil
  | x :: ts => .cons (.str x) (dp_strs ts)
theorem dp_W {K : PySem.W.Frag} {H : Hp} {p : Addr} {ts : List Str} (h : H p = some (.tup (ts.map V.str))) : Dp K H (.ref p) (dW ts) := .tup (SqT.of h) (dp_strs ts)
theorem okd_W {ts : List Str} (h : ∀ s ∈ ts, s = "open" ∨ s = "whole" ∨ s = "mixed") (l : ts.length ≤ 61) : Okd (.list [dW ts]) 4000 2 := by
  have a : Okd (dW ts) (61 * (52 + 2) + 3) 1 := by
    refine okd_tuple (n := 52) (dp := 0) (m := 61) (fun d hd => ?_) (by rw [List.length_map]; exact l)
    obtain ⟨s, hs, rfl⟩ := List.mem_map.mp hd
    refine okd_str (m := 5) ?_ ?_
    · rcases h s hs with rfl | rfl | rfl <;> decide +kernel
    · rcases h s hs with rfl | rfl | rfl <;> decide +kernel
  refine (okd_list (n := 61 * (52 + 2) + 3) (dp := 1) (m := 1) (fun d hd => ?_) (Nat.le_refl _)).le (by decide) (by decide)
  rw [List.mem_singleton.mp hd]
  exact a
theorem okd_bl (b : Bool) : Okd (.bool b) 4000 2 := by
  cases b <;> exact ⟨by decide +kernel, by decide +kernel, by decide +kernel, by decide +kernel, by decide +kernel⟩
theorem words_three {fr : List T3} {x : Str} {nw : Nat} : ∀ s ∈ wordsL fr x nw, s = "open" ∨ s = "whole" ∨ s = "mixed" := by
  intro s hs
  unfold wordsL at hs
  obtain ⟨j, _, rfl⟩ := List.mem_map.mp hs
  unfold wordL
  split
  · exact .inl rfl
  · split
    · exact .inr (.inl rfl)
    · exact .inr (.inr rfl)
theorem words_len {fr : List T3} {x : Str} {nw : Nat} (h : x.length ≤ 60) : (wordsL fr x nw).length ≤ 61 := by
  unfold wordsL
  rw [List.length_map, List.length_range]
  exact lines_few h
theorem run_len {fr : List T3} {last : Nat} (fm : Frm fr last) {x : Str} {nw : Nat} {es : List E2} {p : Nat} {s : Sx} (h : Rn fr x nw es p s) : es.length ≤ p := by
  induction h with
  | nil => exact Nat.le_refl _
  | @snoc es p s e r f o ih =>
    have := (fit_pos fm f).1
    rw [List.length_append]
    show es.length + 1 ≤ _
    omega
theorem textE_len {fr : List T3} {last : Nat} (fm : Frm fr last) : ∀ {es : List E2}, (∀ e ∈ es, Ent fr e) → (textE fr es).length ≤ 8 * es.length := by
  intro es h
  rw [len_sl, sl_textE]
  induction es with
  | nil => exact Nat.le_refl _
  | cons e es ih =>
    obtain ⟨e0, e1, n0, n1⟩ := h e (List.mem_cons_self ..)
    have p := (pc_len (stt_pc fm n0 n1)).2
    have ih := ih fun e he => h e (List.mem_cons_of_mem _ he)
    rw [List.map_cons, List.flatten_cons, List.length_append, ← len_sl, putP_length, List.length_cons]
    omega
theorem told_pt {fr : List T3} {last : Nat} (fm : Frm fr last) {x : Str} {nw : Nat} (n3 : nw ≤ 3) (h : PosL fr x nw) : possF fr x nw = true := by
  rw [told_poss fm n3]
  exact @decide_eq_true _ (_) h
theorem told_pf {fr : List T3} {last : Nat} (fm : Frm fr last) {x : Str} {nw : Nat} (n3 : nw ≤ 3) (h : ¬ PosL fr x nw) : possF fr x nw = false := by
  rw [told_poss fm n3]
  exact @decide_eq_false _ (_) h
theorem told_vt {fr : List T3} {last : Nat} (fm : Frm fr last) {x : Str} {nw : Nat} (n3 : nw ≤ 3) (h : PosL fr x nw) : verF fr x nw = some (wordsL fr x nw) := by
  rw [told_ver fm n3]
  exact if_pos h
theorem told_vf {fr : List T3} {last : Nat} (fm : Frm fr last) {x : Str} {nw : Nat} (n3 : nw ≤ 3) (h : ¬ PosL fr x nw) : verF fr x nw = none := by
  rw [told_ver fm n3]
  exact if_neg h
end K35

set_option Elab.async false
set_option linter.all false
set_option maxRecDepth 100000
set_option maxHeartbeats 4000000
/-! The law's own look at a right weaving; a short weaving. -/
namespace K35
open PySem L2 L2.EV
abbrev sIsN : Stmt := top 38
abbrev sDue : Stmt := top 47
abbrev sShort : Stmt := top 51
def spIsN : Sp := fun vs H Q _ => ∃ (n b : Int), vs = [.int n, .int 0, .int b] ∧ 0 ≤ n ∧ n ≤ b ∧ Q (.bl true) H
def spDueW : Sp := fun vs H Q _ => ∃ (f wv : Addr) (fr : List T3) (last : Nat) (es : List E2), vs = [.ref f, .ref wv] ∧ FrA H f fr ∧ Frm fr last ∧ WvA H wv es ∧ Wv fr es ∧ ∀ H' p, Same H H' → H' p = some (.lst [.ref wv]) → Q (.ref p) H'
structure Ld (K : PySem.W.Frag) (mg : Str → Option Value) where
  T : TxtF mg
  en : mg "enumerate" = none
  f1 : Addr
  d1 : FuncData
  I : Fun K "_law_is_whole" "_law_is_whole" sIsN f1 d1
  bI : Binds K d1 ["thing", "least", "most"] []
  gI : mg "_law_is_whole" = some (.ref f1)
  f : Addr
  d : FuncData
  D : Fun K "_law_weaving_due" "_law_weaving_due" sDue f d
  b : Binds K d ["framing", "thing"] []
  g : mg "_law_weaving_due" = some (.ref f)
section
variable {P : Program} {w : World} {K : PySem.W.Frag} {mg : Str → Option Value} {base : Heap}
theorem scIsN : FnScope ["thing", "least", "most"] ["thing", "least", "most"] (defScope sIsN) := ⟨rfl, rfl, rfl, by decide +kernel, rfl, by decide +kernel, by decide +kernel⟩
theorem ok_isN (W : Ld K mg) : FnOk P w K mg base CX0 1 W.f1 W.d1 ["thing", "least", "most"] spIsN := by
  have T := W.T
  refine W.I.ok scIsN (fun vs H Q E h => ?_) (fun cdv A outer s H vs Q E hr h => ?_)
  · obtain ⟨n, b, rfl, _⟩ := h
    rfl
  · obtain ⟨n, b, rfl, h0, h1, q⟩ := h
    refine ⟨_, pss_one (ps_ret (pe_and (pe_callB call_isi (by rfl) T.isi PyProof.Rows.boot_isinstance (pa_cons (pv 0) (pa_cons (pe_bltn (v := .ty "int") (by rfl) T.int (by decide +kernel) rfl) pa_nil)))
      (pe_and (pe_not (pe_callB call_isi (by rfl) T.isi PyProof.Rows.boot_isinstance (pa_cons (pv 0) (pa_cons (pe_bltn (v := .ty "bool") (by rfl) T.bool (by decide +kernel) rfl) pa_nil))))
        (pe_one (pe_chain op_le op_le (pv 1) (pv 0) (pv 2)))))), ?_⟩
    refine ⟨_, rfl, .int n, .ty "int", .type "int", .type "int", true, rfl, .ty "int", .base (.int n), kit_ty (by decide +kernel), true, rfl, iteT ?_⟩
    refine ⟨_, rfl, .int n, .ty "bool", .type "int", .type "bool", false, rfl, .ty "bool", .base (.int n), kit_ty (by decide +kernel), false, rfl, true, rfl, iteT ?_⟩
    refine ⟨_, rfl, _, rfl, 0, n, rfl, rfl, _, rfl, iteT' (decide_eq_true h0) ⟨_, rfl, n, b, rfl, rfl, ?_⟩⟩
    show Q (.bl (decide (n ≤ b))) H
    rw [decide_eq_true h1]
    exact q
theorem scDue : FnScope ["framing", "thing", "now", "number", "entry"] ["framing", "thing"] (defScope sDue) := ⟨rfl, rfl, rfl, by decide +kernel, rfl, by decide +kernel, by decide +kernel⟩
theorem ok_dueW (W : Ld K mg) : FnOk P w K mg base CX0 2 W.f W.d ["framing", "thing"] spDueW := by
  have GI : FnOk P w K mg base CX0 1 W.f1 W.d1 ["thing", "least", "most"] spIsN := ok_isN W
  have T := W.T
  refine W.D.ok scDue (fun vs H Q E h => ?_) (fun cdv A outer s H vs Q E hr h => ?_)
  · obtain ⟨f, v, fr, last, d, rfl, _⟩ := h
    rfl
  · obtain ⟨f, wv, fr, last, es, rfl, fa, fm, wa, wo, q⟩ := h
    refine ⟨_, pss_cons (ps_if (pw_or (pt_not (pt_val (pe_callB call_isi (by rfl) T.isi PyProof.Rows.boot_isinstance (pa_cons (pv 1) (pa_cons (pe_bltn (v := .ty "tuple") (by rfl) T.tuple (by decide +kernel) rfl) pa_nil)))))
        (pw_or1 (pt_cmpR op_gt (pe_callB call_len_seq (by rfl) T.len PySem.boot_len (pa_cons (pv 1) pa_nil)) pe_int (nomark _)))).pt (pss_one (ps_ret (pe_tup (pa_cons pe_str (pa_cons pe_non pa_nil))))) pss_nil)
      (pss_cons (ps_set (i := 2) scDue.nd rfl (Or.inl rfl) (pe_op op_rep (pe_lst (pa_cons pe_int pa_nil)) pe_int))
      (pss_cons (ps_for PassesOwn.never rfl (pi_enumT (by rfl) W.en (pa_cons (pv 1) pa_nil)) (pg_tup rfl (pgs_cons (pg_name (i := 3) scDue.nd rfl (Or.inl rfl)) (pgs_cons (pg_name (i := 4) scDue.nd rfl (Or.inl rfl)) pgs_nil)))
        (pss_cons (ps_if (pw_or (pt_not (pt_val (pe_callB call_isi (by rfl) T.isi PyProof.Rows.boot_isinstance (pa_cons (pv 4) (pa_cons (pe_bltn (v := .ty "tuple") (by rfl) T.tuple (by decide +kernel) rfl) pa_nil)))))
            (pw_or (pt_cmpR op_ne (pe_callB call_len_seq (by rfl) T.len PySem.boot_len (pa_cons (pv 4) pa_nil)) pe_int (nomark _))
            (pw_or1 (pt_not (pt_val (pe_call GI hr (by rfl) W.gI W.I.kp W.bI .nil pass0 (pa_cons (pe_ix ix_tup (pv 4) pe_int (fun _ _ => rfl)) (pa_cons pe_int (pa_cons pe_int pa_nil))))))))).pt (pss_one (ps_ret (pe_tup (pa_cons pe_str (pa_cons (pv 3) pa_nil))))) pss_nil)
        (pss_cons (ps_if (pw_or (pt_not (pt_val (pe_call GI hr (by rfl) W.gI W.I.kp W.bI .nil pass0 (pa_cons (pe_ix ix_tup (pv 4) pe_int (fun _ _ => rfl)) (pa_cons pe_int (pa_cons (pe_op op_sub (pe_callB call_len_seq (by rfl) T.len PySem.boot_len (pa_cons (pv 0) pa_nil)) pe_int) pa_nil))))))
            (pw_or1 (pt_cmpR op_ne (pe_ix ix_tup (pe_ix ix_tup (pv 0) (pe_ix ix_tup (pv 4) pe_int (fun _ _ => rfl)) (fun _ _ => rfl)) pe_int (fun _ _ => rfl)) (pe_ix ix_list (pv 2) (pe_ix ix_tup (pv 4) pe_int (fun _ _ => rfl)) (fun _ _ => rfl)) (nomark _)))).pt (pss_one (ps_ret (pe_tup (pa_cons pe_str (pa_cons (pv 3) pa_nil))))) pss_nil)
        (pss_one (ps_asg (pe_ix ix_tup (pe_ix ix_tup (pv 0) (pe_ix ix_tup (pv 4) pe_int (fun _ _ => rfl)) (fun _ _ => rfl)) pe_int (fun _ _ => rfl)) (pg_sub (pv 2) (pe_ix ix_tup (pv 4) pe_int (fun _ _ => rfl)) set_list))))))
      (pss_one (ps_ret (pe_lst (pa_cons (pv 1) pa_nil)))))), ?_⟩
    obtain ⟨tw, hw, wl, wt⟩ := id wa
    have l60 := wo.l
    refine ⟨_, rfl, .ref wv, .ty "tuple", .type "tuple", .type "tuple", true, rfl, .ty "tuple", .base (.tup hw), kit_ty (by decide +kernel), true, rfl, iteF ?_⟩
    refine ⟨_, rfl, wv, _, rfl, .inr (SqT.of hw), _, 200, rfl, rfl, _, rfl, iteF' (decide_eq_false (by rw [List.length_map, wl]; omega)) ?_⟩
    refine ⟨(by show 1 ≤ sizeLine; decide), fun p1 n1 => ⟨p1, 8, _, rfl, rfl, upd_same, by decide, by decide, by show 1 * 8 ≤ sizeLine; decide, fun N hN => ?_⟩⟩
    have u1 := same_upd (o := HO.lst [V.int 0]) n1
    have uN := same_upd (o := HO.lst ((List.replicate 8 (0 : Int)).map V.int)) hN
    have sN := u1.trans uN
    have nN : H N = none := same_none u1 hN
    have hN0 := upd_same (H := upd H p1 (.lst [V.int 0])) (a := N) (o := HO.lst ((List.replicate 8 (0 : Int)).map V.int))
    refine ⟨_, rfl, wv, _, rfl, SqT.of (sN _ _ hw), for_it (walk_enumT (xs := tw.map V.ref)) (fun i σ H' => ∃ (v3 v4 : Option V), σ = [some (.ref f), some (.ref wv), some (.ref N), v3, v4] ∧ Same H H' ∧ H' N = some (.lst ((plc fr (es.take i)).map V.int)))
      ⟨none, none, rfl, sN, hN0⟩ (fun i σ H' _ ⟨_, _, _, z, _⟩ => SqT.of (z _ _ hw)) ?_ ?_⟩
    · rintro i x σ H2 H3 hi ⟨v3, v4, rfl, s2, d2'⟩ ⟨T, xi, xo, rfl, nT, rfl, h1, h2⟩
      cases h1
      obtain ⟨t, e, he, _, rfl, e4⟩ := at_ent (i := i) wl wt h2
      have uT := same_upd (o := HO.tup [V.int (i : Nat), V.ref t]) nT
      have s3 := s2.trans uT
      have d3 := uT _ _ d2'
      obtain ⟨e0, e1, n0, n1⟩ := wo.ent e (List.mem_of_getElem? he)
      obtain ⟨ts, t2, hf, ha, h3, _⟩ := stt_at (fa.same s3) n0 n1
      have pw : atI ((plc fr (es.take i)).map V.int) e.1 = some (V.int (stt fr e.2).1) := by
        obtain ⟨k, hk⟩ := Int.eq_ofNat_of_zero_le e0
        have g := wo.go i e he
        rw [hk] at g ⊢
        refine atI_nat ?_
        rw [List.getElem?_map]
        have g' : (plc fr (es.take i))[k]? = some (stt fr e.2).1 := g
        rw [g']
        rfl
      have fl : (ts.map V.ref).length = fr.length := by
        obtain ⟨ts', hf', hl', _⟩ := fa.same s3
        rw [hf] at hf'
        have := HO.tup.inj (Option.some.inj hf')
        rw [this, List.length_map, hl']
      have e4' := s3 _ _ e4
      refine ⟨T, _, rfl, SqT.of upd_same, rfl, _, _, rfl, _, _, rfl, rfl, ?_⟩
      refine ⟨_, rfl, .ref t, .ty "tuple", .type "tuple", .type "tuple", true, rfl, .ty "tuple", .base (.tup e4'), kit_ty (by decide +kernel), true, rfl, iteF ?_⟩
      refine ⟨_, rfl, t, _, rfl, .inr (SqT.of e4'), rfl, _, rfl, iteF' rfl ?_⟩
      refine ⟨_, rfl, t, _, 0, _, rfl, rfl, SqT.of e4', atI_nat (j := 0) rfl, e.1, 7, rfl, e0, by omega, _, rfl, iteF ?_⟩
      refine ⟨_, rfl, t, _, 1, _, rfl, rfl, SqT.of e4', atI_nat (j := 1) rfl, _, rfl, f, _, rfl, .inr (SqT.of hf), _, 1, rfl, rfl, e.2, _, rfl, n0, by rw [fl]; omega, _, rfl, iteF ?_⟩
      refine ⟨_, rfl, _, rfl, t, _, 1, _, rfl, rfl, SqT.of e4', atI_nat (j := 1) rfl, f, _, e.2, .ref t2, rfl, rfl, SqT.of hf, ha, t2, _, 0, _, rfl, rfl, SqT.of h3, atI_nat (j := 0) rfl, ?_⟩
      refine ⟨_, rfl, _, rfl, t, _, 0, _, rfl, rfl, SqT.of e4', atI_nat (j := 0) rfl, N, _, e.1, _, rfl, rfl, SqL.of d3, pw, rfl, _, rfl, iteF' (by simp) ?_⟩
      refine ⟨_, rfl, _, rfl, t, _, 1, _, rfl, rfl, SqT.of e4', atI_nat (j := 1) rfl, f, _, e.2, .ref t2, rfl, rfl, SqT.of hf, ha, t2, _, 2, _, rfl, rfl, SqT.of h3, atI_nat (j := 2) rfl, ?_⟩
      refine ⟨_, rfl, _, rfl, t, _, 0, _, rfl, rfl, SqT.of e4', atI_nat (j := 0) rfl, N, _, e.1, e.1.toNat, rfl, rfl, d3, ?_, ?_⟩
      · rw [List.length_map, plc_len]
        unfold ixN
        rw [if_pos e0, if_pos (by omega)]
      · refine ⟨_, _, rfl, same_set nN s3, ?_⟩
        rw [take_one he, plc_snoc, List.map_set]
        exact upd_same
    · rintro σ H2 ⟨v3, v4, rfl, s2, d2'⟩
      refine ⟨_, rfl, (by show 1 ≤ sizeLine; decide), fun p hp => ?_⟩
      exact q _ p (s2.trans (same_upd hp)) upd_same
def spShort : Sp := fun vs H Q _ => ∃ (m c l f : Addr) (k : Int) (fr : List T3) (last nw : Nat), vs = [.ref m, .ref f, .int nw] ∧ MAt H m c l k ∧ k < 500000 ∧ FrA H f fr ∧ Frm fr last ∧ 1 ≤ nw ∧ nw ≤ 8 ∧
  ∀ (w : Addr) (es : List E2) (H' : Hp) (l' : Addr) (k' : Int), WvA H' w es → Wv fr es → (∀ e ∈ es, e.1 < nw) → (textE fr es).length ≤ 60 → k' ≤ k + 300 → Dr H H' m c l l' k' → Q (.ref w) H'
structure Lsh (K : PySem.W.Frag) (mg : Str → Option Value) where
  W : Lw K mg
  X : Lx K mg
  f : Addr
  d : FuncData
  S : Fun K "_law_short" "_law_short" sShort f d
  b : Binds K d ["m", "framing", "writers"] []
  g : mg "_law_short" = some (.ref f)
theorem scShort : FnScope ["m", "framing", "writers", "weaving"] ["m", "framing", "writers"] (defScope sShort) := ⟨rfl, rfl, rfl, by decide +kernel, rfl, by decide +kernel, by decide +kernel⟩
theorem wv_take {fr : List T3} {es : List E2} (W : Wv fr es) (j : Nat) : Wv fr (es.take j) := by
  refine ⟨by rw [List.length_take]; have := W.l; omega, fun e he => W.ent e (List.mem_of_mem_take he), fun i e h => ?_⟩
  have il := (List.getElem?_eq_some_iff.mp h).1
  rw [List.length_take] at il
  rw [List.getElem?_take_of_lt (by omega)] at h
  rw [List.take_take, Nat.min_eq_left (by omega)]
  exact W.go i e h
theorem cut_last (xs : List V) (h : xs.length < 2 ^ 60) : cutV xs none (some (-1)) = xs.take (xs.length - 1) := by
  have e1 : HT.sIx xs.length xs.length (some (-1)) = xs.length - 1 := by
    show (if (-1 : Int) < 0 then ((-1 : Int) + (xs.length : Int)).toNat else min (-1 : Int).toNat xs.length) = _
    rw [if_pos (by decide)]
    omega
  unfold cutV
  rw [e1, HT.sIx_none, Nat.sub_zero, List.drop_zero]
theorem ok_short (G : Lsh K mg) : FnOk P w K mg base CX0 3 G.f G.d ["m", "framing", "writers"] spShort := by
  have GX : FnOk P w K mg base CX0 1 G.W.G.L.f1 G.W.G.L.d1 ["m", "total"] spNext := ok_next G.W.G.L.N G.W.G.L.T
  have GW : FnOk P w K mg base CX0 2 G.W.f2 G.W.d2 ["m", "framing", "writers", "total"] spWeave := ok_weave G.W
  have GT : FnOk P w K mg base CX0 2 G.X.f2 G.X.d2 ["framing", "entries"] spPutT := ok_textT G.X
  refine G.S.ok scShort (fun vs H Q E h => ?_) (fun cdv A outer s H vs Q E hr h => ?_)
  · obtain ⟨m, c, l, f, k, fr, last, nw, rfl, _⟩ := h
    rfl
  · obtain ⟨m, c, l, f, k, fr, last, nw, rfl, M, kk, fa, fm, n1, n8, q⟩ := h
    have r1 := hr.mono (j := 1) (by decide)
    refine ⟨_, pss_cons (ps_set (i := 3) scShort.nd rfl (Or.inl rfl) (pe_call GW hr (by rfl) G.W.gW G.W.W.kp G.W.bW .nil pass0 (pa_cons (pv 0) (pa_cons (pv 1) (pa_cons (pv 2)
          (pa_cons (pe_call GX r1 (by rfl) G.W.G.L.mN G.W.G.L.N.kp G.W.G.L.bN .nil pass0 (pa_cons (pv 0) (pa_cons pe_int pa_nil))) pa_nil))))))
      (pss_cons (ps_while PassesOwn.never (pt_cmpR op_gt (pe_callB call_len_str (by rfl) G.W.G.L.T.len PySem.boot_len (pa_cons (pe_call GT hr (by rfl) G.X.gT G.X.T.kp G.X.bT .nil pass0 (pa_cons (pv 1) (pa_cons (pv 3) pa_nil))) pa_nil)) pe_int (nomark _))
        (pss_one (ps_set (i := 3) scShort.nd rfl (Or.inl rfl) (pe_slice sl_tupS (pv 3) po_none (po_some (pe_un un_neg pe_int))))))
      (pss_one (ps_ret (pv 3)))), ?_⟩
    refine ⟨_, rfl, _, rfl, _, rfl, _, rfl, m, c, l, k, 25, rfl, M, by decide, by decide, by omega, fun r H1 l1 k1 a b g M1 f1 q1 => ?_⟩
    have d1 : Dr H H1 m c l l1 k1 := ⟨M1, f1, q1⟩
    have fa1 := d1.fr M fa
    obtain ⟨tot, rfl⟩ := Int.eq_ofNat_of_zero_le a
    refine ⟨m, c, l1, f, k1, fr, last, nw, tot, rfl, M1, by omega, fa1, fm, n1, n8, by omega, fun w es H2 l2 k2 wa wo lw le kk2 d2 => ?_⟩
    have d12 := d1.trans d2
    have fa2 := d12.fr M fa
    obtain ⟨tw, hw, wl, wt⟩ := wa
    have l60 := wo.l
    refine ⟨fun n σ H' => ∃ w', σ = [some (.ref m), some (.ref f), some (.int nw), some (.ref w')] ∧ n ≤ es.length ∧ Same H2 H' ∧ H' w' = some (.tup ((tw.take n).map V.ref)), ⟨es.length, w, rfl, Nat.le_refl _, Same.refl _, by rw [← wl, List.take_length]; exact hw⟩, ?_⟩
    rintro n σ H3 ⟨w', rfl, nl, s3, hw'⟩
    have wa' : WvA H3 w' (es.take n) := ⟨tw.take n, hw', by rw [List.length_take, List.length_take, wl], fun i t e h1 h2 => by
      have i1 := (List.getElem?_eq_some_iff.mp h1).1
      rw [List.length_take] at i1
      rw [List.getElem?_take_of_lt (by omega)] at h1 h2
      exact s3 _ _ (wt i t e h1 h2)⟩
    have wo' := wv_take wo n
    have lw' : ∀ e ∈ es.take n, e.1 < nw := fun e he => lw e (List.mem_of_mem_take he)
    refine ⟨_, rfl, _, rfl, f, w', fr, last, es.take n, rfl, fa2.same s3, fm, wa', wo'.ent, by have := wo'.l; omega, fun H4 s4 => ?_⟩
    have tl := textE_len fm wo'.ent
    have l6 := wo'.l
    refine ⟨_, rfl, by rw [sizeLine_eq]; omega, _, 60, rfl, rfl, _, rfl, ?_⟩
    by_cases z : 60 < (textE fr (es.take n)).length
    · refine iteT' (decide_eq_true (by omega)) ?_
      have n0 : n ≠ 0 := fun q => by
        subst q
        have : (textE fr (es.take 0)).length = 0 := by rw [List.take_zero, len_sl, sl_textE]; rfl
        omega
      refine ⟨fun σ' H' => ∃ w', σ' = [some (.ref m), some (.ref f), some (.int nw), some (.ref w')] ∧ Same H2 H' ∧ H' w' = some (.tup ((tw.take (n - 1)).map V.ref)), fun σ' H' ⟨w2, e1, e2, e3⟩ => ⟨n - 1, by omega, w2, e1, by omega, e2, e3⟩, ?_⟩
      refine ⟨_, rfl, 1, rfl, _, rfl, w', _, rfl, s4 _ _ hw', fun p H5 s5 h5 => ⟨p, rfl, s3.trans (s4.trans s5), ?_⟩⟩
      rw [h5]
      have e1 : cutV ((tw.take n).map V.ref) none (some (-1)) = ((tw.take n).map V.ref).take (((tw.take n).map V.ref).length - 1) := cut_last _ (by rw [List.length_map, List.length_take]; omega)
      show some (HO.tup (cutV ((tw.take n).map V.ref) none (some (-1)))) = _
      rw [e1, ← List.map_take, List.take_take, List.length_map, List.length_take, wl]
      congr 4
      omega
    · refine iteF' (decide_eq_false (by omega)) ?_
      refine ⟨_, rfl, q w' (es.take n) H4 l2 k2 (wa'.same s4) wo' lw' (by omega) (by omega) (d12.same (s3.trans s4))⟩
end
end K35

set_option Elab.async false
set_option linter.all false
set_option maxRecDepth 100000
set_option maxHeartbeats 1000000
/-! zip of two things, each of them a list or a tuple: one turn. -/
namespace ZM
open PySem PySem.Spec
open PySem.Sem (wp)
/-- a list (k) or a tuple -/
def Hold (k : Bool) (h : Heap) (l : Addr) (xs : Array Value) : Prop := match k with
  | true => h.IsList l xs
  | false => h.IsTuple l xs
/-- its iterator -/
def Ptr (k : Bool) (h : Heap) (i l : Addr) (n : Nat) : Prop := match k with
  | true => h.IsListIter i l n
  | false => h.IsTupleIter i l n
theorem Hold.to {k : Bool} {h h' : Heap} {l xs} (x : Hold k h l xs) (e : ∀ o, h.get? l = some o → h'.get? l = some o) : Hold k h' l xs := by
  cases k with
  | true => exact Heap.IsList.at (show h.IsList l xs from x) e
  | false => exact Heap.IsTuple.at (show h.IsTuple l xs from x) e
theorem Ptr.to {k : Bool} {h h' : Heap} {i l n} (x : Ptr k h i l n) (e : ∀ o, h.get? i = some o → h'.get? i = some o) : Ptr k h' i l n := by
  cases k with
  | true => exact Heap.IsListIter.at (show h.IsListIter i l n from x) e
  | false => exact Heap.IsTupleIter.at (show h.IsTupleIter i l n from x) e
theorem Ptr.lt {k : Bool} {h : Heap} {i l n} (x : Ptr k h i l n) : i < h.objs.size := by
  cases k with
  | true => obtain ⟨_, e, _⟩ := (show h.IsListIter i l n from x); exact Heap.lt_size e
  | false => obtain ⟨_, e, _⟩ := (show h.IsTupleIter i l n from x); exact Heap.lt_size e
theorem Ptr.obj {k : Bool} {h : Heap} {i l n} (x : Ptr k h i l n) : ∃ o, h.get? i = some o ∧ ∀ v m, o.data ≠ .seq v m := by
  cases k with
  | true => obtain ⟨o, e, _, d⟩ := (show h.IsListIter i l n from x); exact ⟨o, e, fun v m q => by rw [d] at q; cases q⟩
  | false => obtain ⟨o, e, _, d⟩ := (show h.IsTupleIter i l n from x); exact ⟨o, e, fun v m q => by rw [d] at q; cases q⟩
section
variable {prog : Program} {w : World} {A : Around} {E : Value → Shared → Prop} {s : Shared}
theorem more {k : Bool} {i l : Addr} {n : Nat} {xs} {x : Value} {Q : Value → Shared → Prop} (p : Ptr k s.heap i l n) (h : Hold k s.heap l xs) (hx : xs[n]? = some x)
    (hQ : ∀ h', Ptr k h' i l (n + 1) → Heap.SameBut i s.heap h' → Q x { s with heap := h' }) : wpAny (model prog w) A (Builtin.SmallTypes.nextOf (.ref i)) Q E s := by
  cases k with
  | true => exact wpAny_nextOf_list_item p h hx hQ
  | false => exact RZ.nextOf_tuple_item p h hx hQ
theorem over {k : Bool} {i l : Addr} {n : Nat} {xs} {Q : Value → Shared → Prop} (hh : A.handled = none) (p : Ptr k s.heap i l n) (h : Hold k s.heap l xs) (hx : xs[n]? = none)
    (hE : ∀ h' e, Heap.ExtBut i s.heap h' → (∃ o, h'.get? e = some o ∧ o.cls = .type "StopIteration") → E (.ref e) { s with heap := h' }) : wpAny (model prog w) A (Builtin.SmallTypes.nextOf (.ref i)) Q E s := by
  cases k with
  | true => exact wpAny_nextOf_list_end hh p h hx hE
  | false => exact RZ.nextOf_tuple_end hh p h hx hE
/-- nothing has changed but the zip, its tuple and the two iterators -/
def But (z TO i1 i2 : Addr) (h h' : Heap) : Prop := ∀ c o, c ≠ z → c ≠ TO → c ≠ i1 → c ≠ i2 → h.get? c = some o → h'.get? c = some o
/-- one turn of a zip: a pair, or the end -/
theorem turn {k1 k2 : Bool} {z TI TO i1 i2 l1 l2 : Addr} {n1 n2 : Nat} {xs ys : Array Value} {a b : Value} {Q : Option Value → Shared → Prop} (hd : A.handled = none) (D : ZipApart z TI TO i1 i2 l1 l2)
    (zz : IsZip s.heap z TI TO .none) (zI : IsPair s.heap TI (.ref i1) (.ref i2)) (zO : IsPair s.heap TO a b) (p1 : Ptr k1 s.heap i1 l1 n1) (p2 : Ptr k2 s.heap i2 l2 n2) (h1 : Hold k1 s.heap l1 xs) (h2 : Hold k2 s.heap l2 ys)
    (two : ∀ x y, xs[n1]? = some x → ys[n2]? = some y → ∀ h', IsZip h' z TI TO (rawInt s.heap.objs.size) → IsPair h' TO x y → Ptr k1 h' i1 l1 (n1 + 1) → Ptr k2 h' i2 l2 (n2 + 1) → IsPair h' s.heap.objs.size x y →
      But z TO i1 i2 s.heap h' → Q (some (.ref s.heap.objs.size)) { s with heap := h' })
    (fin : xs[n1]? = none ∨ ys[n2]? = none → ∀ h', But z TO i1 i2 s.heap h' → Q none { s with heap := h' }) :
    wpAny (model prog w) A (pyNext (.ref z)) Q E s := by
  have ty : s.TypeIs (.ref z) "zip" := ⟨_, zz, rfl⟩
  have bye : (xs[n1]? = none ∨ ys[n2]? = none) → ∀ h' e, But z TO i1 i2 s.heap h' → (∃ o, h'.get? e = some o ∧ o.cls = .type "StopIteration") → wpAny (model prog w) A (do if ← isInstance (.ref e) (.type "StopIteration") then pure none else throw (.ref e)) Q E { s with heap := h' } := fun end' h' e hk he => by
    obtain ⟨o, ho, hc⟩ := he
    exact wpAny_bind (wpAny_isInstance (T := "StopIteration") (b := true) ⟨o, ho, hc⟩ isSubtype_stop (wpAny_pure (fin end' _ hk)))
  unfold pyNext
  refine wpAny_bind (wpAny_attempt (wpAny_callSpecial?_slot (name := Str.ofString "__next__") ty F.slot_zip_next (wpAny_call_entry F.slot_zip_next ty F.entry_zip_next ?_ (F.args_zip_next_1 _))))
  -- the zip is not strict; its pair is free: it takes it
  refine wpAny_bind (m := field (.ref z) 2) (wpAny_field zz rfl (x := .bool false) rfl ?_)
  refine wpAny_bind (m := field (.ref z) 3) (wpAny_field zz rfl (x := .ref TI) rfl (wpAny_bind (wpAny_seqItems zI rfl ?_)))
  refine wpAny_bind (m := Builtin.SmallTypes.ownedTupleIsFree (.ref z)) ?_
  unfold Builtin.SmallTypes.ownedTupleIsFree
  refine wpAny_bind (wpAny_field zz rfl (x := .none) rfl (wpAny_pure ?_))
  simp only [if_true]
  refine wpAny_bind (wpAny_rule (wpAny_bind (wpAny_field zz rfl (x := .ref TO) rfl (wpAny_bind (wpAny_setField_rec zz (by simp) fun ha za sa => wpAny_bind ?_)))))
  have za : IsZip ha z TI TO .ellipsis := za
  simp only [List.forIn_cons, List.forIn_nil, List.zipIdx_cons, List.zipIdx_nil]
  -- the first one's next
  refine wpAny_bind (wpAny_bind (wpAny_onRaise (wpAny_bind (m := Builtin.SmallTypes.nextOf (.ref i1)) ?_)))
  cases hx : xs[n1]? with
  | none =>
    refine over hd (p1.to fun o => sa.extBut _ o D.i1z) (h1.to fun o => sa.extBut _ o D.l1z) hx fun hb e sb ⟨oe, hoe, hce⟩ => ?_
    have zb : IsZip hb z TI TO .ellipsis := sb _ _ D.i1z.symm za
    have ne : e ≠ z := fun q => by subst q; rw [zb] at hoe; cases hoe; simp at hce
    exact wpAny_setField_rec zb (by simp) fun hc _ sc => bye (.inl hx) hc e (fun c o c1 _ c3 _ q => sc.extBut _ _ c1 (sb _ _ c3 (sa.extBut _ _ c1 q))) ⟨oe, sc.extBut _ _ ne hoe, hce⟩
  | some x =>
    refine more (p1.to fun o => sa.extBut _ o D.i1z) (h1.to fun o => sa.extBut _ o D.l1z) hx fun hb p1b sb => wpAny_pure ?_
    have Tb : IsPair hb TO a b := sb.extBut _ _ D.TOi1 (sa.extBut _ _ D.TOz zO)
    refine wpAny_bind (wpAny_seqItems Tb rfl (wpAny_bind (wpAny_updateSeq_pair Tb fun hc Tc sc => wpAny_bind (wpAny_letGo (wpAny_pure ?_)))))
    have Tc : IsPair hc TO x b := Tc
    have k3 : ∀ c o, c ≠ z → c ≠ i1 → c ≠ TO → s.heap.get? c = some o → hc.get? c = some o := fun c o c1 c2 c3 e => sc.extBut _ _ c3 (sb.extBut _ _ c2 (sa.extBut _ _ c1 e))
    have z3 : IsZip hc z TI TO .ellipsis := sc.extBut _ _ D.TOz.symm (sb.extBut _ _ D.i1z.symm za)
    -- the second one's next
    refine wpAny_bind (wpAny_bind (wpAny_onRaise (wpAny_bind (m := Builtin.SmallTypes.nextOf (.ref i2)) ?_)))
    cases hy : ys[n2]? with
    | none =>
      refine over hd (p2.to fun o => k3 _ o D.i2z D.i12.symm D.TOi2.symm) (h2.to fun o => k3 _ o D.l2z D.l2i1 D.l2TO) hy fun hd' e sd ⟨oe, hoe, hce⟩ => ?_
      have zd : IsZip hd' z TI TO .ellipsis := sd _ _ D.i2z.symm z3
      have ne : e ≠ z := fun q => by subst q; rw [zd] at hoe; cases hoe; simp at hce
      exact wpAny_setField_rec zd (by simp) fun he _ se => bye (.inr hy) he e (fun c o c1 c2 c3 c4 q => se.extBut _ _ c1 (sd _ _ c4 (k3 c o c1 c3 c2 q))) ⟨oe, se.extBut _ _ ne hoe, hce⟩
    | some y =>
      refine more (p2.to fun o => k3 _ o D.i2z D.i12.symm D.TOi2.symm) (h2.to fun o => k3 _ o D.l2z D.l2i1 D.l2TO) hy fun hd' p2d sd => wpAny_pure ?_
      have Td : IsPair hd' TO x b := sd.extBut _ _ D.TOi2 Tc
      refine wpAny_bind (wpAny_seqItems Td rfl (wpAny_bind (wpAny_updateSeq_pair Td fun he Te se => wpAny_bind (wpAny_letGo (wpAny_pure (wpAny_pure ?_))))))
      have Te : IsPair he TO x y := Te
      have sz : he.objs.size = s.heap.objs.size := by rw [se.1, sd.1, sc.1, sb.1, sa.1]
      have z5 : IsZip he z TI TO .ellipsis := se.extBut _ _ D.TOz.symm (sd.extBut _ _ D.i2z.symm z3)
      have k5 : But z TO i1 i2 s.heap he := fun c o c1 c2 c3 c4 e => se.extBut _ _ c2 (sd.extBut _ _ c4 (k3 c o c1 c3 c2 e))
      have q1 : Ptr k1 he i1 l1 (n1 + 1) := p1b.to fun o e => se.extBut _ o D.TOi1.symm (sd.extBut _ o D.i12 (sc.extBut _ o D.TOi1.symm e))
      have q2 : Ptr k2 he i2 l2 (n2 + 1) := p2d.to fun o e => se.extBut _ o D.TOi2.symm e
      -- the pair is handed out
      refine wpAny_bind (wpAny_seqItems Te rfl (wpAny_bind (wpAny_newTuple ?_)))
      have z6 : IsZip (he.push { cls := .type "tuple", data := .seq #[x, y] }) z TI TO .ellipsis := Heap.get?_push_of_some _ z5
      refine wpAny_bind (wpAny_bind (wpAny_setField_rec z6 (by simp) fun hg zg sg => wpAny_setField_rec (show IsZip hg z TI TO (rawInt he.objs.size) from zg) (by simp) fun hk zk sk => wpAny_pure ⟨_, rfl, wpAny_pure ?_⟩))
      have zk : IsZip hk z TI TO (rawInt he.objs.size) := zk
      have up : ∀ c o, c ≠ z → he.get? c = some o → hk.get? c = some o := fun c o c1 e => sk.extBut _ _ c1 (sg.extBut _ _ c1 (Heap.get?_push_of_some _ e))
      have Tk : IsPair hk he.objs.size x y := sk.extBut _ _ (Nat.ne_of_gt (Heap.lt_size z5)) (sg.extBut _ _ (Nat.ne_of_gt (Heap.lt_size z5)) (Heap.get?_push_size _ rfl))
      show Q (some (.ref he.objs.size)) _
      rw [sz] at zk Tk ⊢
      exact two x y hx hy hk zk (up _ _ D.TOz Te) (q1.to fun o e => up _ o D.i1z e) (q2.to fun o e => up _ o D.i2z e) Tk fun c o c1 c2 c3 c4 e => up c o c1 (k5 c o c1 c2 c3 c4 e)
end
end ZM

set_option Elab.async false
set_option linter.all false
set_option maxRecDepth 100000
set_option maxHeartbeats 2000000
/-! A loop over zip of a list and a tuple. -/
namespace ZM
open PySem PySem.Spec PyProof.Rows L2
theorem new_zip (l1 l2 : Addr) (xs ys : Array Value) :
    Meets (Builtin.«zip.__new__» ⟨[.type "zip", .ref l1, .ref l2], []⟩) (fun _ R s => s.heap.IsList l1 xs ∧ s.heap.IsTuple l2 ys ∧
      ∀ h', IsZip h' (s.heap.objs.size + 4) (s.heap.objs.size + 2) (s.heap.objs.size + 3) .none → IsPair h' (s.heap.objs.size + 2) (.ref s.heap.objs.size) (.ref (s.heap.objs.size + 1)) →
      IsPair h' (s.heap.objs.size + 3) .none .none → h'.IsListIter s.heap.objs.size l1 0 → h'.IsTupleIter (s.heap.objs.size + 1) l2 0 →
      (∀ c o, s.heap.get? c = some o → h'.get? c = some o) → R (.ok (.ret (.ref (s.heap.objs.size + 4)))) { s with heap := h' }) :=
  .of_wp fun prog w A R s h => by
    obtain ⟨hp, g, d, tk, os⟩ := s
    obtain ⟨hl1, hl2, h⟩ := h
    have hsub := sub_zip
    have hL1 : Heap.IsList (Shared.heap ⟨hp, g, d, tk, os⟩) l1 xs := hl1
    have hL2 : Heap.IsTuple (Shared.heap ⟨hp.push { cls := .type "list_iterator", data := .fields #[.ref l1, .int 0 0] }, g, d, tk, os⟩) l2 ys := Heap.IsTuple.push hl2 _
    wp_walk using wpAny_pyIter_list hL1, wpAny_pyIter_tuple hL2
    refine ⟨_, rfl, ?_⟩
    have z1 : ∀ (h : Heap) (o : Obj), (h.push o).objs.size = h.objs.size + 1 := fun h o => Heap.size_push ..
    dsimp only at h ⊢
    simp only [z1, Nat.add_assoc] at h ⊢
    have up : ∀ (h : Heap) (o : Obj) (n : Nat) (q : o.isFreed = false) (e : n = h.objs.size), (h.push o).get? n = some o := fun h o n q e => by
      subst e
      exact Heap.get?_push_size _ q
    refine h _ (up _ _ _ rfl (by simp [z1])) (Heap.get?_push_of_some _ (Heap.get?_push_of_some _ (up _ _ _ rfl (by simp [z1])))) (Heap.get?_push_of_some _ (up _ _ _ rfl (by simp [z1])))
      ⟨_, Heap.get?_push_of_some _ (Heap.get?_push_of_some _ (Heap.get?_push_of_some _ (Heap.get?_push_of_some _ (up _ _ _ rfl rfl)))), rfl, rfl⟩
      ⟨_, Heap.get?_push_of_some _ (Heap.get?_push_of_some _ (Heap.get?_push_of_some _ (up _ _ _ rfl (by simp [z1])))), rfl, rfl⟩
      fun c o x => Heap.get?_push_of_some _ (Heap.get?_push_of_some _ (Heap.get?_push_of_some _ (Heap.get?_push_of_some _ (Heap.get?_push_of_some _ x))))
/-- the list at a and the tuple at b as they stand at each turn, the items in new pairs -/
def ItLT (K : PySem.W.Frag) (a b : Addr) : It :=
  ⟨fun i H => ∃ (xs ys : List V) (x y : V), SqL K H a xs ∧ SqT K H b ys ∧ xs[i]? = some x ∧ ys[i]? = some y,
    fun i H v H' => ∃ T x y, v = .ref T ∧ H T = none ∧ H' = upd H T (.tup [x, y]) ∧ (∀ xs, SqL K H a xs → xs[i]? = some x) ∧ ∀ ys, SqT K H b ys → ys[i]? = some y,
    fun i H => ∃ xs ys : List V, SqL K H a xs ∧ SqT K H b ys ∧ (xs.length ≤ i ∨ ys.length ≤ i)⟩
theorem mem5 {c z TI TO i1 i2 : Addr} (h : c ∈ [z, TI, TO, i1, i2]) : c = z ∨ c = TI ∨ c = TO ∨ c = i1 ∨ c = i2 := by simpa using h
theorem out4 {c z TI TO i1 i2 : Addr} (h : c ∉ [z, TI, TO, i1, i2]) : c ≠ z ∧ c ≠ TO ∧ c ≠ i1 ∧ c ≠ i2 :=
  ⟨fun q => h (by simp [q]), fun q => h (by simp [q]), fun q => h (by simp [q]), fun q => h (by simp [q])⟩
theorem turn_LT {P : Program} {w : World} {K : PySem.W.Frag} {elts : List Expr} {kk : Nat} {tpos : Pos} {a b z TI TO i1 i2 : Addr} (D : ZipApart z TI TO i1 i2 a b) :
    Turn P w K (.Tuple elts kk tpos) (ItLT K a b) [z, TI, TO, i1, i2] z (fun i h => IsZip h z TI TO .none ∧ IsPair h TI (.ref i1) (.ref i2) ∧ (∃ x y, IsPair h TO x y) ∧ Ptr true h i1 a i ∧ Ptr false h i2 b i) where
  mem := by simp
  obj := fun i h st c hc => by
    obtain ⟨hz, hTI, ⟨x, y, hTO⟩, p1, p2⟩ := st
    obtain ⟨o1, e1, _, d1⟩ := (show h.IsListIter i1 a i from p1)
    obtain ⟨o2, e2, _, d2⟩ := (show h.IsTupleIter i2 b i from p2)
    rcases mem5 hc with rfl | rfl | rfl | rfl | rfl
    · exact ⟨_, hz, fun v q => nomatch q⟩
    · exact ⟨_, hTI, fun v q => nomatch q⟩
    · exact ⟨_, hTO, fun v q => nomatch q⟩
    · exact ⟨o1, e1, fun v q => by rw [d1] at q; cases q⟩
    · exact ⟨o2, e2, fun v q => by rw [d2] at q; cases q⟩
  keep := fun i h h' ⟨hz, hTI, ⟨x, y, hTO⟩, p1, p2⟩ k =>
    ⟨k z (by simp) _ hz, k TI (by simp) _ hTI, ⟨x, y, k TO (by simp) _ hTO⟩, p1.to fun o q => k i1 (by simp) o q, p2.to fun o q => k i2 (by simp) o q⟩
  item := by
    intro X hP hw hK hc i pins s σ H E I hf ⟨hz, hTI, ⟨x0, y0, hTO⟩, p1, p2⟩ ⟨xs, ys, x, y, hqx, hqy, hx, hy⟩
    subst hP hw hK
    obtain ⟨its, rv, h1, _⟩ := I.list hqx
    obtain ⟨its2, rv2, h2, _⟩ := I.tuple hqy
    obtain ⟨u, hu, ru⟩ := rv.get hx
    obtain ⟨u2, hu2, ru2⟩ := rv2.get hy
    have zl : z < s.heap.objs.size := Heap.lt_size hz
    have gx : its.toArray[i]? = some u := by simpa using hu
    have gy : its2.toArray[i]? = some u2 := by simpa using hu2
    refine turn (k1 := true) (k2 := false) (I.ok.hd hc) D hz hTI hTO p1 p2 h1.isList h2 (fun x0 y0 e1 e2 h' z' TO' p1' p2' hT hk => ?_) (fun no => ?_)
    rotate_left
    · rw [gx, gy] at no
      exact absurd no (by simp)
    rw [gx] at e1
    rw [gy] at e2
    cases e1
    cases e2
    refine ⟨_, rfl, wpAny_letOwnedTupleGo_zip (s := { s with heap := h' }) z' fun h'' z'' sb => ?_⟩
    have hT2 : h''.get? s.heap.objs.size = some { cls := .type "tuple", data := .seq #[u, u2] } := (sb.2 _ (Nat.ne_of_gt zl)).trans hT
    have new : ObjOk X.prog X.w (upd H s.heap.objs.size (.tup [x, y])) h'' s.heap.objs.size (.tup [x, y]) :=
      ⟨by show 2 ≤ sizeLine; decide, [u, u2], .cons ru (.cons ru2 .nil), ⟨_, hT2, rfl, _, rfl⟩⟩
    have I1 : Inv X pins σ (upd H s.heap.objs.size (.tup [x, y])) { s with heap := h'' } :=
      I.turnedNew (t' := s.toks) (ch := [z, TI, TO, i1, i2]) (fun c o hb q => (sb.2 c (out4 hb).1).trans (hk c o (out4 hb).1 (out4 hb).2.1 (out4 hb).2.2.1 (out4 hb).2.2.2 q)) hf (Nat.le_refl _) new
    refine ⟨.ref s.heap.objs.size, _, I1, rfl, ⟨_, x, y, rfl, I.hok.fresh (Nat.le_refl _), rfl, fun l hl => by rw [I.list_inj hl hqx]; exact hx, fun l hl => by rw [I.tuple_inj hl hqy]; exact hy⟩,
      ⟨z'', (sb.2 _ D.TIz).trans (hk _ _ D.TIz D.TITO D.TIi1 D.TIi2 hTI), ⟨u, u2, (sb.2 _ D.TOz).trans TO'⟩, p1'.to fun o q => (sb.2 _ D.i1z).trans q, p2'.to fun o q => (sb.2 _ D.i2z).trans q⟩, fun c hcm => ?_⟩
    have hlt : c < s.heap.objs.size := by
      rcases mem5 hcm with rfl | rfl | rfl | rfl | rfl
      · exact zl
      · exact Heap.lt_size hTI
      · exact Heap.lt_size hTO
      · exact p1.lt
      · exact p2.lt
    rw [upd_ne (Nat.ne_of_lt hlt)]
    exact (hf c hcm).1
  done := by
    intro X hP hw hK hc i pins s σ H E I hf ⟨hz, hTI, ⟨x0, y0, hTO⟩, p1, p2⟩ ⟨xs, ys, hqx, hqy, hend⟩
    subst hP hw hK
    obtain ⟨its, rv, h1, _⟩ := I.list hqx
    obtain ⟨its2, rv2, h2, _⟩ := I.tuple hqy
    have l1 := rv.length
    have l2 := rv2.length
    have no : its.toArray[i]? = none ∨ its2.toArray[i]? = none := hend.imp (fun q => by simp; omega) fun q => by simp; omega
    refine turn (k1 := true) (k2 := false) (I.ok.hd hc) D hz hTI hTO p1 p2 h1.isList h2 (fun x0 y0 e1 e2 => ?_)
      (fun _ h' hk => ⟨rfl, I.turnedL (t' := s.toks) (ch := [z, TI, TO, i1, i2]) (fun c o hb q => hk c o (out4 hb).1 (out4 hb).2.1 (out4 hb).2.2.1 (out4 hb).2.2.2 q) hf⟩)
    rw [e1, e2] at no
    exact absurd no (by simp)
  self := fun A i s Q E st h => wpAny_pyIter_zip st.1 h
def iLT (K : PySem.W.Frag) (ta : TA) : TI := fun σ H R => ta σ H fun vs H1 => ∃ a b xs ys, vs = [.ref a, .ref b] ∧ SqL K H1 a xs ∧ SqT K H1 b ys ∧ R (ItLT K a b) H1
theorem pi_LT {X : Cx} {e e2 : Expr} {ta : TA} {p pos tpos : Pos} {elts : List Expr} {kk : Nat} (hg : Gl X "zip") (hm : X.mg "zip" = none) (ha : PA X [e, e2] ta)
    (hs : starEach [e, e2] X.env = (false, eval e X.env) :: starEach [e2] X.env := by rfl) (hpl : (backTo pos (starEach [e2] X.env)).any (·.1) = false := by rfl) :
    PI X (.Tuple elts kk tpos) (.Call (.Name "zip" p) [e, e2] [] pos) (iLT X.K ta) := by
  refine ⟨fun pins s σ H R I h => Call_ (ld_blt I hg hm PyProof.Rows.boot_zip (PyProof.Rows.callWith_type1 (thn (ha.run pos pins s σ H _ I h) fun us s1 ⟨vs, H1, I1, r1, a, b, xs, ys, ex, hqx, hqy, q⟩ => ?_) hs hpl))⟩
  subst ex
  obtain ⟨u1, u2, rfl, ra, rb⟩ : ∃ u1 u2, us = [u1, u2] ∧ RelV (.ref a) u1 ∧ RelV (.ref b) u2 := by
    cases r1 with
    | cons r rr =>
      cases rr with
      | cons r' rr =>
        cases rr
        exact ⟨_, _, rfl, r, r'⟩
  cases ra
  cases rb
  obtain ⟨its, rv, h1, _⟩ := I1.list hqx
  obtain ⟨its2, rv2, h2, _⟩ := I1.tuple hqy
  have la : a < s1.heap.objs.size := h1.lt
  have lb : b < s1.heap.objs.size := by obtain ⟨_, e, _⟩ := id h2; exact Heap.lt_size e
  refine callType_new F.called_zip (by decide) (F.typeCall_zip_2 _ _) (F.newCall_zip_2 _ _) (fun obj => F.args_object_init_3 obj _ _) F.entry_zip_new
    (new_zip a b its.toArray its2.toArray) ⟨h1.isList, h2, fun h' hz hTI hTO g1 g2 hk => ⟨⟨_, hz, rfl⟩, wpAny_pyIter_zip hz ?_⟩⟩
  have I2 : Inv X pins σ H1 { s1 with heap := h' } := I1.kept (t' := s1.toks) hk
  refine ⟨s1.heap.objs.size + 4, [s1.heap.objs.size + 4, s1.heap.objs.size + 2, s1.heap.objs.size + 3, s1.heap.objs.size, s1.heap.objs.size + 1], _, _, H1, rfl, I2, turn_LT (PySem.W.ktu_apart s1.heap.objs.size a b la lb), ⟨hz, hTI, ⟨_, _, hTO⟩, g1, g2⟩, fun c hcm => ?_, q⟩
  have hle : s1.heap.objs.size ≤ c := by
    rcases mem5 hcm with rfl | rfl | rfl | rfl | rfl <;> first | exact Nat.le_add_right _ _ | exact Nat.le_refl _
  exact I1.fpOk hle (I1.hok.fresh hle)
theorem walk_LT {K : PySem.W.Frag} {a b : Addr} {xs ys : List V} {n : Nat} (hn : n = min xs.length ys.length) : Walk (ItLT K a b) n (fun H => SqL K H a xs ∧ SqT K H b ys) (YPair (fun i => xs[i]?) (fun i => ys[i]?)) := by
  subst hn
  refine ⟨fun i _ hi q => ?_, fun _ q => ⟨xs, ys, q.1, q.2, by omega⟩, fun i H v H' _ q ⟨T, x, z, h1, h2, h3, h4, h5⟩ => ⟨T, x, z, h1, h2, h3, h4 xs q.1, h5 ys q.2⟩⟩
  have h1 : i < xs.length := by omega
  have h2 : i < ys.length := by omega
  exact ⟨xs, ys, xs[i], ys[i], q.1, q.2, by simp [h1], by simp [h2]⟩
end ZM

set_option Elab.async false
set_option linter.all false
set_option maxRecDepth 100000
set_option maxHeartbeats 4000000
/-! What the law wants beside. -/
namespace K35
open PySem L2 L2.EV
theorem spl_ok {fr : List T3} : ∀ {es : List E2}, (∀ l ∈ (spl fr es).1, l ≠ [] ∧ (∀ e ∈ l, e ∈ es) ∧ l.length ≤ es.length) ∧ (∀ e ∈ (spl fr es).2, e ∈ es) ∧ (spl fr es).2.length ≤ es.length ∧ (spl fr es).1.length ≤ es.length := by
  intro es
  induction es using snoc_ind with
  | h0 => exact ⟨(fun l h => nomatch h), (fun e h => nomatch h), Nat.le_refl _, Nat.le_refl _⟩
  | h1 es e ih =>
    obtain ⟨i1, i2, i3, i4⟩ := ih
    have le : (es ++ [e]).length = es.length + 1 := by simp
    have in1 : ∀ l ∈ (spl fr es).1, l ≠ [] ∧ (∀ x ∈ l, x ∈ es ++ [e]) ∧ l.length ≤ (es ++ [e]).length := fun l h => by
      obtain ⟨a, b, c⟩ := i1 l h
      exact ⟨a, fun x hx => List.mem_append_left _ (b x hx), by omega⟩
    have in2 : ∀ x ∈ (spl fr es).2 ++ [e], x ∈ es ++ [e] := fun x hx => by
      rcases List.mem_append.mp hx with h | h
      · exact List.mem_append_left _ (i2 x h)
      · exact List.mem_append_right _ h
    have l2 : ((spl fr es).2 ++ [e]).length = (spl fr es).2.length + 1 := by simp
    rw [spl_snoc]
    by_cases c : ends fr e = true
    · rw [if_pos c]
      refine ⟨fun l h => ?_, fun x h => (by cases h), Nat.zero_le _, ?_⟩
      · rcases List.mem_append.mp h with h | h
        · exact in1 l h
        · rw [List.mem_singleton.mp h]
          exact ⟨by simp, in2, by omega⟩
      · show ((spl fr es).1 ++ [(spl fr es).2 ++ [e]]).length ≤ _
        rw [List.length_append, List.length_singleton]
        omega
    · rw [if_neg c]
      exact ⟨in1, in2, by show ((spl fr es).2 ++ [e]).length ≤ _; omega, by show (spl fr es).1.length ≤ _; omega⟩
theorem okd_wv {fr : List T3} {es : List E2} (h : ∀ e ∈ es, Ent fr e) (f16 : fr.length ≤ 60) (l : es.length ≤ 60) : Okd (.list [.tuple (es.map d2)]) 4000 3 := by
  have a : ∀ e ∈ es, Okd (d2 e) (2 * (10 + 2) + 3) 1 := fun e he => by
    obtain ⟨e0, e1, n0, n1⟩ := h e he
    refine okd_tuple (n := 10) (dp := 0) (m := 2) (fun d hd => ?_) (Nat.le_refl _)
    rcases List.mem_cons.mp hd with rfl | hd
    · exact okd_int e0 (by omega)
    · rw [List.mem_singleton.mp hd]
      exact okd_int n0 (by omega)
  have b : Okd (.tuple (es.map d2)) (60 * ((2 * (10 + 2) + 3) + 2) + 3) 2 := by
    refine okd_tuple (n := 2 * (10 + 2) + 3) (dp := 1) (m := 60) (fun d hd => ?_) (by rw [List.length_map]; exact l)
    obtain ⟨e, he, rfl⟩ := List.mem_map.mp hd
    exact a e he
  refine (okd_list (n := 60 * ((2 * (10 + 2) + 3) + 2) + 3) (dp := 2) (m := 1) (fun d hd => ?_) (Nat.le_refl _)).le (by decide) (by decide)
  rw [List.mem_singleton.mp hd]
  exact b
theorem okd_W1 {ts : List Str} (h : ∀ s ∈ ts, s = "open" ∨ s = "whole" ∨ s = "mixed") (l : ts.length ≤ 61) : Okd (dW ts) 4000 3 := by
  refine (okd_tuple (n := 52) (dp := 0) (m := 61) (fun d hd => ?_) (by rw [List.length_map]; exact l)).le (by decide) (by decide)
  obtain ⟨s, hs, rfl⟩ := List.mem_map.mp hd
  refine okd_str (m := 5) ?_ ?_
  · rcases h s hs with rfl | rfl | rfl <;> decide +kernel
  · rcases h s hs with rfl | rfl | rfl <;> decide +kernel
theorem dp_wv {K : PySem.W.Frag} {H : Hp} {w : Addr} {es : List E2} (h : WvA H w es) : Dp K H (.ref w) (.tuple (es.map d2)) := by
  obtain ⟨ts, e, l, c⟩ := h
  refine .tup (SqT.of e) ?_
  have key : ∀ {es : List E2} {ts : List Addr}, ts.length = es.length → (∀ (i : Nat) t e, ts[i]? = some t → es[i]? = some e → A2 H t e) → DpAll K H (ts.map V.ref) (es.map d2) := by
    intro es
    induction es with
    | nil =>
      intro ts l c
      cases ts with
      | nil => exact .nil
      | cons t ts => cases l
    | cons x es ih =>
      intro ts l c
      cases ts with
      | nil => cases l
      | cons t ts => exact .cons (.tup (SqT.of (c 0 t x rfl rfl)) (.cons (.int _) (.cons (.int _) .nil))) (ih (by simpa using l) fun i t e h1 h2 => c (i + 1) t e (by simpa using h1) (by simpa using h2))
  exact key l c
theorem frA_len {fr : List T3} {last : Nat} (fm : Frm fr last) : fr.length ≤ 60 := by
  have := fm.l1
  omega
end K35

set_option Elab.async false
set_option linter.all false
set_option maxRecDepth 100000
set_option maxHeartbeats 8000000
/-! The law. -/
namespace K35
open PySem L2 L2.EV PySem.Spec
abbrev sLaw : Stmt := top 52
abbrev NL : List Str := ["script", "m", "turn", "framing", "writers", "weaving", "text", "found", "words", "line", "word", "entry"]
structure Lall (K : PySem.W.Frag) (mg : Str → Option Value) where
  R : Rf K mg
  tu : mg "tuple" = none
  so : mg "sorted" = none
  cO : ∃ t, mg "OPEN" = some (.str "open" t)
  fV : Addr
  dV : FuncData
  V : Fun K "verdicts" "verdicts" sVerdicts fV dV
  bV : Binds K dV ["framing", "text", "writers"] []
  mV : mg "verdicts" = some (.ref fV)
  fP : Addr
  dP : FuncData
  P : Fun K "possible" "possible" sPossible fP dP
  bP : Binds K dP ["framing", "text", "writers"] []
  mP : mg "possible" = some (.ref fP)
  fE : Addr
  dE : FuncData
  E : Fun K "explained" "explained" sExplained fE dE
  bE : Binds K dE ["framing", "text", "writers"] []
  mE : mg "explained" = some (.ref fE)
  L : Lv K mg
  S : Lsh K mg
  D : Ld K mg
  T : Lt K mg
  W : Lwh K mg
  fB : Addr
  dB : FuncData
  Be : Fun K "_law_begun" "_law_begun" sBegun fB dB
  bB : Binds K dB ["script"] []
  mB : mg "_law_begun" = some (.ref fB)
  mi : mg "min" = none
  re : mg "repr" = none
  zi : mg "zip" = none
def spLaw (K : PySem.W.Frag) : Sp := fun vs H Q _ => ∃ (a : Addr) (ns : List Int), vs = [.ref a] ∧ SqL K H a (ns.map V.int) ∧ ns.length ≤ 63 ∧ ∀ H', Q (.bl true) H'
section
variable {P : Program} {w : World} {K : PySem.W.Frag} {mg : Str → Option Value} {base : Heap}
theorem scLaw : FnScope NL ["script"] (defScope sLaw) := ⟨rfl, rfl, rfl, by decide +kernel, rfl, by decide +kernel, by decide +kernel⟩
theorem ok_law (L : Lall K mg) {f : Addr} {fd : FuncData} (F : Fun K "law" "law" sLaw f fd) : FnG P w K mg base CX0 8 f fd ["script"] (spLaw K) := by
  have GB : FnOk P w K mg base CX0 1 L.fB L.dB ["script"] (spBegun K) := ok_begun L.Be L.L.G.W.G.L.T
  have GX : FnOk P w K mg base CX0 1 L.L.G.W.G.L.f1 L.L.G.W.G.L.d1 ["m", "total"] spNext := ok_next L.L.G.W.G.L.N L.L.G.W.G.L.T
  have GF : FnOk P w K mg base CX0 3 L.L.G.W.G.f L.L.G.W.G.d ["m", "most"] spFraming := ok_framing L.L.G.W.G
  have GS : FnOk P w K mg base CX0 3 L.S.f L.S.d ["m", "framing", "writers"] spShort := ok_short L.S
  have GT : FnOk P w K mg base CX0 2 L.L.G.X.f2 L.L.G.X.d2 ["framing", "entries"] spPutT := ok_textT L.L.G.X
  have GD : FnOk P w K mg base CX0 3 L.L.f L.L.d ["framing", "text", "writers"] spVerL := ok_verL L.L
  have GU : FnOk P w K mg base CX0 2 L.D.f L.D.d ["framing", "thing"] spDueW := ok_dueW L.D
  have GLn : FnOk P w K mg base CX0 1 L.T.f3 L.T.d3 ["framing", "weaving"] spLinesL := ok_linesL L.T
  have GWh : FnOk P w K mg base CX0 1 L.W.f2 L.W.d2 ["framing", "line"] spWholeL := ok_wholeL L.W
  have GP0 : FnOk P w K mg base CX0 6 L.fP L.dP ["framing", "text", "writers"] (sp0 (spPossible L.R.C.T.G.S.Y.O.C)) := fnOk0 (ok_possible L.R.C L.P) fun _ _ _ _ h => h
  have GE0 : FnOk P w K mg base CX0 6 L.fE L.dE ["framing", "text", "writers"] (sp0 (spExplained L.R.C.T.G.S.Y.O.C)) := fnOk0 (ok_explained L.R.C L.tu L.E) fun _ _ _ _ h => h
  have GV0 : FnOk P w K mg base CX0 6 L.fV L.dV ["framing", "text", "writers"] (sp0 (spVerdicts L.R.C.T.G.S.Y.O.C)) := fnOk0 (ok_verdicts L.R L.tu L.so L.cO L.V) fun _ _ _ _ h => h
  have len := L.L.G.W.G.L.T.len
  have ra := L.L.G.W.G.L.ra
  refine okG F scLaw (fun vs H Q E h => ?_) (fun cdv A outer s H vs Q E hr hgd h => ?_)
  · obtain ⟨a, ns, rfl, _⟩ := h
    rfl
  · obtain ⟨a, ns, rfl, hS, hlen, q⟩ := h
    have gd : (A.deeper (PyProof.Rows.envOfC "law" (defScope sLaw) s.heap.objs.size f cdv)).guards = some [] := hgd
    have hu64 := hr.units
    have r1 := hr.mono (j := 1) (by decide)
    have r2 := hr.mono (j := 2) (by decide)
    have r3 := hr.mono (j := 3) (by decide)
    have r6 := hr.mono (j := 6) (by decide)
    refine ⟨_, (pss_cons (ps_set (i := 1) scLaw.nd rfl (Or.inl rfl) (pe_call GB r1 (by rfl) L.mB L.Be.kp L.bB .nil pass0 (pa_cons (pv 0) pa_nil)))
      (pss_cons (ps_for PassesOwn.never rfl (pi_range1 (by rfl) ra (pa_cons (pe_op op_add pe_int (pe_callB (call_min2 rfl) (by rfl) L.mi (by decide +kernel) (pa_cons (pe_callB call_len_seq (by rfl) len PySem.boot_len (pa_cons (pv 0) pa_nil)) (pa_cons pe_int pa_nil)))) pa_nil))
          (pg_name (i := 2) scLaw.nd rfl (Or.inl rfl))
      (pss_cons (ps_asg (pe_tup (pa_cons (pe_call GF r3 (by rfl) L.L.G.W.G.g L.L.G.W.G.F.kp L.L.G.W.G.b .nil pass0 (pa_cons (pv 1) (pa_cons pe_int pa_nil))) (pa_cons (pe_op op_add pe_int (pe_call GX r1 (by rfl) L.L.G.W.G.L.mN L.L.G.W.G.L.N.kp L.L.G.W.G.L.bN .nil pass0 (pa_cons (pv 1) (pa_cons pe_int pa_nil)))) pa_nil)))
          (pg_tup rfl (pgs_cons (pg_name (i := 3) scLaw.nd rfl (Or.inl rfl)) (pgs_cons (pg_name (i := 4) scLaw.nd rfl (Or.inr rfl)) pgs_nil))))
      (pss_cons (ps_set (i := 5) scLaw.nd rfl (Or.inl rfl) (pe_call GS r3 (by rfl) L.S.g L.S.S.kp L.S.b .nil pass0 (pa_cons (pv 1) (pa_cons (pv 3) (pa_cons (pv 4) pa_nil)))))
      (pss_cons (ps_set (i := 6) scLaw.nd rfl (Or.inl rfl) (pe_call GT r2 (by rfl) L.L.G.X.gT L.L.G.X.T.kp L.L.G.X.bT .nil pass0 (pa_cons (pv 3) (pa_cons (pv 5) pa_nil))))
      (pss_cons (ps_if (pt_cmpR op_isnot_bl (pe_call GP0 r6 (by rfl) L.mP L.P.kp L.bP .nil pass0 (pa_cons (pv 3) (pa_cons (pv 6) (pa_cons (pv 4) pa_nil)))) pe_bl (nomark _)) (pss_one (ps_ret pe_bl)) pss_nil)
      (pss_cons (ps_set (i := 7) scLaw.nd rfl (Or.inl rfl) (pe_call GE0 r6 (by rfl) L.mE L.E.kp L.bE .nil pass0 (pa_cons (pv 3) (pa_cons (pv 6) (pa_cons (pv 4) pa_nil)))))
      (pss_cons (ps_if (pw_or (pt_cmpR op_ne (pe_callB (call_showV gd hu64) (by rfl) L.re (by decide +kernel) (pa_cons (pe_call GU r2 (by rfl) L.D.g L.D.D.kp L.D.b .nil pass0 (pa_cons (pv 3) (pa_cons (pv 7) pa_nil))) pa_nil)) (pe_callB (call_showV gd hu64) (by rfl) L.re (by decide +kernel) (pa_cons (pe_lst (pa_cons (pv 7) pa_nil)) pa_nil)) (nomark _))
          (pw_or1 (pt_cmpR op_ne (pe_call GT r2 (by rfl) L.L.G.X.gT L.L.G.X.T.kp L.L.G.X.bT .nil pass0 (pa_cons (pv 3) (pa_cons (pv 7) pa_nil))) (pv 6) (nomark _)))).pt (pss_one (ps_ret pe_bl)) pss_nil)
      (pss_cons (ps_if (pt_cmpR (op_neD hu64) (pe_lc (own := [("entry", 11)]) (g := gName 11) (tt := tTest (tOp (rI0 fun i j => V.bl (decide (j ≤ i))) (tOp (rIxT K) (tVar 11) (tC (.int 0))) (tVar 4))) (te := tVar 11) rfl scLaw.nd (pi_tup (pv 7))
          (blkOk_by (N := NL) (sc := defScope sLaw) (by decide +kernel))
          (fun _ _ _ _ _ => pg_name (i := 11) scLaw.nd rfl (Or.inl rfl))
          (fun _ _ _ _ _ => pts_one (pt_cmpR op_ge (pe_ix ix_tup (pv 11) pe_int (fun _ _ => rfl)) (pv 4) (nomark _)))
          (fun _ _ _ _ _ => pv 11)) (pe_lst pa_nil) (nomark _)) (pss_one (ps_ret pe_bl)) pss_nil)
      (pss_cons (ps_set (i := 8) scLaw.nd rfl (Or.inl rfl) (pe_call GV0 r6 (by rfl) L.mV L.V.kp L.bV .nil pass0 (pa_cons (pv 3) (pa_cons (pv 6) (pa_cons (pv 4) pa_nil)))))
      (pss_cons (ps_if (pt_cmpR op_ne (pe_callB (call_showV gd hu64) (by rfl) L.re (by decide +kernel) (pa_cons (pv 8) pa_nil)) (pe_callB (call_showV gd hu64) (by rfl) L.re (by decide +kernel) (pa_cons (pe_call GD r3 (by rfl) L.L.g L.L.F.kp L.L.b .nil pass0 (pa_cons (pv 3) (pa_cons (pv 6) (pa_cons (pv 4) pa_nil)))) pa_nil)) (nomark _)) (pss_one (ps_ret pe_bl)) pss_nil)
      (pss_cons (ps_for PassesOwn.never rfl (ZM.pi_LT (by rfl) L.zi (pa_cons (pe_ix ix_tup (pe_call GLn r1 (by rfl) L.T.gL L.T.L.kp L.T.bL .nil pass0 (pa_cons (pv 3) (pa_cons (pv 5) pa_nil))) pe_int (fun _ _ => rfl)) (pa_cons (pv 8) pa_nil)))
          (pg_tup rfl (pgs_cons (pg_name (i := 9) scLaw.nd rfl (Or.inl rfl)) (pgs_cons (pg_name (i := 10) scLaw.nd rfl (Or.inl rfl)) pgs_nil)))
          (pss_one (ps_if (pt_cmpR op_eq (pv 10) (pe_ix ix_list (pe_lst (pa_cons pe_str (pa_cons pe_str pa_nil))) (pe_callTy call_int1 (by rfl) L.D.T.int (by decide +kernel) (pa_cons (pe_call GWh r1 (by rfl) L.W.gW L.W.W.kp L.W.bW .nil pass0 (pa_cons (pv 3) (pa_cons (pv 9) pa_nil))) pa_nil)) (fun _ _ => rfl)) (nomark _)) (pss_one (ps_ret pe_bl)) pss_nil)))
      (pss_one (ps_if (pw_and (pt_cmpR op_lt (pv 4) pe_int (nomark _)) (pw_and1 (pt_cmpR op_isnot_bl (pe_call GP0 r6 (by rfl) L.mP L.P.kp L.bP .nil pass0 (pa_cons (pv 3) (pa_cons (pv 6) (pa_cons pe_int pa_nil)))) pe_bl (nomark _)))).pt (pss_one (ps_ret pe_bl)) pss_nil)))))))))))))
      (pss_one (ps_ret pe_bl)))), ?_⟩
    refine ⟨_, rfl, a, ns, rfl, hS, by omega, fun m mc l0 H0 M0 hm hmc hl sm0 => ?_⟩
    have nl : (ns.map V.int).length ≤ 63 := by rw [List.length_map]; exact hlen
    refine ⟨_, rfl, a, _, rfl, .inl (sm0.seq hS), _, 4, rfl, 2, _, rfl, rfl, _, rfl, by split <;> omega, by split <;> omega, ?_⟩
    have hN : (2 + if (4 : Int) < ((ns.map V.int).length : Nat) then 4 else (((ns.map V.int).length : Nat) : Int)).toNat ≤ 9 := by split <;> omega
    generalize (2 + if (4 : Int) < ((ns.map V.int).length : Nat) then 4 else (((ns.map V.int).length : Nat) : Int)).toNat = N at hN ⊢
    refine for_it walk_range (fun i σ H' => ∃ (v2 v3 v4 v5 v6 v7 v8 v9 v10 : Option V) (l : Addr) (k : Int), σ = [some (.ref a), some (.ref m), v2, v3, v4, v5, v6, v7, v8, v9, v10, none] ∧ MAt H' m mc l k ∧ k ≤ 1000 * i)
      ⟨none, none, none, none, none, none, none, none, none, l0, 0, rfl, M0, by omega⟩ (fun _ _ _ _ _ => trivial) ?_ ?_
    · rintro i y σ H1z H1 hi ⟨v2, v3, v4, v5, v6, v7, v8, v9, v10, l1, k1, rfl, M1, kk1⟩ ⟨rfl, rfl⟩
      refine ⟨_, rfl, m, mc, l1, k1, 3, rfl, by decide, M1, by omega, fun f fr last H2 l2 k2 fa fm l12 kk2 d2 => ?_⟩
      have M2 := d2.at_
      refine ⟨_, rfl, m, mc, l2, k2, 3, rfl, M2, by decide, by decide, by omega, fun r3 H3 l3 k3 a3 b3 g3 N3 f3 q3 => ?_⟩
      have d3 : Dr H2 H3 m mc l2 l3 k3 := ⟨N3, f3, q3⟩
      have fa3 := d3.fr M2 fa
      obtain ⟨nw, hnw⟩ : ∃ nw : Nat, (1 : Int) + r3 = nw := ⟨(1 + r3).toNat, by omega⟩
      have n1 : 1 ≤ nw := by omega
      have n3 : nw ≤ 3 := by omega
      refine ⟨1, r3, rfl, rfl, (by show 2 ≤ sizeLine; decide), fun p3 np3 => ?_⟩
      have u3 := same_upd (o := HO.tup [V.ref f, V.int (1 + r3)]) np3
      have N4 := N3.same u3
      have fa4 := fa3.same u3
      refine ⟨p3, _, rfl, SqT.of upd_same, rfl, _, _, rfl, _, _, rfl, rfl, ?_⟩
      dsimp only
      rw [hnw] at N4 fa4 ⊢
      clear u3 np3
      generalize upd H3 p3 (.tup [V.ref f, V.int (nw : Int)]) = H4 at N4 fa4 ⊢
      refine ⟨_, rfl, _, rfl, _, rfl, m, mc, l3, f, k3, fr, last, nw, rfl, N4, by omega, fa4, fm, n1, by omega, fun wv es H6 l6 k6 wa wo lw le kk6 d6 => ?_⟩
      have M6 := d6.at_
      have fa6 := d6.fr N4 fa4
      have l60 := wo.l
      refine ⟨_, rfl, _, rfl, f, wv, fr, last, es, rfl, fa6, fm, wa, wo.ent, by omega, fun H7 s7 => ?_⟩
      have M7 := M6.same s7
      have fa7 := fa6.same s7
      have wa7 := wa.same s7
      have tx : TxtOk (textE fr es) := ⟨le, text_fsg fm wo.ent⟩
      have hp := wv_pos fm n3 wo lw
      have hp3 : PosL fr (textE fr es) 3 := wv_pos fm (Nat.le_refl 3) wo fun e he => by have := lw e he; omega
      obtain ⟨wl, wd⟩ := word_line fm n3 wo lw
      obtain ⟨sk, _, _, sl4⟩ := spl_ok (fr := fr) (es := es)
      clear M1 M2 M6 N3 N4 fa fa3 fa4 fa6 d2 d3 d6 wa s7
      obtain ⟨x, hx⟩ : ∃ x, textE fr es = x := ⟨_, rfl⟩
      rw [hx] at tx hp hp3 wl wd ⊢
      have x60 := tx.1
      -- possible
      refine ⟨_, rfl, _, rfl, _, rfl, fr, some (x, nw), ags_ok fa7 fm tx n1 n3, fun H8 s8 => ?_⟩
      rw [told_pt fm n3 hp]
      refine ⟨true, true, rfl, rfl, _, rfl, iteF' (by simp) ?_⟩
      have M8 := M7.same s8
      have fa8 := fa7.same s8
      have wa8 := wa7.same s8
      -- explained
      obtain ⟨fes, fst, ee, rn⟩ := (told_ex fm n3).1 hp
      refine ⟨_, rfl, _, rfl, _, rfl, fr, some (x, nw), ags_ok fa8 fm tx n1 n3, ?_⟩
      show match exF fr x nw with
        | none => _
        | some es => _
      rw [ee]
      intro H9 pf s9 wf
      have M9 := M8.same s9
      have fa9 := fa8.same s9
      have wa9 := wa8.same s9
      have rl := run_len fm rn
      have Wf : Wv fr fes := run_wv (by omega) rn (by omega)
      have ents := Wf.ent
      have flw : ∀ e ∈ fes, e.1 < nw := fun e he => ((run_text rn).2 e he).2.1
      have ow := okd_wv ents (frA_len fm) Wf.l
      -- the law's look at it
      refine ⟨_, rfl, _, rfl, f, pf, fr, last, fes, rfl, fa9, fm, wf, Wf, fun H10 p10 s10 e10 => ?_⟩
      refine ⟨.ref p10, .list [.tuple (fes.map d2)], rfl, .lst (xs := [V.ref pf]) (SqL.of e10) (.cons (dp_wv (wf.same s10)) .nil), ow.sh, ow.nd, Nat.le_trans ow.sz (by rw [sizeLine_eq]; decide), Nat.le_trans ow.dp (by decide), ?_⟩
      refine ⟨_, rfl, (by show 1 ≤ sizeLine; decide), fun p11 n11 => ?_⟩
      have u11 := same_upd (o := HO.lst [V.ref pf]) n11
      have s11 := s10.trans u11
      refine ⟨.ref p11, .list [.tuple (fes.map d2)], rfl, .lst (xs := [V.ref pf]) (SqL.of upd_same) (.cons (dp_wv (wf.same s11)) .nil), ow.sh, ow.nd, Nat.le_trans ow.sz (by rw [sizeLine_eq]; decide), Nat.le_trans ow.dp (by decide), rfl, _, rfl, iteF' (by simp) ?_⟩
      have M11 := M9.same s11
      have fa11 := fa9.same s11
      have wa11 := wa9.same s11
      have wf11 := wf.same s11
      clear M7 M8 M9 fa7 fa8 fa9 wa7 wa8 wa9
      generalize upd H10 p11 (.lst [V.ref pf]) = H11 at M11 fa11 wa11 wf11 ⊢
      refine ⟨_, rfl, _, rfl, f, pf, fr, last, fes, rfl, fa11, fm, wf11, ents, by omega, fun H12 s12 => ?_⟩
      rw [run_textE rn]
      refine ⟨_, rfl, rfl, _, rfl, iteF' (by simp) ?_⟩
      have M12 := M11.same s12
      have fa12 := fa11.same s12
      have wa12 := wa11.same s12
      have wf12 := wf11.same s12
      obtain ⟨tw, hw, twl, twt⟩ := id wf12
      refine ⟨_, rfl, pf, rfl, ⟨_, SqT.of hw⟩, fun D hD => ?_⟩
      refine lc_it (walk_tup (xs := tw.map V.ref)) (fun i H' => H' D = some (.lst []) ∧ Same H12 H') ⟨upd_same, same_upd hD⟩ (fun i H' _ z => SqT.of (z.2 _ _ hw)) ?_ ?_
      · rintro j xv H13 H14 hj ⟨hl, kp⟩ ⟨rfl, hxv⟩
        obtain ⟨t, e, he, _, rfl, e4⟩ := at_ent (i := j) twl twt hxv
        refine ⟨rfl, ?_⟩
        refine ⟨_, rfl, t, _, 0, _, rfl, rfl, SqT.of (kp _ _ e4), atI_nat (j := 0) rfl, _, rfl, e.1, nw, rfl, rfl, _, rfl, iteF' (decide_eq_false (by have := flw e (List.mem_of_getElem? he); omega)) ⟨hl, kp⟩⟩
      · rintro H13 ⟨hl, s13⟩
        refine ⟨(by show 0 ≤ sizeLine; decide), fun p13 n13 => ?_⟩
        have u13 := same_upd (o := HO.lst []) n13
        refine ⟨.list [], .list [], .lst (SqL.of (u13 _ _ hl)) .nil, .lst (SqL.of upd_same) .nil, shaped_nil, shaped_nil, _, rfl, iteF' (by rfl) ?_⟩
        have M13 := M12.same (s13.trans u13)
        have fa13 := fa12.same (s13.trans u13)
        have wa13 := wa12.same (s13.trans u13)
        clear M12 M11 fa12 fa11 wa12 wa11 wf12 wf11 hl
        generalize upd H13 p13 (.lst []) = H14 at M13 fa13 wa13 ⊢
        -- verdicts
        refine ⟨_, rfl, _, rfl, _, rfl, fr, some (x, nw), ags_ok fa13 fm tx n1 n3, ?_⟩
        rw [show ((some (x, nw)).bind fun q => verF fr q.1 q.2) = verF fr x nw from rfl, told_vt fm n3 hp]
        intro H15 pw s15 e15
        have ov := okd_W1 (words_three (fr := fr) (x := x) (nw := nw)) (words_len x60)
        refine ⟨_, rfl, .ref pw, dW (wordsL fr x nw), rfl, dp_W e15, ov.sh, ov.nd, Nat.le_trans ov.sz (by rw [sizeLine_eq]; decide), Nat.le_trans ov.dp (by decide), ?_⟩
        refine ⟨_, rfl, _, rfl, _, rfl, f, fr, last, x, nw, rfl, fa13.same s15, fm, x60, n1, n3, (fun _ H16 pd s16 e16 => ?_), (fun np => absurd hp np)⟩
        have e16 : H16 pd = some (.tup ((wordsL fr x nw).map V.str)) := e16
        refine ⟨.ref pd, dW (wordsL fr x nw), rfl, dp_W e16, ov.sh, ov.nd, Nat.le_trans ov.sz (by rw [sizeLine_eq]; decide), Nat.le_trans ov.dp (by decide), rfl, _, rfl, iteF' (by simp) ?_⟩
        have M16 := M13.same (s15.trans s16)
        have fa16 := fa13.same (s15.trans s16)
        have wa16 := wa13.same (s15.trans s16)
        have e15' := s16 _ _ e15
        -- the lines
        refine ⟨_, rfl, _, rfl, f, wv, fr, last, es, rfl, fa16, fm, wa16, wo, fun H17 p q r qs s17 ep eq ql qp er => ?_⟩
        refine ⟨p, _, 0, .ref q, rfl, rfl, SqT.of ep, atI_nat (j := 0) rfl, _, rfl, q, pw, _, _, rfl, SqL.of eq, SqT.of (s17 _ _ e15'), ?_⟩
        refine for_it (ZM.walk_LT (n := qs.length) (by rw [List.length_map, List.length_map, wl, ← ql, Nat.min_self])) (fun j σ H' => ∃ v9 v10 : Option V, σ = [some (.ref a), some (.ref m), _, some (.ref f), some (.int (nw : Int)), some (.ref wv), some (.str x), some (.ref pf), some (.ref pw), v9, v10, none] ∧ Same H17 H')
          ⟨_, _, rfl, Same.refl _⟩ (fun i σ H' _ ⟨_, _, _, z⟩ => ⟨SqL.of (z _ _ eq), SqT.of (z _ _ (s17 _ _ e15'))⟩) ?_ ?_
        · rintro j y σ H18 H19 hj ⟨v9, v10, rfl, s18⟩ ⟨T, xl, xw, rfl, nT, rfl, g1, g2⟩
          have g1 : (qs.map V.ref)[j]? = some xl := g1
          have g2 : ((wordsL fr x nw).map V.str)[j]? = some xw := g2
          obtain ⟨qa, hqa, rfl⟩ : ∃ qa, qs[j]? = some qa ∧ xl = .ref qa := by
            rw [List.getElem?_map] at g1
            cases z : qs[j]? with
            | none => rw [z] at g1; cases g1
            | some qa => rw [z] at g1; exact ⟨qa, rfl, (Option.some.inj g1).symm⟩
          obtain ⟨sw, hsw, rfl⟩ : ∃ sw, (wordsL fr x nw)[j]? = some sw ∧ xw = .str sw := by
            rw [List.getElem?_map] at g2
            cases z : (wordsL fr x nw)[j]? with
            | none => rw [z] at g2; cases g2
            | some sw => rw [z] at g2; exact ⟨sw, rfl, (Option.some.inj g2).symm⟩
          have hln := List.getElem?_eq_getElem (show j < (spl fr es).1.length by rw [← ql]; exact hj)
          generalize (spl fr es).1[j]'(by rw [← ql]; exact hj) = ln at hln
          obtain ⟨sn, sm, sle⟩ := sk _ (List.mem_of_getElem? hln)
          have ne := wd j _ sw hln hsw
          have wl2 := qp j qa _ hqa hln
          have uT := same_upd (o := HO.tup [V.ref qa, V.str sw]) nT
          refine ⟨T, _, rfl, SqT.of upd_same, rfl, _, _, rfl, _, _, rfl, rfl, ?_⟩
          have s19 := s18.trans uT
          clear uT
          generalize upd H18 T (.tup [V.ref qa, V.str sw]) = H20 at s19 ⊢
          refine ⟨_, rfl, (by show 2 ≤ sizeLine; decide), fun pl npl => ?_⟩
          have ul := same_upd (o := HO.lst [V.str "whole", V.str "mixed"]) npl
          refine ⟨_, rfl, _, rfl, f, qa, fr, ln, rfl, fa16.same (s17.trans (s19.trans ul)), wl2.same (s19.trans ul), (fun e he => wo.ent e (sm e he)), sn, by omega, fun H21 s21 => ?_⟩
          cases hw2 : wholeE fr ln with
          | true =>
            rw [hw2] at ne
            refine .inr ⟨true, rfl, pl, _, 1, .str "mixed", rfl, rfl, SqL.of (s21 _ _ upd_same), atI_nat (j := 1) rfl, rfl, _, rfl, iteF' (decide_eq_false fun z => ne (V.str.inj z)) ?_⟩
            exact ⟨_, _, rfl, s19.trans (ul.trans s21)⟩
          | false =>
            rw [hw2] at ne
            refine .inr ⟨false, rfl, pl, _, 0, .str "whole", rfl, rfl, SqL.of (s21 _ _ upd_same), atI_nat (j := 0) rfl, rfl, _, rfl, iteF' (decide_eq_false fun z => ne (V.str.inj z)) ?_⟩
            exact ⟨_, _, rfl, s19.trans (ul.trans s21)⟩
        · rintro σ H18 ⟨v9, v10, rfl, s18⟩
          have M18 := M16.same (s17.trans s18)
          have fa18 := fa16.same (s17.trans s18)
          refine ⟨_, rfl, nw, 3, rfl, rfl, _, rfl, ?_⟩
          by_cases c : nw < 3
          · refine iteT' (decide_eq_true (by omega)) ?_
            refine ⟨_, rfl, _, rfl, fr, some (x, 3), ags_ok fa18 fm tx (by decide) (by decide), fun H20 s20 => ?_⟩
            rw [told_pt fm (by decide) hp3]
            refine ⟨true, true, rfl, rfl, _, rfl, iteF' (by simp) ?_⟩
            exact ⟨_, _, _, _, _, _, _, _, _, l6, k6, rfl, M18.same s20, by push_cast; omega⟩
          · refine iteF' (decide_eq_false (by omega)) ?_
            exact ⟨_, _, _, _, _, _, _, _, _, l6, k6, rfl, M18, by push_cast; omega⟩
    · rintro σ HE ⟨v2, v3, v4, v5, v6, v7, v8, v9, v10, l, k, rfl, ME, kkE⟩
      exact q HE
end
end K35

set_option Elab.async false
set_option linter.all false
set_option maxRecDepth 100000
set_option maxHeartbeats 8000000
/-! What the top has written. -/
namespace K35
open PySem L2 L2.EV PySem.Spec PyProof.Rows
theorem oxc {K : PySem.W.Frag} {C N : Addr} {nm q : Str} {bs : List Value} {sn : List Str} {sub : List Value} {ab : Bool} {col : Option Bool} {dd : Option Addr} {k0 k1 k2 k3 k5 : Option Value} {B newId initId : String} {bm : List Value}
    (cl : K.lookup C = some (excClassObj nm q C N bs bm true sn sub ab col dd k0 k1 k2 k3 k5 newId)) (F : ExcBaseFacts B newId initId bm) (pas : ∀ self, refuseLoop self "__setattr__" bm = pure ()) (obj : bm.contains (.type "object") = true)
    (sa : PySem.W.findIn K (.ref C) "__setattr__" = some (some (.builtin "object.__setattr__"))) (ga : PySem.W.findIn K (.ref C) "__getattribute__" = some (some (.builtin "BaseException.__getattribute__")))
    (gg : PySem.W.findIn K (.ref C) "__getattr__" = some none) (exC : PySem.W.subIn K (.ref C) (.type "BaseException") = some true) (kC : PySem.W.keepIn K (.ref C) = true) (hd : PySem.W.hasDictIn K C = true)
    (ca : PySem.W.findIn K (.ref C) "__class__" = some (some (.builtin "object.__class__"))) (cn : PySem.W.specialIn K (.builtin "object.__class__") "__get__" = some (some (.builtin "getset_descriptor.__get__")))
    (ct : PySem.W.takesIn K (.builtin "object.__class__") = some true) (om : PySem.W.mroIn K C (.type "object") = some true) : OxC K C B newId initId bm :=
  ⟨F, ⟨nm, q, N, bs, sn, sub, ab, col, dd, k0, k1, k2, k3, k5, cl⟩, pas, obj, sa, ga, gg, exC, kC, hd, ca, cn, ct, om⟩
theorem all_mk {P : Program} {w : World} {K : PySem.W.Frag} {h : Heap} {mg : Str → Option Value} {fa f_inj D4 f_iN f_iP f_iS f_iL f_iW f_iJ f_iF f_vT f_vW f_vF f_vM f_vS f_vR f_vC f_vP f_vE f_vD f_vV f_eM f_lB f_lN f_lP f_lF f_lR f_lW f_lQ f_lT f_lG f_lS f_lV f_lI f_lL f_lJ f_lD f_lK f_la : Addr}
    {od_iN an_iN : Option Addr} {sl_iN : Array (Option Value)} {oc_iN kV_iN dc_iN pm_iN cd_iN ct_iN : Value}
    {od_iP an_iP : Option Addr} {sl_iP : Array (Option Value)} {oc_iP kV_iP dc_iP pm_iP cd_iP ct_iP : Value}
    {od_iS an_iS : Option Addr} {sl_iS : Array (Option Value)} {oc_iS kV_iS dc_iS pm_iS cd_iS ct_iS : Value}
    {od_iL an_iL : Option Addr} {sl_iL : Array (Option Value)} {oc_iL kV_iL dc_iL pm_iL cd_iL ct_iL : Value}
    {od_iW an_iW : Option Addr} {sl_iW : Array (Option Value)} {oc_iW kV_iW dc_iW pm_iW cd_iW ct_iW : Value}
    {od_iJ an_iJ : Option Addr} {sl_iJ : Array (Option Value)} {oc_iJ kV_iJ dc_iJ pm_iJ cd_iJ ct_iJ : Value}
    {od_iF an_iF : Option Addr} {sl_iF : Array (Option Value)} {oc_iF kV_iF dc_iF pm_iF cd_iF ct_iF : Value}
    {od_vT an_vT : Option Addr} {sl_vT : Array (Option Value)} {oc_vT kV_vT dc_vT pm_vT cd_vT ct_vT : Value}
    {od_vW an_vW : Option Addr} {sl_vW : Array (Option Value)} {oc_vW kV_vW dc_vW pm_vW cd_vW ct_vW : Value}
    {od_vF an_vF : Option Addr} {sl_vF : Array (Option Value)} {oc_vF kV_vF dc_vF pm_vF cd_vF ct_vF : Value}
    {od_vM an_vM : Option Addr} {sl_vM : Array (Option Value)} {oc_vM kV_vM dc_vM pm_vM cd_vM ct_vM : Value}
    {od_vS an_vS : Option Addr} {sl_vS : Array (Option Value)} {oc_vS kV_vS dc_vS pm_vS cd_vS ct_vS : Value}
    {od_vR an_vR : Option Addr} {sl_vR : Array (Option Value)} {oc_vR kV_vR dc_vR pm_vR cd_vR ct_vR : Value}
    {od_vC an_vC : Option Addr} {sl_vC : Array (Option Value)} {oc_vC kV_vC dc_vC pm_vC cd_vC ct_vC : Value}
    {od_vP an_vP : Option Addr} {sl_vP : Array (Option Value)} {oc_vP kV_vP dc_vP pm_vP cd_vP ct_vP : Value}
    {od_vE an_vE : Option Addr} {sl_vE : Array (Option Value)} {oc_vE kV_vE dc_vE pm_vE cd_vE ct_vE : Value}
    {od_vD an_vD : Option Addr} {sl_vD : Array (Option Value)} {oc_vD kV_vD dc_vD pm_vD cd_vD ct_vD : Value}
    {od_vV an_vV : Option Addr} {sl_vV : Array (Option Value)} {oc_vV kV_vV dc_vV pm_vV cd_vV ct_vV : Value}
    {od_eM an_eM : Option Addr} {sl_eM : Array (Option Value)} {oc_eM kV_eM dc_eM pm_eM cd_eM ct_eM : Value}
    {od_lB an_lB : Option Addr} {sl_lB : Array (Option Value)} {oc_lB kV_lB dc_lB pm_lB cd_lB ct_lB : Value}
    {od_lN an_lN : Option Addr} {sl_lN : Array (Option Value)} {oc_lN kV_lN dc_lN pm_lN cd_lN ct_lN : Value}
    {od_lP an_lP : Option Addr} {sl_lP : Array (Option Value)} {oc_lP kV_lP dc_lP pm_lP cd_lP ct_lP : Value}
    {od_lF an_lF : Option Addr} {sl_lF : Array (Option Value)} {oc_lF kV_lF dc_lF pm_lF cd_lF ct_lF : Value}
    {od_lR an_lR : Option Addr} {sl_lR : Array (Option Value)} {oc_lR kV_lR dc_lR pm_lR cd_lR ct_lR : Value}
    {od_lW an_lW : Option Addr} {sl_lW : Array (Option Value)} {oc_lW kV_lW dc_lW pm_lW cd_lW ct_lW : Value}
    {od_lQ an_lQ : Option Addr} {sl_lQ : Array (Option Value)} {oc_lQ kV_lQ dc_lQ pm_lQ cd_lQ ct_lQ : Value}
    {od_lT an_lT : Option Addr} {sl_lT : Array (Option Value)} {oc_lT kV_lT dc_lT pm_lT cd_lT ct_lT : Value}
    {od_lG an_lG : Option Addr} {sl_lG : Array (Option Value)} {oc_lG kV_lG dc_lG pm_lG cd_lG ct_lG : Value}
    {od_lS an_lS : Option Addr} {sl_lS : Array (Option Value)} {oc_lS kV_lS dc_lS pm_lS cd_lS ct_lS : Value}
    {od_lV an_lV : Option Addr} {sl_lV : Array (Option Value)} {oc_lV kV_lV dc_lV pm_lV cd_lV ct_lV : Value}
    {od_lI an_lI : Option Addr} {sl_lI : Array (Option Value)} {oc_lI kV_lI dc_lI pm_lI cd_lI ct_lI : Value}
    {od_lL an_lL : Option Addr} {sl_lL : Array (Option Value)} {oc_lL kV_lL dc_lL pm_lL cd_lL ct_lL : Value}
    {od_lJ an_lJ : Option Addr} {sl_lJ : Array (Option Value)} {oc_lJ kV_lJ dc_lJ pm_lJ cd_lJ ct_lJ : Value}
    {od_lD an_lD : Option Addr} {sl_lD : Array (Option Value)} {oc_lD kV_lD dc_lD pm_lD cd_lD ct_lD : Value}
    {od_lK an_lK : Option Addr} {sl_lK : Array (Option Value)} {oc_lK kV_lK dc_lK pm_lK cd_lK ct_lK : Value}
    {od_la an_la : Option Addr} {sl_la : Array (Option Value)} {oc_la kV_la dc_la pm_la cd_la ct_la : Value}
    {od_inj an_inj : Option Addr} {sl_inj : Array (Option Value)} {oc_inj kV_inj dc_inj pm_inj cd_inj ct_inj : Value}
    {t_cS : Tok}
    {t_cM : Tok}
    {t_cT : Tok}
    {t_cD : Tok}
    {t_cK : Tok}
    {t_w1 : Tok}
    {t_w2 : Tok}
    {t_w3 : Tok}
    {t_w4 : Tok}
    {t_w5 : Tok}
    {t_w6 : Tok}
    (X : K.In h) (G : h.Ns mainGlobals mg) (hfa : mg "law" = some (.ref fa))
    (a_iN : PySem.W.nsIn K mainGlobals "is_number" = some (some (.ref f_iN)))
    (l_iN : K.lookup f_iN = some ⟨oc_iN, od_iN, .func (PySem.W.fnOf "is_number" "is_number" (defArgs sNum) (defBody sNum) (defScope sNum) .none kV_iN dc_iN pm_iN an_iN cd_iN ct_iN), sl_iN⟩) (c_iN : PySem.W.codeIn K cd_iN "is_number" = true) (k_iN : PySem.W.keepIn K (.ref f_iN) = true)
    (a_iP : PySem.W.nsIn K mainGlobals "is_piece" = some (some (.ref f_iP)))
    (l_iP : K.lookup f_iP = some ⟨oc_iP, od_iP, .func (PySem.W.fnOf "is_piece" "is_piece" (defArgs sPc) (defBody sPc) (defScope sPc) .none kV_iP dc_iP pm_iP an_iP cd_iP ct_iP), sl_iP⟩) (c_iP : PySem.W.codeIn K cd_iP "is_piece" = true) (k_iP : PySem.W.keepIn K (.ref f_iP) = true)
    (a_iS : PySem.W.nsIn K mainGlobals "is_step" = some (some (.ref f_iS)))
    (l_iS : K.lookup f_iS = some ⟨oc_iS, od_iS, .func (PySem.W.fnOf "is_step" "is_step" (defArgs sStep) (defBody sStep) (defScope sStep) .none kV_iS dc_iS pm_iS an_iS cd_iS ct_iS), sl_iS⟩) (c_iS : PySem.W.codeIn K cd_iS "is_step" = true) (k_iS : PySem.W.keepIn K (.ref f_iS) = true)
    (a_iL : PySem.W.nsIn K mainGlobals "listed_standings" = some (some (.ref f_iL)))
    (l_iL : K.lookup f_iL = some ⟨oc_iL, od_iL, .func (PySem.W.fnOf "listed_standings" "listed_standings" (defArgs sListed) (defBody sListed) (defScope sListed) .none kV_iL dc_iL pm_iL an_iL cd_iL ct_iL), sl_iL⟩) (c_iL : PySem.W.codeIn K cd_iL "listed_standings" = true) (k_iL : PySem.W.keepIn K (.ref f_iL) = true)
    (a_iW : PySem.W.nsIn K mainGlobals "ways_from" = some (some (.ref f_iW)))
    (l_iW : K.lookup f_iW = some ⟨oc_iW, od_iW, .func (PySem.W.fnOf "ways_from" "ways_from" (defArgs sWays) (defBody sWays) (defScope sWays) .none kV_iW dc_iW pm_iW an_iW cd_iW ct_iW), sl_iW⟩) (c_iW : PySem.W.codeIn K cd_iW "ways_from" = true) (k_iW : PySem.W.keepIn K (.ref f_iW) = true)
    (a_iJ : PySem.W.nsIn K mainGlobals "is_joined" = some (some (.ref f_iJ)))
    (l_iJ : K.lookup f_iJ = some ⟨oc_iJ, od_iJ, .func (PySem.W.fnOf "is_joined" "is_joined" (defArgs sJoined) (defBody sJoined) (defScope sJoined) .none kV_iJ dc_iJ pm_iJ an_iJ cd_iJ ct_iJ), sl_iJ⟩) (c_iJ : PySem.W.codeIn K cd_iJ "is_joined" = true) (k_iJ : PySem.W.keepIn K (.ref f_iJ) = true)
    (a_iF : PySem.W.nsIn K mainGlobals "need_framing" = some (some (.ref f_iF)))
    (l_iF : K.lookup f_iF = some ⟨oc_iF, od_iF, .func (PySem.W.fnOf "need_framing" "need_framing" (defArgs sNeedF) (defBody sNeedF) (defScope sNeedF) .none kV_iF dc_iF pm_iF an_iF cd_iF ct_iF), sl_iF⟩) (c_iF : PySem.W.codeIn K cd_iF "need_framing" = true) (k_iF : PySem.W.keepIn K (.ref f_iF) = true)
    (a_vT : PySem.W.nsIn K mainGlobals "need_file_text" = some (some (.ref f_vT)))
    (l_vT : K.lookup f_vT = some ⟨oc_vT, od_vT, .func (PySem.W.fnOf "need_file_text" "need_file_text" (defArgs sNFT) (defBody sNFT) (defScope sNFT) .none kV_vT dc_vT pm_vT an_vT cd_vT ct_vT), sl_vT⟩) (c_vT : PySem.W.codeIn K cd_vT "need_file_text" = true) (k_vT : PySem.W.keepIn K (.ref f_vT) = true)
    (a_vW : PySem.W.nsIn K mainGlobals "need_few_writers" = some (some (.ref f_vW)))
    (l_vW : K.lookup f_vW = some ⟨oc_vW, od_vW, .func (PySem.W.fnOf "need_few_writers" "need_few_writers" (defArgs sNFW) (defBody sNFW) (defScope sNFW) .none kV_vW dc_vW pm_vW an_vW cd_vW ct_vW), sl_vW⟩) (c_vW : PySem.W.codeIn K cd_vW "need_few_writers" = true) (k_vW : PySem.W.keepIn K (.ref f_vW) = true)
    (a_vF : PySem.W.nsIn K mainGlobals "fits_at" = some (some (.ref f_vF)))
    (l_vF : K.lookup f_vF = some ⟨oc_vF, od_vF, .func (PySem.W.fnOf "fits_at" "fits_at" (defArgs sFits) (defBody sFits) (defScope sFits) .none kV_vF dc_vF pm_vF an_vF cd_vF ct_vF), sl_vF⟩) (c_vF : PySem.W.codeIn K cd_vF "fits_at" = true) (k_vF : PySem.W.keepIn K (.ref f_vF) = true)
    (a_vM : PySem.W.nsIn K mainGlobals "maker_behind" = some (some (.ref f_vM)))
    (l_vM : K.lookup f_vM = some ⟨oc_vM, od_vM, .func (PySem.W.fnOf "maker_behind" "maker_behind" (defArgs sMaker) (defBody sMaker) (defScope sMaker) .none kV_vM dc_vM pm_vM an_vM cd_vM ct_vM), sl_vM⟩) (c_vM : PySem.W.codeIn K cd_vM "maker_behind" = true) (k_vM : PySem.W.keepIn K (.ref f_vM) = true)
    (a_vS : PySem.W.nsIn K mainGlobals "state_behind" = some (some (.ref f_vS)))
    (l_vS : K.lookup f_vS = some ⟨oc_vS, od_vS, .func (PySem.W.fnOf "state_behind" "state_behind" (defArgs sState) (defBody sState) (defScope sState) .none kV_vS dc_vS pm_vS an_vS cd_vS ct_vS), sl_vS⟩) (c_vS : PySem.W.codeIn K cd_vS "state_behind" = true) (k_vS : PySem.W.keepIn K (.ref f_vS) = true)
    (a_vR : PySem.W.nsIn K mainGlobals "traces" = some (some (.ref f_vR)))
    (l_vR : K.lookup f_vR = some ⟨oc_vR, od_vR, .func (PySem.W.fnOf "traces" "traces" (defArgs sTraces) (defBody sTraces) (defScope sTraces) .none kV_vR dc_vR pm_vR an_vR cd_vR ct_vR), sl_vR⟩) (c_vR : PySem.W.codeIn K cd_vR "traces" = true) (k_vR : PySem.W.keepIn K (.ref f_vR) = true)
    (a_vC : PySem.W.nsIn K mainGlobals "checked_traces" = some (some (.ref f_vC)))
    (l_vC : K.lookup f_vC = some ⟨oc_vC, od_vC, .func (PySem.W.fnOf "checked_traces" "checked_traces" (defArgs sChecked) (defBody sChecked) (defScope sChecked) .none kV_vC dc_vC pm_vC an_vC cd_vC ct_vC), sl_vC⟩) (c_vC : PySem.W.codeIn K cd_vC "checked_traces" = true) (k_vC : PySem.W.keepIn K (.ref f_vC) = true)
    (a_vP : PySem.W.nsIn K mainGlobals "possible" = some (some (.ref f_vP)))
    (l_vP : K.lookup f_vP = some ⟨oc_vP, od_vP, .func (PySem.W.fnOf "possible" "possible" (defArgs sPossible) (defBody sPossible) (defScope sPossible) .none kV_vP dc_vP pm_vP an_vP cd_vP ct_vP), sl_vP⟩) (c_vP : PySem.W.codeIn K cd_vP "possible" = true) (k_vP : PySem.W.keepIn K (.ref f_vP) = true)
    (a_vE : PySem.W.nsIn K mainGlobals "explained" = some (some (.ref f_vE)))
    (l_vE : K.lookup f_vE = some ⟨oc_vE, od_vE, .func (PySem.W.fnOf "explained" "explained" (defArgs sExplained) (defBody sExplained) (defScope sExplained) .none kV_vE dc_vE pm_vE an_vE cd_vE ct_vE), sl_vE⟩) (c_vE : PySem.W.codeIn K cd_vE "explained" = true) (k_vE : PySem.W.keepIn K (.ref f_vE) = true)
    (a_vD : PySem.W.nsIn K mainGlobals "words_read" = some (some (.ref f_vD)))
    (l_vD : K.lookup f_vD = some ⟨oc_vD, od_vD, .func (PySem.W.fnOf "words_read" "words_read" (defArgs sWords) (defBody sWords) (defScope sWords) .none kV_vD dc_vD pm_vD an_vD cd_vD ct_vD), sl_vD⟩) (c_vD : PySem.W.codeIn K cd_vD "words_read" = true) (k_vD : PySem.W.keepIn K (.ref f_vD) = true)
    (a_vV : PySem.W.nsIn K mainGlobals "verdicts" = some (some (.ref f_vV)))
    (l_vV : K.lookup f_vV = some ⟨oc_vV, od_vV, .func (PySem.W.fnOf "verdicts" "verdicts" (defArgs sVerdicts) (defBody sVerdicts) (defScope sVerdicts) .none kV_vV dc_vV pm_vV an_vV cd_vV ct_vV), sl_vV⟩) (c_vV : PySem.W.codeIn K cd_vV "verdicts" = true) (k_vV : PySem.W.keepIn K (.ref f_vV) = true)
    (a_eM : PySem.W.nsIn K mainGlobals "message" = some (some (.ref f_eM)))
    (l_eM : K.lookup f_eM = some ⟨oc_eM, od_eM, .func (PySem.W.fnOf "message" "message" (defArgs sMsg) (defBody sMsg) (defScope sMsg) .none kV_eM dc_eM pm_eM an_eM cd_eM ct_eM), sl_eM⟩) (c_eM : PySem.W.codeIn K cd_eM "message" = true) (k_eM : PySem.W.keepIn K (.ref f_eM) = true)
    (a_lB : PySem.W.nsIn K mainGlobals "_law_begun" = some (some (.ref f_lB)))
    (l_lB : K.lookup f_lB = some ⟨oc_lB, od_lB, .func (PySem.W.fnOf "_law_begun" "_law_begun" (defArgs sBegun) (defBody sBegun) (defScope sBegun) .none kV_lB dc_lB pm_lB an_lB cd_lB ct_lB), sl_lB⟩) (c_lB : PySem.W.codeIn K cd_lB "_law_begun" = true) (k_lB : PySem.W.keepIn K (.ref f_lB) = true)
    (a_lN : PySem.W.nsIn K mainGlobals "_law_next" = some (some (.ref f_lN)))
    (l_lN : K.lookup f_lN = some ⟨oc_lN, od_lN, .func (PySem.W.fnOf "_law_next" "_law_next" (defArgs sNext) (defBody sNext) (defScope sNext) .none kV_lN dc_lN pm_lN an_lN cd_lN ct_lN), sl_lN⟩) (c_lN : PySem.W.codeIn K cd_lN "_law_next" = true) (k_lN : PySem.W.keepIn K (.ref f_lN) = true)
    (a_lP : PySem.W.nsIn K mainGlobals "_law_piece" = some (some (.ref f_lP)))
    (l_lP : K.lookup f_lP = some ⟨oc_lP, od_lP, .func (PySem.W.fnOf "_law_piece" "_law_piece" (defArgs sPiece) (defBody sPiece) (defScope sPiece) .none kV_lP dc_lP pm_lP an_lP cd_lP ct_lP), sl_lP⟩) (c_lP : PySem.W.codeIn K cd_lP "_law_piece" = true) (k_lP : PySem.W.keepIn K (.ref f_lP) = true)
    (a_lF : PySem.W.nsIn K mainGlobals "_law_framing" = some (some (.ref f_lF)))
    (l_lF : K.lookup f_lF = some ⟨oc_lF, od_lF, .func (PySem.W.fnOf "_law_framing" "_law_framing" (defArgs sFraming) (defBody sFraming) (defScope sFraming) .none kV_lF dc_lF pm_lF an_lF cd_lF ct_lF), sl_lF⟩) (c_lF : PySem.W.codeIn K cd_lF "_law_framing" = true) (k_lF : PySem.W.keepIn K (.ref f_lF) = true)
    (a_lR : PySem.W.nsIn K mainGlobals "_law_from" = some (some (.ref f_lR)))
    (l_lR : K.lookup f_lR = some ⟨oc_lR, od_lR, .func (PySem.W.fnOf "_law_from" "_law_from" (defArgs sFrom) (defBody sFrom) (defScope sFrom) .none kV_lR dc_lR pm_lR an_lR cd_lR ct_lR), sl_lR⟩) (c_lR : PySem.W.codeIn K cd_lR "_law_from" = true) (k_lR : PySem.W.keepIn K (.ref f_lR) = true)
    (a_lW : PySem.W.nsIn K mainGlobals "_law_weaving" = some (some (.ref f_lW)))
    (l_lW : K.lookup f_lW = some ⟨oc_lW, od_lW, .func (PySem.W.fnOf "_law_weaving" "_law_weaving" (defArgs sWeave) (defBody sWeave) (defScope sWeave) .none kV_lW dc_lW pm_lW an_lW cd_lW ct_lW), sl_lW⟩) (c_lW : PySem.W.codeIn K cd_lW "_law_weaving" = true) (k_lW : PySem.W.keepIn K (.ref f_lW) = true)
    (a_lQ : PySem.W.nsIn K mainGlobals "_law_put" = some (some (.ref f_lQ)))
    (l_lQ : K.lookup f_lQ = some ⟨oc_lQ, od_lQ, .func (PySem.W.fnOf "_law_put" "_law_put" (defArgs sPutL) (defBody sPutL) (defScope sPutL) .none kV_lQ dc_lQ pm_lQ an_lQ cd_lQ ct_lQ), sl_lQ⟩) (c_lQ : PySem.W.codeIn K cd_lQ "_law_put" = true) (k_lQ : PySem.W.keepIn K (.ref f_lQ) = true)
    (a_lT : PySem.W.nsIn K mainGlobals "_law_text" = some (some (.ref f_lT)))
    (l_lT : K.lookup f_lT = some ⟨oc_lT, od_lT, .func (PySem.W.fnOf "_law_text" "_law_text" (defArgs sTextL) (defBody sTextL) (defScope sTextL) .none kV_lT dc_lT pm_lT an_lT cd_lT ct_lT), sl_lT⟩) (c_lT : PySem.W.codeIn K cd_lT "_law_text" = true) (k_lT : PySem.W.keepIn K (.ref f_lT) = true)
    (a_lG : PySem.W.nsIn K mainGlobals "_law_grown" = some (some (.ref f_lG)))
    (l_lG : K.lookup f_lG = some ⟨oc_lG, od_lG, .func (PySem.W.fnOf "_law_grown" "_law_grown" (defArgs sGrown) (defBody sGrown) (defScope sGrown) .none kV_lG dc_lG pm_lG an_lG cd_lG ct_lG), sl_lG⟩) (c_lG : PySem.W.codeIn K cd_lG "_law_grown" = true) (k_lG : PySem.W.keepIn K (.ref f_lG) = true)
    (a_lS : PySem.W.nsIn K mainGlobals "_law_segments" = some (some (.ref f_lS)))
    (l_lS : K.lookup f_lS = some ⟨oc_lS, od_lS, .func (PySem.W.fnOf "_law_segments" "_law_segments" (defArgs sSegs) (defBody sSegs) (defScope sSegs) .none kV_lS dc_lS pm_lS an_lS cd_lS ct_lS), sl_lS⟩) (c_lS : PySem.W.codeIn K cd_lS "_law_segments" = true) (k_lS : PySem.W.keepIn K (.ref f_lS) = true)
    (a_lV : PySem.W.nsIn K mainGlobals "_law_verdicts" = some (some (.ref f_lV)))
    (l_lV : K.lookup f_lV = some ⟨oc_lV, od_lV, .func (PySem.W.fnOf "_law_verdicts" "_law_verdicts" (defArgs sVerL) (defBody sVerL) (defScope sVerL) .none kV_lV dc_lV pm_lV an_lV cd_lV ct_lV), sl_lV⟩) (c_lV : PySem.W.codeIn K cd_lV "_law_verdicts" = true) (k_lV : PySem.W.keepIn K (.ref f_lV) = true)
    (a_lI : PySem.W.nsIn K mainGlobals "_law_is_whole" = some (some (.ref f_lI)))
    (l_lI : K.lookup f_lI = some ⟨oc_lI, od_lI, .func (PySem.W.fnOf "_law_is_whole" "_law_is_whole" (defArgs sIsN) (defBody sIsN) (defScope sIsN) .none kV_lI dc_lI pm_lI an_lI cd_lI ct_lI), sl_lI⟩) (c_lI : PySem.W.codeIn K cd_lI "_law_is_whole" = true) (k_lI : PySem.W.keepIn K (.ref f_lI) = true)
    (a_lL : PySem.W.nsIn K mainGlobals "_law_lines" = some (some (.ref f_lL)))
    (l_lL : K.lookup f_lL = some ⟨oc_lL, od_lL, .func (PySem.W.fnOf "_law_lines" "_law_lines" (defArgs sLinesL) (defBody sLinesL) (defScope sLinesL) .none kV_lL dc_lL pm_lL an_lL cd_lL ct_lL), sl_lL⟩) (c_lL : PySem.W.codeIn K cd_lL "_law_lines" = true) (k_lL : PySem.W.keepIn K (.ref f_lL) = true)
    (a_lJ : PySem.W.nsIn K mainGlobals "_law_whole" = some (some (.ref f_lJ)))
    (l_lJ : K.lookup f_lJ = some ⟨oc_lJ, od_lJ, .func (PySem.W.fnOf "_law_whole" "_law_whole" (defArgs sWhole) (defBody sWhole) (defScope sWhole) .none kV_lJ dc_lJ pm_lJ an_lJ cd_lJ ct_lJ), sl_lJ⟩) (c_lJ : PySem.W.codeIn K cd_lJ "_law_whole" = true) (k_lJ : PySem.W.keepIn K (.ref f_lJ) = true)
    (a_lD : PySem.W.nsIn K mainGlobals "_law_weaving_due" = some (some (.ref f_lD)))
    (l_lD : K.lookup f_lD = some ⟨oc_lD, od_lD, .func (PySem.W.fnOf "_law_weaving_due" "_law_weaving_due" (defArgs sDue) (defBody sDue) (defScope sDue) .none kV_lD dc_lD pm_lD an_lD cd_lD ct_lD), sl_lD⟩) (c_lD : PySem.W.codeIn K cd_lD "_law_weaving_due" = true) (k_lD : PySem.W.keepIn K (.ref f_lD) = true)
    (a_lK : PySem.W.nsIn K mainGlobals "_law_short" = some (some (.ref f_lK)))
    (l_lK : K.lookup f_lK = some ⟨oc_lK, od_lK, .func (PySem.W.fnOf "_law_short" "_law_short" (defArgs sShort) (defBody sShort) (defScope sShort) .none kV_lK dc_lK pm_lK an_lK cd_lK ct_lK), sl_lK⟩) (c_lK : PySem.W.codeIn K cd_lK "_law_short" = true) (k_lK : PySem.W.keepIn K (.ref f_lK) = true)
    (a_la : PySem.W.nsIn K mainGlobals "law" = some (some (.ref f_la)))
    (l_la : K.lookup f_la = some ⟨oc_la, od_la, .func (PySem.W.fnOf "law" "law" (defArgs sLaw) (defBody sLaw) (defScope sLaw) .none kV_la dc_la pm_la an_la cd_la ct_la), sl_la⟩) (c_la : PySem.W.codeIn K cd_la "law" = true) (k_la : PySem.W.keepIn K (.ref f_la) = true)
    (aD4 : PySem.W.nsIn K mainGlobals "OutOfPlace" = some (some (.ref D4)))
    (OY : OxC K D4 "ValueError" "ValueError.__new__" "ValueError.__init__" [.type "ValueError", .type "Exception", .type "BaseException", .type "object"])
    (iC_OY : PySem.W.findIn K (.ref D4) "__init__" = some (some (.ref f_inj))) (tI_OY : PySem.W.typeIn K (.ref f_inj) = some (.type "function"))
    (l_inj : K.lookup f_inj = some ⟨oc_inj, od_inj, .func (PySem.W.fnOf "__init__" "OutOfPlace.__init__" (defArgs sOutOfPlace) (defBody sOutOfPlace) (defScope sOutOfPlace) .none kV_inj dc_inj pm_inj an_inj cd_inj ct_inj), sl_inj⟩) (c_inj : PySem.W.codeIn K cd_inj "OutOfPlace.__init__" = true) (k_inj : PySem.W.keepIn K (.ref f_inj) = true)
    (suD4 : PySem.W.subIn K (.ref D4) (.type "BaseException") = some true) (hdD4 : PySem.W.hasDictIn K D4 = true) (tyD4 : PySem.W.typeIn K (.ref D4) = some (.type "type")) (sbD4 : PySem.W.subIn K (.ref D4) (.ref D4) = some true)
    (g_cS : PySem.W.nsIn K mainGlobals "SIGNS" = some (some (.str "abcdefghijklmnopqrstuvwxyz0123456789@" t_cS)))
    (g_cM : PySem.W.nsIn K mainGlobals "MOST_SIGNS" = some (some (.int 8 t_cM)))
    (g_cT : PySem.W.nsIn K mainGlobals "MOST_STEPS" = some (some (.int 16 t_cT)))
    (g_cD : PySem.W.nsIn K mainGlobals "MANY_STANDINGS" = some (some (.int 6 t_cD)))
    (g_cK : PySem.W.nsIn K mainGlobals "MARKS" = some (some (.str "ABCDEFGH" t_cK)))
    (g_w1 : PySem.W.nsIn K mainGlobals "FILE_SIGNS" = some (some (.str "abcdefghijklmnopqrstuvwxyz0123456789;ABCDEFGH" t_w1)))
    (g_w2 : PySem.W.nsIn K mainGlobals "MOST_FILE_SIGNS" = some (some (.int 60 t_w2)))
    (g_w3 : PySem.W.nsIn K mainGlobals "MOST_WRITERS" = some (some (.int 3 t_w3)))
    (g_w4 : PySem.W.nsIn K mainGlobals "WHOLE" = some (some (.str "whole" t_w4)))
    (g_w5 : PySem.W.nsIn K mainGlobals "MIXED" = some (some (.str "mixed" t_w5)))
    (g_w6 : PySem.W.nsIn K mainGlobals "OPEN" = some (some (.str "open" t_w6)))
    (z_isinstance : PySem.W.nsIn K mainGlobals "isinstance" = some none)
    (z_int : PySem.W.nsIn K mainGlobals "int" = some none)
    (z_bool : PySem.W.nsIn K mainGlobals "bool" = some none)
    (z_str : PySem.W.nsIn K mainGlobals "str" = some none)
    (z_tuple : PySem.W.nsIn K mainGlobals "tuple" = some none)
    (z_len : PySem.W.nsIn K mainGlobals "len" = some none)
    (z_all : PySem.W.nsIn K mainGlobals "all" = some none)
    (z_sorted : PySem.W.nsIn K mainGlobals "sorted" = some none)
    (z_enumerate : PySem.W.nsIn K mainGlobals "enumerate" = some none)
    (z_list : PySem.W.nsIn K mainGlobals "list" = some none)
    (z_range : PySem.W.nsIn K mainGlobals "range" = some none)
    (z_min : PySem.W.nsIn K mainGlobals "min" = some none)
    (z_repr : PySem.W.nsIn K mainGlobals "repr" = some none)
    (z_zip : PySem.W.nsIn K mainGlobals "zip" = some none)
    (z_ValueError : PySem.W.nsIn K mainGlobals "ValueError" = some none)
    (v_V : PySem.W.findCls K (.type "ValueError") (.type "type") "__init__" = some (.val (.builtin "ValueError.__init__"))) :
    ∃ fd : FuncData, (∀ (s : Shared) (u : Value), BindsTo s fd ⟨[u], []⟩ [("script", u)]) ∧ ∀ base : Heap, K.In base → base.Ns mainGlobals mg → FnG P w K mg base CX0 8 fa fd ["script"] (spLaw K) := by
  have e := hfa.symm.trans (PySem.W.mg_of X G a_la)
  cases e
  have F_iN := fun_mk (st := sNum) l_iN c_iN k_iN
  have b_iN := F_iN.binds (ps := ["thing", "many"]) fun _ _ _ _ _ _ us hl => match us, hl with | [_, _], _ => rfl
  have m_iN := PySem.W.mg_of X G a_iN
  have F_iP := fun_mk (st := sPc) l_iP c_iP k_iP
  have b_iP := F_iP.binds (ps := ["thing"]) fun _ _ _ _ _ _ us hl => match us, hl with | [_], _ => rfl
  have m_iP := PySem.W.mg_of X G a_iP
  have F_iS := fun_mk (st := sStep) l_iS c_iS k_iS
  have b_iS := F_iS.binds (ps := ["thing"]) fun _ _ _ _ _ _ us hl => match us, hl with | [_], _ => rfl
  have m_iS := PySem.W.mg_of X G a_iS
  have F_iL := fun_mk (st := sListed) l_iL c_iL k_iL
  have b_iL := F_iL.binds (ps := ["framing"]) fun _ _ _ _ _ _ us hl => match us, hl with | [_], _ => rfl
  have m_iL := PySem.W.mg_of X G a_iL
  have F_iW := fun_mk (st := sWays) l_iW c_iW k_iW
  have b_iW := F_iW.binds (ps := ["framing", "begin"]) fun _ _ _ _ _ _ us hl => match us, hl with | [_, _], _ => rfl
  have m_iW := PySem.W.mg_of X G a_iW
  have F_iJ := fun_mk (st := sJoined) l_iJ c_iJ k_iJ
  have b_iJ := F_iJ.binds (ps := ["framing"]) fun _ _ _ _ _ _ us hl => match us, hl with | [_], _ => rfl
  have m_iJ := PySem.W.mg_of X G a_iJ
  have F_iF := fun_mk (st := sNeedF) l_iF c_iF k_iF
  have b_iF := F_iF.binds (ps := ["thing"]) fun _ _ _ _ _ _ us hl => match us, hl with | [_], _ => rfl
  have m_iF := PySem.W.mg_of X G a_iF
  have F_vT := fun_mk (st := sNFT) l_vT c_vT k_vT
  have b_vT := F_vT.binds (ps := ["thing"]) fun _ _ _ _ _ _ us hl => match us, hl with | [_], _ => rfl
  have m_vT := PySem.W.mg_of X G a_vT
  have F_vW := fun_mk (st := sNFW) l_vW c_vW k_vW
  have b_vW := F_vW.binds (ps := ["thing"]) fun _ _ _ _ _ _ us hl => match us, hl with | [_], _ => rfl
  have m_vW := PySem.W.mg_of X G a_vW
  have F_vF := fun_mk (st := sFits) l_vF c_vF k_vF
  have b_vF := F_vF.binds (ps := ["framing", "text", "at", "writers"]) fun _ _ _ _ _ _ us hl => match us, hl with | [_, _, _, _], _ => rfl
  have m_vF := PySem.W.mg_of X G a_vF
  have F_vM := fun_mk (st := sMaker) l_vM c_vM k_vM
  have b_vM := F_vM.binds (ps := ["maker", "writer", "start"]) fun _ _ _ _ _ _ us hl => match us, hl with | [_, _, _], _ => rfl
  have m_vM := PySem.W.mg_of X G a_vM
  have F_vS := fun_mk (st := sState) l_vS c_vS k_vS
  have b_vS := F_vS.binds (ps := ["state", "writer", "step"]) fun _ _ _ _ _ _ us hl => match us, hl with | [_, _, _], _ => rfl
  have m_vS := PySem.W.mg_of X G a_vS
  have F_vR := fun_mk (st := sTraces) l_vR c_vR k_vR
  have b_vR := F_vR.binds (ps := ["framing", "text", "writers"]) fun _ _ _ _ _ _ us hl => match us, hl with | [_, _, _], _ => rfl
  have m_vR := PySem.W.mg_of X G a_vR
  have F_vC := fun_mk (st := sChecked) l_vC c_vC k_vC
  have b_vC := F_vC.binds (ps := ["framing", "text", "writers"]) fun _ _ _ _ _ _ us hl => match us, hl with | [_, _, _], _ => rfl
  have m_vC := PySem.W.mg_of X G a_vC
  have F_vP := fun_mk (st := sPossible) l_vP c_vP k_vP
  have b_vP := F_vP.binds (ps := ["framing", "text", "writers"]) fun _ _ _ _ _ _ us hl => match us, hl with | [_, _, _], _ => rfl
  have m_vP := PySem.W.mg_of X G a_vP
  have F_vE := fun_mk (st := sExplained) l_vE c_vE k_vE
  have b_vE := F_vE.binds (ps := ["framing", "text", "writers"]) fun _ _ _ _ _ _ us hl => match us, hl with | [_, _, _], _ => rfl
  have m_vE := PySem.W.mg_of X G a_vE
  have F_vD := fun_mk (st := sWords) l_vD c_vD k_vD
  have b_vD := F_vD.binds (ps := ["framing", "layers"]) fun _ _ _ _ _ _ us hl => match us, hl with | [_, _], _ => rfl
  have m_vD := PySem.W.mg_of X G a_vD
  have F_vV := fun_mk (st := sVerdicts) l_vV c_vV k_vV
  have b_vV := F_vV.binds (ps := ["framing", "text", "writers"]) fun _ _ _ _ _ _ us hl => match us, hl with | [_, _, _], _ => rfl
  have m_vV := PySem.W.mg_of X G a_vV
  have F_eM := fun_mk (st := sMsg) l_eM c_eM k_eM
  have b_eM := F_eM.binds (ps := ["text"]) fun _ _ _ _ _ _ us hl => match us, hl with | [_], _ => rfl
  have m_eM := PySem.W.mg_of X G a_eM
  have F_lB := fun_mk (st := sBegun) l_lB c_lB k_lB
  have b_lB := F_lB.binds (ps := ["script"]) fun _ _ _ _ _ _ us hl => match us, hl with | [_], _ => rfl
  have m_lB := PySem.W.mg_of X G a_lB
  have F_lN := fun_mk (st := sNext) l_lN c_lN k_lN
  have b_lN := F_lN.binds (ps := ["m", "total"]) fun _ _ _ _ _ _ us hl => match us, hl with | [_, _], _ => rfl
  have m_lN := PySem.W.mg_of X G a_lN
  have F_lP := fun_mk (st := sPiece) l_lP c_lP k_lP
  have b_lP := F_lP.binds (ps := ["m", "last"]) fun _ _ _ _ _ _ us hl => match us, hl with | [_, _], _ => rfl
  have m_lP := PySem.W.mg_of X G a_lP
  have F_lF := fun_mk (st := sFraming) l_lF c_lF k_lF
  have b_lF := F_lF.binds (ps := ["m", "most"]) fun _ _ _ _ _ _ us hl => match us, hl with | [_, _], _ => rfl
  have m_lF := PySem.W.mg_of X G a_lF
  have F_lR := fun_mk (st := sFrom) l_lR c_lR k_lR
  have b_lR := F_lR.binds (ps := ["framing", "here"]) fun _ _ _ _ _ _ us hl => match us, hl with | [_, _], _ => rfl
  have m_lR := PySem.W.mg_of X G a_lR
  have F_lW := fun_mk (st := sWeave) l_lW c_lW k_lW
  have b_lW := F_lW.binds (ps := ["m", "framing", "writers", "total"]) fun _ _ _ _ _ _ us hl => match us, hl with | [_, _, _, _], _ => rfl
  have m_lW := PySem.W.mg_of X G a_lW
  have F_lQ := fun_mk (st := sPutL) l_lQ c_lQ k_lQ
  have b_lQ := F_lQ.binds (ps := ["framing", "entry"]) fun _ _ _ _ _ _ us hl => match us, hl with | [_, _], _ => rfl
  have m_lQ := PySem.W.mg_of X G a_lQ
  have F_lT := fun_mk (st := sTextL) l_lT c_lT k_lT
  have b_lT := F_lT.binds (ps := ["framing", "entries"]) fun _ _ _ _ _ _ us hl => match us, hl with | [_, _], _ => rfl
  have m_lT := PySem.W.mg_of X G a_lT
  have F_lG := fun_mk (st := sGrown) l_lG c_lG k_lG
  have b_lG := F_lG.binds (ps := ["framing", "segment", "now"]) fun _ _ _ _ _ _ us hl => match us, hl with | [_, _, _], _ => rfl
  have m_lG := PySem.W.mg_of X G a_lG
  have F_lS := fun_mk (st := sSegs) l_lS c_lS k_lS
  have b_lS := F_lS.binds (ps := ["text"]) fun _ _ _ _ _ _ us hl => match us, hl with | [_], _ => rfl
  have m_lS := PySem.W.mg_of X G a_lS
  have F_lV := fun_mk (st := sVerL) l_lV c_lV k_lV
  have b_lV := F_lV.binds (ps := ["framing", "text", "writers"]) fun _ _ _ _ _ _ us hl => match us, hl with | [_, _, _], _ => rfl
  have m_lV := PySem.W.mg_of X G a_lV
  have F_lI := fun_mk (st := sIsN) l_lI c_lI k_lI
  have b_lI := F_lI.binds (ps := ["thing", "least", "most"]) fun _ _ _ _ _ _ us hl => match us, hl with | [_, _, _], _ => rfl
  have m_lI := PySem.W.mg_of X G a_lI
  have F_lL := fun_mk (st := sLinesL) l_lL c_lL k_lL
  have b_lL := F_lL.binds (ps := ["framing", "weaving"]) fun _ _ _ _ _ _ us hl => match us, hl with | [_, _], _ => rfl
  have m_lL := PySem.W.mg_of X G a_lL
  have F_lJ := fun_mk (st := sWhole) l_lJ c_lJ k_lJ
  have b_lJ := F_lJ.binds (ps := ["framing", "line"]) fun _ _ _ _ _ _ us hl => match us, hl with | [_, _], _ => rfl
  have m_lJ := PySem.W.mg_of X G a_lJ
  have F_lD := fun_mk (st := sDue) l_lD c_lD k_lD
  have b_lD := F_lD.binds (ps := ["framing", "thing"]) fun _ _ _ _ _ _ us hl => match us, hl with | [_, _], _ => rfl
  have m_lD := PySem.W.mg_of X G a_lD
  have F_lK := fun_mk (st := sShort) l_lK c_lK k_lK
  have b_lK := F_lK.binds (ps := ["m", "framing", "writers"]) fun _ _ _ _ _ _ us hl => match us, hl with | [_, _, _], _ => rfl
  have m_lK := PySem.W.mg_of X G a_lK
  have F_la := fun_mk (st := sLaw) l_la c_la k_la
  have b_la := F_la.binds (ps := ["script"]) fun _ _ _ _ _ _ us hl => match us, hl with | [_], _ => rfl
  have m_la := PySem.W.mg_of X G a_la
  have F_inj := fun_mk (st := sOutOfPlace) l_inj c_inj k_inj
  have b_inj := F_inj.binds (ps := ["self", "text"]) fun _ _ _ _ _ _ us hl => match us, hl with | [_, _], _ => rfl
  have y_isinstance := PySem.W.mg_none_of X G z_isinstance
  have y_int := PySem.W.mg_none_of X G z_int
  have y_bool := PySem.W.mg_none_of X G z_bool
  have y_str := PySem.W.mg_none_of X G z_str
  have y_tuple := PySem.W.mg_none_of X G z_tuple
  have y_len := PySem.W.mg_none_of X G z_len
  have y_all := PySem.W.mg_none_of X G z_all
  have y_sorted := PySem.W.mg_none_of X G z_sorted
  have y_enumerate := PySem.W.mg_none_of X G z_enumerate
  have y_list := PySem.W.mg_none_of X G z_list
  have y_range := PySem.W.mg_none_of X G z_range
  have y_min := PySem.W.mg_none_of X G z_min
  have y_repr := PySem.W.mg_none_of X G z_repr
  have y_zip := PySem.W.mg_none_of X G z_zip
  have y_ValueError := PySem.W.mg_none_of X G z_ValueError
  have x_cS := PySem.W.mg_of X G g_cS
  have x_cM := PySem.W.mg_of X G g_cM
  have x_cT := PySem.W.mg_of X G g_cT
  have x_cD := PySem.W.mg_of X G g_cD
  have x_cK := PySem.W.mg_of X G g_cK
  have x_w1 := PySem.W.mg_of X G g_w1
  have x_w2 := PySem.W.mg_of X G g_w2
  have x_w3 := PySem.W.mg_of X G g_w3
  have x_w4 := PySem.W.mg_of X G g_w4
  have x_w5 := PySem.W.mg_of X G g_w5
  have x_w6 := PySem.W.mg_of X G g_w6
  have TF : TxtF mg := ⟨y_isinstance, y_int, y_bool, y_str, y_tuple, y_len, y_all, ⟨_, x_cS⟩, ⟨_, x_cM⟩, ⟨_, x_cD⟩⟩
  have TD : TxtD mg := ⟨y_list, y_int, y_len⟩
  have TM : TxtM mg := ⟨y_isinstance, y_str⟩
  have IV : BI K mg "ValueError" "ValueError" "ValueError.__init__" := ⟨y_ValueError, by decide +kernel, by kernel_rfl, v_V, by decide +kernel⟩
  let zF : Fs K mg := { fN := f_iN, dN := _, N := F_iN, bN := b_iN, mN := m_iN, fP := f_iP, dP := _, P := F_iP, bP := b_iP, mP := m_iP, fS := f_iS, dS := _, S := F_iS, bS := b_iS, mS := m_iS, fL := f_iL, dL := _, L := F_iL, bL := b_iL, mL := m_iL, fW := f_iW, dW := _, W := F_iW, bW := b_iW, mW := m_iW, fJ := f_iJ, dJ := _, J := F_iJ, bJ := b_iJ, mJ := m_iJ, fF := f_iF, dF := _, F := F_iF, bF := b_iF, mF := m_iF, T := TF, so := y_sorted, en := y_enumerate, ms := ⟨_, x_cT⟩ }
  let zO : Oop K mg := { C := D4, f := f_inj, d := _, fM := f_eM, dM := _, T := OY, I := IV, F := F_inj, b := b_inj, FM := F_eM, bM := b_eM, mM := m_eM, TM := TM, m := PySem.W.mg_of X G aD4, iC := iC_OY, tI := tI_OY, su := suD4, ty := tyD4, own := sbD4 }
  let zY : Wf K mg := { Z := zF, O := zO, fT := f_vT, fW := f_vW, dT := _, dW := _, T := F_vT, W := F_vW, bT := b_vT, bW := b_vW, mT := m_vT, mW := m_vW, c1 := ⟨_, x_w1⟩, c2 := ⟨_, x_w2⟩, c3 := ⟨_, x_w3⟩ }
  let zS : Sf K mg := { Y := zY, fM := f_vM, fS := f_vS, dM := _, dS := _, M := F_vM, S := F_vS, bM := b_vM, bS := b_vS, mM := m_vM, mS := m_vS, cM := ⟨_, x_w5⟩ }
  let zG : Ff K mg := { S := zS, f := f_vF, d := _, F := F_vF, b := b_vF, m := m_vF, ra := y_range, cK := ⟨_, x_cK⟩ }
  let zT : Tf K mg := { G := zG, f := f_vR, d := _, F := F_vR, b := b_vR, m := m_vR, li := y_list }
  let zC : Cf K mg := { T := zT, f := f_vC, d := _, F := F_vC, b := b_vC, m := m_vC }
  let zR : Rf K mg := { C := zC, f := f_vD, d := _, F := F_vD, b := b_vD, m := m_vD, cW := ⟨_, x_w4⟩ }
  let zL : Ls K mg := { f1 := f_lN, d1 := _, N := F_lN, bN := b_lN, mN := m_lN, T := TD, ra := y_range, f2 := f_lP, d2 := _, P := F_lP, bP := b_lP, mP := m_lP }
  let zLf : Lf K mg := { L := zL, f := f_lF, d := _, F := F_lF, b := b_lF, g := m_lF, so := y_sorted, tu := y_tuple, en := y_enumerate }
  let zLw : Lw K mg := { G := zLf, f1 := f_lR, f2 := f_lW, d1 := _, d2 := _, F := F_lR, W := F_lW, bF := b_lR, bW := b_lW, gF := m_lR, gW := m_lW }
  let zLx : Lx K mg := { f1 := f_lQ, f2 := f_lT, d1 := _, d2 := _, P := F_lQ, T := F_lT, bP := b_lQ, bT := b_lT, gP := m_lQ, gT := m_lT }
  let zLg : Lg K mg := { W := zLw, X := zLx, f := f_lG, d := _, F := F_lG, b := b_lG, g := m_lG }
  let zLs : Lgs K mg := { f := f_lS, d := _, F := F_lS, b := b_lS, g := m_lS }
  let zLv : Lv K mg := { G := zLg, S := zLs, f := f_lV, d := _, F := F_lV, b := b_lV, g := m_lV }
  let zSh : Lsh K mg := { W := zLw, X := zLx, f := f_lK, d := _, S := F_lK, b := b_lK, g := m_lK }
  let zLd : Ld K mg := { T := TF, en := y_enumerate, f1 := f_lI, d1 := _, I := F_lI, bI := b_lI, gI := m_lI, f := f_lD, d := _, D := F_lD, b := b_lD, g := m_lD }
  let zLt : Lt K mg := { f3 := f_lL, d3 := _, L := F_lL, bL := b_lL, gL := m_lL, tu := y_tuple }
  let zWh : Lwh K mg := { f2 := f_lJ, d2 := _, W := F_lJ, bW := b_lJ, gW := m_lJ }
  let zA : Lall K mg := { R := zR, tu := y_tuple, so := y_sorted, cO := ⟨_, x_w6⟩, fV := f_vV, dV := _, V := F_vV, bV := b_vV, mV := m_vV, fP := f_vP, dP := _, P := F_vP, bP := b_vP, mP := m_vP, fE := f_vE, dE := _, E := F_vE, bE := b_vE, mE := m_vE, L := zLv, S := zSh, D := zLd, T := zLt, W := zWh, fB := f_lB, dB := _, Be := F_lB, bB := b_lB, mB := m_lB, mi := y_min, re := y_repr, zi := y_zip }
  exact ⟨PySem.W.fnOf "law" "law" (defArgs sLaw) (defBody sLaw) (defScope sLaw) .none kV_la dc_la pm_la an_la cd_la ct_la, fun s u => .of_eq rfl, fun base _ _ => ok_law zA F_la⟩
theorem walk {l : PySem.W.OpenLaw} {q : Program} {loose : List Str} {XP : (Str → Option Value) → Heap → Prop} {YP : World → Heap → Prop} {d : DefRec} {K : Params → PySem.W.Frag} (hn : l.most = some 63) (hdf : d.params.defaults = [])
    (hY : ∀ (w : World) (h : Heap), YP w h → (K w.params).In h)
    (F : ∀ (w : World) (mg : Str → Option Value) (fa : Addr) (h : Heap), (K w.params).In h → h.Ns mainGlobals mg → mg d.name = some (.ref fa) →
      ∃ fd : FuncData, (∀ (s : Shared) (u : Value), BindsTo s fd ⟨[u], []⟩ [("script", u)]) ∧ ∀ base : Heap, (K w.params).In base → base.Ns mainGlobals mg → FnG l.prog w (K w.params) mg base CX0 8 fa fd ["script"] (spLaw (K w.params))) :
    PySem.W.WalkO q loose XP YP l.row.toRowW d [] (fun f vs => PySem.call f vs) :=
  walk_ofG (n := 63) (k := 8) (x := "script") (sp := spLaw) hn (by decide) hdf ⟨rfl, by decide, by decide⟩ hY F (fun _ _ a ns hl _ hS => ⟨a, ns, rfl, hS, hl, fun _ => rfl⟩)
end K35

set_option Elab.async false
set_option maxRecDepth 100000
open PySem PySem.W PyProof.Rows
set_option maxRecDepth 100000 in
set_option maxHeartbeats 0 in
theorem PySem.Challenge.cw_tornlines_k35_whole_files_explained_holds : PySem.Challenge.rw_tornlines_k35_whole_files_explained.Holds := by
  w_on; o_law; k_head; (case hw => w_witness2)
  k_fill
  refine K35.walk (l := PySem.Challenge.rw_tornlines_k35_whole_files_explained) rfl rfl (fun w h Y => by first | exact PySem.W.kIn_of Y | exact PySem.W.km_in_of Y) ?F
  case F =>
    intro w mg fa h KX G hmg
    refine' K35.all_mk KX G hmg ?a_iN ?l_iN ?c_iN ?k_iN ?a_iP ?l_iP ?c_iP ?k_iP ?a_iS ?l_iS ?c_iS ?k_iS ?a_iL ?l_iL ?c_iL ?k_iL ?a_iW ?l_iW ?c_iW ?k_iW ?a_iJ ?l_iJ ?c_iJ ?k_iJ ?a_iF ?l_iF ?c_iF ?k_iF ?a_vT ?l_vT ?c_vT ?k_vT ?a_vW ?l_vW ?c_vW ?k_vW ?a_vF ?l_vF ?c_vF ?k_vF ?a_vM ?l_vM ?c_vM ?k_vM ?a_vS ?l_vS ?c_vS ?k_vS ?a_vR ?l_vR ?c_vR ?k_vR ?a_vC ?l_vC ?c_vC ?k_vC ?a_vP ?l_vP ?c_vP ?k_vP ?a_vE ?l_vE ?c_vE ?k_vE ?a_vD ?l_vD ?c_vD ?k_vD ?a_vV ?l_vV ?c_vV ?k_vV ?a_eM ?l_eM ?c_eM ?k_eM ?a_lB ?l_lB ?c_lB ?k_lB ?a_lN ?l_lN ?c_lN ?k_lN ?a_lP ?l_lP ?c_lP ?k_lP ?a_lF ?l_lF ?c_lF ?k_lF ?a_lR ?l_lR ?c_lR ?k_lR ?a_lW ?l_lW ?c_lW ?k_lW ?a_lQ ?l_lQ ?c_lQ ?k_lQ ?a_lT ?l_lT ?c_lT ?k_lT ?a_lG ?l_lG ?c_lG ?k_lG ?a_lS ?l_lS ?c_lS ?k_lS ?a_lV ?l_lV ?c_lV ?k_lV ?a_lI ?l_lI ?c_lI ?k_lI ?a_lL ?l_lL ?c_lL ?k_lL ?a_lJ ?l_lJ ?c_lJ ?k_lJ ?a_lD ?l_lD ?c_lD ?k_lD ?a_lK ?l_lK ?c_lK ?k_lK ?a_la ?l_la ?c_la ?k_la ?aD4 ?OY ?iC_OY ?tI_OY ?l_inj ?c_inj ?k_inj ?suD4 ?hdD4 ?tyD4 ?sbD4 ?g_cS ?g_cM ?g_cT ?g_cD ?g_cK ?g_w1 ?g_w2 ?g_w3 ?g_w4 ?g_w5 ?g_w6 ?z_isinstance ?z_int ?z_bool ?z_str ?z_tuple ?z_len ?z_all ?z_sorted ?z_enumerate ?z_list ?z_range ?z_min ?z_repr ?z_zip ?z_ValueError ?v_V
    (case a_iN => k_is)
    (case l_iN => k_is)
    (case c_iN => k_is)
    (case k_iN => k_is)
    (case a_iP => k_is)
    (case l_iP => k_is)
    (case c_iP => k_is)
    (case k_iP => k_is)
    (case a_iS => k_is)
    (case l_iS => k_is)
    (case c_iS => k_is)
    (case k_iS => k_is)
    (case a_iL => k_is)
    (case l_iL => k_is)
    (case c_iL => k_is)
    (case k_iL => k_is)
    (case a_iW => k_is)
    (case l_iW => k_is)
    (case c_iW => k_is)
    (case k_iW => k_is)
    (case a_iJ => k_is)
    (case l_iJ => k_is)
    (case c_iJ => k_is)
    (case k_iJ => k_is)
    (case a_iF => k_is)
    (case l_iF => k_is)
    (case c_iF => k_is)
    (case k_iF => k_is)
    (case a_vT => k_is)
    (case l_vT => k_is)
    (case c_vT => k_is)
    (case k_vT => k_is)
    (case a_vW => k_is)
    (case l_vW => k_is)
    (case c_vW => k_is)
    (case k_vW => k_is)
    (case a_vF => k_is)
    (case l_vF => k_is)
    (case c_vF => k_is)
    (case k_vF => k_is)
    (case a_vM => k_is)
    (case l_vM => k_is)
    (case c_vM => k_is)
    (case k_vM => k_is)
    (case a_vS => k_is)
    (case l_vS => k_is)
    (case c_vS => k_is)
    (case k_vS => k_is)
    (case a_vR => k_is)
    (case l_vR => k_is)
    (case c_vR => k_is)
    (case k_vR => k_is)
    (case a_vC => k_is)
    (case l_vC => k_is)
    (case c_vC => k_is)
    (case k_vC => k_is)
    (case a_vP => k_is)
    (case l_vP => k_is)
    (case c_vP => k_is)
    (case k_vP => k_is)
    (case a_vE => k_is)
    (case l_vE => k_is)
    (case c_vE => k_is)
    (case k_vE => k_is)
    (case a_vD => k_is)
    (case l_vD => k_is)
    (case c_vD => k_is)
    (case k_vD => k_is)
    (case a_vV => k_is)
    (case l_vV => k_is)
    (case c_vV => k_is)
    (case k_vV => k_is)
    (case a_eM => k_is)
    (case l_eM => k_is)
    (case c_eM => k_is)
    (case k_eM => k_is)
    (case a_lB => k_is)
    (case l_lB => k_is)
    (case c_lB => k_is)
    (case k_lB => k_is)
    (case a_lN => k_is)
    (case l_lN => k_is)
    (case c_lN => k_is)
    (case k_lN => k_is)
    (case a_lP => k_is)
    (case l_lP => k_is)
    (case c_lP => k_is)
    (case k_lP => k_is)
    (case a_lF => k_is)
    (case l_lF => k_is)
    (case c_lF => k_is)
    (case k_lF => k_is)
    (case a_lR => k_is)
    (case l_lR => k_is)
    (case c_lR => k_is)
    (case k_lR => k_is)
    (case a_lW => k_is)
    (case l_lW => k_is)
    (case c_lW => k_is)
    (case k_lW => k_is)
    (case a_lQ => k_is)
    (case l_lQ => k_is)
    (case c_lQ => k_is)
    (case k_lQ => k_is)
    (case a_lT => k_is)
    (case l_lT => k_is)
    (case c_lT => k_is)
    (case k_lT => k_is)
    (case a_lG => k_is)
    (case l_lG => k_is)
    (case c_lG => k_is)
    (case k_lG => k_is)
    (case a_lS => k_is)
    (case l_lS => k_is)
    (case c_lS => k_is)
    (case k_lS => k_is)
    (case a_lV => k_is)
    (case l_lV => k_is)
    (case c_lV => k_is)
    (case k_lV => k_is)
    (case a_lI => k_is)
    (case l_lI => k_is)
    (case c_lI => k_is)
    (case k_lI => k_is)
    (case a_lL => k_is)
    (case l_lL => k_is)
    (case c_lL => k_is)
    (case k_lL => k_is)
    (case a_lJ => k_is)
    (case l_lJ => k_is)
    (case c_lJ => k_is)
    (case k_lJ => k_is)
    (case a_lD => k_is)
    (case l_lD => k_is)
    (case c_lD => k_is)
    (case k_lD => k_is)
    (case a_lK => k_is)
    (case l_lK => k_is)
    (case c_lK => k_is)
    (case k_lK => k_is)
    (case a_la => k_is)
    (case l_la => k_is)
    (case c_la => k_is)
    (case k_la => k_is)
    (case aD4 => k_is)
    case OY =>
      refine' K35.oxc ?cl PySem.F.excBase_ValueError (fun self => PySem.F.store_ValueError.passes self) (by decide +kernel) ?sa ?ga ?gg ?exC ?kC ?hd ?ca ?cn ?ct ?om
      (case cl => k_is)
      (case sa => k_is)
      (case ga => k_is)
      (case gg => k_is)
      (case exC => k_is)
      (case kC => k_is)
      (case hd => k_is)
      (case ca => k_is)
      (case cn => k_is)
      (case ct => k_is)
      (case om => k_is)
    (case iC_OY => k_is)
    (case tI_OY => k_is)
    (case l_inj => k_is)
    (case c_inj => k_is)
    (case k_inj => k_is)
    (case suD4 => k_is)
    (case hdD4 => k_is)
    (case tyD4 => k_is)
    (case sbD4 => k_is)
    (case g_cS => k_is)
    (case g_cM => k_is)
    (case g_cT => k_is)
    (case g_cD => k_is)
    (case g_cK => k_is)
    (case g_w1 => k_is)
    (case g_w2 => k_is)
    (case g_w3 => k_is)
    (case g_w4 => k_is)
    (case g_w5 => k_is)
    (case g_w6 => k_is)
    (case z_isinstance => k_is)
    (case z_int => k_is)
    (case z_bool => k_is)
    (case z_str => k_is)
    (case z_tuple => k_is)
    (case z_len => k_is)
    (case z_all => k_is)
    (case z_sorted => k_is)
    (case z_enumerate => k_is)
    (case z_list => k_is)
    (case z_range => k_is)
    (case z_min => k_is)
    (case z_repr => k_is)
    (case z_zip => k_is)
    (case z_ValueError => k_is)
    (case v_V => k_is)
#print axioms PySem.Challenge.cw_tornlines_k35_whole_files_explained_holds
