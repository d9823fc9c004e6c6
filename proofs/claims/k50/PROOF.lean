import PyProof.Rows.All
import Wide.All
import OpenK.AllK
import Wide.FinOn
import KE.KExcInit
import KE.KExcIs
import HandS.ForMost
import HandS.Exc
import HandS.ExcInit
import HandS.Defaults
import HandS.IsInst
import HandS.Conv
import HandS.Small
import HandS.SortRule
import HandS.TupLe
import HandS.NamedTupSort
import PyProof.Rows.SortKeyStr
import PyProof.FString5
import HandS.StrMore
import HandS.Walk
import PyProof.Rows.StrLen
import PyProof.StrLawsAffix
import HandS.Set
import HandS.Strs
import HandS.SetBool
import KE.GoesMore
import HandS.TupAny
import HandS.Deep
import HandS.TryMany
import HandS.ExcValue
import HandS.ExcOwn
import PyProof.ReprRoads
import HandS.WordsExc
import HandS.NoneIn
import KE.KDictPairs
import HandS.Dict
import HandS.SetKeys
import HandS.TryOnly
import HandS.ExcIs
import HandS.Text
import HandS.OwnEq
import HandS.MakeKw
import HandS.ReplaceLit
import HandS.ReplaceList
import PySem.Challenge.RW_tornlines_k50_whole_other_readers
set_option Elab.async false
set_option linter.all false
set_option maxRecDepth 100000
set_option maxHeartbeats 4000000
/-! Own exception classes over any built-in base: made with positional or keyword arguments, kept as values, their fields read, asked by isinstance. -/
namespace EV
open PySem PySem.W PySem.Calls PyProof.Rows PySem.HandSPX
open Builtin Builtin.ObjectAttr
section
variable {prog : Program} {w : World} {A : Around} {E : Value → Shared → Prop} {R : Result → Shared → Prop}
variable {hp : Heap} {g : Array GenState} {d : Drawn} {t : Nat} {os : OsState}
/-- an exception's first field, whatever its base -/
theorem put_first {K : W.Frag} {nm : Str} {tk : Tok} {v : Value} {x C : Addr} {fv : Array Value} {cd : ClassData}
    (X : K.In hp) (hx : hp.get? x = some { cls := .ref C, data := .fields fv }) (hcd : W.clsIn K C = some cd)
    (pas : refuseLoop (.ref x) "__setattr__" cd.mro = pure ()) (hob : cd.mro.contains (.type "object") = true) (hne : cd.mro.isEmpty = false)
    (hh : cd.hasDict = true) (ha : W.findIn K (.ref C) nm = some none)
    (hq : ∀ h' tk' dx, (∀ b o, b ≠ x → hp.get? b = some o → h'.get? b = some o) → hp.objs.size ≤ dx → dx ≠ x →
      h'.get? x = some { cls := .ref C, dict := some dx, data := .fields fv } → h'.Ns1 dx (fun y => if y = nm then some v else none) →
      R (.ok (.ret .none)) ⟨h', g, d, tk', os⟩) :
    codeAny (model prog w) A (.call (.builtin "object.__setattr__") ⟨[.ref x, .str nm tk, v], []⟩) R ⟨hp, g, d, t, os⟩ := by
  have J : W.InstAt hp x { cls := .ref C, data := .fields fv } C none := ⟨hx, rfl, rfl, trivial⟩
  have hxs : x ≠ hp.objs.size := Nat.ne_of_lt (Heap.lt_size hx)
  have isO : W.Looks (model prog w) hp (isInstance (.ref x) (.type "object")) true :=
    J.type.andThen (W.looks_mroIn X (by unfold W.mroIn; rw [hcd, Option.bind_some, if_neg (by rw [hne]; decide), hob]))
  refine codeAny_call_builtin F.store_object.slot.plain F.store_object.entry
    (@W.check_slot (model prog w) _ _ ⟨hp, g, d, t, os⟩ "object.__setattr__" "object" "__setattr__" (.ref x) [.str nm tk, v] [] _
      F.store_object.kind F.store_object.split isO (F.store_object.args (.ref x) (.str nm tk) v) ?_)
  have order : W.Looks (model prog w) hp (mroOf (.ref C)) cd.mro := (W.looks_clsIn X hcd).andThen .now
  have taker : W.Looks (model prog w) hp (storeTaker? none) none := .now
  have data : W.Looks (model prog w) hp (classData C) cd := W.looks_clsIn X hcd
  rw [W.osa_eq, refuse_eq]
  refine wpAny_bind (wpAny_bind (J.type.at (wpAny_bind (order.at ?_))))
  rw [pas]
  refine wpAny_pure (wpAny_bind (J.type.at (wpAny_bind ((W.looks_findIn X ha).at (wpAny_bind (taker.at ?_))))))
  show wpAny _ _ (storeInOwnDict (.ref x) (.ref C) (.str nm tk) nm v false) _ _ _
  obtain ⟨q1, q2, q3, q4, q5, q6, q7, q8, q9, q10, q11⟩ := cd
  dsimp only at hh
  subst hh
  unfold storeInOwnDict ownDictForStores
  repeat (first
    | with_reducible refine store_in_new ?_ ?_
    | with_reducible refine wpAny_loadPart_at hx ?_
    | with_reducible refine data.at ?_
    | wp_step)
  · exact ⟨_, #[], _, (Heap.get?_update_ne _ _ _ _ hxs.symm).trans (Heap.get?_push_at rfl rfl), rfl, fun e he => absurd he (by simp), fun _ => rfl⟩
  · intro h' tk' nsd same
    have hx1 : (hp.push { cls := .type "dict", data := .dict #[] }).get? x = some { cls := .ref C, data := .fields fv } := Heap.get?_push_of_some _ hx
    refine hq h' tk' hp.objs.size (fun b o nb q => ?_) (Nat.le_refl _) hxs.symm ?_ nsd
    · exact (same.2 b (Nat.ne_of_lt (Heap.lt_size q))).trans
        ((Heap.get?_update_ne _ _ _ _ nb).trans (Heap.get?_push_of_some _ q))
    · exact (same.2 x hxs).trans (Heap.get?_update_self _ hx1 rfl)
/-- a further field -/
theorem put_more {K : W.Frag} {nm : Str} {tk : Tok} {v : Value} {x C dx : Addr} {fv : Array Value} {cd : ClassData} {m0 : Str → Option Value} {nl : List Str}
    (X : K.In hp) (hx : hp.get? x = some { cls := .ref C, dict := some dx, data := .fields fv }) (nsd : hp.Ns1 dx m0) (wi : Within m0 nl) (hz : nl.length ≤ 1000)
    (hcd : W.clsIn K C = some cd) (pas : refuseLoop (.ref x) "__setattr__" cd.mro = pure ()) (hob : cd.mro.contains (.type "object") = true)
    (hne : cd.mro.isEmpty = false) (hh : cd.hasDict = true) (ha : W.findIn K (.ref C) nm = some none)
    (hq : ∀ h' tk', (∀ b o, b ≠ dx → hp.get? b = some o → h'.get? b = some o) → h'.Ns1 dx (fun y => if y = nm then some v else m0 y) →
      R (.ok (.ret .none)) ⟨h', g, d, tk', os⟩) :
    codeAny (model prog w) A (.call (.builtin "object.__setattr__") ⟨[.ref x, .str nm tk, v], []⟩) R ⟨hp, g, d, t, os⟩ := by
  obtain ⟨oD, _, _, hoD, _, _⟩ := nsd.count wi
  have J : W.InstAt hp x { cls := .ref C, dict := some dx, data := .fields fv } C (some oD) := ⟨hx, rfl, rfl, hoD⟩
  have isO : W.Looks (model prog w) hp (isInstance (.ref x) (.type "object")) true :=
    J.type.andThen (W.looks_mroIn X (by unfold W.mroIn; rw [hcd, Option.bind_some, if_neg (by rw [hne]; decide), hob]))
  refine codeAny_call_builtin F.store_object.slot.plain F.store_object.entry
    (@W.check_slot (model prog w) _ _ ⟨hp, g, d, t, os⟩ "object.__setattr__" "object" "__setattr__" (.ref x) [.str nm tk, v] [] _
      F.store_object.kind F.store_object.split isO (F.store_object.args (.ref x) (.str nm tk) v) ?_)
  have order : W.Looks (model prog w) hp (mroOf (.ref C)) cd.mro := (W.looks_clsIn X hcd).andThen .now
  have taker : W.Looks (model prog w) hp (storeTaker? none) none := .now
  have data : W.Looks (model prog w) hp (classData C) cd := W.looks_clsIn X hcd
  rw [W.osa_eq, refuse_eq]
  refine wpAny_bind (wpAny_bind (J.type.at (wpAny_bind (order.at ?_))))
  rw [pas]
  refine wpAny_pure (wpAny_bind (J.type.at (wpAny_bind ((W.looks_findIn X ha).at (wpAny_bind (taker.at ?_))))))
  show wpAny _ _ (storeInOwnDict (.ref x) (.ref C) (.str nm tk) nm v false) _ _ _
  obtain ⟨q1, q2, q3, q4, q5, q6, q7, q8, q9, q10, q11⟩ := cd
  dsimp only at hh
  subst hh
  unfold storeInOwnDict ownDictForStores
  repeat (first
    | with_reducible refine OEX.store_in_old nsd wi hz ?_
    | with_reducible refine wpAny_loadPart_at hx ?_
    | with_reducible refine data.at ?_
    | wp_step)
  intro h' tk' ns' same
  exact hq h' tk' (fun b o nb q => (same.2 b nb).trans q) ns'
end
/-! ### an own exception class called with keywords -/
section
variable {M : Model} {A : Around} {E : Value → Shared → Prop} {h : Heap} {g : Array GenState} {d : Drawn} {t : Nat} {os : OsState}
variable {nm q : Str} {C N : Addr} {bs bm : List Value} {hd : Bool} {sn : List Str} {sub : List Value} {ab : Bool} {col : Option Bool} {dd : Option Addr}
variable {k0 k1 k2 k3 k5 : Option Value} {B newId initId : String}
theorem check_newK (F : ExcBaseFacts B newId initId bm) {rest : List Value} {kw : List (Str × Value)} {Q : Unit → Shared → Prop}
    (hC : h.get? C = some (excClassObj nm q C N bs bm hd sn sub ab col dd k0 k1 k2 k3 k5 newId)) (hq : Q () ⟨h, g, d, t, os⟩) :
    wpAny M A (checkBuiltinCall newId ⟨.ref C :: rest, kw⟩) Q E ⟨h, g, d, t, os⟩ := by
  have hasIt : (Value.ref C :: bm).contains (.type B) = true := by rw [List.contains_cons, F.hasB, Bool.or_true]
  have star := F.noStar
  simp only [checkBuiltinCall, F.newKind, F.newSplit, F.newRow]
  repeat (first
    | refine wpAny_loadPart_at hC ?_
    | (refine wpAny_isSubtype_exc hC ?_; rw [hasIt])
    | refine wpAny_staticBase_exc hC ?_
    | refine wpAny_madeBy_exc hC ?_
    | simp only [bne_self_eq_false, Bool.false_eq_true, if_false]
    | wp_step)
  exact hq
end
section
variable {prog : Program} {w : World} {A : Around} {E : Value → Shared → Prop} {R : Result → Shared → Prop}
variable {h : Heap} {g : Array GenState} {d : Drawn} {t : Nat} {os : OsState}
variable {nm q : Str} {C N : Addr} {bs bm : List Value} {hd : Bool} {sn : List Str} {sub : List Value} {ab : Bool} {col : Option Bool} {dd : Option Addr}
variable {k0 k1 k2 k3 k5 : Option Value} {B newId initId : String}
theorem newK (F : ExcBaseFacts B newId initId bm) {rest : List Value} {kw : List (Str × Value)}
    (hC : h.get? C = some (excClassObj nm q C N bs bm hd sn sub ab col dd k0 k1 k2 k3 k5 newId))
    (hq : R (.ok (.ret (.ref (h.objs.size + 1)))) ⟨(h.push (W.kdv_tup rest)).push (excO C h.objs.size), g, d, t, os⟩) (hrest : rest.length ≤ sizeLine) :
    codeAny (model prog w) A (.builtin newId ⟨.ref C :: rest, kw⟩) R ⟨h, g, d, t, os⟩ := by
  have ends := F.ends
  have b1 : (Value.ref C :: bm).contains (.type B) = true := by rw [List.contains_cons, F.hasB, Bool.or_true]
  have b2 : (Value.ref C :: bm).contains (.type "AttributeError") = false := by rw [List.contains_cons, F.noAttr]; rfl
  have b3 : (Value.ref C :: bm).contains (.type "NameError") = false := by rw [List.contains_cons, F.noName]; rfl
  refine codeAny_builtinAt F.entry ?_
  unfold Builtin.«BaseException.__new__»
  refine PySem.wpAt_bind ?_
  show PySem.wpAt _ _ _ (stack >>= _) _ _ _
  refine PySem.wpAt_bind (PySem.wpAt_stack fun p below => PySem.wpAt_of_wpAny ?_)
  wp_walk
  refine PySem.wpAt_of_wpAny ?_
  rw [F.owner]
  repeat (first
    | with_reducible refine wpAny_madeHere_exc F.canon hC ?_
    | with_reducible refine wpAny_loadPart_at hC ?_
    | (with_reducible refine wpAny_isSubtype_exc hC ?_; first | rw [b1] | rw [b2] | rw [b3])
    | wp_step)
  show R _ _
  rw [Heap.size_push]
  exact hq
theorem typeCallK (F : ExcBaseFacts B newId initId bm) {rest : List Value} {kw : List (Str × Value)} {fI : Addr} {Q : Fin → Shared → Prop}
    (hC : h.get? C = some (excClassObj nm q C N bs bm hd sn sub ab col dd k0 k1 k2 k3 k5 newId))
    (hi : W.Looks (model prog w) h (typeLookup (.ref C) "__init__") (some (.ref fI)))
    (hb : ∀ self, W.Looks (model prog w) h (bindSpecial (.ref fI) self) (.ref fI, [self])) (hrest : rest.length ≤ sizeLine)
    (hq : codeAny (model prog w) A (.call (.ref fI) ⟨.ref (h.objs.size + 1) :: rest, kw⟩)
      (fun r s' => match r with | .ok (.ret v) => v = .none ∧ Q (.done (.ret (.ref (h.objs.size + 1)))) s' | .ok _ => False | .error e => E e s')
      ⟨(h.push (W.kdv_tup rest)).push (excO C h.objs.size), g, d, t, os⟩) :
    wpAny (model prog w) A (Builtin.«type.__call__» ⟨.ref C :: rest, kw⟩) Q E ⟨h, g, d, t, os⟩ := by
  repeat (first
    | with_reducible refine wpAny_loadPart_at hC ?_
    | with_reducible refine wpAny_madeBy_exc hC ?_
    | wp_step)
  refine codeAny_call_builtin_code (Code.quiet_builtin _ F.quiet) (check_newK F hC ?_)
  refine newK F hC ?_ hrest
  show wpAny _ _ _ _ _ _
  have kp : ∀ b o, h.get? b = some o → ((h.push (W.kdv_tup rest)).push (excO C h.objs.size)).get? b = some o :=
    fun b o e => Heap.get?_push_of_some _ (Heap.get?_push_of_some _ e)
  have hC1 := kp _ _ hC
  have new : ((h.push (W.kdv_tup rest)).push (excO C h.objs.size)).get? (h.objs.size + 1) = some (excO C h.objs.size) := by heap_get
  have self : (Value.ref C :: bm).contains (.ref C) = true := by simp
  have i1 := hi.keeps kp
  have b1 := (hb (.ref (h.objs.size + 1))).keeps kp
  unfold isInstance
  repeat (first
    | with_reducible refine wpAny_loadPart_at new ?_
    | (with_reducible refine wpAny_isSubtype_exc hC1 ?_; rw [self])
    | wp_step)
  show wpAny _ _ (typeLookup (.ref C) _) _ _ _
  refine i1.at ?_
  refine wpAny_holding (wpAny_bind (b1.at ?_))
  refine wpAny_bind (wpAny_call (codeAny_mono hq fun r s' z => ?_))
  rcases r with e | (v | _ | _ | _) <;> first | exact z | exact z.elim | skip
  obtain ⟨rfl, z⟩ := z
  first
    | exact wpAny_pure (wpAny_pure z)
    | (wp_walk; exact z)
theorem callK (F : ExcBaseFacts B newId initId bm) {rest : List Value} {kw : List (Str × Value)} {fI : Addr}
    (hC : h.get? C = some (excClassObj nm q C N bs bm hd sn sub ab col dd k0 k1 k2 k3 k5 newId))
    (hi : W.Looks (model prog w) h (typeLookup (.ref C) "__init__") (some (.ref fI)))
    (hb : ∀ self, W.Looks (model prog w) h (bindSpecial (.ref fI) self) (.ref fI, [self])) (hrest : rest.length ≤ sizeLine)
    (hq : codeAny (model prog w) (A.under (.builtin "type.__call__" ⟨.ref C :: rest, kw⟩)) (.call (.ref fI) ⟨.ref (h.objs.size + 1) :: rest, kw⟩)
      (W.InitBack (h.objs.size + 1) R) ⟨(h.push (W.kdv_tup rest)).push (excO C h.objs.size), g, d, t, os⟩) :
    codeAny (model prog w) A (.call (.ref C) ⟨rest, kw⟩) R ⟨h, g, d, t, os⟩ := by
  have f1 := tc_lookup
  have f2 := tc_bind (.ref C)
  have ty : (⟨h, g, d, t, os⟩ : Shared).TypeIs (.ref C) "type" := ⟨_, hC, rfl⟩
  refine codeAny_of_tree ?_
  show wpAny _ _ (callAny (.ref C) _) _ _ _
  repeat (any_goals (first
    | assumption
    | with_reducible refine wpAny_loadPart_at hC ?_
    | wp_step))
  refine ⟨rfl, ?_⟩
  refine codeAny_call_builtin_at (Code.quiet_builtin _ (by decide +kernel)) entry_typeCall ?_
  refine wpAny_check_type_call_sub hC ?_
  refine typeCallK F hC hi hb hrest (codeAny_mono hq fun r s' z => ?_)
  rcases r with e | (v | _ | _ | _) <;> exact z
end
end EV

set_option Elab.async false
set_option linter.all false
set_option maxRecDepth 100000
set_option maxHeartbeats 4000000
namespace L2
namespace EV
open PySem PySem.Spec PyProof.Rows _root_.EV
/-- what the written part says of an own exception class at C, straight under the built-in base B -/
structure OxC (K : PySem.W.Frag) (C : Addr) (B newId initId : String) (bm : List Value) : Prop where
  F : ExcBaseFacts B newId initId bm
  cls : ∃ nm q N bs sn sub ab col dd k0 k1 k2 k3 k5, K.lookup C = some (excClassObj nm q C N bs bm true sn sub ab col dd k0 k1 k2 k3 k5 newId)
  pas : ∀ self, refuseLoop self "__setattr__" bm = pure ()
  obj : bm.contains (.type "object") = true
  sa : PySem.W.findIn K (.ref C) "__setattr__" = some (some (.builtin "object.__setattr__"))
  ga : PySem.W.findIn K (.ref C) "__getattribute__" = some (some (.builtin "BaseException.__getattribute__"))
  gg : PySem.W.findIn K (.ref C) "__getattr__" = some none
  exC : PySem.W.subIn K (.ref C) (.type "BaseException") = some true
  kC : PySem.W.keepIn K (.ref C) = true
  hd : PySem.W.hasDictIn K C = true
  ca : PySem.W.findIn K (.ref C) "__class__" = some (some (.builtin "object.__class__"))
  cn : PySem.W.specialIn K (.builtin "object.__class__") "__get__" = some (some (.builtin "getset_descriptor.__get__"))
  ct : PySem.W.takesIn K (.builtin "object.__class__") = some true
  om : PySem.W.mroIn K C (.type "object") = some true
section
variable {X : Cx} {pins : List (Addr × Obj)} {σ : St} {H : Hp} {s : Shared} {a C dx : Addr} {f : Str} {y : V} {u : Value} {fs : List (Str × V)}
variable {Q : Unit → Shared → Prop} {E : Value → Shared → Prop} {A : Around} {B newId initId : String} {bm : List Value}
theorem OxC.data {K : PySem.W.Frag} (T : OxC K C B newId initId bm) : ∃ cd, PySem.W.clsIn K C = some cd ∧ cd.mro = .ref C :: bm ∧ cd.hasDict = true := by
  obtain ⟨nm, q, N, bs, sn, sub, ab, col, dd, k0, k1, k2, k3, k5, hC⟩ := T.cls
  refine ⟨{ name := nm, bases := bs, mro := .ref C :: bm, ns := N, qualname := q, hasDict := true, slotNames := sn, subclasses := sub, abstract := ab, collection := col, hasDel := false }, ?_, rfl, rfl⟩
  unfold PySem.W.clsIn
  rw [hC] <;> rfl
theorem OxC.look {K : PySem.W.Frag} (T : OxC K C B newId initId bm) {cd : ClassData} (e : cd.mro = .ref C :: bm) (self : Value) :
    refuseLoop self "__setattr__" cd.mro = pure () ∧ cd.mro.contains (.type "object") = true ∧ cd.mro.isEmpty = false := by
  rw [e, refuseLoop_ref]
  refine ⟨T.pas self, ?_, rfl⟩
  rw [List.contains_cons, T.obj, Bool.or_true]
/-- self.f = y, the first field -/
theorem ox_first (T : OxC X.K C B newId initId bm) (I : Inv X pins σ H s) (e : H a = some (exo a C none)) (no : PySem.W.findIn X.K (.ref C) f = some none) (ry : RelV y u)
    (h : ∀ dx s', H dx = none → dx ≠ a → Inv X pins σ (upd (upd H dx (exd dx [(f, y)])) a (exo a C (some dx))) s' → Q () s') :
    wpAny (model X.prog X.w) A (setAttr (.ref a) f u) Q E s := by
  obtain ⟨cd, hcl, hmr, hdi⟩ := T.data
  obtain ⟨l1, l2, l3⟩ := T.look hmr (.ref a)
  obtain ⟨t1, ho⟩ := exo_at I.hok e
  obtain ⟨hp, g, d, t, os⟩ := s
  refine PySem.W.set_plain I.kIn (ox := { cls := .ref C, dict := none, data := .fields #[.ref t1, .none, .none, .none, .bool false, .none] })
    (od := none) ⟨ho, rfl, rfl, trivial⟩ T.sa ?_
  refine put_first I.kIn ho hcl l1 l2 l3 hdi no fun h' tk' dx k big ne hx hn => ?_
  have free : H dx = none := I.hok.fresh big
  have old : ∀ {b : Addr} {o : Obj}, hp.get? b = some o → b ≠ dx := fun {b o} q => Nat.ne_of_lt (Nat.lt_of_lt_of_le (Heap.lt_size q) big)
  have nota : ∀ {b : Addr}, H b = none → b ≠ a := fun {b} n z => by
    subst z
    rw [e] at n
    cases n
  have un : Un X.fs [] H (upd (upd H dx (exd dx [(f, y)])) a (exo a C (some dx))) hp h' := by
    refine ⟨fun b o q n _ _ => k b o (nota n) q, fun b o q n _ _ => ⟨o.slots, k b o (nota n) q⟩, fun b o q n _ => ?_, fun b o q _ => ?_, fun b xs q => ?_, fun b o v q => ?_, fun b ps q => ⟨#[], ?_⟩⟩
    · rw [upd_ne (nota n), upd_ne (old q)]
      exact n
    · by_cases hb : b = a
      · subst hb
        exact ⟨_, hx⟩
      · exact ⟨o, k b o hb q⟩
    · rw [upd_ne (at_ne e q exo_tup), upd_ne (ne_of_none q free)]
      exact q
    · rw [upd_ne (at_ne e q exo_frz), upd_ne (ne_of_none q free)]
      exact q
    · rw [upd_ne (at_ne e q exo_tbl), upd_ne (ne_of_none q free), q]
      simp
  refine h dx _ free ne (I.un (t' := tk') un fun b o q => ?_)
  by_cases hb : b = a
  · subst hb
    rw [upd_same] at q
    cases q
    exact exo_ok hx
  · rw [upd_ne hb] at q
    by_cases hd : b = dx
    · subst hd
      rw [upd_same] at q
      cases q
      exact exd_ok hn (relO_put (fs := []) ry fun g => True.intro)
    · rw [upd_ne hd] at q
      refine (I.hok b o q).stay (fun c v hc z => k c v ?_ z) (fun c hc => ?_) fun c xs hc => ?_
      · rcases hc with hc | hc
        · subst hc
          exact hb
        · exact at_ne e hc exo_own
      · rw [upd_ne (at_ne e hc exo_own), upd_ne (ne_of_none hc free)]
        exact hc
      · rw [upd_ne (at_ne e hc exo_tup), upd_ne (ne_of_none hc free)]
        exact hc
/-- self.f = y, a further field -/
theorem ox_more (T : OxC X.K C B newId initId bm) (I : Inv X pins σ H s) (e : H a = some (exo a C (some dx))) (ed : H dx = some (exd dx fs)) (hl : fs.length ≤ 900)
    (no : PySem.W.findIn X.K (.ref C) f = some none) (ry : RelV y u) (h : ∀ s', Inv X pins σ (upd H dx (exd dx ((f, y) :: fs))) s' → Q () s') :
    wpAny (model X.prog X.w) A (setAttr (.ref a) f u) Q E s := by
  obtain ⟨cd, hcl, hmr, hdi⟩ := T.data
  obtain ⟨l1, l2, l3⟩ := T.look hmr (.ref a)
  obtain ⟨t1, ho⟩ := exo_at I.hok e
  obtain ⟨mA, hns, rel⟩ := exd_at I.hok ed
  have hw := within_of rel
  obtain ⟨hp, g, d, t, os⟩ := s
  obtain ⟨oD, _, _, hoD, _, _⟩ := hns.count hw
  refine PySem.W.set_plain I.kIn (ox := { cls := .ref C, dict := some dx, data := .fields #[.ref t1, .none, .none, .none, .bool false, .none] })
    (od := some oD) ⟨ho, rfl, rfl, hoD⟩ T.sa ?_
  refine put_more I.kIn ho hns hw (by rw [List.length_map]; omega) hcl l1 l2 l3 hdi no fun h' tk' k hn => ?_
  have there : ∃ o, h'.get? dx = some o := by
    obtain ⟨o, _, _, e', _⟩ := hn
    exact ⟨o, e'⟩
  refine h _ (I.write (t' := tk') (x := dx) (e := dx) (o := exd dx ((f, y) :: fs)) ?_ (.inl rfl) k there (exd_ok hn (relO_put ry rel)))
  rw [ed]
  exact True.intro
/-- B.__init__(self, ..) of an exception without fields: nothing of it is told -/
theorem ox_init {us : List Value} {Q : Value → Shared → Prop} (T : OxC X.K C B newId initId bm) (I : Inv X pins σ H s) (e : H a = some (exo a C none)) (hl : us.length ≤ sizeLine)
    (h : ∀ s', Inv X pins σ H s' → Q .none s') : wpAny (model X.prog X.w) A (call (.builtin initId) (.ref a :: us)) Q E s := by
  obtain ⟨nm, q, N, bs, sn, sub, ab, col, dd, k0, k1, k2, k3, k5, hC⟩ := T.cls
  obtain ⟨t1, ho⟩ := exo_at I.hok e
  obtain ⟨hp, g, d, t, os⟩ := s
  refine wpAny_call (PySem.HandSPX.init_base T.F (fun _ => rfl) (I.kIn _ _ hC) ho hl fun h' t2 k hx => ?_)
  have J := I.write (t' := t) (x := a) (e := a) (o := exo a C none) (by rw [e]; exact True.intro) (.inl rfl) k ⟨_, hx⟩ (exo_ok hx)
  have eu : upd H a (exo a C none) = H := by
    funext b
    by_cases hb : b = a
    · subst hb
      rw [upd_same, e]
    · rw [upd_ne hb]
  rw [eu] at J
  exact h _ J
end
/-! ### the readings -/
def tBin (K : PySem.W.Frag) (B newId initId : String) (bm : List Value) (ta : TA) : TE := fun σ H Q => ta σ H fun vs H1 =>
  ∃ (a C : Addr) (ws : List V), vs = .ref a :: ws ∧ ws.length ≤ 1000 ∧ OxC K C B newId initId bm ∧ H1 a = some (exo a C none) ∧ Q .non H1
def tPut (K : PySem.W.Frag) (B newId initId : String) (bm : List Value) (f : Str) (to te : TE) : TS := fun D σ H => te σ H fun y H1 => to σ H1 fun x H2 =>
  ∃ a C : Addr, x = .ref a ∧ OxC K C B newId initId bm ∧ PySem.W.findIn K (.ref C) f = some none ∧
    ((H2 a = some (exo a C none) ∧ ∀ dx, H2 dx = none → dx ≠ a → D.nx σ (upd (upd H2 dx (exd dx [(f, y)])) a (exo a C (some dx)))) ∨
      ∃ (dx : Addr) (fs : List (Str × V)), H2 a = some (exo a C (some dx)) ∧ H2 dx = some (exd dx fs) ∧ fs.length ≤ 900 ∧ D.nx σ (upd H2 dx (exd dx ((f, y) :: fs))))
/-- C(..) as a value: gV puts the exception itself, the values by position and those by name in the parameters' order -/
def tNew (C : Addr) (n m : Nat) (sp : Sp) (gV : List V → List V → List V) (t tk : TA) : TE := fun σ H Q => t σ H fun vs H1 => tk σ H1 fun zs H2 =>
  vs.length = n ∧ zs.length = m ∧ vs.length ≤ 1000 ∧ ∀ a, H2 a = none → sp (gV (.ref a :: vs) zs) (upd H2 a (exo a C none)) (fun v H3 => v = .non ∧ Q (.ref a) H3) (fun _ _ _ => False)
/-- e.f, e such an exception -/
def tFld (K : PySem.W.Frag) (f : Str) (te : TE) : TE := fun σ H Q => te σ H fun x H1 =>
  ∃ (a C dx : Addr) (B newId initId : String) (bm : List Value) (fs : List (Str × V)) (v : V), x = .ref a ∧ OxC K C B newId initId bm ∧ PySem.W.findIn K (.ref C) f = some none ∧
    H1 a = some (exo a C (some dx)) ∧ H1 dx = some (exd dx fs) ∧ fs.lookup f = some v ∧ Q v H1
/-- isinstance(e, c) -/
def rIsX (K : PySem.W.Frag) : List V → Hp → VK → Prop := fun xs H Q => ∃ (a C : Addr) (od : Option Addr) (fs : List (Str × V)) (B newId initId : String) (bm : List Value) (c : V) (u : Value) (b : Bool),
  xs = [.ref a, c] ∧ ClsV c u ∧ OxC K C B newId initId bm ∧ H a = some (exo a C od) ∧ (∀ dx, od = some dx → H dx = some (exd dx fs)) ∧ PySem.W.kitOne K (.ref C) u = some b ∧ Q (.bl b) H
section
variable {X : Cx} {o e : Expr} {es : List Expr} {to te : TE} {ta : TA} {f : Str} {p p' p1 p2 pos : Pos} {B newId initId : String} {bm : List Value}
theorem pe_bin {nB : Str} {pl : Sem Bool} (hg : Gl X nB) (hm : X.mg nB = none) (hv : bootBuiltins nB = some (.type B)) (ty : typeOf (.type B) = pure (.type "type"))
    (vV : PySem.W.findCls X.K (.type B) (.type "type") "__init__" = some (.val (.builtin initId))) (q4 : Manifest.isStub B = false) (ha : PA X (e :: es) ta) (q3 : PySem.W.handedIn (.builtin initId) = true)
    (hn1 : nB ≠ "__name__" := by decide) (hn2 : (nB == ("__debug__" : Str)) = false := by decide)
    (hc : eval (.Call (.Attribute (.Name nB p1) "__init__" p2) (e :: es) [] pos) X.env = (do
      let ov ← eval (.Name nB p1) X.env
      standAt p2.atName
      let (f, first) ← holding [ov] (getMethod ov "__init__" pl)
      callWith pos f first (backTo pos (starEach (e :: es) X.env)) (backToKw pos (keywordEach [] X.env))) := by rfl)
    (he : starEach (e :: es) X.env = (false, eval e X.env) :: starEach es X.env := by rfl) (hpl : (backTo pos (starEach es X.env)).any (·.1) = false := by rfl) :
    PE X (.Call (.Attribute (.Name nB p1) "__init__" p2) (e :: es) [] pos) (tBin X.K B newId initId bm ta) := by
  refine ⟨fun pins s σ H Q I h => ?_⟩
  refine PySem.W.methodCall_KW (ld_blt I hg hm hv ?_ hn1 hn2) hc
  obtain ⟨m, fr⟩ := I.fr
  refine PySem.W.method_type fr I.ok.mod.kin ty q4 vV q3 ?_
  show wpAny _ _ (callWith pos (Value.builtin initId) [] (backTo pos (starEach (e :: es) X.env)) []) _ _ _
  refine PyProof.Rows.callWith_method1 (thn (ha.run pos pins _ σ H _ (I.tok _) h) fun us s1 ⟨vs, H1, I1, r1, a, C, ws, ev, hl, T, ea, q⟩ => ?_) he hpl
  subst ev
  cases r1 with
  | @cons _ u0 _ ur ra rr =>
    obtain rfl : u0 = Value.ref a := ra
    have len : ur.length ≤ sizeLine := by
      have e1 := Paired.length rr
      rw [← e1, sizeLine_eq]
      omega
    exact ox_init T I1 ea len fun s' J => ⟨.non, H1, J, rfl, q⟩
/-- self.f = e -/
theorem ps_put (ho : PE X o to) (he : PE X e te) (hs : swapsWith e (some (.Attribute o f p')) pos.line X.env = pure false := by rfl) :
    PS X (.Assign [.Attribute o f p'] e pos) (tPut X.K B newId initId bm f to te) := by
  refine ⟨fun pins s σ H D I h => ?_⟩
  refine plainObj_wpAny_Assign_Attribute (thn (he.run pins s σ H _ I h) fun v s1 ⟨y, H1, I1, r1, q1⟩ => ?_) hs
  refine thn (ho.run pins s1 σ H1 _ I1 q1) fun u s2 ⟨x, H2, I2, r2, a, C, ex, T, no, q⟩ => ?_
  subst ex
  obtain rfl : u = Value.ref a := r2
  rcases q with ⟨ea, q⟩ | ⟨dx, fs, ea, ed, hl, q⟩
  · exact ox_first T I2 ea no r1 fun dx s' n ne J => ⟨σ, _, J, q dx n ne⟩
  · exact ox_more T I2 ea ed hl no r1 fun s' J => ⟨σ, _, J, q⟩
/-- e.f -/
theorem pe_xfld (he : PE X e te) (hb : attributeBase e f X.env (eval e X.env) = eval e X.env := by rfl) : PE X (.Attribute e f pos) (tFld X.K f te) := by
  refine ⟨fun pins s σ H Q I h => ?_⟩
  refine attr_of hb (thn (he.run pins s σ H _ I h) fun u s1 ⟨x, H1, I1, rx, a, C, dx, B, newId, initId, bm, fs, v, ex, T, no, ea, ed, l, q⟩ => ?_)
  subst ex
  obtain rfl : u = Value.ref a := rx
  obtain ⟨t1, ho⟩ := exo_at I1.hok ea
  obtain ⟨mA, hns, hr⟩ := exd_at I1.hok ed
  obtain ⟨od, hod, hl⟩ := lookIn_ns hns
  obtain ⟨u, hu, ru⟩ := RelO.some_of (v := v) (o := mA f) (by rw [← l]; exact hr f)
  have J : PySem.W.InstAt s1.heap a { cls := .ref C, dict := some dx, data := .fields #[.ref t1, .none, .none, .none, .bool false, .none] } C (some od) := ⟨ho, rfl, rfl, hod⟩
  exact HandSPX.exc_get I1.kIn J T.ga T.gg T.exC (PySem.W.findObj_own T.hd no rfl (by rw [hl, hu])) (handed_of ru) ⟨v, H1, I1.tok _, ru, q⟩
theorem call_isX : CallR X (.builtin "isinstance") (rIsX X.K) := by
  intro pins s σ H xs us Q I r h
  obtain ⟨a, C, od, fs, B, newId, initId, bm, c, u, b, rfl, k, T, ea, ed, e, q⟩ := h
  obtain ⟨u1, u2, rfl, r1, r2⟩ := vals2 r
  have e2 := k.eq r2
  subst e2
  obtain rfl : u1 = Value.ref a := r1
  obtain ⟨t1, ho⟩ := exo_at I.hok ea
  obtain ⟨cd, hcl, _⟩ := T.data
  have some_ : (PySem.W.clsIn X.K C).isSome = true := by rw [hcl]; rfl
  have fin : ∀ tk, EP X pins σ Q (.bool b) { s with toks := tk } := fun tk => ⟨.bl b, H, I.tok tk, rfl, q⟩
  cases od with
  | none =>
    have J : PySem.W.InstAt s.heap a { cls := .ref C, dict := none, data := .fields #[.ref t1, .none, .none, .none, .bool false, .none] } C none := ⟨ho, rfl, rfl, trivial⟩
    exact PySem.W.kia_one (PySem.W.kitx_exc some_ T.ga T.gg T.exC T.ca T.cn T.ct T.om) I.kIn J e (fun z => nomatch z) fin
  | some dx =>
    obtain ⟨mA, hns, hr⟩ := exd_at I.hok (ed dx rfl)
    obtain ⟨o', hod, hl⟩ := lookIn_ns hns
    have J : PySem.W.InstAt s.heap a { cls := .ref C, dict := some dx, data := .fields #[.ref t1, .none, .none, .none, .bool false, .none] } C (some o') := ⟨ho, rfl, rfl, hod⟩
    exact PySem.W.kia_one (PySem.W.kitx_exc some_ T.ga T.gg T.exC T.ca T.cn T.ct T.om) I.kIn J e (fun z => nomatch z) fin
end
/-! ### making one, kept as a value -/
section
variable {X : Cx} {CX : CXT} {k n : Nat} {fI C : Addr} {fd : FuncData} {ps ks : List Str} {sp : Sp} {x : Str} {p pos : Pos} {e : Expr} {es : List Expr} {kws : List Keyword}
variable {t tk : TA} {g : List Value → List Value → List Value} {gV : List V → List V → List V} {B newId initId : String} {bm : List Value}
theorem run_new {pins : List (Addr × Obj)} {σ : St} {H : Hp} {s : Shared} {Q : VK} {us ws : List Value} {vs zs : List V} (T : OxC X.K C B newId initId bm)
    (iC : PySem.W.findIn X.K (.ref C) "__init__" = some (some (.ref fI))) (tI : PySem.W.typeIn X.K (.ref fI) = some (.type "function"))
    (F : FnOk X.prog X.w X.K X.mg X.base CX k fI fd ps sp) (hr : Room (k + 1) X.A) (hb : KBn X.K fd ps (n + 1) ks g gV) (hx : Passes CX X (fun _ _ _ => False))
    (I : Inv X pins σ H s) (r : Vals vs us) (rz : Vals zs ws) (l1 : vs.length = n) (l2 : zs.length = ks.length) (l3 : vs.length ≤ 1000)
    (h : ∀ a, H a = none → sp (gV (.ref a :: vs) zs) (upd H a (exo a C none)) (fun v H3 => v = .non ∧ Q (.ref a) H3) (fun _ _ _ => False)) :
    wpAny (model X.prog X.w) X.A (call (.ref C) us (ks.zip ws)) (EP X pins σ Q) X.xe s := by
  obtain ⟨nm, q, N, bs, sn, sub, ab, col, dd, k0, k1, k2, k3, k5, hC⟩ := T.cls
  obtain ⟨hp, g1, dr, tk, os⟩ := s
  have big : hp.objs.size ≤ hp.objs.size + 1 := Nat.le_succ _
  have free : H (hp.objs.size + 1) = none := I.hok.fresh big
  have hq := h (hp.objs.size + 1) free
  have kp : ∀ b o, hp.get? b = some o → ((hp.push (PySem.W.kdv_tup us)).push (PySem.HandSPX.excO C hp.objs.size)).get? b = some o := fun b o e =>
    Heap.get?_push_of_some _ (Heap.get?_push_of_some _ e)
  have new : ((hp.push (PySem.W.kdv_tup us)).push (PySem.HandSPX.excO C hp.objs.size)).get? (hp.objs.size + 1) = some (PySem.HandSPX.excO C hp.objs.size) := by heap_get
  have I2 : Inv X pins σ (upd H (hp.objs.size + 1) (exo (hp.objs.size + 1) C none))
      ⟨(hp.push (PySem.W.kdv_tup us)).push (PySem.HandSPX.excO C hp.objs.size), g1, dr, tk, os⟩ :=
    I.laid (t' := tk) (a := hp.objs.size + 1) (o := exo (hp.objs.size + 1) C none) (h' := (hp.push (PySem.W.kdv_tup us)).push (PySem.HandSPX.excO C hp.objs.size)) kp big (exo_ok new)
  have ra : Vals (V.ref (hp.objs.size + 1) :: vs) (Value.ref (hp.objs.size + 1) :: us) := .cons rfl r
  have lu : us.length ≤ sizeLine := by
    have e1 := Paired.length r
    rw [← e1, sizeLine_eq]
    omega
  have n1 : (Value.ref (hp.objs.size + 1) :: us).length = n + 1 := by
    rw [List.length_cons, ← r.length, l1]
  refine wpAny_call (EV.callK T.F (I.kIn _ _ hC) (PySem.W.looks_findIn I.kIn iC) (fun self => PySem.W.bind_fn I.kIn self tI) lu
    (codeAny_mono (F.run _ X.stack _ _ ⟨Value.ref (hp.objs.size + 1) :: us, ks.zip ws⟩ (g (Value.ref (hp.objs.size + 1) :: us) ws) _ _ (fun _ _ _ => False)
      (hr.make C us (ks.zip ws)) (I2.env0.make C us (ks.zip ws)) (hb.to _ _ ws I2.kIn n1 (rz.length.symm.trans l2)) (hb.rel ra rz) hq) fun r s' hq' => ?_))
  cases r with
  | error er => exact hx pins σ _ _ er s' I2 hq'
  | ok fl =>
    cases fl with
    | ret u =>
      obtain ⟨v, H3, I3, rv, ev, q3⟩ := I2.after hq'
      subst ev
      exact ⟨rv, ⟨V.ref (hp.objs.size + 1), H3, I3, rfl, q3⟩⟩
    | next => exact False.elim hq'
    | brk => exact False.elim hq'
    | cont => exact False.elim hq'
/-- C(e, ..) -/
theorem pe_new (T : OxC X.K C B newId initId bm) (iC : PySem.W.findIn X.K (.ref C) "__init__" = some (some (.ref fI))) (tI : PySem.W.typeIn X.K (.ref fI) = some (.type "function"))
    (F : FnOk X.prog X.w X.K X.mg X.base CX k fI fd ps sp) (hr : Room (k + 1) X.A) (hb : KBn X.K fd ps (n + 1) [] g gV) (hx : Passes CX X (fun _ _ _ => False))
    (hg : Gl X x) (hm : X.mg x = some (.ref C)) (ha : PA X (e :: es) t) (hdb : (x == ("__debug__" : Str)) = false := by decide)
    (he : starEach (e :: es) X.env = (false, eval e X.env) :: starEach es X.env := by rfl) (hpl : (backTo pos (starEach es X.env)).any (·.1) = false := by rfl) :
    PE X (.Call (.Name x p) (e :: es) [] pos) (tNew C n 0 sp gV t tNil) := by
  refine ⟨fun pins s σ H Q I h => ?_⟩
  refine wpAny_Call_Name_kw (ld_glob I hg hm ?_ hdb)
  refine PySem.W.callWith_K (h₀ := X.base) I.ok.mod.kin T.kC (thn (ha.run pos pins s σ H _ I h) fun us s1 ⟨vs, H1, I1, r1, q1⟩ => ⟨I1.kIn, ?_⟩) he hpl
  obtain ⟨l1, _, l3, q2⟩ := q1
  exact run_new (ws := []) (zs := []) T iC tI F hr hb hx I1 r1 .nil l1 rfl l3 q2
/-- C(k = v, ..) -/
theorem pe_newK (T : OxC X.K C B newId initId bm) (iC : PySem.W.findIn X.K (.ref C) "__init__" = some (some (.ref fI))) (tI : PySem.W.typeIn X.K (.ref fI) = some (.type "function"))
    (F : FnOk X.prog X.w X.K X.mg X.base CX k fI fd ps sp) (hr : Room (k + 1) X.A) (hb : KBn X.K fd ps 1 ks g gV) (hx : Passes CX X (fun _ _ _ => False))
    (hg : Gl X x) (hm : X.mg x = some (.ref C)) (hkw : PK X kws tk) (hall : (backToKw pos (keywordEach kws X.env)).all (·.1.isSome) = true := by rfl)
    (hks : (backToKw pos (keywordEach kws X.env)).filterMap (·.1) = ks := by rfl) (hdb : (x == ("__debug__" : Str)) = false := by decide)
    (hpl : ((backTo pos (starEach [] X.env)).any (·.1) || (backToKw pos (keywordEach kws X.env)).any (·.1.isNone)) = false := by rfl) :
    PE X (.Call (.Name x p) [] kws pos) (tNew C 0 ks.length sp gV tNil tk) := by
  refine ⟨fun pins s σ H Q I h => ?_⟩
  refine wpAny_Call_Name_kw (ld_glob I hg hm ?_ hdb)
  refine PySem.W.callWith_KW0 (h₀ := X.base) I.ok.mod.kin T.kC hall ?_ hpl
  refine thn (hkw.run pos pins s σ H _ I h) fun ws s2 ⟨zs, H2, I2, rz, l1, l2, l3, q2⟩ => ⟨I2.kIn, ?_⟩
  rw [hks]
  exact run_new (us := []) (vs := []) T iC tI F hr hb hx I2 .nil rz rfl l2 (by decide) q2
end
end EV
end L2

set_option Elab.async false
set_option linter.all false
set_option maxRecDepth 100000
set_option maxHeartbeats 4000000
/-! Defs that show values by repr: a promise that is kept where no repr runs yet. -/
namespace L2
namespace EV
open PySem PySem.Spec PyProof.Rows _root_.EV
/-- FnOk, where no repr runs yet -/
structure FnG (P : Program) (w : World) (K : PySem.W.Frag) (mg : Str → Option Value) (base : Heap) (CX : CXT) (k : Nat) (f : Addr) (fd : FuncData) (ps : List Str) (sp : Sp) : Prop where
  len : ∀ vs H Q E, sp vs H Q E → vs.length = ps.length
  run : ∀ (A : Around) (outer : List Env) (s : Shared) (H : Hp) (args : Args) (us : List Value) (vs : List V) (Q : VK) (E : XK), Room k A → A.guards = some [] →
    Env0 P w K mg base A outer s H → BindsTo s fd args (ps.zip us) → Vals vs us → sp vs H Q E → codeAny (model P w) A (.call (.ref f) args) (CR CX outer P w H s Q E) s
section
variable {P : Program} {w : World} {K : PySem.W.Frag} {mg : Str → Option Value} {base : Heap}
theorem okG {x qual : Str} {st : Stmt} {f : Addr} {fd : FuncData} {N ps : List Str} {k : Nat} {sp : Sp} (F : Fun K x qual st f fd) (S : FnScope N ps (defScope st))
    (len : ∀ vs H Q E, sp vs H Q E → vs.length = ps.length)
    (hbody : ∀ (cdv : Value) (A : Around) (outer : List Env) (s : Shared) (H : Hp) (vs : List V) (Q : VK) (E : XK), Room k (A.deeper (envOfC qual (defScope st) s.heap.objs.size f cdv)) →
      A.guards = some [] → sp vs H Q E →
      ∃ t, PSs (cxOf CX0 P w K mg base N qual (defScope st) f cdv A outer s H E).nox (defBody st) t ∧ t { nx := fun _ H' => Q .non H', rt := Q } (start N vs) H) :
    FnG P w K mg base CX0 (k + 1) f fd ps sp := by
  obtain ⟨oc, od, kV, doc, pm, an, cdv, ct, osl, rfl, lk, hcd⟩ := F.ex
  refine ⟨len, fun A outer s H args us vs Q E hr hgd e0 hb r hsp => ?_⟩
  have hl := len _ _ _ _ hsp
  have keptB : ∀ b o, base.get? b = some o → s.heap.get? b = some o := fun b o e => (e0.bs b o e).1
  have KX : K.In s.heap := e0.mod.kin.keeps keptB
  have lim : s.heap.NoLimit := e0.mod.nolimit.keeps keptB
  have kinds : ∀ y ∈ ps.zip us, (defScope st).names.lookup y.1 = some .local ∨
      ((defScope st).names.lookup y.1 = some .cell ∧ ((cellsFrom (s.heap.objs.size + 1) (defScope st).names []).lookup y.1).isSome = true) := fun ⟨n, v⟩ hy =>
    (S.par n (List.of_mem_zip hy).1).elim .inl fun q => .inr ⟨q, PySem.W.cellsFrom_some _ _ _ (.inl q)⟩
  refine codeAny_call_function hr.depth (KX _ _ lk) rfl S.co S.gen rfl (PySem.W.codeRec_of KX hcd) (hb _ _ _ _ ?_)
  refine wpAny_newFunctionEnv_cells S.kind kinds fun env he s1 x => ?_
  subst he
  refine ⟨lim.keeps x.toInCall.keep, codeAny_func ?_⟩
  obtain ⟨t, ht0, hq⟩ := hbody cdv A outer s H vs Q E (hr.deeper _) hgd hsp
  have ht := ht0.nox
  have I : Inv (cxOf CX0 P w K mg base N qual (defScope st) f cdv A outer s H E) [] (start N vs) H s1 := inv_start S hr.hd e0 hl r x
  refine wpAny_mono (ht.run [] s1 (start N vs) H _ I hq) (fun fl s' hs => ?_) fun e s' hs => hs
  cases fl with
  | ret u =>
    obtain ⟨v, σ', H', J, rv, q⟩ := hs
    exact ⟨v, H', J.os, J.bare, J.base, J.hok, rv, q⟩
  | next =>
    obtain ⟨σ', H', J, q⟩ := hs
    exact ⟨V.non, H', J.os, J.bare, J.base, J.hok, rfl, q⟩
  | brk =>
    obtain ⟨_, _, _, q⟩ := hs
    exact False.elim q
  | cont =>
    obtain ⟨_, _, _, q⟩ := hs
    exact False.elim q
end
section
variable {X : Cx} {CX : CXT} {k : Nat} {f : Addr} {fd : FuncData} {ps : List Str} {sp : Sp} {x : Str} {p pos : Pos} {e : Expr} {es : List Expr} {t : TA} {E : XK}
/-- f(e, ..) of such a def -/
theorem pe_callG (F : FnG X.prog X.w X.K X.mg X.base CX k f fd ps sp) (hr : Room k X.A) (hgd : X.A.guards = some []) (hg : Gl X x) (hm : X.mg x = some (.ref f))
    (hk : PySem.W.keepIn X.K (.ref f) = true) (hb : Binds X.K fd ps []) (hx : Passes CX X E) (ha : PA X (e :: es) t) (hdb : (x == ("__debug__" : Str)) = false := by decide)
    (he : starEach (e :: es) X.env = (false, eval e X.env) :: starEach es X.env := by rfl) (hpl : (backTo pos (starEach es X.env)).any (·.1) = false := by rfl) :
    PE X (.Call (.Name x p) (e :: es) [] pos) (fun σ H Q => t σ H fun vs H1 => sp vs H1 Q E) := by
  refine ⟨fun pins s σ H Q I h => ?_⟩
  refine wpAny_Call_Name_kw (ld_glob I hg hm ?_ hdb)
  refine PySem.W.callWith_K (h₀ := X.base) I.ok.mod.kin hk (thn (ha.run pos pins s σ H _ I h) fun us s1 ⟨vs, H1, I1, r, q⟩ => ⟨I1.kIn, ?_⟩) he hpl
  have hl : us.length = ps.length := by
    rw [← r.length]
    exact F.len _ _ _ _ q
  have bn := hb s1 us I1.kIn (by rw [List.append_nil]; exact hl)
  rw [List.append_nil] at bn
  refine wpAny_call (codeAny_mono (F.run X.A X.stack s1 H1 ⟨us, []⟩ us vs Q E hr hgd I1.env0 bn r q) fun r2 s2 hq => ?_)
  cases r2 with
  | error er => exact hx pins σ H1 s1 er s2 I1 hq
  | ok fl =>
    cases fl with
    | ret u => exact I1.after hq
    | next => exact False.elim hq
    | brk => exact False.elim hq
    | cont => exact False.elim hq
end
/-- the law's own call, of a promise that is kept where no repr runs -/
theorem law_callG {P : Program} {w : World} {K : PySem.W.Frag} {mg mb : Str → Option Value} {k : Nat} {fa a : Addr} {fd : FuncData} {x : Str} {sp : Sp} {s1 : Shared} {vs : List Value} {ns : List Int}
    (KX : K.In s1.heap) (hns : s1.heap.Ns mainGlobals mg) (hb : s1.heap.Ns builtinsNs mb) (hbb : ∀ x : Str, x ≠ "__name__" → mb x = bootBuiltins x) (hlim : s1.heap.NoLimit) (hg : s1.gens = #[])
    (ha : s1.heap.get? a = some { cls := .type "list", data := .seq vs.toArray }) (hi : IntsAre vs ns) (hl : ns.length ≤ sizeLine) (hr : Room k callerA)
    (F : ∀ base : Heap, K.In base → base.Ns mainGlobals mg → FnG P w K mg base CX0 k fa fd [x] sp) (hbind : ∀ (s : Shared) (u : Value), BindsTo s fd ⟨[u], []⟩ [(x, u)])
    (hsp : ∀ H : Hp, Only H → SqL K H a (ns.map V.int) → sp [.ref a] H (fun v _ => v = .bl true) fun _ _ _ => False) :
    codeAny (model P w) callerA (.call (.ref fa) ⟨[.ref a], []⟩) (fun r s' => r = .ok (.ret (.bool true)) ∧ OldK s1.heap s'.heap ∧ s'.os = s1.os ∧ AllBare s'.gens) s1 := by
  have rv := vals_ints hi
  have lenV := hi.length
  have core : ∀ H : Hp, Only H → SqL K H a (ns.map V.int) → HOk P w H s1.heap → (∀ b, H b ≠ none → b = a) → (H a ≠ none → K.lookup a = none) →
      codeAny (model P w) callerA (.call (.ref fa) ⟨[.ref a], []⟩) (fun r s' => r = .ok (.ret (.bool true)) ∧ OldK s1.heap s'.heap ∧ s'.os = s1.os ∧ AllBare s'.gens) s1 := by
    intro H hO hS hok onlyA notK
    have noDict : ∀ {b : Addr} {o : Obj} {es : Array DictEntry} {ep : Nat}, s1.heap.get? b = some o → o.data = .dict es ep → H b = none := fun {b o es ep} e d => by
      cases q : H b with
      | none => rfl
      | some u =>
        obtain rfl : b = a := onlyA b (by rw [q]; simp)
        rw [ha] at e
        cases e
        exact nomatch (show Data.seq vs.toArray _ = Data.dict es ep from d)
    have nsK : ∀ {b : Addr} {m : Str → Option Value}, s1.heap.Ns b m → (hidT s1.heap H).Ns b m := fun {b m} ⟨o, es, ep, e, d, r⟩ => ⟨o, es, ep, hidT_get e (noDict e d), d, r⟩
    have kin : K.In (hidT s1.heap H) := fun b o e => hidT_get (KX b o e) (by
      cases q : H b with
      | none => rfl
      | some u =>
        obtain rfl : b = a := onlyA b (by rw [q]; simp)
        rw [notK (by rw [q]; simp)] at e
        cases e)
    obtain ⟨mc, c1, c2⟩ := hlim
    have hM : Mod K mg (hidT s1.heap H) := ⟨kin, nsK hns, ⟨mb, nsK hb, hbb⟩, ⟨mc, nsK c1, c2⟩⟩
    have noF : ∀ b, b ∉ frs [] := fun b z => absurd (show b ∈ ([] : List Addr) from z) (by simp)
    have e0 : Env0 P w K mg (hidT s1.heap H) callerA [] s1 H :=
      ⟨rfl, hM, fun b o e => of_hidT e, Nat.le_of_eq (hidT_size _ _), trivial, fun b z => absurd z (noF b), hok, .of_eq hg⟩
    refine codeAny_mono ((F _ kin (nsK hns)).run callerA [] s1 H ⟨[.ref a], []⟩ [.ref a] [.ref a] _ _ hr rfl e0 (hbind s1 (.ref a)) (.cons rfl .nil) (hsp H hO hS)) fun r s' h => ?_
    cases r with
    | error e => exact False.elim h
    | ok fl =>
      cases fl with
      | next => exact False.elim h
      | brk => exact False.elim h
      | cont => exact False.elim h
      | ret u =>
        obtain ⟨v, H', os, bare, un, hok', r', q⟩ := h
        obtain rfl : v = .bl true := q
        obtain rfl : u = Value.bool true := r'
        refine ⟨rfl, OldK.of_keep fun b o e => ?_, os, bare⟩
        cases q : H b with
        | none => exact un.keep b o e q (noF b) (by simp)
        | some u =>
          rcases hO b with z | ⟨ob, xs, z⟩
          · rw [q] at z
            cases z
          · obtain ⟨e1, _⟩ := hok b _ z
            obtain ⟨e2, _⟩ := hok' b _ (un.frzs b ob _ z)
            rw [e] at e1
            cases e1
            exact e2
  cases hk : K.lookup a with
  | some o =>
    have e := KX a o hk
    rw [ha] at e
    cases e
    refine core (fun _ => none) (fun _ => .inl rfl) (.inr ⟨_, vs.toArray, _, hk, rfl, rfl, rfl, ?_, by simpa using rv⟩) (fun b u z => ?_) (fun b z => absurd rfl z) fun z => absurd rfl z
    · rw [List.size_toArray, lenV]
      exact hl
    · exact nomatch (show (none : Option HO) = some u from z)
  | none =>
    refine core (fun b => if b = a then some (.frz { cls := .type "list", data := .seq vs.toArray } (.lst (ns.map V.int))) else none) (fun b => ?_)
      (.inl (.inr ⟨{ cls := .type "list", data := .seq vs.toArray }, if_pos rfl⟩)) (fun b u z => ?_) (fun b z => ?_) fun _ => hk
    · by_cases hb : b = a
      · exact .inr ⟨_, _, if_pos hb⟩
      · exact .inl (if_neg hb)
    · by_cases hb : b = a
      · have z2 := (if_pos hb).symm.trans z
        cases z2
        subst hb
        exact ⟨ha, by rw [List.length_map]; exact hl, vs, _, rv, ha⟩
      · exact nomatch (if_neg hb).symm.trans z
    · by_cases hb : b = a
      · exact hb
      · exact absurd (if_neg hb) z
theorem walk_ofG {l : PySem.W.OpenLaw} {n k : Nat} {q : Program} {loose : List Str} {XP : (Str → Option Value) → Heap → Prop} {YP : World → Heap → Prop} {d : DefRec} {K : Params → PySem.W.Frag} {sp : PySem.W.Frag → Sp} {x : Str}
    (hn : l.most = some n) (hn2 : n ≤ sizeLine) (hdf : d.params.defaults = []) (hr : Room k callerA) (hY : ∀ (w : World) (h : Heap), YP w h → (K w.params).In h)
    (F : ∀ (w : World) (mg : Str → Option Value) (fa : Addr) (h : Heap), (K w.params).In h → h.Ns mainGlobals mg → mg d.name = some (.ref fa) →
      ∃ fd : FuncData, (∀ (s : Shared) (u : Value), BindsTo s fd ⟨[u], []⟩ [(x, u)]) ∧
        ∀ base : Heap, (K w.params).In base → base.Ns mainGlobals mg → FnG l.prog w (K w.params) mg base CX0 k fa fd [x] (sp (K w.params)))
    (hsp : ∀ (K : PySem.W.Frag) (H : Hp) (a : Addr) (ns : List Int), ns.length ≤ n → Only H → SqL K H a (ns.map V.int) → sp K [.ref a] H (fun v _ => v = .bl true) fun _ _ _ => False) :
    PySem.W.WalkO q loose XP YP l.row.toRowW d [] (fun f vs => PySem.call f vs) := by
  refine Att.attach_call hn hdf fun w s0 s1 mg mb fa o pm cd doc a vs ns G Y ho hd hcd hmg hobj hints hlen hg => ?_
  have KX := hY w _ Y
  obtain ⟨fd, hb, hF⟩ := F w mg fa _ KX G.T.g hmg
  exact law_callG KX G.T.g G.T.b G.T.builtins G.T.nolimit hg hobj hints (Nat.le_trans hlen hn2) hr hF hb fun H hO hS => hsp _ H a ns hlen hO hS
end EV
end L2

set_option Elab.async false
set_option linter.all false
set_option maxRecDepth 100000
set_option maxHeartbeats 4000000
/-! repr of a list of data. -/
namespace L2
namespace EV
open PySem PySem.Spec PyProof.Rows _root_.EV
/-- v stands for d: data without dicts, or the dict {"a": 1} -/
inductive Sh (K : PySem.W.Frag) (H : Hp) : V → PyData → Prop
  | plain {v : V} {d : PyData} : Dp K H v d → d.hasDict = false → Sh K H v d
  | one {a : Addr} : H a = some (.dK [(Sum.inr "a", V.int 1)]) → Sh K H (.ref a) (.dict [(.str "a", .int 1)])
def Small (d : PyData) : Prop := d.showable = true ∧ d.shown.length ≤ 60 ∧ d.depth ≤ 5
inductive ShAll (K : PySem.W.Frag) (H : Hp) : List V → List PyData → Prop
  | nil : ShAll K H [] []
  | cons {v : V} {vs : List V} {d : PyData} {ds : List PyData} : Sh K H v d → Small d → ShAll K H vs ds → ShAll K H (v :: vs) (d :: ds)
section
variable {X : Cx} {pins : List (Addr × Obj)} {σ : St} {H : Hp} {s : Shared}
theorem sh_reads (I : Inv X pins σ H s) {v : V} {d : PyData} {u : Value} (h : Sh X.K H v d) (r : RelV v u) : ∃ as, Reads s.heap u d as ∧ (d.hasDict = true → sysModules ∉ as) := by
  cases h with
  | plain hd no =>
    obtain ⟨as, q⟩ := Dp.reads I d v u hd r
    exact ⟨as, q, fun z => by rw [no] at z; cases z⟩
  | @one a e =>
    obtain rfl : u = Value.ref a := r
    obtain ⟨_, nsys, vs, kv, o, es, ep, ho, ex, hd, _, pr, _⟩ := (show ObjOk X.prog X.w H s.heap a (.dK [(Sum.inr "a", V.int 1)]) from I.hok a _ e)
    cases kv with
    | @cons _ p _ ps hk kr =>
      cases kr
      obtain ⟨k, v⟩ := p
      obtain ⟨ek, t, ev⟩ := hk
      dsimp only at ek ev
      subst ek ev
      generalize hes : es.toList = l at pr
      cases pr with
      | @cons e1 _ l2 _ k1 k2 k3 =>
        cases k3
        obtain ⟨t2, ek⟩ : ∃ t2, e1.key = Value.str "a" t2 := Value.isStrOf_shape k1
        refine ⟨[a], Reads.dict (as := []) (bs := []) ho ex.1 hd ?_ ?_, fun _ z => ?_⟩
        · rw [hes]
          show ReadsAll s.heap [e1.key] [PyData.str "a"] []
          rw [ek]
          exact ReadsAll.cons (Reads.str _ _) ReadsAll.nil
        · rw [hes]
          show ReadsAll s.heap [e1.val] [PyData.int 1] []
          rw [k2]
          exact ReadsAll.cons (Reads.int _ _) ReadsAll.nil
        · obtain rfl : sysModules = a := by simpa using z
          simp at nsys
theorem sh_all (I : Inv X pins σ H s) : ∀ {vs : List V} {ds : List PyData} {us : List Value}, ShAll X.K H vs ds → Vals vs us →
    ∃ as bs, ReadsAll s.heap us ds as ∧ ReadAtMost s.heap (PyData.depthAll ds) bs ∧ ReprAllK X.prog X.w bs s.heap (PyData.depthAll ds) us (PyData.shownAll ds)
  | _, _, _, .nil, .nil => ⟨[], [], ReadsAll.nil, (fun _ h => nomatch h), by simp only [PyData.shownAll]; exact .nil⟩
  | _, _, _, .cons (d := d) (ds := ds) h sm t, .cons r rt => by
    obtain ⟨as1, q1, hsm⟩ := sh_reads I h r
    obtain ⟨as2, b2, q2, m2, k2⟩ := sh_all I t rt
    obtain ⟨b1, m1, k1⟩ := ReprK.of_reads (prog := X.prog) (w := X.w) q1 sm.1 hsm (Nat.le_trans sm.2.1 (by decide))
    refine ⟨as1 ++ as2, b1 ++ b2, ReadsAll.cons q1 q2, ?_, ?_⟩
    · simp only [PyData.depthAll]
      exact (m1.mono (Nat.le_max_left _ _)).append (m2.mono (Nat.le_max_right _ _))
    · simp only [PyData.depthAll, PyData.shownAll]
      exact .cons ((k1.more fun b hb => List.mem_append_left _ hb).level_le (Nat.le_max_left _ _)) (k2.more_le (fun b hb => List.mem_append_right _ hb) (Nat.le_max_right _ _))
theorem shall_depth {K : PySem.W.Frag} {H : Hp} : ∀ {vs : List V} {ds : List PyData}, ShAll K H vs ds → PyData.depthAll ds ≤ 5 ∧ (∀ t ∈ PyData.shownAll ds, t.length ≤ 60) ∧ (PyData.shownAll ds).length = vs.length
  | _, _, .nil => ⟨by simp only [PyData.depthAll]; omega, by simp [PyData.shownAll], by simp [PyData.shownAll]⟩
  | _, _, .cons h sm t => by
    obtain ⟨h1, h2, h3⟩ := shall_depth t
    refine ⟨by simp only [PyData.depthAll]; have := sm.2.2; omega, ?_, by simp [PyData.shownAll, h3]⟩
    intro t ht
    simp only [PyData.shownAll, List.mem_cons] at ht
    rcases ht with rfl | ht
    · exact sm.2.1
    · exact h2 t ht
theorem sum_le60 : ∀ {ts : List Str}, (∀ t ∈ ts, t.length ≤ 60) → (ts.map (·.length)).sum ≤ 60 * ts.length
  | [], _ => by simp
  | t :: ts, h => by
    have h1 := h t (List.mem_cons_self ..)
    have h2 := sum_le60 (ts := ts) fun t ht => h t (List.mem_cons_of_mem _ ht)
    simp only [List.map_cons, List.sum_cons, List.length_cons]
    omega
/-- repr(l), l a list of some data -/
def rShow (K : PySem.W.Frag) : List V → Hp → VK → Prop := fun xs H Q => ∃ (l : Addr) (v : V) (vs : List V) (ds : List PyData), xs = [.ref l] ∧ H l = some (.lst (v :: vs)) ∧ ShAll K H (v :: vs) ds ∧ vs.length ≤ 1000 ∧
  Q (.str (listText (PyData.shownAll ds))) H
theorem call_show (hgd : X.A.guards = some []) (hu : X.A.units + 64 < cLine) : CallR X (.builtin "repr") (rShow X.K) := by
  intro pins s σ H xs us Q I r h
  obtain ⟨l, v, vs, ds, rfl, e, sh, lz, q⟩ := h
  obtain ⟨u, rfl, ru⟩ := vals1 r
  obtain rfl : u = Value.ref l := ru
  obtain ⟨_, its, n, rv, ho⟩ := (show ObjOk X.prog X.w H s.heap l (.lst (v :: vs)) from I.hok l _ e)
  obtain ⟨as, bs, q1, m1, k1⟩ := sh_all I sh rv
  obtain ⟨dp, sz, ln⟩ := shall_depth sh
  have whole : Reads s.heap (.ref l) (.list ds) (l :: as) := Reads.list ho rfl rfl (by simpa using q1)
  have hna : l ∉ bs := not_mem_of_deeper whole (by simp only [PyData.depth]; omega) m1
  have hz : (listText (PyData.shownAll ds)).length ≤ sizeLine := by
    have h1 := listText_len_le (PyData.shownAll ds)
    have h2 := sum_le60 sz
    rw [ln, List.length_cons] at *
    rw [sizeLine_eq]
    omega
  cases rv with
  | @cons _ u1 _ ut r1 r2 =>
    refine call_repr_slot (by omega) ⟨_, ho, rfl⟩ PySem.F.slot_list_repr.toG ?_
    refine call_list_reprK ho rfl rfl hna (by simpa using k1.length_eq) (fun i y ey => k1.item i y (by simpa using ey)) (A := X.A.in1) hgd (fun b _ => Clear.nil b) ?_ (fun _ _ z => z) (fun h' t tk hk => ⟨_, _, rfl, ?_⟩) hz
    · show X.A.units + 1 + (PyData.depthAll ds + 1) < cLine
      omega
    · exact ⟨.str _, H, I.kept (t' := tk) hk, ⟨_, rfl⟩, q⟩
end
end EV
end L2

set_option Elab.async false
set_option linter.all false
set_option maxRecDepth 100000
set_option maxHeartbeats 4000000
/-! Tuples of an int, a text and an int: sorted, and <=. -/
namespace L2
open PySem PySem.Spec PyProof.Rows
abbrev T3 : Type := Int × Str × Int
abbrev sl (a : Str) : List Nat := a.cps.toList
theorem sl_inj {a b : Str} (h : sl a = sl b) : a = b := by
  cases a with
  | mk x =>
    cases b with
    | mk y =>
      have : x = y := Array.toList_inj.mp h
      rw [this]
/-- x is ahead of y -/
def lt3 (a b : T3) : Bool := if a.1 = b.1 then (if a.2.1 = b.2.1 then decide (a.2.2 < b.2.2) else decide (sl a.2.1 < sl b.2.1)) else decide (a.1 < b.1)
theorem lt3_iff {a b : T3} : lt3 a b = true ↔ a.1 < b.1 ∨ (a.1 = b.1 ∧ (sl a.2.1 < sl b.2.1 ∨ (a.2.1 = b.2.1 ∧ a.2.2 < b.2.2))) := by
  unfold lt3
  by_cases e1 : a.1 = b.1
  · rw [if_pos e1]
    by_cases e2 : a.2.1 = b.2.1
    · rw [if_pos e2, decide_eq_true_eq]
      refine ⟨fun h => .inr ⟨e1, .inr ⟨e2, h⟩⟩, ?_⟩
      rintro (h | ⟨_, h | ⟨_, h⟩⟩)
      · omega
      · rw [e2] at h
        exact absurd h (List.lt_irrefl _)
      · exact h
    · rw [if_neg e2, decide_eq_true_eq]
      refine ⟨fun h => .inr ⟨e1, .inl h⟩, ?_⟩
      rintro (h | ⟨_, h | ⟨h, _⟩⟩)
      · omega
      · exact h
      · exact absurd h e2
  · rw [if_neg e1, decide_eq_true_eq]
    refine ⟨fun h => .inl h, ?_⟩
    rintro (h | ⟨h, _⟩)
    · exact h
    · exact absurd h e1
theorem lt3_no {a b : T3} : lt3 a b = false ↔ ¬ (a.1 < b.1 ∨ (a.1 = b.1 ∧ (sl a.2.1 < sl b.2.1 ∨ (a.2.1 = b.2.1 ∧ a.2.2 < b.2.2)))) := by
  rw [← lt3_iff]
  cases lt3 a b <;> simp
theorem swo3 : SrtO.Swo lt3 := by
  refine ⟨fun x y h => ?_, fun x y z h1 h2 => ?_⟩
  · have a := lt3_iff.mp h
    refine lt3_no.mpr ?_
    rintro (h1 | ⟨h1, h2⟩)
    · rcases a with a | ⟨a, _⟩ <;> omega
    · rcases a with a | ⟨_, a⟩
      · omega
      · rcases h2 with h2 | ⟨h2, h3⟩
        · rcases a with a | ⟨a, _⟩
          · exact List.lt_asymm a h2
          · rw [a] at h2
            exact List.lt_irrefl _ h2
        · rcases a with a | ⟨_, a⟩
          · rw [h2] at a
            exact List.lt_irrefl _ a
          · omega
  · have a := lt3_no.mp h1
    have b := lt3_no.mp h2
    refine lt3_no.mpr ?_
    have a1 : ¬ y.1 < x.1 := fun q => a (.inl q)
    have b1 : ¬ z.1 < y.1 := fun q => b (.inl q)
    rintro (q | ⟨q1, q2⟩)
    · omega
    · have e1 : y.1 = x.1 := by omega
      have e2 : z.1 = y.1 := by omega
      have a2 : ¬ sl y.2.1 < sl x.2.1 := fun q => a (.inr ⟨e1, .inl q⟩)
      have b2 : ¬ sl z.2.1 < sl y.2.1 := fun q => b (.inr ⟨e2, .inl q⟩)
      have l1 : sl x.2.1 ≤ sl y.2.1 := List.not_lt.mp a2
      have l2 : sl y.2.1 ≤ sl z.2.1 := List.not_lt.mp b2
      rcases q2 with q2 | ⟨q2, q3⟩
      · exact absurd q2 (List.not_lt.mpr (List.le_trans l1 l2))
      · have e3 : sl y.2.1 = sl x.2.1 := by
          rw [q2] at l2
          exact List.le_antisymm l2 l1
        have e4 := sl_inj e3
        have a3 : ¬ y.2.2 < x.2.2 := fun q => a (.inr ⟨e1, .inr ⟨e4, q⟩⟩)
        have b3 : ¬ z.2.2 < y.2.2 := fun q => b (.inr ⟨e2, .inr ⟨q2.trans e4.symm, q⟩⟩)
        omega
theorem swo3k {α : Type} (k : α → T3) : SrtO.Swo fun v u : α => lt3 (k v) (k u) := ⟨fun x y => swo3.asym (k x) (k y), fun x y z => swo3.tr (k x) (k y) (k z)⟩
/-- v is a tuple of an int, a text and an int in the heap -/
def IsTrip (h : Heap) (v : Value) (x : T3) : Prop := ∃ a o t u r n, v = .ref a ∧ h.get? a = some o ∧ o.cls = .type "tuple" ∧ o.data = .seq #[.int x.1 t, .str x.2.1 u, .int x.2.2 r] n
theorem IsTrip.keeps {h h' : Heap} {v : Value} {x : T3} (p : IsTrip h v x) (k : ∀ b o, h.get? b = some o → o.cls = .type "tuple" → h'.get? b = some o) : IsTrip h' v x := by
  obtain ⟨a, o, t, u, r, n, e, ho, hc, hd⟩ := p
  exact ⟨a, o, t, u, r, n, e, k _ _ ho hc, hc, hd⟩
theorem firsts3 {h : Heap} : ∀ {vs : List Value}, (∀ v ∈ vs, ∃ x, IsTrip h v x) → ∃ fs : List Value, PySem.W.KatTups h vs fs ∧ fs.length = vs.length ∧ ∀ f ∈ fs, ∃ x t, f = Value.int x t
  | [], _ => ⟨[], PySem.W.KatTups.nil, rfl, fun _ hm => by simp at hm⟩
  | v :: vs, hp => by
    obtain ⟨fs, h1, h2, h3⟩ := firsts3 (vs := vs) fun v' hm => hp v' (List.mem_cons_of_mem _ hm)
    obtain ⟨x, a, o, t, u, r, n, e, ho, hc, hd⟩ := hp v (List.mem_cons_self ..)
    subst e
    refine ⟨.int x.1 t :: fs, PySem.W.KatTups.cons ho hc hd rfl h1, by rw [List.length_cons, List.length_cons, h2], fun f hm => ?_⟩
    rcases List.mem_cons.mp hm with rfl | hm
    · exact ⟨x.1, t, rfl⟩
    · exact h3 f hm
section
variable {prog : Program} {w : World} {A : Around} {E : Value → Shared → Prop} {s : Shared}
theorem trip_cmp {vs : List Value} {k : Value → T3} (hp : ∀ v ∈ vs, IsTrip s.heap v (k v)) : SrtO.Cmp prog w A s (tuples' true) (fun p => p.1 ∈ vs) (SrtO.lt2 fun v u => lt3 (k v) (k u)) := by
  intro p q hm hm'
  have h1 := hp _ hm
  have h2 := hp _ hm'
  show wpAny (model prog w) A (keyLt' (tuples' true) p.1 q.1) (fun r s' => s' = s ∧ r = lt3 (k p.1) (k q.1)) (fun _ _ => False) s
  generalize k p.1 = x at h1 ⊢
  generalize k q.1 = y at h2 ⊢
  obtain ⟨x1, x2, x3⟩ := x
  obtain ⟨y1, y2, y3⟩ := y
  obtain ⟨a, o, t, u, r, n, e, ho, hc, hd⟩ := h1
  obtain ⟨a', o', t', u', r', n', e', ho', hc', hd'⟩ := h2
  rw [e, e']
  unfold lt3
  refine PySem.W.kat_lt ho hd ho' hd' ?_
  show PySem.W.KatLex prog w A true (decide (3 < 3)) _ [(.int x1 t, .int y1 t'), (.str x2 u, .str y2 u'), (.int x3 r, .int y3 r')] 0 s
  refine PySem.W.kat_cons (SeqAt.EqAt.int_int x1 t y1 t' prog w _ _ ?_)
  refine PySem.W.kat_go (fun e1 => ?_) (fun e1 => ?_)
  · have ex : x1 = y1 := by simpa using e1
    subst ex
    refine PySem.W.kat_yes (PySem.W.kat_cons (SeqAt.EqAt.str_str x2 u y2 u' prog w _ _ ?_))
    refine PySem.W.kat_go (fun e2 => ?_) (fun e2 => ?_)
    · have ey : x2 = y2 := by simpa using e2
      subst ey
      refine PySem.W.kat_yes (PySem.W.kat_cons (SeqAt.EqAt.int_int x3 r y3 r' prog w _ _ ?_))
      refine PySem.W.kat_go (fun e3 => ?_) (fun e3 => ?_)
      · have ez : x3 = y3 := by simpa using e3
        subst ez
        refine PySem.W.kat_yes (PySem.W.kat_nil ⟨rfl, ?_⟩)
        simp
      · refine PySem.W.kat_no (PySem.W.kat_one _ _ (PyProof.Rows.lt_int ?_))
        refine (show s = s ∧ _ from ⟨rfl, ?_⟩)
        simp
    · have ey : ¬ x2 = y2 := by simpa using e2
      refine PySem.W.kat_no (PySem.W.kat_one _ _ (PyProof.Rows.lt_str ?_))
      refine (show s = s ∧ _ from ⟨rfl, ?_⟩)
      simp [ey]
  · have ex : ¬ x1 = y1 := by simpa using e1
    refine PySem.W.kat_no (oneLt_int ⟨rfl, ?_⟩)
    simp [ex]
theorem trips_sortable {a : Addr} {vs : List Value} {k : Value → T3} (h0 : 0 < vs.length) (hp : ∀ v ∈ vs, IsTrip s.heap v (k v)) (ha : ∀ o, s.heap.get? a = some o → o.cls ≠ .type "tuple") : SrtO.SortableO prog w A s a vs fun v u => lt3 (k v) (k u) := by
  intro h' keep
  have hp' : ∀ v ∈ vs, IsTrip h' v (k v) := fun v hm => (hp v hm).keeps fun b o e c => keep b o (fun z => by subst z; exact ha o e c) e
  obtain ⟨fs, h1, h2, h3⟩ := firsts3 fun v hm => ⟨_, hp' v hm⟩
  refine ⟨tuples' true, fun Q E hq => ?_, trip_cmp hp'⟩
  refine PySem.W.kat_kind (T := .type "int") h1 (by omega) (fun f hm => ?_) (by rfl) ?_
  · obtain ⟨x, t, rfl⟩ := h3 f hm
    exact PySem.W.Looks.now
  · have e : (Value.type "int" != Value.type "tuple") = true := by first | decide +kernel | rfl | decide
    rw [e]
    exact hq
theorem sorted_trips {l : Addr} {vs : List Value} {k : Value → T3} {Q : Value → Shared → Prop} (hl : s.heap.IsList l vs.toArray) (hz : vs.length ≤ sizeLine) (hp : ∀ v ∈ vs, IsTrip s.heap v (k v))
    (h : ∀ (h' : Heap) (d : Addr) (out : List Value), SrtO.Srtd (fun v u => lt3 (k v) (k u)) out → SrtO.Stb (fun v u => lt3 (k v) (k u)) out vs → (∀ b o, s.heap.get? b = some o → h'.get? b = some o) → s.heap.objs.size ≤ d → (∃ n, h'.get? d = some (seqObj "list" out.toArray n)) → Q (.ref d) { s with heap := h' }) :
    wpAny (model prog w) A (call (.builtin "sorted") [.ref l]) Q E s := by
  refine SrtO.sorted_ord (swo3k k) hl hz (fun h2 h₁ a ha kk => ?_) fun out hs hb => ?_
  · refine trips_sortable (s := { s with heap := h₁ }) (by omega) (fun v hm => (hp v hm).keeps fun b o e _ => (kk b o e).2) fun o e => ?_
    have e' : some o = some (seqObj "list" vs.toArray 0) := e.symm.trans ha
    cases e'
    intro c
    exact absurd (Value.type.inj c) (by decide)
  · exact h _ _ out hs hb (fun b o e => sortedAll_old e) (Nat.le_succ _) (sortedAll_at s.heap vs out.toArray)
end
/-- sorted(xs), xs a list of such tuples (k says which): a new list of the same ones -/
def rSorted3 (K : PySem.W.Frag) : List V → Hp → VK → Prop := fun vs H Q => ∃ (a : Addr) (xs : List V) (k : V → T3), vs = [V.ref a] ∧ SqL K H a xs ∧ (∀ x ∈ xs, ∃ t, x = V.ref t ∧ H t = some (.tup [.int (k x).1, .str (k x).2.1, .int (k x).2.2])) ∧
  ∀ ys p, SrtO.Srtd (fun x y => lt3 (k x) (k y)) ys → ys.Perm xs → H p = none → Q (.ref p) (upd H p (.lst ys))
theorem vals_3 {x y z : V} {us : List Value} (r : Vals [x, y, z] us) : ∃ u w' t', us = [u, w', t'] ∧ RelV x u ∧ RelV y w' ∧ RelV z t' := by
  cases r with
  | cons r1 r2 =>
    obtain ⟨u, w', rfl, r3, r4⟩ := vals2 r2
    exact ⟨_, u, w', rfl, r1, r3, r4⟩
section
variable {X : Cx}
theorem cr_sorted3 : CallR X (.builtin "sorted") (rSorted3 X.K) := by
  intro pins s σ H vs us Q I r h
  obtain ⟨a, xs, k, rfl, hs, hx, q⟩ := h
  obtain ⟨its, rv, hl, hz⟩ := I.list hs
  obtain ⟨u, rfl, ru⟩ := vals1 r
  obtain rfl : u = Value.ref a := ru
  obtain ⟨e1, e2⟩ := refs_back rv fun x m => by
    obtain ⟨t, e, _⟩ := hx x m
    exact ⟨t, e⟩
  refine sorted_trips (k := fun u => k (backV u)) hl.isList (by rw [← rv.length]; exact hz) (fun v hv => ?_) fun h' d out h1 h2 kp hd hn => ?_
  · obtain ⟨t, rfl⟩ := e2 v hv
    have hm : V.ref t ∈ xs := by rw [e1]; exact List.mem_map.mpr ⟨_, hv, rfl⟩
    obtain ⟨t', e, ht⟩ := hx _ hm
    cases e
    obtain ⟨_, its2, r2, o, ho, hc, n, hd⟩ := I.hok _ _ ht
    obtain ⟨u1, u2, u3, rfl, ri, rj, rk⟩ := vals_3 r2
    obtain ⟨t1, rfl⟩ := ri
    obtain ⟨t2, rfl⟩ := rj
    obtain ⟨t3, rfl⟩ := rk
    exact ⟨t, o, t1, t2, t3, n, rfl, ho, hc, hd⟩
  · have h3 : ∀ u ∈ out, ∃ a, u = Value.ref a := fun u hu => e2 u (h2.perm.mem_iff.mp hu)
    obtain ⟨n, hn⟩ := hn
    have hb : SrtO.Stb (fun x y => lt3 (k x) (k y)) (out.map backV) xs := by
      rw [e1]
      exact SrtO.Stb.map (swo3k k) backV h2
    refine ⟨.ref d, upd H d (.lst (out.map backV)), I.laid (t' := s.toks) kp hd ⟨?_, out, n, vals_back h3, hn⟩, rfl, q _ d (SrtO.srtd_map h1) hb.perm (I.hok.fresh hd)⟩
    rw [hb.len]
    exact hz
/-- x <= y of two such tuples -/
def rLe3 : R2 := fun x y H Q => ∃ (a b : Addr) (m n : T3), x = .ref a ∧ y = .ref b ∧ H a = some (.tup [.int m.1, .str m.2.1, .int m.2.2]) ∧ H b = some (.tup [.int n.1, .str n.2.1, .int n.2.2]) ∧ Q (.bl (!lt3 n m)) H
theorem le_lex (m n : T3) : Ob.lexAt (fun j => if j = 0 then m.1 == n.1 else if j = 1 then m.2.1 == n.2.1 else m.2.2 == n.2.2)
    (fun j => if j = 0 then decide (m.1 ≤ n.1) else if j = 1 then decide (sl m.2.1 ≤ sl n.2.1) else decide (m.2.2 ≤ n.2.2)) true 0 3 = !lt3 n m := by
  obtain ⟨m1, m2, m3⟩ := m
  obtain ⟨n1, n2, n3⟩ := n
  simp only [Ob.lexAt, lt3]
  by_cases e1 : m1 = n1
  · subst e1
    by_cases e2 : m2 = n2
    · subst e2
      by_cases e3 : m3 = n3
      · subst e3
        simp
      · simp only [beq_self_eq_true, if_true, Nat.zero_add, Nat.one_ne_zero, if_false, Nat.reduceAdd, Nat.reduceEqDiff, beq_iff_eq, e3]
        by_cases z : m3 ≤ n3
        · rw [decide_eq_true z, decide_eq_false (by omega)]
          rfl
        · rw [decide_eq_false z, decide_eq_true (by omega)]
          rfl
    · have e2' : ¬ n2 = m2 := fun z => e2 z.symm
      simp only [beq_self_eq_true, if_true, Nat.zero_add, Nat.one_ne_zero, if_false, beq_iff_eq, e2, e2']
      by_cases z : sl m2 ≤ sl n2
      · rw [decide_eq_true z, decide_eq_false (List.not_lt.mpr z)]
        rfl
      · rw [decide_eq_false z, decide_eq_true (List.not_le.mp z)]
        rfl
  · have e1' : ¬ n1 = m1 := fun z => e1 z.symm
    simp only [if_true, beq_iff_eq, e1, e1', if_false]
    by_cases z : m1 ≤ n1
    · rw [decide_eq_true z, decide_eq_false (by omega)]
      rfl
    · rw [decide_eq_false z, decide_eq_true (by omega)]
      rfl
theorem RcOp.le_str {A : Around} {s : Shared} (a b : Str) (t u : Tok) : Ob.RcOp .LtE A s (.str a t) (.str b u) (decide (sl a ≤ sl b)) := fun _ _ _ _ h => PySem.P.le_str (by
  have e : (!decide (b.cps.toList < a.cps.toList)) = decide (sl a ≤ sl b) := by
    by_cases z : sl a ≤ sl b
    · rw [decide_eq_true z, decide_eq_false (List.not_lt.mpr z)]
      rfl
    · rw [decide_eq_false z, decide_eq_true (List.not_le.mp z)]
      rfl
  rw [e]
  exact h)
theorem op_le3 (hu : X.A.units < cLine) : OpR X (compareOp .LtE) rLe3 := by
  intro pins s σ H x y v u Q I rx ry h
  obtain ⟨a, b, m, n, rfl, rfl, ha, hb, q⟩ := h
  cases rx
  cases ry
  obtain ⟨its, r1, p1, _⟩ := I.tuple (SqT.of ha)
  obtain ⟨its2, r2, p2, _⟩ := I.tuple (SqT.of hb)
  obtain ⟨u1, u2, u3, rfl, ⟨t1, rfl⟩, ⟨t2, rfl⟩, ⟨t3, rfl⟩⟩ := vals_3 r1
  obtain ⟨v1, v2, v3, rfl, ⟨w1, rfl⟩, ⟨w2, rfl⟩, ⟨w3, rfl⟩⟩ := vals_3 r2
  have R := Ob.RcOp.tuples_le (A := X.A) (s := s) (e := fun j => if j = 0 then m.1 == n.1 else if j = 1 then m.2.1 == n.2.1 else m.2.2 == n.2.2)
    (r := fun j => if j = 0 then decide (m.1 ≤ n.1) else if j = 1 then decide (sl m.2.1 ≤ sl n.2.1) else decide (m.2.2 ≤ n.2.2)) p1 p2 hu (fun j h1 h2 => by
    match j, h1 with
    | 0, _ => exact SeqAt.EqAt.int_int _ _ _ _
    | 1, _ => exact SeqAt.EqAt.str_str _ _ _ _
    | 2, _ => exact SeqAt.EqAt.int_int _ _ _ _) (fun j h1 h2 _ => by
    match j, h1 with
    | 0, _ => exact Ob.RcOp.le_int _ _ _ _
    | 1, _ => exact RcOp.le_str _ _ _ _
    | 2, _ => exact Ob.RcOp.le_int _ _ _ _)
  have e3 : Ob.lexAt (fun j => if j = 0 then m.1 == n.1 else if j = 1 then m.2.1 == n.2.1 else m.2.2 == n.2.2)
    (fun j => if j = 0 then decide (m.1 ≤ n.1) else if j = 1 then decide (sl m.2.1 ≤ sl n.2.1) else decide (m.2.2 ≤ n.2.2)) (decide (3 ≤ 3)) 0 (min 3 3) = !lt3 n m := le_lex m n
  have z : wpAny (model X.prog X.w) X.A (compareOp .LtE (.ref a) (.ref b)) (EP X pins σ Q) X.xe s := R X.prog X.w X.xe (EP X pins σ Q) ⟨.bl _, H, I, rfl, by
    rw [← e3] at q
    exact q⟩
  exact z
end
end L2

set_option Elab.async false
set_option linter.all false
set_option maxRecDepth 100000
set_option maxHeartbeats 4000000
/-! The law's draws. -/
namespace K50
open PySem L2 L2.EV
def top (i : Nat) : Stmt := PySem.Challenge.pw_tornlines_k50_whole_other_readers.main.body.getD i (.Pass ⟨0, 0, 0, 0⟩)
abbrev sBegun : Stmt := top 55
abbrev sNext : Stmt := top 56
/-! ### data of ints -/
theorem canLay_ints : ∀ ns : List Int, PyData.canLayAll0 (ns.map PyData.int) = true
  | [] => by simp [PyData.canLayAll0]
  | n :: ns => by simp [PyData.canLayAll0, PyData.canLay0, canLay_ints ns]
theorem depth_ints : ∀ ns : List Int, PyData.depthAll (ns.map PyData.int) = 0
  | [] => by simp [PyData.depthAll]
  | n :: ns => by simp [PyData.depthAll, PyData.depth, depth_ints ns]
theorem shaped_ints (ns : List Int) : SeqAt.shaped (.list (ns.map PyData.int)) = true := by
  show (PyData.canLay0 (.list (ns.map PyData.int)) && decide (PyData.depth (.list (ns.map PyData.int)) ≤ 64)) = true
  rw [Bool.and_eq_true]
  refine ⟨by simp only [PyData.canLay0]; exact canLay_ints ns, decide_eq_true ?_⟩
  simp only [PyData.depth, depth_ints]
  omega
theorem dp_ints {K : PySem.W.Frag} {H : Hp} : ∀ ns : List Int, DpAll K H (ns.map V.int) (ns.map PyData.int)
  | [] => .nil
  | n :: ns => .cons (.int n) (dp_ints ns)
theorem dp_list {K : PySem.W.Frag} {H : Hp} {a : Addr} {ns : List Int} (h : H a = some (.lst (ns.map V.int))) : Dp K H (.ref a) (.list (ns.map PyData.int)) := .lst (SqL.of h) (dp_ints ns)
theorem eqv_nil (ns : List Int) : PyData.eqv (.list (ns.map PyData.int)) (.list []) = ns.isEmpty := by
  cases ns <;> simp [PyData.eqv, PyData.eqvAll]
/-! ### the draws' dict -/
def mkv (c l : Addr) (k : Int) : List (Key × V) := [(Sum.inr "cells", .ref c), (Sum.inr "left", .ref l), (Sum.inr "at", .int k)]
theorem n1 : ¬ (("cells" : Str) = "left") := by decide +kernel
theorem n2 : ¬ (("cells" : Str) = "at") := by decide +kernel
theorem n3 : ¬ (("left" : Str) = "at") := by decide +kernel
theorem n1' : ¬ (("left" : Str) = "cells") := by decide +kernel
theorem n2' : ¬ (("at" : Str) = "cells") := by decide +kernel
theorem n3' : ¬ (("at" : Str) = "left") := by decide +kernel
theorem k1 {a b : Str} (h : ¬ a = b) : ¬ ((Sum.inr a : Key) = Sum.inr b) := fun z => h (Sum.inr.inj z)
theorem v_cells (c l : Addr) (k : Int) : valV (mkv c l k) (Sum.inr "cells" : Key) = some (.ref c) := by simp [valV, mkv, List.find?_cons]
theorem v_left (c l : Addr) (k : Int) : valV (mkv c l k) (Sum.inr "left" : Key) = some (.ref l) := by simp [valV, mkv, List.find?_cons, n1]
theorem v_at (c l : Addr) (k : Int) : valV (mkv c l k) (Sum.inr "at" : Key) = some (.int k) := by simp [valV, mkv, List.find?_cons, n2, n3]
theorem p_left (c l l' : Addr) (k : Int) : putK (mkv c l k) (Sum.inr "left" : Key) (.ref l') = mkv c l' k := by simp [putK, mkv, n1, n3']
theorem p_at (c l : Addr) (k k' : Int) : putK (mkv c l k) (Sum.inr "at" : Key) (.int k') = mkv c l k' := by simp [putK, mkv, n2, n3]
theorem mk_merge (c l : Addr) (k : Int) : mergeK [] (mkv c l k) = mkv c l k := by simp [mergeK, putK, mkv, n1, n2, n3]
structure MAt (H : Hp) (m c l : Addr) (k : Int) : Prop where
  hm : H m = some (.dK (mkv c l k))
  hc : ∃ cs : List Int, H c = some (.lst (cs.map V.int)) ∧ cs.length ≤ 1000
  hl : ∃ ls : List Int, H l = some (.lst (ls.map V.int)) ∧ ls.length ≤ 1000
  ne : c ≠ l
  k0 : 0 ≤ k
  k1 : k ≤ 1000000
/-- a drawn number from 0 to n - 1; only the dict and its list of great cells have changed -/
def spNext : Sp := fun vs H Q _ => ∃ (m c l : Addr) (k n : Int), vs = [.ref m, .int n] ∧ MAt H m c l k ∧ 0 < n ∧ n < 1073741824 ∧ k < 1000000 ∧
  ∀ (r : Int) (H' : Hp) (l' : Addr) (k' : Int), 0 ≤ r → r < n → k' ≤ k + 1 → MAt H' m c l' k' → (l' = l ∨ H l' = none) → (∀ b o, H b = some o → b ≠ m → b ≠ l → H' b = some o) → Q (.int r) H'
/-- the beginning -/
def spBegun (K : PySem.W.Frag) : Sp := fun vs H Q _ => ∃ (a : Addr) (ns : List Int), vs = [.ref a] ∧ SqL K H a (ns.map V.int) ∧ ns.length ≤ 1000 ∧
  ∀ (m c l : Addr) (H' : Hp), MAt H' m c l 0 → H m = none → H c = none → H l = none → Same H H' → Q (.ref m) H'
structure TxtD (mg : Str → Option Value) : Prop where
  list : mg "list" = none
  int : mg "int" = none
  len : mg "len" = none
theorem same_upd {H : Hp} {p : Addr} {o : HO} (h : H p = none) : Same H (upd H p o) := fun b u e => by
  rw [upd_ne (ne_of_none e h)]
  exact e
theorem MAt.same {H H' : Hp} {m c l : Addr} {k : Int} (M : MAt H m c l k) (s : Same H H') : MAt H' m c l k := by
  obtain ⟨h1, ⟨cs, h2, h3⟩, ⟨ls, h4, h5⟩, h6, h7, h8⟩ := M
  exact ⟨s _ _ h1, ⟨cs, s _ _ h2, h3⟩, ⟨ls, s _ _ h4, h5⟩, h6, h7, h8⟩
theorem MAt.set {H : Hp} {m c l : Addr} {k : Int} {ls : List Int} (M : MAt H m c l k) (hz : ls.length ≤ 1000) : MAt (upd H l (.lst (ls.map V.int))) m c l k := by
  obtain ⟨h1, ⟨cs, h2, h3⟩, ⟨ls0, h4, h5⟩, h6, h7, h8⟩ := M
  have ml : m ≠ l := ne_of h1 h4 (fun z => by cases z)
  exact ⟨by rw [upd_ne ml]; exact h1, ⟨cs, by rw [upd_ne h6]; exact h2, h3⟩, ⟨ls, upd_same, hz⟩, h6, h7, h8⟩
/-- another list of great cells -/
theorem MAt.turn {H : Hp} {m c l p : Addr} {k : Int} {ls : List Int} (M : MAt H m c l k) (hp : H p = none) (hz : ls.length ≤ 1000) : MAt (upd (upd H p (.lst (ls.map V.int))) m (.dK (mkv c p k))) m c p k := by
  obtain ⟨h1, ⟨cs, h2, h3⟩, ⟨ls0, h4, h5⟩, h6, h7, h8⟩ := M
  have mp : p ≠ m := (ne_of_none h1 hp).symm
  have cp : c ≠ p := ne_of_none h2 hp
  have cm : c ≠ m := ne_of h2 h1 (fun z => by cases z)
  exact ⟨upd_same, ⟨cs, by rw [upd_ne cm, upd_ne cp]; exact h2, h3⟩, ⟨ls, by rw [upd_ne mp]; exact upd_same, hz⟩, cp, h7, h8⟩
/-- another counter -/
theorem MAt.count {H : Hp} {m c l : Addr} {k k' : Int} (M : MAt H m c l k) (h0 : 0 ≤ k') (h1' : k' ≤ 1000000) : MAt (upd H m (.dK (mkv c l k'))) m c l k' := by
  obtain ⟨h1, ⟨cs, h2, h3⟩, ⟨ls0, h4, h5⟩, h6, h7, h8⟩ := M
  have lm : l ≠ m := ne_of h4 h1 (fun z => by cases z)
  have cm : c ≠ m := ne_of h2 h1 (fun z => by cases z)
  exact ⟨upd_same, ⟨cs, by rw [upd_ne cm]; exact h2, h3⟩, ⟨ls0, by rw [upd_ne lm]; exact h4, h5⟩, h6, h0, h1'⟩
section
variable {K : PySem.W.Frag} {σ : St} {H : Hp} {m c l : Addr} {k : Int}
theorem rd_left {Q : VK} (h0 : σ[0]? = some (some (.ref m))) (M : MAt H m c l k) (q : Q (.ref l) H) : tDGet (tVar 0) (tC (.str "left")) σ H Q := by
  have z : DGet H m (.str "left") (valV (mkv c l k) (Sum.inr "left" : Key)) := DGet.k (k := Sum.inr "left") M.hm
  rw [v_left] at z
  exact ⟨_, h0, m, _, rfl, z, q⟩
theorem rd_cells {Q : VK} (h0 : σ[0]? = some (some (.ref m))) (M : MAt H m c l k) (q : Q (.ref c) H) : tDGet (tVar 0) (tC (.str "cells")) σ H Q := by
  have z : DGet H m (.str "cells") (valV (mkv c l k) (Sum.inr "cells" : Key)) := DGet.k (k := Sum.inr "cells") M.hm
  rw [v_cells] at z
  exact ⟨_, h0, m, _, rfl, z, q⟩
theorem rd_at {Q : VK} (h0 : σ[0]? = some (some (.ref m))) (M : MAt H m c l k) (q : Q (.int k) H) : tDGet (tVar 0) (tC (.str "at")) σ H Q := by
  have z : DGet H m (.str "at") (valV (mkv c l k) (Sum.inr "at" : Key)) := DGet.k (k := Sum.inr "at") M.hm
  rw [v_at] at z
  exact ⟨_, h0, m, _, rfl, z, q⟩
/-- a list of ints against the empty one -/
theorem ne_empty {Q : Bool → Hp → Prop} {a : Addr} {ls : List Int} (hl : H a = some (.lst (ls.map V.int))) (q : ∀ p, H p = none → Q (!ls.isEmpty) (upd H p (.lst []))) :
    tLst tNil σ H fun y H2 => rNeD K (.ref a) y H2 fun x H' => ∃ k, x = .bl k ∧ Q k H' := by
  refine ⟨by decide, fun p hp => ⟨.list (ls.map PyData.int), .list [], dp_list (same_upd hp _ _ hl), .lst (SqL.of upd_same) .nil, shaped_ints ls, shaped_ints [], _, rfl, ?_⟩⟩
  rw [eqv_nil]
  exact q p hp
theorem cut_one (ls : List Int) : cutV (ls.map V.int) (some 1) none = (ls.drop 1).map V.int := by
  unfold cutV
  have e1 : HT.sIx (ls.map V.int).length 0 (some 1) = min 1 (ls.map V.int).length := HT.sIx_nat _ _ 1
  rw [e1, HT.sIx_none]
  cases ls with
  | nil => rfl
  | cons x r =>
    have e2 : min 1 ((x :: r).map V.int).length = 1 := by simp
    rw [e2]
    show List.take ((x :: r).map V.int).length.pred (r.map V.int) = r.map V.int
    exact List.take_of_length_le (by simp)
end
theorem byAll {P : Int → Prop} {G : Prop} (a : (∀ x, P x) → G) (b : ∀ x, P x) : G := a b
theorem iteF' {b : Bool} {A B : Prop} (h : b = false) (q : B) : if b = true then A else B := by
  rw [h]
  exact iteF q
theorem iteT' {b : Bool} {A B : Prop} (h : b = true) (q : A) : if b = true then A else B := by
  rw [h]
  exact iteT q
theorem seq_while {tc : TT} {tb u : TS} {D : Ends} {σ : St} {H : Hp} (W : Nat → Hp → Prop) (R : Hp → Prop) {j0 : Nat} (h0 : W j0 H) (hr : ∀ H2, R H2 → u D σ H2)
    (turn : (∀ H2, R H2 → u D σ H2) → ∀ j H1, W j H1 → tc σ H1 fun b H2 => if b = true then
      ∃ N : St → Hp → Prop, (∀ σ' H', N σ' H' → ∃ j', j' < j ∧ (σ' = σ ∧ W j' H')) ∧ tb { nx := N, rt := D.rt, bk := u D, ct := N } σ H2 else u D σ H2) :
    tSeq (tWhile tc tb) u D σ H := by
  refine ⟨fun j σ' H' => σ' = σ ∧ W j H', ⟨j0, rfl, h0⟩, ?_⟩
  rintro j σ' H1 ⟨rfl, w⟩
  exact turn hr j H1 w
section
variable {P : Program} {w : World} {K : PySem.W.Frag} {mg : Str → Option Value} {base : Heap}
theorem scN : FnScope ["m", "total", "rest", "k", "cell", "mixed"] ["m", "total"] (defScope sNext) := ⟨rfl, rfl, rfl, by decide +kernel, rfl, by decide +kernel, by decide +kernel⟩
theorem ok_next {f : Addr} {fd : FuncData} (F : Fun K "_law_next" "_law_next" sNext f fd) (T : TxtD mg) : FnOk P w K mg base CX0 1 f fd ["m", "total"] spNext := by
  refine F.ok scN (fun vs H Q E h => ?_) (fun cdv A outer s H vs Q E hr h => ?_)
  · obtain ⟨m, c, l, k, n, rfl, _⟩ := h
    rfl
  · obtain ⟨m, c, l, k, n, rfl, M, n0, n1, kk, q⟩ := h
    have hu := hu_of hr
    have hu2 := hr.units
    refine ⟨_, pss_cons (ps_while PassesOwn.never
        (pw_and (pt_cmpR (op_neD hu2) (pe_dget hu (pv 0) pe_str (fun _ _ => rfl)) (pe_lst pa_nil) (nomark _))
          (pw_and1 (pt_cmpR op_eq (pe_ix ix_list (pe_dget hu (pv 0) pe_str (fun _ _ => rfl)) pe_int (fun _ _ => rfl)) pe_int (nomark _)))).pt
        (pss_one (ps_dput hu (pv 0) pe_str (pe_slice sl_list (pe_dget hu (pv 0) pe_str (fun _ _ => rfl)) (po_some pe_int) po_none) rfl)))
      (pss_cons (ps_if (pt_cmpR (op_neD hu2) (pe_dget hu (pv 0) pe_str (fun _ _ => rfl)) (pe_lst pa_nil) (nomark _))
        (pss_cons (ps_set (i := 2) scN.nd rfl (Or.inl rfl) (pe_callTy call_int1 (by rfl) T.int (by decide +kernel) (pa_cons (pe_ix ix_list (pe_dget hu (pv 0) pe_str (fun _ _ => rfl)) pe_int (fun _ _ => rfl)) pa_nil)))
        (pss_cons (ps_asg (pe_op op_fdiv (pv 2) (pv 1)) (pg_sub (pe_dget hu (pv 0) pe_str (fun _ _ => rfl)) pe_int set_list))
        (pss_one (ps_ret (pe_op op_mod (pv 2) (pv 1)))))) pss_nil)
      (pss_cons (ps_set (i := 3) scN.nd rfl (Or.inl rfl) (pe_op op_add (pe_dget hu (pv 0) pe_str (fun _ _ => rfl)) pe_int))
      (pss_cons (ps_dput hu (pv 0) pe_str (pv 3) rfl)
      (pss_cons (ps_set (i := 4) scN.nd rfl (Or.inl rfl) (pe_ifExp (pt_cmpR (op_neD hu2) (pe_dget hu (pv 0) pe_str (fun _ _ => rfl)) (pe_lst pa_nil) (nomark _))
        (pe_ix ix_list (pe_dget hu (pv 0) pe_str (fun _ _ => rfl))
          (pe_op op_mod (pe_callTy call_int1 (by rfl) T.int (by decide +kernel) (pa_cons (pv 3) pa_nil)) (pe_callB call_len_seq (by rfl) T.len PySem.boot_len (pa_cons (pe_dget hu (pv 0) pe_str (fun _ _ => rfl)) pa_nil))) (fun _ _ => rfl))
        pe_int))
      (pss_cons (ps_set (i := 5) scN.nd rfl (Or.inl rfl) (pe_op op_mul (pe_callTy call_int1 (by rfl) T.int (by decide +kernel) (pa_cons
        (pe_op op_add (pe_op op_add (pe_op op_mod (pe_callTy call_int1 (by rfl) T.int (by decide +kernel) (pa_cons (pv 4) pa_nil)) pe_int) (pe_op op_mul pe_int (pv 3))) (pe_op op_mul (pe_op op_mul pe_int (pv 3)) (pv 3))) pa_nil)) pe_int))
      (pss_cons (ps_set (i := 5) scN.nd rfl (Or.inl rfl) (pe_op op_mul (pe_callTy call_int1 (by rfl) T.int (by decide +kernel) (pa_cons
        (pe_op op_add (pe_op op_mod (pe_callTy call_int1 (by rfl) T.int (by decide +kernel) (pa_cons (pv 5) pa_nil)) pe_int) (pe_op op_mul pe_int (pv 3))) pa_nil)) pe_int))
      (pss_one (ps_ret (pe_op op_mod (pe_callTy call_int1 (by rfl) T.int (by decide +kernel) (pa_cons
        (pe_op op_fdiv (pe_op op_mod (pe_callTy call_int1 (by rfl) T.int (by decide +kernel) (pa_cons (pv 5) pa_nil)) pe_int) pe_int) pa_nil)) (pv 1)))))))))), ?_⟩
    obtain ⟨ls0, hl0, ll0⟩ := id M.hl
    refine seq_while (fun j H1 => ∃ (l1 : Addr) (ls : List Int), MAt H1 m c l1 k ∧ H1 l1 = some (.lst (ls.map V.int)) ∧ ls.length = j ∧ (l1 = l ∨ H l1 = none) ∧ (∀ b o, H b = some o → b ≠ m → b ≠ l → H1 b = some o) ∧ ∃ o, H1 l = some o)
      (fun H1 => ∃ (l1 : Addr) (ls : List Int), MAt H1 m c l1 k ∧ H1 l1 = some (.lst (ls.map V.int)) ∧ (l1 = l ∨ H l1 = none) ∧ (∀ b o, H b = some o → b ≠ m → b ≠ l → H1 b = some o))
      ⟨l, ls0, M, hl0, rfl, .inl rfl, fun b o e _ _ => e, _, hl0⟩ ?_ ?_
    · rintro H1 ⟨l1, ls, M1, hl, fl, kp⟩
      refine rd_left rfl M1 (ne_empty hl fun p hp => ?_)
      have M2 := MAt.same M1 (same_upd (o := .lst []) hp)
      have hl2 : upd H1 p (.lst []) l1 = some (.lst (ls.map V.int)) := same_upd hp _ _ hl
      cases ls with
      | cons x r =>
        refine iteT' rfl ?_
        refine rd_left rfl M2 ?_
        refine ⟨l1, _, 0, .int x, rfl, rfl, SqL.of hl2, atI_nat (j := 0) rfl, .inl ⟨x, rfl, ?_⟩⟩
        refine ⟨_, rfl, _, rfl, x, n, rfl, rfl, ⟨n0, by omega⟩, ?_⟩
        refine rd_left rfl M2 ?_
        refine ⟨l1, _, 0, 0, rfl, rfl, hl2, by simp [ixN], ?_⟩
        refine ⟨_, rfl, _, rfl, x, n, rfl, rfl, n0, ?_⟩
        show Q (.int (x % n)) _
        have hz : ((x / n) :: r).length ≤ 1000 := by
          obtain ⟨ls', e1, e2⟩ := M2.hl
          rw [hl2] at e1
          have e3 := congrArg List.length (HO.lst.inj (Option.some.inj e1))
          simp only [List.length_map] at e3
          rw [List.length_cons] at e3 ⊢
          omega
        refine q (x % n) _ l1 k (Int.emod_nonneg _ (by omega)) (Int.emod_lt_of_pos _ n0) (by omega) (M2.set hz) fl fun b o e h1 h2 => ?_
        have h3 : b ≠ l1 := by
          rcases fl with z | z
          · rw [z]
            exact h2
          · exact ne_of_none e z
        rw [upd_ne h3]
        exact same_upd hp _ _ (kp b o e h1 h2)
      | nil =>
        refine iteF' rfl ?_
        refine rd_at rfl M2 ⟨k, 1, rfl, rfl, ?_⟩
        refine ⟨_, rfl, _, rfl, m, _, rfl, DPut.k (k := Sum.inr "at") M2.hm (small1000 (by show 3 ≤ 1000; decide)), ?_⟩
        rw [p_at]
        have M3 := M2.count (k' := k + 1) (by have := M2.k0; omega) (by omega)
        obtain ⟨cs, hc, lc⟩ := id M3.hc
        have k0 := M.k0
        have kp3 : ∀ b o, H b = some o → b ≠ m → b ≠ l → upd (upd H1 p (.lst [])) m (.dK (mkv c l1 (k + 1))) b = some o := fun b o e h1 h2 => by
          rw [upd_ne h1]
          exact same_upd hp _ _ (kp b o e h1 h2)
        refine rd_cells rfl M3 (ne_empty hc fun p3 hp3 => ?_)
        have M4 := MAt.same M3 (same_upd (o := .lst []) hp3)
        have hc4 := same_upd (o := .lst []) hp3 _ _ hc
        have kp4 : ∀ b o, H b = some o → b ≠ m → b ≠ l → upd (upd (upd H1 p (.lst [])) m (.dK (mkv c l1 (k + 1)))) p3 (.lst []) b = some o := fun b o e h1 h2 => same_upd hp3 _ _ (kp3 b o e h1 h2)
        apply byAll
        case a =>
          intro fin
          by_cases he : cs.isEmpty = true
          · refine iteF' (by rw [he]; rfl) ?_
            generalize (3 : Int) = x
            exact fin x
          · refine iteT' (by simpa using he) ?_
            refine rd_cells rfl M4 ?_
            have ne0 : 0 < cs.length := List.length_pos_iff.mpr (fun z => he (by rw [z]; rfl))
            have pos : (0 : Int) < ((cs.map V.int).length : Nat) := by
              simp only [List.length_map]
              omega
            refine ⟨_, rfl, .inl ⟨k + 1, rfl, ?_⟩⟩
            refine rd_cells rfl M4 ?_
            refine ⟨c, _, rfl, .inl (SqL.of hc4), k + 1, _, rfl, rfl, pos, ?_⟩
            have i0 := Int.emod_nonneg (k + 1) (Int.ne_of_gt pos)
            have i1 := Int.emod_lt_of_pos (k + 1) pos
            obtain ⟨j, hj⟩ := Int.eq_ofNat_of_zero_le i0
            have jl : j < cs.length := by
              simp only [List.length_map] at i1 hj
              omega
            obtain ⟨x, hx⟩ : ∃ x : Int, cs[j]? = some x := ⟨cs[j], List.getElem?_eq_getElem jl⟩
            refine ⟨c, _, _, V.int x, rfl, rfl, SqL.of hc4, ?_, ?_⟩
            · rw [hj]
              refine atI_nat ?_
              rw [List.getElem?_map, hx]
              rfl
            · exact fin x
        case b =>
          intro x
          have k2 : -(2 ^ 64) < k + 1 ∧ k + 1 < 2 ^ 64 := ⟨by omega, by omega⟩
          refine ⟨_, rfl, .inl ⟨x, rfl, _, _, rfl, rfl, (by show (0 : Int) < 2147483629; decide), _, rfl, _, _, rfl, rfl, .inl ⟨by decide, by decide⟩, _, _, rfl, rfl, _, rfl, _, _, rfl, rfl, .inl ⟨by decide, by decide⟩,
            _, rfl, _, _, rfl, rfl, .inr k2, _, _, rfl, rfl, .inl ⟨_, rfl, _, _, rfl, rfl, .inr ⟨by decide, by decide⟩, ?_⟩⟩⟩
          refine ⟨_, rfl, .inl ⟨_, rfl, _, _, rfl, rfl, (by show (0 : Int) < 2147483647; decide), _, rfl, _, _, rfl, rfl, .inl ⟨by decide, by decide⟩, _, _, rfl, rfl, .inl ⟨_, rfl, _, _, rfl, rfl, .inr ⟨by decide, by decide⟩, ?_⟩⟩⟩
          refine ⟨_, rfl, .inl ⟨_, rfl, _, _, rfl, rfl, (by show (0 : Int) < 2147483587; decide), _, _, rfl, rfl, ⟨by decide, by decide⟩, .inl ⟨_, rfl, _, rfl, _, _, rfl, rfl, n0, ?_⟩⟩⟩
          exact q _ _ l1 (k + 1) (Int.emod_nonneg _ (by omega)) (Int.emod_lt_of_pos _ n0) (by omega) M4 fl kp4
    · rintro out j H1 ⟨l1, ls, M1, hl, lj, fl, kp, lo⟩
      refine rd_left rfl M1 (ne_empty hl fun p hp => ?_)
      have M2 := MAt.same M1 (same_upd (o := .lst []) hp)
      have hl2 : upd H1 p (.lst []) l1 = some (.lst (ls.map V.int)) := same_upd hp _ _ hl
      have kp2 : ∀ b o, H b = some o → b ≠ m → b ≠ l → upd H1 p (.lst []) b = some o := fun b o e h1 h2 => same_upd hp _ _ (kp b o e h1 h2)
      have lo2 : ∃ o, upd H1 p (.lst []) l = some o := lo.elim fun o e => ⟨o, same_upd hp _ _ e⟩
      cases ls with
      | nil =>
        refine iteF' rfl (iteF' rfl ?_)
        exact out _ ⟨l1, [], M2, hl2, fl, kp2⟩
      | cons x r =>
        refine iteT' rfl (rd_left rfl M2 ⟨l1, _, 0, .int x, rfl, rfl, SqL.of hl2, atI_nat (j := 0) rfl, rfl, _, rfl, ?_⟩)
        refine ite2 (fun z => ?_) (fun z => ?_)
        · refine ⟨_, fun _ _ z => z, ?_⟩
          refine rd_left rfl M2 ⟨1, rfl, l1, _, rfl, SqL.of hl2, fun p2 hp2 => ?_⟩
          have M3 : MAt (upd (upd H1 p (.lst [])) p2 (.lst (cutV ((x :: r).map V.int) (some 1) none))) m c l1 k := MAt.same M2 (same_upd hp2)
          refine ⟨_, rfl, m, _, rfl, DPut.k (k := Sum.inr "left") M3.hm (small1000 (by show 3 ≤ 1000; decide)), ?_⟩
          rw [p_left, cut_one]
          have hz : ((x :: r).drop 1).length ≤ 1000 := by
            obtain ⟨ls', e1, e2⟩ := M2.hl
            rw [hl2] at e1
            have e3 := congrArg List.length (HO.lst.inj (Option.some.inj e1))
            simp only [List.length_map] at e3
            rw [List.length_cons] at e3
            simp only [List.drop_succ_cons, List.drop_zero]
            omega
          have mp : p2 ≠ m := (ne_of_none M2.hm hp2).symm
          refine ⟨r.length, by rw [← lj]; simp, rfl, p2, r, M2.turn hp2 hz, by rw [upd_ne mp]; exact upd_same, rfl, .inr ?_, fun b o e h1 h2 => ?_, ?_⟩
          · cases q0 : H p2 with
            | none => rfl
            | some o =>
              have a2 : p2 ≠ l := by
                obtain ⟨o, e⟩ := lo2
                exact (ne_of_none e hp2).symm
              rw [kp2 p2 o q0 mp a2] at hp2
              cases hp2
          · rw [upd_ne h1]
            exact same_upd hp2 _ _ (kp2 b o e h1 h2)
          · obtain ⟨o, e⟩ := lo2
            refine ⟨o, ?_⟩
            by_cases lm : l = m
            · subst lm
              rw [M.hm] at hl0
              cases hl0
            · rw [upd_ne lm]
              exact same_upd hp2 _ _ e
        · exact out _ ⟨l1, x :: r, M2, hl2, fl, kp2⟩
theorem scB : FnScope ["script", "cell"] ["script"] (defScope sBegun) := ⟨rfl, rfl, rfl, by decide +kernel, rfl, by decide +kernel, by decide +kernel⟩
theorem ok_begun {f : Addr} {fd : FuncData} (F : Fun K "_law_begun" "_law_begun" sBegun f fd) (T : TxtD mg) : FnOk P w K mg base CX0 1 f fd ["script"] (spBegun K) := by
  refine F.ok scB (fun vs H Q E h => ?_) (fun cdv A outer s H vs Q E hr h => ?_)
  · obtain ⟨a, ns, rfl, _⟩ := h
    rfl
  · obtain ⟨a, ns, rfl, hS, hl, q⟩ := h
    refine ⟨_, pss_one (ps_ret (pe_disp (pps_cons pe_str (pe_callTy call_list_of (by rfl) T.list (by decide +kernel) (pa_cons (pv 0) pa_nil))
      (pps_cons pe_str (pe_lc (own := [("cell", 1)]) (g := gName 1) rfl scB.nd (pi_list (pv 0)) (blkOk_by (N := ["script", "cell"]) (sc := defScope sBegun) (by decide +kernel))
        (fun _ _ _ _ _ => pg_name (i := 1) scB.nd rfl (Or.inl rfl)) (fun _ _ _ _ _ => pts_one (pt_cmpR op_ge (pv 1) (pe_op op_pow pe_int pe_int) (nomark _))) (fun _ _ _ _ _ => pv 1))
      (pps_cons pe_str pe_int pps_nil))) rfl rfl (by simp) (by decide))), ?_⟩
    intro m hm
    have s1 : Same H (upd H m (.dK [])) := same_upd hm
    refine ⟨_, rfl, a, ns.map V.int, rfl, .inl (s1.seq hS), fun c hc => ?_⟩
    have s2 := s1.trans (same_upd (o := .lst (ns.map V.int)) hc)
    refine ⟨_, rfl, a, rfl, ⟨_, s2.seq hS⟩, fun l hl0 => ?_⟩
    have mc : m ≠ c := ne_of_none upd_same hc
    have hm2 : upd (upd H m (.dK [])) c (.lst (ns.map V.int)) m = some (.dK []) := by
      rw [upd_ne mc]
      exact upd_same
    have ml : m ≠ l := ne_of_none hm2 hl0
    have cl : c ≠ l := ne_of_none (upd_same) hl0
    refine lc_list (K := K) (a := a) (xs := ns.map V.int) (fun i H' => ∃ acc : List Int, H' l = some (.lst (acc.map V.int)) ∧ acc.length ≤ i ∧ ∀ b o, upd (upd H m (.dK [])) c (.lst (ns.map V.int)) b = some o → H' b = some o)
      ⟨[], upd_same, Nat.le_refl _, fun b o e => same_upd hl0 _ _ e⟩ (fun i H' _ ⟨acc, _, _, k⟩ => Same.seq (s2.trans k) hS) ?_ ?_
    · rintro i x H' hi ⟨acc, ha, la, kp⟩
      obtain ⟨z, rfl⟩ : ∃ z, x = V.int z := by
        rw [List.getElem?_map] at hi
        cases e : ns[i]? with
        | none =>
          rw [e] at hi
          cases hi
        | some z =>
          rw [e] at hi
          exact ⟨z, (Option.some.inj hi).symm⟩
      have il : i < ns.length := by
        have := (List.getElem?_eq_some_iff.mp hi).1
        simpa using this
      refine ⟨rfl, _, rfl, 10, 18, rfl, rfl, ⟨by decide, by decide, by decide⟩, _, _, rfl, rfl, _, rfl, ?_⟩
      refine ite2 (fun _ => ⟨_, rfl, acc.map V.int, ha, ?_, acc ++ [z], ?_, ?_, fun b o e => ?_⟩) (fun _ => ⟨acc, ha, Nat.le_succ_of_le la, kp⟩)
      · rw [List.length_map]
        exact small1000 (by omega)
      · rw [List.map_append]
        exact upd_same
      · simp only [List.length_append, List.length_cons, List.length_nil]
        omega
      · rw [upd_ne (ne_of_none e hl0)]
        exact kp b o e
    · rintro H' ⟨acc, ha, la, kp⟩
      rw [List.length_map] at la
      refine ⟨kp _ _ hm2, mkv c l 0, rfl, (by show 3 ≤ 15; decide), ?_⟩
      rw [mk_merge]
      have lm : l ≠ m := ml.symm
      have cm : c ≠ m := mc.symm
      refine q m c l _ ⟨upd_same, ⟨ns, by rw [upd_ne cm]; exact kp _ _ upd_same, hl⟩, ⟨acc, by rw [upd_ne lm]; exact ha, by omega⟩, cl, by decide, by decide⟩ hm (s1.free hc) (s2.free hl0) fun b o e => ?_
      rw [upd_ne (ne_of_none e hm)]
      exact kp _ _ (s2 _ _ e)
end
end K50

set_option Elab.async false
set_option linter.all false
set_option maxRecDepth 100000
set_option maxHeartbeats 4000000
/-! is_number, is_piece, is_step: of what a framing holds. -/
namespace K50
open PySem L2 L2.EV
abbrev sNum : Stmt := top 13
abbrev sPc : Stmt := top 14
abbrev sStep : Stmt := top 15
def sgs : List Nat := sl ("abcdefghijklmnopqrstuvwxyz0123456789@" : Str)
theorem no59 : ¬ (59 ∈ sgs) := by decide +kernel
theorem semi : sl (";" : Str) = [59] := by decide +kernel
theorem semi1 : (";" : Str).length = 1 := by decide +kernel
/-- a piece; it ends a line if last -/
def Pc (p : Str) (last : Bool) : Prop := ∃ b : List Nat, sl p = b ++ (if last = true then [59] else []) ∧ b.length ≤ 7 ∧ (∀ c ∈ b, c ∈ sgs) ∧ (last = false → b ≠ [])
theorem len_sl (p : Str) : p.length = (sl p).length := by
  show p.cps.size = p.cps.toList.length
  simp
theorem pc_len {p : Str} {l : Bool} (h : Pc p l) : 1 ≤ p.length ∧ p.length ≤ 8 := by
  obtain ⟨b, e, h1, _, h2⟩ := h
  rw [len_sl, e, List.length_append]
  cases l with
  | true =>
    rw [if_pos rfl]
    simp only [List.length_cons, List.length_nil]
    omega
  | false =>
    have := List.length_pos_iff.mpr (h2 rfl)
    rw [if_neg (by simp)]
    simp only [List.length_nil]
    omega
theorem at_end {p : Str} : Builtin.Str.subAt p ";" (p.length - (";" : Str).length) = (((sl p).drop ((sl p).length - 1)).take 1 == [59]) := by
  rw [StrLaws.subAt_eq, semi1, len_sl]
  show (((sl p).drop _).take 1 == sl (";" : Str)) = _
  rw [semi]
theorem pc_last {p : Str} {l : Bool} (h : Pc p l) : (decide (0 + (";" : Str).length ≤ p.length) && Builtin.Str.subAt p ";" (p.length - (";" : Str).length)) = l := by
  have z := pc_len h
  rw [at_end]
  have d : decide (0 + (";" : Str).length ≤ p.length) = true := decide_eq_true (by rw [semi1]; omega)
  rw [d, Bool.true_and]
  obtain ⟨b, e, h1, hb, h2⟩ := h
  rw [e]
  cases l with
  | true =>
    rw [if_pos rfl]
    simp
  | false =>
    rw [if_neg (by simp), List.append_nil]
    obtain ⟨M, y, rfl⟩ := SrtO.snoc_of (l := b) (List.length_pos_iff.mpr (h2 rfl))
    have hy : y ∈ sgs := hb y (by simp)
    have ne : ¬ y = 59 := fun q => no59 (q ▸ hy)
    simp [ne]
theorem pc_ends {p : Str} {l : Bool} (h : Pc p l) : Txt.endswith p ";" = l := pc_last h
theorem pc_cut {p : Str} {l : Bool} (h : Pc p l) : ∀ c ∈ sl (Txt.removesuffix p ";"), c ∈ sgs := by
  have z := pc_last h
  rw [StrLaws.removesuffix_eq]
  rw [show (decide (0 + (";" : Str).length ≤ p.length) && Builtin.Str.subAt p ";" (p.length - (";" : Str).length)) = l from z]
  obtain ⟨b, e, h1, hb, h2⟩ := h
  intro c hc
  cases l with
  | true =>
    rw [if_pos rfl] at hc e
    rw [semi1, len_sl] at hc
    have e' : p.cps.toList = b ++ [59] := e
    simp only [e, e', List.drop_zero, List.length_append, List.length_cons, List.length_nil] at hc
    have : (b ++ [59]).take (b.length + (0 + 1) - 1 - 0) = b := by simp
    rw [this] at hc
    exact hb c (by simpa using hc)
  | false =>
    rw [if_neg (by simp)] at hc
    rw [e, if_neg (by simp), List.append_nil] at hc
    exact hb c hc
/-- is_number(n, many) -/
def spNum : Sp := fun vs H Q _ => ∃ n m : Int, vs = [.int n, .int m] ∧ Q (.bl (decide (0 ≤ n) && decide (n < m))) H
/-- is_piece(p), p a piece -/
def spPc : Sp := fun vs H Q _ => ∃ (p : Str) (l : Bool), vs = [.str p] ∧ Pc p l ∧ ∀ H', Same H H' → Q (.bl true) H'
/-- what a step is -/
def Stp (x : T3) : Prop := 0 ≤ x.1 ∧ x.1 < 6 ∧ Pc x.2.1 (decide (x.2.2 = 0)) ∧ 0 ≤ x.2.2 ∧ x.2.2 < 6
/-- a step at t -/
abbrev S3 (H : Hp) (t : Addr) (x : T3) : Prop := H t = some (.tup [.int x.1, .str x.2.1, .int x.2.2])
def spStep : Sp := fun vs H Q _ => ∃ (t : Addr) (x : T3), vs = [.ref t] ∧ S3 H t x ∧ Stp x ∧ ∀ H', Same H H' → Q (.bl true) H'
structure TxtF (mg : Str → Option Value) : Prop where
  isi : mg "isinstance" = none
  int : mg "int" = none
  bool : mg "bool" = none
  str : mg "str" = none
  tuple : mg "tuple" = none
  len : mg "len" = none
  all : mg "all" = none
  signs : ∃ t, mg "SIGNS" = some (.str "abcdefghijklmnopqrstuvwxyz0123456789@" t)
  mSigns : ∃ t, mg "MOST_SIGNS" = some (.int 8 t)
  many : ∃ t, mg "MANY_STANDINGS" = some (.int 6 t)
section
variable {P : Program} {w : World} {K : PySem.W.Frag} {mg : Str → Option Value} {base : Heap}
theorem scNum : FnScope ["thing", "many"] ["thing", "many"] (defScope sNum) := ⟨rfl, rfl, rfl, by decide +kernel, rfl, by decide +kernel, by decide +kernel⟩
theorem ok_num {f : Addr} {fd : FuncData} (F : Fun K "is_number" "is_number" sNum f fd) (T : TxtF mg) : FnOk P w K mg base CX0 1 f fd ["thing", "many"] spNum := by
  refine F.ok scNum (fun vs H Q E h => ?_) (fun cdv A outer s H vs Q E hr h => ?_)
  · obtain ⟨n, m, rfl, _⟩ := h
    rfl
  · obtain ⟨n, m, rfl, q⟩ := h
    refine ⟨_, pss_one (ps_ret (pe_and (pe_callB call_isi (by rfl) T.isi PyProof.Rows.boot_isinstance (pa_cons (pv 0) (pa_cons (pe_bltn (v := .ty "int") (by rfl) T.int (by decide +kernel) rfl) pa_nil)))
      (pe_and (pe_not (pe_callB call_isi (by rfl) T.isi PyProof.Rows.boot_isinstance (pa_cons (pv 0) (pa_cons (pe_bltn (v := .ty "bool") (by rfl) T.bool (by decide +kernel) rfl) pa_nil))))
        (pe_one (pe_chain op_le op_lt pe_int (pv 0) (pv 1)))))), ?_⟩
    refine ⟨_, rfl, .int n, .ty "int", .type "int", .type "int", true, rfl, .ty "int", .base (.int n), kit_ty (by decide +kernel), true, rfl, iteT ?_⟩
    refine ⟨_, rfl, .int n, .ty "bool", .type "int", .type "bool", false, rfl, .ty "bool", .base (.int n), kit_ty (by decide +kernel), false, rfl, true, rfl, iteT ?_⟩
    refine ⟨_, rfl, 0, n, rfl, rfl, _, rfl, ?_⟩
    refine ite2 (fun z => ?_) (fun z => ?_)
    · refine ⟨_, rfl, n, m, rfl, rfl, ?_⟩
      rw [z, Bool.true_and] at q
      exact q
    · rw [eq_false_of_ne_true z, Bool.false_and] at q
      exact q
theorem scPc : FnScope ["thing", "sign"] ["thing"] (defScope sPc) := ⟨rfl, rfl, rfl, by decide +kernel, rfl, by decide +kernel, by decide +kernel⟩
theorem ok_pc {f : Addr} {fd : FuncData} (F : Fun K "is_piece" "is_piece" sPc f fd) (T : TxtF mg) : FnOk P w K mg base CX0 1 f fd ["thing"] spPc := by
  refine F.ok scPc (fun vs H Q E h => ?_) (fun cdv A outer s H vs Q E hr h => ?_)
  · obtain ⟨p, l, rfl, _⟩ := h
    rfl
  · obtain ⟨p, l, rfl, hp, q⟩ := h
    obtain ⟨ts, eS⟩ := T.signs
    obtain ⟨tm, eM⟩ := T.mSigns
    refine ⟨_, pss_cons (ps_if (pw_or (pt_not (pt_val (pe_callB call_isi (by rfl) T.isi PyProof.Rows.boot_isinstance (pa_cons (pv 0) (pa_cons (pe_bltn (v := .ty "str") (by rfl) T.str (by decide +kernel) rfl) pa_nil)))))
        (pw_or1 (pt_not (pt_chain op_le op_le pe_int (pe_callB call_len_str (by rfl) T.len PySem.boot_len (pa_cons (pv 0) pa_nil)) (pe_glob (v := .int 8) (by rfl) eM ⟨_, rfl⟩))))).pt
        (pss_one (ps_ret pe_bl)) pss_nil)
      (pss_one (ps_ret (pe_callB (cr_all rfl) (by rfl) T.all (by decide +kernel) (pa_cons (pe_lc (own := [("sign", 1)]) (g := gName 1) rfl scPc.nd
        (pi_str (pe_m1 PySem.F.slot_str_removesuffix PySem.F.type_str_removesuffix mt_removesuffix (pv 0) pe_str)) (blkOk_by (N := ["thing", "sign"]) (sc := defScope sPc) (by decide +kernel))
        (fun _ _ _ _ _ => pg_name (i := 1) scPc.nd rfl (Or.inl rfl)) (fun _ _ _ _ _ => pts_nil) (fun _ _ _ _ _ => pe_cmpR op_in_sign (pv 1) (pe_glob (v := .str "abcdefghijklmnopqrstuvwxyz0123456789@") (by rfl) eS ⟨_, rfl⟩) (by rfl))) pa_nil)))), ?_⟩
    have z := pc_len hp
    refine ⟨_, rfl, .str p, .ty "str", .type "str", .type "str", true, rfl, .ty "str", .base (.str p), kit_ty (by decide +kernel), true, rfl, iteF ?_⟩
    refine ⟨.str p, rfl, p, rfl, by rw [sizeLine_eq]; omega, 1, p.length, rfl, rfl, _, rfl, iteT' (decide_eq_true (by omega)) ⟨p.length, 8, rfl, rfl, _, rfl, ?_⟩⟩
    refine iteF' (by rw [decide_eq_true (by omega)]; rfl) ?_
    refine ⟨_, rfl, ⟨p, rfl⟩, p, ";", rfl, rfl, by rw [sizeLine_eq]; omega, _, rfl, fun D hD => ?_⟩
    refine lc_it walk_str (fun i H' => H' D = some (.lst ((List.replicate i true).map V.bl)) ∧ ∀ b o, H b = some o → H' b = some o) ⟨upd_same, fun b o z => same_upd hD b o z⟩ (fun _ _ _ _ => trivial) ?_ ?_
    · rintro i x H1 H2 hi ⟨hl, kp⟩ ⟨rfl, c, hc, rfl⟩
      refine ⟨rfl, ⟨_, rfl, c, _, rfl, rfl, ?_⟩⟩
      have hm : c ∈ sgs := pc_cut hp c (List.mem_of_getElem? (by simpa using hc))
      refine ⟨_, hl, ?_, ?_, fun b o z => ?_⟩
      · rw [List.length_map, List.length_replicate, sizeLine_eq]
        have l1 := PyProof.Rows.len_removesuffix p ";"
        have l2 : (Txt.removesuffix p ";").cps.size = (Txt.removesuffix p ";").length := rfl
        omega
      · have e : decide (c ∈ ("abcdefghijklmnopqrstuvwxyz0123456789@" : Str).cps.toList) = true := decide_eq_true hm
        rw [e, List.replicate_succ', List.map_append]
        exact upd_same
      · rw [upd_ne (ne_of_none z hD)]
        exact kp b o z
    · rintro H1 ⟨hl, kp⟩
      refine ⟨D, _, rfl, SqL.of hl, ?_⟩
      rw [show (List.replicate (Txt.removesuffix p ";").cps.size true).all id = true by simp]
      exact q H1 kp
theorem scStep : FnScope ["thing", "start", "piece", "goal"] ["thing"] (defScope sStep) := ⟨rfl, rfl, rfl, by decide +kernel, rfl, by decide +kernel, by decide +kernel⟩
theorem ok_step {f fN fP : Addr} {fd fdN fdP : FuncData} (F : Fun K "is_step" "is_step" sStep f fd) (T : TxtF mg) (FN : Fun K "is_number" "is_number" sNum fN fdN) (bN : Binds K fdN ["thing", "many"] []) (mN : mg "is_number" = some (.ref fN))
    (FP : Fun K "is_piece" "is_piece" sPc fP fdP) (bP : Binds K fdP ["thing"] []) (mP : mg "is_piece" = some (.ref fP)) : FnOk P w K mg base CX0 2 f fd ["thing"] spStep := by
  have GN : FnOk P w K mg base CX0 1 fN fdN ["thing", "many"] spNum := ok_num FN T
  have GP : FnOk P w K mg base CX0 1 fP fdP ["thing"] spPc := ok_pc FP T
  refine F.ok scStep (fun vs H Q E h => ?_) (fun cdv A outer s H vs Q E hr h => ?_)
  · obtain ⟨t, x, rfl, _⟩ := h
    rfl
  · obtain ⟨t, x, rfl, e, hx, q⟩ := h
    obtain ⟨tm, eM⟩ := T.many
    refine ⟨_, pss_cons (ps_if (pw_or (pt_not (pt_val (pe_callB call_isi (by rfl) T.isi PyProof.Rows.boot_isinstance (pa_cons (pv 0) (pa_cons (pe_bltn (v := .ty "tuple") (by rfl) T.tuple (by decide +kernel) rfl) pa_nil)))))
        (pw_or1 (pt_cmpR op_ne (pe_callB call_len_seq (by rfl) T.len PySem.boot_len (pa_cons (pv 0) pa_nil)) pe_int (nomark _)))).pt
        (pss_one (ps_ret pe_bl)) pss_nil)
      (pss_cons (ps_asg (pv 0) (pg_tup rfl (pgs_cons (pg_name (i := 1) scStep.nd rfl (Or.inl rfl)) (pgs_cons (pg_name (i := 2) scStep.nd rfl (Or.inl rfl)) (pgs_cons (pg_name (i := 3) scStep.nd rfl (Or.inl rfl)) pgs_nil)))))
      (pss_cons (ps_if (pw_or (pt_not (pt_val (pe_call GN hr (by rfl) mN FN.kp bN .nil pass0 (pa_cons (pv 1) (pa_cons (pe_glob (v := .int 6) (by rfl) eM ⟨_, rfl⟩) pa_nil)))))
        (pw_or (pt_not (pt_val (pe_call GP hr (by rfl) mP FP.kp bP .nil pass0 (pa_cons (pv 2) pa_nil))))
          (pw_or1 (pt_not (pt_val (pe_call GN hr (by rfl) mN FN.kp bN .nil pass0 (pa_cons (pv 3) (pa_cons (pe_glob (v := .int 6) (by rfl) eM ⟨_, rfl⟩) pa_nil)))))))).pt
        (pss_one (ps_ret pe_bl)) pss_nil)
      (pss_one (ps_ret (pe_cmpR op_eq (pe_m1 PySem.F.slot_str_endswith PySem.F.type_str_endswith mt_endswith (pv 2) pe_str) (pe_cmpR op_eq (pv 3) pe_int (nomark _)) (nomark _)))))), ?_⟩
    obtain ⟨h0, h6, hp, g0, g6⟩ := hx
    refine ⟨_, rfl, .ref t, .ty "tuple", .type "tuple", .type "tuple", true, rfl, .ty "tuple", .base (.tup e), kit_ty (by decide +kernel), true, rfl, iteF ?_⟩
    refine ⟨_, rfl, t, _, rfl, .inr (SqT.of e), rfl, _, rfl, iteF ?_⟩
    refine ⟨_, rfl, t, _, rfl, SqT.of e, rfl, _, _, rfl, _, _, rfl, _, _, rfl, rfl, ?_⟩
    refine ⟨_, rfl, x.1, 6, rfl, _, rfl, ?_⟩
    refine iteF' (by rw [decide_eq_true h0, decide_eq_true h6]; rfl) ?_
    refine ⟨_, rfl, x.2.1, _, rfl, hp, fun H1 s1 => ⟨_, rfl, iteF ?_⟩⟩
    refine ⟨_, rfl, x.2.2, 6, rfl, _, rfl, ?_⟩
    refine iteF' (by rw [decide_eq_true g0, decide_eq_true g6]; rfl) ?_
    refine ⟨_, rfl, ⟨_, rfl⟩, x.2.1, _, rfl, rfl, ⟨_, rfl, rfl, rfl, ?_⟩⟩
    rw [pc_ends hp]
    have e1 : decide (V.int x.2.2 = V.int 0) = decide (x.2.2 = 0) := by
      rw [dec_int]
      by_cases z : x.2.2 = 0
      · rw [z]
        rfl
      · rw [decide_eq_false z]
        exact beq_eq_false_iff_ne.mpr z
    rw [e1, decide_eq_true rfl]
    exact q H1 s1
end
end K50

set_option Elab.async false
set_option linter.all false
set_option maxRecDepth 100000
set_option maxHeartbeats 4000000
/-! {elt for tg in iter if .. for tg1 in iter1 if ..}: a set of ints by a comprehension of two clauses. -/
namespace L2
namespace EV
open PySem PySem.Spec PyProof.Rows
/-- the comprehension itself -/
abbrev sc2 (elt t0 i0 t1 i1 : Expr) (f0 f1 : List Expr) (sc : Scope) (pos : Pos) : Expr := .SetComp elt [⟨t0, i0, f0, 0⟩, ⟨t1, i1, f1, 0⟩] sc pos
section
variable (elt t0 i0 t1 i1 : Expr) (f0 f1 : List Expr) (sc : Scope) (pos : Pos) (it acc : Value) (env : Env)
theorem turn_outer : compTurn (sc2 elt t0 i0 t1 i1 f0 f1 sc pos) 0 it acc env = (do
    standAt i0.pos
    match ← pyNext it with
    | none => pure (.done .next)
    | some u =>
      letOwnedTupleGo t0 it u
      assign t0 env u
      let mut go := true
      for c in f0 do
        if go then go ← isTrue c env (eval c env)
      if go then
        let xs ← eval i1 env
        standAt i1.pos
        let xs ← foldedSetIterable i1 env xs
        let _ ← runOwn (.compStart (sc2 elt t0 i0 t1 i1 f0 f1 sc pos) 1 (← holding [xs] (pyIter xs)) acc env) env
      again (.compLoop (sc2 elt t0 i0 t1 i1 f0 f1 sc pos) 0 it acc env)) := by rfl
theorem turn_inner : compTurn (sc2 elt t0 i0 t1 i1 f0 f1 sc pos) 1 it acc env = (do
    standAt i1.pos
    match ← pyNext it with
    | none => pure (.done .next)
    | some u =>
      letOwnedTupleGo t1 it u
      assign t1 env u
      let mut go := true
      for c in f1 do
        if go then go ← isTrue c env (eval c env)
      if go then
        (do let y ← eval elt env; standAt elt.pos; let _ ← call (.builtin "set.add") [acc, y])
      again (.compLoop (sc2 elt t0 i0 t1 i1 f0 f1 sc pos) 1 it acc env)) := by rfl
end
section
variable {prog : Program} {w : World} {A : Around} {R : Result → Shared → Prop} {s : Shared} {elt t0 i0 t1 i1 : Expr} {f0 f1 : List Expr} {sc : Scope} {pos : Pos} {it acc : Value} {env : Env}
/-- what is wanted of an error in the block -/
abbrev Erx (prog : Program) (w : World) (A : Around) (env : Env) (R : Result → Shared → Prop) : Value → Shared → Prop := notedBy (model prog w) A env fun e s' => R (.error e) s'
/-- the tests of a clause -/
abbrev tests (fs : List Expr) (env : Env) : Sem Bool := forIn fs true fun c r => if r = true then do let ok ← isTrue c env (eval c env); pure (ForInStep.yield ok) else pure (ForInStep.yield r)
theorem loop_outer (fold : ∀ x, foldedSetIterable i1 env x = pure x) (J : Nat → Shared → Prop)
    (turn : ∀ n s, J n s → wpAny (model prog w) A (pyNext it) (fun r s1 => match r with
      | none => R (.ok .next) s1
      | some u => wpAny (model prog w) A (letOwnedTupleGo t0 it u) (fun _ s2 => wpAny (model prog w) A (assign t0 env u) (fun _ s3 => wpAny (model prog w) A (tests f0 env) (fun ok s4 =>
          if ok = true then wpAny (model prog w) A (eval i1 env) (fun xs s5 => wpAny (model prog w) A (pyIter xs) (fun itv s6 =>
            codeAny (model prog w) A (.compStart (sc2 elt t0 i0 t1 i1 f0 f1 sc pos) 1 itv acc env) (fun r s' => (∃ fl, r = .ok fl) ∧ ∃ m, m < n ∧ J m s') s6) (Erx prog w A env R) s5) (Erx prog w A env R) s4
          else ∃ m, m < n ∧ J m s4) (Erx prog w A env R) s3) (Erx prog w A env R) s2) (Erx prog w A env R) s1) (Erx prog w A env R) s) (n : Nat) (h : J n s) :
    codeAny (model prog w) A (.compLoop (sc2 elt t0 i0 t1 i1 f0 f1 sc pos) 0 it acc env) R s := by
  refine codeAny_loop rfl J (fun n s hJ => ?_) n h
  show wpAny _ A ((compTurn (sc2 elt t0 i0 t1 i1 f0 f1 sc pos) 0 it acc env).onRaise (fun x => do noteFrame x env; theTreesLotGoes x)) _ _ s
  refine wpAny_noted ?_
  rw [turn_outer]
  refine wpAny_bind (wpAny_standAt (wpAny_bind (wpAny_mono (turn n s hJ) (fun r s1 q1 => ?_) fun _ _ z => z)))
  cases r with
  | none => exact wpAny_pure q1
  | some u =>
    refine wpAny_bind (wpAny_mono q1 (fun _ s2 q2 => ?_) fun _ _ z => z)
    refine wpAny_bind (wpAny_mono q2 (fun _ s3 q3 => ?_) fun _ _ z => z)
    refine wpAny_bind (wpAny_mono q3 (fun ok s4 q4 => ?_) fun _ _ z => z)
    cases ok with
    | false => exact wpAny_pure ⟨rfl, q4⟩
    | true =>
      refine wpAny_bind (wpAny_mono q4 (fun xs s5 q5 => ?_) fun _ _ z => z)
      refine wpAny_bind (wpAny_standAt (wpAny_bind (wpAny_of_eq (fold xs) ?_)))
      refine wpAny_bind (wpAny_holding (wpAny_mono q5 (fun itv s6 q6 => ?_) fun _ _ z => z))
      refine wpAny_bind (wpAny_runOwn ?_)
      rw [Around.mark_none]
      refine codeAny_mono q6 fun r s' hr => ?_
      obtain ⟨⟨fl, rfl⟩, hm⟩ := hr
      first
        | exact wpAny_pure ⟨rfl, hm⟩
        | exact wpAny_bind (wpAny_pure (wpAny_pure ⟨rfl, hm⟩))
theorem loop_inner (J : Nat → Shared → Prop)
    (turn : ∀ n s, J n s → wpAny (model prog w) A (pyNext it) (fun r s1 => match r with
      | none => R (.ok .next) s1
      | some u => wpAny (model prog w) A (letOwnedTupleGo t1 it u) (fun _ s2 => wpAny (model prog w) A (assign t1 env u) (fun _ s3 => wpAny (model prog w) A (tests f1 env) (fun ok s4 =>
          if ok = true then wpAny (model prog w) A (eval elt env) (fun y s5 => wpAny (model prog w) A (call (.builtin "set.add") [acc, y]) (fun _ s6 => ∃ m, m < n ∧ J m s6) (Erx prog w A env R) s5) (Erx prog w A env R) s4
          else ∃ m, m < n ∧ J m s4) (Erx prog w A env R) s3) (Erx prog w A env R) s2) (Erx prog w A env R) s1) (Erx prog w A env R) s) (n : Nat) (h : J n s) :
    codeAny (model prog w) A (.compLoop (sc2 elt t0 i0 t1 i1 f0 f1 sc pos) 1 it acc env) R s := by
  refine codeAny_loop rfl J (fun n s hJ => ?_) n h
  show wpAny _ A ((compTurn (sc2 elt t0 i0 t1 i1 f0 f1 sc pos) 1 it acc env).onRaise (fun x => do noteFrame x env; theTreesLotGoes x)) _ _ s
  refine wpAny_noted ?_
  rw [turn_inner]
  refine wpAny_bind (wpAny_standAt (wpAny_bind (wpAny_mono (turn n s hJ) (fun r s1 q1 => ?_) fun _ _ z => z)))
  cases r with
  | none => exact wpAny_pure q1
  | some u =>
    refine wpAny_bind (wpAny_mono q1 (fun _ s2 q2 => ?_) fun _ _ z => z)
    refine wpAny_bind (wpAny_mono q2 (fun _ s3 q3 => ?_) fun _ _ z => z)
    refine wpAny_bind (wpAny_mono q3 (fun ok s4 q4 => ?_) fun _ _ z => z)
    cases ok with
    | false => exact wpAny_pure ⟨rfl, q4⟩
    | true =>
      refine wpAny_bind (wpAny_bind (wpAny_mono q4 (fun y s5 q5 => ?_) fun _ _ z => z))
      refine wpAny_bind (wpAny_standAt (wpAny_bind (wpAny_mono q5 (fun _ s6 q6 => ?_) fun _ _ z => z)))
      exact wpAny_pure (wpAny_pure ⟨rfl, q6⟩)
/-- a clause's start: its walk is begun already, or begins here -/
theorem start_inner (h0 : codeAny (model prog w) A (.compLoop (sc2 elt t0 i0 t1 i1 f0 f1 sc pos) 1 it acc env) R s)
    (h : wpAny (model prog w) A (pyIter it) (fun itv s' => codeAny (model prog w) A (.compLoop (sc2 elt t0 i0 t1 i1 f0 f1 sc pos) 1 itv acc env) R s') (Erx prog w A env R) s) :
    codeAny (model prog w) A (.compStart (sc2 elt t0 i0 t1 i1 f0 f1 sc pos) 1 it acc env) R s := by
  refine codeAny_of_tree ?_
  show wpAny _ _ ((compStart (sc2 elt t0 i0 t1 i1 f0 f1 sc pos) 1 it acc env).onRaise (fun x => do noteFrame x env; standAt theWindowsPlace)) _ _ s
  refine wpAny_notedAt ?_
  unfold compStart
  show wpAny _ _ (ask >>= _) _ _ s
  refine wpAny_bind (wpAny_askSetting (wpAny_ite ?_))
  split
  · first
      | exact wpAny_bind (wpAny_pure (wpAny_pure (And.intro rfl h0)))
      | exact wpAny_pure (And.intro rfl h0)
  · refine wpAny_bind (wpAny_rule ?_)
    show wpAny _ _ (standAt i1.pos >>= _) _ _ s
    exact wpAny_bind (wpAny_standAt (wpAny_bind (wpAny_mono h (fun itv s' q => wpAny_pure (And.intro rfl q)) fun _ _ z => z)))
end
/-- the set at D has got y -/
def addedS (w : World) (D : Addr) (y : V) (H : Hp) (N : Hp → Prop) : Prop := ∃ (k : Int) (S : Int → Bool) (n : Nat), y = .int k ∧ H D = some (SetO w D S n) ∧ n + 1 < scanBound ∧
  N (upd H D (SetO w D (fun j => S j || decide (j = k)) (if S k = true then n else n + 1)))
/-- the reading: D the new set; behind the first clause's store and tests the second walk, from which Nx is reached -/
def tSc2 (w : World) (wi : TI) (g : TG) (tt : TT) (wi1 : TI) (g1 : TG) (tt1 : TT) (te : TE) (vs vs1 : List Nat) : TE := fun σ H Q => wi σ H fun J H1 => ∀ D, H1 D = none →
  ∃ W : Nat → Nat → Hp → Prop, (∃ m, W 0 m (upd H1 D (SetO w D (fun _ => false) 0))) ∧ ∀ i m H, W i m H →
    (J.stop i H ∧ Q (.ref D) H) ∨ (J.go i H ∧ ∃ Nx : Hp → Prop, (∀ H', Nx H' → ∃ m', m' < m ∧ W (i + 1) m' H') ∧ ∀ x H', J.yld i H x H' → g x (wipe σ vs) H' fun σ2 H2 => wipe σ2 vs = wipe σ vs ∧ tt σ2 H2 fun b H3 =>
      if b = true then wi1 σ2 H3 fun J1 H4 => ∃ W1 : Nat → Nat → Hp → Prop, (∃ m, W1 0 m H4) ∧ ∀ j k H, W1 j k H →
        (J1.stop j H ∧ Nx H) ∨ (J1.go j H ∧ ∃ Nx1 : Hp → Prop, (∀ H', Nx1 H' → ∃ k', k' < k ∧ W1 (j + 1) k' H') ∧ ∀ x H', J1.yld j H x H' → g1 x (wipe σ2 vs1) H' fun σ3 H5 => wipe σ3 vs1 = wipe σ2 vs1 ∧ tt1 σ3 H5 fun b H6 =>
          if b = true then te σ3 H6 fun y H7 => addedS w D y H7 Nx1 else Nx1 H6)
      else Nx H3)
section
variable {X : Cx}
theorem add_in {pins : List (Addr × Obj)} {σ : L2.St} {H : Hp} {s : Shared} {D : Addr} {y : V} {u : Value} {N : Hp → Prop} {Q : Value → Shared → Prop} (I : Inv X pins σ H s) (r : RelV y u) (a : addedS X.w D y H N)
    (h : ∀ H' s', Inv X pins σ H' s' → N H' → Q .none s') : wpAny (model X.prog X.w) X.A (call (.builtin "set.add") [.ref D, u]) Q X.xe s := by
  obtain ⟨k, S, n, rfl, hD, room, nx⟩ := a
  refine thn (mt_sadd pins s σ H (.ref D) [.int k] (.ref D) [u] (fun v H' => v = .non ∧ N H') I rfl (.cons r .nil) ⟨D, k, S, n, rfl, rfl, hD, room, rfl, nx⟩) fun v s' q => ?_
  obtain ⟨v', H', I', rv, rfl, nx'⟩ := q
  obtain rfl : v = Value.none := rv
  exact h H' s' I' nx'
variable {elt tg iter tg1 iter1 : Expr} {ifs ifs1 : List Expr} {scope : Scope} {own : List (Str × Nat)} {vs1 : List Nat} {pos : Pos} {wi wi1 : TI} {g g1 : TG} {tt tt1 : TT} {te : TE}
theorem pe_sc2 (hc : X.calm = true) (hN : X.N.Nodup) (hi : PI X tg iter wi) (ok : BlkOk X.N X.env.scope scope own) (hv : ∀ i ∈ vs1, i ∈ own.map (·.2))
    (blk : ∀ (s : Shared) (H : Hp) (C : Addr) (cl : List (Str × Addr)) (fp : List Addr), PG (X.blk s H scope (compEnvC scope cl C X.env) fp) tg g ∧ PTs (X.blk s H scope (compEnvC scope cl C X.env) fp) ifs tt ∧
      PI (X.blk s H scope (compEnvC scope cl C X.env) fp) tg1 iter1 wi1 ∧ PG (X.blk s H scope (compEnvC scope cl C X.env) fp) tg1 g1 ∧ PTs (X.blk s H scope (compEnvC scope cl C X.env) fp) ifs1 tt1 ∧
      PE (X.blk s H scope (compEnvC scope cl C X.env) fp) elt te)
    (fold : ∀ x, foldedSetIterable iter X.env x = pure x := by intro _; rfl) (fold1 : ∀ env x, foldedSetIterable iter1 env x = pure x := by intro _ _; rfl) :
    PE X (sc2 elt tg iter tg1 iter1 ifs ifs1 scope pos) (tSc2 X.w wi g tt wi1 g1 tt1 te (own.map (·.2)) vs1) := by
  refine ⟨fun pins s σ H Q I h => ?_⟩
  rw [PpSet.eval_SetComp]
  have cellOf : ∀ y ∈ scope.names, y.2 = .free → ∃ c, X.env.cells.lookup y.1 = some c := fun y hy e => (ok.free y hy e).elim (fun k => I.ok.has _ (.inl k)) fun k => I.ok.has _ (.inr k)
  refine wpAny_comprehension_free (use := none) rfl fold (closure_ok cellOf) ok.kind (fun y hy e => by rw [ok.uniq y hy, e]) (thn (hi.run pins s σ H _ I h) fun xv s1 hx => thn hx fun itv s2 h2 => ?_)
  obtain ⟨it, fp, tn, J, H2, e, I2, T, st2, f2, q⟩ := h2
  subst e
  refine PpSet.newSet_ok (newEnv_comp ?_)
  generalize hD : s2.heap.objs.size = D
  have freeD : H2 D = none := I2.hok.fresh (Nat.le_of_eq hD)
  obtain ⟨W, ⟨m0, w0⟩, turn⟩ := q D freeD
  generalize hso : ({ cls := .type "set", dict := none, data := .set #[] 0 (.fresh 0 0 (!X.w.params.followText "set-order")) } : Obj) = so
  have keepSo : ∀ b o, s2.heap.get? b = some o → (s2.heap.push so).get? b = some o := fun b o e => Heap.get?_push_of_some _ e
  have I3 : Inv X pins σ (upd H2 D (SetO X.w D (fun _ => false) 0)) { s2 with heap := s2.heap.push so } := by
    refine I2.laid (t' := s2.toks) keepSo (Nat.le_of_eq hD) ?_
    rw [← hD, ← hso]
    exact setO_new (setR_fresh X.w)
  generalize hs3 : ({ s2 with heap := s2.heap.push so } : Shared) = s3 at I3 ⊢
  have h3 : s3.heap = s2.heap.push so := by rw [← hs3]
  have below : ∀ b ∈ fp, b < s2.heap.objs.size := fun b hb => (T.obj _ _ st2 b hb).elim fun o e => Heap.lt_size e.1
  generalize hH3 : upd H2 D (SetO X.w D (fun _ => false) 0) = H3 at I3 w0 ⊢
  have f3 : ∀ b ∈ fp, FpOk X pins H3 b ∧ b < s3.heap.objs.size := fun b hb => by
    have lt := below b hb
    refine ⟨⟨?_, (f2 b hb).2⟩, by rw [h3, Heap.size_push]; exact Nat.lt_succ_of_lt lt⟩
    rw [← hH3, upd_ne (by rw [← hD]; exact Nat.ne_of_lt lt)]
    exact (f2 b hb).1
  have st3 : tn 0 s3.heap := T.keep _ _ _ st2 fun b _ o e => by rw [h3]; exact keepSo b o e
  have I4 := block_start I3 ok hN f3
  obtain ⟨pg, pt, pi1, pg1, pt1, pe⟩ := blk s3 H3 s3.heap.objs.size (cellsFrom (s3.heap.objs.size + 1) scope.names (cloFrom X.env.cells scope.names [])) fp
  show codeAny _ _ (.compStart (sc2 elt tg iter tg1 iter1 ifs ifs1 scope pos) 0 (.ref it) (.ref D) (compEnvC scope (cellsFrom (s3.heap.objs.size + 1) scope.names (cloFrom X.env.cells scope.names [])) s3.heap.objs.size X.env))
    (compPost (model X.prog X.w) X.A X.xe none (EP X pins σ Q) (.ref D) s3.heap.objs.size) { s3 with heap := pushCells (s3.heap.push { cls := .type "dict", data := .dict #[] }) scope.names }
  generalize hce : compEnvC scope (cellsFrom (s3.heap.objs.size + 1) scope.names (cloFrom X.env.cells scope.names [])) s3.heap.objs.size X.env = ce at I4 pg pt pi1 pg1 pt1 pe ⊢
  have locals : ce.locals = s3.heap.objs.size := by
    subst hce
    rfl
  generalize hs4 : ({ s3 with heap := pushCells (s3.heap.push { cls := .type "dict", data := .dict #[] }) scope.names } : Shared) = s4 at I4 ⊢
  have st4 : tn 0 s4.heap := T.keep _ _ _ st3 fun b _ o e => by
    rw [← hs4]
    exact pushCells_keeps _ _ _ _ (Heap.get?_push_of_some _ e)
  have clearOf : ∀ {H' : Hp}, H3 = H' → ∀ b ∈ fp, H' b = none := fun e b hb => by
    rw [← e]
    exact (f3 b hb).1.1
  -- a record of the outer walk, within the block
  have outer : ∀ {σ' : L2.St} {H' : Hp} {s' : Shared}, Inv (X.blk s3 H3 scope ce fp) [] σ' H' s' → (∀ b ∈ fp, H' b = none) → ∀ b ∈ fp, FpOk (X.blk s3 H3 scope ce fp) [] H' b := fun I' clear b hb =>
    ⟨clear b hb, (I'.ok.exf b hb).1, I'.ok.exfs b hb, .inl hb, fun x c e => (I'.ok.exf b hb).2 x c e, fun p hp => by simp at hp⟩
  -- what the outer loop keeps
  let Keep : Nat → Shared → Prop := fun n s' => ∃ i H', Inv (X.blk s3 H3 scope ce fp) [] (wipe σ (own.map (·.2))) H' s' ∧ tn i s'.heap ∧ (∀ b ∈ fp, H' b = none) ∧ W i n H'
  have loop : codeAny (model X.prog X.w) X.A (.compLoop (sc2 elt tg iter tg1 iter1 ifs ifs1 scope pos) 0 (.ref it) (.ref D) ce) (compPost (model X.prog X.w) X.A X.xe none (EP X pins σ Q) (.ref D) s3.heap.objs.size) s4 := by
    refine loop_outer (fold1 ce) Keep ?_ m0 ⟨0, H3, I4, st4, clearOf rfl, w0⟩
    rintro n s5 ⟨i, H5, I5, st5, n5, w5⟩
    rcases turn i n H5 w5 with ⟨stop, done⟩ | ⟨go, Nx, hNx, one⟩
    · refine thnF (T.done (X.blk s3 H3 scope ce fp) rfl rfl rfl hc i [] s5 _ H5 (fun _ _ => False) I5 (outer I5 n5) st5 stop) fun r s6 ⟨hr, I6⟩ => ?_
      subst hr
      have I7 : Inv X pins σ H5 s6 := I3.call' (ch := fp) I6.os I6.base I6.hok I6.bare fun b hb => by
        obtain ⟨⟨z1, z2, z3, z4, z5, z6⟩, _⟩ := f3 b hb
        exact ⟨z4, z2, z5, z6⟩
      have free5 : H5 s3.heap.objs.size = none := by
        have z : H5 ce.locals = none := I6.free
        rw [locals] at z
        exact z
      obtain ⟨m, hn, _⟩ := I6.loc
      have hn : s6.heap.Ns ce.locals m := hn
      rw [locals] at hn
      obtain ⟨y0, y1, y2, y3, y4, y5⟩ := I3.fpOk (Nat.le_refl _) free5
      refine ⟨m, hn, fun h'' sb => ?_⟩
      exact ⟨.ref D, H5, I7.turned (t' := s6.toks) (fun b o nb e => (sb.2 b nb).trans e) y0 y1 y3 y4 y5, rfl, done⟩
    · refine thnF (T.item (X.blk s3 H3 scope ce fp) rfl rfl rfl hc i [] s5 _ H5 (fun _ _ => False) I5 (outer I5 n5) st5 go) fun r s6 ⟨u, hr, h6⟩ => ?_
      subst hr
      refine thnF h6 fun _ s7 ⟨x, H7, I7, r7, y7, st7, n7⟩ => ?_
      refine thnF (pg.run _ s7 _ H7 x u _ (I7.pinned (outer I7 n7) (T.obj _ _ st7)) r7 (one x H7 y7)) fun _ s8 ⟨σ8, H8, I8, hw8, q8⟩ => ?_
      refine thnF (pt.run _ s8 σ8 H8 _ I8 q8) fun b s9 ⟨H9, I9, q9⟩ => ?_
      have len8 : (wipe σ (own.map (·.2))).length = σ8.length := by rw [← hw8, wipe_length]
      have know8 : ∀ (j : Nat) v, (wipe σ (own.map (·.2)))[j]? = some (some v) → σ8[j]? = some (some v) ∧ j ∉ own.map (·.2) := fun j v e => by
        rw [← hw8] at e
        exact wipe_some e
      -- the turn's end, from any slots that know what the block knew
      have fin : ∀ {σ9 : L2.St} {s' : Shared} {H' : Hp}, Inv (X.blk s3 H3 scope ce fp) ([] ++ pinsAt fp s7.heap) σ9 H' s' → (wipe σ (own.map (·.2))).length = σ9.length →
          (∀ (j : Nat) v, (wipe σ (own.map (·.2)))[j]? = some (some v) → σ9[j]? = some (some v)) → Nx H' → ∃ m, m < n ∧ Keep m s' := fun {σ9 s' H'} I' hl hk nx => by
        obtain ⟨m', lt, w'⟩ := hNx H' nx
        have pinned : ∀ b ∈ fp, ∀ o, s7.heap.get? b = some o → s'.heap.get? b = some o ∧ H' b = none := fun b hb o e => by
          have z := I'.pin (b, o) (List.mem_append_right _ (List.mem_append_right _ (mem_pinsAt hb e)))
          exact ⟨z.1, z.2.1⟩
        refine ⟨m', lt, i + 1, H', (I'.unpinned (pins := [])).weak hl hk, T.keep _ _ _ st7 fun b hb o e => (pinned b hb o e).1, fun b hb => ?_, w'⟩
        obtain ⟨o, e, _⟩ := T.obj _ _ st7 b hb
        exact (pinned b hb o e).2
      cases b with
      | false =>
        simp only [Bool.false_eq_true, if_false] at q9 ⊢
        exact fin I9 len8 (fun j v e => (know8 j v e).1) q9
      | true =>
        simp only [if_true] at q9 ⊢
        refine thnF (pi1.run _ s9 σ8 H9 _ I9 q9) fun xv s10 hx => thnF hx fun itv s11 h11 => ?_
        obtain ⟨it1, fp1, tn1, J1, H11, e1, I11, T1, st11, f11, W1, ⟨m1, w1⟩, turn1⟩ := h11
        subst e1
        have inner : ∀ {H' : Hp}, (∀ b ∈ fp1, H' b = none) → ∀ b ∈ fp1, FpOk (X.blk s3 H3 scope ce fp) ([] ++ pinsAt fp s7.heap) H' b := fun clear b hb => ⟨clear b hb, (f11 b hb).2⟩
        let Keep1 : Nat → Shared → Prop := fun k s' => ∃ j H', Inv (X.blk s3 H3 scope ce fp) ([] ++ pinsAt fp s7.heap) (wipe σ8 vs1) H' s' ∧ tn1 j s'.heap ∧ (∀ b ∈ fp1, H' b = none) ∧ W1 j k H'
        have loop1 : codeAny (model X.prog X.w) X.A (.compLoop (sc2 elt tg iter tg1 iter1 ifs ifs1 scope pos) 1 (.ref it1) (.ref D) ce) (fun r s' => (∃ fl, r = .ok fl) ∧ ∃ m, m < n ∧ Keep m s') s11 := by
          refine loop_inner Keep1 ?_ m1 ⟨0, H11, I11.weak (wipe_length _ _) (fun j v e => (wipe_some e).1), st11, fun b hb => (f11 b hb).1, w1⟩
          rintro k s12 ⟨j, H12, I12, st12, n12, w12⟩
          rcases turn1 j k H12 w12 with ⟨stop1, nx1⟩ | ⟨go1, Nx1, hNx1, one1⟩
          · refine thnF (T1.done (X.blk s3 H3 scope ce fp) rfl rfl rfl hc j _ s12 (wipe σ8 vs1) H12 (fun _ _ => False) I12 (inner n12) st12 stop1) fun r s13 ⟨hr, I13⟩ => ?_
            subst hr
            refine ⟨⟨_, rfl⟩, fin I13 (len8.trans (wipe_length σ8 vs1).symm) (fun j v e => ?_) nx1⟩
            obtain ⟨z1, z2⟩ := know8 j v e
            rw [wipe_out fun z => z2 (hv j z)]
            exact z1
          · refine thnF (T1.item (X.blk s3 H3 scope ce fp) rfl rfl rfl hc j _ s12 (wipe σ8 vs1) H12 (fun _ _ => False) I12 (inner n12) st12 go1) fun r s13 ⟨u1, hr, h13⟩ => ?_
            subst hr
            refine thnF h13 fun _ s14 ⟨x1, H14, I14, r14, y14, st14, n14⟩ => ?_
            refine thnF (pg1.run _ s14 (wipe σ8 vs1) H14 x1 u1 _ (I14.pinned (inner n14) (T1.obj _ _ st14)) r14 (one1 x1 H14 y14)) fun _ s15 ⟨σ15, H15, I15, hw15, q15⟩ => ?_
            refine thnF (pt1.run _ s15 σ15 H15 _ I15 q15) fun b1 s16 ⟨H16, I16, q16⟩ => ?_
            have fin1 : ∀ {s' : Shared} {H' : Hp}, Inv (X.blk s3 H3 scope ce fp) (([] ++ pinsAt fp s7.heap) ++ pinsAt fp1 s14.heap) σ15 H' s' → Nx1 H' → ∃ m, m < k ∧ Keep1 m s' := fun {s' H'} I' nx => by
              obtain ⟨m', lt, w'⟩ := hNx1 H' nx
              have pinned : ∀ b ∈ fp1, ∀ o, s14.heap.get? b = some o → s'.heap.get? b = some o ∧ H' b = none := fun b hb o e => by
                have z := I'.pin (b, o) (List.mem_append_right _ (List.mem_append_right _ (mem_pinsAt hb e)))
                exact ⟨z.1, z.2.1⟩
              refine ⟨m', lt, j + 1, H', I'.unpinned.weak (by rw [← hw15, wipe_length]) (fun j v e => by rw [← hw15] at e; exact (wipe_some e).1), T1.keep _ _ _ st14 fun b hb o e => (pinned b hb o e).1, fun b hb => ?_, w'⟩
              obtain ⟨o, e, _⟩ := T1.obj _ _ st14 b hb
              exact (pinned b hb o e).2
            cases b1 with
            | false =>
              simp only [Bool.false_eq_true, if_false] at q16 ⊢
              exact fin1 I16 q16
            | true =>
              simp only [if_true] at q16 ⊢
              refine thnF (pe.run _ s16 σ15 H16 _ I16 q16) fun z s17 ⟨yv, H17, I17, r17, ad⟩ => ?_
              exact thnF (add_in (X := X.blk s3 H3 scope ce fp) (Q := fun _ s' => ∃ m, m < k ∧ Keep1 m s') I17 r17 ad fun H' s18 I18 nx => fin1 I18 nx) fun _ _ z => z
        exact start_inner loop1 (T1.self X.A 0 _ _ _ st11 loop1)
  exact PpSet.codeAny_compStart_set loop (T.self X.A 0 _ _ _ st4 loop)
end
end EV
end L2

set_option Elab.async false
set_option linter.all false
set_option maxRecDepth 100000
set_option maxHeartbeats 4000000
/-! enumerate over a tuple. -/
namespace PySem
open Sem (wp)
open AutoSeq1 (wpAny_loadPart')
theorem meets_enumerate_newT (l : Addr) (items : Array Value) (n : Nat) (dct : Option Addr) (sl : Array (Option Value)) :
    Meets (Builtin.«enumerate.__new__» ⟨[.type "enumerate", .ref l], []⟩) (fun _ R s => s.heap.get? l = some { cls := .type "tuple", dict := dct, data := .seq items n, slots := sl } ∧
      R (.ok (.ret (.ref (s.heap.push { cls := .type "tuple_iterator", data := .fields #[.ref l, .int 0 0] }).objs.size)))
        { s with heap := (s.heap.push { cls := .type "tuple_iterator", data := .fields #[.ref l, .int 0 0] }).push { cls := .type "enumerate", data := .fields #[.none, .bool false, .ref s.heap.objs.size, rawInt 0, .none, .none] } }) :=
  .of_wp fun prog w A R s h => by
    obtain ⟨hp, g, d, tk, os⟩ := s; obtain ⟨hl, h⟩ := h
    have hsub := sub_enumerate
    have hL : Heap.IsTuple (Shared.heap ⟨hp, g, d, tk, os⟩) l items := ⟨_, hl, rfl, n, rfl⟩
    wp_walk using wpAny_loadPart' hl
    refine wpAny_stack_any fun st => wpAny_pure ?_
    split
    · rename_i c _ _ _ _ _
      cases (c == Value.type "enumerate")
      · wp_walk using wpAny_loadPart' hl, wpAny_pyIter_tuple hL
        exact ⟨_, rfl, h⟩
      · wp_walk using wpAny_loadPart' hl, wpAny_pyIter_tuple hL
        exact ⟨_, rfl, h⟩
    · wp_walk using wpAny_loadPart' hl, wpAny_pyIter_tuple hL
      exact ⟨_, rfl, h⟩
section
variable {prog : Program} {w : World} {A : Around} {E : Value → Shared → Prop} {s : Shared}
theorem call_enumerate_tuple {l : Addr} {items : Array Value} {Q : Value → Shared → Prop} (hL : s.heap.IsTuple l items)
    (h : ∀ h', IsEnum h' (s.heap.objs.size + 1) s.heap.objs.size 0 .none → h'.IsTupleIter s.heap.objs.size l 0 → h'.objs.size = s.heap.objs.size + 2 →
      (∀ b o, s.heap.get? b = some o → h'.get? b = some o) → Q (.ref (s.heap.objs.size + 1)) { s with heap := h' }) :
    wpAny (model prog w) A (call (.type "enumerate") [.ref l]) Q E s := by
  obtain ⟨⟨c, dct, dt, sl⟩, hl, hc, n, hd⟩ := hL
  replace hc : c = .type "tuple" := hc
  replace hd : dt = .seq items n := hd
  subst hc hd
  refine callType_new F.called_enumerate (by decide) (F.typeCall_enumerate_1 _) (F.newCall_enumerate_1 _) (fun obj => F.args_object_init_2 obj _) F.entry_enumerate_new
    (meets_enumerate_newT l items n dct sl) ⟨hl, ?_⟩
  have hz : (s.heap.push { cls := .type "tuple_iterator", data := .fields #[.ref l, .int 0 0] }).objs.size = s.heap.objs.size + 1 := Heap.size_push ..
  show _ ∧ _
  rw [hz]
  have he : IsEnum ((s.heap.push { cls := .type "tuple_iterator", data := .fields #[.ref l, .int 0 0] }).push
      { cls := .type "enumerate", data := .fields #[.none, .bool false, .ref s.heap.objs.size, rawInt 0, .none, .none] }) (s.heap.objs.size + 1) s.heap.objs.size 0 .none := by
    have := Heap.get?_push_size (s.heap.push { cls := .type "tuple_iterator", data := .fields #[.ref l, .int 0 0] })
      (o := { cls := .type "enumerate", data := .fields #[.none, .bool false, .ref s.heap.objs.size, rawInt 0, .none, .none] }) rfl
    rw [hz] at this; exact this
  refine ⟨⟨_, he, rfl⟩, h _ he ⟨_, Heap.get?_push_of_some _ (Heap.get?_push_size _ rfl), rfl, rfl⟩ (by rw [Heap.size_push, hz]) fun b o x => Heap.get?_push_of_some _ (Heap.get?_push_of_some _ x)⟩
end
end PySem
namespace L2
open PySem PySem.Spec PyProof.Rows
def IteT (K : PySem.W.Frag) (a : Addr) : It :=
  ⟨fun i H => ∃ (xs : List V) (x : V), SqT K H a xs ∧ xs[i]? = some x, fun i H v H' => ∃ T x, v = .ref T ∧ H T = none ∧ H' = upd H T (.tup [.int (i : Nat), x]) ∧ ∀ xs, SqT K H a xs → xs[i]? = some x, fun i H => ∃ xs : List V, SqT K H a xs ∧ xs.length = i⟩
theorem turn_enumT {P : Program} {w : World} {K : PySem.W.Frag} {elts : List Expr} {kk : Nat} {tpos : Pos} (a e it : Addr) (hai : a ≠ it) (hae : a ≠ e) :
    Turn P w K (.Tuple elts kk tpos) (IteT K a) [e, it] e (fun i h => (∃ old, IsEnum h e it ((i : Nat) : Int) old) ∧ h.IsTupleIter it a i ∧ e ≠ it) where
  mem := by simp
  obj := fun i h st b hb => by
    obtain ⟨⟨old, he⟩, ⟨o, ho, hc, hd⟩, _⟩ := st
    have e' : b = e ∨ b = it := by simpa using hb
    rcases e' with z | z
    · rw [z]; exact ⟨_, he, fun v q => nomatch q⟩
    · rw [z]; exact ⟨o, ho, fun v q => by rw [hd] at q; cases q⟩
  keep := fun i h h' st k => let ⟨⟨old, he⟩, hi, hne⟩ := st; ⟨⟨old, k e (by simp) _ he⟩, hi.at fun o q => k it (by simp) o q, hne⟩
  item := by
    intro X hP hw hK hc i pins s σ H E I hf st hg
    subst hP hw hK
    obtain ⟨⟨old, he⟩, hit, hne⟩ := st
    obtain ⟨xs, x, hq, hx⟩ := hg
    obtain ⟨its, rv, p, hz⟩ := I.tuple hq
    obtain ⟨u, hu, ru⟩ := rv.get hx
    have hel : e < s.heap.objs.size := Heap.lt_size he
    have hil : it < s.heap.objs.size := by obtain ⟨_, q, _⟩ := hit; exact Heap.lt_size q
    have hlt : i < its.toArray.size := by
      have := (List.getElem?_eq_some_iff.mp hu).1
      simpa using this
    refine wpAny_pyNext_enum_itemD (Draws.tuple (A := X.A.in1) (show X.A.in1.handled = none from I.ok.hd hc) it a hai its.toArray) he ⟨hit, show s.heap.IsTuple a its.toArray from p⟩ hlt hne (by simp [hne, Ne.symm hae]) fun u' h' tk hu' ho st' hT hsz hk => ?_
    have e0 : u' = u := by
      have q1 : its[i]? = some u' := by simpa using hu'
      rw [hu] at q1
      exact (Option.some.inj q1).symm
    subst e0
    obtain ⟨hit', _⟩ := st'
    refine ⟨_, rfl, wpAny_letOwnedTupleGo_enum (s := { s with heap := h', toks := tk + 1 }) ho fun h'' he' sb => ?_⟩
    have hT2 : h''.get? s.heap.objs.size = some { cls := .type "tuple", data := .seq #[.int i tk, u'] } := (sb.2 _ (Nat.ne_of_gt hel)).trans hT
    have new : ObjOk X.prog X.w (upd H s.heap.objs.size (.tup [.int (i : Nat), x])) h'' s.heap.objs.size (.tup [.int (i : Nat), x]) :=
      ⟨by show 2 ≤ sizeLine; decide, [.int i tk, u'], .cons ⟨_, rfl⟩ (.cons ru .nil), ⟨_, hT2, rfl, _, rfl⟩⟩
    have I1 : Inv X pins σ (upd H s.heap.objs.size (.tup [.int (i : Nat), x])) { s with heap := h'', toks := tk + 1 } :=
      I.turnedNew (ch := [e, it]) (fun b ob hb q => (sb.2 b (fun z => hb (by simp [z]))).trans (hk b ob (fun z => hb (by simp [z])) (fun z => hb (by simp [z])) q)) hf (Nat.le_refl _) new
    refine ⟨.ref s.heap.objs.size, _, I1, rfl, ⟨_, x, rfl, I.hok.fresh (Nat.le_refl _), rfl, fun ys hy => by rw [I.tuple_inj hy hq]; exact hx⟩, ⟨⟨u', ?_⟩, hit'.at fun o q => (sb.2 it (Ne.symm hne)).trans q, hne⟩, fun b hb => ?_⟩
    · have e1 : ((i + 1 : Nat) : Int) = (i : Int) + 1 := by omega
      rw [e1]; exact he'
    · have hb' : b < s.heap.objs.size := by
        have e' : b = e ∨ b = it := by simpa using hb
        rcases e' with z | z
        · rw [z]; exact hel
        · rw [z]; exact hil
      rw [upd_ne (Nat.ne_of_lt hb')]
      exact (hf b hb).1
  done := by
    intro X hP hw hK hc i pins s σ H E I hf st hg
    subst hP hw hK
    obtain ⟨⟨old, he⟩, hit, hne⟩ := st
    obtain ⟨xs, hq, hx⟩ := hg
    obtain ⟨its, rv, p, hz⟩ := I.tuple hq
    obtain ⟨f0, f1, f2, f3, f4, f5⟩ := hf it (by simp)
    have hl := rv.length
    have hn : its.toArray.size = i := by simp; omega
    exact wpAny_pyNext_enum_endD (Draws.tuple (A := X.A.in1) (show X.A.in1.handled = none from I.ok.hd hc) it a hai its.toArray) he ⟨hn.symm ▸ hit, show s.heap.IsTuple a its.toArray from p⟩ fun h' eb => ⟨rfl, I.turned (t' := s.toks) (fun b o hb q => eb b o hb q) f0 f1 f3 f4 f5⟩
  self := fun A i s Q E st h => let ⟨⟨_, he⟩, _⟩ := st; wpAny_pyIter_enum he h
def iEnumT (K : PySem.W.Frag) (ta : TA) : TI := fun σ H R => ta σ H fun vs H1 => ∃ a xs, vs = [.ref a] ∧ SqT K H1 a xs ∧ R (IteT K a) H1
theorem pi_enumT {X : Cx} {e : Expr} {ta : TA} {p pos tpos : Pos} {elts : List Expr} {kk : Nat} (hg : Gl X "enumerate") (hm : X.mg "enumerate" = none) (ha : PA X [e] ta) (hs : starEach [e] X.env = [(false, eval e X.env)] := by rfl) :
    PI X (.Tuple elts kk tpos) (.Call (.Name "enumerate" p) [e] [] pos) (iEnumT X.K ta) := by
  refine ⟨fun pins s σ H R I h => ?_⟩
  refine Call_ (ld_blt I hg hm boot_enumerate (PyProof.Rows.callWith_type1 (thn (ha.run pos pins s σ H _ I h) fun us s1 ⟨vs, H1, I1, r1, q1⟩ => ?_) hs rfl))
  obtain ⟨a, xs, ex, hq, q⟩ := q1
  subst ex
  cases r1 with
  | cons r rr =>
    cases rr
    cases r
    obtain ⟨its, rv, p', hz⟩ := I1.tuple hq
    have hal : a < s1.heap.objs.size := by
      obtain ⟨o, q, _⟩ := id p'
      exact Heap.lt_size q
    refine call_enumerate_tuple (show s1.heap.IsTuple a its.toArray from p') fun h' he hit hsz hk => wpAny_pyIter_enum he ?_
    have I2 : Inv X pins σ H1 { s1 with heap := h' } := I1.kept (t' := s1.toks) hk
    refine ⟨s1.heap.objs.size + 1, [s1.heap.objs.size + 1, s1.heap.objs.size], _, _, H1, rfl, I2, turn_enumT a (s1.heap.objs.size + 1) s1.heap.objs.size (Nat.ne_of_lt hal) (Nat.ne_of_lt (Nat.lt_succ_of_lt hal)), ⟨⟨.none, he⟩, hit, Nat.succ_ne_self _⟩, fun b hb => ?_, q⟩
    have e' : b = s1.heap.objs.size + 1 ∨ b = s1.heap.objs.size := by simpa using hb
    have hle : s1.heap.objs.size ≤ b := by
      rcases e' with z | z
      · rw [z]; exact Nat.le_add_right _ _
      · rw [z]; exact Nat.le_refl _
    exact I1.fpOk hle (I1.hok.fresh hle)
theorem walk_enumT {K : PySem.W.Frag} {a : Addr} {xs : List V} : Walk (IteT K a) xs.length (fun H => SqT K H a xs) (YPair (fun i => some (.int (i : Nat))) (fun i => xs[i]?)) := by
  refine ⟨fun i _ hi q => ⟨xs, xs[i], q, by simp [hi]⟩, fun _ q => ⟨xs, q, rfl⟩, fun i H v H' _ q y => ?_⟩
  obtain ⟨T, x, h1, h2, h3, h4⟩ := y
  exact ⟨T, .int (i : Nat), x, h1, h2, h3, rfl, h4 xs q⟩
end L2

set_option Elab.async false
set_option linter.all false
set_option maxRecDepth 100000
set_option maxHeartbeats 4000000
/-! Framings; listed_standings. -/
namespace K50
open PySem L2 L2.EV
abbrev sListed : Stmt := top 16
/-- a framing at f -/
def FrA (H : Hp) (f : Addr) (fr : List T3) : Prop := ∃ ts : List Addr, H f = some (.tup (ts.map V.ref)) ∧ ts.length = fr.length ∧ ∀ (i : Nat) t x, ts[i]? = some t → fr[i]? = some x → S3 H t x
theorem FrA.same {H H' : Hp} {f : Addr} {fr : List T3} (h : FrA H f fr) (s : Same H H') : FrA H' f fr := by
  obtain ⟨ts, e, l, c⟩ := h
  exact ⟨ts, s _ _ e, l, fun i t x h1 h2 => s _ _ (c i t x h1 h2)⟩
structure Frm (fr : List T3) (last : Nat) : Prop where
  l0 : 1 ≤ fr.length
  l1 : fr.length ≤ 16
  stp : ∀ x ∈ fr, Stp x
  srt : fr.Pairwise (fun x y => lt3 x y = true)
  ring : ∀ k : Nat, k ≤ last → ∃ x ∈ fr, x.1 = (k : Int) ∧ x.2.2 = (if k < last then (k : Int) + 1 else 0)
  lo : ∀ x ∈ fr, x.1 ≤ last ∧ x.2.2 ≤ last
  l5 : last ≤ 5
/-- what is closed under the steps, from b on, holds all standings -/
theorem Frm.all {fr : List T3} {last : Nat} (F : Frm fr last) {S : Int → Prop} {b : Nat} (hb : b ≤ last) (c0 : ∀ x ∈ fr, x.1 = (b : Int) → S x.2.2) (c : ∀ x ∈ fr, S x.1 → S x.2.2) : ∀ k : Nat, k ≤ last → S k := by
  have up : ∀ j : Nat, b + j ≤ last → j = 0 ∨ S ((b + j : Nat) : Int) := by
    intro j
    induction j with
    | zero => exact fun _ => .inl rfl
    | succ j ih =>
      intro h
      obtain ⟨x, hx, e1, e2⟩ := F.ring (b + j) (by omega)
      rw [if_pos (by omega)] at e2
      have e3 : (((b + (j + 1) : Nat)) : Int) = ((b + j : Nat) : Int) + 1 := by omega
      rw [e3, ← e2]
      refine .inr ?_
      rcases ih (by omega) with z | z
      · subst z
        exact c0 x hx (by simpa using e1)
      · exact c x hx (by rw [e1]; exact z)
  have s0 : S 0 := by
    obtain ⟨x, hx, e1, e2⟩ := F.ring last (Nat.le_refl _)
    rw [if_neg (by omega)] at e2
    rw [← e2]
    obtain ⟨j, rfl⟩ := Nat.le.dest hb
    rcases up j (Nat.le_refl _) with z | z
    · subst z
      exact c0 x hx (by simpa using e1)
    · exact c x hx (by rw [e1]; exact z)
  intro k
  induction k with
  | zero => exact fun _ => s0
  | succ k ih =>
    intro h
    obtain ⟨x, hx, e1, e2⟩ := F.ring k (by omega)
    rw [if_pos (by omega)] at e2
    have e3 : ((k + 1 : Nat) : Int) = (k : Int) + 1 := by omega
    rw [e3, ← e2]
    exact c x hx (by rw [e1]; exact ih (by omega))
theorem sc_it {J : It} {n : Nat} {G : Hp → Prop} {Y : Nat → Hp → V → Hp → Prop} (w : Walk J n G Y) {H0 : Hp} {Qd : Hp → Prop} {body : V → Hp → (Hp → Prop) → Prop} (Pv : Nat → Hp → Prop) (h0 : Pv 0 H0) (hG : ∀ i H, i ≤ n → Pv i H → G H)
    (hs : ∀ i x H H', i < n → Pv i H → Y i H x H' → body x H' (Pv (i + 1))) (hd : ∀ H, Pv n H → Qd H) :
    ∃ W : Nat → Nat → Hp → Prop, (∃ m, W 0 m H0) ∧ ∀ i m H, W i m H → (J.stop i H ∧ Qd H) ∨ (J.go i H ∧ ∃ Nx : Hp → Prop, (∀ H', Nx H' → ∃ m', m' < m ∧ W (i + 1) m' H') ∧ ∀ x H', J.yld i H x H' → body x H' Nx) := by
  refine ⟨fun i m H => m = n - i ∧ i ≤ n ∧ Pv i H, ⟨n, by simp, Nat.zero_le _, h0⟩, ?_⟩
  rintro i m H ⟨rfl, hi, p⟩
  have q := hG i H hi p
  by_cases hlt : i < n
  · exact .inr ⟨w.goes i H hlt q, Pv (i + 1), fun H' p' => ⟨n - (i + 1), by omega, rfl, hlt, p'⟩, fun x H' y => hs i x H H' hlt p (w.yields i H x H' hlt q y)⟩
  · have e : i = n := by omega
    subst e
    exact .inl ⟨w.stops H q, hd H p⟩
theorem at_step {H : Hp} {ts : List Addr} {fr : List T3} {i : Nat} {x : V} (hl : ts.length = fr.length) (ht : ∀ (i : Nat) t x, ts[i]? = some t → fr[i]? = some x → S3 H t x) (hx : (ts.map V.ref)[i]? = some x) :
    ∃ t y, fr[i]? = some y ∧ x = .ref t ∧ S3 H t y := by
  rw [List.getElem?_map] at hx
  cases e : ts[i]? with
  | none =>
    rw [e] at hx
    cases hx
  | some t =>
    rw [e] at hx
    have il : i < fr.length := by
      have := (List.getElem?_eq_some_iff.mp e).1
      omega
    exact ⟨t, fr[i], List.getElem?_eq_getElem il, (Option.some.inj hx).symm, ht i t _ e (List.getElem?_eq_getElem il)⟩
/-- listed_standings(framing): a new list of numbers up to last -/
def spListed : Sp := fun vs H Q _ => ∃ (f : Addr) (fr : List T3) (last : Nat), vs = [.ref f] ∧ FrA H f fr ∧ Frm fr last ∧
  ∀ (H' : Hp) (p : Addr) (ns : List Int), Same H H' → H p = none → H' p = some (.lst (ns.map V.int)) → ns.length ≤ 32 → (∀ k ∈ ns, 0 ≤ k ∧ k ≤ last) → Q (.ref p) H'
theorem pe_sc2s {X : Cx} {elt tg iter tg1 iter1 : Expr} {ifs ifs1 : List Expr} {scope : Scope} {own : List (Str × Nat)} {vs1 : List Nat} {pos : Pos} {wi wi1 : TI} {g g1 : TG} {tt tt1 : TT} {te : TE} (hc : X.calm = true) (hN : X.N.Nodup) (hi : PI X tg iter wi) (ok : BlkOk X.N X.env.scope scope own) (hv : ∀ i ∈ vs1, i ∈ own.map (·.2))
    (b1 : ∀ (s : Shared) (H : Hp) (C : Addr) (cl : List (Str × Addr)) (fp : List Addr), PG (X.blk s H scope (compEnvC scope cl C X.env) fp) tg g)
    (b2 : ∀ (s : Shared) (H : Hp) (C : Addr) (cl : List (Str × Addr)) (fp : List Addr), PTs (X.blk s H scope (compEnvC scope cl C X.env) fp) ifs tt)
    (b3 : ∀ (s : Shared) (H : Hp) (C : Addr) (cl : List (Str × Addr)) (fp : List Addr), PI (X.blk s H scope (compEnvC scope cl C X.env) fp) tg1 iter1 wi1)
    (b4 : ∀ (s : Shared) (H : Hp) (C : Addr) (cl : List (Str × Addr)) (fp : List Addr), PG (X.blk s H scope (compEnvC scope cl C X.env) fp) tg1 g1)
    (b5 : ∀ (s : Shared) (H : Hp) (C : Addr) (cl : List (Str × Addr)) (fp : List Addr), PTs (X.blk s H scope (compEnvC scope cl C X.env) fp) ifs1 tt1)
    (b6 : ∀ (s : Shared) (H : Hp) (C : Addr) (cl : List (Str × Addr)) (fp : List Addr), PE (X.blk s H scope (compEnvC scope cl C X.env) fp) elt te)
    (fold : ∀ x, foldedSetIterable iter X.env x = pure x := by intro _; rfl) (fold1 : ∀ env x, foldedSetIterable iter1 env x = pure x := by intro _ _; rfl) :
    PE X (.SetComp elt [⟨tg, iter, ifs, 0⟩, ⟨tg1, iter1, ifs1, 0⟩] scope pos) (tSc2 X.w wi g tt wi1 g1 tt1 te (own.map (·.2)) vs1) :=
  pe_sc2 hc hN hi ok hv (fun s H C cl fp => ⟨b1 s H C cl fp, b2 s H C cl fp, b3 s H C cl fp, b4 s H C cl fp, b5 s H C cl fp, b6 s H C cl fp⟩) fold fold1
theorem same_set {D : Addr} {H H' : Hp} {o : HO} (hD : H D = none) (k : Same H H') : Same H (upd H' D o) := fun b u e => by
  rw [upd_ne (ne_of_none e hD)]
  exact k _ _ e
theorem scan64 : 64 < scanBound := by decide +kernel
section
variable {P : Program} {w : World} {K : PySem.W.Frag} {mg : Str → Option Value} {base : Heap}
theorem scListed : FnScope ["framing", "start", "piece", "goal", "standing"] ["framing"] (defScope sListed) := ⟨rfl, rfl, rfl, by decide +kernel, rfl, by decide +kernel, by decide +kernel⟩
theorem ok_listed {f : Addr} {fd : FuncData} (F : Fun K "listed_standings" "listed_standings" sListed f fd) (hs : mg "sorted" = none) : FnOk P w K mg base CX0 1 f fd ["framing"] spListed := by
  refine F.ok scListed (fun vs H Q E h => ?_) (fun cdv A outer s H vs Q E hr h => ?_)
  · obtain ⟨f, fr, last, rfl, _⟩ := h
    rfl
  · obtain ⟨f, fr, last, rfl, fa, fm, q⟩ := h
    refine ⟨_, pss_one (ps_ret (pe_callB (cr_sortedSet rfl) (by rfl) hs (by decide +kernel) (pa_cons (pe_sc2s (g := gTup K 3 (gCons (gName 1) (gCons (gName 2) (gCons (gName 3) gNil)))) (tt := tYes) (wi1 := iTup K (tTup (tCons (tVar 1) (tCons (tVar 3) tNil)))) (g1 := gName 4) (tt1 := tYes) (te := tVar 4) (own := [("start", 1), ("piece", 2), ("goal", 3), ("standing", 4)]) (vs1 := [4]) rfl scListed.nd (pi_tup (pv 0))
      (blkOk_by (N := ["framing", "start", "piece", "goal", "standing"]) (sc := defScope sListed) (by decide +kernel)) (by decide)
      (fun _ _ _ _ _ => pg_tup rfl (pgs_cons (pg_name (i := 1) scListed.nd rfl (Or.inl rfl)) (pgs_cons (pg_name (i := 2) scListed.nd rfl (Or.inl rfl)) (pgs_cons (pg_name (i := 3) scListed.nd rfl (Or.inl rfl)) pgs_nil)))) (fun _ _ _ _ _ => pts_nil)
      (fun _ _ _ _ _ => pi_tup (pe_tup (pa_cons (pv 1) (pa_cons (pv 3) pa_nil)))) (fun _ _ _ _ _ => pg_name (i := 4) scListed.nd rfl (Or.inl rfl)) (fun _ _ _ _ _ => pts_nil) (fun _ _ _ _ _ => pv 4)) pa_nil))), ?_⟩
    obtain ⟨ts, hf, hl, ht⟩ := id fa
    refine ⟨_, rfl, f, rfl, ⟨_, SqT.of hf⟩, fun D hD => ?_⟩
    refine sc_it (walk_tup (xs := ts.map V.ref)) (fun i H' => Same H H' ∧ ∃ (S : Int → Bool) (n : Nat), H' D = some (SetO w D S n) ∧ n ≤ 2 * i ∧ ∀ k, S k = true → 0 ≤ k ∧ k ≤ last)
      ⟨same_upd hD, _, _, upd_same, Nat.le_refl _, fun k z => by cases z⟩ (fun i H' _ z => SqT.of (z.1 _ _ hf)) ?_ ?_
    · rintro i x H1 H2 hi ⟨sm, S, n, hS, hn, hk⟩ ⟨rfl, hx⟩
      obtain ⟨t, y, hy, rfl, e3⟩ := at_step (i := i) hl ht hx
      have e4 : H2 t = _ := sm _ _ e3
      obtain ⟨b1, b2, _, b3, b4⟩ := fm.stp y (List.mem_of_getElem? hy)
      obtain ⟨b5, b6⟩ := fm.lo y (List.mem_of_getElem? hy)
      refine ⟨t, _, rfl, SqT.of e4, rfl, _, _, rfl, _, _, rfl, _, _, rfl, rfl, rfl, ?_⟩
      refine ⟨_, rfl, _, rfl, (by show 2 ≤ sizeLine; decide), fun p hp => ⟨p, rfl, ⟨_, SqT.of upd_same⟩, ?_⟩⟩
      refine sc_it (walk_tup (xs := [V.int y.1, V.int y.2.2])) (fun j H' => Same H H' ∧ H' p = some (.tup [V.int y.1, V.int y.2.2]) ∧ ∃ (S : Int → Bool) (n : Nat), H' D = some (SetO w D S n) ∧ n ≤ 2 * i + j ∧ ∀ k, S k = true → 0 ≤ k ∧ k ≤ last)
        ⟨fun b u e => same_upd hp _ _ (sm _ _ e), upd_same, S, n, by rw [upd_ne (ne_of_none hS hp)]; exact hS, hn, hk⟩ (fun j H' _ z => SqT.of z.2.1) ?_ ?_
      · rintro j x H2 H3 hj ⟨sm2, hp2, S2, n2, hS2, hn2, hk2⟩ ⟨rfl, hx2⟩
        have hj2 : j < 2 := hj
        obtain ⟨k, rfl, k0, k1⟩ : ∃ k : Int, x = .int k ∧ 0 ≤ k ∧ k ≤ last := by
          match j, hj2 with
          | 0, _ => exact ⟨y.1, (Option.some.inj hx2).symm, b1, b5⟩
          | 1, _ => exact ⟨y.2.2, (Option.some.inj hx2).symm, b3, b6⟩
        have sc := scan64
        have l1 := fm.l1
        have hi2 : i < fr.length := (List.getElem?_eq_some_iff.mp hy).1
        refine ⟨rfl, _, rfl, k, S2, n2, rfl, hS2, by omega, same_set hD sm2, ?_, _, _, upd_same, ?_, fun k2 z => ?_⟩
        · rw [upd_ne (ne_of hp2 hS2 (fun z => by cases z))]
          exact hp2
        · split <;> omega
        · rw [Bool.or_eq_true] at z
          rcases z with z | z
          · exact hk2 k2 z
          · have e5 : k2 = k := of_decide_eq_true z
            rw [e5]
            exact ⟨k0, k1⟩
      · rintro H2 ⟨sm2, hp2, S2, n2, hS2, hn2, hk2⟩
        refine ⟨sm2, S2, n2, hS2, ?_, hk2⟩
        have hn3 : n2 ≤ 2 * i + 2 := hn2
        omega
    · rintro H1 ⟨sm, S, n, hS, hn, hk⟩
      refine ⟨D, S, n, rfl, hS, ?_, fun ns p _ h2 h3 h4 => ?_⟩
      · have := fm.l1
        simp only [List.length_map] at hn
        omega
      · refine q _ p ns ?_ ?_ upd_same ?_ ?_
        · exact fun b u e => by
            rw [upd_ne (ne_of_none (sm _ _ e) h4)]
            exact sm _ _ e
        · exact sm.free h4
        · have := fm.l1
          simp only [List.length_map] at hn
          omega
        · exact fun k z => hk k ((h2 k).mp z)
end
end K50

set_option Elab.async false
set_option linter.all false
set_option maxRecDepth 100000
set_option maxHeartbeats 4000000
/-! ways_from: all standings are found. -/
namespace K50
open PySem L2 L2.EV
abbrev sWays : Stmt := top 17
abbrev has (kvs : List (Key × V)) (g : Int) : Bool := (valV kvs (Sum.inl g : Key)).isSome
/-- ways_from(framing, b): a new dict that has all standings -/
def spWays : Sp := fun vs H Q _ => ∃ (f : Addr) (fr : List T3) (last b : Nat), vs = [.ref f, .int b] ∧ FrA H f fr ∧ Frm fr last ∧ b ≤ last ∧
  ∀ (H' : Hp) (d : Addr) (kvs : List (Key × V)), Same H H' → H d = none → H' d = some (.dK kvs) → (∀ k : Nat, k ≤ last → has kvs k = true) → Q (.ref d) H'
/-- the standings up to last that are not found -/
def miss (last : Nat) (kvs : List (Key × V)) : Nat := ((List.range (last + 1)).filter fun k : Nat => !has kvs k).length
theorem miss_le {last : Nat} {kvs : List (Key × V)} : miss last kvs ≤ last + 1 := by
  have := List.length_filter_le (fun k : Nat => !has kvs k) (List.range (last + 1))
  rw [List.length_range] at this
  exact this
theorem filt_lt {α : Type} {p q : α → Bool} : ∀ {l : List α} {a : α}, a ∈ l → p a = true → q a = false → (∀ x, q x = true → p x = true) → (l.filter q).length < (l.filter p).length
  | x :: l, a, hm, hp, hq, h => by
    have le : ∀ m : List α, (m.filter q).length ≤ (m.filter p).length := fun m => by
      induction m with
      | nil => exact Nat.le_refl _
      | cons y m ih =>
        rw [List.filter_cons, List.filter_cons]
        by_cases z : q y = true
        · rw [if_pos z, if_pos (h y z), List.length_cons, List.length_cons]
          omega
        · rw [if_neg z]
          split
          · rw [List.length_cons]
            omega
          · exact ih
    rw [List.filter_cons, List.filter_cons]
    rcases List.mem_cons.mp hm with z | z
    · subst z
      rw [if_pos hp, if_neg (by rw [hq]; simp), List.length_cons]
      have := le l
      omega
    · have ih := filt_lt z hp hq h
      by_cases y : q x = true
      · rw [if_pos y, if_pos (h x y), List.length_cons, List.length_cons]
        omega
      · rw [if_neg y]
        split
        · rw [List.length_cons]
          omega
        · exact ih
theorem has_put {kvs : List (Key × V)} {g k : Int} {v : V} : has (putK kvs (Sum.inl g) v) k = (decide (k = g) || has kvs k) := by
  unfold has
  rw [valV_put]
  by_cases e : k = g
  · subst e
    rw [if_pos rfl, decide_eq_true rfl]
    rfl
  · rw [if_neg (fun z => e (Sum.inl.inj z)), decide_eq_false e, Bool.false_or]
theorem miss_put {last : Nat} {kvs : List (Key × V)} {g : Int} {v : V} (h0 : 0 ≤ g) (h1 : g ≤ last) (n : has kvs g = false) : miss last (putK kvs (Sum.inl g) v) < miss last kvs := by
  obtain ⟨a, rfl⟩ := Int.eq_ofNat_of_zero_le h0
  refine filt_lt (a := a) (List.mem_range.mpr (by omega)) (by simp only [n, Bool.not_false]) ?_ ?_
  · rw [has_put, decide_eq_true rfl]
    rfl
  · intro x hx
    rw [has_put] at hx
    cases z : has kvs x with
    | false => rfl
    | true =>
      rw [z] at hx
      simp at hx
/-- the rows: tuples of a way and a standing -/
def Rows (H : Hp) (last n : Nat) (ps : List (Addr × Int)) : Prop := ∀ q ∈ ps, 0 ≤ q.2 ∧ q.2 ≤ last ∧ ∃ (wy : Addr) (xs : List V), H q.1 = some (.tup [.ref wy, .int q.2]) ∧ H wy = some (.tup xs) ∧ xs.length ≤ n
def KeepT (H H' : Hp) : Prop := ∀ a xs, H a = some (.tup xs) → H' a = some (.tup xs)
theorem Rows.keep {H H' : Hp} {last n m : Nat} {ps : List (Addr × Int)} (h : Rows H last n ps) (k : KeepT H H') (l : n ≤ m) : Rows H' last m ps := fun q hq => by
  obtain ⟨h0, h1, wy, xs, e1, e2, e3⟩ := h q hq
  exact ⟨h0, h1, wy, xs, k _ _ e1, k _ _ e2, Nat.le_trans e3 l⟩
theorem Same.keepT {H H' : Hp} (s : Same H H') : KeepT H H' := fun a xs e => s _ _ e
theorem KeepT.trans {H H' H2 : Hp} (a : KeepT H H') (b : KeepT H' H2) : KeepT H H2 := fun x xs e => b _ _ (a _ _ e)
theorem keepT_upd {H : Hp} {d : Addr} {o : HO} {o' : HO} (e : H d = some o') (n : ∀ xs, o' ≠ .tup xs) : KeepT H (upd H d o) := fun a xs h => by
  by_cases z : a = d
  · subst z
    rw [e] at h
    exact absurd (Option.some.inj h) (n xs)
  · rw [upd_ne z]
    exact h
/-- t + u, u not empty: the result is somewhere, all else stays -/
def rCatS (K : PySem.W.Frag) : R2 := fun x y H Q => ∃ a b xs ys, x = .ref a ∧ y = .ref b ∧ SqT K H a xs ∧ H b = some (.tup ys) ∧ ys ≠ [] ∧ xs.length + ys.length ≤ sizeLine ∧ ∀ p H', Same H H' → H' p = some (.tup (xs ++ ys)) → Q (.ref p) H'
theorem op_catS {X : Cx} : OpR X (binaryOp .Add) (rCatS X.K) := by
  intro pins s σ H x y v u Q I rx ry h
  obtain ⟨a, b, xs, ys, rfl, rfl, ha, hb, hn, hz, q⟩ := h
  refine op_catA pins s σ H _ _ v u Q I rx ry ⟨a, b, xs, ys, rfl, rfl, ha, SqT.of hb, hz, fun z => ?_, fun _ z => absurd z hn, fun _ _ p hp => q p _ (same_upd hp) upd_same⟩
  subst z
  exact q b H (fun _ _ e => e) (by rw [hb]; rfl)
structure Co (H0 H : Hp) (d r u : Addr) (last m0 : Nat) (ps qs : List (Addr × Int)) (kvs : List (Key × V)) : Prop where
  sm : Same H0 H
  hd : H d = some (.dK kvs)
  hr : H r = some (.lst (ps.map fun q => V.ref q.1))
  hu : H u = some (.lst (qs.map fun q => V.ref q.1))
  rp : Rows H last kvs.length ps
  rq : Rows H last kvs.length qs
  cnt : kvs.length + miss last kvs ≤ last + 1
  me : (qs = [] ∧ miss last kvs ≤ m0) ∨ miss last kvs < m0
  ql : qs.length ≤ kvs.length
theorem Co.same {H0 H H' : Hp} {d r u : Addr} {last m0 : Nat} {ps qs : List (Addr × Int)} {kvs : List (Key × V)} (C : Co H0 H d r u last m0 ps qs kvs) (s : Same H H') : Co H0 H' d r u last m0 ps qs kvs :=
  ⟨C.sm.trans s, s _ _ C.hd, s _ _ C.hr, s _ _ C.hu, C.rp.keep (Same.keepT s) (Nat.le_refl _), C.rq.keep (Same.keepT s) (Nat.le_refl _), C.cnt, C.me, C.ql⟩
/-- what is reached from a standing that stands in the rows, or is found -/
def Clo (fr : List T3) (b : Nat) (kvs : List (Key × V)) (open_ : Int → T3 → Prop) : Prop := ∀ x ∈ fr, (x.1 = (b : Int) ∨ has kvs x.1 = true) → open_ x.1 x ∨ has kvs x.2.2 = true
section
variable {P : Program} {w : World} {K : PySem.W.Frag} {mg : Str → Option Value} {base : Heap}
theorem scWays : FnScope ["framing", "begin", "found", "rows", "further", "way", "standing", "number", "start", "piece", "goal"] ["framing", "begin"] (defScope sWays) := ⟨rfl, rfl, rfl, by decide +kernel, rfl, by decide +kernel, by decide +kernel⟩
theorem ok_ways {f : Addr} {fd : FuncData} (F : Fun K "ways_from" "ways_from" sWays f fd) (he : mg "enumerate" = none) : FnOk P w K mg base CX0 1 f fd ["framing", "begin"] spWays := by
  refine F.ok scWays (fun vs H Q E h => ?_) (fun cdv A outer s H vs Q E hr h => ?_)
  · obtain ⟨f, fr, last, b, rfl, _⟩ := h
    rfl
  · obtain ⟨f, fr, last, b, rfl, fa, fm, hb, q⟩ := h
    have hu := hu_of hr
    refine ⟨_, pss_cons (ps_set (i := 2) scWays.nd rfl (Or.inl rfl) pe_dnewK)
      (pss_cons (ps_set (i := 3) scWays.nd rfl (Or.inl rfl) (pe_lst (pa_cons (pe_tup (pa_cons (pe_tup pa_nil) (pa_cons (pv 1) pa_nil))) pa_nil)))
      (pss_cons (ps_while PassesOwn.never (pt_truth (pv 3) (fun _ => rfl))
        (pss_cons (ps_set (i := 4) scWays.nd rfl (Or.inl rfl) (pe_lst pa_nil))
        (pss_cons (ps_for PassesOwn.never rfl (pi_list (pv 3)) (pg_tup rfl (pgs_cons (pg_name (i := 5) scWays.nd rfl (Or.inl rfl)) (pgs_cons (pg_name (i := 6) scWays.nd rfl (Or.inl rfl)) pgs_nil)))
          (pss_one (ps_for PassesOwn.never rfl (pi_enumT (by rfl) he (pa_cons (pv 0) pa_nil)) (pg_tup rfl (pgs_cons (pg_name (i := 7) scWays.nd rfl (Or.inl rfl)) (pgs_cons (pg_tup rfl (pgs_cons (pg_name (i := 8) scWays.nd rfl (Or.inl rfl)) (pgs_cons (pg_name (i := 9) scWays.nd rfl (Or.inl rfl)) (pgs_cons (pg_name (i := 10) scWays.nd rfl (Or.inl rfl)) pgs_nil)))) pgs_nil)))
            (pss_one (ps_if (pw_and (pt_cmpR op_eq (pv 8) (pv 6) (nomark _)) (pw_and1 (pt_cmp (pc_dnotin hu (pv 10) (pv 2)) (by rfl)))).pt
              (pss_cons (ps_dput hu (pv 2) (pv 10) (pe_op op_catS (pv 5) (pe_tup (pa_cons (pv 7) pa_nil))) rfl)
                (pss_one (ps_expr (pe_bm PySem.F.plainAttrs_list PySem.F.slot_list_append PySem.F.type_list_append mt_append (pv 4) (pa_cons (pe_tup (pa_cons (pe_dget hu (pv 2) (pv 10) (fun _ _ => rfl)) (pa_cons (pv 10) pa_nil))) pa_nil)))))
              pss_nil)))))
        (pss_one (ps_set (i := 3) scWays.nd rfl (Or.inl rfl) (pv 4))))))
      (pss_one (ps_ret (pv 2))))), ?_⟩
    intro d hd0
    have sd := same_upd (o := HO.dK []) hd0
    refine ⟨by decide, fun e0 he0 => ⟨_, rfl, (by show 2 ≤ sizeLine; decide), fun p0 hp0 => ⟨(by show 1 ≤ sizeLine; decide), fun r hr0 => ?_⟩⟩⟩
    have s1 := same_upd (o := HO.tup []) he0
    have s2 := same_upd (o := HO.tup [V.ref e0, V.int (b : Int)]) hp0
    have s3 := same_upd (o := HO.lst [V.ref p0]) hr0
    refine ⟨fun j σ H' => ∃ (r : Addr) (kvs : List (Key × V)) (ps : List (Addr × Int)) (v4 v5 v6 v7 v8 v9 v10 : Option V), σ = [some (.ref f), some (.int b), some (.ref d), some (.ref r), v4, v5, v6, v7, v8, v9, v10] ∧
      Same H H' ∧ H' d = some (.dK kvs) ∧ H' r = some (.lst (ps.map fun q => V.ref q.1)) ∧ Rows H' last kvs.length ps ∧ kvs.length + miss last kvs ≤ last + 1 ∧ Clo fr b kvs (fun g _ => ∃ q ∈ ps, q.2 = g) ∧ j = 2 * miss last kvs + (if ps = [] then 0 else 1), ⟨_, r, [], [(p0, (b : Int))], none, none, none, none, none, none, none, rfl, ?_, ?_, ?_, ?_, ?_, ?_, rfl⟩, ?_⟩
    · exact sd.trans (s1.trans (s2.trans s3))
    · exact s3 _ _ (s2 _ _ (s1 _ _ upd_same))
    · exact upd_same
    · intro q hq
      have e : q = (p0, (b : Int)) := by simpa using hq
      subst e
      refine ⟨by show (0 : Int) ≤ (b : Int); omega, by show (b : Int) ≤ last; omega, e0, [], s3 _ _ upd_same, s3 _ _ (s2 _ _ upd_same), Nat.le_refl _⟩
    · have := miss_le (last := last) (kvs := [])
      simp only [List.length_nil]
      omega
    · intro x hx h
      rcases h with h | h
      · exact .inl ⟨_, List.mem_singleton.mpr rfl, h.symm⟩
      · cases h
    · rintro j σ H1 ⟨r, kvs, ps, v4, v5, v6, v7, v8, v9, v10, rfl, sm, hd, hr, rp, cnt, clo, rfl⟩
      refine ⟨_, rfl, _, .inl ⟨_, SqL.of hr, rfl⟩, ?_⟩
      by_cases hps : ps = []
      · subst hps
        refine iteF' rfl ?_
        refine ⟨_, rfl, q H1 d kvs sm hd0 hd fun k hk => ?_⟩
        have c2 : ∀ x ∈ fr, (x.1 = (b : Int) ∨ has kvs x.1 = true) → has kvs x.2.2 = true := fun x hx h => by
          rcases clo x hx h with ⟨_, z, _⟩ | z
          · cases z
          · exact z
        exact fm.all (S := fun g => has kvs g = true) hb (fun x hx e => c2 x hx (.inl e)) (fun x hx e => c2 x hx (.inr e)) k hk
      · refine iteT' (by cases ps; exact absurd rfl hps; rfl) ?_
        refine ⟨_, fun _ _ z => z, ?_⟩
        refine ⟨by decide, fun u hu0 => ?_⟩
        have su := same_upd (o := HO.lst []) hu0
        have hur : u ≠ r := (ne_of_none hr hu0).symm
        have hu00 : H u = none := sm.free hu0
        refine ⟨_, rfl, r, rfl, ⟨_, SqL.of (su _ _ hr)⟩, for_it (walk_list (xs := ps.map fun q => V.ref q.1)) (fun i σ H' => ∃ (kvs2 : List (Key × V)) (qs : List (Addr × Int)) (v5 v6 v7 v8 v9 v10 : Option V), σ = [some (.ref f), some (.int b), some (.ref d), some (.ref r), some (.ref u), v5, v6, v7, v8, v9, v10] ∧
          Co H H' d r u last (miss last kvs) ps qs kvs2 ∧ Clo fr b kvs2 (fun g _ => (∃ q ∈ ps.drop i, q.2 = g) ∨ ∃ q ∈ qs, q.2 = g))
          ⟨kvs, [], v5, v6, v7, v8, v9, v10, rfl, ⟨sm.trans su, su _ _ hd, su _ _ hr, upd_same, rp.keep (Same.keepT su) (Nat.le_refl _), (fun q hq => by cases hq), cnt, .inl ⟨rfl, Nat.le_refl _⟩, Nat.zero_le _⟩, fun x hx h => (clo x hx h).imp (fun z => .inl z) id⟩
          (fun i σ H' _ ⟨_, _, _, _, _, _, _, _, _, C, _⟩ => SqL.of C.hr) ?_ ?_⟩
        · rintro i v σ H2 H3 hi ⟨kvs2, qs, v5, v6, v7, v8, v9, v10, rfl, C, cl⟩ ⟨rfl, hv⟩
          obtain ⟨q1, hq1, rfl⟩ : ∃ q1, ps[i]? = some q1 ∧ v = V.ref q1.1 := by
            rw [List.getElem?_map] at hv
            cases e : ps[i]? with
            | none =>
              rw [e] at hv
              cases hv
            | some q1 =>
              rw [e] at hv
              exact ⟨q1, rfl, (Option.some.inj hv).symm⟩
          obtain ⟨g0, g1, wy, xs, e1, e2, e3⟩ := C.rp q1 (List.mem_of_getElem? hq1)
          have dq : ps.drop i = q1 :: ps.drop (i + 1) := by
            have il := (List.getElem?_eq_some_iff.mp hq1).1
            rw [List.drop_eq_getElem_cons il]
            have := (List.getElem?_eq_some_iff.mp hq1).2
            rw [this]
          obtain ⟨ts, hf, hl, ht⟩ := id fa
          refine ⟨_, _, rfl, SqT.of e1, rfl, _, _, rfl, _, _, rfl, rfl, ?_⟩
          refine ⟨_, rfl, f, _, rfl, SqT.of (C.sm _ _ hf), for_it (walk_enumT (xs := ts.map V.ref)) (fun k σ H' => ∃ (kvs3 : List (Key × V)) (qs3 : List (Addr × Int)) (v7 v8 v9 v10 : Option V), σ = [some (.ref f), some (.int b), some (.ref d), some (.ref r), some (.ref u), some (.ref wy), some (.int q1.2), v7, v8, v9, v10] ∧
            Co H H' d r u last (miss last kvs) ps qs3 kvs3 ∧ H' wy = some (.tup xs) ∧ xs.length ≤ kvs3.length ∧ Clo fr b kvs3 (fun g x => ((∃ q ∈ ps.drop (i + 1), q.2 = g) ∨ ∃ q ∈ qs3, q.2 = g) ∨ (g = q1.2 ∧ x ∈ fr.drop k)))
            ⟨kvs2, qs, v7, v8, v9, v10, rfl, C, e2, e3, fun x hx h => ?_⟩
            (fun k σ H' _ ⟨_, _, _, _, _, _, _, C', _⟩ => SqT.of (C'.sm _ _ hf)) ?_ ?_⟩
          · rcases cl x hx h with (⟨q, z, e⟩ | z) | z
            · rw [dq] at z
              rcases List.mem_cons.mp z with z | z
              · subst z
                exact .inl (.inr ⟨e.symm, by simpa using hx⟩)
              · exact .inl (.inl (.inl ⟨q, z, e⟩))
            · exact .inl (.inl (.inr z))
            · exact .inr z
          · rintro k x σ H3 H4 hk ⟨kvs3, qs3, v7, v8, v9, v10, rfl, C3, w3, wl, cl3⟩ ⟨T, xi, xo, rfl, nT, rfl, h1, h2⟩
            cases h1
            obtain ⟨t, y, hy, rfl, e4⟩ := at_step (i := k) hl ht h2
            have uT := same_upd (o := HO.tup [V.int (k : Nat), V.ref t]) nT
            have C4 := C3.same uT
            have t4 := uT _ _ (C3.sm _ _ e4)
            have w4 := uT _ _ w3
            have hym : y ∈ fr := List.mem_of_getElem? hy
            obtain ⟨b1, b2, _, b3, b4⟩ := fm.stp y hym
            obtain ⟨b5, b6⟩ := fm.lo y hym
            have dk : fr.drop k = y :: fr.drop (k + 1) := by
              have il := (List.getElem?_eq_some_iff.mp hy).1
              rw [List.drop_eq_getElem_cons il]
              have := (List.getElem?_eq_some_iff.mp hy).2
              rw [this]
            -- the step is done with
            have go : ∀ (kvs4 : List (Key × V)) (qs4 : List (Addr × Int)), (∀ g : Int, has kvs4 g = true → has kvs3 g = true ∨ ∃ q ∈ qs4, q.2 = g) → (∀ g : Int, has kvs3 g = true → has kvs4 g = true) → (∀ q ∈ qs3, q ∈ qs4) → (y.1 = q1.2 → has kvs4 y.2.2 = true) →
                Clo fr b kvs4 (fun g x => ((∃ q ∈ ps.drop (i + 1), q.2 = g) ∨ ∃ q ∈ qs4, q.2 = g) ∨ (g = q1.2 ∧ x ∈ fr.drop (k + 1))) := fun kvs4 qs4 n1 n2 n3 n4 x hx h => by
              have old : x.1 = (b : Int) ∨ has kvs3 x.1 = true → ((((∃ q ∈ ps.drop (i + 1), q.2 = x.1) ∨ ∃ q ∈ qs4, q.2 = x.1) ∨ (x.1 = q1.2 ∧ x ∈ fr.drop (k + 1))) ∨ has kvs4 x.2.2 = true) := fun h => by
                rcases cl3 x hx h with ((z | ⟨q, z, e⟩) | ⟨z1, z2⟩) | z
                · exact .inl (.inl (.inl z))
                · exact .inl (.inl (.inr ⟨q, n3 q z, e⟩))
                · rw [dk] at z2
                  rcases List.mem_cons.mp z2 with z2 | z2
                  · subst z2
                    exact .inr (n4 z1)
                  · exact .inl (.inr ⟨z1, z2⟩)
                · exact .inr (n2 _ z)
              rcases h with h | h
              · exact old (.inl h)
              · rcases n1 _ h with z | z
                · exact old (.inr z)
                · exact .inl (.inl (.inr z))
            refine ⟨T, _, rfl, SqT.of upd_same, rfl, _, _, rfl, _, _, rfl, ⟨t, _, rfl, SqT.of t4, rfl, _, _, rfl, _, _, rfl, _, _, rfl, rfl, rfl, ?_⟩⟩
            refine ⟨_, rfl, _, rfl, rfl, _, rfl, ?_⟩
            refine ite2 (fun z => ?_) (fun z => ?_)
            · have z1 : y.1 = q1.2 := V.int.inj (of_decide_eq_true z)
              refine ⟨_, rfl, _, rfl, d, _, rfl, DGet.k (k := Sum.inl y.2.2) C4.hd, _, rfl, ?_⟩
              refine ite2 (fun y1 => ?_) (fun y1 => ?_)
              · have no : has kvs3 y.2.2 = false := by
                  cases e : has kvs3 y.2.2 with
                  | false => rfl
                  | true =>
                    have e' : (valV kvs3 (Sum.inl y.2.2 : Key)).isSome = true := e
                    rw [e'] at y1
                    cases y1
                have mp := miss_put (v := V.non) b3 b6 no
                have l5 := fm.l5
                have c3 := C3.cnt
                refine ⟨_, rfl, ⟨_, rfl, (by show 1 ≤ sizeLine; decide), fun p hp => ⟨wy, p, xs, [V.int (k : Nat)], rfl, rfl, SqT.of (same_upd hp _ _ w4), upd_same, (fun z => by cases z), ?_, fun nw H5 s5 n5 => ?_⟩⟩⟩
                · rw [sizeLine_eq]
                  simp only [List.length_cons, List.length_nil]
                  omega
                have C5 := (C4.same (same_upd (o := HO.tup [V.int (k : Nat)]) hp)).same s5
                have hdu : d ≠ u := ne_of C5.hd C5.hu (fun z => by cases z)
                have hdr : d ≠ r := ne_of C5.hd C5.hr (fun z => by cases z)
                refine ⟨_, rfl, _, rfl, d, _, rfl, DPut.k (k := Sum.inl y.2.2) C5.hd (by rw [sizeLine_eq]; omega), ?_⟩
                have hn : valV kvs3 (Sum.inl y.2.2 : Key) = none := by
                  cases e : valV kvs3 (Sum.inl y.2.2 : Key) with
                  | none => rfl
                  | some v =>
                    have e' : has kvs3 y.2.2 = true := by
                      show (valV kvs3 (Sum.inl y.2.2 : Key)).isSome = true
                      rw [e]
                      rfl
                    rw [e'] at no
                    cases no
                generalize hH6 : upd H5 d (.dK (putK kvs3 (Sum.inl y.2.2) (.ref nw))) = H6
                have k6 : KeepT H5 H6 := by
                  rw [← hH6]
                  exact keepT_upd C5.hd (fun xs z => by cases z)
                have d6 : H6 d = some (.dK (putK kvs3 (Sum.inl y.2.2) (.ref nw))) := by
                  rw [← hH6]
                  exact upd_same
                have u6 : H6 u = some (.lst (qs3.map fun q => V.ref q.1)) := by
                  rw [← hH6, upd_ne hdu.symm]
                  exact C5.hu
                have r6 : H6 r = some (.lst (ps.map fun q => V.ref q.1)) := by
                  rw [← hH6, upd_ne hdr.symm]
                  exact C5.hr
                have m6 : Same H H6 := by
                  rw [← hH6]
                  exact same_set hd0 C5.sm
                have g6 : valV (putK kvs3 (Sum.inl y.2.2) (V.ref nw)) (Sum.inl y.2.2 : Key) = some (.ref nw) := by
                  rw [valV_put, if_pos rfl]
                have n6 := k6 _ _ n5
                have ml := miss_le (last := last) (kvs := kvs3)
                have mp2 := miss_put (v := V.ref nw) b3 b6 no
                have pe : (putK kvs3 (Sum.inl y.2.2 : Key) (V.ref nw)).length = kvs3.length + 1 := by
                  rw [putK_new _ hn, List.length_append]
                  rfl
                have ql := C3.ql
                refine ⟨_, rfl, ?_, _, rfl, _, rfl, ⟨d, _, rfl, by rw [← g6]; exact DGet.k (k := Sum.inl y.2.2) d6, _, rfl, (by show 2 ≤ sizeLine; decide), fun p7 hp7 => ⟨u, qs3.map (fun q => V.ref q.1), _, rfl, rfl, same_upd hp7 _ _ u6, by rw [sizeLine_eq, List.length_map]; omega, ?_⟩⟩⟩
                · exact .inl ⟨rfl, _, SqL.of u6⟩
                have k7 := Same.keepT (same_upd (o := HO.tup [V.ref nw, V.int y.2.2]) hp7)
                have hd7 := same_upd (o := HO.tup [V.ref nw, V.int y.2.2]) hp7 _ _ d6
                have hu7 := same_upd (o := HO.tup [V.ref nw, V.int y.2.2]) hp7 _ _ u6
                have hr7 := same_upd (o := HO.tup [V.ref nw, V.int y.2.2]) hp7 _ _ r6
                have k8 := keepT_upd (o := .lst (qs3.map (fun q => V.ref q.1) ++ [V.ref p7])) hu7 (fun xs z => by cases z)
                have kk : KeepT H5 _ := (k6.trans k7).trans k8
                refine ⟨putK kvs3 (Sum.inl y.2.2) (.ref nw), qs3 ++ [(p7, y.2.2)], _, _, _, _, rfl, ⟨same_set hu00 (m6.trans (same_upd hp7)), ?_, ?_, ?_, ?_, ?_, by rw [pe]; omega, .inr ?_, by rw [pe, List.length_append]; simp only [List.length_cons, List.length_nil]; omega⟩, ?_, by rw [pe]; omega, ?_⟩
                · rw [upd_ne hdu]
                  exact hd7
                · rw [upd_ne hur.symm]
                  exact hr7
                · rw [List.map_append]
                  exact upd_same
                · exact C5.rp.keep kk (by rw [pe]; omega)
                · intro q hq
                  rcases List.mem_append.mp hq with hq | hq
                  · exact C5.rq.keep kk (by rw [pe]; omega) q hq
                  · have e : q = (p7, y.2.2) := by simpa using hq
                    subst e
                    refine ⟨b3, b6, nw, xs ++ [V.int (k : Nat)], k8 _ _ upd_same, k8 _ _ (k7 _ _ n6), ?_⟩
                    rw [pe, List.length_append]
                    simp only [List.length_cons, List.length_nil]
                    omega
                · rcases C3.me with ⟨_, z⟩ | z <;> omega
                · exact kk _ _ ((same_upd (o := HO.tup [V.int (k : Nat)]) hp |>.trans s5) _ _ w4)
                · refine go _ _ (fun g h => ?_) (fun g h => ?_) (fun q h => List.mem_append_left _ h) (fun _ => ?_)
                  · rw [has_put] at h
                    rcases (Bool.or_eq_true _ _).mp h with h | h
                    · exact .inr ⟨_, List.mem_append_right _ (List.mem_singleton.mpr rfl), (of_decide_eq_true h).symm⟩
                    · exact .inl h
                  · rw [has_put, h, Bool.or_true]
                  · rw [has_put, decide_eq_true rfl]
                    rfl
              · have yes : has kvs3 y.2.2 = true := by
                  cases e : has kvs3 y.2.2 with
                  | true => rfl
                  | false =>
                    have e' : (valV kvs3 (Sum.inl y.2.2 : Key)).isSome = false := e
                    rw [e'] at y1
                    exact absurd rfl y1
                exact ⟨kvs3, qs3, _, _, _, _, rfl, C4, w4, wl, go kvs3 qs3 (fun g h => .inl h) (fun g h => h) (fun q h => h) (fun _ => yes)⟩
            · have z1 : ¬ y.1 = q1.2 := fun e => z (decide_eq_true (congrArg V.int e))
              refine iteF ?_
              exact ⟨kvs3, qs3, _, _, _, _, rfl, C4, w4, wl, go kvs3 qs3 (fun g h => .inl h) (fun g h => h) (fun q h => h) (fun e => absurd e z1)⟩
          · rintro σ H3 ⟨kvs3, qs3, v7, v8, v9, v10, rfl, C3, w3, wl, cl3⟩
            refine ⟨kvs3, qs3, _, _, v7, v8, v9, v10, rfl, C3, fun x hx h => ?_⟩
            rcases cl3 x hx h with (z | ⟨_, z⟩) | z
            · exact .inl z
            · rw [show (ts.map V.ref).length = fr.length by simp [hl], List.drop_length] at z
              cases z
            · exact .inr z
        · rintro σ H2 ⟨kvs2, qs, v5, v6, v7, v8, v9, v10, rfl, C, cl⟩
          refine ⟨_, rfl, _, ?_, u, kvs2, qs, some (.ref u), v5, v6, v7, v8, v9, v10, rfl, C.sm, C.hd, C.hu, C.rq, C.cnt, fun x hx h => ?_, rfl⟩
          · rw [if_neg hps]
            rcases C.me with ⟨z, y⟩ | z
            · rw [if_pos z]
              omega
            · split <;> omega
          · rcases cl x hx h with (z | z) | z
            · rw [List.length_map, List.drop_length] at z
              obtain ⟨_, z, _⟩ := z
              cases z
            · exact .inl z
            · exact .inr z
end
end K50

set_option Elab.async false
set_option linter.all false
set_option maxRecDepth 100000
set_option maxHeartbeats 4000000
/-! is_joined, need_framing. -/
namespace K50
open PySem L2 L2.EV
abbrev sJoined : Stmt := top 18
abbrev sNeedF : Stmt := top 19
def spJoined : Sp := fun vs H Q _ => ∃ (f : Addr) (fr : List T3) (last : Nat), vs = [.ref f] ∧ FrA H f fr ∧ Frm fr last ∧ ∀ H', Same H H' → Q (.bl true) H'
def spNeedF : Sp := fun vs H Q _ => ∃ (f : Addr) (fr : List T3) (last : Nat), vs = [.ref f] ∧ FrA H f fr ∧ Frm fr last ∧ ∀ H', Same H H' → Q (.ref f) H'
/-- the defs that need_framing calls -/
structure Fs (K : PySem.W.Frag) (mg : Str → Option Value) where
  fN : Addr
  fP : Addr
  fS : Addr
  fL : Addr
  fW : Addr
  fJ : Addr
  fF : Addr
  dN : FuncData
  dP : FuncData
  dS : FuncData
  dL : FuncData
  dW : FuncData
  dJ : FuncData
  dF : FuncData
  N : Fun K "is_number" "is_number" sNum fN dN
  P : Fun K "is_piece" "is_piece" sPc fP dP
  S : Fun K "is_step" "is_step" sStep fS dS
  L : Fun K "listed_standings" "listed_standings" sListed fL dL
  W : Fun K "ways_from" "ways_from" sWays fW dW
  J : Fun K "is_joined" "is_joined" sJoined fJ dJ
  F : Fun K "need_framing" "need_framing" sNeedF fF dF
  bN : Binds K dN ["thing", "many"] []
  bP : Binds K dP ["thing"] []
  bS : Binds K dS ["thing"] []
  bL : Binds K dL ["framing"] []
  bW : Binds K dW ["framing", "begin"] []
  bJ : Binds K dJ ["framing"] []
  bF : Binds K dF ["thing"] []
  mN : mg "is_number" = some (.ref fN)
  mP : mg "is_piece" = some (.ref fP)
  mS : mg "is_step" = some (.ref fS)
  mL : mg "listed_standings" = some (.ref fL)
  mW : mg "ways_from" = some (.ref fW)
  mJ : mg "is_joined" = some (.ref fJ)
  mF : mg "need_framing" = some (.ref fF)
  T : TxtF mg
  so : mg "sorted" = none
  en : mg "enumerate" = none
  ms : ∃ t, mg "MOST_STEPS" = some (.int 16 t)
section
variable {P : Program} {w : World} {K : PySem.W.Frag} {mg : Str → Option Value} {base : Heap}
theorem scJoined : FnScope ["framing", "reached", "standing"] ["framing"] (defScope sJoined) := ⟨rfl, rfl, rfl, by decide +kernel, rfl, by decide +kernel, by decide +kernel⟩
theorem ok_joined (Z : Fs K mg) : FnOk P w K mg base CX0 2 Z.fJ Z.dJ ["framing"] spJoined := by
  have GL : FnOk P w K mg base CX0 1 Z.fL Z.dL ["framing"] spListed := ok_listed Z.L Z.so
  have GW : FnOk P w K mg base CX0 1 Z.fW Z.dW ["framing", "begin"] spWays := ok_ways Z.W Z.en
  refine Z.J.ok scJoined (fun vs H Q E h => ?_) (fun cdv A outer s H vs Q E hr h => ?_)
  · obtain ⟨f, fr, last, rfl, _⟩ := h
    rfl
  · obtain ⟨f, fr, last, rfl, fa, fm, q⟩ := h
    have hu := hu_of hr
    refine ⟨_, pss_cons (ps_set (i := 1) scJoined.nd rfl (Or.inl rfl) (pe_call GW hr (by rfl) Z.mW Z.W.kp Z.bW .nil pass0 (pa_cons (pv 0) (pa_cons pe_int pa_nil))))
      (pss_cons (ps_for PassesOwn.never rfl (pi_list (pe_call GL hr (by rfl) Z.mL Z.L.kp Z.bL .nil pass0 (pa_cons (pv 0) pa_nil))) (pg_name (i := 2) scJoined.nd rfl (Or.inl rfl))
        (pss_one (ps_if (pw_or (pt_cmp (pc_dnotin hu (pv 2) (pv 1)) (by rfl)) (pw_or1 (pt_cmp (pc_dnotin hu pe_int (pe_call GW hr (by rfl) Z.mW Z.W.kp Z.bW .nil pass0 (pa_cons (pv 0) (pa_cons (pv 2) pa_nil)))) (by rfl)))).pt
          (pss_one (ps_ret pe_bl)) pss_nil)))
      (pss_one (ps_ret pe_bl))), ?_⟩
    refine ⟨_, rfl, f, fr, last, 0, rfl, fa, fm, Nat.zero_le _, fun H1 d kvs s1 n1 e1 h1 => ?_⟩
    refine ⟨_, rfl, f, fr, last, rfl, fa.same s1, fm, fun H2 p ns s2 n2 e2 l2 k2 => ⟨p, rfl, ⟨_, SqL.of e2⟩, for_it (walk_list (xs := ns.map V.int)) (fun i σ H' => ∃ v2 : Option V, σ = [some (.ref f), some (.ref d), v2] ∧ Same H2 H')
      ⟨none, rfl, fun _ _ e => e⟩ (fun i σ H' _ ⟨_, _, z⟩ => SqL.of (z _ _ e2)) ?_ ?_⟩⟩
    · rintro i x σ H3 H4 hi ⟨v2, rfl, s3⟩ ⟨rfl, hx⟩
      obtain ⟨k, hk, rfl⟩ : ∃ k : Int, k ∈ ns ∧ x = .int k := by
        rw [List.getElem?_map] at hx
        cases e : ns[i]? with
        | none =>
          rw [e] at hx
          cases hx
        | some k =>
          rw [e] at hx
          exact ⟨k, List.mem_of_getElem? e, (Option.some.inj hx).symm⟩
      obtain ⟨k0, k1⟩ := k2 k hk
      obtain ⟨b, rfl⟩ := Int.eq_ofNat_of_zero_le k0
      have hb : b ≤ last := by omega
      have hb' : (valV kvs (Sum.inl (b : Int) : Key)).isSome = true := h1 b hb
      refine ⟨_, rfl, _, rfl, d, _, rfl, DGet.k (k := Sum.inl (b : Int)) (s3 _ _ (s2 _ _ e1)), _, rfl, iteF' (by rw [hb']; rfl) ?_⟩
      refine ⟨_, rfl, _, rfl, f, fr, last, b, rfl, (fa.same s1).same (s2.trans s3), fm, hb, fun H5 d5 kvs5 s5 n5 e5 h5 => ?_⟩
      have h0' : (valV kvs5 (Sum.inl (0 : Int) : Key)).isSome = true := h5 0 (Nat.zero_le _)
      refine ⟨d5, _, rfl, DGet.k (k := Sum.inl (0 : Int)) e5, _, rfl, iteF' (by rw [h0']; rfl) ?_⟩
      exact ⟨_, rfl, s3.trans s5⟩
    · rintro σ H3 ⟨v2, rfl, s3⟩
      exact q H3 (s1.trans (s2.trans s3))
theorem scNeedF : FnScope ["thing", "number", "step"] ["thing"] (defScope sNeedF) := ⟨rfl, rfl, rfl, by decide +kernel, rfl, by decide +kernel, by decide +kernel⟩
theorem ok_needF (Z : Fs K mg) : FnOk P w K mg base CX0 3 Z.fF Z.dF ["thing"] spNeedF := by
  have GS : FnOk P w K mg base CX0 2 Z.fS Z.dS ["thing"] spStep := ok_step Z.S Z.T Z.N Z.bN Z.mN Z.P Z.bP Z.mP
  have GJ : FnOk P w K mg base CX0 2 Z.fJ Z.dJ ["framing"] spJoined := ok_joined Z
  refine Z.F.ok scNeedF (fun vs H Q E h => ?_) (fun cdv A outer s H vs Q E hr h => ?_)
  · obtain ⟨f, fr, last, rfl, _⟩ := h
    rfl
  · obtain ⟨f, fr, last, rfl, fa, fm, q⟩ := h
    have hu := hu_of hr
    have hu0 : (A.deeper (PyProof.Rows.envOfC "need_framing" (defScope sNeedF) s.heap.objs.size Z.fF cdv)).units < cLine := by omega
    obtain ⟨tm, eM⟩ := Z.ms
    refine ⟨_, pss_cons (ps_if (pw_or (pt_not (pt_val (pe_callB call_isi (by rfl) Z.T.isi PyProof.Rows.boot_isinstance (pa_cons (pv 0) (pa_cons (pe_bltn (v := .ty "tuple") (by rfl) Z.T.tuple (by decide +kernel) rfl) pa_nil)))))
        (pw_or1 (pt_not (pt_chain op_le op_le pe_int (pe_callB call_len_seq (by rfl) Z.T.len PySem.boot_len (pa_cons (pv 0) pa_nil)) (pe_glob (v := .int 16) (by rfl) eM ⟨_, rfl⟩))))).pt
        (pss_one ps_never) pss_nil)
      (pss_cons (ps_for PassesOwn.never rfl (pi_enumT (by rfl) Z.en (pa_cons (pv 0) pa_nil)) (pg_tup rfl (pgs_cons (pg_name (i := 1) scNeedF.nd rfl (Or.inl rfl)) (pgs_cons (pg_name (i := 2) scNeedF.nd rfl (Or.inl rfl)) pgs_nil)))
        (pss_one (ps_if (pw_or (pt_not (pt_val (pe_call GS hr (by rfl) Z.mS Z.S.kp Z.bS .nil pass0 (pa_cons (pv 2) pa_nil))))
          (pw_or1 (pw_and (pt_cmpR op_gt (pv 1) pe_int (nomark _)) (pw_and1 (pt_cmpR (op_le3 hu0) (pv 2) (pe_ix ix_tup (pv 0) (pe_op op_sub (pv 1) pe_int) (fun _ _ => rfl)) (nomark _)))).pt)).pt
          (pss_one ps_never) pss_nil)))
      (pss_cons (ps_if (pt_not (pt_val (pe_call GJ hr (by rfl) Z.mJ Z.J.kp Z.bJ .nil pass0 (pa_cons (pv 0) pa_nil)))) (pss_one ps_never) pss_nil)
      (pss_one (ps_ret (pv 0))))), ?_⟩
    obtain ⟨ts, hf, hl, ht⟩ := id fa
    have l0 := fm.l0
    have l1 := fm.l1
    refine ⟨_, rfl, .ref f, .ty "tuple", .type "tuple", .type "tuple", true, rfl, .ty "tuple", .base (.tup hf), kit_ty (by decide +kernel), true, rfl, iteF ?_⟩
    refine ⟨_, rfl, f, _, rfl, .inr (SqT.of hf), 1, _, rfl, rfl, _, rfl, iteT' (decide_eq_true (by simp; omega)) ⟨_, 16, rfl, rfl, _, rfl, ?_⟩⟩
    refine iteF' (by rw [decide_eq_true (by simp; omega)]; rfl) ?_
    refine ⟨_, rfl, f, _, rfl, SqT.of hf, for_it (walk_enumT (xs := ts.map V.ref)) (fun i σ H' => ∃ v1 v2 : Option V, σ = [some (.ref f), v1, v2] ∧ Same H H')
      ⟨none, none, rfl, fun _ _ e => e⟩ (fun i σ H' _ ⟨_, _, _, z⟩ => SqT.of (z _ _ hf)) ?_ ?_⟩
    · rintro i x σ H1 H2 hi ⟨v1, v2, rfl, s1⟩ ⟨T, xi, xo, rfl, nT, rfl, h1, h2⟩
      cases h1
      obtain ⟨t, y, hy, rfl, e4⟩ := at_step (i := i) hl ht h2
      have s2 := s1.trans (same_upd (o := HO.tup [V.int (i : Nat), V.ref t]) nT)
      refine ⟨T, _, rfl, SqT.of upd_same, rfl, _, _, rfl, _, _, rfl, rfl, ?_⟩
      refine ⟨_, rfl, t, y, rfl, s2 _ _ e4, fm.stp y (List.mem_of_getElem? hy), fun H3 s3 => ⟨_, rfl, iteF ?_⟩⟩
      refine ⟨_, rfl, (i : Int), 0, rfl, rfl, _, rfl, ?_⟩
      refine ite2 (fun z => ?_) (fun z => ?_)
      · have z1 : (0 : Int) < i := of_decide_eq_true z
        obtain ⟨j, rfl⟩ : ∃ j, i = j + 1 := ⟨i - 1, by omega⟩
        have jl : j < fr.length := by
          have := (List.getElem?_eq_some_iff.mp hy).1
          omega
        have jt : j < ts.length := by omega
        have e5 := ht j ts[j] fr[j] (List.getElem?_eq_getElem jt) (List.getElem?_eq_getElem jl)
        have lt : lt3 fr[j] y = true := by
          have h3 := List.pairwise_iff_getElem.mp fm.srt j (j + 1) jl (List.getElem?_eq_some_iff.mp hy).1 (by omega)
          rw [(List.getElem?_eq_some_iff.mp hy).2] at h3
          exact h3
        refine ⟨_, rfl, _, rfl, _, rfl, _, _, rfl, rfl, f, _, (j : Int), V.ref ts[j], rfl, ?_, SqT.of (s3 _ _ (s2 _ _ hf)), atI_nat ?_, t, ts[j], y, fr[j], rfl, rfl, s3 _ _ (s2 _ _ e4), s3 _ _ (s2 _ _ e5), _, rfl, ?_⟩
        · show V.int (((j + 1 : Nat) : Int) - 1) = V.int (j : Int)
          congr 1
          omega
        · rw [List.getElem?_map, List.getElem?_eq_getElem jt]
          rfl
        · refine iteF' (by rw [lt]; rfl) ?_
          exact ⟨_, _, rfl, s2.trans s3⟩
      · refine iteF ?_
        exact ⟨_, _, rfl, s2.trans s3⟩
    · rintro σ H1 ⟨v1, v2, rfl, s1⟩
      refine ⟨_, rfl, f, fr, last, rfl, fa.same s1, fm, fun H2 s2 => ⟨_, rfl, iteF ⟨_, rfl, q H2 (s1.trans s2)⟩⟩⟩
end
end K50

set_option Elab.async false
set_option linter.all false
set_option maxRecDepth 100000
set_option maxHeartbeats 4000000
/-! is_entry, first_wrong, need_weaving. -/
namespace K50
open PySem L2 L2.EV
abbrev sEntry : Stmt := top 34
abbrev sWrong : Stmt := top 35
abbrev E2 : Type := Int × Int
abbrev A2 (H : Hp) (t : Addr) (e : E2) : Prop := H t = some (.tup [.int e.1, .int e.2])
/-- a weaving at w -/
def WvA (H : Hp) (w : Addr) (es : List E2) : Prop := ∃ ts : List Addr, H w = some (.tup (ts.map V.ref)) ∧ ts.length = es.length ∧ ∀ (i : Nat) t e, ts[i]? = some t → es[i]? = some e → A2 H t e
theorem WvA.same {H H' : Hp} {f : Addr} {es : List E2} (h : WvA H f es) (s : Same H H') : WvA H' f es := by
  obtain ⟨ts, e, l, c⟩ := h
  exact ⟨ts, s _ _ e, l, fun i t x h1 h2 => s _ _ (c i t x h1 h2)⟩
theorem at_ent {H : Hp} {ts : List Addr} {es : List E2} {i : Nat} {x : V} (hl : ts.length = es.length) (ht : ∀ (i : Nat) t e, ts[i]? = some t → es[i]? = some e → A2 H t e) (hx : (ts.map V.ref)[i]? = some x) :
    ∃ t e, es[i]? = some e ∧ ts[i]? = some t ∧ x = .ref t ∧ A2 H t e := by
  rw [List.getElem?_map] at hx
  cases e : ts[i]? with
  | none =>
    rw [e] at hx
    cases hx
  | some t =>
    rw [e] at hx
    have il : i < es.length := by
      have := (List.getElem?_eq_some_iff.mp e).1
      omega
    exact ⟨t, es[i], List.getElem?_eq_getElem il, rfl, (Option.some.inj hx).symm, ht i t _ e (List.getElem?_eq_getElem il)⟩
/-- a step by its number -/
def stt (fr : List T3) (n : Int) : T3 := fr.getD n.toNat (0, "", 0)
/-- the standings behind some entries -/
def plc (fr : List T3) (es : List E2) : List Int := es.foldl (fun pl e => pl.set e.1.toNat (stt fr e.2).2.2) (List.replicate 8 0)
/-- an entry by itself -/
def Ent (fr : List T3) (e : E2) : Prop := 0 ≤ e.1 ∧ e.1 < 8 ∧ 0 ≤ e.2 ∧ e.2 < fr.length
structure Wv (fr : List T3) (es : List E2) : Prop where
  l : es.length ≤ 60
  ent : ∀ e ∈ es, Ent fr e
  go : ∀ (i : Nat) e, es[i]? = some e → (plc fr (es.take i))[e.1.toNat]? = some (stt fr e.2).1
theorem plc_snoc {fr : List T3} {es : List E2} {e : E2} : plc fr (es ++ [e]) = (plc fr es).set e.1.toNat (stt fr e.2).2.2 := by
  unfold plc
  rw [List.foldl_append]
  rfl
theorem plc_len {fr : List T3} : ∀ {es : List E2}, (plc fr es).length = 8 := by
  have z : ∀ (es : List E2) (pl : List Int), (es.foldl (fun pl e => pl.set e.1.toNat (stt fr e.2).2.2) pl).length = pl.length := by
    intro es
    induction es with
    | nil => exact fun pl => rfl
    | cons e es ih =>
      intro pl
      rw [List.foldl_cons, ih, List.length_set]
  intro es
  unfold plc
  rw [z, List.length_replicate]
theorem take_one {α : Type} {es : List α} {i : Nat} {e : α} (h : es[i]? = some e) : es.take (i + 1) = es.take i ++ [e] := by
  have il := (List.getElem?_eq_some_iff.mp h).1
  rw [List.take_succ, h]
  rfl
/-- framing[n] -/
theorem stt_at {H : Hp} {f : Addr} {fr : List T3} {n : Int} (fa : FrA H f fr) (h0 : 0 ≤ n) (h1 : n < fr.length) : ∃ (ts : List Addr) (t : Addr), H f = some (.tup (ts.map V.ref)) ∧ atI (ts.map V.ref) n = some (.ref t) ∧ S3 H t (stt fr n) ∧ stt fr n ∈ fr := by
  obtain ⟨ts, hf, hl, ht⟩ := fa
  obtain ⟨k, rfl⟩ := Int.eq_ofNat_of_zero_le h0
  have kl : k < fr.length := by omega
  have kt : k < ts.length := by omega
  have e : stt fr (k : Int) = fr[k] := by
    unfold stt
    rw [List.getD_eq_getElem?_getD]
    simp [kl]
  refine ⟨ts, ts[k], hf, atI_nat ?_, ?_, ?_⟩
  · rw [List.getElem?_map, List.getElem?_eq_getElem kt]
    rfl
  · rw [e]
    exact ht k _ _ (List.getElem?_eq_getElem kt) (List.getElem?_eq_getElem kl)
  · rw [e]
    exact List.getElem_mem kl
def spEntry : Sp := fun vs H Q _ => ∃ (f t : Addr) (fr : List T3) (e : E2), vs = [.ref f, .ref t, .int 8] ∧ FrA H f fr ∧ A2 H t e ∧ Ent fr e ∧ Q (.bl true) H
def spWrong : Sp := fun vs H Q _ => ∃ (f w : Addr) (fr : List T3) (es : List E2), vs = [.ref f, .ref w, .int 0] ∧ FrA H f fr ∧ WvA H w es ∧ Wv fr es ∧ ∀ H', Same H H' → Q .non H'
structure Ws (K : PySem.W.Frag) (mg : Str → Option Value) where
  Z : Fs K mg
  fE : Addr
  fR : Addr
  dE : FuncData
  dR : FuncData
  E : Fun K "is_entry" "is_entry" sEntry fE dE
  R : Fun K "first_wrong" "first_wrong" sWrong fR dR
  bE : Binds K dE ["framing", "thing", "many"] []
  bR : Binds K dR ["framing", "things", "begin"] []
  mE : mg "is_entry" = some (.ref fE)
  mR : mg "first_wrong" = some (.ref fR)
  marks : ∃ t, mg "MARKS" = some (.str "ABCDEFGH" t)
section
variable {P : Program} {w : World} {K : PySem.W.Frag} {mg : Str → Option Value} {base : Heap}
theorem scEntry : FnScope ["framing", "thing", "many"] ["framing", "thing", "many"] (defScope sEntry) := ⟨rfl, rfl, rfl, by decide +kernel, rfl, by decide +kernel, by decide +kernel⟩
theorem ok_entry (Y : Ws K mg) : FnOk P w K mg base CX0 2 Y.fE Y.dE ["framing", "thing", "many"] spEntry := by
  have GN : FnOk P w K mg base CX0 1 Y.Z.fN Y.Z.dN ["thing", "many"] spNum := ok_num Y.Z.N Y.Z.T
  refine Y.E.ok scEntry (fun vs H Q E h => ?_) (fun cdv A outer s H vs Q E hr h => ?_)
  · obtain ⟨f, t, fr, e, rfl, _⟩ := h
    rfl
  · obtain ⟨f, t, fr, e, rfl, fa, ha, ⟨e0, e1, e2, e3⟩, q⟩ := h
    obtain ⟨tm, eM⟩ := Y.marks
    refine ⟨_, pss_cons (ps_if (pw_or (pt_not (pt_val (pe_callB call_isi (by rfl) Y.Z.T.isi PyProof.Rows.boot_isinstance (pa_cons (pv 1) (pa_cons (pe_bltn (v := .ty "tuple") (by rfl) Y.Z.T.tuple (by decide +kernel) rfl) pa_nil)))))
        (pw_or1 (pt_cmpR op_ne (pe_callB call_len_seq (by rfl) Y.Z.T.len PySem.boot_len (pa_cons (pv 1) pa_nil)) pe_int (nomark _)))).pt
        (pss_one (ps_ret pe_bl)) pss_nil)
      (pss_one (ps_ret (pe_and (pe_call GN hr (by rfl) Y.Z.mN Y.Z.N.kp Y.Z.bN .nil pass0 (pa_cons (pe_ix ix_tup (pv 1) pe_int (fun _ _ => rfl)) (pa_cons (pv 2) pa_nil)))
        (pe_one (pe_call GN hr (by rfl) Y.Z.mN Y.Z.N.kp Y.Z.bN .nil pass0 (pa_cons (pe_ix ix_tup (pv 1) pe_int (fun _ _ => rfl)) (pa_cons (pe_callB call_len_seq (by rfl) Y.Z.T.len PySem.boot_len (pa_cons (pv 0) pa_nil)) pa_nil))))))), ?_⟩
    obtain ⟨ts, hf, hl, ht⟩ := id fa
    refine ⟨_, rfl, .ref t, .ty "tuple", .type "tuple", .type "tuple", true, rfl, .ty "tuple", .base (.tup ha), kit_ty (by decide +kernel), true, rfl, iteF ?_⟩
    refine ⟨_, rfl, t, _, rfl, .inr (SqT.of ha), rfl, _, rfl, iteF ?_⟩
    refine ⟨_, rfl, t, _, 0, _, rfl, rfl, SqT.of ha, atI_nat (j := 0) rfl, _, rfl, e.1, 8, rfl, true, ?_, iteT ?_⟩
    · rw [decide_eq_true e0, decide_eq_true e1]
      rfl
    refine ⟨_, rfl, t, _, 1, _, rfl, rfl, SqT.of ha, atI_nat (j := 1) rfl, _, rfl, f, _, rfl, .inr (SqT.of hf), e.2, _, rfl, ?_⟩
    rw [decide_eq_true e2, decide_eq_true (by simp [hl]; omega)]
    exact q
theorem scWrong : FnScope ["framing", "things", "begin", "mark", "places", "number", "thing", "writer", "step", "start", "piece", "goal"] ["framing", "things", "begin"] (defScope sWrong) := ⟨rfl, rfl, rfl, by decide +kernel, rfl, by decide +kernel, by decide +kernel⟩
theorem ok_wrong (Y : Ws K mg) : FnOk P w K mg base CX0 3 Y.fR Y.dR ["framing", "things", "begin"] spWrong := by
  have GE : FnOk P w K mg base CX0 2 Y.fE Y.dE ["framing", "thing", "many"] spEntry := ok_entry Y
  refine Y.R.ok scWrong (fun vs H Q E h => ?_) (fun cdv A outer s H vs Q E hr h => ?_)
  · obtain ⟨f, t, fr, e, rfl, _⟩ := h
    rfl
  · obtain ⟨f, wv, fr, es, rfl, fa, wa, wo, q⟩ := h
    obtain ⟨tm, eM⟩ := Y.marks
    refine ⟨_, pss_cons (ps_setLc (i := 4) (y := "places") (own := [("mark", 3)]) (g := gName 3) (te := tVar 2) rfl scWrong.nd rfl rfl (by rfl) (pi_str (pe_glob (v := .str "ABCDEFGH") (by rfl) eM ⟨_, rfl⟩))
        (blkOk_by (N := ["framing", "things", "begin", "mark", "places", "number", "thing", "writer", "step", "start", "piece", "goal"]) (sc := defScope sWrong) (by decide +kernel))
        (fun _ _ _ _ _ => pg_name (i := 3) scWrong.nd rfl (Or.inl rfl)) (fun _ _ _ _ _ => pts_nil) (fun _ _ _ _ _ => pv 2))
      (pss_cons (ps_for PassesOwn.never rfl (pi_enumT (by rfl) Y.Z.en (pa_cons (pv 1) pa_nil)) (pg_tup rfl (pgs_cons (pg_name (i := 5) scWrong.nd rfl (Or.inl rfl)) (pgs_cons (pg_name (i := 6) scWrong.nd rfl (Or.inl rfl)) pgs_nil)))
        (pss_cons (ps_if (pt_not (pt_val (pe_call GE hr (by rfl) Y.mE Y.E.kp Y.bE .nil pass0 (pa_cons (pv 0) (pa_cons (pv 6) (pa_cons (pe_callB call_len_str (by rfl) Y.Z.T.len PySem.boot_len (pa_cons (pe_glob (v := .str "ABCDEFGH") (by rfl) eM ⟨_, rfl⟩) pa_nil)) pa_nil)))))) (pss_one (ps_ret (pv 5))) pss_nil)
        (pss_cons (ps_asg (pv 6) (pg_tup rfl (pgs_cons (pg_name (i := 7) scWrong.nd rfl (Or.inl rfl)) (pgs_cons (pg_name (i := 8) scWrong.nd rfl (Or.inl rfl)) pgs_nil))))
        (pss_cons (ps_asg (pe_ix ix_tup (pv 0) (pv 8) (fun _ _ => rfl)) (pg_tup rfl (pgs_cons (pg_name (i := 9) scWrong.nd rfl (Or.inl rfl)) (pgs_cons (pg_name (i := 10) scWrong.nd rfl (Or.inl rfl)) (pgs_cons (pg_name (i := 11) scWrong.nd rfl (Or.inl rfl)) pgs_nil)))))
        (pss_cons (ps_if (pw_and (pt_cmpR op_notN (pe_ix ix_list (pv 4) (pv 7) (fun _ _ => rfl)) pe_non (nomark _)) (pw_and1 (pt_cmpR op_ne (pe_ix ix_list (pv 4) (pv 7) (fun _ _ => rfl)) (pv 9) (nomark _)))).pt (pss_one (ps_ret (pv 5))) pss_nil)
        (pss_one (ps_asg (pv 11) (pg_sub (pv 4) (pv 7) set_list))))))))
      (pss_one (ps_ret pe_non))), ?_⟩
    obtain ⟨tw, hw, wl, wt⟩ := id wa
    refine ⟨_, rfl, fun D hD => ?_⟩
    refine lc_it walk_str (fun i H' => H' D = some (.lst ((List.replicate i (0 : Int)).map V.int)) ∧ ∀ b o, H b = some o → H' b = some o) ⟨upd_same, fun b o z => same_upd hD b o z⟩ (fun _ _ _ _ => trivial) ?_ ?_
    · rintro i x H1 H2 hi ⟨hl, kp⟩ ⟨rfl, c, hc, rfl⟩
      refine ⟨rfl, ⟨_, rfl, _, hl, ?_, ?_, fun b o z => ?_⟩⟩
      · have h8 : i < 8 := hi
        rw [List.length_map, List.length_replicate, sizeLine_eq]
        omega
      · rw [List.replicate_succ', List.map_append]
        exact upd_same
      · rw [upd_ne (ne_of_none z hD)]
        exact kp b o z
    · rintro H1 ⟨hl, kp⟩
      refine ⟨_, rfl, wv, _, rfl, SqT.of (kp _ _ hw), for_it (walk_enumT (xs := tw.map V.ref)) (fun i σ H' => ∃ v5 v6 v7 v8 v9 v10 v11 : Option V, σ = [some (.ref f), some (.ref wv), some (.int 0), none, some (.ref D), v5, v6, v7, v8, v9, v10, v11] ∧ Same H H' ∧ H' D = some (.lst ((plc fr (es.take i)).map V.int)))
        ⟨none, none, none, none, none, none, none, rfl, kp, hl⟩ (fun i σ H' _ ⟨_, _, _, _, _, _, _, _, z, _⟩ => SqT.of (z _ _ hw)) ?_ ?_⟩
      · rintro i x σ H2 H3 hi ⟨v5, v6, v7, v8, v9, v10, v11, rfl, s2, d2⟩ ⟨T, xi, xo, rfl, nT, rfl, h1, h2⟩
        cases h1
        obtain ⟨t, e, he, _, rfl, e4⟩ := at_ent (i := i) wl wt h2
        have uT := same_upd (o := HO.tup [V.int (i : Nat), V.ref t]) nT
        have s3 := s2.trans uT
        have d3 := uT _ _ d2
        have ent := wo.ent e (List.mem_of_getElem? he)
        obtain ⟨e0, e1, n0, n1⟩ := id ent
        obtain ⟨ts, t2, hf, ha, h3, _⟩ := stt_at (fa.same s3) n0 n1
        have pw : atI ((plc fr (es.take i)).map V.int) e.1 = some (V.int (stt fr e.2).1) := by
          obtain ⟨k, hk⟩ := Int.eq_ofNat_of_zero_le e0
          have g := wo.go i e he
          rw [hk] at g ⊢
          refine atI_nat ?_
          rw [List.getElem?_map]
          have g' : (plc fr (es.take i))[k]? = some (stt fr e.2).1 := g
          rw [g']
          rfl
        refine ⟨T, _, rfl, SqT.of upd_same, rfl, _, _, rfl, _, _, rfl, rfl, ?_⟩
        refine ⟨_, rfl, _, rfl, _, rfl, (by decide +kernel), f, t, fr, e, rfl, fa.same s3, s3 _ _ e4, ent, _, rfl, iteF ?_⟩
        refine ⟨_, rfl, t, _, rfl, SqT.of (s3 _ _ e4), rfl, _, _, rfl, _, _, rfl, rfl, ?_⟩
        refine ⟨_, rfl, _, rfl, f, _, e.2, .ref t2, rfl, rfl, SqT.of hf, ha, t2, _, rfl, SqT.of h3, rfl, _, _, rfl, _, _, rfl, _, _, rfl, rfl, ?_⟩
        refine ⟨_, rfl, _, rfl, D, _, e.1, _, rfl, rfl, SqL.of d3, pw, rfl, _, rfl, iteT' (by simp) ?_⟩
        refine ⟨_, rfl, _, rfl, D, _, e.1, _, rfl, rfl, SqL.of d3, pw, _, rfl, rfl, _, rfl, iteF' (by simp) ?_⟩
        refine ⟨_, rfl, _, rfl, _, rfl, D, _, e.1, e.1.toNat, rfl, rfl, d3, ?_, ?_⟩
        · rw [List.length_map, plc_len]
          unfold ixN
          rw [if_pos e0, if_pos (by omega)]
        · refine ⟨_, _, _, _, _, _, _, rfl, same_set hD s3, ?_⟩
          rw [take_one he, plc_snoc, List.map_set]
          exact upd_same
      · rintro σ H2 ⟨v5, v6, v7, v8, v9, v10, v11, rfl, s2, d2⟩
        exact q H2 s2
end
end K50

set_option Elab.async false
set_option linter.all false
set_option maxRecDepth 100000
set_option maxHeartbeats 4000000
/-! Drawn pieces. -/
namespace K50
open PySem L2 L2.EV
abbrev sPiece : Stmt := top 57
/-- the draws have gone on from H0, where they were at k0 with the list l0: all other things are as they were -/
structure Dr (H0 H : Hp) (m c l0 l : Addr) (k : Int) : Prop where
  at_ : MAt H m c l k
  hl : l = l0 ∨ H0 l = none
  kp : ∀ b o, H0 b = some o → b ≠ m → b ≠ l0 → H b = some o
theorem Dr.refl {H : Hp} {m c l : Addr} {k : Int} (M : MAt H m c l k) : Dr H H m c l l k := ⟨M, .inl rfl, fun b o e _ _ => e⟩
theorem Dr.same {H0 H H' : Hp} {m c l0 l : Addr} {k : Int} (d : Dr H0 H m c l0 l k) (s : Same H H') : Dr H0 H' m c l0 l k :=
  ⟨d.at_.same s, d.hl, fun b o e h1 h2 => s _ _ (d.kp b o e h1 h2)⟩
/-- one part behind another -/
theorem Dr.trans {H0 H H' : Hp} {m c l0 l l' : Addr} {k k' : Int} (d : Dr H0 H m c l0 l k) (e : Dr H H' m c l l' k') : Dr H0 H' m c l0 l' k' := by
  refine ⟨e.at_, ?_, fun b o e1 h1 h2 => e.kp b o (d.kp b o e1 h1 h2) h1 ?_⟩
  · rcases e.hl with h | h
    · rw [h]
      exact d.hl
    · by_cases z : l' = l0
      · exact .inl z
      · refine .inr ?_
        cases q : H0 l' with
        | none => rfl
        | some o =>
          have ne : l' ≠ m := (ne_of_none d.at_.hm h).symm
          rw [d.kp l' o q ne z] at h
          cases h
  · rcases d.hl with hl | hl
    · rw [hl]
      exact h2
    · exact ne_of_none e1 hl
/-- a thing of another kind than the draws' own stays -/
theorem Dr.tup {H0 H : Hp} {m c l0 l : Addr} {k k0 : Int} {a : Addr} {xs : List V} (d : Dr H0 H m c l0 l k) (M : MAt H0 m c l0 k0) (e : H0 a = some (.tup xs)) : H a = some (.tup xs) := by
  obtain ⟨ls, hl, _⟩ := M.hl
  exact d.kp a _ e (ne_of e M.hm (fun z => by cases z)) (ne_of e hl (fun z => by cases z))
theorem Dr.fr {H0 H : Hp} {m c l0 l : Addr} {k k0 : Int} {f : Addr} {fr : List T3} (d : Dr H0 H m c l0 l k) (M : MAt H0 m c l0 k0) (h : FrA H0 f fr) : FrA H f fr := by
  obtain ⟨ts, e, l, cc⟩ := h
  exact ⟨ts, d.tup M e, l, fun i t x h1 h2 => d.tup M (cc i t x h1 h2)⟩
/-- another list stays, and is none of the draws' own -/
theorem Dr.lst {H H' : Hp} {m c l l' : Addr} {k k0 : Int} {a : Addr} {xs : List V} (d : Dr H H' m c l l' k) (M : MAt H m c l k0) (e : H a = some (.lst xs)) (ne : a ≠ l) : H' a = some (.lst xs) ∧ a ≠ l' := by
  refine ⟨d.kp a _ e (ne_of e M.hm (fun z => by cases z)) ne, ?_⟩
  rcases d.hl with z | z
  · rw [z]
    exact ne
  · exact ne_of_none e z
/-- a draw, as spNext wants it -/
theorem dr_next {H : Hp} {m c l : Addr} {k n : Int} {Q : VK} {E : XK} (M : MAt H m c l k) (hn : 0 < n) (hn1 : n < 1073741824) (hk : k < 900000)
    (q : ∀ (r : Int) (H' : Hp) (l' : Addr) (k' : Int), 0 ≤ r → r < n → k' ≤ k + 1 → Dr H H' m c l l' k' → Q (.int r) H') : spNext [.ref m, .int n] H Q E :=
  ⟨m, c, l, k, n, rfl, M, hn, hn1, by omega, fun r H' l' k' r0 r1 kk M' fl kp => q r H' l' k' r0 r1 kk ⟨M', fl, kp⟩⟩
theorem MAt.l_some {H : Hp} {m c l : Addr} {k : Int} (M : MAt H m c l k) {a : Addr} (h : H a = none) : a ≠ l := by
  obtain ⟨ls, hl, _⟩ := M.hl
  exact (ne_of_none hl h).symm
theorem sl_app (a b : Str) : sl (a ++ b) = sl a ++ sl b := by
  show (Str.append a b).cps.toList = _
  simp [Str.append]
theorem sl_empty : sl ("" : Str) = [] := by decide +kernel
theorem sl_join : ∀ ys : List Str, sl (Str.join "" ys) = (ys.map sl).flatten
  | [] => rfl
  | [x] => by
    show sl x = _
    simp
  | x :: y :: r => by
    show sl (x ++ "" ++ Str.join "" (y :: r)) = _
    rw [sl_app, sl_app, sl_empty, sl_join (y :: r)]
    simp
theorem txt_join (ys : List Str) : sl (Txt.join "" ys) = (ys.map sl).flatten := by
  have z := PyProof.Rows.join_plain_closes "" ys
  rw [eq_of_beq z, sl_join]
theorem flat_one {ys : List Str} (h : ∀ y ∈ ys, ∃ c, y = ⟨#[c]⟩ ∧ c ∈ sgs) : (∀ c, c ∈ (ys.map sl).flatten → c ∈ sgs) ∧ ((ys.map sl).flatten).length = ys.length := by
  induction ys with
  | nil => exact ⟨fun c h => (by cases h), rfl⟩
  | cons y ys ih =>
    obtain ⟨c, e, hc⟩ := h y (List.mem_cons_self ..)
    have e2 : sl y = [c] := by rw [e]
    obtain ⟨h1, h2⟩ := ih fun y hy => h y (List.mem_cons_of_mem _ hy)
    rw [List.map_cons, List.flatten_cons, e2]
    refine ⟨fun d hd => ?_, ?_⟩
    · rcases List.mem_append.mp hd with hd | hd
      · have e : d = c := by simpa using hd
        rw [e]
        exact hc
      · exact h1 d hd
    · rw [List.length_append, h2, List.length_cons, List.length_cons, List.length_nil]
      omega
/-- the five lists of signs -/
def fives : List Str := ["ab", "ab", "abc@", "@", "xyz019@"]
theorem five_ok : ∀ x ∈ fives, 1 ≤ x.length ∧ x.length ≤ 7 ∧ ∀ c ∈ sl x, c ∈ sgs := by decide +kernel
theorem MAt.upd {H : Hp} {m c l D : Addr} {k : Int} {o : HO} (M : MAt H m c l k) (hm : D ≠ m) (hc : D ≠ c) (hl : D ≠ l) : MAt (L2.upd H D o) m c l k := by
  obtain ⟨h1, ⟨cs, h2, h3⟩, ⟨ls0, h4, h5⟩, h6, h7, h8⟩ := M
  exact ⟨by rw [upd_ne hm.symm]; exact h1, ⟨cs, by rw [upd_ne hc.symm]; exact h2, h3⟩, ⟨ls0, by rw [upd_ne hl.symm]; exact h4, h5⟩, h6, h7, h8⟩
theorem MAt.c_some {H : Hp} {m c l : Addr} {k : Int} (M : MAt H m c l k) {a : Addr} (h : H a = none) : a ≠ c := by
  obtain ⟨ls, hl, _⟩ := M.hc
  exact (ne_of_none hl h).symm
def spPiece : Sp := fun vs H Q _ => ∃ (m c l : Addr) (k : Int) (last : Bool), vs = [.ref m, .bl last] ∧ MAt H m c l k ∧ k < 800000 ∧
  ∀ (p : Str) (H' : Hp) (l' : Addr) (k' : Int), Pc p last → k' ≤ k + 20 → Dr H H' m c l l' k' → Q (.str p) H'
section
variable {P : Program} {w : World} {K : PySem.W.Frag} {mg : Str → Option Value} {base : Heap}
structure Ls (K : PySem.W.Frag) (mg : Str → Option Value) where
  f1 : Addr
  d1 : FuncData
  N : Fun K "_law_next" "_law_next" sNext f1 d1
  bN : Binds K d1 ["m", "total"] []
  mN : mg "_law_next" = some (.ref f1)
  T : TxtD mg
  ra : mg "range" = none
  f2 : Addr
  d2 : FuncData
  P : Fun K "_law_piece" "_law_piece" sPiece f2 d2
  bP : Binds K d2 ["m", "last"] []
  mP : mg "_law_piece" = some (.ref f2)
theorem scPiece : FnScope ["m", "last", "total", "signs", "k", "body"] ["m", "last"] (defScope sPiece) := ⟨rfl, rfl, rfl, by decide +kernel, rfl, by decide +kernel, by decide +kernel⟩
theorem ok_piece (L : Ls K mg) : FnOk P w K mg base CX0 2 L.f2 L.d2 ["m", "last"] spPiece := by
  have GX : FnOk P w K mg base CX0 1 L.f1 L.d1 ["m", "total"] spNext := ok_next L.N L.T
  refine L.P.ok scPiece (fun vs H Q E h => ?_) (fun cdv A outer s H vs Q E hr h => ?_)
  · obtain ⟨m, c, l, k, last, rfl, _⟩ := h
    rfl
  · obtain ⟨m, c, l, k, last, rfl, M, hk, q⟩ := h
    refine ⟨_, pss_cons (ps_set (i := 2) scPiece.nd rfl (Or.inl rfl) (pe_ix ix_list (pe_lst (pa_cons pe_int (pa_cons pe_int (pa_cons pe_int (pa_cons pe_int (pa_cons pe_int (pa_cons (pe_op op_add pe_int (pe_call GX hr (by rfl) L.mN L.N.kp L.bN .nil pass0 (pa_cons (pv 0) (pa_cons pe_int pa_nil)))) pa_nil)))))))
        (pe_call GX hr (by rfl) L.mN L.N.kp L.bN .nil pass0 (pa_cons (pv 0) (pa_cons pe_int pa_nil))) (fun _ _ => rfl)))
      (pss_cons (ps_set (i := 3) scPiece.nd rfl (Or.inr rfl) (pe_ix ix_list (pe_lst (pa_cons pe_str (pa_cons pe_str (pa_cons pe_str (pa_cons pe_str (pa_cons pe_str pa_nil)))))) (pe_call GX hr (by rfl) L.mN L.N.kp L.bN .nil pass0 (pa_cons (pv 0) (pa_cons pe_int pa_nil))) (fun _ _ => rfl)))
      (pss_cons (ps_set (i := 5) scPiece.nd rfl (Or.inl rfl) (pe_m1 PySem.F.slot_str_join PySem.F.type_str_join mt_join pe_str (pe_lc (own := [("k", 4)]) (g := gName 4) rfl scPiece.nd (pi_range1 (by rfl) L.ra (pa_cons (pv 2) pa_nil))
        (blkOk_by (N := ["m", "last", "total", "signs", "k", "body"]) (sc := defScope sPiece) (by decide +kernel))
        (fun _ _ _ _ _ => pg_name (i := 4) scPiece.nd rfl (Or.inl rfl)) (fun _ _ _ _ _ => pts_nil)
        (fun _ _ _ _ _ => pe_ix ix_str (pv 3) (pe_call GX hr (by rfl) L.mN L.N.kp L.bN .nil pass0 (pa_cons (pv 0) (pa_cons (pe_callB call_len_str (by rfl) L.T.len PySem.boot_len (pa_cons (pv 3) pa_nil)) pa_nil))) (fun _ _ => rfl)))))
      (pss_cons (ps_if (pt_val (pv 1)) (pss_one (ps_ret (pe_op op_add_str (pe_ix ix_list (pe_lst (pa_cons (pv 5) (pa_cons (pv 5) (pa_cons pe_str pa_nil)))) (pe_call GX hr (by rfl) L.mN L.N.kp L.bN .nil pass0 (pa_cons (pv 0) (pa_cons pe_int pa_nil))) (fun _ _ => rfl)) pe_str))) pss_nil)
      (pss_one (ps_ret (pv 5)))))), ?_⟩
    refine ⟨_, rfl, m, c, l, k, 7, rfl, M, by decide, by decide, by omega, fun r1 H1 l1 k1 a1 b1 g1 N1 f1 q1 => ?_⟩
    have d1 : Dr H H1 m c l l1 k1 := ⟨N1, f1, q1⟩
    refine ⟨1, r1, rfl, rfl, (by show 6 ≤ sizeLine; decide), fun p1 hp1 => ?_⟩
    have M1 := d1.at_.same (same_upd (o := HO.lst [V.int 1, V.int 1, V.int 1, V.int 2, V.int 2, V.int (1 + r1)]) hp1)
    have D1 := d1.same (same_upd (o := HO.lst [V.int 1, V.int 1, V.int 1, V.int 2, V.int 2, V.int (1 + r1)]) hp1)
    refine ⟨_, rfl, m, c, l1, k1, 6, rfl, M1, by decide, by decide, by omega, fun r2 H2 l2 k2 a2 b2 g2 N2 f2 q2 => ?_⟩
    have d2 : Dr _ H2 m c l1 l2 k2 := ⟨N2, f2, q2⟩
    obtain ⟨e2, _⟩ := d2.lst M1 upd_same (d1.at_.l_some hp1)
    have D2 := D1.trans d2
    obtain ⟨T, hT, t1, t7⟩ : ∃ T : Int, atI [V.int 1, V.int 1, V.int 1, V.int 2, V.int 2, V.int (1 + r1)] r2 = some (.int T) ∧ 1 ≤ T ∧ T ≤ 7 := by
      obtain ⟨j, rfl⟩ := Int.eq_ofNat_of_zero_le a2
      have hj : j < 6 := by omega
      match j, hj with
      | 0, _ => exact ⟨1, atI_nat (j := 0) rfl, by decide, by decide⟩
      | 1, _ => exact ⟨1, atI_nat (j := 1) rfl, by decide, by decide⟩
      | 2, _ => exact ⟨1, atI_nat (j := 2) rfl, by decide, by decide⟩
      | 3, _ => exact ⟨2, atI_nat (j := 3) rfl, by decide, by decide⟩
      | 4, _ => exact ⟨2, atI_nat (j := 4) rfl, by decide, by decide⟩
      | 5, _ => exact ⟨1 + r1, atI_nat (j := 5) rfl, by omega, by omega⟩
    refine ⟨p1, _, r2, .int T, rfl, rfl, SqL.of e2, hT, ?_⟩
    refine ⟨(by show 5 ≤ sizeLine; decide), fun p3 hp3 => ?_⟩
    have u3 := same_upd (o := HO.lst (fives.map V.str)) hp3
    have M3 := d2.at_.same u3
    refine ⟨_, rfl, m, c, l2, k2, 5, rfl, M3, by decide, by decide, by omega, fun r3 H3 l3 k3 a3 b3 g3 N3 f3 q3 => ?_⟩
    have d3 : Dr _ H3 m c l2 l3 k3 := ⟨N3, f3, q3⟩
    obtain ⟨e3, _⟩ := d3.lst M3 upd_same (d2.at_.l_some hp3)
    have D3 := (D2.same u3).trans d3
    obtain ⟨sg, hsg, hm⟩ : ∃ sg : Str, atI (fives.map V.str) r3 = some (.str sg) ∧ sg ∈ fives := by
      obtain ⟨j, rfl⟩ := Int.eq_ofNat_of_zero_le a3
      have hj : j < fives.length := by show j < 5; omega
      refine ⟨fives[j], atI_nat ?_, List.getElem_mem hj⟩
      rw [List.getElem?_map, List.getElem?_eq_getElem hj]
      rfl
    obtain ⟨z1, z7, zs⟩ := five_ok sg hm
    refine ⟨p3, _, r3, .str sg, rfl, rfl, SqL.of e3, hsg, ?_⟩
    refine ⟨⟨_, rfl⟩, _, rfl, T, rfl, by omega, by omega, fun D hD => ?_⟩
    have D4 := D3.same (same_upd (o := HO.lst []) hD)
    have nD := D3.at_.l_some hD
    have hD0 : H D = none ∨ True := .inr trivial
    refine lc_it walk_range (fun i H' => ∃ (ys : List Str) (l' : Addr) (k' : Int), H' D = some (.lst (ys.map V.str)) ∧ D ≠ l' ∧ ys.length = i ∧ (∀ y ∈ ys, ∃ c, y = ⟨#[c]⟩ ∧ c ∈ sgs) ∧ k' ≤ k3 + i ∧ MAt H' m c l' k' ∧ (l' = l ∨ H l' = none) ∧ ∀ b o, H b = some o → b ≠ m → b ≠ l → H' b = some o)
      ⟨[], l3, k3, upd_same, nD, rfl, (fun y h => by cases h), by omega, D4.at_, D4.hl, D4.kp⟩ (fun _ _ _ _ => trivial) ?_ ?_
    · rintro i x H4 H5 hi ⟨ys, l4, k4, hl, nl, ly, hy, kk, M4, f4, q4⟩ ⟨rfl, rfl⟩
      have d0 : Dr H H5 m c l l4 k4 := ⟨M4, f4, q4⟩
      have hi7 : i < 7 := by omega
      refine ⟨rfl, _, rfl, _, rfl, _, rfl, sg, rfl, by rw [sizeLine_eq]; omega, m, c, l4, k4, _, rfl, M4, by omega, by omega, by omega, fun r5 H6 l6 k6 a6 b6 g6 N6 f6 q6 => ?_⟩
      have d6 : Dr H5 H6 m c l4 l6 k6 := ⟨N6, f6, q6⟩
      obtain ⟨e6, n6⟩ := d6.lst M4 hl nl
      obtain ⟨j, rfl⟩ := Int.eq_ofNat_of_zero_le a6
      have js : j < (sl sg).length := by rw [← len_sl]; omega
      refine ⟨sg, (j : Int), (sl sg)[j], rfl, rfl, by rw [sizeLine_eq]; omega, atI_nat (List.getElem?_eq_getElem js), _, e6, ?_, ?_⟩
      · rw [List.length_map, ly, sizeLine_eq]
        omega
      · have dk := d0.trans d6
        have hDm : D ≠ m := ne_of e6 N6.hm (fun z => by cases z)
        refine ⟨ys ++ [⟨#[(sl sg)[j]]⟩], l6, k6, ?_, n6, by rw [List.length_append, ly]; rfl, fun y h => ?_, by omega, ?_, dk.hl, fun b o z h1 h2 => ?_⟩
        · rw [List.map_append]
          exact upd_same
        · rcases List.mem_append.mp h with h | h
          · exact hy y h
          · exact ⟨_, by simpa using h, zs _ (List.getElem_mem js)⟩
        · exact N6.upd hDm (D3.at_.c_some hD) n6
        · rw [upd_ne (ne_of_none (D3.kp b o z h1 h2) hD)]
          exact dk.kp b o z h1 h2
    · rintro H4 ⟨ys, l4, k4, hl, nl, ly, hy, kk, M4, f4, q4⟩
      have d4 : Dr H H4 m c l l4 k4 := ⟨M4, f4, q4⟩
      obtain ⟨w1, w2⟩ := flat_one hy
      rw [← txt_join] at w1 w2
      have le : ∀ zs : List Str, (∀ y ∈ zs, ∃ c, y = ⟨#[c]⟩ ∧ c ∈ sgs) → (zs.map (·.length)).sum = zs.length := by
        intro zs
        induction zs with
        | nil => exact fun _ => rfl
        | cons y zs ih =>
          intro h
          obtain ⟨c, e, _⟩ := h y (List.mem_cons_self ..)
          have e2 : y.length = 1 := by rw [e]; rfl
          rw [List.map_cons, List.sum_cons, e2, ih fun y hy => h y (List.mem_cons_of_mem _ hy), List.length_cons]
          omega
      have z0 : ("" : Str).length = 0 := by decide +kernel
      refine ⟨"", D, ys, rfl, rfl, .inl (SqL.of hl), by rw [le ys hy, z0]; omega, ?_⟩
      generalize hbd : Txt.join "" ys = body at w1 w2 ⊢
      have pc0 : Pc body false := ⟨sl body, by rw [if_neg (by simp), List.append_nil], by rw [w2]; omega, w1, fun _ e => by rw [e] at w2; simp at w2; omega⟩
      have pc1 : ∀ b2 : Str, (b2 = body ∨ b2 = "") → Pc (b2 ++ ";") true := fun b2 h => by
        refine ⟨sl b2, by rw [sl_app, semi, if_pos rfl], ?_, ?_, fun e => by cases e⟩
        · rcases h with h | h
          · rw [h, w2]
            omega
          · rw [h, sl_empty]
            exact Nat.zero_le _
        · rcases h with h | h
          · rw [h]
            exact w1
          · rw [h, sl_empty]
            exact fun c h => by cases h
      refine ⟨_, rfl, _, rfl, ?_⟩
      cases last with
      | false =>
        refine iteF ⟨_, rfl, ?_⟩
        exact q body H4 l4 k4 pc0 (by omega) d4
      | true =>
        refine iteT ?_
        refine ⟨_, rfl, _, rfl, (by show 3 ≤ sizeLine; decide), fun p5 hp5 => ?_⟩
        have u5 := same_upd (o := HO.lst [V.str body, V.str body, V.str ""]) hp5
        have M5 := M4.same u5
        refine ⟨_, rfl, m, c, l4, k4, 3, rfl, M5, by decide, by decide, by omega, fun r7 H7 l7 k7 a7 b7 g7 N7 f7 q7 => ?_⟩
        have d7 : Dr _ H7 m c l4 l7 k7 := ⟨N7, f7, q7⟩
        obtain ⟨e7, _⟩ := d7.lst M5 upd_same (M4.l_some hp5)
        obtain ⟨b2, hb2, hor⟩ : ∃ b2 : Str, atI [V.str body, V.str body, V.str ""] r7 = some (.str b2) ∧ (b2 = body ∨ b2 = "") := by
          obtain ⟨j, rfl⟩ := Int.eq_ofNat_of_zero_le a7
          have hj : j < 3 := by omega
          match j, hj with
          | 0, _ => exact ⟨body, atI_nat (j := 0) rfl, .inl rfl⟩
          | 1, _ => exact ⟨body, atI_nat (j := 1) rfl, .inl rfl⟩
          | 2, _ => exact ⟨"", atI_nat (j := 2) rfl, .inr rfl⟩
        have pcz := pc1 b2 hor
        have lz := (pc_len pcz).2
        refine ⟨p5, _, r7, .str b2, rfl, rfl, SqL.of e7, hb2, b2, ";", rfl, rfl, ?_, ?_⟩
        · rw [semi1, sizeLine_eq, len_sl]
          rw [len_sl, sl_app, List.length_append] at lz
          omega
        · exact q (b2 ++ ";") H7 l7 k7 pcz (by omega) ((d4.same u5).trans d7)
end
end K50

set_option Elab.async false
set_option linter.all false
set_option maxRecDepth 100000
set_option maxHeartbeats 4000000
/-! Drawn framings. -/
namespace K50
open PySem L2 L2.EV
abbrev sFraming : Stmt := top 58
def d3 (x : T3) : PyData := .tuple [.int x.1, .str x.2.1, .int x.2.2]
theorem d3_eq (x y : T3) : PyData.eqv (d3 x) (d3 y) = decide (x = y) := by
  unfold d3
  simp only [PyData.eqv, PyData.eqvAll, Bool.and_true]
  by_cases e : x = y
  · subst e
    simp
  · rw [decide_eq_false e]
    cases h1 : (x.1 == y.1) with
    | false => rfl
    | true =>
      cases h2 : (x.2.1 == y.2.1) with
      | false => rfl
      | true =>
        cases h3 : (x.2.2 == y.2.2) with
        | false => rfl
        | true => exact absurd (Prod.ext (eq_of_beq h1) (Prod.ext (eq_of_beq h2) (eq_of_beq h3))) e
theorem sgs_low : ∀ c ∈ sgs, c < 0x110000 := by decide +kernel
theorem pc_ok {p : Str} {l : Bool} (h : Pc p l) : PyData.strOk p = true := by
  obtain ⟨b, e, _, hb, _⟩ := h
  unfold PyData.strOk
  rw [← Array.all_toList, show p.cps.toList = sl p from rfl, e, List.all_eq_true]
  intro c hc
  refine decide_eq_true ?_
  rcases List.mem_append.mp hc with hc | hc
  · exact sgs_low c (hb c hc)
  · cases l with
    | false => cases hc
    | true =>
      have z : c = 59 := by simpa using hc
      omega
theorem d3_lay {x : T3} (h : PyData.strOk x.2.1 = true) : PyData.canLay0 (d3 x) = true := by
  unfold d3
  simp only [PyData.canLay0, PyData.canLayAll0, Bool.and_true, Bool.and_self, h]
theorem d3_depth (x : T3) : (d3 x).depth ≤ 1 := by
  unfold d3
  simp only [PyData.depth, PyData.depthAll]
  omega
theorem d3_shaped {x : T3} (h : PyData.strOk x.2.1 = true) : SeqAt.shaped (d3 x) = true := by
  show (PyData.canLay0 (d3 x) && decide (PyData.depth (d3 x) ≤ 64)) = true
  rw [d3_lay h, decide_eq_true (Nat.le_trans (d3_depth x) (by decide))]
  rfl
theorem d3s_lay : ∀ xs : List T3, (∀ x ∈ xs, PyData.strOk x.2.1 = true) → PyData.canLayAll0 (xs.map d3) = true
  | [], _ => by simp [PyData.canLayAll0]
  | x :: xs, h => by
    rw [List.map_cons]
    simp only [PyData.canLayAll0, d3_lay (h x (List.mem_cons_self ..)), d3s_lay xs (fun y hy => h y (List.mem_cons_of_mem _ hy)), Bool.and_self]
theorem d3s_depth : ∀ xs : List T3, PyData.depthAll (xs.map d3) ≤ 1
  | [] => by simp [PyData.depthAll]
  | x :: xs => by
    rw [List.map_cons]
    simp only [PyData.depthAll]
    have h1 := d3_depth x
    have h2 := d3s_depth xs
    omega
theorem d3s_shaped {xs : List T3} (hx : ∀ x ∈ xs, PyData.strOk x.2.1 = true) : SeqAt.shaped (.list (xs.map d3)) = true := by
  show (PyData.canLay0 (.list (xs.map d3)) && decide (PyData.depth (.list (xs.map d3)) ≤ 64)) = true
  have h := d3s_depth xs
  have h1 : PyData.canLay0 (.list (xs.map d3)) = true := by simp only [PyData.canLay0]; exact d3s_lay xs hx
  have h2 : PyData.depth (.list (xs.map d3)) ≤ 64 := by simp only [PyData.depth]; omega
  rw [h1, decide_eq_true h2]
  rfl
/-- steps at ts -/
def At3 (H : Hp) (ts : List Addr) (xs : List T3) : Prop := ts.length = xs.length ∧ ∀ (i : Nat) t x, ts[i]? = some t → xs[i]? = some x → S3 H t x
theorem dp3 {K : PySem.W.Frag} {H : Hp} {t : Addr} {x : T3} (h : S3 H t x) : Dp K H (.ref t) (d3 x) := .tup (SqT.of h) (.cons (.int _) (.cons (.str _) (.cons (.int _) .nil)))
theorem dp3s {K : PySem.W.Frag} {H : Hp} : ∀ {ts : List Addr} {xs : List T3}, At3 H ts xs → DpAll K H (ts.map V.ref) (xs.map d3)
  | [], [], _ => .nil
  | [], _ :: _, h => by cases h.1
  | _ :: _, [], h => by cases h.1
  | t :: ts, x :: xs, h => .cons (dp3 (h.2 0 t x rfl rfl)) (dp3s ⟨by have := h.1; simpa using this, fun i t x h1 h2 => h.2 (i + 1) t x (by simpa using h1) (by simpa using h2)⟩)
theorem At3.same {H H' : Hp} {ts : List Addr} {xs : List T3} (h : At3 H ts xs) (s : KeepT H H') : At3 H' ts xs := ⟨h.1, fun i t x h1 h2 => s _ _ (h.2 i t x h1 h2)⟩
theorem At3.snoc {H : Hp} {ts : List Addr} {xs : List T3} {t : Addr} {x : T3} (h : At3 H ts xs) (hx : S3 H t x) : At3 H (ts ++ [t]) (xs ++ [x]) := by
  refine ⟨by rw [List.length_append, List.length_append, h.1]; rfl, fun i u y h1 h2 => ?_⟩
  by_cases e : i < ts.length
  · rw [List.getElem?_append_left e] at h1
    rw [List.getElem?_append_left (by rw [← h.1]; exact e)] at h2
    exact h.2 i u y h1 h2
  · have i1 := (List.getElem?_eq_some_iff.mp h1).1
    rw [List.length_append] at i1
    have e2 : i = ts.length := by simp only [List.length_cons, List.length_nil] at i1; omega
    subst e2
    rw [List.getElem?_append_right (Nat.le_refl _), Nat.sub_self] at h1
    rw [h.1, List.getElem?_append_right (Nat.le_refl _), Nat.sub_self] at h2
    have e3 : t = u := Option.some.inj h1
    have e4 : x = y := Option.some.inj h2
    rw [← e3, ← e4]
    exact hx
theorem At3.take {H : Hp} {ts : List Addr} {xs : List T3} (h : At3 H ts xs) (n : Nat) : At3 H (ts.take n) (xs.take n) := by
  refine ⟨by rw [List.length_take, List.length_take, h.1], fun i t x h1 h2 => ?_⟩
  rw [List.getElem?_take] at h1 h2
  by_cases e : i < n
  · rw [if_pos e] at h1 h2
    exact h.2 i t x h1 h2
  · rw [if_neg e] at h1
    cases h1
theorem lt3_tri {x y : T3} (h1 : lt3 x y = false) (h2 : lt3 y x = false) : x = y := by
  have a := lt3_no.mp h1
  have b := lt3_no.mp h2
  have e1 : x.1 = y.1 := by
    have a1 : ¬ x.1 < y.1 := fun q => a (.inl q)
    have b1 : ¬ y.1 < x.1 := fun q => b (.inl q)
    omega
  have a2 : ¬ sl x.2.1 < sl y.2.1 := fun q => a (.inr ⟨e1, .inl q⟩)
  have b2 : ¬ sl y.2.1 < sl x.2.1 := fun q => b (.inr ⟨e1.symm, .inl q⟩)
  have e2 : x.2.1 = y.2.1 := sl_inj (List.le_antisymm (List.not_lt.mp b2) (List.not_lt.mp a2))
  have a3 : ¬ x.2.2 < y.2.2 := fun q => a (.inr ⟨e1, .inr ⟨e2, q⟩⟩)
  have b3 : ¬ y.2.2 < x.2.2 := fun q => b (.inr ⟨e1.symm, .inr ⟨e2.symm, q⟩⟩)
  exact Prod.ext e1 (Prod.ext e2 (by omega))
def spFraming : Sp := fun vs H Q _ => ∃ (m c l : Addr) (k : Int) (b : Nat), vs = [.ref m, .int (b : Int)] ∧ b ≤ 5 ∧ MAt H m c l k ∧ k < 700000 ∧
  ∀ (f : Addr) (fr : List T3) (last : Nat) (H' : Hp) (l' : Addr) (k' : Int), FrA H' f fr → Frm fr last → last ≤ b → k' ≤ k + 400 → Dr H H' m c l l' k' → Q (.ref f) H'
/-- the found steps at F -/
structure FS (H H' : Hp) (m c l F : Addr) (kb : Int) (last : Nat) (xs : List T3) : Prop where
  ex : ∃ (ts : List Addr) (l' : Addr) (k' : Int), H' F = some (.lst (ts.map V.ref)) ∧ At3 H' ts xs ∧ F ≠ l' ∧ F ≠ m ∧ F ≠ c ∧ k' ≤ kb ∧ Dr H H' m c l l' k'
  ok : ∀ x ∈ xs, Stp x ∧ x.1 ≤ last ∧ x.2.2 ≤ last
  hF : ∀ b o, H b = some o → b ≠ m → b ≠ l → b ≠ F
theorem bl_eq (t : Int) : decide (V.int t = V.int 0) = decide (t = 0) := by
  rw [dec_int]
  by_cases z : t = 0
  · rw [z]
    rfl
  · rw [decide_eq_false z]
    exact beq_eq_false_iff_ne.mpr z
theorem Dr.keepT {H0 H : Hp} {m c l0 l : Addr} {k k0 : Int} (d : Dr H0 H m c l0 l k) (M : MAt H0 m c l0 k0) : KeepT H0 H := fun a xs e => d.tup M e
/-- one step more -/
theorem FS.push {H H1 H2 H3 : Hp} {m c l F l1 l2 t : Addr} {k1 k2 kb : Int} {last : Nat} {xs : List T3} {ts : List Addr} {x : T3} (hF : H1 F = some (.lst (ts.map V.ref))) (ha : At3 H1 ts xs) (n1 : F ≠ l1) (n2 : F ≠ m) (n3 : F ≠ c) (d1 : Dr H H1 m c l l1 k1)
    (d2 : Dr H1 H2 m c l1 l2 k2) (ht : H2 t = none) (e3 : H3 = upd (upd H2 t (.tup [.int x.1, .str x.2.1, .int x.2.2])) F (.lst (ts.map V.ref ++ [.ref t]))) (hk : k2 ≤ kb)
    (ok : ∀ y ∈ xs, Stp y ∧ y.1 ≤ last ∧ y.2.2 ≤ last) (okx : Stp x ∧ x.1 ≤ last ∧ x.2.2 ≤ last) (hF0 : ∀ b o, H b = some o → b ≠ m → b ≠ l → b ≠ F) : FS H H3 m c l F kb last (xs ++ [x]) := by
  obtain ⟨hF2, n4⟩ := d2.lst d1.at_ hF n1
  have u := same_upd (o := HO.tup [.int x.1, .str x.2.1, .int x.2.2]) ht
  have hF2' := u _ _ hF2
  have kt := keepT_upd (o := .lst (ts.map V.ref ++ [.ref t])) hF2' (fun xs z => by cases z)
  have D2 := (d1.trans d2).same u
  subst e3
  refine ⟨⟨ts ++ [t], l2, k2, by rw [List.map_append]; exact upd_same, ?_, n4, n2, n3, hk, ⟨D2.at_.upd n2 n3 n4, D2.hl, fun b o z h1 h2 => ?_⟩⟩, fun y hy => ?_, hF0⟩
  · refine At3.snoc (ha.same ?_) (kt _ _ upd_same)
    exact ((d2.keepT d1.at_).trans (Same.keepT u)).trans kt
  · rw [upd_ne (hF0 b o z h1 h2)]
    exact D2.kp b o z h1 h2
  · rcases List.mem_append.mp hy with h | h
    · exact ok y h
    · have e : y = x := by simpa using h
      rw [e]
      exact okx
def dd (xs : List T3) : List T3 := xs.foldl (fun acc x => if x ∈ acc then acc else acc ++ [x]) []
theorem dd_snoc (xs : List T3) (x : T3) : dd (xs ++ [x]) = if x ∈ dd xs then dd xs else dd xs ++ [x] := by
  unfold dd
  rw [List.foldl_append]
  rfl
theorem snoc_ind {α : Type} {p : List α → Prop} (h0 : p []) (h1 : ∀ l x, p l → p (l ++ [x])) (l : List α) : p l := by
  have z : ∀ n (l : List α), l.length = n → p l := by
    intro n
    induction n with
    | zero => exact fun l h => by rw [List.length_eq_zero_iff.mp h]; exact h0
    | succ n ih =>
      intro l h
      obtain ⟨M, y, rfl⟩ := SrtO.snoc_of (l := l) (by omega)
      exact h1 M y (ih M (by rw [List.length_append] at h; simp only [List.length_cons, List.length_nil] at h; omega))
  exact z _ l rfl
theorem dd_mem (y : T3) (xs : List T3) : y ∈ dd xs ↔ y ∈ xs := by
  refine snoc_ind (p := fun xs => y ∈ dd xs ↔ y ∈ xs) Iff.rfl (fun l x ih => ?_) xs
  rw [dd_snoc]
  by_cases e : x ∈ dd l
  · rw [if_pos e, ih, List.mem_append, List.mem_singleton]
    refine ⟨.inl, fun h => h.elim id fun z => ?_⟩
    rw [z]
    rw [z] at ih
    exact ih.mp e
  · rw [if_neg e, List.mem_append, ih, List.mem_append]
theorem dd_nodup (xs : List T3) : (dd xs).Nodup := by
  refine snoc_ind (p := fun xs => (dd xs).Nodup) List.nodup_nil (fun l x ih => ?_) xs
  rw [dd_snoc]
  by_cases e : x ∈ dd l
  · rw [if_pos e]
    exact ih
  · rw [if_neg e]
    refine List.nodup_append.mpr ⟨ih, by simp, fun a ha b hb => ?_⟩
    have e2 : b = x := by simpa using hb
    rw [e2]
    exact fun z => e (z ▸ ha)
theorem dd_len (xs : List T3) : (dd xs).length ≤ xs.length := by
  refine snoc_ind (p := fun xs => (dd xs).length ≤ xs.length) (Nat.le_refl _) (fun l x ih => ?_) xs
  rw [dd_snoc, List.length_append]
  split
  · omega
  · rw [List.length_append]
    omega
/-- the step that stands at an address -/
def stepAt (H : Hp) : V → T3
  | .ref t => match H t with
    | some (.tup [.int a, .str b, .int c]) => (a, b, c)
    | _ => (0, "", 0)
  | _ => (0, "", 0)
theorem stepAt_of {H : Hp} {t : Addr} {x : T3} (h : S3 H t x) : stepAt H (.ref t) = x := by
  unfold stepAt
  dsimp only
  rw [h]
theorem map_stepAt {H : Hp} {ts : List Addr} {xs : List T3} (h : At3 H ts xs) : (ts.map V.ref).map (stepAt H) = xs := by
  refine List.ext_getElem? fun i => ?_
  rw [List.getElem?_map, List.getElem?_map]
  by_cases hi : i < ts.length
  · have hx : i < xs.length := by rw [← h.1]; exact hi
    rw [List.getElem?_eq_getElem hi, List.getElem?_eq_getElem hx]
    show some (stepAt H (.ref ts[i])) = _
    rw [stepAt_of (h.2 i _ _ (List.getElem?_eq_getElem hi) (List.getElem?_eq_getElem hx))]
  · rw [List.getElem?_eq_none (by omega), List.getElem?_eq_none (by rw [← h.1]; omega)]
    rfl
/-- sorted: a framing -/
theorem frm_of {H : Hp} {ts : List Addr} {xs ys : List T3} {vs : List V} {last : Nat} (h : At3 H ts ys) (hy : ys = dd xs) (sr : SrtO.Srtd (fun x y => lt3 (stepAt H x) (stepAt H y)) vs) (pm : vs.Perm (ts.map V.ref)) (l1 : xs.length ≤ 16) (l5 : last ≤ 5)
    (ok : ∀ x ∈ xs, Stp x ∧ x.1 ≤ last ∧ x.2.2 ≤ last) (ring : ∀ k : Nat, k ≤ last → ∃ x ∈ xs, x.1 = (k : Int) ∧ x.2.2 = (if k < last then (k : Int) + 1 else 0)) : Frm (vs.map (stepAt H)) last ∧ ∃ us : List Addr, vs = us.map V.ref ∧ At3 H us (vs.map (stepAt H)) := by
  have pm2 : (vs.map (stepAt H)).Perm ys := by
    have z := pm.map (stepAt H)
    rw [map_stepAt h] at z
    exact z
  have mem : ∀ x, x ∈ vs.map (stepAt H) ↔ x ∈ xs := fun x => by rw [pm2.mem_iff, hy, dd_mem]
  have nd : (vs.map (stepAt H)).Nodup := by
    rw [pm2.nodup_iff, hy]
    exact dd_nodup xs
  have len : (vs.map (stepAt H)).length ≤ 16 := by
    rw [pm2.length_eq, hy]
    exact Nat.le_trans (dd_len xs) l1
  refine ⟨⟨?_, len, fun x hx => (ok x ((mem x).mp hx)).1, ?_, fun k hk => ?_, fun x hx => (ok x ((mem x).mp hx)).2, l5⟩, ?_⟩
  · obtain ⟨x, hx, _⟩ := ring 0 (Nat.zero_le _)
    have := (mem x).mpr hx
    exact List.length_pos_of_mem this
  · have s2 : (vs.map (stepAt H)).Pairwise fun x y => lt3 y x = false := List.pairwise_map.mpr sr
    refine (s2.and nd).imp fun {x y} z => ?_
    cases e : lt3 x y with
    | true => rfl
    | false => exact absurd (lt3_tri e z.1) z.2
  · obtain ⟨x, hx, e⟩ := ring k hk
    exact ⟨x, (mem x).mpr hx, e⟩
  · have rf : ∀ v ∈ vs, ∃ t x, v = V.ref t ∧ S3 H t x := fun v hv => by
      obtain ⟨t, ht, rfl⟩ := List.mem_map.mp (pm.mem_iff.mp hv)
      obtain ⟨i, hi, e⟩ := List.getElem_of_mem ht
      have hx : i < ys.length := by rw [← h.1]; exact hi
      exact ⟨t, ys[i], rfl, h.2 i t _ (by rw [List.getElem?_eq_getElem hi, e]) (List.getElem?_eq_getElem hx)⟩
    have go : ∀ ws : List V, (∀ v ∈ ws, ∃ t x, v = V.ref t ∧ S3 H t x) → ∃ us : List Addr, ws = us.map V.ref ∧ At3 H us (ws.map (stepAt H)) := by
      intro ws
      induction ws with
      | nil => exact fun _ => ⟨[], rfl, rfl, fun i t x h => by cases h⟩
      | cons v ws ih =>
        intro hw
        obtain ⟨t, x, rfl, hx⟩ := hw v (List.mem_cons_self ..)
        obtain ⟨us, e1, e2⟩ := ih fun v hv => hw v (List.mem_cons_of_mem _ hv)
        refine ⟨t :: us, by rw [e1]; rfl, by rw [List.length_cons, e2.1]; rfl, fun i u y h1 h2 => ?_⟩
        cases i with
        | zero =>
          have e3 : t = u := Option.some.inj h1
          have e4 : stepAt H (.ref t) = y := Option.some.inj h2
          rw [← e3, ← e4, stepAt_of hx]
          exact hx
        | succ i => exact e2.2 i u y (by simpa using h1) (by simpa using h2)
    exact go vs rf
end K50

set_option Elab.async false
set_option linter.all false
set_option maxRecDepth 100000
set_option maxHeartbeats 4000000
/-! Drawn framings: the def. -/
namespace K50
open PySem L2 L2.EV
theorem cut_to {ts : List Addr} {i : Nat} : cutV (ts.map V.ref) none (some (i : Int)) = (ts.take i).map V.ref := by
  unfold cutV
  rw [HT.sIx_nat, HT.sIx_none, List.length_map, List.drop_zero, Nat.sub_zero, ← List.map_take]
  congr 1
  by_cases h : i ≤ ts.length
  · rw [Nat.min_eq_left h]
  · rw [Nat.min_eq_right (by omega), List.take_length, List.take_of_length_le (by omega)]
theorem any_d3 (y : T3) : ∀ xs : List T3, ((xs.map d3).any fun z => PyData.eqv z (d3 y)) = decide (y ∈ xs)
  | [] => by simp
  | x :: xs => by
    rw [List.map_cons, List.any_cons, any_d3 y xs, d3_eq]
    by_cases e : x = y
    · subst e
      simp
    · have e' : ¬ y = x := fun z => e z.symm
      rw [decide_eq_false e, Bool.false_or]
      by_cases m : y ∈ xs
      · rw [decide_eq_true m, decide_eq_true (List.mem_cons_of_mem _ m)]
      · rw [decide_eq_false m, decide_eq_false (fun z => (List.mem_cons.mp z).elim e' m)]
section
variable {P : Program} {w : World} {K : PySem.W.Frag} {mg : Str → Option Value} {base : Heap}
structure Lf (K : PySem.W.Frag) (mg : Str → Option Value) where
  L : Ls K mg
  f : Addr
  d : FuncData
  F : Fun K "_law_framing" "_law_framing" sFraming f d
  b : Binds K d ["m", "most"] []
  g : mg "_law_framing" = some (.ref f)
  so : mg "sorted" = none
  tu : mg "tuple" = none
  en : mg "enumerate" = none
theorem scFraming : FnScope ["m", "most", "last", "found", "here", "to", "again", "k", "step"] ["m", "most"] (defScope sFraming) := ⟨rfl, rfl, rfl, by decide +kernel, rfl, by decide +kernel, by decide +kernel⟩
theorem ok_framing (G : Lf K mg) : FnOk P w K mg base CX0 3 G.f G.d ["m", "most"] spFraming := by
  have GX : FnOk P w K mg base CX0 1 G.L.f1 G.L.d1 ["m", "total"] spNext := ok_next G.L.N G.L.T
  have GP : FnOk P w K mg base CX0 2 G.L.f2 G.L.d2 ["m", "last"] spPiece := ok_piece G.L
  refine G.F.ok scFraming (fun vs H Q E h => ?_) (fun cdv A outer s H vs Q E hr h => ?_)
  · obtain ⟨m, c, l, k, b, rfl, _⟩ := h
    rfl
  · obtain ⟨m, c, l, k, bm, rfl, hbm, M, hk, q⟩ := h
    have hr1 := hr.mono (j := 1) (by omega)
    have hu65 : (A.deeper (PyProof.Rows.envOfC "_law_framing" (defScope sFraming) s.heap.objs.size G.f cdv)).units + 65 < cLine := by have := hr.un; omega
    refine ⟨_, pss_cons (ps_asg (pe_tup (pa_cons (pe_call GX hr1 (by rfl) G.L.mN G.L.N.kp G.L.bN .nil pass0 (pa_cons (pv 0) (pa_cons (pe_op op_add (pv 1) pe_int) pa_nil))) (pa_cons (pe_lst pa_nil) pa_nil))) (pg_tup rfl (pgs_cons (pg_name (i := 2) scFraming.nd rfl (Or.inl rfl)) (pgs_cons (pg_name (i := 3) scFraming.nd rfl (Or.inr rfl)) pgs_nil))))
      (pss_cons (ps_for PassesOwn.never rfl (pi_range1 (by rfl) G.L.ra (pa_cons (pe_op op_add (pv 2) pe_int) pa_nil)) (pg_name (i := 4) scFraming.nd rfl (Or.inl rfl))
        (pss_cons (ps_set (i := 5) scFraming.nd rfl (Or.inl rfl) (pe_ifExp (pt_cmpR op_lt (pv 4) (pv 2) (nomark _)) (pe_op op_add (pv 4) pe_int) pe_int))
        (pss_one (ps_expr (pe_bm PySem.F.plainAttrs_list PySem.F.slot_list_append PySem.F.type_list_append mt_append (pv 3) (pa_cons (pe_tup (pa_cons (pv 4) (pa_cons (pe_call GP hr (by rfl) G.L.mP G.L.P.kp G.L.bP .nil pass0 (pa_cons (pv 0) (pa_cons (pe_cmpR op_eq (pv 5) pe_int (nomark _)) pa_nil))) (pa_cons (pv 5) pa_nil)))) pa_nil))))))
      (pss_cons (ps_for PassesOwn.never rfl (pi_range1 (by rfl) G.L.ra (pa_cons (pe_call GX hr1 (by rfl) G.L.mN G.L.N.kp G.L.bN .nil pass0 (pa_cons (pv 0) (pa_cons pe_int pa_nil))) pa_nil)) (pg_name (i := 6) scFraming.nd rfl (Or.inl rfl))
        (pss_cons (ps_par (i := 4) (j := 5) (x := "here") (y := "to") rfl scFraming.nd rfl rfl (by decide) rfl rfl (pa_cons (pe_call GX hr1 (by rfl) G.L.mN G.L.N.kp G.L.bN .nil pass0 (pa_cons (pv 0) (pa_cons (pe_op op_add (pv 2) pe_int) pa_nil))) (pa_cons (pe_call GX hr1 (by rfl) G.L.mN G.L.N.kp G.L.bN .nil pass0 (pa_cons (pv 0) (pa_cons (pe_op op_add (pv 2) pe_int) pa_nil))) pa_nil)) (by rfl))
        (pss_one (ps_expr (pe_bm PySem.F.plainAttrs_list PySem.F.slot_list_append PySem.F.type_list_append mt_append (pv 3) (pa_cons (pe_tup (pa_cons (pv 4) (pa_cons (pe_call GP hr (by rfl) G.L.mP G.L.P.kp G.L.bP .nil pass0 (pa_cons (pv 0) (pa_cons (pe_cmpR op_eq (pv 5) pe_int (nomark _)) pa_nil))) (pa_cons (pv 5) pa_nil)))) pa_nil))))))
      (pss_one (ps_ret (pe_callTy call_tuple_of (by rfl) G.tu (by decide +kernel) (pa_cons (pe_callB cr_sorted3 (by rfl) G.so (by decide +kernel) (pa_cons (pe_lc (own := [("k", 7), ("step", 8)]) (g := gTup K 2 (gCons (gName 7) (gCons (gName 8) gNil))) (tt := tTest (tOp (rNotInD K) (tVar 8) (tSl (rSlL K) (tVar 3) tNoPart (tPart (tVar 7))))) (te := tVar 8) rfl scFraming.nd
        (pi_enum (by rfl) G.en (pa_cons (pv 3) pa_nil)) (blkOk_by (N := ["m", "most", "last", "found", "here", "to", "again", "k", "step"]) (sc := defScope sFraming) (by decide +kernel))
        (fun _ _ _ _ _ => pg_tup rfl (pgs_cons (pg_name (i := 7) scFraming.nd rfl (Or.inl rfl)) (pgs_cons (pg_name (i := 8) scFraming.nd rfl (Or.inl rfl)) pgs_nil)))
        (fun _ _ _ _ _ => pts_one (pt_cmpR (op_notInD hu65) (pv 8) (pe_slice sl_list (pv 3) po_none (po_some (pv 7))) (by rfl))) (fun _ _ _ _ _ => pv 8)) pa_nil)) pa_nil)))))), ?_⟩
    refine ⟨_, rfl, _, rfl, bm, 1, rfl, rfl, m, c, l, k, _, rfl, M, by omega, by omega, by omega, fun r0 H1 l1 k1 a1 b1 g1 N1 f1 q1 => ?_⟩
    have d1 : Dr H H1 m c l l1 k1 := ⟨N1, f1, q1⟩
    obtain ⟨last, rfl⟩ := Int.eq_ofNat_of_zero_le a1
    have lbm : last ≤ bm := by omega
    have l5 : last ≤ 5 := by omega
    refine ⟨by decide, fun F hF => ⟨(by show 2 ≤ sizeLine; decide), fun p hp => ?_⟩⟩
    have u1 := same_upd (o := HO.lst []) hF
    have u2 := same_upd (o := HO.tup [V.int (last : Int), V.ref F]) hp
    refine ⟨p, _, rfl, SqT.of upd_same, rfl, _, _, rfl, _, _, rfl, rfl, ?_⟩
    have D1 := d1.same (u1.trans u2)
    have fs0 : FS H _ m c l F k1 last [] := ⟨⟨[], l1, k1, u2 _ _ upd_same, ⟨rfl, fun i t x h => by cases h⟩, N1.l_some hF, (ne_of_none N1.hm hF).symm, N1.c_some hF, Int.le_refl _, D1⟩, (fun x h => by cases h), fun b o z h1 h2 => ne_of_none (d1.kp b o z h1 h2) hF⟩
    have hn : ((last : Int) + 1).toNat = last + 1 := by omega
    refine ⟨_, rfl, last, 1, rfl, rfl, _, rfl, by omega, by omega, for_it walk_range (fun i σ H' => ∃ (v4 v5 : Option V) (xs : List T3), σ = [some (.ref m), some (.int (bm : Int)), some (.int (last : Int)), some (.ref F), v4, v5, none, none, none] ∧
      FS H H' m c l F (k1 + 21 * i) last xs ∧ xs.length = i ∧ ∀ j : Nat, j < i → ∃ x ∈ xs, x.1 = (j : Int) ∧ x.2.2 = (if j < last then (j : Int) + 1 else 0))
      ⟨none, none, [], rfl, by simpa using fs0, rfl, fun j h => absurd h (by omega)⟩ (fun _ _ _ _ _ => trivial) ?_ ?_⟩
    · rintro i x σ H2 H3 hi ⟨v4, v5, xs, rfl, fs, lx, rg⟩ ⟨rfl, rfl⟩
      have hil : i ≤ last := by omega
      obtain ⟨ts, l3, k3, hF3, ha3, n3, nm, nc, kk3, D3⟩ := fs.ex
      have M3 := D3.at_
      refine ⟨_, rfl, _, rfl, _, _, rfl, rfl, _, rfl, ?_⟩
      have fin : ∀ (t : Int) (pp : Str) (H' : Hp), t = (if i < last then (i : Int) + 1 else 0) → FS H H' m c l F (k1 + 21 * ((i + 1 : Nat) : Int)) last (xs ++ [(0 + (i : Int), pp, t)]) → (xs ++ [(0 + (i : Int), pp, t)]).length = i + 1 ∧ ∀ j : Nat, j < i + 1 → ∃ x ∈ xs ++ [(0 + (i : Int), pp, t)], x.1 = (j : Int) ∧ x.2.2 = (if j < last then (j : Int) + 1 else 0) := fun t pp H' et _ => by
        refine ⟨by rw [List.length_append, lx]; rfl, fun j hj => ?_⟩
        by_cases e : j = i
        · subst e
          exact ⟨_, List.mem_append_right _ (List.mem_singleton.mpr rfl), Int.zero_add _, et⟩
        · obtain ⟨x, hx, e2⟩ := rg j (by omega)
          exact ⟨x, List.mem_append_left _ hx, e2⟩
      refine ite2 (fun z => ?_) (fun z => ?_)
      · have z1 : 0 + (i : Int) < last := of_decide_eq_true z
        refine ⟨_, rfl, _, 1, rfl, rfl, ?_⟩
        refine ⟨_, rfl, .inl ⟨rfl, _, SqL.of hF3⟩, _, rfl, _, rfl, _, rfl, rfl, m, c, l3, k3, decide (V.int (0 + (i : Int) + 1) = V.int 0), rfl, M3, by omega, fun pp H4 l4 k4 hp kk4 d4 => ?_⟩
        rw [bl_eq] at hp
        refine ⟨_, rfl, (by show 3 ≤ sizeLine; decide), fun tp htp => ?_⟩
        obtain ⟨hF4, n4⟩ := d4.lst M3 hF3 n3
        refine ⟨F, ts.map V.ref, _, rfl, rfl, same_upd htp _ _ hF4, by rw [List.length_map, ha3.1, sizeLine_eq]; omega, ?_⟩
        have okx : Stp ((0 + (i : Int), pp, 0 + (i : Int) + 1) : T3) ∧ (0 + (i : Int) : Int) ≤ last ∧ (0 + (i : Int) + 1 : Int) ≤ last := ⟨⟨by show (0 : Int) ≤ 0 + i; omega, by show (0 + (i : Int)) < 6; omega, hp, by show (0 : Int) ≤ 0 + i + 1; omega, by show (0 + (i : Int) + 1) < 6; omega⟩, by omega, by omega⟩
        have fs' := FS.push (x := (0 + (i : Int), pp, 0 + (i : Int) + 1)) hF3 ha3 n3 nm nc D3 d4 htp rfl (kb := k1 + 21 * ((i + 1 : Nat) : Int)) (by omega) fs.ok okx fs.hF
        
        have et : 0 + (i : Int) + 1 = (if i < last then (i : Int) + 1 else 0) := by rw [if_pos (by omega)]; omega
        obtain ⟨w1, w2⟩ := fin _ pp _ et fs'
        exact ⟨_, _, _, rfl, fs', w1, w2⟩
      · have z1 : ¬ 0 + (i : Int) < last := fun y => z (decide_eq_true y)
        refine ⟨_, rfl, .inl ⟨rfl, _, SqL.of hF3⟩, _, rfl, _, rfl, _, rfl, rfl, m, c, l3, k3, decide (V.int (0) = V.int 0), rfl, M3, by omega, fun pp H4 l4 k4 hp kk4 d4 => ?_⟩
        rw [bl_eq] at hp
        refine ⟨_, rfl, (by show 3 ≤ sizeLine; decide), fun tp htp => ?_⟩
        obtain ⟨hF4, n4⟩ := d4.lst M3 hF3 n3
        refine ⟨F, ts.map V.ref, _, rfl, rfl, same_upd htp _ _ hF4, by rw [List.length_map, ha3.1, sizeLine_eq]; omega, ?_⟩
        have okx : Stp ((0 + (i : Int), pp, 0) : T3) ∧ (0 + (i : Int) : Int) ≤ last ∧ (0 : Int) ≤ last := ⟨⟨by show (0 : Int) ≤ 0 + i; omega, by show (0 + (i : Int)) < 6; omega, hp, Int.le_refl _, (by show (0 : Int) < 6; decide)⟩, by omega, by omega⟩
        have fs' := FS.push (x := (0 + (i : Int), pp, 0)) hF3 ha3 n3 nm nc D3 d4 htp rfl (kb := k1 + 21 * ((i + 1 : Nat) : Int)) (by omega) fs.ok okx fs.hF
        
        have et : (0 : Int) = (if i < last then (i : Int) + 1 else 0) := by rw [if_neg (by omega)]
        obtain ⟨w1, w2⟩ := fin _ pp _ et fs'
        exact ⟨_, _, _, rfl, fs', w1, w2⟩
    · rintro σ H2 ⟨v4, v5, xs, rfl, fs, lx, rg⟩
      rw [hn] at fs lx rg
      obtain ⟨ts, l3, k3, hF3, ha3, n3, nm, nc, kk3, D3⟩ := fs.ex
      refine ⟨_, rfl, m, c, l3, k3, 7, rfl, D3.at_, by decide, by decide, by omega, fun r2 H3 l4 k4 a4 b4 g4 N4 f4 q4 => ?_⟩
      have d4 : Dr H2 H3 m c l3 l4 k4 := ⟨N4, f4, q4⟩
      obtain ⟨hF4, n4⟩ := d4.lst D3.at_ hF3 n3
      have fs4 : FS H H3 m c l F (k1 + 127) last xs := ⟨⟨ts, l4, k4, hF4, ha3.same (d4.keepT D3.at_), n4, nm, nc, by omega, D3.trans d4⟩, fs.ok, fs.hF⟩
      refine ⟨r2, rfl, by omega, by omega, for_it walk_range (fun i σ H' => ∃ (v4 v5 v6 : Option V) (xs : List T3), σ = [some (.ref m), some (.int (bm : Int)), some (.int (last : Int)), some (.ref F), v4, v5, v6, none, none] ∧
        FS H H' m c l F (k1 + 127 + 23 * i) last xs ∧ xs.length = last + 1 + i ∧ ∀ j : Nat, j < last + 1 → ∃ x ∈ xs, x.1 = (j : Int) ∧ x.2.2 = (if j < last then (j : Int) + 1 else 0))
        ⟨v4, v5, none, xs, rfl, by simpa using fs4, lx, rg⟩ (fun _ _ _ _ _ => trivial) ?_ ?_⟩
      · rintro i x σ H5 H6 hi ⟨v4, v5, v6, xs, rfl, fs, lx, rg⟩ ⟨rfl, rfl⟩
        have hi6 : i < 7 := by omega
        obtain ⟨ts, l5', k5, hF5, ha5, n5, nm, nc, kk5, D5⟩ := fs.ex
        refine ⟨_, rfl, _, rfl, last, 1, rfl, rfl, m, c, l5', k5, _, rfl, D5.at_, by omega, by omega, by omega, fun rh H7 l7 k7 a7 b7 g7 N7 f7 q7 => ?_⟩
        have d7 : Dr _ H7 m c l5' l7 k7 := ⟨N7, f7, q7⟩
        refine ⟨_, rfl, _, rfl, last, 1, rfl, rfl, m, c, l7, k7, _, rfl, N7, by omega, by omega, by omega, fun rt H8 l8 k8 a8 b8 g8 N8 f8 q8 => ?_⟩
        have d8 : Dr _ H8 m c l7 l8 k8 := ⟨N8, f8, q8⟩
        have D3 := D5.trans (d7.trans d8)
        have M3 := D3.at_
        obtain ⟨hF3, n3⟩ := (d7.trans d8).lst D5.at_ hF5 n5
        have ha3 := ha5.same ((d7.trans d8).keepT D5.at_)
        refine ⟨_, _, rfl, ?_⟩
        refine ⟨_, rfl, .inl ⟨rfl, _, SqL.of hF3⟩, _, rfl, _, rfl, _, rfl, rfl, m, c, l8, k8, decide (V.int (rt) = V.int 0), rfl, M3, by omega, fun pp H4 l4 k4 hp kk4 d4 => ?_⟩
        rw [bl_eq] at hp
        refine ⟨_, rfl, (by show 3 ≤ sizeLine; decide), fun tp htp => ?_⟩
        obtain ⟨hF4, n4⟩ := d4.lst M3 hF3 n3
        refine ⟨F, ts.map V.ref, _, rfl, rfl, same_upd htp _ _ hF4, by rw [List.length_map, ha3.1, sizeLine_eq]; omega, ?_⟩
        have okx : Stp ((rh, pp, rt) : T3) ∧ (rh : Int) ≤ last ∧ (rt : Int) ≤ last := ⟨⟨a7, by show rh < 6; omega, hp, a8, by show rt < 6; omega⟩, by omega, by omega⟩
        have fs' := FS.push (x := (rh, pp, rt)) hF3 ha3 n3 nm nc D3 d4 htp rfl (kb := k1 + 127 + 23 * ((i + 1 : Nat) : Int)) (by omega) fs.ok okx fs.hF
        
        exact ⟨_, _, _, _, rfl, fs', by rw [List.length_append, lx]; rfl, fun j hj => by
          obtain ⟨x, hx, e2⟩ := rg j hj
          exact ⟨x, List.mem_append_left _ hx, e2⟩⟩
      · rintro σ H5 ⟨v4, v5, v6, xs, rfl, fs, lx, rg⟩
        obtain ⟨ts, l6, k6, hF6, ha6, n6, nm, nc, kk6, D6⟩ := fs.ex
        have hr2 : r2.toNat ≤ 6 := by omega
        have l16 : xs.length ≤ 16 := by omega
        have sok : ∀ x ∈ xs, PyData.strOk x.2.1 = true := fun x hx => pc_ok (fs.ok x hx).1.2.2.1
        refine ⟨_, rfl, F, _, rfl, SqL.of hF6, fun D hD => ?_⟩
        have nFD : F ≠ D := ne_of_none hF6 hD
        refine lc_it (walk_enum (xs := ts.map V.ref)) (fun i H' => ∃ ks : List Addr, H' D = some (.lst (ks.map V.ref)) ∧ At3 H' ks (dd (xs.take i)) ∧ ∀ b o, H5 b = some o → H' b = some o)
          ⟨[], upd_same, ⟨rfl, fun i t x h => by cases h⟩, fun b o z => same_upd hD b o z⟩ (fun i H' _ ⟨_, _, _, z⟩ => SqL.of (z _ _ hF6)) ?_ ?_
        · rintro i x H6 H7 hi ⟨ks, hk, hka, kp⟩ ⟨T, xi, xo, rfl, nT, rfl, h1, h2⟩
          cases h1
          obtain ⟨t, y, hy, rfl, e4⟩ := at_step (i := i) ha6.1 ha6.2 h2
          have uT := same_upd (o := HO.tup [V.int (i : Nat), V.ref t]) nT
          have il : i < xs.length := (List.getElem?_eq_some_iff.mp hy).1
          refine ⟨T, _, rfl, SqT.of upd_same, rfl, _, _, rfl, _, _, rfl, rfl, rfl, ?_⟩
          refine ⟨_, rfl, _, rfl, _, rfl, _, rfl, F, _, rfl, SqL.of (uT _ _ (kp _ _ hF6)), fun p5 hp5 => ?_⟩
          have u5 := same_upd (o := HO.lst (cutV (ts.map V.ref) none (some ((i : Nat) : Int)))) hp5
          have s5 : Same H5 _ := (show Same H5 H6 from kp).trans (uT.trans u5)
          have t5 := s5 _ _ e4
          refine ⟨d3 y, (xs.take i).map d3, dp3 t5, .lst (SqL.of upd_same) ?_, d3_shaped (sok y (List.mem_of_getElem? hy)), d3s_shaped (fun x hx => sok x (List.mem_of_mem_take hx)), _, rfl, ?_⟩
          · rw [cut_to] at s5 ⊢
            exact dp3s ((ha6.take i).same (Same.keepT s5))
          · rw [any_d3]
            have kk := uT.trans u5
            refine ite2 (fun z => ?_) (fun z => ?_)
            · have nm2 : ¬ y ∈ dd (xs.take i) := fun w => by
                rw [decide_eq_true ((dd_mem _ _).mp w)] at z
                cases z
              have hk5 := kk _ _ hk
              have kt := keepT_upd (o := .lst (ks.map V.ref ++ [.ref t])) hk5 (fun xs z => by cases z)
              refine ⟨_, rfl, _, hk5, ?_, ks ++ [t], ?_, ?_, fun b o w => ?_⟩
              · have := dd_len (xs.take i)
                rw [List.length_take] at this
                rw [List.length_map, hka.1, sizeLine_eq]
                omega
              · rw [List.map_append]
                exact upd_same
              · rw [take_one hy, dd_snoc, if_neg nm2]
                exact (hka.same ((Same.keepT kk).trans kt)).snoc (kt _ _ t5)
              · rw [upd_ne (ne_of_none w hD)]
                exact s5 _ _ w
            · have nm2 : y ∈ dd (xs.take i) := (dd_mem _ _).mpr (by
                by_cases w : y ∈ xs.take i
                · exact w
                · rw [decide_eq_false w] at z
                  exact absurd rfl z)
              refine ⟨ks, kk _ _ hk, ?_, fun b o w => s5 _ _ w⟩
              rw [take_one hy, dd_snoc, if_pos nm2]
              exact hka.same (Same.keepT kk)
        · rintro H6 ⟨ks, hk, hka, kp⟩
          rw [List.length_map, ha6.1, List.take_length] at hka
          have hkm := map_stepAt hka
          refine ⟨D, _, stepAt H6, rfl, SqL.of hk, fun x hx => ?_, fun ys p5 sr pm hp5 => ?_⟩
          · obtain ⟨t, ht, rfl⟩ := List.mem_map.mp hx
            obtain ⟨j, hj, e⟩ := List.getElem_of_mem ht
            have hx2 : j < (dd xs).length := by rw [← hka.1]; exact hj
            have s3 := hka.2 j t _ (by rw [List.getElem?_eq_getElem hj, e]) (List.getElem?_eq_getElem hx2)
            refine ⟨t, rfl, ?_⟩
            rw [stepAt_of s3]
            exact s3
          · obtain ⟨fm, us, eu, hu⟩ := frm_of hka rfl sr pm l16 l5 fs.ok (fun k hk => rg k (by omega))
            have u5 := same_upd (o := HO.lst ys) hp5
            refine ⟨p5, _, rfl, .inl ⟨SqL.of upd_same, fun p6 hp6 => ?_⟩⟩
            have u6 := same_upd (o := HO.tup ys) hp6
            have k5 : Same H5 _ := (show Same H5 H6 from kp).trans (u5.trans u6)
            refine q p6 (ys.map (stepAt H6)) last _ l6 k6 ⟨us, by rw [← eu]; exact upd_same, hu.1, fun i t x h1 h2 => (u5.trans u6) _ _ (hu.2 i t x h1 h2)⟩ fm lbm (by omega) (D6.same k5)
end
end K50

set_option Elab.async false
set_option linter.all false
set_option maxRecDepth 100000
set_option maxHeartbeats 4000000
/-! Drawn weavings. -/
namespace K50
open PySem L2 L2.EV
abbrev sFrom : Stmt := top 59
abbrev sWeave : Stmt := top 60
def spFrom : Sp := fun vs H Q _ => ∃ (f : Addr) (fr : List T3) (last : Nat) (h : Int), vs = [.ref f, .int h] ∧ FrA H f fr ∧ Frm fr last ∧
  ∀ (H' : Hp) (p : Addr) (ns : List Int), Same H H' → H p = none → H' p = some (.lst (ns.map V.int)) → ns.length ≤ 16 → (∀ n ∈ ns, 0 ≤ n ∧ n < fr.length ∧ (stt fr n).1 = h) → ((∃ x ∈ fr, x.1 = h) → ns ≠ []) → Q (.ref p) H'
def At2 (H : Hp) (ts : List Addr) (es : List E2) : Prop := ts.length = es.length ∧ ∀ (i : Nat) t e, ts[i]? = some t → es[i]? = some e → A2 H t e
theorem At2.same {H H' : Hp} {ts : List Addr} {xs : List E2} (h : At2 H ts xs) (s : KeepT H H') : At2 H' ts xs := ⟨h.1, fun i t x h1 h2 => s _ _ (h.2 i t x h1 h2)⟩
theorem At2.snoc {H : Hp} {ts : List Addr} {xs : List E2} {t : Addr} {x : E2} (h : At2 H ts xs) (hx : A2 H t x) : At2 H (ts ++ [t]) (xs ++ [x]) := by
  refine ⟨by rw [List.length_append, List.length_append, h.1]; rfl, fun i u y h1 h2 => ?_⟩
  by_cases e : i < ts.length
  · rw [List.getElem?_append_left e] at h1
    rw [List.getElem?_append_left (by rw [← h.1]; exact e)] at h2
    exact h.2 i u y h1 h2
  · have i1 := (List.getElem?_eq_some_iff.mp h1).1
    rw [List.length_append] at i1
    have e2 : i = ts.length := by simp only [List.length_cons, List.length_nil] at i1; omega
    subst e2
    rw [List.getElem?_append_right (Nat.le_refl _), Nat.sub_self] at h1
    rw [h.1, List.getElem?_append_right (Nat.le_refl _), Nat.sub_self] at h2
    have e3 : t = u := Option.some.inj h1
    have e4 : x = y := Option.some.inj h2
    rw [← e3, ← e4]
    exact hx
def spWeave : Sp := fun vs H Q _ => ∃ (m c l f : Addr) (k : Int) (fr : List T3) (last nw tot : Nat), vs = [.ref m, .ref f, .int nw, .int tot] ∧ MAt H m c l k ∧ k < 600000 ∧ FrA H f fr ∧ Frm fr last ∧ 1 ≤ nw ∧ nw ≤ 8 ∧ tot ≤ 60 ∧
  ∀ (w : Addr) (es : List E2) (H' : Hp) (l' : Addr) (k' : Int), WvA H' w es → Wv fr es → (∀ e ∈ es, e.1 < nw) → es.length ≤ tot → k' ≤ k + 200 → Dr H H' m c l l' k' → Q (.ref w) H'
theorem wv_snoc {fr : List T3} {es : List E2} {e : E2} (W : Wv fr es) (hl : es.length < 60) (he : Ent fr e) (g : (plc fr es)[e.1.toNat]? = some (stt fr e.2).1) : Wv fr (es ++ [e]) := by
  refine ⟨by rw [List.length_append]; simp only [List.length_cons, List.length_nil]; omega, fun x hx => ?_, fun i x hx => ?_⟩
  · rcases List.mem_append.mp hx with h | h
    · exact W.ent x h
    · have e2 : x = e := by simpa using h
      rw [e2]
      exact he
  · by_cases hi : i < es.length
    · rw [List.getElem?_append_left hi] at hx
      rw [List.take_append_of_le_length (by omega)]
      exact W.go i x hx
    · have i1 := (List.getElem?_eq_some_iff.mp hx).1
      rw [List.length_append] at i1
      have e2 : i = es.length := by simp only [List.length_cons, List.length_nil] at i1; omega
      subst e2
      rw [List.getElem?_append_right (Nat.le_refl _), Nat.sub_self] at hx
      have e3 : e = x := Option.some.inj hx
      rw [List.take_left' rfl, ← e3]
      exact g
theorem rep_flat : ∀ n : Nat, (List.replicate n [V.int 0]).flatten = (List.replicate n (0 : Int)).map V.int
  | 0 => rfl
  | n + 1 => by
    rw [List.replicate_succ, List.flatten_cons, rep_flat n, List.replicate_succ]
    rfl
structure WS (H H' : Hp) (m c l F W : Addr) (kb : Int) (fr : List T3) (nw : Nat) (es : List E2) : Prop where
  ex : ∃ (ts : List Addr) (l' : Addr) (k' : Int), H' F = some (.lst (ts.map V.ref)) ∧ At2 H' ts es ∧ H' W = some (.lst (((plc fr es).take nw).map V.int)) ∧ F ≠ l' ∧ F ≠ m ∧ F ≠ c ∧ W ≠ l' ∧ W ≠ m ∧ W ≠ c ∧ k' ≤ kb ∧ Dr H H' m c l l' k'
  hF : H F = none
  hW : H W = none
  fw : F ≠ W
theorem WS.push {H H1 : Hp} {m c l F W l1 tp : Addr} {k1 kb : Int} {fr : List T3} {nw : Nat} {es : List E2} {ts : List Addr} {e : E2} (hF1 : H1 F = some (.lst (ts.map V.ref))) (ha : At2 H1 ts es) (hW1 : H1 W = some (.lst (((plc fr es).take nw).map V.int)))
    (n1 : F ≠ l1) (n2 : F ≠ m) (n3 : F ≠ c) (n4 : W ≠ l1) (n5 : W ≠ m) (n6 : W ≠ c) (hk : k1 ≤ kb) (d : Dr H H1 m c l l1 k1) (ht : H1 tp = none) (hF : H F = none) (hW : H W = none) (fw : F ≠ W) :
    WS H (upd (upd (upd H1 tp (.tup [.int e.1, .int e.2])) F (.lst (ts.map V.ref ++ [.ref tp]))) W (.lst ((((plc fr es).take nw).map V.int).set e.1.toNat (.int (stt fr e.2).2.2)))) m c l F W kb fr nw (es ++ [e]) := by
  have u := same_upd (o := HO.tup [V.int e.1, V.int e.2]) ht
  have kF := keepT_upd (o := .lst (ts.map V.ref ++ [.ref tp])) (u _ _ hF1) (fun xs z => by cases z)
  have hW2 : upd (upd H1 tp (.tup [.int e.1, .int e.2])) F (.lst (ts.map V.ref ++ [.ref tp])) W = some (.lst (((plc fr es).take nw).map V.int)) := by
    rw [upd_ne fw.symm]
    exact u _ _ hW1
  have kW := keepT_upd (o := .lst ((((plc fr es).take nw).map V.int).set e.1.toNat (.int (stt fr e.2).2.2))) hW2 (fun xs z => by cases z)
  have kk := (Same.keepT u).trans (kF.trans kW)
  have D := d.same u
  refine ⟨⟨ts ++ [tp], l1, k1, by rw [List.map_append, upd_ne fw]; exact upd_same, (ha.same kk).snoc (kW _ _ (kF _ _ upd_same)), ?_, n1, n2, n3, n4, n5, n6, hk, ⟨(D.at_.upd n2 n3 n1).upd n5 n6 n4, D.hl, fun b o z h1 h2 => ?_⟩⟩, hF, hW, fw⟩
  · rw [upd_same, plc_snoc, List.take_set, List.map_set]
  · rw [upd_ne (ne_of_none z hW), upd_ne (ne_of_none z hF)]
    exact D.kp b o z h1 h2
/-- the standings of the writers -/
theorem plc_ok {fr : List T3} {last : Nat} (fm : Frm fr last) {es : List E2} (h : ∀ e ∈ es, Ent fr e) : ∀ g ∈ plc fr es, 0 ≤ g ∧ g ≤ last := by
  refine snoc_ind (p := fun es => (∀ e ∈ es, Ent fr e) → ∀ g ∈ plc fr es, 0 ≤ g ∧ g ≤ last) (fun _ g hg => ?_) (fun l e ih h g hg => ?_) es h
  · have z : g = 0 := by
      have := List.eq_of_mem_replicate (show g ∈ List.replicate 8 (0 : Int) from hg)
      exact this
    subst z
    omega
  · rw [plc_snoc] at hg
    rcases List.mem_or_eq_of_mem_set hg with z | z
    · exact ih (fun e he => h e (List.mem_append_left _ he)) g z
    · obtain ⟨_, _, n0, n1⟩ := h e (List.mem_append_right _ (List.mem_singleton.mpr rfl))
      have hm : stt fr e.2 ∈ fr := by
        obtain ⟨k, hk⟩ := Int.eq_ofNat_of_zero_le n0
        unfold stt
        rw [hk] at n1 ⊢
        have kl : k < fr.length := by omega
        rw [List.getD_eq_getElem?_getD, Int.toNat_natCast, List.getElem?_eq_getElem kl]
        exact List.getElem_mem kl
      rw [z]
      exact ⟨(fm.stp _ hm).2.2.2.1, (fm.lo _ hm).2⟩
section
variable {P : Program} {w : World} {K : PySem.W.Frag} {mg : Str → Option Value} {base : Heap}
structure Lw (K : PySem.W.Frag) (mg : Str → Option Value) where
  G : Lf K mg
  f1 : Addr
  f2 : Addr
  d1 : FuncData
  d2 : FuncData
  F : Fun K "_law_from" "_law_from" sFrom f1 d1
  W : Fun K "_law_weaving" "_law_weaving" sWeave f2 d2
  bF : Binds K d1 ["framing", "here"] []
  bW : Binds K d2 ["m", "framing", "writers", "total"] []
  gF : mg "_law_from" = some (.ref f1)
  gW : mg "_law_weaving" = some (.ref f2)
theorem scFrom : FnScope ["framing", "here", "number", "step"] ["framing", "here"] (defScope sFrom) := ⟨rfl, rfl, rfl, by decide +kernel, rfl, by decide +kernel, by decide +kernel⟩
theorem ok_from (G : Lw K mg) : FnOk P w K mg base CX0 1 G.f1 G.d1 ["framing", "here"] spFrom := by
  refine G.F.ok scFrom (fun vs H Q E h => ?_) (fun cdv A outer s H vs Q E hr h => ?_)
  · obtain ⟨f, fr, last, h, rfl, _⟩ := h
    rfl
  · obtain ⟨f, fr, last, h, rfl, fa, fm, q⟩ := h
    refine ⟨_, pss_one (ps_ret (pe_lc (own := [("number", 2), ("step", 3)]) (g := gTup K 2 (gCons (gName 2) (gCons (gName 3) gNil))) (tt := tTest (tOp rEq (tOp (rIxT K) (tVar 3) (tC (.int 0))) (tVar 1))) (te := tVar 2) rfl scFrom.nd (pi_enumT (by rfl) G.G.en (pa_cons (pv 0) pa_nil))
      (blkOk_by (N := ["framing", "here", "number", "step"]) (sc := defScope sFrom) (by decide +kernel))
      (fun _ _ _ _ _ => pg_tup rfl (pgs_cons (pg_name (i := 2) scFrom.nd rfl (Or.inl rfl)) (pgs_cons (pg_name (i := 3) scFrom.nd rfl (Or.inl rfl)) pgs_nil)))
      (fun _ _ _ _ _ => pts_one (pt_cmpR op_eq (pe_ix ix_tup (pv 3) pe_int (fun _ _ => rfl)) (pv 1) (nomark _))) (fun _ _ _ _ _ => pv 2))), ?_⟩
    obtain ⟨ts, hf, hl, ht⟩ := id fa
    have l1 := fm.l1
    refine ⟨_, rfl, f, _, rfl, SqT.of hf, fun D hD => ?_⟩
    refine lc_it (walk_enumT (xs := ts.map V.ref)) (fun i H' => ∃ ns : List Int, H' D = some (.lst (ns.map V.int)) ∧ ns.length ≤ i ∧ (∀ n ∈ ns, 0 ≤ n ∧ n < fr.length ∧ (stt fr n).1 = h) ∧ (∀ (j : Nat) x, j < i → fr[j]? = some x → x.1 = h → ns ≠ []) ∧ ∀ b o, H b = some o → H' b = some o)
      ⟨[], upd_same, Nat.le_refl _, (fun n h => by cases h), (fun j x hj => absurd hj (by omega)), fun b o z => same_upd hD b o z⟩ (fun i H' _ ⟨_, _, _, _, _, z⟩ => SqT.of (z _ _ hf)) ?_ ?_
    · rintro i x H1 H2 hi ⟨ns, hn, nl, nk, nz, kp⟩ ⟨T, xi, xo, rfl, nT, rfl, h1, h2⟩
      cases h1
      obtain ⟨t, y, hy, rfl, e4⟩ := at_step (i := i) hl ht h2
      have uT := same_upd (o := HO.tup [V.int (i : Nat), V.ref t]) nT
      have s3 : Same H _ := (show Same H H1 from kp).trans uT
      have il : i < fr.length := (List.getElem?_eq_some_iff.mp hy).1
      have es : stt fr (i : Int) = y := by
        unfold stt
        rw [List.getD_eq_getElem?_getD, Int.toNat_natCast, hy]
        rfl
      refine ⟨T, _, rfl, SqT.of upd_same, rfl, _, _, rfl, _, _, rfl, rfl, rfl, ?_⟩
      refine ⟨_, rfl, t, _, 0, _, rfl, rfl, SqT.of (s3 _ _ e4), atI_nat (j := 0) rfl, _, rfl, rfl, _, rfl, ?_⟩
      refine ite2 (fun z => ?_) (fun z => ?_)
      · have z1 : y.1 = h := V.int.inj (of_decide_eq_true z)
        refine ⟨_, rfl, _, uT _ _ hn, ?_, ns ++ [(i : Int)], ?_, ?_, fun n hn2 => ?_, fun j x _ _ _ => by simp, fun b o w => ?_⟩
        · rw [List.length_map, sizeLine_eq]
          omega
        · rw [List.map_append]
          exact upd_same
        · rw [List.length_append]
          simp only [List.length_cons, List.length_nil]
          omega
        · rcases List.mem_append.mp hn2 with h3 | h3
          · exact nk n h3
          · have e2 : n = (i : Int) := by simpa using h3
            subst e2
            rw [es]
            exact ⟨by omega, by omega, z1⟩
        · rw [upd_ne (ne_of_none w hD)]
          exact s3 _ _ w
      · have z1 : ¬ y.1 = h := fun e => z (decide_eq_true (congrArg V.int e))
        refine ⟨ns, uT _ _ hn, by omega, nk, fun j x hj hx he => ?_, fun b o w => s3 _ _ w⟩
        by_cases e : j = i
        · subst e
          rw [hy] at hx
          exact absurd he (by rw [← Option.some.inj hx]; exact z1)
        · exact nz j x (by omega) hx he
    · rintro H1 ⟨ns, hn, nl, nk, nz, kp⟩
      rw [List.length_map, hl] at nl nz
      refine q H1 D ns kp hD hn (by omega) nk (fun ⟨x, hx, he⟩ => ?_)
      obtain ⟨j, hj, e⟩ := List.getElem_of_mem hx
      exact nz j x hj (by rw [List.getElem?_eq_getElem hj, e]) he
theorem scWeave : FnScope ["m", "framing", "writers", "total", "found", "now", "writer", "k", "some", "number"] ["m", "framing", "writers", "total"] (defScope sWeave) := ⟨rfl, rfl, rfl, by decide +kernel, rfl, by decide +kernel, by decide +kernel⟩
theorem ok_weave (G : Lw K mg) : FnOk P w K mg base CX0 2 G.f2 G.d2 ["m", "framing", "writers", "total"] spWeave := by
  have GX : FnOk P w K mg base CX0 1 G.G.L.f1 G.G.L.d1 ["m", "total"] spNext := ok_next G.G.L.N G.G.L.T
  have GF : FnOk P w K mg base CX0 1 G.f1 G.d1 ["framing", "here"] spFrom := ok_from G
  refine G.W.ok scWeave (fun vs H Q E h => ?_) (fun cdv A outer s H vs Q E hr h => ?_)
  · obtain ⟨m, c, l, f, k, fr, last, nw, tot, rfl, _⟩ := h
    rfl
  · obtain ⟨m, c, l, f, k, fr, last, nw, tot, rfl, M, hk, fa, fm, w1, w8, t60, q⟩ := h
    refine ⟨_, pss_cons (ps_par (i := 4) (j := 5) (x := "found") (y := "now") rfl scWeave.nd rfl rfl (by decide) rfl rfl (pa_cons (pe_lst pa_nil) (pa_cons (pe_op op_rep (pe_lst (pa_cons pe_int pa_nil)) (pv 2)) pa_nil)) (by rfl))
      (pss_cons (ps_set (i := 6) scWeave.nd rfl (Or.inl rfl) (pe_call GX hr (by rfl) G.G.L.mN G.G.L.N.kp G.G.L.bN .nil pass0 (pa_cons (pv 0) (pa_cons (pv 2) pa_nil))))
      (pss_cons (ps_for PassesOwn.never rfl (pi_range1 (by rfl) G.G.L.ra (pa_cons (pv 3) pa_nil)) (pg_name (i := 7) scWeave.nd rfl (Or.inl rfl))
        (pss_cons (ps_if (pt_cmpR op_gt (pe_call GX hr (by rfl) G.G.L.mN G.G.L.N.kp G.G.L.bN .nil pass0 (pa_cons (pv 0) (pa_cons pe_int pa_nil))) pe_int (nomark _))
          (pss_one (ps_set (i := 6) scWeave.nd rfl (Or.inl rfl) (pe_call GX hr (by rfl) G.G.L.mN G.G.L.N.kp G.G.L.bN .nil pass0 (pa_cons (pv 0) (pa_cons (pv 2) pa_nil))))) pss_nil)
        (pss_cons (ps_set (i := 8) scWeave.nd rfl (Or.inl rfl) (pe_call GF hr (by rfl) G.gF G.F.kp G.bF .nil pass0 (pa_cons (pv 1) (pa_cons (pe_ix ix_list (pv 5) (pv 6) (fun _ _ => rfl)) pa_nil))))
        (pss_cons (ps_set (i := 9) scWeave.nd rfl (Or.inl rfl) (pe_ix ix_list (pv 8) (pe_call GX hr (by rfl) G.G.L.mN G.G.L.N.kp G.G.L.bN .nil pass0 (pa_cons (pv 0) (pa_cons (pe_callB call_len_seq (by rfl) G.G.L.T.len PySem.boot_len (pa_cons (pv 8) pa_nil)) pa_nil))) (fun _ _ => rfl)))
        (pss_cons (ps_expr (pe_bm PySem.F.plainAttrs_list PySem.F.slot_list_append PySem.F.type_list_append mt_append (pv 4) (pa_cons (pe_tup (pa_cons (pv 6) (pa_cons (pv 9) pa_nil))) pa_nil)))
        (pss_one (ps_asg (pe_ix ix_tup (pe_ix ix_tup (pv 1) (pv 9) (fun _ _ => rfl)) pe_int (fun _ _ => rfl)) (pg_sub (pv 5) (pv 6) set_list))))))))
      (pss_one (ps_ret (pe_callTy call_tuple_of (by rfl) G.G.tu (by decide +kernel) (pa_cons (pv 4) pa_nil)))))), ?_⟩
    refine ⟨by decide, fun F hF => ⟨(by show 1 ≤ sizeLine; decide), fun z hz => ?_⟩⟩
    refine ⟨_, rfl, z, nw, _, rfl, rfl, upd_same, by omega, by omega, (by rw [sizeLine_eq]; simp; omega), fun W hW => ⟨_, _, rfl, ?_⟩⟩
    have u1 := same_upd (o := HO.lst []) hF
    have u2 := same_upd (o := HO.lst [V.int 0]) hz
    have u3 := same_upd (o := HO.lst (List.replicate (nw : Int).toNat [V.int 0]).flatten) hW
    have sA : Same H _ := u1.trans (u2.trans u3)
    have MA := M.same sA
    have hFA := (u2.trans u3) _ _ (upd_same (H := H) (a := F) (o := HO.lst []))
    have hWA : upd (upd (upd H F (.lst [])) z (.lst [V.int 0])) W (.lst (List.replicate (nw : Int).toNat [V.int 0]).flatten) W = some (.lst (((plc fr []).take nw).map V.int)) := by
      rw [upd_same, rep_flat, Int.toNat_natCast]
      show _ = some (HO.lst (((List.replicate 8 (0 : Int)).take nw).map V.int))
      rw [List.take_replicate, Nat.min_eq_left w8]
    have hW0 : H W = none := (u1.trans u2).free hW
    have fw : F ≠ W := ne_of_none ((u2) _ _ (upd_same (H := H) (a := F) (o := HO.lst []))) hW
    have nFm : F ≠ m := (ne_of_none M.hm hF).symm
    have nWm : W ≠ m := (ne_of_none M.hm hW0).symm
    have nFc := M.c_some hF
    have nWc := M.c_some hW0
    refine ⟨_, rfl, _, rfl, m, c, l, k, nw, rfl, MA, by omega, by omega, by omega, fun r H1 l1 k1 a1 b1 g1 N1 f1 q1 => ?_⟩
    have d1 : Dr _ H1 m c l l1 k1 := ⟨N1, f1, q1⟩
    obtain ⟨hF1, nF1⟩ := d1.lst MA hFA (M.l_some hF)
    obtain ⟨hW1, nW1⟩ := d1.lst MA hWA (M.l_some hW0)
    have DA : Dr H H1 m c l l1 k1 := ((Dr.refl M).same sA).trans d1
    have ws0 : WS H H1 m c l F W (k + 1) fr nw [] := ⟨⟨[], l1, k1, hF1, ⟨rfl, fun i t x h => by cases h⟩, hW1, nF1, nFm, nFc, nW1, nWm, nWc, by omega, DA⟩, hF, hW0, fw⟩
    refine ⟨_, rfl, tot, rfl, by omega, by omega, for_it walk_range (fun i σ H' => ∃ (wr : Int) (v7 v8 v9 : Option V) (es : List E2), σ = [some (.ref m), some (.ref f), some (.int (nw : Int)), some (.int (tot : Int)), some (.ref F), some (.ref W), some (.int wr), v7, v8, v9] ∧
      0 ≤ wr ∧ wr < nw ∧ WS H H' m c l F W (k + 1 + 3 * i) fr nw es ∧ es.length = i ∧ (∀ e ∈ es, e.1 < nw) ∧ Wv fr es)
      ⟨r, none, none, none, [], rfl, a1, b1, by simpa using ws0, rfl, (fun e h => by cases h), ⟨Nat.zero_le _, fun e h => (by cases h), fun i e h => (by cases h)⟩⟩ (fun _ _ _ _ _ => trivial) ?_ ?_⟩
    · rintro i x σ H2 H2' hi ⟨wr, v7, v8, v9, es, rfl, wr0, wr1, ws, le, lw, wo⟩ ⟨rfl, rfl⟩
      have hi60 : i < 60 := by
        rw [Int.toNat_natCast] at hi
        omega
      obtain ⟨ts, l2, k2, hF2, ha2, hW2, nF2, _, _, nW2, _, _, kk2, D2⟩ := ws.ex
      refine ⟨_, rfl, m, c, l2, k2, 3, rfl, D2.at_, by decide, by decide, by omega, fun rb Hb lb kb ab bb gb Nb fb qb => ?_⟩
      have db : Dr _ Hb m c l2 lb kb := ⟨Nb, fb, qb⟩
      obtain ⟨hFb, nFb⟩ := db.lst D2.at_ hF2 nF2
      obtain ⟨hWb, nWb⟩ := db.lst D2.at_ hW2 nW2
      have hab := ha2.same (db.keepT D2.at_)
      have Db := D2.trans db
      refine ⟨rb, 0, rfl, rfl, _, rfl, ?_⟩
      refine ite2 (fun _ => ?_) (fun _ => ?_)
      · refine ⟨_, rfl, _, rfl, m, c, lb, kb, nw, rfl, Nb, by omega, by omega, by omega, fun wq H3 l3 k3 wr0 wr1 g3 N3 f3 q3 => ?_⟩
        have d3 : Dr _ H3 m c lb l3 k3 := ⟨N3, f3, q3⟩
        obtain ⟨hF3, nF3⟩ := d3.lst Nb hFb nFb
        obtain ⟨hW3, nW3⟩ := d3.lst Nb hWb nWb
        have ha3 := hab.same (d3.keepT Nb)
        have D3 := Db.trans d3
        have wn0 : (wq).toNat < (plc fr es).length := by rw [plc_len]; omega
        obtain ⟨g, hg⟩ : ∃ g, (plc fr es)[(wq).toNat]? = some g := ⟨_, List.getElem?_eq_getElem wn0⟩
        obtain ⟨g0, g1⟩ := plc_ok fm wo.ent g (List.mem_of_getElem? hg)
        have hgi : atI (((plc fr es).take nw).map V.int) (wq) = some (.int g) := by
          obtain ⟨j, hj⟩ := Int.eq_ofNat_of_zero_le wr0
          rw [hj] at hg ⊢
          refine atI_nat ?_
          rw [List.getElem?_map, List.getElem?_take, if_pos (by omega)]
          have hg' : (plc fr es)[j]? = some g := hg
          rw [hg']
          rfl
        refine ⟨_, rfl, _, rfl, _, rfl, W, _, wq, .int g, rfl, rfl, SqL.of hW3, hgi, f, fr, last, g, rfl, D3.fr M fa, fm, fun H4 p ns s4 np ep nl nk nz => ?_⟩
        obtain ⟨gn, rfl⟩ := Int.eq_ofNat_of_zero_le g0
        obtain ⟨x0, hx0, ex0, _⟩ := fm.ring gn (by omega)
        have nne := List.length_pos_iff.mpr (nz ⟨x0, hx0, ex0⟩)
        have M4 := D3.at_.same s4
        refine ⟨_, rfl, _, rfl, _, rfl, p, _, rfl, .inl (SqL.of ep), m, c, l3, k3, _, rfl, M4, by rw [List.length_map]; omega, by rw [List.length_map]; omega, by omega, fun r5 H5 l5 k5 a5 b5 g5 N5 f5 q5 => ?_⟩
        have d5 : Dr H4 H5 m c l3 l5 k5 := ⟨N5, f5, q5⟩
        rw [List.length_map] at b5
        obtain ⟨ep5, _⟩ := d5.lst M4 ep (D3.at_.l_some np)
        obtain ⟨j, rfl⟩ := Int.eq_ofNat_of_zero_le a5
        have jl : j < ns.length := by omega
        obtain ⟨m0, m1, m2⟩ := nk ns[j] (List.getElem_mem jl)
        have D5 := (D3.same s4).trans d5
        obtain ⟨hF5, nF5⟩ := d5.lst M4 (s4 _ _ hF3) nF3
        obtain ⟨hW5, nW5⟩ := d5.lst M4 (s4 _ _ hW3) nW3
        have ha5 := (ha3.same (Same.keepT s4)).same (d5.keepT M4)
        refine ⟨p, _, (j : Int), .int ns[j], rfl, rfl, SqL.of ep5, atI_nat (by rw [List.getElem?_map, List.getElem?_eq_getElem jl]; rfl), ?_⟩
        refine ⟨_, rfl, .inl ⟨rfl, _, SqL.of hF5⟩, _, rfl, _, rfl, (by show 2 ≤ sizeLine; decide), fun tp htp => ?_⟩
        have u6 := same_upd (o := HO.tup [V.int (wq), V.int ns[j]]) htp
        refine ⟨F, ts.map V.ref, _, rfl, rfl, u6 _ _ hF5, by rw [List.length_map, ha3.1, sizeLine_eq]; omega, ?_⟩
        have k6 := keepT_upd (o := .lst (ts.map V.ref ++ [.ref tp])) (u6 _ _ hF5) (fun xs z => by cases z)
        obtain ⟨tf, t2, hf, hat, h3, _⟩ := stt_at (D5.fr M fa) m0 m1
        have kk := (Same.keepT u6).trans k6
        refine ⟨_, rfl, _, rfl, f, _, ns[j], .ref t2, rfl, rfl, SqT.of (kk _ _ hf), hat, t2, _, 2, _, rfl, rfl, SqT.of (kk _ _ h3), atI_nat (j := 2) rfl, _, rfl, _, rfl, W, _, wq, (wq).toNat, rfl, rfl, by rw [upd_ne ws.fw.symm]; exact u6 _ _ hW5, ?_, ?_⟩
        · rw [List.length_map, List.length_take, plc_len]
          unfold ixN
          rw [if_pos wr0, if_pos (by omega)]
        · have ent : Ent fr (wq, ns[j]) := ⟨wr0, by show (wq : Int) < 8; omega, m0, m1⟩
          have ws' := WS.push (e := (wq, ns[j])) hF5 ha5 hW5 nF5 nFm nFc nW5 nWm nWc (kb := k + 1 + 3 * ((i + 1 : Nat) : Int)) (by omega) D5 htp ws.hF ws.hW ws.fw
          refine ⟨_, _, _, _, es ++ [(wq, ns[j])], rfl, wr0, wr1, ws', by rw [List.length_append, le]; rfl, (fun e he => (List.mem_append.mp he).elim (lw e) (fun h => by cases List.mem_singleton.mp h; exact wr1)), wv_snoc wo (by omega) ent ?_⟩
          show (plc fr es)[(wq).toNat]? = some (stt fr ns[j]).1
          rw [hg, m2]
        
      · have hF3 := hFb
        have hW3 := hWb
        have nF3 := nFb
        have nW3 := nWb
        have ha3 := hab
        have D3 := Db
        generalize lb = l3 at *
        generalize kb = k3 at *
        have wn0 : (wr).toNat < (plc fr es).length := by rw [plc_len]; omega
        obtain ⟨g, hg⟩ : ∃ g, (plc fr es)[(wr).toNat]? = some g := ⟨_, List.getElem?_eq_getElem wn0⟩
        obtain ⟨g0, g1⟩ := plc_ok fm wo.ent g (List.mem_of_getElem? hg)
        have hgi : atI (((plc fr es).take nw).map V.int) (wr) = some (.int g) := by
          obtain ⟨j, hj⟩ := Int.eq_ofNat_of_zero_le wr0
          rw [hj] at hg ⊢
          refine atI_nat ?_
          rw [List.getElem?_map, List.getElem?_take, if_pos (by omega)]
          have hg' : (plc fr es)[j]? = some g := hg
          rw [hg']
          rfl
        refine ⟨_, rfl, _, rfl, _, rfl, W, _, wr, .int g, rfl, rfl, SqL.of hW3, hgi, f, fr, last, g, rfl, D3.fr M fa, fm, fun H4 p ns s4 np ep nl nk nz => ?_⟩
        obtain ⟨gn, rfl⟩ := Int.eq_ofNat_of_zero_le g0
        obtain ⟨x0, hx0, ex0, _⟩ := fm.ring gn (by omega)
        have nne := List.length_pos_iff.mpr (nz ⟨x0, hx0, ex0⟩)
        have M4 := D3.at_.same s4
        refine ⟨_, rfl, _, rfl, _, rfl, p, _, rfl, .inl (SqL.of ep), m, c, l3, k3, _, rfl, M4, by rw [List.length_map]; omega, by rw [List.length_map]; omega, by omega, fun r5 H5 l5 k5 a5 b5 g5 N5 f5 q5 => ?_⟩
        have d5 : Dr H4 H5 m c l3 l5 k5 := ⟨N5, f5, q5⟩
        rw [List.length_map] at b5
        obtain ⟨ep5, _⟩ := d5.lst M4 ep (D3.at_.l_some np)
        obtain ⟨j, rfl⟩ := Int.eq_ofNat_of_zero_le a5
        have jl : j < ns.length := by omega
        obtain ⟨m0, m1, m2⟩ := nk ns[j] (List.getElem_mem jl)
        have D5 := (D3.same s4).trans d5
        obtain ⟨hF5, nF5⟩ := d5.lst M4 (s4 _ _ hF3) nF3
        obtain ⟨hW5, nW5⟩ := d5.lst M4 (s4 _ _ hW3) nW3
        have ha5 := (ha3.same (Same.keepT s4)).same (d5.keepT M4)
        refine ⟨p, _, (j : Int), .int ns[j], rfl, rfl, SqL.of ep5, atI_nat (by rw [List.getElem?_map, List.getElem?_eq_getElem jl]; rfl), ?_⟩
        refine ⟨_, rfl, .inl ⟨rfl, _, SqL.of hF5⟩, _, rfl, _, rfl, (by show 2 ≤ sizeLine; decide), fun tp htp => ?_⟩
        have u6 := same_upd (o := HO.tup [V.int (wr), V.int ns[j]]) htp
        refine ⟨F, ts.map V.ref, _, rfl, rfl, u6 _ _ hF5, by rw [List.length_map, ha3.1, sizeLine_eq]; omega, ?_⟩
        have k6 := keepT_upd (o := .lst (ts.map V.ref ++ [.ref tp])) (u6 _ _ hF5) (fun xs z => by cases z)
        obtain ⟨tf, t2, hf, hat, h3, _⟩ := stt_at (D5.fr M fa) m0 m1
        have kk := (Same.keepT u6).trans k6
        refine ⟨_, rfl, _, rfl, f, _, ns[j], .ref t2, rfl, rfl, SqT.of (kk _ _ hf), hat, t2, _, 2, _, rfl, rfl, SqT.of (kk _ _ h3), atI_nat (j := 2) rfl, _, rfl, _, rfl, W, _, wr, (wr).toNat, rfl, rfl, by rw [upd_ne ws.fw.symm]; exact u6 _ _ hW5, ?_, ?_⟩
        · rw [List.length_map, List.length_take, plc_len]
          unfold ixN
          rw [if_pos wr0, if_pos (by omega)]
        · have ent : Ent fr (wr, ns[j]) := ⟨wr0, by show (wr : Int) < 8; omega, m0, m1⟩
          have ws' := WS.push (e := (wr, ns[j])) hF5 ha5 hW5 nF5 nFm nFc nW5 nWm nWc (kb := k + 1 + 3 * ((i + 1 : Nat) : Int)) (by omega) D5 htp ws.hF ws.hW ws.fw
          refine ⟨_, _, _, _, es ++ [(wr, ns[j])], rfl, wr0, wr1, ws', by rw [List.length_append, le]; rfl, (fun e he => (List.mem_append.mp he).elim (lw e) (fun h => by cases List.mem_singleton.mp h; exact wr1)), wv_snoc wo (by omega) ent ?_⟩
          show (plc fr es)[(wr).toNat]? = some (stt fr ns[j]).1
          rw [hg, m2]
        
    · rintro σ H2 ⟨wr, v7, v8, v9, es, rfl, wr0, wr1, ws, le, lw, wo⟩
      obtain ⟨ts, l2, k2, hF2, ha2, hW2, nF2, _, _, nW2, _, _, kk2, D2⟩ := ws.ex
      refine ⟨_, rfl, F, _, rfl, .inl ⟨SqL.of hF2, fun p hp => ?_⟩⟩
      have u := same_upd (o := HO.tup (ts.map V.ref)) hp
      rw [Int.toNat_natCast] at kk2
      exact q p es _ l2 k2 ⟨ts, upd_same, ha2.1, fun i t e h1 h2 => u _ _ (ha2.2 i t e h1 h2)⟩ wo lw (by rw [le]; simp) (by omega) (D2.same u)
end
end K50

set_option Elab.async false
set_option linter.all false
set_option maxRecDepth 100000
set_option maxHeartbeats 4000000
/-! try: .. except (A, B, ..) as e: the caught error is kept as a value behind the suite. Raising an own exception that was made by its own __init__. -/
namespace L2
namespace EV
open PySem PySem.Spec PyProof.Rows _root_.EV
/-- an exception that was caught, at a -/
def exh (cls : Value) (d : Option Addr) (a : Addr) : HO := .ext fun h => ∃ (oe : Obj) (vs : Array Value), h.get? a = some oe ∧ Zc cls d oe ∧ oe.data = .fields vs
theorem exh_ok {P : Program} {w : World} {H : Hp} {h : Heap} {a : Addr} {cls : Value} {d : Option Addr} {oe : Obj} {vs : Array Value} (e : h.get? a = some oe) (z : Zc cls d oe) (hd : oe.data = .fields vs) : ObjOk P w H h a (exh cls d a) :=
  ⟨⟨oe, vs, e, z, hd⟩, ⟨oe, e⟩, fun _ _ ⟨o, v, q, r⟩ k => ⟨o, v, k o q, r⟩⟩
theorem exh_at {P : Program} {w : World} {H : Hp} {h : Heap} {a : Addr} {cls : Value} {d : Option Addr} (hok : HOk P w H h) (e : H a = some (exh cls d a)) : ∃ (oe : Obj) (vs : Array Value), h.get? a = some oe ∧ Zc cls d oe ∧ oe.data = .fields vs := by
  have q : ObjOk P w H h a (.ext fun h => ∃ (oe : Obj) (vs : Array Value), h.get? a = some oe ∧ Zc cls d oe ∧ oe.data = .fields vs) := hok a _ e
  exact q.1
theorem flies_keeps {B : Heap} {l : List Env} {a : Addr} {Z : Obj → Prop} {h h' : Heap} (f : HandSPX.FlyingZ B l a Z h) (k : ∀ b o, h.get? b = some o → h'.get? b = some o) : HandSPX.FlyingZ B l a Z h' := by
  obtain ⟨f1, f2, f3, oe, vs, T, oT, ts, e1, e2, e3, e4, e5, e6, e7, e8, e9⟩ := f
  exact ⟨fun b o q => k b o (f1 b o q), f2, f3.of_keeps fun b o q _ => ⟨o, k b o q, rfl⟩, oe, vs, T, oT, ts, k _ _ e1, e2, e3, e4, e5, e6, k _ _ e7, e8, e9⟩
/-! ### does one of several classes match -/
section
variable {M : Model} {K : PySem.W.Frag} {h : Heap} {cls : Value}
theorem all_cls : ∀ {cs : List Value} {b : Bool}, PySem.W.exmAny K cls cs = some b → ∀ c ∈ cs, ∃ v, PySem.W.exmOne K cls c = some v
  | c :: r, b, e, x, hx => by
    obtain ⟨b1, d1, h1, h2, _⟩ := PySem.W.exmAny_cons e
    rcases List.mem_cons.mp hx with rfl | hx
    · exact ⟨_, h1⟩
    · exact all_cls h2 x hx
section
variable {A : Around} {E : Value → Shared → Prop} {s : Shared}
theorem loop_exc (X : K.In h) (k0 : ∀ b o, h.get? b = some o → s.heap.get? b = some o) {R : PUnit → Shared → Prop} (r : R ⟨⟩ s) : ∀ l : List Value, (∀ c ∈ l, ∃ v, PySem.W.exmOne K cls c = some v) →
    wpAny M A (forIn l PUnit.unit fun c _ => do
        if (!(← isExcClass c)) = true then do
          rule "try.except-non-exception-class"
          raiseErrorWords "TypeError" "catching classes that do not inherit from BaseException is not allowed"
          pure (ForInStep.yield PUnit.unit)
        else pure (ForInStep.yield PUnit.unit)) R E s := by
  intro l
  induction l with
  | nil => exact fun _ => wpAny_pure r
  | cons c l ih =>
    intro hl
    obtain ⟨v, hv⟩ := hl c (List.mem_cons_self ..)
    obtain ⟨i1, _⟩ := PySem.W.exm_cls (M := M) X hv
    rw [List.forIn_cons]
    refine wpAny_bind (wpAny_bind ((i1.keeps k0).here ?_))
    simp only [Bool.not_true, Bool.false_eq_true, if_false]
    exact wpAny_pure (ih fun x hx => hl x (List.mem_cons_of_mem _ hx))
theorem loop_sub (X : K.In h) (k0 : ∀ b o, h.get? b = some o → s.heap.get? b = some o) {R : Option Bool × Unit → Shared → Prop} : ∀ (l : List Value) (b : Bool), PySem.W.exmAny K cls l = some b → R (if b = true then (some true, ()) else (none, ())) s →
    wpAny M A (forIn l ((none, ()) : Option Bool × Unit) fun c _ => do
        if (← isSubtype cls c) = true then pure (ForInStep.done (some true, ())) else pure (ForInStep.yield (none, ()))) R E s := by
  intro l
  induction l with
  | nil =>
    intro b e r
    have : some false = some b := e
    cases this
    exact wpAny_pure r
  | cons c l ih =>
    intro b e r
    obtain ⟨b1, d1, h1, h2, rfl⟩ := PySem.W.exmAny_cons e
    obtain ⟨_, S1⟩ := PySem.W.exm_cls (M := M) X h1
    rw [List.forIn_cons]
    refine wpAny_bind (wpAny_bind ((S1.keeps k0).here ?_))
    cases b1 with
    | true =>
      rw [Bool.true_or] at r
      simp only [if_true]
      exact wpAny_pure (wpAny_pure r)
    | false =>
      rw [Bool.false_or] at r
      simp only [Bool.false_eq_true, if_false]
      exact wpAny_pure (ih _ h2 r)
end
theorem match_list {cs : List Value} {b : Bool} {tp e : Addr} (X : K.In h) (LT : PySem.W.Looks M h (typeOf (.ref e)) cls) (hp : h.get? tp = some { cls := .type "tuple", data := .seq cs.toArray }) (hx : PySem.W.exmAny K cls cs = some b) :
    PySem.W.Looks M h (excMatches (.ref e) (.ref tp)) b := by
  intro A Q E s k0 q
  have L0 : PySem.W.Looks M h (isInstance (.ref tp) (.type "tuple")) true := ((PySem.W.Looks.ld hp).andThen .now).andThen (PySem.W.Looks.of_pure isSubtype_tuple_tuple)
  have hp' := k0 _ _ hp
  unfold excMatches
  refine wpAny_bind ((L0.keeps k0).here ?_)
  rw [if_pos rfl]
  have ec : ((some cs.toArray).getD #[]).toList = cs := by simp
  refine wpAny_bind ?_
  refine wpAny_seqItems hp' rfl ?_
  refine wpAny_bind (wpAny_pure ?_)
  show wpAny _ _ (do
      forIn ((some cs.toArray).getD #[]).toList PUnit.unit _
      _) _ _ _
  rw [ec]
  refine wpAny_bind (loop_exc X k0 ?_ cs (all_cls hx))
  refine wpAny_bind ((LT.keeps k0).here ?_)
  refine wpAny_bind (loop_sub X k0 cs b hx ?_)
  cases b with
  | true => exact wpAny_pure q
  | false => exact wpAny_pure q
end
/-! ### the rule -/
/-- classes by their names -/
inductive ClsL (X : Cx) : List Expr → List Value → Prop
  | nil : ClsL X [] []
  | cons {x : Str} {c : Value} {p : Pos} {es : List Expr} {cs : List Value} : Names X x c → ClsL X es cs → ClsL X (.Name x p :: es) (c :: cs)
theorem ClsL.suite {X : Cx} {a : Addr} {pn : List (Addr × Obj)} : ∀ {es : List Expr} {cs : List Value}, ClsL X es cs → ClsL (X.suite a pn) es cs
  | _, _, .nil => .nil
  | _, _, .cons hc r => .cons (X := X.suite a pn) hc r.suite
theorem cls_read {Y : Cx} {pins : List (Addr × Obj)} {σ : St} {H : Hp} {s : Shared} (I : Inv Y pins σ H s) {pos : Pos} {E : Value → Shared → Prop} : ∀ {es : List Expr} {cs : List Value} {Q : List Value → Shared → Prop}, ClsL Y es cs → Q cs s →
    wpAny (model Y.prog Y.w) Y.A (spliced (backTo pos (starEach es Y.env))) Q E s
  | _, _, _, .nil, q => wpAny_items_nil q
  | _, _, Q, .cons (c := c) (es := es) (cs := cs) hc r, q => wpAny_items_cons (by
      have rest : wpAny (model Y.prog Y.w) Y.A (spliced (backTo pos (starEach es Y.env))) (fun vs s2 => Q (c :: vs) s2) E s := cls_read I r q
      obtain ⟨hg, hd, hm | ⟨hm, hv, hn⟩⟩ := hc
      · exact ld_glob I hg hm rest hd
      · exact ld_blt I hg hm hv rest hn hd)
theorem ClsL.len {X : Cx} : ∀ {es : List Expr} {cs : List Value}, ClsL X es cs → cs.length = es.length
  | _, _, .nil => rfl
  | _, _, .cons _ r => by rw [List.length_cons, List.length_cons, r.len]
/-- what is pinned is tracked from now on -/
theorem inv_hold {X : Cx} {pins : List (Addr × Obj)} {σ : St} {H : Hp} {s : Shared} {a : Addr} {oe : Obj} {vs : Array Value} {cls : Value} {d : Option Addr} (I : Inv X ((a, oe) :: pins) σ H s) (hm : ∀ p, p ∈ (a, oe) :: (X.pn ++ pins) → p ∈ X.pn ++ ((a, oe) :: pins)) (z : Zc cls d oe) (hd : oe.data = .fields vs)
    (n0 : X.s_0.heap.get? a = none) (np : ∀ p ∈ X.pn ++ pins, p.1 ≠ a) : Inv X pins σ (upd H a (exh cls d a)) s := by
  obtain ⟨e, n, ne, nf, dc⟩ := I.pin (a, oe) (hm _ (List.mem_cons_self ..))
  have ne : a ≠ X.env.locals := ne
  have n : H a = none := n
  have old : ∀ b o, X.s_0.heap.get? b = some o → b ≠ a := fun b o q z => by
    rw [z, n0] at q
    cases q
  refine ⟨I.ok, I.os, I.bare, ⟨I.base.keep, I.base.slot, fun b o q m hx => ?_, I.base.there, fun b xs q => ?_, fun b o u q => ?_, fun b ps q => ?_⟩, I.loc, I.cell, ?_, fun x c q => ?_, fun p hp => ?_, ?_, I.len⟩
  · rw [upd_ne (old b o q)]
    exact I.base.free b o q m hx
  · have z := I.base.tups b xs q
    rw [upd_ne (ne_of_none z n)]
    exact z
  · have z := I.base.frzs b o u q
    rw [upd_ne (ne_of_none z n)]
    exact z
  · obtain ⟨m, z⟩ := I.base.tbls b ps q
    exact ⟨m, by rw [upd_ne (ne_of_none z n)]; exact z⟩
  · rw [upd_ne ne.symm]
    exact I.free
  · have nc : c ≠ a := fun z => by
      obtain ⟨v, o, q1, q2⟩ := I.cell x c q
      rw [z] at q1
      have e' : s.heap.get? a = some oe := e
      rw [e'] at q1
      cases q1
      rw [hd] at q2
      cases q2
    rw [upd_ne nc]
    exact I.freeC x c q
  · obtain ⟨e1, e2, e3, e4, e5⟩ := I.pin p (hm p (List.mem_cons_of_mem _ hp))
    exact ⟨e1, by rw [upd_ne (np p hp)]; exact e2, e3, e4, e5⟩
  · exact I.hok.laidN (fun _ _ q => q) n (exh_ok e z hd)
/-- what the clause wishes of an exception of the body: it is of one of the classes; behind the suite it stands at a -/
def wKeep (K : PySem.W.Frag) (n : Nat) (cs : List Value) (i : Nat) (ts : Addr → Value → Option Addr → TS) (D : Ends) : WX := fun cls d σ H => σ.length = n → PySem.W.exmAny K cls cs = some true ∧
  ∀ a, H a = none → ts a cls d { nx := fun σ' H' => D.nx (σ'.set i none) (upd H' a (exh cls d a)), rt := fun _ _ => False } (σ.set i (some (.ref a))) H
section
variable {X : Cx} {n : Str} {cs : List Value} {es : List Expr} {kx i : Nat} {body suite : List Stmt} {b0 : Stmt} {tpos pos hpos : Pos} {tb : WX → TS} {ts : Addr → Value → Option Addr → TS}
theorem ps_try_keep (hs : X.stack = X.env :: X.outer) (hf : X.env.frame = some X.env.locals) (hex : X.ex = []) (hN : X.N.Nodup) (hi : X.N[i]? = some n) (hln : X.env.kindOf n = some .local) (hc : ClsL X es cs) (hl : es.length ≤ 1000)
    (hb : ∀ (W : WX) (pn : List (Addr × Obj)) (xe : Value → Shared → Prop), Takes (X.tr pn xe) W → PassesOwn (model X.prog X.w) X.A X.env xe → PSs (X.tr pn xe) body (tb W))
    (hsu : ∀ (a : Addr) (oe : Obj) (cls : Value) (d : Option Addr) (pn : List (Addr × Obj)), Zc cls d oe → (∃ vs, oe.data = .fields vs) → PSs (X.suite a ((a, oe) :: pn)) (b0 :: suite) (ts a cls d)) :
    PS X (.Try body [.ExceptHandler (some (.Tuple es kx tpos)) (some n) (b0 :: suite) hpos] [] [] pos) (fun D σ H => tb (wKeep X.K X.N.length cs i ts D) D σ H) := by
  refine ⟨fun pins s σ H D I h => ?_⟩
  have ok := I.ok
  have hfr : X.A.frames = some (X.env :: X.outer) := by rw [ok.frames, hs]
  have loc : Loc X.env.scope n := .inl hln
  have B0 := hb (wKeep X.K X.N.length cs i ts D) (X.pn ++ pins) (fun e s1 => wpAny (model X.prog X.w) X.A (noteFrame e X.env) (fun _ s2 => wpAny (model X.prog X.w) X.A (setFlight e none) (fun _ s3 =>
    wpAny (model X.prog X.w) X.A (handleBy e X.env [.ExceptHandler (some (.Tuple es kx tpos)) (some n) (b0 :: suite) hpos]) (SP X pins D) X.xe s3) X.xe s2) X.xe s1)
  refine wpAny_Try_except (wpAny_mono ((B0 (fun u s' caught => ?_) PassesOwn.looking).run [] s σ H D (I.toTry _) h) (fun f s1 went => ?_) fun _ _ z => z)
  · obtain ⟨a, B, sI, pins', σ', H', cls, d, rfl, J', nb, up, sky, na, os, ag, hW⟩ := caught
    obtain ⟨hit, hyes⟩ := hW J'.len
    have J : Inv X pins σ' H' sI := J'.ofTry ok
    show wpAny (model X.prog X.w) X.A (noteFrame (.ref a) X.env) _ _ _
    refine Sky.land Zc.steady hfr hf (by rw [← hs]; exact sky) fun h3 fl3 up3 => ?_
    have J3 : Inv X pins σ' H' { s' with heap := h3 } := J.landed nb fl3.1 (up.trans up3) os ag
    obtain ⟨oe3, vs3, he3, hz3, hd3⟩ := fl3.there
    have nfr : a ∉ frs (X.env :: X.outer) := fun hm => by
      obtain ⟨_, o, q, nd⟩ := fl3.2.2.1.mem hm
      rw [he3] at q
      cases q
      exact nd _ hd3
    have nL : a ≠ X.env.locals := fun z => nfr (List.mem_filterMap.mpr ⟨X.env, List.mem_cons_self, by rw [hf, z]⟩)
    have nF : a ∉ X.fs := fun hm => by
      obtain ⟨e, he, q⟩ := List.mem_filterMap.mp hm
      exact nfr (List.mem_filterMap.mpr ⟨e, List.mem_cons_of_mem _ he, q⟩)
    have nI : sI.heap.get? a = none := by
      cases q : sI.heap.get? a with
      | none => rfl
      | some o =>
        have z := nb a o q (by rw [hs]; exact nfr)
        rw [fl3.2.1] at z
        cases z
    have n0 : X.s_0.heap.get? a = none := by
      cases q : X.s_0.heap.get? a with
      | none => rfl
      | some o =>
        obtain ⟨o', z⟩ := J.base.there a o q (by rw [hex]; exact fun z => nomatch z)
        rw [nI] at z
        cases z
    have np : ∀ p ∈ X.pn ++ pins, p.1 ≠ a := fun p hp z => by
      have q := (J.pin p hp).1
      rw [z, nI] at q
      cases q
    have S3 := J3.suite he3 hd3 na nL nF
    refine wpAny_handleBy_cons (codeAny_handlers_test ?_) (by intro q; cases q)
    refine wpAny_Tuple (cls_read S3 hc.suite ⟨by rw [hc.len, sizeLine_eq]; omega, ?_⟩)
    have k5 : ∀ b o, h3.get? b = some o → (h3.push { cls := .type "tuple", data := .seq cs.toArray }).get? b = some o := fun _ _ z => Heap.get?_push_of_some _ z
    have LT : PySem.W.Looks (model X.prog X.w) (h3.push { cls := .type "tuple", data := .seq cs.toArray }) (typeOf (.ref a)) cls := fun A Q E s k q => wpAny_typeOf_ref (k _ _ (k5 _ _ he3)) (by rw [hz3.1]; exact q)
    refine (match_list (M := model X.prog X.w) (J3.kIn.keeps k5) LT (Heap.get?_push_size h3 rfl) hit).here ?_
    refine codeAny_handlers_suite_as ?_
    refine HandSPX.lands_againZ (flies_keeps fl3 k5) fun h4 fl4 up4 => ?_
    have J4 : Inv X pins σ' H' { s' with heap := h4 } := J.landed nb fl4.1 (((up.trans up3).trans (Heap.UpToSlots.of_keeps k5)).trans up4) os ag
    obtain ⟨oe4, vs4, he4, hz4, hd4⟩ := fl4.there
    have S4 := J4.suite he4 hd4 na nL nF
    refine store_ok (X := X.suite a ((a, oe4) :: (X.pn ++ pins))) (v := .ref a) S4 hN hi loc rfl (fun s5 S5 => ?_) (.inr hln)
    refine wpAny_mono ((hsu a oe4 cls d (X.pn ++ pins) hz4 ⟨_, hd4⟩).run [] s5 _ H' _ S5 (hyes a na)) (fun f s6 hsp => ?_) (fun _ _ z => False.elim z)
    cases f with
    | next =>
      obtain ⟨σ6, H6, S6, q6⟩ := hsp
      have K6 : Inv X ((a, oe4) :: pins) σ6 H6 s6 := ⟨ok, S6.os, S6.bare, S6.base, S6.loc, S6.cell, S6.free, S6.freeC, fun p hp => S6.pin p (by
        show p ∈ ((a, oe4) :: (X.pn ++ pins)) ++ []
        rw [List.append_nil]
        rcases List.mem_append.mp hp with z | z
        · exact List.mem_cons_of_mem _ (List.mem_append_left _ z)
        · rcases List.mem_cons.mp z with z | z
          · rw [z]
            exact List.mem_cons_self ..
          · exact List.mem_cons_of_mem _ (List.mem_append_right _ z)), S6.hok, S6.len⟩
      refine gone_ok K6 hN hi hln fun s7 J7 => ⟨_, _, inv_hold J7 (fun p hp => ?_) hz4 hd4 n0 np, q6⟩
      rcases List.mem_cons.mp hp with z | z
      · rw [z]
        exact List.mem_append_right _ (List.mem_cons_self ..)
      · rcases List.mem_append.mp z with z | z
        · exact List.mem_append_left _ z
        · exact List.mem_append_right _ (List.mem_cons_of_mem _ z)
    | brk =>
      obtain ⟨_, _, _, z⟩ := hsp
      exact False.elim z
    | cont =>
      obtain ⟨_, _, _, z⟩ := hsp
      exact False.elim z
    | ret u =>
      obtain ⟨_, _, _, _, _, z⟩ := hsp
      exact False.elim z
  · cases f with
    | next =>
      obtain ⟨σ', H', J', q⟩ := went
      exact wpAny_execs_nil ⟨σ', H', J'.ofTry ok, q⟩
    | brk =>
      obtain ⟨σ', H', J', q⟩ := went
      exact ⟨σ', H', J'.ofTry ok, q⟩
    | cont =>
      obtain ⟨σ', H', J', q⟩ := went
      exact ⟨σ', H', J'.ofTry ok, q⟩
    | ret u =>
      obtain ⟨v, σ', H', J', r, q⟩ := went
      exact ⟨v, σ', H', J'.ofTry ok, r, q⟩
end
/-! ### raise C(..), C with its own __init__ -/
theorem pmk_own2 {X : Cx} {e : Expr} {te : TE} (hx : X.ex = []) (he : PE X e te) :
    PMk X e (fun σ H Q => te σ H fun x H1 => ∃ (a C : Addr) (od : Option Addr), x = .ref a ∧ H1 a = some (exo a C od) ∧ Fr0 X.H_0 a ∧ Raises X (.ref C) ∧ Q (.ref C) od (delH H1 a)) := by
  intro pins s σ H Q I h
  refine wpAny_mono (he.run pins s σ H _ I h) (fun u s1 hu => ?_) fun _ _ x => x
  obtain ⟨v, H1, I1, r1, a, C, od, rfl, ha, h0, hr, q⟩ := hu
  cases r1
  obtain ⟨t1, ho⟩ := exo_at I1.hok ha
  obtain ⟨G, gs, ga, J⟩ := I1.untrack ha h0 hx
  exact ⟨a, _, _, { s1 with heap := G }, delH H1 a, .ref C, od, rfl, J, gs, ga, ho, ⟨rfl, rfl⟩, rfl, rfl, delH_same, rfl, I1.bare, hr, q⟩
/-! ### isinstance of a caught one -/
def rIsC (K : PySem.W.Frag) : List V → Hp → VK → Prop := fun xs H Q => ∃ (a C : Addr) (B newId initId : String) (bm : List Value) (c : V) (u : Value) (b : Bool),
  xs = [.ref a, c] ∧ ClsV c u ∧ OxC K C B newId initId bm ∧ H a = some (exh (.ref C) none a) ∧ PySem.W.kitOne K (.ref C) u = some b ∧ Q (.bl b) H
theorem call_isC {X : Cx} : CallR X (.builtin "isinstance") (rIsC X.K) := by
  intro pins s σ H xs us Q I r h
  obtain ⟨a, C, B, newId, initId, bm, c, u, b, rfl, k, T, ea, e, q⟩ := h
  obtain ⟨u1, u2, rfl, r1, r2⟩ := vals2 r
  have e2 := k.eq r2
  subst e2
  obtain rfl : u1 = Value.ref a := r1
  obtain ⟨oe, vs, ho, hz, hd⟩ := exh_at I.hok ea
  obtain ⟨cd, hcl, _⟩ := T.data
  have some_ : (PySem.W.clsIn X.K C).isSome = true := by rw [hcl]; rfl
  have J : PySem.W.InstAt s.heap a oe C none := ⟨ho, hz.1, by unfold PySem.W.notCls; rw [hd], by rw [hz.2]; exact trivial⟩
  exact PySem.W.kia_one (PySem.W.kitx_exc some_ T.ga T.gg T.exC T.ca T.cn T.ct T.om) I.kIn J e (fun z => nomatch z) fun tk => ⟨.bl b, H, I.tok tk, rfl, q⟩
end EV
end L2

set_option Elab.async false
set_option linter.all false
set_option maxRecDepth 100000
set_option maxHeartbeats 4000000
/-! The nine classes: their __init__, message. -/
namespace K50
open PySem L2 L2.EV
/-! ### the arguments -/
mutual
theorem dp_same {K : PySem.W.Frag} {H H' : Hp} (s : Same H H') : ∀ (d : PyData) (v : V), Dp K H v d → Dp K H' v d
  | .none, _, h => by cases h; exact .non
  | .bool b, _, h => by cases h; exact .bl b
  | .int i, _, h => by cases h; exact .int i
  | .str x, _, h => by cases h; exact .str x
  | .list ds, _, h => by
    cases h with
    | lst hs ha => exact .lst (s.seq hs) (dpall_same s ds _ ha)
  | .tuple ds, _, h => by
    cases h with
    | tup hs ha =>
      refine .tup ?_ (dpall_same s ds _ ha)
      rcases hs with (q | ⟨o, q⟩) | q
      · exact .inl (.inl (s _ _ q))
      · exact .inl (.inr ⟨o, s _ _ q⟩)
      · exact .inr q
  | .dict _, _, h => by cases h
theorem dpall_same {K : PySem.W.Frag} {H H' : Hp} (s : Same H H') : ∀ (ds : List PyData) (vs : List V), DpAll K H vs ds → DpAll K H' vs ds
  | [], _, h => by cases h; exact .nil
  | d :: ds, _, h => by
    cases h with
    | cons h1 h2 => exact .cons (dp_same s d _ h1) (dpall_same s ds _ h2)
end
/-- what may be handed to an error, and the data that it is -/
inductive Arg (K : PySem.W.Frag) (H : Hp) : V → PyData → Prop
  | non : Arg K H .non .none
  | bl (b : Bool) : Arg K H (.bl b) (.bool b)
  | int (i : Int) : Arg K H (.int i) (.int i)
  | str (x : Str) : Arg K H (.str x) (.str x)
  | lst {a : Addr} {xs : List V} {ds : List PyData} : H a = some (.lst xs) → DpAll K H xs ds → PyData.hasDict (.list ds) = false → Arg K H (.ref a) (.list ds)
  | tup {a : Addr} {xs : List V} {ds : List PyData} : H a = some (.tup xs) → DpAll K H xs ds → PyData.hasDict (.tuple ds) = false → Arg K H (.ref a) (.tuple ds)
  | dct {a : Addr} : H a = some (.dK [(Sum.inr "a", V.int 1)]) → Arg K H (.ref a) (.dict [(.str "a", .int 1)])
theorem Arg.same {K : PySem.W.Frag} {H H' : Hp} {v : V} {d : PyData} (h : Arg K H v d) (s : Same H H') : Arg K H' v d := by
  cases h with
  | non => exact .non
  | bl b => exact .bl b
  | int i => exact .int i
  | str x => exact .str x
  | lst e ha no => exact .lst (s _ _ e) (dpall_same s _ _ ha) no
  | tup e ha no => exact .tup (s _ _ e) (dpall_same s _ _ ha) no
  | dct e => exact .dct (s _ _ e)
theorem Arg.ty {K : PySem.W.Frag} {H : Hp} {v : V} {d : PyData} (h : Arg K H v d) : ∃ (t : Value) (b : Bool), TyX K H v t ∧ PySem.W.kitOne K t (.type "str") = some b := by
  cases h with
  | non => exact ⟨_, _, .base .non, kit_ty (r := false) (by decide +kernel)⟩
  | bl b => exact ⟨_, _, .base (.bl b), kit_ty (r := false) (by decide +kernel)⟩
  | int i => exact ⟨_, _, .base (.int i), kit_ty (r := false) (by decide +kernel)⟩
  | str x => exact ⟨_, _, .base (.str x), kit_ty (r := true) (by decide +kernel)⟩
  | lst e _ _ => exact ⟨_, _, .base (.lst e), kit_ty (r := false) (by decide +kernel)⟩
  | tup e _ _ => exact ⟨_, _, .base (.tup e), kit_ty (r := false) (by decide +kernel)⟩
  | dct e => exact ⟨_, _, .base (.dK e), kit_ty (r := false) (by decide +kernel)⟩
theorem Arg.sh {K : PySem.W.Frag} {H : Hp} {v : V} {d : PyData} (h : Arg K H v d) : Sh K H v d := by
  cases h with
  | non => exact .plain .non rfl
  | bl b => exact .plain (.bl b) rfl
  | int i => exact .plain (.int i) rfl
  | str x => exact .plain (.str x) rfl
  | lst e ha no => exact .plain (.lst (SqL.of e) ha) no
  | tup e ha no => exact .plain (.tup (SqT.of e) ha) no
  | dct e => exact .one e
/-! ### promises -/
def spOne (C : Addr) (f : Str) : Sp := fun vs H Q _ => ∃ (a : Addr) (x : V), vs = [.ref a, x] ∧ H a = some (exo a C none) ∧
  ∀ dx, H dx = none → dx ≠ a → Q .non (upd (upd H dx (exd dx [(f, x)])) a (exo a C (some dx)))
def spTwo (C : Addr) (f g : Str) : Sp := fun vs H Q _ => ∃ (a : Addr) (x y : V), vs = [.ref a, x, y] ∧ H a = some (exo a C none) ∧
  ∀ dx, H dx = none → dx ≠ a → Q .non (upd (upd (upd H dx (exd dx [(f, x)])) a (exo a C (some dx))) dx (exd dx [(g, y), (f, x)]))
def spNo (K : PySem.W.Frag) (C : Addr) : Sp := fun vs H Q _ => ∃ (a : Addr) (x : V) (d : PyData), vs = [.ref a, x] ∧ H a = some (exo a C none) ∧ Arg K H x d ∧ Q .non H
def spMsg (K : PySem.W.Frag) : Sp := fun vs H Q _ => ∃ (x : V) (d : PyData), vs = [x] ∧ Arg K H x d ∧ ∀ v, Q v H
/-- what is asked of a built-in base, for B.__init__(self, ..) -/
structure BI (K : PySem.W.Frag) (mg : Str → Option Value) (nB : Str) (B initId : String) : Prop where
  mg : mg nB = none
  bt : bootBuiltins nB = some (.type B)
  ty : typeOf (.type B) = pure (.type "type")
  vV : PySem.W.findCls K (.type B) (.type "type") "__init__" = some (.val (.builtin initId))
  st : Manifest.isStub B = false
abbrev sMsg : Stmt := top 2
structure TxtM (mg : Str → Option Value) : Prop where
  isi : mg "isinstance" = none
  str : mg "str" = none
section
variable {P : Program} {w : World} {K : PySem.W.Frag} {mg : Str → Option Value} {base : Heap}
theorem scM : FnScope ["text"] ["text"] (defScope sMsg) := ⟨rfl, rfl, rfl, by decide +kernel, rfl, by decide +kernel, by decide +kernel⟩
theorem ok_msg {f : Addr} {fd : FuncData} (F : Fun K "message" "message" sMsg f fd) (T : TxtM mg) : FnOk P w K mg base CX0 1 f fd ["text"] (spMsg K) := by
  refine F.ok scM (fun vs H Q E h => ?_) (fun cdv A outer s H vs Q E hr h => ?_)
  · obtain ⟨x, d, rfl, _⟩ := h
    rfl
  · obtain ⟨x, d, rfl, ar, q⟩ := h
    refine ⟨_, pss_cons (ps_if (pt_val (pe_callB call_isi (by rfl) T.isi PyProof.Rows.boot_isinstance (pa_cons (pv 0) (pa_cons (pe_bltn (v := .ty "str") (by rfl) T.str (by decide +kernel) rfl) pa_nil)))) (pss_one (ps_ret (pv 0))) pss_nil) (pss_one (ps_ret pe_str)), ?_⟩
    obtain ⟨t, b, ty, kt⟩ := ar.ty
    refine ⟨_, rfl, x, .ty "str", t, .type "str", b, rfl, .ty "str", ty, kt, b, rfl, ?_⟩
    cases b with
    | true => exact iteT ⟨_, rfl, q _⟩
    | false => exact iteF (q _)
abbrev sOutOfPlace : Stmt := inClass (top 5) 0
theorem scOutOfPlace : FnScope ["self", "text"] ["self", "text"] (defScope sOutOfPlace) := ⟨rfl, rfl, rfl, by decide +kernel, rfl, by decide +kernel, by decide +kernel⟩
theorem ok_OutOfPlace {f C fM : Addr} {fd fdM : FuncData} (F : Fun K "__init__" "OutOfPlace.__init__" sOutOfPlace f fd) (T : OxC K C "ValueError" "ValueError.__new__" "ValueError.__init__" [.type "ValueError", .type "Exception", .type "BaseException", .type "object"]) (I : BI K mg "ValueError" "ValueError" "ValueError.__init__")
    (FM : Fun K "message" "message" sMsg fM fdM) (bM : Binds K fdM ["text"] []) (mM : mg "message" = some (.ref fM)) (TM : TxtM mg) : FnOk P w K mg base CX0 2 f fd ["self", "text"] (spNo K C) := by
  have GM : FnOk P w K mg base CX0 1 fM fdM ["text"] (spMsg K) := ok_msg FM TM
  refine F.ok scOutOfPlace (fun vs H Q E h => ?_) (fun cdv A outer s H vs Q E hr h => ?_)
  · obtain ⟨a, x, d, rfl, _⟩ := h
    rfl
  · obtain ⟨a, x, d, rfl, e, ar, q⟩ := h
    refine ⟨_, pss_one (ps_expr (pe_bin (newId := "ValueError.__new__") (bm := [.type "ValueError", .type "Exception", .type "BaseException", .type "object"]) (by rfl) I.mg I.bt I.ty I.vV I.st (pa_cons (pv 0) (pa_cons (pe_call GM hr rfl mM FM.kp bM .nil pass0 (pa_cons (pv 1) pa_nil)) pa_nil)) rfl)), ?_⟩
    exact ⟨_, rfl, _, rfl, x, d, rfl, ar, fun v => ⟨a, C, _, rfl, by show 1 ≤ 1000; decide, T, e, q⟩⟩
end
end K50

set_option Elab.async false
set_option linter.all false
set_option maxRecDepth 100000
set_option maxHeartbeats 4000000
/-! t[::-1] of a tuple. -/
namespace L2
namespace EV
open PySem PySem.Spec PyProof.Rows _root_.EV PySem.Builtin
theorem rev_adjust (n : Nat) : Slice.sliceAdjust none none (-1) (n : Int) = ((n : Int) - 1, -1) := by
  unfold Slice.sliceAdjust
  simp
theorem rev_places (n : Nat) : Slice.slicePlaces ((n : Int) - 1) (-1) (-1) = n := by
  unfold Slice.slicePlaces
  rw [if_neg (by decide)]
  by_cases h : 0 < n
  · rw [if_pos (by omega)]
    simp only [Int.neg_neg, Int.ediv_one]
    omega
  · rw [if_neg (by omega)]
    omega
theorem fm_congr {α β : Type} {f g : α → Option β} : ∀ {l : List α}, (∀ x ∈ l, f x = g x) → l.filterMap f = l.filterMap g
  | [], _ => rfl
  | x :: l, h => by
    rw [List.filterMap_cons, List.filterMap_cons, h x (List.mem_cons_self ..), fm_congr fun y hy => h y (List.mem_cons_of_mem _ hy)]
theorem rev_pick (xs : Array Value) : ((List.range xs.size).filterMap fun (k : Nat) => xs[((xs.size : Int) - 1 + (k : Int) * -1).toNat]?) = xs.toList.reverse := by
  have e : ∀ k ∈ List.range xs.size, xs[((xs.size : Int) - 1 + (k : Int) * -1).toNat]? = xs.toList.reverse[k]? := fun k hk => by
    have hk := List.mem_range.mp hk
    have z : ((xs.size : Int) - 1 + (k : Int) * -1).toNat = xs.size - 1 - k := by omega
    rw [z, List.getElem?_reverse (by simpa using hk)]
    simp
  rw [fm_congr e]
  have g : ∀ l : List Value, (List.range l.length).filterMap (fun k => l[k]?) = l := fun l => by
    have z := PySem.W.krv_all l.toArray
    simpa using z
  have z := g xs.toList.reverse
  simpa using z
section
variable {prog : Program} {w : World} {A : Around} {E : Value → Shared → Prop} {s : Shared}
theorem rev_applied {sl : Addr} {vk : Value} {n : Nat} {Q : Int × Int × Nat → Shared → Prop} (hs : s.heap.IsSliceOf sl .none .none vk) (pk : IsPart vk (some (-1))) (h : Q ((n : Int) - 1, -1, n) s) :
    wpAny (model prog w) A (Slice.sliceApplied (.ref sl) (pure (n : Int))) Q E s := by
  obtain ⟨os, hos, _, hds⟩ := id hs
  unfold Slice.sliceApplied Slice.sliceFields
  refine wpAny_bind (wpAny_bind (wpAny_field hos hds (x := .none) rfl (wpAny_bind (wpAny_field hos hds (x := .none) rfl (wpAny_bind (wpAny_field hos hds (x := vk) rfl (wpAny_pure ?_)))))))
  refine wpAny_bind (HT.slicePart_ pk ?_)
  show wpAny _ _ (if ((-1 : Int) == 0) = true then _ else _) _ _ s
  rw [if_neg (by decide)]
  refine wpAny_bind (slicePart_none (wpAny_bind (slicePart_none (wpAny_bind (wpAny_pure ?_)))))
  show wpAny _ _ (match Slice.sliceAdjust none none (-1) (n : Int) with | (lo, hi) => pure (lo, (-1 : Int), Slice.slicePlaces lo hi (-1))) _ _ s
  rw [rev_adjust]
  show wpAny _ _ (pure ((n : Int) - 1, (-1 : Int), Slice.slicePlaces ((n : Int) - 1) (-1) (-1))) _ _ s
  rw [rev_places]
  exact wpAny_pure h
theorem rev_item {t sl : Addr} {items : Array Value} {vk : Value} {Q : Value → Shared → Prop} (ht : IsTup s.heap t items) (hs : s.heap.IsSliceOf sl .none .none vk) (pk : IsPart vk (some (-1))) (hz : items.size ≤ sizeLine)
    (h : Q (.ref s.heap.objs.size) { s with heap := s.heap.push { cls := .type "tuple", data := .seq items.toList.reverse.toArray } }) : wpAny (model prog w) A (getItem (.ref t) (.ref sl)) Q E s := by
  have ok : sizeOk (.seq items.toList.reverse.toArray) := by
    show items.toList.reverse.toArray.size ≤ sizeLine
    rw [List.size_toArray, List.length_reverse, Array.length_toList]
    exact hz
  obtain ⟨os, hos, hcs, _⟩ := id hs
  have hTs : s.TypeIs (.ref sl) "slice" := ⟨os, hos, hcs⟩
  unfold getItem
  try with_reducible refine wpAny_holding ?_
  first | refine wpAny_bind (wpAny_pure ?_) | skip
  refine wpAny_bind (wpAny_sequenceKey ht.typeIs (by decide) ?_)
  refine wpAny_bind (wpAny_callSpecial?_slot (name := Str.ofString "__getitem__") ht.typeIs PyProof.Rows.slot_tuple_getitem (wpAny_call_entry PyProof.Rows.slot_tuple_getitem ht.typeIs entry_tuple_getitem ?_ (args_tuple_getitem _ _)))
  show wpAny _ _ (Tuple.tupleItemsOf (.ref t) >>= _) _ _ s
  refine wpAny_bind (tupleItemsOf_ ht (wpAny_bind (wpAny_typeOf hTs ?_)))
  rw [if_pos (by decide)]
  refine wpAny_bind (rev_applied hs pk ?_)
  show wpAny _ _ (if ((((items.size : Nat) : Int) - 1) == 0 && (-1 : Int) == 1 && items.size == items.size) = true then _ else _) _ _ s
  rw [if_neg (by simp), rev_pick]
  first
    | exact wpAny_bind (m := Tuple.tupleExact _) (wpAny_newObj_type (wpAny_pure ⟨_, rfl, wpAny_pure h⟩) ok)
    | exact wpAny_bind (m := Tuple.tupleExact _) (wpAny_newObj_type (wpAny_bind (wpAny_pure (wpAny_pure ⟨_, rfl, wpAny_pure h⟩))) ok)
    | exact wpAny_bind (wpAny_bind (m := Tuple.tupleExact _) (wpAny_newObj_type (wpAny_pure (wpAny_pure ⟨_, rfl, wpAny_pure h⟩)) ok))
    | exact wpAny_bind (wpAny_bind (m := Tuple.tupleExact _) (wpAny_newObj_type (wpAny_pure ⟨_, rfl, wpAny_pure h⟩) ok))
end
def tRevT (K : PySem.W.Frag) (te tk : TE) : TE := fun σ H Q => te σ H fun x H1 => tPart tk σ H1 fun o H2 => o = some (-1) ∧ ∃ a xs, x = .ref a ∧ H2 a = some (.tup xs) ∧ ∀ p, H2 p = none → Q (.ref p) (upd H2 p (.tup xs.reverse))
theorem vals_revs : ∀ {zs : List V} {ws : List Value}, Vals zs ws → Vals zs.reverse ws.reverse
  | _, _, .nil => .nil
  | _, _, .cons r t => by
    rw [List.reverse_cons, List.reverse_cons]
    exact (vals_revs t).append (.cons r .nil)
section
variable {X : Cx} {e k : Expr} {te tk : TE} {pos p2 : Pos}
theorem pe_revT {ops : Value → Value → List Value} (he : PE X e te) (hk : PE X k tk) (hs : ∀ o i : Value, subscripted (.Slice none none (some k) p2) false o i = operate (ops o i) (getItem o i)) : PE X (.Subscript e (.Slice none none (some k) p2) pos) (tRevT X.K te tk) := by
  refine ⟨fun pins s σ H Q I h => ?_⟩
  refine Subscript_ (thn (he.run pins s σ H _ I h) fun v s1 ⟨x, H1, I1, r1, q1⟩ => ?_)
  refine wpAny_Slice (thn (po_none.run pins s1 σ H1 (fun o H' => o = none ∧ H' = H1) I1 ⟨rfl, rfl⟩) fun vl s2 ⟨l, H2, I2, pl, q2⟩ => thn (po_none.run pins s2 σ H2 (fun o H' => o = none ∧ H' = H2) I2 ⟨rfl, rfl⟩) fun vu s3 ⟨u, H3, I3, pu, q3⟩ => ?_)
  obtain ⟨rfl, rfl⟩ := q2
  obtain ⟨rfl, rfl⟩ := q3
  cases pl
  cases pu
  refine thn ((po_some hk).run pins s3 σ _ _ I3 q1) fun vk s4 ⟨o, H4, I4, pk, ho, a, xs, ex, ea, q4⟩ => ?_
  subst ex ho
  obtain rfl : v = Value.ref a := r1
  have I5 : Inv X pins σ H4 { s4 with heap := s4.heap.push { cls := .type "slice", data := .fields #[.none, .none, vk] } } := I4.kept (t' := s4.toks) fun b ob q => Heap.get?_push_of_some _ q
  obtain ⟨its, r, ht, hz⟩ := I5.tuple (SqT.of ea)
  have hg := rev_item (prog := X.prog) (w := X.w) (A := X.A) (E := X.xe) (Q := EP X pins σ Q) (s := { s4 with heap := s4.heap.push { cls := .type "slice", data := .fields #[.none, .none, vk] } }) ht (Heap.IsSliceOf.new ..) pk (by rw [List.size_toArray, ← r.length]; exact hz) ?_
  · exact tail_any ht.typeIs PyProof.Rows.slot_tuple_getitem.lookup hg (hs _ _)
  · rw [List.toList_toArray]
    have fr : H4 (s4.heap.push { cls := .type "slice", data := .fields #[.none, .none, vk] }).objs.size = none := I5.hok.fresh (Nat.le_refl _)
    refine ⟨.ref (s4.heap.push { cls := .type "slice", data := .fields #[.none, .none, vk] }).objs.size, _, I5.laid (t' := s4.toks) (a := (s4.heap.push { cls := .type "slice", data := .fields #[.none, .none, vk] }).objs.size) (o := .tup xs.reverse)
      (h' := (s4.heap.push { cls := .type "slice", data := .fields #[.none, .none, vk] }).push { cls := .type "tuple", data := .seq its.reverse.toArray }) (fun b o q => Heap.get?_push_of_some _ q) (Nat.le_refl _) ?_, rfl, q4 _ fr⟩
    exact ⟨by rw [List.length_reverse]; exact hz, its.reverse, vals_revs r, ⟨_, Heap.get?_push_size _ rfl, rfl, 0, rfl⟩⟩
end
end EV
end L2

set_option Elab.async false
set_option linter.all false
set_option maxRecDepth 100000
set_option maxHeartbeats 4000000
/-! repr of data, of any size. -/
namespace L2
namespace EV
open PySem PySem.Spec PyProof.Rows _root_.EV
/-- repr of data -/
def rShowV (K : PySem.W.Frag) : List V → Hp → VK → Prop := fun xs H Q => ∃ (v : V) (d : PyData), xs = [v] ∧ Dp K H v d ∧ d.showable = true ∧ d.hasDict = false ∧ d.shown.length ≤ sizeLine ∧ d.depth ≤ 5 ∧ Q (.str d.shown) H
theorem call_showV {X : Cx} (hgd : X.A.guards = some []) (hu : X.A.units + 64 < cLine) : CallR X (.builtin "repr") (rShowV X.K) := by
  intro pins s σ H xs us Q I r h
  obtain ⟨v, d, rfl, hd, sh, nd, sz, dp, q⟩ := h
  obtain ⟨u, rfl, ru⟩ := vals1 r
  obtain ⟨as, rd⟩ := Dp.reads I d v u hd ru
  have at_ : ∀ a : Addr, u = .ref a → wpAny (model X.prog X.w) X.A (call (.builtin "repr") [u]) (EP X pins σ Q) X.xe s := fun a e => by
    subst e
    exact repr_of_reads' rd sh (fun z => by rw [nd] at z; cases z) hgd (by omega) (fun _ _ e => e) (fun h' t tk hk => ⟨.str _, H, I.kept (t' := tk) hk, ⟨_, rfl⟩, q⟩) sz
  cases hd with
  | non =>
    obtain rfl : u = Value.none := ru
    simp only [PyData.shown] at q
    exact PySem.P.repr_of_none ⟨.str _, H, I.tok _, ⟨_, rfl⟩, q⟩
  | bl b =>
    obtain rfl : u = Value.bool b := ru
    simp only [PyData.shown] at q
    exact PySem.P.repr_of_bool ⟨.str _, H, I.tok _, ⟨_, rfl⟩, q⟩
  | int i =>
    obtain ⟨t, rfl⟩ := (show ∃ t, u = Value.int i t from ru)
    simp only [PyData.shown] at q
    simp only [PyData.showable, decide_eq_true_eq] at sh
    exact PySem.P.repr_of_int sh ⟨.str _, H, I.tok _, ⟨_, rfl⟩, q⟩
  | str x =>
    obtain ⟨t, rfl⟩ := (show ∃ t, u = Value.str x t from ru)
    simp only [PyData.shown] at q sz
    exact PySem.P.repr_of_str ⟨.str _, H, I.tok _, ⟨_, rfl⟩, q⟩ sz
  | @lst a xs ds h1 h2 => exact at_ a ru
  | @tup a xs ds h1 h2 => exact at_ a ru
end EV
end L2
namespace K50
open PySem L2 L2.EV
structure Okd (d : PyData) (n dp : Nat) : Prop where
  sh : d.showable = true
  nd : d.hasDict = false
  sz : d.shown.length ≤ n
  dp : d.depth ≤ dp
  lay : d.canLay0 = true
theorem Okd.le {d : PyData} {n m dp dq : Nat} (h : Okd d n dp) (a : n ≤ m) (b : dp ≤ dq) : Okd d m dq := ⟨h.sh, h.nd, Nat.le_trans h.sz a, Nat.le_trans h.dp b, h.lay⟩
theorem okd_int {i : Int} (h0 : 0 ≤ i) (h1 : i < 64) : Okd (.int i) 10 0 := by
  obtain ⟨k, rfl⟩ := Int.eq_ofNat_of_zero_le h0
  have hk : k < 64 := by omega
  have z : ∀ k : Fin 64, (PyData.int ((k.val : Nat) : Int)).showable = true ∧ (PyData.int ((k.val : Nat) : Int)).shown.length ≤ 10 := by decide +kernel
  obtain ⟨z1, z2⟩ := z ⟨k, hk⟩
  exact ⟨z1, by simp only [PyData.hasDict], z2, by simp only [PyData.depth]; omega, by simp only [PyData.canLay0]⟩
theorem okd_str {x : Str} {m : Nat} (hs : PyData.strOk x = true) (hl : x.length ≤ m) : Okd (.str x) (10 * m + 2) 0 := by
  refine ⟨by simp only [PyData.showable], by simp only [PyData.hasDict], ?_, by simp only [PyData.depth]; omega, by simp only [PyData.canLay0]; exact hs⟩
  simp only [PyData.shown]
  have z := PySem.StrLaws.reprText_len x (fun c hc => by
    unfold PyData.strOk at hs
    rw [← Array.all_toList, List.all_eq_true] at hs
    have := of_decide_eq_true (hs c hc)
    exact Nat.lt_trans this (by decide))
  omega
theorem okd_all {n dp : Nat} : ∀ {ds : List PyData}, (∀ d ∈ ds, Okd d n dp) → PyData.showableAll ds = true ∧ PyData.hasDictAll ds = false ∧ ((PyData.shownAll ds).map (·.length)).sum ≤ n * ds.length ∧ (PyData.shownAll ds).length = ds.length ∧ PyData.depthAll ds ≤ dp ∧ PyData.canLayAll0 ds = true
  | [], _ => ⟨by simp [PyData.showableAll], by simp [PyData.hasDictAll], by simp [PyData.shownAll], by simp [PyData.shownAll], by simp [PyData.depthAll], by simp [PyData.canLayAll0]⟩
  | d :: ds, h => by
    have h1 := h d (List.mem_cons_self ..)
    obtain ⟨a, b, c, e, f, g⟩ := okd_all (ds := ds) fun d hd => h d (List.mem_cons_of_mem _ hd)
    have h2 := h1.sz
    have h3 := h1.dp
    refine ⟨by simp only [PyData.showableAll, h1.sh, a, Bool.and_self], by simp only [PyData.hasDictAll, h1.nd, b, Bool.or_self], ?_, by simp only [PyData.shownAll, List.length_cons, e], by simp only [PyData.depthAll]; omega, by simp only [PyData.canLayAll0, h1.lay, g, Bool.and_self]⟩
    simp only [PyData.shownAll, List.map_cons, List.sum_cons, List.length_cons, Nat.mul_add, Nat.mul_one]
    omega
theorem okd_list {n dp m : Nat} {ds : List PyData} (h : ∀ d ∈ ds, Okd d n dp) (hl : ds.length ≤ m) : Okd (.list ds) (m * (n + 2) + 3) (dp + 1) := by
  obtain ⟨a, b, c, e, f, g⟩ := okd_all h
  refine ⟨by simp only [PyData.showable, a], by simp only [PyData.hasDict, b], ?_, by simp only [PyData.depth]; omega, by simp only [PyData.canLay0, g]⟩
  simp only [PyData.shown]
  have z := listText_len_le (PyData.shownAll ds)
  rw [e] at z
  have y : n * ds.length ≤ n * m := Nat.mul_le_mul_left _ hl
  rw [Nat.mul_add, Nat.mul_comm m n]
  omega
theorem okd_tuple {n dp m : Nat} {ds : List PyData} (h : ∀ d ∈ ds, Okd d n dp) (hl : ds.length ≤ m) : Okd (.tuple ds) (m * (n + 2) + 3) (dp + 1) := by
  obtain ⟨a, b, c, e, f, g⟩ := okd_all h
  refine ⟨by simp only [PyData.showable, a], by simp only [PyData.hasDict, b], ?_, by simp only [PyData.depth]; omega, by simp only [PyData.canLay0, g]⟩
  simp only [PyData.shown]
  have z := tupleText_len_le (PyData.shownAll ds)
  rw [e] at z
  have y : n * ds.length ≤ n * m := Nat.mul_le_mul_left _ hl
  rw [Nat.mul_add, Nat.mul_comm m n]
  omega
end K50

set_option Elab.async false
set_option linter.all false
set_option maxRecDepth 100000
set_option maxHeartbeats 4000000
/-! Pairs of an int and a text: <, <=. Raising an own exception whose __init__ has put fields. -/
namespace L2
open PySem PySem.Spec PyProof.Rows
abbrev IS : Type := Int × Str
def ltIS (a b : IS) : Bool := if a.1 = b.1 then decide (sl a.2 < sl b.2) else decide (a.1 < b.1)
def tIS (a : IS) : HO := .tup [.int a.1, .str a.2]
def rLtIS : R2 := fun x y H Q => ∃ (a b : Addr) (m n : IS), x = .ref a ∧ y = .ref b ∧ H a = some (tIS m) ∧ H b = some (tIS n) ∧ Q (.bl (ltIS m n)) H
def rLeIS : R2 := fun x y H Q => ∃ (a b : Addr) (m n : IS), x = .ref a ∧ y = .ref b ∧ H a = some (tIS m) ∧ H b = some (tIS n) ∧ Q (.bl (!ltIS n m)) H
theorem lexP_lt (m n : IS) : Ob.lexAt (fun j => if j = 0 then m.1 == n.1 else m.2 == n.2) (fun j => if j = 0 then decide (m.1 < n.1) else decide (sl m.2 < sl n.2)) false 0 2 = ltIS m n := by
  obtain ⟨m1, m2⟩ := m
  obtain ⟨n1, n2⟩ := n
  simp only [Ob.lexAt, ltIS]
  by_cases e1 : m1 = n1
  · subst e1
    by_cases e2 : m2 = n2
    · subst e2
      have z : ¬ sl m2 < sl m2 := List.lt_irrefl _
      simp
    · simp [e2]
  · simp [e1]
theorem lexP_le (m n : IS) : Ob.lexAt (fun j => if j = 0 then m.1 == n.1 else m.2 == n.2) (fun j => if j = 0 then decide (m.1 ≤ n.1) else decide (sl m.2 ≤ sl n.2)) true 0 2 = !ltIS n m := by
  obtain ⟨m1, m2⟩ := m
  obtain ⟨n1, n2⟩ := n
  simp only [Ob.lexAt, ltIS]
  by_cases e1 : m1 = n1
  · subst e1
    by_cases e2 : m2 = n2
    · subst e2
      have z : ¬ sl m2 < sl m2 := List.lt_irrefl _
      simp
    · have e2' : ¬ n2 = m2 := fun z => e2 z.symm
      simp only [beq_self_eq_true, if_true, Nat.zero_add, Nat.one_ne_zero, if_false, beq_iff_eq, e2]
      by_cases z : sl m2 ≤ sl n2
      · rw [decide_eq_true z, decide_eq_false (List.not_lt.mpr z)]
        rfl
      · rw [decide_eq_false z, decide_eq_true (List.not_le.mp z)]
        rfl
  · have e1' : ¬ n1 = m1 := fun z => e1 z.symm
    simp only [if_true, beq_iff_eq, e1, e1', if_false]
    by_cases z : m1 ≤ n1
    · rw [decide_eq_true z, decide_eq_false (by omega)]
      rfl
    · rw [decide_eq_false z, decide_eq_true (by omega)]
      rfl
theorem lt_strR {A : Around} {s : Shared} (a b : Str) (t u : Tok) : Ob.RcOp .Lt A s (.str a t) (.str b u) (decide (sl a < sl b)) := fun _ _ _ _ h => PyProof.Rows.lt_str h
section
variable {X : Cx}
theorem vals_2 {x y : V} {us : List Value} (r : Vals [x, y] us) : ∃ u w', us = [u, w'] ∧ RelV x u ∧ RelV y w' := by
  cases r with
  | cons r1 r =>
    cases r with
    | cons r2 r =>
      cases r
      exact ⟨_, _, rfl, r1, r2⟩
theorem op_ltIS (hu : X.A.units < cLine) : OpR X (compareOp .Lt) rLtIS := by
  intro pins s σ H x y v u Q I rx ry h
  obtain ⟨a, b, m, n, rfl, rfl, ha, hb, q⟩ := h
  cases rx
  cases ry
  obtain ⟨its, r1, p1, _⟩ := I.tuple (SqT.of ha)
  obtain ⟨its2, r2, p2, _⟩ := I.tuple (SqT.of hb)
  obtain ⟨u1, u2, rfl, ⟨t1, rfl⟩, ⟨t2, rfl⟩⟩ := vals_2 r1
  obtain ⟨v1, v2, rfl, ⟨w1, rfl⟩, ⟨w2, rfl⟩⟩ := vals_2 r2
  have R := Ob.RcOp.tuples_lt (A := X.A) (s := s) (e := fun j => if j = 0 then m.1 == n.1 else m.2 == n.2) (r := fun j => if j = 0 then decide (m.1 < n.1) else decide (sl m.2 < sl n.2)) p1 p2 hu
    (fun j h1 h2 => by
      match j, h1 with
      | 0, _ => exact SeqAt.EqAt.int_int _ _ _ _
      | 1, _ => exact SeqAt.EqAt.str_str _ _ _ _)
    (fun j h1 h2 _ => by
      match j, h1 with
      | 0, _ => exact Ob.RcOp.lt_int _ _ _ _
      | 1, _ => exact lt_strR _ _ _ _)
  have e3 : Ob.lexAt (fun j => if j = 0 then m.1 == n.1 else m.2 == n.2) (fun j => if j = 0 then decide (m.1 < n.1) else decide (sl m.2 < sl n.2)) (decide (2 < 2)) 0 (min 2 2) = ltIS m n := lexP_lt m n
  have z : wpAny (model X.prog X.w) X.A (compareOp .Lt (.ref a) (.ref b)) (EP X pins σ Q) X.xe s := R X.prog X.w X.xe (EP X pins σ Q) ⟨.bl _, H, I, rfl, by
    rw [← e3] at q
    exact q⟩
  exact z
theorem op_leIS (hu : X.A.units < cLine) : OpR X (compareOp .LtE) rLeIS := by
  intro pins s σ H x y v u Q I rx ry h
  obtain ⟨a, b, m, n, rfl, rfl, ha, hb, q⟩ := h
  cases rx
  cases ry
  obtain ⟨its, r1, p1, _⟩ := I.tuple (SqT.of ha)
  obtain ⟨its2, r2, p2, _⟩ := I.tuple (SqT.of hb)
  obtain ⟨u1, u2, rfl, ⟨t1, rfl⟩, ⟨t2, rfl⟩⟩ := vals_2 r1
  obtain ⟨v1, v2, rfl, ⟨w1, rfl⟩, ⟨w2, rfl⟩⟩ := vals_2 r2
  have R := Ob.RcOp.tuples_le (A := X.A) (s := s) (e := fun j => if j = 0 then m.1 == n.1 else m.2 == n.2) (r := fun j => if j = 0 then decide (m.1 ≤ n.1) else decide (sl m.2 ≤ sl n.2)) p1 p2 hu
    (fun j h1 h2 => by
      match j, h1 with
      | 0, _ => exact SeqAt.EqAt.int_int _ _ _ _
      | 1, _ => exact SeqAt.EqAt.str_str _ _ _ _)
    (fun j h1 h2 _ => by
      match j, h1 with
      | 0, _ => exact Ob.RcOp.le_int _ _ _ _
      | 1, _ => exact RcOp.le_str _ _ _ _)
  have e3 : Ob.lexAt (fun j => if j = 0 then m.1 == n.1 else m.2 == n.2) (fun j => if j = 0 then decide (m.1 ≤ n.1) else decide (sl m.2 ≤ sl n.2)) (decide (2 ≤ 2)) 0 (min 2 2) = !ltIS n m := lexP_le m n
  have z : wpAny (model X.prog X.w) X.A (compareOp .LtE (.ref a) (.ref b)) (EP X pins σ Q) X.xe s := R X.prog X.w X.xe (EP X pins σ Q) ⟨.bl _, H, I, rfl, by
    rw [← e3] at q
    exact q⟩
  exact z
end
namespace EV
/-- an exception's fields, told as those of one that flies -/
theorem exd_told {X : Cx} {pins : List (Addr × Obj)} {σ : L2.St} {H : Hp} {s : Shared} {d : Addr} {fs : List (Str × V)} (I : Inv X pins σ H s) (e : H d = some (exd d fs)) : Inv X pins σ (upd H d (.xd fs)) s := by
  obtain ⟨mA, hns, rel⟩ := exd_at I.hok e
  obtain ⟨od, ho, _⟩ := lookIn_ns hns
  exact I.write (h' := s.heap) (t' := s.toks) (x := d) (e := d) (o := .xd fs) (by rw [e]; exact True.intro) (.inl rfl) (fun b u _ q => q) (by
    obtain ⟨o, es, ep, e1, _⟩ := hns
    exact ⟨_, e1⟩) ⟨mA, hns, rel⟩
theorem pmk_own3 {X : Cx} {e : Expr} {te : TE} (hx : X.ex = []) (he : PE X e te) :
    PMk X e (fun σ H Q => te σ H fun x H1 => ∃ (a C d : Addr) (fs : List (Str × V)), x = .ref a ∧ H1 a = some (exo a C (some d)) ∧ d ≠ a ∧ H1 d = some (exd d fs) ∧ Fr0 X.H_0 a ∧ Raises X (.ref C) ∧ Q (.ref C) (some d) (upd (delH H1 a) d (.xd fs))) := by
  intro pins s σ H Q I h
  refine wpAny_mono (he.run pins s σ H _ I h) (fun u s1 hu => ?_) fun _ _ x => x
  obtain ⟨v, H1, I1, r1, a, C, d, fs, rfl, ha, nda, hd, h0, hr, q⟩ := hu
  cases r1
  obtain ⟨t1, ho⟩ := exo_at I1.hok ha
  obtain ⟨G, gs, ga, J⟩ := I1.untrack ha h0 hx
  have hd' : delH H1 a d = some (exd d fs) := by
    rw [delH_ne nda]
    exact hd
  have J2 := exd_told J hd'
  have na : upd (delH H1 a) d (.xd fs) a = none := by
    rw [upd_ne nda.symm]
    exact delH_same
  exact ⟨a, _, _, { s1 with heap := G }, _, .ref C, some d, rfl, J2, gs, ga, ho, ⟨rfl, rfl⟩, rfl, rfl, na, rfl, I1.bare, hr, q⟩
end EV
end L2

set_option Elab.async false
set_option linter.all false
set_option maxRecDepth 100000
set_option maxHeartbeats 4000000
/-! Data of any form; is_number and is_entry of it. -/
namespace K50
open PySem L2 L2.EV
mutual
/-- v stands for d, all of its lists and tuples tracked -/
inductive Da (H : Hp) : V → PyData → Prop
  | non : Da H .non .none
  | bl (b : Bool) : Da H (.bl b) (.bool b)
  | int (i : Int) : Da H (.int i) (.int i)
  | str (x : Str) : Da H (.str x) (.str x)
  | lst {a : Addr} {xs : List V} {ds : List PyData} : H a = some (.lst xs) → DaAll H xs ds → Da H (.ref a) (.list ds)
  | tup {a : Addr} {xs : List V} {ds : List PyData} : H a = some (.tup xs) → DaAll H xs ds → Da H (.ref a) (.tuple ds)
inductive DaAll (H : Hp) : List V → List PyData → Prop
  | nil : DaAll H [] []
  | cons {v : V} {vs : List V} {d : PyData} {ds : List PyData} : Da H v d → DaAll H vs ds → DaAll H (v :: vs) (d :: ds)
end
mutual
theorem Da.same {H H' : Hp} (s : Same H H') : ∀ (d : PyData) (v : V), Da H v d → Da H' v d
  | .none, _, h => by cases h; exact .non
  | .bool b, _, h => by cases h; exact .bl b
  | .int i, _, h => by cases h; exact .int i
  | .str x, _, h => by cases h; exact .str x
  | .list ds, _, h => by
    cases h with
    | lst e ha => exact .lst (s _ _ e) (DaAll.same s ds _ ha)
  | .tuple ds, _, h => by
    cases h with
    | tup e ha => exact .tup (s _ _ e) (DaAll.same s ds _ ha)
  | .dict _, _, h => by cases h
theorem DaAll.same {H H' : Hp} (s : Same H H') : ∀ (ds : List PyData) (vs : List V), DaAll H vs ds → DaAll H' vs ds
  | [], _, h => by cases h; exact .nil
  | d :: ds, _, h => by
    cases h with
    | cons h1 h2 => exact .cons (Da.same s d _ h1) (DaAll.same s ds _ h2)
end
mutual
theorem Da.dp {K : PySem.W.Frag} {H : Hp} : ∀ (d : PyData) (v : V), Da H v d → Dp K H v d
  | .none, _, h => by cases h; exact .non
  | .bool b, _, h => by cases h; exact .bl b
  | .int i, _, h => by cases h; exact .int i
  | .str x, _, h => by cases h; exact .str x
  | .list ds, _, h => by
    cases h with
    | lst e ha => exact .lst (SqL.of e) (DaAll.dp ds _ ha)
  | .tuple ds, _, h => by
    cases h with
    | tup e ha => exact .tup (SqT.of e) (DaAll.dp ds _ ha)
  | .dict _, _, h => by cases h
theorem DaAll.dp {K : PySem.W.Frag} {H : Hp} : ∀ (ds : List PyData) (vs : List V), DaAll H vs ds → DpAll K H vs ds
  | [], _, h => by cases h; exact .nil
  | d :: ds, _, h => by
    cases h with
    | cons h1 h2 => exact .cons (Da.dp d _ h1) (DaAll.dp ds _ h2)
end
theorem DaAll.len {H : Hp} : ∀ {vs : List V} {ds : List PyData}, DaAll H vs ds → vs.length = ds.length
  | _, _, .nil => rfl
  | _, _, .cons _ t => by rw [List.length_cons, List.length_cons, t.len]
theorem DaAll.at_ {H : Hp} : ∀ {vs : List V} {ds : List PyData} {i : Nat} {v : V}, DaAll H vs ds → vs[i]? = some v → ∃ d, ds[i]? = some d ∧ Da H v d
  | _, _, 0, _, .cons h _, e => by
    cases e
    exact ⟨_, rfl, h⟩
  | _, _, i + 1, _, .cons _ t, e => t.at_ (i := i) (by simpa using e)
  | _, _, _, _, .nil, e => by simp at e
theorem DaAll.at' {H : Hp} : ∀ {vs : List V} {ds : List PyData} {i : Nat} {d : PyData}, DaAll H vs ds → ds[i]? = some d → ∃ v, vs[i]? = some v ∧ Da H v d
  | _, _, 0, _, .cons h _, e => by
    cases e
    exact ⟨_, rfl, h⟩
  | _, _, i + 1, _, .cons _ t, e => t.at' (i := i) (by simpa using e)
  | _, _, _, _, .nil, e => by simp at e
theorem DaAll.app {H : Hp} : ∀ {vs ws : List V} {ds es : List PyData}, DaAll H vs ds → DaAll H ws es → DaAll H (vs ++ ws) (ds ++ es)
  | _, _, _, _, .nil, q => q
  | _, _, _, _, .cons h t, q => .cons h (t.app q)
theorem DaAll.drop {H : Hp} : ∀ {vs : List V} {ds : List PyData} (n : Nat), DaAll H vs ds → DaAll H (vs.drop n) (ds.drop n)
  | _, _, 0, h => h
  | _, _, n + 1, .nil => .nil
  | _, _, n + 1, .cons _ t => t.drop n
theorem DaAll.take {H : Hp} : ∀ {vs : List V} {ds : List PyData} (n : Nat), DaAll H vs ds → DaAll H (vs.take n) (ds.take n)
  | _, _, 0, h => .nil
  | _, _, n + 1, .nil => .nil
  | _, _, n + 1, .cons h t => .cons h (t.take n)
theorem DaAll.rev {H : Hp} : ∀ {vs : List V} {ds : List PyData}, DaAll H vs ds → DaAll H vs.reverse ds.reverse
  | _, _, .nil => .nil
  | _, _, .cons h t => by
    rw [List.reverse_cons, List.reverse_cons]
    exact t.rev.app (.cons h .nil)
/-! ### of which type -/
def isTup : PyData → Bool
  | .tuple _ => true
  | _ => false
def isInt : PyData → Bool
  | .int _ => true
  | .bool _ => true
  | _ => false
def isBl : PyData → Bool
  | .bool _ => true
  | _ => false
theorem Da.ty {K : PySem.W.Frag} {H : Hp} {v : V} {d : PyData} (h : Da H v d) : ∃ t : Value, TyX K H v t ∧ PySem.W.kitOne K t (.type "tuple") = some (isTup d) ∧ PySem.W.kitOne K t (.type "int") = some (isInt d) ∧ PySem.W.kitOne K t (.type "bool") = some (isBl d) := by
  cases h with
  | non => exact ⟨_, .base .non, kit_ty (r := false) (by decide +kernel), kit_ty (r := false) (by decide +kernel), kit_ty (r := false) (by decide +kernel)⟩
  | bl b => exact ⟨_, .base (.bl b), kit_ty (r := false) (by decide +kernel), kit_ty (r := true) (by decide +kernel), kit_ty (r := true) (by decide +kernel)⟩
  | int i => exact ⟨_, .base (.int i), kit_ty (r := false) (by decide +kernel), kit_ty (r := true) (by decide +kernel), kit_ty (r := false) (by decide +kernel)⟩
  | str x => exact ⟨_, .base (.str x), kit_ty (r := false) (by decide +kernel), kit_ty (r := false) (by decide +kernel), kit_ty (r := false) (by decide +kernel)⟩
  | lst e _ => exact ⟨_, .base (.lst e), kit_ty (r := false) (by decide +kernel), kit_ty (r := false) (by decide +kernel), kit_ty (r := false) (by decide +kernel)⟩
  | tup e _ => exact ⟨_, .base (.tup e), kit_ty (r := true) (by decide +kernel), kit_ty (r := false) (by decide +kernel), kit_ty (r := false) (by decide +kernel)⟩
/-! ### numbers, entries -/
def numD (m : Int) : PyData → Option Int
  | .int i => if 0 ≤ i ∧ i < m then some i else none
  | _ => none
def entD (n m : Int) : PyData → Option E2
  | .tuple [a, b] => match numD m a, numD n b with
    | some x, some y => some (x, y)
    | _, _ => none
  | _ => none
theorem numD_some {m i : Int} {d : PyData} (h : numD m d = some i) : d = .int i ∧ 0 ≤ i ∧ i < m := by
  cases d with
  | int j =>
    have h : (if 0 ≤ j ∧ j < m then some j else none) = some i := h
    by_cases c : 0 ≤ j ∧ j < m
    · rw [if_pos c] at h
      cases h
      exact ⟨rfl, c⟩
    · rw [if_neg c] at h
      cases h
  | _ => cases h
theorem entD_some {n m : Int} {d : PyData} {e : E2} (h : entD n m d = some e) : d = .tuple [.int e.1, .int e.2] ∧ 0 ≤ e.1 ∧ e.1 < m ∧ 0 ≤ e.2 ∧ e.2 < n := by
  match d, h with
  | .tuple [a, b], h =>
    have h : (match numD m a, numD n b with
      | some x, some y => some (x, y)
      | _, _ => none) = some e := h
    cases ha : numD m a with
    | none =>
      rw [ha] at h
      cases h
    | some x =>
      cases hb : numD n b with
      | none =>
        rw [ha, hb] at h
        cases h
      | some y =>
        rw [ha, hb] at h
        cases h
        obtain ⟨rfl, a1, a2⟩ := numD_some ha
        obtain ⟨rfl, b1, b2⟩ := numD_some hb
        exact ⟨rfl, a1, a2, b1, b2⟩
def spNumD : Sp := fun vs H Q _ => ∃ (v : V) (d : PyData) (m : Int), vs = [v, .int m] ∧ Da H v d ∧ Q (.bl (numD m d).isSome) H
def spEntryD : Sp := fun vs H Q _ => ∃ (f : Addr) (v : V) (d : PyData) (fr : List T3) (m : Int), vs = [.ref f, v, .int m] ∧ FrA H f fr ∧ Da H v d ∧ Q (.bl (entD fr.length m d).isSome) H
section
variable {P : Program} {w : World} {K : PySem.W.Frag} {mg : Str → Option Value} {base : Heap}
theorem ok_numD {f : Addr} {fd : FuncData} (F : Fun K "is_number" "is_number" sNum f fd) (T : TxtF mg) : FnOk P w K mg base CX0 1 f fd ["thing", "many"] spNumD := by
  refine F.ok scNum (fun vs H Q E h => ?_) (fun cdv A outer s H vs Q E hr h => ?_)
  · obtain ⟨v, d, m, rfl, _⟩ := h
    rfl
  · obtain ⟨v, d, m, rfl, da, q⟩ := h
    refine ⟨_, pss_one (ps_ret (pe_and (pe_callB call_isi (by rfl) T.isi PyProof.Rows.boot_isinstance (pa_cons (pv 0) (pa_cons (pe_bltn (v := .ty "int") (by rfl) T.int (by decide +kernel) rfl) pa_nil)))
      (pe_and (pe_not (pe_callB call_isi (by rfl) T.isi PyProof.Rows.boot_isinstance (pa_cons (pv 0) (pa_cons (pe_bltn (v := .ty "bool") (by rfl) T.bool (by decide +kernel) rfl) pa_nil))))
        (pe_one (pe_chain op_le op_lt pe_int (pv 0) (pv 1)))))), ?_⟩
    obtain ⟨t, ty, _, ki, kb⟩ := da.ty (K := K)
    refine ⟨_, rfl, v, .ty "int", t, .type "int", isInt d, rfl, .ty "int", ty, ki, isInt d, rfl, ?_⟩
    cases da with
    | int n =>
      refine iteT ?_
      refine ⟨_, rfl, .int n, .ty "bool", t, .type "bool", false, rfl, .ty "bool", ty, kb, false, rfl, true, rfl, iteT ?_⟩
      refine ⟨_, rfl, 0, n, rfl, rfl, _, rfl, ?_⟩
      have q : Q (.bl (if 0 ≤ n ∧ n < m then some n else none).isSome) H := q
      refine ite2 (fun z => ?_) (fun z => ?_)
      · have z1 : 0 ≤ n := of_decide_eq_true z
        refine ⟨_, rfl, n, m, rfl, rfl, ?_⟩
        by_cases c : n < m
        · rw [if_pos ⟨z1, c⟩] at q
          show Q (.bl (decide (n < m))) H
          rw [decide_eq_true c]
          exact q
        · rw [if_neg (fun k => c k.2)] at q
          show Q (.bl (decide (n < m))) H
          rw [decide_eq_false c]
          exact q
      · have z1 : ¬ 0 ≤ n := fun k => z (decide_eq_true k)
        rw [if_neg (fun k => z1 k.1)] at q
        exact q
    | bl b =>
      refine iteT ?_
      exact ⟨_, rfl, .bl b, .ty "bool", t, .type "bool", true, rfl, .ty "bool", ty, kb, true, rfl, false, rfl, iteF q⟩
    | non => exact iteF q
    | str x => exact iteF q
    | lst e h => exact iteF q
    | tup e h => exact iteF q
theorem ok_entryD (Y : Ws K mg) : FnOk P w K mg base CX0 2 Y.fE Y.dE ["framing", "thing", "many"] spEntryD := by
  have GN : FnOk P w K mg base CX0 1 Y.Z.fN Y.Z.dN ["thing", "many"] spNumD := ok_numD Y.Z.N Y.Z.T
  refine Y.E.ok scEntry (fun vs H Q E h => ?_) (fun cdv A outer s H vs Q E hr h => ?_)
  · obtain ⟨f, v, d, fr, m, rfl, _⟩ := h
    rfl
  · obtain ⟨f, v, d, fr, m, rfl, fa, da, q⟩ := h
    refine ⟨_, pss_cons (ps_if (pw_or (pt_not (pt_val (pe_callB call_isi (by rfl) Y.Z.T.isi PyProof.Rows.boot_isinstance (pa_cons (pv 1) (pa_cons (pe_bltn (v := .ty "tuple") (by rfl) Y.Z.T.tuple (by decide +kernel) rfl) pa_nil)))))
        (pw_or1 (pt_cmpR op_ne (pe_callB call_len_seq (by rfl) Y.Z.T.len PySem.boot_len (pa_cons (pv 1) pa_nil)) pe_int (nomark _)))).pt
        (pss_one (ps_ret pe_bl)) pss_nil)
      (pss_one (ps_ret (pe_and (pe_call GN hr (by rfl) Y.Z.mN Y.Z.N.kp Y.Z.bN .nil pass0 (pa_cons (pe_ix ix_tup (pv 1) pe_int (fun _ _ => rfl)) (pa_cons (pv 2) pa_nil)))
        (pe_one (pe_call GN hr (by rfl) Y.Z.mN Y.Z.N.kp Y.Z.bN .nil pass0 (pa_cons (pe_ix ix_tup (pv 1) pe_int (fun _ _ => rfl)) (pa_cons (pe_callB call_len_seq (by rfl) Y.Z.T.len PySem.boot_len (pa_cons (pv 0) pa_nil)) pa_nil))))))), ?_⟩
    obtain ⟨ts, hf, hl, ht⟩ := id fa
    obtain ⟨t, ty, kt, _, _⟩ := da.ty (K := K)
    refine ⟨_, rfl, v, .ty "tuple", t, .type "tuple", isTup d, rfl, .ty "tuple", ty, kt, isTup d, rfl, ?_⟩
    cases da with
    | @tup a xs ds e all =>
      refine iteF ?_
      refine ⟨_, rfl, a, _, rfl, .inr (SqT.of e), rfl, _, rfl, ?_⟩
      have ln := all.len
      by_cases h2 : xs.length = 2
      · refine iteF' (by simp [h2]) ?_
        match xs, ds, all, h2 with
        | [x, y], [dx, dy], .cons h1 (.cons h3 .nil), _ =>
          refine ⟨_, rfl, a, _, 0, x, rfl, rfl, SqT.of e, atI_nat (j := 0) rfl, _, rfl, x, dx, m, rfl, h1, _, rfl, ?_⟩
          have q : Q (.bl (match numD m dx, numD fr.length dy with
            | some x, some y => some (x, y)
            | _, _ => none).isSome) H := q
          cases ea : numD m dx with
          | none =>
            rw [ea] at q
            exact iteF q
          | some i =>
            refine iteT ?_
            refine ⟨_, rfl, a, _, 1, y, rfl, rfl, SqT.of e, atI_nat (j := 1) rfl, _, rfl, f, _, rfl, .inr (SqT.of hf), y, dy, _, rfl, h3, ?_⟩
            rw [List.length_map, hl]
            cases eb : numD fr.length dy with
            | none =>
              rw [ea, eb] at q
              exact q
            | some j =>
              rw [ea, eb] at q
              exact q
      · refine iteT' (by simp; omega) ?_
        have z : entD fr.length m (.tuple ds) = none := by
          match ds, ln with
          | [], _ => rfl
          | [_], _ => rfl
          | [_, _], l => exact absurd l h2
          | _ :: _ :: _ :: _, _ => rfl
        rw [z] at q
        exact q
    | bl b => exact iteT q
    | non => exact iteT q
    | int i => exact iteT q
    | str x => exact iteT q
    | lst e h => exact iteT q
end
end K50

set_option Elab.async false
set_option linter.all false
set_option maxRecDepth 100000
set_option maxHeartbeats 4000000
/-! OutOfPlace. -/
namespace K50
open PySem L2 L2.EV
def gP : List Value → List Value → List Value := fun us _ => us
def vP : List V → List V → List V := fun vs _ => vs
theorem kb_pos {K : PySem.W.Frag} {fd : FuncData} {ps : List Str} {n : Nat} (b : Binds K fd ps []) (hn : ps.length = n) : KBn K fd ps n [] gP vP := by
  refine ⟨fun s us ws X l1 l2 => ?_, fun r _ => r⟩
  have z := b s us X (by rw [List.append_nil, l1, hn])
  rw [List.append_nil] at z
  exact z
abbrev bmVE : List Value := [.type "ValueError", .type "Exception", .type "BaseException", .type "object"]
/-- what is known of OutOfPlace -/
structure Oop (K : PySem.W.Frag) (mg : Str → Option Value) where
  C : Addr
  f : Addr
  d : FuncData
  fM : Addr
  dM : FuncData
  T : OxC K C "ValueError" "ValueError.__new__" "ValueError.__init__" bmVE
  I : BI K mg "ValueError" "ValueError" "ValueError.__init__"
  F : Fun K "__init__" "OutOfPlace.__init__" sOutOfPlace f d
  b : Binds K d ["self", "text"] []
  FM : Fun K "message" "message" sMsg fM dM
  bM : Binds K dM ["text"] []
  mM : mg "message" = some (.ref fM)
  TM : TxtM mg
  m : mg "OutOfPlace" = some (.ref C)
  iC : PySem.W.findIn K (.ref C) "__init__" = some (some (.ref f))
  tI : PySem.W.typeIn K (.ref f) = some (.type "function")
  su : PySem.W.subIn K (.ref C) (.type "BaseException") = some true
  ty : PySem.W.typeIn K (.ref C) = some (.type "type")
theorem same_none {H H' : Hp} {a : Addr} (s : Same H H') (n : H' a = none) : H a = none := by
  cases e : H a with
  | none => rfl
  | some o =>
    rw [s _ _ e] at n
    cases n
def d2 (e : E2) : PyData := .tuple [.int e.1, .int e.2]
def szD : PyData → Nat
  | .tuple ds => ds.length
  | _ => 0
end K50

set_option Elab.async false
set_option linter.all false
set_option maxRecDepth 100000
set_option maxHeartbeats 4000000
/-! first_wrong of any things, the writers standing anywhere at first. -/
namespace K50
open PySem L2 L2.EV
def ov : Option Int → V
  | none => .non
  | some i => .int i
/-- the number of the first thing that can't stand there -/
def wrongF (fr : List T3) : List PyData → List (Option Int) → Nat → Option Nat
  | [], _, _ => none
  | d :: ds, pl, i => match entD fr.length 8 d with
    | none => some i
    | some e => match pl.getD e.1.toNat none with
      | none => wrongF fr ds (pl.set e.1.toNat (some (stt fr e.2).2.2)) (i + 1)
      | some x => if x = (stt fr e.2).1 then wrongF fr ds (pl.set e.1.toNat (some (stt fr e.2).2.2)) (i + 1) else some i
def wv : Option Nat → V
  | none => .non
  | some i => .int (i : Int)
abbrev none8 : List (Option Int) := List.replicate 8 none
abbrev all8 (bg : Option Int) : List (Option Int) := List.replicate 8 bg
def spWrongD : Sp := fun vs H Q _ => ∃ (f w : Addr) (fr : List T3) (ds : List PyData) (bg : Option Int), vs = [.ref f, .ref w, ov bg] ∧ FrA H f fr ∧ Da H (.ref w) (.tuple ds) ∧ ∀ H', Same H H' → Q (wv (wrongF fr ds (all8 bg) 0)) H'
theorem ov_at {pl : List (Option Int)} {i : Int} (h0 : 0 ≤ i) (h1 : i < 8) (hl : pl.length = 8) : atI (pl.map ov) i = some (ov (pl.getD i.toNat none)) := by
  obtain ⟨k, rfl⟩ := Int.eq_ofNat_of_zero_le h0
  have hk : k < pl.length := by omega
  refine atI_nat ?_
  rw [List.getElem?_map, List.getElem?_eq_getElem hk, List.getD_eq_getElem?_getD, Int.toNat_natCast, List.getElem?_eq_getElem hk]
  rfl
theorem drop_at {α : Type} {l : List α} {i : Nat} {x : α} (h : l[i]? = some x) : l.drop i = x :: l.drop (i + 1) := by
  obtain ⟨hi, e⟩ := List.getElem?_eq_some_iff.mp h
  rw [List.drop_eq_getElem_cons hi, e]
section
variable {P : Program} {w : World} {K : PySem.W.Frag} {mg : Str → Option Value} {base : Heap}
theorem ok_wrongD (Y : Ws K mg) : FnOk P w K mg base CX0 3 Y.fR Y.dR ["framing", "things", "begin"] spWrongD := by
  have GE : FnOk P w K mg base CX0 2 Y.fE Y.dE ["framing", "thing", "many"] spEntryD := ok_entryD Y
  refine Y.R.ok scWrong (fun vs H Q E h => ?_) (fun cdv A outer s H vs Q E hr h => ?_)
  · obtain ⟨f, w, fr, ds, bg, rfl, _⟩ := h
    rfl
  · obtain ⟨f, w, fr, ds, bg, rfl, fa, da, q⟩ := h
    obtain ⟨tm, eM⟩ := Y.marks
    refine ⟨_, pss_cons (ps_setLc (i := 4) (y := "places") (own := [("mark", 3)]) (g := gName 3) (te := tVar 2) rfl scWrong.nd rfl rfl (by rfl) (pi_str (pe_glob (v := .str "ABCDEFGH") (by rfl) eM ⟨_, rfl⟩))
        (blkOk_by (N := ["framing", "things", "begin", "mark", "places", "number", "thing", "writer", "step", "start", "piece", "goal"]) (sc := defScope sWrong) (by decide +kernel))
        (fun _ _ _ _ _ => pg_name (i := 3) scWrong.nd rfl (Or.inl rfl)) (fun _ _ _ _ _ => pts_nil) (fun _ _ _ _ _ => pv 2))
      (pss_cons (ps_for PassesOwn.never rfl (pi_enumT (by rfl) Y.Z.en (pa_cons (pv 1) pa_nil)) (pg_tup rfl (pgs_cons (pg_name (i := 5) scWrong.nd rfl (Or.inl rfl)) (pgs_cons (pg_name (i := 6) scWrong.nd rfl (Or.inl rfl)) pgs_nil)))
        (pss_cons (ps_if (pt_not (pt_val (pe_call GE hr (by rfl) Y.mE Y.E.kp Y.bE .nil pass0 (pa_cons (pv 0) (pa_cons (pv 6) (pa_cons (pe_callB call_len_str (by rfl) Y.Z.T.len PySem.boot_len (pa_cons (pe_glob (v := .str "ABCDEFGH") (by rfl) eM ⟨_, rfl⟩) pa_nil)) pa_nil)))))) (pss_one (ps_ret (pv 5))) pss_nil)
        (pss_cons (ps_asg (pv 6) (pg_tup rfl (pgs_cons (pg_name (i := 7) scWrong.nd rfl (Or.inl rfl)) (pgs_cons (pg_name (i := 8) scWrong.nd rfl (Or.inl rfl)) pgs_nil))))
        (pss_cons (ps_asg (pe_ix ix_tup (pv 0) (pv 8) (fun _ _ => rfl)) (pg_tup rfl (pgs_cons (pg_name (i := 9) scWrong.nd rfl (Or.inl rfl)) (pgs_cons (pg_name (i := 10) scWrong.nd rfl (Or.inl rfl)) (pgs_cons (pg_name (i := 11) scWrong.nd rfl (Or.inl rfl)) pgs_nil)))))
        (pss_cons (ps_if (pw_and (pt_cmpR op_notN (pe_ix ix_list (pv 4) (pv 7) (fun _ _ => rfl)) pe_non (nomark _)) (pw_and1 (pt_cmpR op_ne (pe_ix ix_list (pv 4) (pv 7) (fun _ _ => rfl)) (pv 9) (nomark _)))).pt (pss_one (ps_ret (pv 5))) pss_nil)
        (pss_one (ps_asg (pv 11) (pg_sub (pv 4) (pv 7) set_list))))))))
      (pss_one (ps_ret pe_non))), ?_⟩
    obtain ⟨tw, hw, wall⟩ : ∃ tw : List V, H w = some (.tup tw) ∧ DaAll H tw ds := by
      cases da with
      | tup e h => exact ⟨_, e, h⟩
    refine ⟨_, rfl, fun D hD => ?_⟩
    refine lc_it walk_str (fun i H' => H' D = some (.lst ((List.replicate i bg).map ov)) ∧ ∀ b o, H b = some o → H' b = some o) ⟨upd_same, fun b o z => same_upd hD b o z⟩ (fun _ _ _ _ => trivial) ?_ ?_
    · rintro i x H1 H2 hi ⟨hl, kp⟩ ⟨rfl, c, hc, rfl⟩
      refine ⟨rfl, ⟨_, rfl, _, hl, ?_, ?_, fun b o z => ?_⟩⟩
      · have h8 : i < 8 := hi
        rw [List.length_map, List.length_replicate, sizeLine_eq]
        omega
      · rw [List.replicate_succ', List.map_append]
        exact upd_same
      · rw [upd_ne (ne_of_none z hD)]
        exact kp b o z
    · rintro H1 ⟨hl, kp⟩
      refine ⟨_, rfl, w, _, rfl, SqT.of (kp _ _ hw), for_it (walk_enumT (xs := tw)) (fun i σ H' => ∃ (v5 v6 v7 v8 v9 v10 v11 : Option V) (pl : List (Option Int)), σ = [some (.ref f), some (.ref w), some (ov bg), none, some (.ref D), v5, v6, v7, v8, v9, v10, v11] ∧ Same H H' ∧ H' D = some (.lst (pl.map ov)) ∧ pl.length = 8 ∧
          wrongF fr ds (all8 bg) 0 = wrongF fr (ds.drop i) pl i)
        ⟨none, none, none, none, none, none, none, (all8 bg), rfl, kp, hl, rfl, rfl⟩ (fun i σ H' _ ⟨_, _, _, _, _, _, _, _, _, z, _⟩ => SqT.of (z _ _ hw)) ?_ ?_⟩
      · rintro i x σ H2 H3 hi ⟨v5, v6, v7, v8, v9, v10, v11, pl, rfl, s2, d2, l8, inv⟩ ⟨T, xi, xo, rfl, nT, rfl, h1, h2⟩
        cases h1
        obtain ⟨d, hd, dv⟩ := wall.at_ h2
        rw [drop_at hd] at inv
        have uT := same_upd (o := HO.tup [V.int (i : Nat), xo]) nT
        have s3 := s2.trans uT
        have d3 := uT _ _ d2
        refine ⟨T, _, rfl, SqT.of upd_same, rfl, _, _, rfl, _, _, rfl, rfl, ?_⟩
        have dv3 := Da.same s3 _ _ dv
        refine ⟨_, rfl, _, rfl, _, rfl, (by decide +kernel), f, xo, d, fr, 8, rfl, fa.same s3, dv3, _, rfl, ?_⟩
        cases ed : entD fr.length 8 d with
        | none =>
          refine iteT ⟨_, rfl, ?_⟩
          have inv : wrongF fr ds (all8 bg) 0 = (match entD fr.length 8 d with
            | none => some i
            | some e => match pl.getD e.1.toNat none with
              | none => wrongF fr (ds.drop (i + 1)) (pl.set e.1.toNat (some (stt fr e.2).2.2)) (i + 1)
              | some x => if x = (stt fr e.2).1 then wrongF fr (ds.drop (i + 1)) (pl.set e.1.toNat (some (stt fr e.2).2.2)) (i + 1) else some i) := inv
          rw [ed] at inv
          have z := q _ s3
          rw [inv] at z
          exact z
        | some e =>
          have inv : wrongF fr ds (all8 bg) 0 = (match entD fr.length 8 d with
            | none => some i
            | some e => match pl.getD e.1.toNat none with
              | none => wrongF fr (ds.drop (i + 1)) (pl.set e.1.toNat (some (stt fr e.2).2.2)) (i + 1)
              | some x => if x = (stt fr e.2).1 then wrongF fr (ds.drop (i + 1)) (pl.set e.1.toNat (some (stt fr e.2).2.2)) (i + 1) else some i) := inv
          rw [ed] at inv
          have inw : wrongF fr ds (all8 bg) 0 = (match pl.getD e.1.toNat none with
              | none => wrongF fr (ds.drop (i + 1)) (pl.set e.1.toNat (some (stt fr e.2).2.2)) (i + 1)
              | some x => if x = (stt fr e.2).1 then wrongF fr (ds.drop (i + 1)) (pl.set e.1.toNat (some (stt fr e.2).2.2)) (i + 1) else some i) := inv
          clear inv
          obtain ⟨rfl, e0, e1, n0, n1⟩ := entD_some ed
          refine iteF ?_
          obtain ⟨a, ea⟩ : ∃ a, xo = .ref a ∧ upd H2 T (.tup [V.int (i : Nat), xo]) a = some (.tup [.int e.1, .int e.2]) := by
            cases dv3 with
            | tup e h =>
              match h with
              | .cons (.int _) (.cons (.int _) .nil) => exact ⟨_, rfl, e⟩
          obtain ⟨rfl, e4⟩ := ea
          obtain ⟨ts, t2, hf, ha, h3, _⟩ := stt_at (fa.same s3) n0 n1
          have pw := ov_at (pl := pl) e0 e1 l8
          refine ⟨_, rfl, a, _, rfl, SqT.of e4, rfl, _, _, rfl, _, _, rfl, rfl, ?_⟩
          refine ⟨_, rfl, _, rfl, f, _, e.2, .ref t2, rfl, rfl, SqT.of hf, ha, t2, _, rfl, SqT.of h3, rfl, _, _, rfl, _, _, rfl, _, _, rfl, rfl, ?_⟩
          refine ⟨_, rfl, _, rfl, D, _, e.1, _, rfl, rfl, SqL.of d3, pw, rfl, _, rfl, ?_⟩
          -- the store behind
          have store : ∀ v5 v6 v7 v8 v9 v10 : Option V, wrongF fr ds (all8 bg) 0 = wrongF fr (ds.drop (i + 1)) (pl.set e.1.toNat (some (stt fr e.2).2.2)) (i + 1) →
              ∃ (v5' v6' v7' v8' v9' v10' v11' : Option V) (pl' : List (Option Int)), [some (V.ref f), some (.ref w), some (ov bg), none, some (.ref D), v5, v6, v7, v8, v9, v10, some (V.int (stt fr e.2).2.2)] = [some (.ref f), some (.ref w), some (ov bg), none, some (.ref D), v5', v6', v7', v8', v9', v10', v11'] ∧
                Same H (upd (upd H2 T (.tup [V.int (i : Nat), .ref a])) D (.lst ((pl.map ov).set e.1.toNat (.int (stt fr e.2).2.2)))) ∧ upd (upd H2 T (.tup [V.int (i : Nat), .ref a])) D (.lst ((pl.map ov).set e.1.toNat (.int (stt fr e.2).2.2))) D = some (.lst (pl'.map ov)) ∧ pl'.length = 8 ∧
                wrongF fr ds (all8 bg) 0 = wrongF fr (ds.drop (i + 1)) pl' (i + 1) := fun _ _ _ _ _ _ hw => ⟨_, _, _, _, _, _, _, pl.set e.1.toNat (some (stt fr e.2).2.2), rfl, same_set hD s3, by rw [List.map_set]; exact upd_same, by rw [List.length_set]; exact l8, hw⟩
          have ix : ixN (pl.map ov).length e.1 = some e.1.toNat := by
            rw [List.length_map, l8]
            unfold ixN
            rw [if_pos e0, if_pos (by omega)]
          cases ep : pl.getD e.1.toNat none with
          | none =>
            rw [ep] at inw
            refine iteF' (by simp [ov]) ?_
            exact ⟨_, rfl, _, rfl, _, rfl, D, _, e.1, e.1.toNat, rfl, rfl, d3, ix, store _ _ _ _ _ _ inw⟩
          | some x =>
            rw [ep] at inw pw
            refine iteT' (by simp [ov]) ?_
            refine ⟨_, rfl, _, rfl, D, _, e.1, _, rfl, rfl, SqL.of d3, pw, _, rfl, rfl, _, rfl, ?_⟩
            by_cases hx : x = (stt fr e.2).1
            · have inw : wrongF fr ds (all8 bg) 0 = if x = (stt fr e.2).1 then wrongF fr (ds.drop (i + 1)) (pl.set e.1.toNat (some (stt fr e.2).2.2)) (i + 1) else some i := inw
              rw [if_pos hx] at inw
              refine iteF' (by simp [ov, hx]) ?_
              exact ⟨_, rfl, _, rfl, _, rfl, D, _, e.1, e.1.toNat, rfl, rfl, d3, ix, store _ _ _ _ _ _ inw⟩
            · have inw : wrongF fr ds (all8 bg) 0 = if x = (stt fr e.2).1 then wrongF fr (ds.drop (i + 1)) (pl.set e.1.toNat (some (stt fr e.2).2.2)) (i + 1) else some i := inw
              rw [if_neg hx] at inw
              refine iteT' (by simp [ov, hx]) ?_
              refine ⟨_, rfl, ?_⟩
              have z := q _ s3
              rw [inw] at z
              exact z
      · rintro σ H2 ⟨v5, v6, v7, v8, v9, v10, v11, pl, rfl, s2, d2, l8, inv⟩
        have e0 : ds.drop tw.length = [] := by
          rw [wall.len]
          exact List.drop_length
        rw [e0] at inv
        have z := q H2 s2
        rw [inv] at z
        exact z
end
end K50

set_option Elab.async false
set_option linter.all false
set_option maxRecDepth 100000
set_option maxHeartbeats 4000000
/-! Weavings of data. -/
namespace K50
open PySem L2 L2.EV
/-- each writer goes on from where it stands -/
def goF (fr : List T3) : List Int → List E2 → Prop
  | _, [] => True
  | ql, e :: es => ql[e.1.toNat]? = some (stt fr e.2).1 ∧ goF fr (ql.set e.1.toNat (stt fr e.2).2.2) es
theorem goF_drop {fr : List T3} : ∀ {es : List E2} {ql : List Int} (n : Nat), goF fr ql es → ∃ q2, q2.length = ql.length ∧ goF fr q2 (es.drop n)
  | _, ql, 0, h => ⟨ql, rfl, h⟩
  | [], ql, n + 1, _ => ⟨ql, rfl, True.intro⟩
  | e :: es, ql, n + 1, h => by
    obtain ⟨q2, l, g⟩ := goF_drop n h.2
    exact ⟨q2, by rw [l, List.length_set], g⟩
theorem goF_take {fr : List T3} : ∀ {es : List E2} {ql : List Int} (n : Nat), goF fr ql es → goF fr ql (es.take n)
  | _, _, 0, _ => True.intro
  | [], _, n + 1, _ => True.intro
  | e :: es, _, n + 1, h => ⟨h.1, goF_take n h.2⟩
theorem goF_at {fr : List T3} : ∀ {es : List E2} {ql : List Int}, goF fr ql es → ∀ (i : Nat) (e : E2), es[i]? = some e → ((es.take i).foldl (fun pl e => pl.set e.1.toNat (stt fr e.2).2.2) ql)[e.1.toNat]? = some (stt fr e.2).1
  | [], _, _, i, e, h => by cases h
  | x :: es, ql, g, 0, e, h => by
    cases h
    exact g.1
  | x :: es, ql, g, i + 1, e, h => by
    rw [List.take_succ_cons, List.foldl_cons]
    exact goF_at g.2 i e (by simpa using h)
theorem go_wv {fr : List T3} {es : List E2} (g : goF fr (List.replicate 8 0) es) (ent : ∀ e ∈ es, Ent fr e) (l : es.length ≤ 60) : Wv fr es := ⟨l, ent, fun i e h => goF_at g i e h⟩
theorem wrongF_step {fr : List T3} {d : PyData} {ds : List PyData} {pl : List (Option Int)} {i : Nat} : wrongF fr (d :: ds) pl i = (match entD fr.length 8 d with
    | none => some i
    | some e => match pl.getD e.1.toNat none with
      | none => wrongF fr ds (pl.set e.1.toNat (some (stt fr e.2).2.2)) (i + 1)
      | some x => if x = (stt fr e.2).1 then wrongF fr ds (pl.set e.1.toNat (some (stt fr e.2).2.2)) (i + 1) else some i) := rfl
theorem map_getD {ql : List Int} {n : Nat} (h : n < ql.length) : (ql.map some).getD n none = ql[n]? := by
  rw [List.getD_eq_getElem?_getD, List.getElem?_map, List.getElem?_eq_getElem h]
  rfl
theorem wrong_go {fr : List T3} : ∀ {ds : List PyData} {ql : List Int} {i : Nat}, ql.length = 8 → wrongF fr ds (ql.map some) i = none → ∃ es : List E2, ds = es.map d2 ∧ (∀ e ∈ es, Ent fr e) ∧ goF fr ql es
  | [], _, _, _, _ => ⟨[], rfl, (fun e h => by cases h), True.intro⟩
  | d :: ds, ql, i, l8, h => by
    rw [wrongF_step] at h
    cases ed : entD fr.length 8 d with
    | none =>
      rw [ed] at h
      cases h
    | some e =>
      rw [ed] at h
      obtain ⟨rfl, e0, e1, n0, n1⟩ := entD_some ed
      have hl : e.1.toNat < ql.length := by omega
      have h : (match (ql.map some).getD e.1.toNat none with
        | none => wrongF fr ds ((ql.map some).set e.1.toNat (some (stt fr e.2).2.2)) (i + 1)
        | some x => if x = (stt fr e.2).1 then wrongF fr ds ((ql.map some).set e.1.toNat (some (stt fr e.2).2.2)) (i + 1) else some i) = none := h
      rw [map_getD hl, List.getElem?_eq_getElem hl] at h
      have h : (if ql[e.1.toNat] = (stt fr e.2).1 then wrongF fr ds ((ql.map some).set e.1.toNat (some (stt fr e.2).2.2)) (i + 1) else some i) = none := h
      by_cases c : ql[e.1.toNat] = (stt fr e.2).1
      · rw [if_pos c, ← List.map_set] at h
        obtain ⟨es, rfl, ent, g⟩ := wrong_go (ql := ql.set e.1.toNat (stt fr e.2).2.2) (by rw [List.length_set]; exact l8) h
        refine ⟨e :: es, rfl, fun x hx => ?_, ⟨by rw [List.getElem?_eq_getElem hl, c], g⟩⟩
        rcases List.mem_cons.mp hx with rfl | hx
        · exact ⟨e0, e1, n0, n1⟩
        · exact ent x hx
      · rw [if_neg c] at h
        cases h
theorem ent_d2 {fr : List T3} {e : E2} (h : Ent fr e) : entD fr.length 8 (d2 e) = some e := by
  obtain ⟨e0, e1, n0, n1⟩ := h
  have a : numD 8 (.int e.1) = some e.1 := if_pos ⟨e0, e1⟩
  have b : numD (fr.length : Int) (.int e.2) = some e.2 := if_pos ⟨n0, n1⟩
  show (match numD 8 (.int e.1), numD fr.length (.int e.2) with
    | some x, some y => some (x, y)
    | _, _ => none) = some e
  rw [a, b]
/-- what is known of the standings is right -/
def Kn (pl : List (Option Int)) (ql : List Int) : Prop := ∀ n x, pl.getD n none = some x → ql[n]? = some x
theorem go_none {fr : List T3} : ∀ {es : List E2} {pl : List (Option Int)} {ql : List Int} {i : Nat}, pl.length = 8 → ql.length = 8 → Kn pl ql → (∀ e ∈ es, Ent fr e) → goF fr ql es → wrongF fr (es.map d2) pl i = none
  | [], _, _, _, _, _, _, _, _ => rfl
  | e :: es, pl, ql, i, p8, q8, kn, ent, g => by
    obtain ⟨e0, e1, n0, n1⟩ := ent e (List.mem_cons_self ..)
    have rest : wrongF fr (es.map d2) (pl.set e.1.toNat (some (stt fr e.2).2.2)) (i + 1) = none := by
      refine go_none (ql := ql.set e.1.toNat (stt fr e.2).2.2) (by rw [List.length_set]; exact p8) (by rw [List.length_set]; exact q8) (fun n x h => ?_) (fun x hx => ent x (List.mem_cons_of_mem _ hx)) g.2
      rw [List.getD_eq_getElem?_getD] at h
      by_cases c : e.1.toNat = n
      · subst c
        rw [List.getElem?_set_self (by omega)] at h
        rw [List.getElem?_set_self (by omega)]
        exact h
      · rw [List.getElem?_set_ne c] at h
        rw [List.getElem?_set_ne c]
        exact kn n x (by rw [List.getD_eq_getElem?_getD]; exact h)
    rw [List.map_cons, wrongF_step, ent_d2 (ent e (List.mem_cons_self ..))]
    show (match pl.getD e.1.toNat none with
      | none => wrongF fr (es.map d2) (pl.set e.1.toNat (some (stt fr e.2).2.2)) (i + 1)
      | some x => if x = (stt fr e.2).1 then wrongF fr (es.map d2) (pl.set e.1.toNat (some (stt fr e.2).2.2)) (i + 1) else some i) = none
    cases ep : pl.getD e.1.toNat none with
    | none => exact rest
    | some x =>
      have z := kn _ _ ep
      rw [g.1] at z
      have z2 : (stt fr e.2).1 = x := Option.some.inj z
      show (if x = (stt fr e.2).1 then _ else some i) = none
      rw [if_pos z2.symm]
      exact rest
end K50

set_option Elab.async false
set_option linter.all false
set_option maxRecDepth 100000
set_option maxHeartbeats 4000000
/-! BadReader; is_rule of any data. -/
namespace K50
open PySem L2 L2.EV
section
variable {P : Program} {w : World} {K : PySem.W.Frag} {mg : Str → Option Value} {base : Heap}
abbrev sBadReader : Stmt := inClass (top 4) 0
theorem scBadReader : FnScope ["self", "part", "number"] ["self", "part", "number"] (defScope sBadReader) := ⟨rfl, rfl, rfl, by decide +kernel, rfl, by decide +kernel, by decide +kernel⟩
theorem ok_BadReader {f C : Addr} {fd : FuncData} (F : Fun K "__init__" "BadReader.__init__" sBadReader f fd) (T : OxC K C "ValueError" "ValueError.__new__" "ValueError.__init__" [.type "ValueError", .type "Exception", .type "BaseException", .type "object"]) (I : BI K mg "ValueError" "ValueError" "ValueError.__init__")
    (n0 : PySem.W.findIn K (.ref C) "part" = some none) (n1 : PySem.W.findIn K (.ref C) "number" = some none) : FnOk P w K mg base CX0 1 f fd ["self", "part", "number"] (spTwo C "part" "number") := by
  refine F.ok scBadReader (fun vs H Q E h => ?_) (fun cdv A outer s H vs Q E hr h => ?_)
  · obtain ⟨a, x, y, rfl, _⟩ := h
    rfl
  · obtain ⟨a, x, y, rfl, e, q⟩ := h
    refine ⟨_, pss_cons (ps_expr (pe_bin (newId := "ValueError.__new__") (bm := [.type "ValueError", .type "Exception", .type "BaseException", .type "object"]) (by rfl) I.mg I.bt I.ty I.vV I.st (pa_cons (pv 0) (pa_cons pe_str pa_nil)) rfl)) (pss_cons (ps_put (B := "ValueError") (newId := "ValueError.__new__") (initId := "ValueError.__init__") (bm := [.type "ValueError", .type "Exception", .type "BaseException", .type "object"]) (pv 0) (pv 1) rfl) (pss_one (ps_put (B := "ValueError") (newId := "ValueError.__new__") (initId := "ValueError.__init__") (bm := [.type "ValueError", .type "Exception", .type "BaseException", .type "object"]) (pv 0) (pv 2) rfl))), ?_⟩
    exact ⟨_, rfl, a, C, _, rfl, by decide, T, e, _, rfl, _, rfl, a, C, rfl, T, n0, .inl ⟨e, fun dx hn ne => ⟨_, rfl, _, rfl, a, C, rfl, T, n1, .inr ⟨dx, _, upd_same, by rw [upd_ne ne]; exact upd_same, by show 1 ≤ 900; decide, q dx hn ne⟩⟩⟩⟩
end
/-- what is known of BadReader -/
structure Brd (K : PySem.W.Frag) (mg : Str → Option Value) where
  C : Addr
  f : Addr
  d : FuncData
  T : OxC K C "ValueError" "ValueError.__new__" "ValueError.__init__" bmVE
  I : BI K mg "ValueError" "ValueError" "ValueError.__init__"
  F : Fun K "__init__" "BadReader.__init__" sBadReader f d
  b : Binds K d ["self", "part", "number"] []
  m : mg "BadReader" = some (.ref C)
  iC : PySem.W.findIn K (.ref C) "__init__" = some (some (.ref f))
  tI : PySem.W.typeIn K (.ref f) = some (.type "function")
  n0 : PySem.W.findIn K (.ref C) "part" = some none
  n1 : PySem.W.findIn K (.ref C) "number" = some none
  su : PySem.W.subIn K (.ref C) (.type "BaseException") = some true
  ty : PySem.W.typeIn K (.ref C) = some (.type "type")
  own : PySem.W.subIn K (.ref C) (.ref C) = some true
def isSt : PyData → Bool
  | .str _ => true
  | _ => false
theorem Da.tyS {K : PySem.W.Frag} {H : Hp} {v : V} {d : PyData} (h : Da H v d) : ∃ t : Value, TyX K H v t ∧ PySem.W.kitOne K t (.type "str") = some (isSt d) := by
  cases h with
  | non => exact ⟨_, .base .non, kit_ty (r := false) (by decide +kernel)⟩
  | bl b => exact ⟨_, .base (.bl b), kit_ty (r := false) (by decide +kernel)⟩
  | int i => exact ⟨_, .base (.int i), kit_ty (r := false) (by decide +kernel)⟩
  | str x => exact ⟨_, .base (.str x), kit_ty (r := true) (by decide +kernel)⟩
  | lst e _ => exact ⟨_, .base (.lst e), kit_ty (r := false) (by decide +kernel)⟩
  | tup e _ => exact ⟨_, .base (.tup e), kit_ty (r := false) (by decide +kernel)⟩
abbrev sRule : Stmt := top 41
/-- one sign -/
def signD (x : Str) : Bool := decide (x.length = 1) && decide (∀ c ∈ sl x, c ∈ sgs)
def ruleD : PyData → Option T3
  | .tuple [a, .str x, b] => match numD 200 a, numD 200 b with
    | some i, some j => if signD x = true then some (i, x, j) else none
    | _, _ => none
  | _ => none
theorem one_sign {x : Str} (h : x.length = 1) : ∃ c : Nat, x = ⟨#[c]⟩ := by
  obtain ⟨xs⟩ := x
  have h : xs.size = 1 := h
  refine ⟨xs[0], ?_⟩
  congr 1
  refine Array.ext (by simp [h]) fun i h1 h2 => ?_
  have : i = 0 := by omega
  subst this
  rfl
theorem signD_one {c : Nat} : signD ⟨#[c]⟩ = decide (c ∈ sgs) := by
  unfold signD
  have e : (⟨#[c]⟩ : Str).length = 1 := rfl
  have e2 : sl ⟨#[c]⟩ = [c] := rfl
  rw [decide_eq_true e, e2]
  simp
/-- a rule's sign is no long text -/
def szS (d : PyData) : Prop := ∀ a x b, d = .tuple [a, .str x, b] → x.length ≤ 1000
def spRule : Sp := fun vs H Q _ => ∃ (v : V) (d : PyData), vs = [v] ∧ Da H v d ∧ szS d ∧ Q (.bl (ruleD d).isSome) H
structure Rs (K : PySem.W.Frag) (mg : Str → Option Value) where
  Z : Fs K mg
  B : Brd K mg
  fU : Addr
  dU : FuncData
  U : Fun K "is_rule" "is_rule" sRule fU dU
  bU : Binds K dU ["thing"] []
  mU : mg "is_rule" = some (.ref fU)
  states : ∃ t, mg "MOST_STATES" = some (.int 200 t)
section
variable {P : Program} {w : World} {K : PySem.W.Frag} {mg : Str → Option Value} {base : Heap}
theorem scRule : FnScope ["thing", "state", "sign", "goal"] ["thing"] (defScope sRule) := ⟨rfl, rfl, rfl, by decide +kernel, rfl, by decide +kernel, by decide +kernel⟩
theorem ok_rule (R : Rs K mg) : FnOk P w K mg base CX0 2 R.fU R.dU ["thing"] spRule := by
  have GN : FnOk P w K mg base CX0 1 R.Z.fN R.Z.dN ["thing", "many"] spNumD := ok_numD R.Z.N R.Z.T
  refine R.U.ok scRule (fun vs H Q E h => ?_) (fun cdv A outer s H vs Q E hr h => ?_)
  · obtain ⟨v, d, rfl, _⟩ := h
    rfl
  · obtain ⟨v, d, rfl, da, sz, q⟩ := h
    obtain ⟨tm, eM⟩ := R.states
    obtain ⟨ts, eS⟩ := R.Z.T.signs
    refine ⟨_, pss_cons (ps_if (pw_or (pt_not (pt_val (pe_callB call_isi (by rfl) R.Z.T.isi PyProof.Rows.boot_isinstance (pa_cons (pv 0) (pa_cons (pe_bltn (v := .ty "tuple") (by rfl) R.Z.T.tuple (by decide +kernel) rfl) pa_nil)))))
        (pw_or1 (pt_cmpR op_ne (pe_callB call_len_seq (by rfl) R.Z.T.len PySem.boot_len (pa_cons (pv 0) pa_nil)) pe_int (nomark _)))).pt
        (pss_one (ps_ret pe_bl)) pss_nil)
      (pss_cons (ps_asg (pv 0) (pg_tup rfl (pgs_cons (pg_name (i := 1) scRule.nd rfl (Or.inl rfl)) (pgs_cons (pg_name (i := 2) scRule.nd rfl (Or.inl rfl)) (pgs_cons (pg_name (i := 3) scRule.nd rfl (Or.inl rfl)) pgs_nil)))))
      (pss_cons (ps_if (pw_or (pt_not (pt_val (pe_call GN hr (by rfl) R.Z.mN R.Z.N.kp R.Z.bN .nil pass0 (pa_cons (pv 1) (pa_cons (pe_glob (v := .int 200) (by rfl) eM ⟨_, rfl⟩) pa_nil)))))
        (pw_or1 (pt_not (pt_val (pe_call GN hr (by rfl) R.Z.mN R.Z.N.kp R.Z.bN .nil pass0 (pa_cons (pv 3) (pa_cons (pe_glob (v := .int 200) (by rfl) eM ⟨_, rfl⟩) pa_nil))))))).pt
        (pss_one (ps_ret pe_bl)) pss_nil)
      (pss_one (ps_ret (pe_and (pe_callB call_isi (by rfl) R.Z.T.isi PyProof.Rows.boot_isinstance (pa_cons (pv 2) (pa_cons (pe_bltn (v := .ty "str") (by rfl) R.Z.T.str (by decide +kernel) rfl) pa_nil)))
        (pe_and (pe_cmpR op_eq (pe_callB call_len_str (by rfl) R.Z.T.len PySem.boot_len (pa_cons (pv 2) pa_nil)) pe_int (nomark _))
        (pe_one (pe_cmpR op_in_sign (pv 2) (pe_glob (v := .str "abcdefghijklmnopqrstuvwxyz0123456789@") (by rfl) eS ⟨_, rfl⟩) (by rfl))))))))), ?_⟩
    obtain ⟨t, ty, kt, _, _⟩ := da.ty (K := K)
    refine ⟨_, rfl, v, .ty "tuple", t, .type "tuple", isTup d, rfl, .ty "tuple", ty, kt, isTup d, rfl, ?_⟩
    cases da with
    | @tup a xs ds e all =>
      refine iteF ?_
      refine ⟨_, rfl, a, _, rfl, .inr (SqT.of e), rfl, _, rfl, ?_⟩
      have ln := all.len
      by_cases h3 : xs.length = 3
      · refine iteF' (by simp [h3]) ?_
        match xs, ds, all, h3 with
        | [x, y, z], [dx, dy, dz], .cons h1 (.cons h2 (.cons h4 .nil)), _ =>
          refine ⟨_, rfl, a, _, rfl, SqT.of e, rfl, _, _, rfl, _, _, rfl, _, _, rfl, rfl, ?_⟩
          have no : (numD 200 dx = none ∨ numD 200 dz = none) → ruleD (.tuple [dx, dy, dz]) = none := fun c => by
            cases dy with
            | str s =>
              show (match numD 200 dx, numD 200 dz with
                | some i, some j => if signD s = true then some (i, s, j) else none
                | _, _ => none) = none
              rcases c with c | c
              · rw [c]
              · rw [c]
                cases numD 200 dx <;> rfl
            | _ => rfl
          refine ⟨_, rfl, x, dx, 200, rfl, h1, _, rfl, ?_⟩
          cases ea : numD 200 dx with
          | none =>
            rw [no (.inl ea)] at q
            exact iteT q
          | some i =>
            refine iteF ?_
            refine ⟨_, rfl, z, dz, 200, rfl, h4, _, rfl, ?_⟩
            cases eb : numD 200 dz with
            | none =>
              rw [no (.inr eb)] at q
              exact iteT q
            | some j =>
              refine iteF ?_
              obtain ⟨t2, ty2, kt2⟩ := h2.tyS (K := K)
              refine ⟨_, rfl, y, .ty "str", t2, .type "str", isSt dy, rfl, .ty "str", ty2, kt2, isSt dy, rfl, ?_⟩
              cases h2 with
              | str s =>
                refine iteT ?_
                have q : Q (.bl (match numD 200 dx, numD 200 dz with
                  | some i, some j => if signD s = true then some (i, s, j) else none
                  | _, _ => none).isSome) H := q
                rw [ea, eb] at q
                have szs := sz dx s dz rfl
                refine ⟨_, rfl, _, rfl, (by rw [sizeLine_eq]; omega), rfl, _, rfl, ?_⟩
                by_cases l1 : s.length = 1
                · refine iteT' (by simp [l1]) ?_
                  obtain ⟨c, rfl⟩ := one_sign l1
                  refine ⟨_, rfl, c, _, rfl, rfl, ?_⟩
                  have q : Q (.bl (if signD ⟨#[c]⟩ = true then some (i, (⟨#[c]⟩ : Str), j) else none).isSome) H := q
                  rw [signD_one] at q
                  show Q (.bl (decide (c ∈ sgs))) H
                  by_cases m : c ∈ sgs
                  · rw [decide_eq_true m] at q ⊢
                    exact q
                  · rw [decide_eq_false m] at q ⊢
                    exact q
                · refine iteF' (by simp; omega) ?_
                  have q : Q (.bl (if signD s = true then some (i, s, j) else none).isSome) H := q
                  have n : signD s = false := by
                    unfold signD
                    rw [decide_eq_false l1]
                    rfl
                  rw [n] at q
                  exact q
              | bl b => exact iteF q
              | non => exact iteF q
              | int i => exact iteF q
              | lst e h => exact iteF q
              | tup e h => exact iteF q
      · refine iteT' (by simp; omega) ?_
        have z : ruleD (.tuple ds) = none := by
          match ds, ln with
          | [], _ => rfl
          | [_], _ => rfl
          | [_, dy], _ => cases dy <;> rfl
          | [_, _, _], l => exact absurd l h3
          | _ :: dy :: _ :: _ :: _, _ => cases dy <;> rfl
        rw [z] at q
        exact q
    | bl b => exact iteT q
    | non => exact iteT q
    | int i => exact iteT q
    | str x => exact iteT q
    | lst e h => exact iteT q
end
end K50

set_option Elab.async false
set_option linter.all false
set_option maxRecDepth 100000
set_option maxHeartbeats 4000000
/-! file_of, read_lines, rest_of, stands. -/
namespace L2
open PySem PySem.Spec PyProof.Rows
/-- t[lo:hi]: somewhere, all else stays -/
def rSlW (K : PySem.W.Frag) : V → Option Int → Option Int → Hp → VK → Prop := fun x lo hi H Q => ∃ a xs, x = .ref a ∧ H a = some (.tup xs) ∧ ∀ p H', Same H H' → H' p = some (.tup (cutV xs lo hi)) → Q (.ref p) H'
theorem sl_tupS {X : Cx} : SlR X (rSlW X.K) := by
  intro pins s σ H x v vl vu lo hi sl Q I rx hs pl pu h
  obtain ⟨a, xs, rfl, ha, q⟩ := h
  refine sl_tupA pins s σ H _ v vl vu lo hi sl Q I rx hs pl pu ⟨a, xs, rfl, SqT.of ha, fun z => ?_, fun _ p hp => q p _ (K50.same_upd hp) upd_same⟩
  refine q a H (fun _ _ e => e) ?_
  rw [ha]
  unfold cutV
  rw [z.1, z.2]
  simp
end L2

set_option Elab.async false
set_option linter.all false
set_option maxRecDepth 100000
set_option maxHeartbeats 4000000
/-! need_reader of any data. -/
namespace K50
open PySem L2 L2.EV
theorem cutTo {xs : List V} {n : Nat} : cutV xs none (some (n : Int)) = xs.take n := by
  unfold cutV
  rw [HT.sIx_nat, HT.sIx_none, List.drop_zero, Nat.sub_zero]
  by_cases h : n ≤ xs.length
  · rw [Nat.min_eq_left h]
  · rw [Nat.min_eq_right (by omega), List.take_of_length_le (Nat.le_refl _), List.take_of_length_le (by omega)]
theorem cutFrom {xs : List V} {n : Nat} : cutV xs (some (n : Int)) none = xs.drop n := by
  unfold cutV
  rw [HT.sIx_nat, HT.sIx_none]
  by_cases h : n ≤ xs.length
  · rw [Nat.min_eq_left h]
    exact List.take_of_length_le (by rw [List.length_drop]; omega)
  · rw [Nat.min_eq_right (by omega), List.drop_of_length_le (Nat.le_refl _), List.drop_of_length_le (by omega)]
    simp
abbrev sNeedR : Stmt := top 42
def lbR : Option IS → T3 → Bool
  | none, _ => false
  | some p, t => !ltIS p (t.1, t.2.1)
def lbG : Option Int → Int → Bool
  | none, _ => false
  | some p, i => decide (i ≤ p)
def badR : List PyData → Option IS → Nat → Option Nat
  | [], _, _ => none
  | d :: ds, last, k => match ruleD d with
    | none => some k
    | some t => if lbR last t = true then some k else badR ds (some (t.1, t.2.1)) (k + 1)
def badG : List PyData → Option Int → Nat → Option Nat
  | [], _, _ => none
  | d :: ds, last, k => match numD 200 d with
    | none => some k
    | some i => if lbG last i = true then some k else badG ds (some i) (k + 1)
theorem badR_none {d : PyData} {ds : List PyData} {last : Option IS} {k : Nat} (h : ruleD d = none) : badR (d :: ds) last k = some k := by
  unfold badR
  rw [h]
theorem badR_some {d : PyData} {ds : List PyData} {last : Option IS} {k : Nat} {t : T3} (h : ruleD d = some t) : badR (d :: ds) last k = if lbR last t = true then some k else badR ds (some (t.1, t.2.1)) (k + 1) := by
  rw [badR, h]
theorem badG_none {d : PyData} {ds : List PyData} {last : Option Int} {k : Nat} (h : numD 200 d = none) : badG (d :: ds) last k = some k := by
  rw [badG, h]
theorem badG_some {d : PyData} {ds : List PyData} {last : Option Int} {k : Nat} {i : Int} (h : numD 200 d = some i) : badG (d :: ds) last k = if lbG last i = true then some k else badG ds (some i) (k + 1) := by
  rw [badG, h]
theorem tup_of {H : Hp} {v : V} {d : PyData} (h : Da H v d) (c : isTup d = true) : ∃ (a : Addr) (xs : List V) (ds : List PyData), v = .ref a ∧ d = .tuple ds ∧ H a = some (.tup xs) ∧ DaAll H xs ds := by
  cases h with
  | tup e all => exact ⟨_, _, _, rfl, rfl, e, all⟩
  | non => cases c
  | bl b => cases c
  | int i => cases c
  | str x => cases c
  | lst e h => cases c
/-- by which part and number data are refused as a reader -/
def ffD : PyData → Option (Str × Option Nat)
  | .tuple [.tuple rs, .tuple gs] => match badR rs none 0 with
    | some k => some ("rules", some k)
    | none => match badG gs none 0 with
      | some k => some ("good", some k)
      | none => none
  | _ => some ("form", none)
def SzR (d : PyData) : Prop := ∀ rs g, d = .tuple [.tuple rs, g] → ∀ r ∈ rs, szS r
/-- the error is told with these fields -/
def Eb (C : Addr) (E : XK) (H : Hp) (p : Str) (n : Option Nat) : Prop := ∀ (H' : Hp) (dx : Addr), Same H H' → H' dx = some (.xd [("number", wv n), ("part", .str p)]) → E (.ref C) (some dx) H'
theorem Eb.same {C : Addr} {E : XK} {H H' : Hp} {p : Str} {n : Option Nat} (h : Eb C E H p n) (s : Same H H') : Eb C E H' p n := fun H2 dx s2 e => h H2 dx (s.trans s2) e
def spNeedR (C : Addr) : Sp := fun vs H Q E => ∃ (v : V) (d : PyData), vs = [v] ∧ Da H v d ∧ SzR d ∧ match ffD d with
  | none => ∀ H', Same H H' → Q v H'
  | some r => Eb C E H r.1 r.2
theorem rule_some {d : PyData} {t : T3} (h : ruleD d = some t) : d = .tuple [.int t.1, .str t.2.1, .int t.2.2] := by
  match d, h with
  | .tuple [a, .str x, b], h =>
    have h : (match numD 200 a, numD 200 b with
      | some i, some j => if signD x = true then some (i, x, j) else none
      | _, _ => none) = some t := h
    cases ha : numD 200 a with
    | none =>
      rw [ha] at h
      cases h
    | some i =>
      cases hb : numD 200 b with
      | none =>
        rw [ha, hb] at h
        cases h
      | some j =>
        rw [ha, hb] at h
        have h9 : (if signD x = true then some (i, x, j) else none) = some t := h
        clear h
        obtain ⟨rfl, _⟩ := numD_some ha
        obtain ⟨rfl, _⟩ := numD_some hb
        by_cases c : signD x = true
        · rw [if_pos c] at h9
          cases h9
          rfl
        · rw [if_neg c] at h9
          cases h9
theorem rule_at {H : Hp} {v : V} {d : PyData} {t : T3} (h : Da H v d) (e : ruleD d = some t) : ∃ a, v = .ref a ∧ H a = some (.tup [.int t.1, .str t.2.1, .int t.2.2]) := by
  have z := rule_some e
  subst z
  cases h with
  | tup e all =>
    match all with
    | .cons (.int _) (.cons (.str _) (.cons (.int _) .nil)) => exact ⟨_, rfl, e⟩
theorem ff_len {ds : List PyData} (h : ds.length ≠ 2) : ffD (.tuple ds) = some ((("form" : Str), (none : Option Nat))) := by
  match ds, h with
  | [], _ => rfl
  | [x], _ => cases x <;> rfl
  | [_, _], h => exact absurd rfl h
  | x :: y :: _ :: _, _ => cases x <;> cases y <;> rfl
theorem ff_tup {dx dy : PyData} (h : isTup dx = false ∨ isTup dy = false) : ffD (.tuple [dx, dy]) = some ((("form" : Str), (none : Option Nat))) := by
  cases dx <;> cases dy <;> first | rfl | (rcases h with h | h <;> cases h)
theorem bad_heap {H : Hp} {C a dx : Addr} {x y : V} (na : H a = none) (hn : upd H a (exo a C none) dx = none) (ne : dx ≠ a) :
    (upd (upd (upd (upd H a (exo a C none)) dx (exd dx [("part", x)])) a (exo a C (some dx))) dx (exd dx [("number", y), ("part", x)])) a = some (exo a C (some dx)) ∧
    Same H (upd (delH (upd (upd (upd (upd H a (exo a C none)) dx (exd dx [("part", x)])) a (exo a C (some dx))) dx (exd dx [("number", y), ("part", x)])) a) dx (.xd [("number", y), ("part", x)])) := by
  have hd : H dx = none := by
    rw [upd_ne ne] at hn
    exact hn
  refine ⟨?_, fun b o e => ?_⟩
  · rw [upd_ne ne.symm]
    exact upd_same
  · have h1 := ne_of_none e na
    have h2 := ne_of_none e hd
    rw [upd_ne h2, delH_ne h1, upd_ne h2, upd_ne h1, upd_ne h2, upd_ne h1]
    exact e
section
variable {P : Program} {w : World} {K : PySem.W.Frag} {mg : Str → Option Value} {base : Heap}
theorem scNeedR : FnScope ["thing", "rules", "good", "number", "rule", "state"] ["thing"] (defScope sNeedR) := ⟨rfl, rfl, rfl, by decide +kernel, rfl, by decide +kernel, by decide +kernel⟩
theorem ok_needR (R : Rs K mg) {f : Addr} {fd : FuncData} (F : Fun K "need_reader" "need_reader" sNeedR f fd) : FnOk P w K mg base (L2.CX P w) 3 f fd ["thing"] (spNeedR R.B.C) := by
  have GN : FnOk P w K mg base CX0 1 R.Z.fN R.Z.dN ["thing", "many"] spNumD := ok_numD R.Z.N R.Z.T
  have GU : FnOk P w K mg base CX0 2 R.fU R.dU ["thing"] spRule := ok_rule R
  have GB : FnOk P w K mg base CX0 1 R.B.f R.B.d ["self", "part", "number"] (spTwo R.B.C "part" "number") := ok_BadReader R.B.F R.B.T R.B.I R.B.n0 R.B.n1
  refine F.okX scNeedR (fun vs H Q E h => ?_) (fun cdv A outer s H vs Q E hr h => ?_)
  · obtain ⟨v, d, rfl, _⟩ := h
    rfl
  · obtain ⟨v, d, rfl, da, sz, q⟩ := h
    obtain ⟨tm, eM⟩ := R.states
    have r1 := hr.mono (j := 1) (by omega)
    have hu := hu_of hr
    have hu0 : (A.deeper (PyProof.Rows.envOfC "need_reader" (defScope sNeedR) s.heap.objs.size f cdv)).units < cLine := by omega
    refine ⟨_, pss_cons (ps_if (pw_or (pt_not (pt_val (pe_callB call_isi (by rfl) R.Z.T.isi PyProof.Rows.boot_isinstance (pa_cons (pv 0) (pa_cons (pe_bltn (v := .ty "tuple") (by rfl) R.Z.T.tuple (by decide +kernel) rfl) pa_nil)))))
        (pw_or1 (pt_cmpR op_ne (pe_callB call_len_seq (by rfl) R.Z.T.len PySem.boot_len (pa_cons (pv 0) pa_nil)) pe_int (nomark _)))).pt
        (pss_one (ps_raise rfl (takes_of rfl rfl rfl rfl) (pmk_own3 rfl (pe_new R.B.T R.B.iC R.B.tI GB hr (kb_pos R.B.b rfl) pass0 (by rfl) R.B.m (pa_cons pe_str (pa_cons pe_non pa_nil)))))) pss_nil)
      (pss_cons (ps_asg (pv 0) (pg_tup rfl (pgs_cons (pg_name (i := 1) scNeedR.nd rfl (Or.inl rfl)) (pgs_cons (pg_name (i := 2) scNeedR.nd rfl (Or.inl rfl)) pgs_nil))))
      (pss_cons (ps_if (pw_or (pt_not (pt_val (pe_callB call_isi (by rfl) R.Z.T.isi PyProof.Rows.boot_isinstance (pa_cons (pv 1) (pa_cons (pe_bltn (v := .ty "tuple") (by rfl) R.Z.T.tuple (by decide +kernel) rfl) pa_nil)))))
        (pw_or1 (pt_not (pt_val (pe_callB call_isi (by rfl) R.Z.T.isi PyProof.Rows.boot_isinstance (pa_cons (pv 2) (pa_cons (pe_bltn (v := .ty "tuple") (by rfl) R.Z.T.tuple (by decide +kernel) rfl) pa_nil))))))).pt
        (pss_one (ps_raise rfl (takes_of rfl rfl rfl rfl) (pmk_own3 rfl (pe_new R.B.T R.B.iC R.B.tI GB hr (kb_pos R.B.b rfl) pass0 (by rfl) R.B.m (pa_cons pe_str (pa_cons pe_non pa_nil)))))) pss_nil)
      (pss_cons (ps_for (passes_of rfl) rfl (pi_enumT (by rfl) R.Z.en (pa_cons (pv 1) pa_nil)) (pg_tup rfl (pgs_cons (pg_name (i := 3) scNeedR.nd rfl (Or.inl rfl)) (pgs_cons (pg_name (i := 4) scNeedR.nd rfl (Or.inl rfl)) pgs_nil)))
        (pss_one (ps_if (pw_or (pt_not (pt_val (pe_call GU hr (by rfl) R.mU R.U.kp R.bU .nil pass0 (pa_cons (pv 4) pa_nil))))
          (pw_or1 (pw_and (pt_cmpR op_gt (pv 3) pe_int (nomark _)) (pw_and1 (pt_cmpR (op_leIS hu0) (pe_slice sl_tupS (pv 4) po_none (po_some pe_int)) (pe_slice sl_tupS (pe_ix ix_tup (pv 1) (pe_op op_sub (pv 3) pe_int) (fun _ _ => rfl)) po_none (po_some pe_int)) (nomark _)))).pt)).pt
          (pss_one (ps_raise rfl (takes_of rfl rfl rfl rfl) (pmk_own3 rfl (pe_new R.B.T R.B.iC R.B.tI GB hr (kb_pos R.B.b rfl) pass0 (by rfl) R.B.m (pa_cons pe_str (pa_cons (pv 3) pa_nil)))))) pss_nil)))
      (pss_cons (ps_for (passes_of rfl) rfl (pi_enumT (by rfl) R.Z.en (pa_cons (pv 2) pa_nil)) (pg_tup rfl (pgs_cons (pg_name (i := 3) scNeedR.nd rfl (Or.inl rfl)) (pgs_cons (pg_name (i := 5) scNeedR.nd rfl (Or.inl rfl)) pgs_nil)))
        (pss_one (ps_if (pw_or (pt_not (pt_val (pe_call GN r1 (by rfl) R.Z.mN R.Z.N.kp R.Z.bN .nil pass0 (pa_cons (pv 5) (pa_cons (pe_glob (v := .int 200) (by rfl) eM ⟨_, rfl⟩) pa_nil)))))
          (pw_or1 (pw_and (pt_cmpR op_gt (pv 3) pe_int (nomark _)) (pw_and1 (pt_cmpR op_le (pv 5) (pe_ix ix_tup (pv 2) (pe_op op_sub (pv 3) pe_int) (fun _ _ => rfl)) (nomark _)))).pt)).pt
          (pss_one (ps_raise rfl (takes_of rfl rfl rfl rfl) (pmk_own3 rfl (pe_new R.B.T R.B.iC R.B.tI GB hr (kb_pos R.B.b rfl) pass0 (by rfl) R.B.m (pa_cons pe_str (pa_cons (pv 3) pa_nil)))))) pss_nil)))
      (pss_one (ps_ret (pv 0))))))), ?_⟩
    obtain ⟨t, ty, kt, _, _⟩ := da.ty (K := K)
    refine ⟨_, rfl, v, .ty "tuple", t, .type "tuple", isTup d, rfl, .ty "tuple", ty, kt, isTup d, rfl, ?_⟩
    -- the raise, from any state that came so far
    have fin : ∀ {H1 : Hp} {p : Str} {n : Option Nat} {a : Addr} (s1 : Same H H1) (na : H1 a = none) (qe : Eb R.B.C E H p n) (dx : Addr), upd H1 a (exo a R.B.C none) dx = none → dx ≠ a →
        ∃ (a0 C d : Addr) (fs : List (Str × V)), V.ref a = .ref a0 ∧ (upd (upd (upd (upd H1 a (exo a R.B.C none)) dx (exd dx [("part", V.str p)])) a (exo a R.B.C (some dx))) dx (exd dx [("number", wv n), ("part", V.str p)])) a0 = some (exo a0 C (some d)) ∧ d ≠ a0 ∧
          (upd (upd (upd (upd H1 a (exo a R.B.C none)) dx (exd dx [("part", V.str p)])) a (exo a R.B.C (some dx))) dx (exd dx [("number", wv n), ("part", V.str p)])) d = some (exd d fs) ∧ Fr0 H a0 ∧
          Raises (cxOf (L2.CX P w) P w K mg base ["thing", "rules", "good", "number", "rule", "state"] "need_reader" (defScope sNeedR) f cdv A outer s H E) (.ref C) ∧
          E (.ref C) (some d) (upd (delH (upd (upd (upd (upd H1 a (exo a R.B.C none)) dx (exd dx [("part", V.str p)])) a (exo a R.B.C (some dx))) dx (exd dx [("number", wv n), ("part", V.str p)])) a0) d (.xd fs)) := by
      intro H1 p n a s1 na qe dx hn ne
      obtain ⟨b1, b2⟩ := bad_heap (x := V.str p) (y := wv n) na hn ne
      exact ⟨a, R.B.C, dx, _, rfl, b1, ne, upd_same, fr0_none (same_none s1 na), raises_own R.B.su R.B.ty, qe _ dx (s1.trans b2) upd_same⟩
    have form : ffD d = some ((("form" : Str), (none : Option Nat))) → Eb R.B.C E H "form" none := fun e => by
      rw [e] at q
      exact q
    cases da with
    | non => exact iteT ⟨rfl, rfl, (by decide), fun a na => ⟨a, .str "form", .non, rfl, upd_same, fun dx hn ne => ⟨rfl, fin (n := none) (Same.refl H) na (form rfl) dx hn ne⟩⟩⟩
    | bl b => exact iteT ⟨rfl, rfl, (by decide), fun a na => ⟨a, .str "form", .non, rfl, upd_same, fun dx hn ne => ⟨rfl, fin (n := none) (Same.refl H) na (form rfl) dx hn ne⟩⟩⟩
    | int b => exact iteT ⟨rfl, rfl, (by decide), fun a na => ⟨a, .str "form", .non, rfl, upd_same, fun dx hn ne => ⟨rfl, fin (n := none) (Same.refl H) na (form rfl) dx hn ne⟩⟩⟩
    | str b => exact iteT ⟨rfl, rfl, (by decide), fun a na => ⟨a, .str "form", .non, rfl, upd_same, fun dx hn ne => ⟨rfl, fin (n := none) (Same.refl H) na (form rfl) dx hn ne⟩⟩⟩
    | lst e h => exact iteT ⟨rfl, rfl, (by decide), fun a na => ⟨a, .str "form", .non, rfl, upd_same, fun dx hn ne => ⟨rfl, fin (n := none) (Same.refl H) na (form rfl) dx hn ne⟩⟩⟩
    | @tup th xs ds e all =>
      refine iteF ?_
      refine ⟨_, rfl, th, _, rfl, .inr (SqT.of e), rfl, _, rfl, ?_⟩
      have ln := all.len
      by_cases h2 : xs.length = 2
      · refine iteF' (by simp [h2]) ?_
        match xs, ds, all, h2 with
        | [x, y], [dx, dy], .cons h1 (.cons h3 .nil), _ =>
          refine ⟨_, rfl, th, _, rfl, SqT.of e, rfl, _, _, rfl, _, _, rfl, rfl, ?_⟩
          obtain ⟨t1, ty1, kt1, _, _⟩ := h1.ty (K := K)
          refine ⟨_, rfl, x, .ty "tuple", t1, .type "tuple", isTup dx, rfl, .ty "tuple", ty1, kt1, isTup dx, rfl, ?_⟩
          by_cases c1 : isTup dx = true
          · rw [c1]
            refine iteF ?_
            obtain ⟨t2, ty2, kt2, _, _⟩ := h3.ty (K := K)
            refine ⟨_, rfl, y, .ty "tuple", t2, .type "tuple", isTup dy, rfl, .ty "tuple", ty2, kt2, isTup dy, rfl, ?_⟩
            by_cases c2 : isTup dy = true
            · rw [c2]
              refine iteF ?_
              obtain ⟨ra, rv, rs, rfl, rfl, re, rall⟩ := tup_of h1 c1
              · obtain ⟨ga, gv, gs, rfl, rfl, ge, gall⟩ := tup_of h3 c2
                · have q : match (match badR rs none 0 with
                    | some k => some ((("rules" : Str), some k))
                    | none => match badG gs none 0 with
                      | some k => some ((("good" : Str), some k))
                      | none => none) with
                    | none => ∀ H', Same H H' → Q (.ref th) H'
                    | some r => Eb R.B.C E H r.1 r.2 := q
                  have szr : ∀ r ∈ rs, szS r := sz rs _ rfl
                  refine ⟨_, rfl, ra, _, rfl, SqT.of re, for_it (walk_enumT (xs := rv)) (fun i σ H' => ∃ (v3 v4 : Option V) (last : Option IS), σ = [some (.ref th), some (.ref ra), some (.ref ga), v3, v4, none] ∧ Same H H' ∧
                      badR rs none 0 = badR (rs.drop i) last i ∧ (i = 0 → last = none) ∧ ∀ j, i = j + 1 → ∃ d t, rs[j]? = some d ∧ ruleD d = some t ∧ last = some (t.1, t.2.1))
                    ⟨none, none, none, rfl, Same.refl H, rfl, fun _ => rfl, fun j hj => by omega⟩ (fun i σ H' _ ⟨_, _, _, _, z, _⟩ => SqT.of (z _ _ re)) ?_ ?_⟩
                  · rintro i x σ H1 H2 hi ⟨v3, v4, last, rfl, s1, inv, l0, l1⟩ ⟨T, xi, xo, rfl, nT, rfl, g1, g2⟩
                    cases g1
                    obtain ⟨d, hd, dv⟩ := rall.at_ g2
                    rw [drop_at hd] at inv
                    have s2 := s1.trans (same_upd (o := HO.tup [V.int (i : Nat), xo]) nT)
                    have dv2 := Da.same s2 _ _ dv
                    refine ⟨T, _, rfl, SqT.of upd_same, rfl, _, _, rfl, _, _, rfl, rfl, ?_⟩
                    refine ⟨_, rfl, xo, d, rfl, dv2, szr d (List.mem_of_getElem? hd), _, rfl, ?_⟩
                    cases ed : ruleD d with
                    | none =>
                      rw [badR_none ed] at inv
                      rw [inv] at q
                      exact iteT ⟨_, rfl, rfl, rfl, (by show 2 ≤ 1000; decide), fun a na => ⟨a, .str "rules", .int (i : Nat), rfl, upd_same, fun dx hn ne => ⟨rfl, fin (n := some i) s2 na q dx hn ne⟩⟩⟩
                    | some t =>
                      rw [badR_some ed] at inv
                      refine iteF ?_
                      have goOn : lbR last t = false → ∃ (v3' v4' : Option V) (last' : Option IS), [some (V.ref th), some (V.ref ra), some (V.ref ga), some (V.int (i : Nat)), some xo, none] = [some (.ref th), some (.ref ra), some (.ref ga), v3', v4', none] ∧
                          badR rs none 0 = badR (rs.drop (i + 1)) last' (i + 1) ∧ (i + 1 = 0 → last' = none) ∧ ∀ j, i + 1 = j + 1 → ∃ d t, rs[j]? = some d ∧ ruleD d = some t ∧ last' = some (t.1, t.2.1) := fun z => by
                        rw [z, if_neg (by simp)] at inv
                        exact ⟨_, _, _, rfl, inv, fun h => by omega, fun j h => by
                          obtain rfl : i = j := by omega
                          exact ⟨d, t, hd, ed, rfl⟩⟩
                      refine ⟨_, rfl, (i : Int), 0, rfl, rfl, _, rfl, ?_⟩
                      refine ite2 (fun z => ?_) (fun z => ?_)
                      · have z1 : (0 : Int) < i := of_decide_eq_true z
                        obtain ⟨j, rfl⟩ : ∃ j, i = j + 1 := ⟨i - 1, by omega⟩
                        obtain ⟨dp, tp, hp1, hp2, rfl⟩ := l1 j rfl
                        obtain ⟨vp, hvp, dvp⟩ := rall.at' hp1
                        have dvp2 := Da.same s2 _ _ dvp
                        obtain ⟨a1, rfl, ha1⟩ := rule_at dv2 ed
                        obtain ⟨a2, rfl, ha2⟩ := rule_at dvp2 hp2
                        refine ⟨_, rfl, _, rfl, a1, _, rfl, ha1, fun pa Ha sa ea => ?_⟩
                        refine ⟨_, rfl, _, rfl, _, _, rfl, rfl, ra, _, (j : Int), .ref a2, rfl, ?_, SqT.of (sa _ _ (s2 _ _ re)), atI_nat hvp, _, rfl, a2, _, rfl, sa _ _ ha2, fun pb Hb sb eb => ?_⟩
                        · show V.int (((j + 1 : Nat) : Int) - 1) = V.int (j : Int)
                          congr 1
                          omega
                        rw [show (2 : Int) = ((2 : Nat) : Int) from rfl, cutTo] at ea eb
                        refine ⟨pa, pb, (t.1, t.2.1), (tp.1, tp.2.1), rfl, rfl, sb _ _ ea, eb, _, rfl, ?_⟩
                        have s3 := (s2.trans sa).trans sb
                        have eL : lbR (some (tp.1, tp.2.1)) t = !ltIS (tp.1, tp.2.1) (t.1, t.2.1) := rfl
                        cases eb2 : ltIS (tp.1, tp.2.1) (t.1, t.2.1) with
                        | true =>
                          obtain ⟨w1, w2, w3, w4, w5⟩ := goOn (by rw [eL, eb2]; rfl)
                          exact iteF ⟨w1, w2, w3, w4, s3, w5⟩
                        | false =>
                          rw [eL, eb2, if_pos (show (!false) = true from rfl)] at inv
                          rw [inv] at q
                          exact iteT ⟨_, rfl, rfl, rfl, (by show 2 ≤ 1000; decide), fun a na => ⟨a, .str "rules", .int ((j + 1 : Nat) : Nat), rfl, upd_same, fun dx hn ne => ⟨rfl, fin (n := some (j + 1)) s3 na q dx hn ne⟩⟩⟩
                      · have i0 : i = 0 := by
                          have : ¬ (0 : Int) < i := fun k => z (decide_eq_true k)
                          omega
                        have l9 := l0 i0
                        subst l9
                        obtain ⟨w1, w2, w3, w4, w5⟩ := goOn rfl
                        exact iteF ⟨w1, w2, w3, w4, s2, w5⟩
                  · rintro σ H1 ⟨v3, v4, last, rfl, s1, inv, _, _⟩
                    rw [rall.len, List.drop_length] at inv
                    have inv : badR rs none 0 = none := inv
                    rw [inv] at q
                    have q : match (match badG gs none 0 with
                        | some k => some ((("good" : Str), some k))
                        | none => none) with
                      | none => ∀ H', Same H H' → Q (.ref th) H'
                      | some r => Eb R.B.C E H r.1 r.2 := q
                    refine ⟨_, rfl, ga, _, rfl, SqT.of (s1 _ _ ge), for_it (walk_enumT (xs := gv)) (fun i σ H' => ∃ (v3 v5 : Option V) (last : Option Int), σ = [some (.ref th), some (.ref ra), some (.ref ga), v3, v4, v5] ∧ Same H H' ∧
                        badG gs none 0 = badG (gs.drop i) last i ∧ (i = 0 → last = none) ∧ ∀ j, i = j + 1 → ∃ d t, gs[j]? = some d ∧ numD 200 d = some t ∧ last = some t)
                      ⟨v3, none, none, rfl, s1, rfl, fun _ => rfl, fun j hj => by omega⟩ (fun i σ H' _ ⟨_, _, _, _, z, _⟩ => SqT.of (z _ _ ge)) ?_ ?_⟩
                    · rintro i x σ H1 H2 hi ⟨v3, v5, last, rfl, s1, inv, l0, l1⟩ ⟨T, xi, xo, rfl, nT, rfl, g1, g2⟩
                      cases g1
                      obtain ⟨d, hd, dv⟩ := gall.at_ g2
                      rw [drop_at hd] at inv
                      have s2 := s1.trans (same_upd (o := HO.tup [V.int (i : Nat), xo]) nT)
                      have dv2 := Da.same s2 _ _ dv
                      refine ⟨T, _, rfl, SqT.of upd_same, rfl, _, _, rfl, _, _, rfl, rfl, ?_⟩
                      refine ⟨_, rfl, xo, d, 200, rfl, dv2, _, rfl, ?_⟩
                      cases ed : numD 200 d with
                      | none =>
                        rw [badG_none ed] at inv
                        rw [inv] at q
                        exact iteT ⟨_, rfl, rfl, rfl, (by show 2 ≤ 1000; decide), fun a na => ⟨a, .str "good", .int (i : Nat), rfl, upd_same, fun dx hn ne => ⟨rfl, fin (n := some i) s2 na q dx hn ne⟩⟩⟩
                      | some t =>
                        rw [badG_some ed] at inv
                        refine iteF ?_
                        have goOn : lbG last t = false → ∃ (v3' v5' : Option V) (last' : Option Int), [some (V.ref th), some (V.ref ra), some (V.ref ga), some (V.int (i : Nat)), v4, some xo] = [some (.ref th), some (.ref ra), some (.ref ga), v3', v4, v5'] ∧
                            badG gs none 0 = badG (gs.drop (i + 1)) last' (i + 1) ∧ (i + 1 = 0 → last' = none) ∧ ∀ j, i + 1 = j + 1 → ∃ d t, gs[j]? = some d ∧ numD 200 d = some t ∧ last' = some t := fun z => by
                          rw [z, if_neg (by simp)] at inv
                          exact ⟨_, _, _, rfl, inv, fun h => by omega, fun j h => by
                            obtain rfl : i = j := by omega
                            exact ⟨d, t, hd, ed, rfl⟩⟩
                        refine ⟨_, rfl, (i : Int), 0, rfl, rfl, _, rfl, ?_⟩
                        refine ite2 (fun z => ?_) (fun z => ?_)
                        · have z1 : (0 : Int) < i := of_decide_eq_true z
                          obtain ⟨j, rfl⟩ : ∃ j, i = j + 1 := ⟨i - 1, by omega⟩
                          obtain ⟨dp, tp, hp1, hp2, rfl⟩ := l1 j rfl
                          obtain ⟨vp, hvp, dvp⟩ := gall.at' hp1
                          obtain ⟨rfl, _⟩ := numD_some ed
                          obtain ⟨rfl, _⟩ := numD_some hp2
                          cases dv2
                          cases dvp
                          refine ⟨_, rfl, _, rfl, _, rfl, _, _, rfl, rfl, ga, _, (j : Int), .int tp, rfl, ?_, SqT.of (s2 _ _ ge), atI_nat hvp, t, tp, rfl, rfl, _, rfl, ?_⟩
                          · show V.int (((j + 1 : Nat) : Int) - 1) = V.int (j : Int)
                            congr 1
                            omega
                          have eL : lbG (some tp) t = decide (t ≤ tp) := rfl
                          by_cases c : t ≤ tp
                          · rw [eL, decide_eq_true c, if_pos rfl] at inv
                            rw [inv] at q
                            exact iteT' (decide_eq_true c) ⟨_, rfl, rfl, rfl, (by show 2 ≤ 1000; decide), fun a na => ⟨a, .str "good", .int ((j + 1 : Nat) : Nat), rfl, upd_same, fun dx hn ne => ⟨rfl, fin (n := some (j + 1)) s2 na q dx hn ne⟩⟩⟩
                          · obtain ⟨w1, w2, w3, w4, w5⟩ := goOn (by rw [eL, decide_eq_false c])
                            exact iteF' (decide_eq_false c) ⟨w1, w2, w3, w4, s2, w5⟩
                        · have i0 : i = 0 := by
                            have : ¬ (0 : Int) < i := fun k => z (decide_eq_true k)
                            omega
                          have l9 := l0 i0
                          subst l9
                          obtain ⟨w1, w2, w3, w4, w5⟩ := goOn rfl
                          exact iteF ⟨w1, w2, w3, w4, s2, w5⟩
                    · rintro σ H1 ⟨v3, v5, last, rfl, s1, inv, _, _⟩
                      rw [gall.len, List.drop_length] at inv
                      have inv : badG gs none 0 = none := inv
                      rw [inv] at q
                      exact ⟨_, rfl, q _ s1⟩
            · have c2' : isTup dy = false := by simpa using c2
              rw [c2']
              exact iteT ⟨rfl, rfl, (by decide), fun a na => ⟨a, .str "form", .non, rfl, upd_same, fun dx hn ne => ⟨rfl, fin (n := none) (Same.refl H) na (form (ff_tup (.inr c2'))) dx hn ne⟩⟩⟩
          · have c1' : isTup dx = false := by simpa using c1
            rw [c1']
            exact iteT ⟨rfl, rfl, (by decide), fun a na => ⟨a, .str "form", .non, rfl, upd_same, fun dx hn ne => ⟨rfl, fin (n := none) (Same.refl H) na (form (ff_tup (.inl c1'))) dx hn ne⟩⟩⟩
      · refine iteT' (by simp; omega) ?_
        exact ⟨rfl, rfl, (by decide), fun a na => ⟨a, .str "form", .non, rfl, upd_same, fun dx hn ne => ⟨rfl, fin (n := none) (Same.refl H) na (form (ff_len (by omega))) dx hn ne⟩⟩⟩
end
end K50

set_option Elab.async false
set_option linter.all false
set_option maxRecDepth 100000
set_option maxHeartbeats 4000000
/-! d.get(y, x) where y may be None; dict(pairs) with tuples as keys. -/
namespace L2
open PySem PySem.Spec PyProof.Rows
/-- what the dict holds at y, None among what may be asked -/
def DGetN (H : Hp) (a : Addr) (y : V) (r : Option V) : Prop := DGet H a y r ∨ ((∃ kvs, Rd H a (.dK kvs)) ∧ y = .non ∧ r = none)
section
variable {X : Cx} {pins : List (Addr × Obj)} {σ : St} {H : Hp} {s : Shared} {a : Addr} {y d : V} {u r : Value} {o : Option V} {A : Around} {E : Value → Shared → Prop}
theorem d_get2N {Q : Value → Shared → Prop} (hu : A.units + 1 < cLine) (I : Inv X pins σ H s) (g : DGetN H a y o) (ry : RelV y u) (rd : RelV d r) (h : ∀ w' s', Inv X pins σ H s' → RelV (o.getD d) w' → Q w' s') :
    wpAny (model X.prog X.w) A (call (.builtin "dict.get") [.ref a, u, r]) Q E s := by
  rcases g with g | ⟨⟨kvs, e⟩, ey, l⟩
  · exact d_get2 hu I g ry rd h
  · subst ey
    subst l
    obtain rfl : u = Value.none := ry
    obtain ⟨z, hd, vs, rel, dd⟩ := dk_rd I.hok e
    obtain ⟨f, mf, fn⟩ := none_map dd
    refine call_meetsIn PySem.F.slot_dict_get dd.typeIs PySem.F.entry_dict_get (PySem.F.args_dict_get_3 _ _ _) (meets_dict_get_default (noneKind X.prog X.w) a (k := none) rfl hd r) ⟨f, mf, h _ _ (I.tok _) ?_⟩
    rw [fn]
    exact rd
end
def tDGet2N (td ty tx : TE) : TE := fun σ H Q => td σ H fun x H1 => ∃ a, x = .ref a ∧ IsD H1 a ∧ ty σ H1 fun y H2 => tx σ H2 fun z H3 => ∃ o, DGetN H3 a y o ∧ Q (o.getD z) H3
section
variable {X : Cx} {o e f : Expr} {apos cpos : Pos} {td ty tx : TE}
theorem pe_dget2N (hu : X.A.units + 1 < cLine) (ho : PE X o td) (he : PE X e ty) (hf : PE X f tx) (m : M2 X o "get" apos e f cpos) : PE X (.Call (.Attribute o "get" apos) [e, f] [] cpos) (tDGet2N td ty tx) := by
  refine ⟨fun pins s σ H Q I h => ?_⟩
  refine wpAny_Call_method m.base m.few m.line PySem.F.plainAttrs_dict PySem.F.slot_dict_get PySem.F.type_dict_get (thn (ho.run pins s σ H _ I h) fun u s1 ⟨x, H1, I1, rx, a, ex, d, q1⟩ => ?_)
  subst ex
  obtain rfl : u = Value.ref a := rx
  obtain ⟨t1, t2, _⟩ := isD_at I1 d
  refine ⟨t1, t2, ?_⟩
  rw [m.trees]
  refine Calls.callWith_builtin rfl (Calls.evalArgs_plain (Calls.spliced_cons (thn (he.run pins s1 σ H1 _ I1 q1) fun iv s2 ⟨y, H2, I2, ry, q2⟩ =>
    Calls.spliced_cons (thn (hf.run pins s2 σ H2 _ I2 q2) fun fv s3 ⟨z, H3, I3, rz, ov, g, q3⟩ => Calls.spliced_nil ?_))))
  exact d_get2N hu I3 g ry rz fun w' s4 I4 rw' => ⟨_, H3, I4, rw', q3⟩
end
/-! ### dict(pairs) -/
/-- a pair at q: a key tuple at b, a value -/
structure PairE where
  q : Addr
  b : Addr
  k : List Key
  v : V
def OkE (H : Hp) (e : PairE) : Prop := H e.q = some (.tup [.ref e.b, e.v]) ∧ H e.b = some (.tup (e.k.map kV))
def mergeT (kvs : List (List Key × V)) : List (List Key × V) := kvs.foldl (fun acc kv => putK acc kv.1 kv.2) []
theorem length_foldT : ∀ (kvs acc : List (List Key × V)), (kvs.foldl (fun acc kv => putK acc kv.1 kv.2) acc).length ≤ acc.length + kvs.length
  | [], acc => Nat.le_refl _
  | kv :: kvs, acc => by
    have a := length_foldT kvs (putK acc kv.1 kv.2)
    have b := length_putK acc kv.1 kv.2
    rw [List.foldl_cons, List.length_cons]
    omega
section
variable {X : Cx} {pins : List (Addr × Obj)} {σ : St} {H : Hp} {s : Shared}
theorem tpairs (I : Inv X pins σ H s) : ∀ {es : List PairE}, (∀ e ∈ es, OkE H e) → ∃ ps : List (List Key × Addr × Value), ps.length = es.length ∧ ∀ (i : Nat) (e : PairE), es[i]? = some e → ∃ u, ps[i]? = some (e.k, e.b, u) ∧ RelV e.v u ∧ IsTup s.heap e.q #[.ref e.b, u]
  | [], _ => ⟨[], rfl, fun i e h => by simp at h⟩
  | e :: es, h => by
    obtain ⟨ps, hl, hp⟩ := tpairs I (es := es) fun x hx => h x (List.mem_cons_of_mem _ hx)
    obtain ⟨its, rv, ht, _⟩ := I.tuple (SqT.of (h e (List.mem_cons_self ..)).1)
    obtain ⟨u, y, ei, ru, ry⟩ := vals2 rv
    subst ei
    obtain rfl : u = Value.ref e.b := ru
    refine ⟨(e.k, e.b, y) :: ps, by rw [List.length_cons, List.length_cons, hl], fun i x hx => ?_⟩
    cases i with
    | zero =>
      cases hx
      exact ⟨y, rfl, ry, ht⟩
    | succ i => exact hp i x (by simpa using hx)
theorem KT.all {H : Hp} : ∀ {es : List PairE} {ps : List (List Key × Addr × Value)} {kvs : List (List Key × V)} {xs : List (List Key × Addr × Value)}, ps.length = es.length →
    (∀ (i : Nat) (e : PairE), es[i]? = some e → ∃ u, ps[i]? = some (e.k, e.b, u) ∧ RelV e.v u) → (∀ e ∈ es, H e.b = some (.tup (e.k.map kV))) → KT H kvs xs → KT H ((es.map fun e => (e.k, e.v)).foldl (fun acc kv => putK acc kv.1 kv.2) kvs) (PySem.storedAllH xs ps)
  | [], [], _, _, _, _, _, r => r
  | [], _ :: _, _, _, h, _, _, _ => by cases h
  | _ :: _, [], _, _, h, _, _, _ => by cases h
  | e :: es, p :: ps, kvs, xs, hl, hp, hb, r => by
    obtain ⟨u, h1, h2⟩ := hp 0 e rfl
    cases h1
    exact KT.all (es := es) (ps := ps) (by simpa using hl) (fun i x hx => hp (i + 1) x (by simpa using hx)) (fun x hx => hb x (List.mem_cons_of_mem _ hx)) (KT.put r e.k (hb e (List.mem_cons_self ..)) h2)
end
def rDictT (K : PySem.W.Frag) : List V → Hp → VK → Prop := fun xs H Q => ∃ (a : Addr) (es : List PairE), xs = [.ref a] ∧ SqL K H a (es.map fun e => V.ref e.q) ∧ (∀ e ∈ es, OkE H e) ∧
  ∀ p, H p = none → Q (.ref p) (upd H p (.dT (mergeT (es.map fun e => (e.k, e.v)))))
theorem call_dictT {X : Cx} (hcalm : X.calm = true) (hu : X.A.units + 64 < cLine) : CallR X (.type "dict") (rDictT X.K) := by
  intro pins s σ H xs us Q I r q
  obtain ⟨a, es, ex, hq, hp, q⟩ := q
  subst ex
  obtain ⟨u, eu, rx⟩ := vals1 r
  subst eu
  cases rx
  obtain ⟨its, rv, pl, hz⟩ := I.list hq
  have ei : its = es.map fun e => Value.ref e.q := by
    have z := refs_at (ps := es.map (·.q)) (us := its) (by rw [List.map_map]; exact rv)
    rw [z, List.map_map]
    rfl
  subst ei
  rw [List.length_map] at hz
  obtain ⟨ps, hl, hps⟩ := tpairs I hp
  obtain ⟨o, n, ho, hc, hd, hdat⟩ := pl
  have key : ∀ h', (∀ b ob, s.heap.get? b = some ob → h'.get? b = some ob) → ∀ x ∈ ps, (tupleKind (mixKind X.prog X.w)).is h' x.1 x.2.1 := fun h' k x hx => by
    obtain ⟨i, hi, e⟩ := List.getElem_of_mem hx
    have hie : i < es.length := by rw [← hl]; exact hi
    obtain ⟨u, h1, _, _⟩ := hps i es[i] (List.getElem?_eq_getElem hie)
    rw [List.getElem?_eq_getElem hi, e] at h1
    cases h1
    obtain ⟨o2, its2, n2, w1, w2, w3, w4⟩ := key_of I.hok (hp _ (List.getElem_mem hie)).2
    exact ⟨o2, its2, n2, k _ _ w1, w2, w3, w4⟩
  refine call_dict_pairsH (knd := tupleKind (mixKind X.prog X.w)) (ps := ps) (PySem.PairArg.list a (es.map fun e => Value.ref e.q).toArray (fun j => (es.map (·.q)).getD j 0) (ps.map fun x => (Value.ref x.2.1, x.2.2))) (I.ok.hd hcalm) (by show X.A.units + 2 < cLine; omega)
    ⟨⟨o, n, ho, hc, hd, hdat⟩, by simp [hl], fun j k v hj => ?_⟩ ⟨by simp, fun i key v hk => ?_⟩ (fun h' k x hx => ?_) (by simp only [List.length_map]; omega) fun h' tk hd' k => ?_
  · rw [List.getElem?_map] at hj
    cases e : ps[j]? with
    | none =>
      rw [e] at hj
      cases hj
    | some x =>
      rw [e] at hj
      cases hj
      have jl := (List.getElem?_eq_some_iff.mp e).1
      have je : j < es.length := by rw [← hl]; exact jl
      obtain ⟨u, h1, _, h3⟩ := hps j es[j] (List.getElem?_eq_getElem je)
      rw [e] at h1
      cases h1
      have eq : (es.map (·.q)).getD j 0 = es[j].q := by
        rw [List.getD_eq_getElem?_getD, List.getElem?_map, List.getElem?_eq_getElem je]
        rfl
      refine ⟨by show _ = some (Value.ref ((es.map (·.q)).getD j 0)); rw [eq]; simp [je], .inl ?_⟩
      show s.heap.IsTuple ((es.map (·.q)).getD j 0) _
      rw [eq]
      obtain ⟨ot, w1, w2, n3, w3⟩ := h3
      exact ⟨ot, w1, w2, n3, w3⟩
  · have hk : (ps.map fun x => (Value.ref x.2.1, x.2.2))[i]? = some (key, v) := hk
    rw [List.getElem?_map] at hk
    cases e : ps[i]? with
    | none =>
      rw [e] at hk
      cases hk
    | some x =>
      rw [e] at hk
      cases hk
      exact ⟨x.1, x.2.1, rfl, rfl⟩
  · refine key (h' := h') (fun b ob e => k b ob (Nat.ne_of_lt (Heap.lt_size e)) (by simp) e) x hx
  · have hm : (s.heap.objs.size == sysModules) = false := beq_eq_false_iff_ne.mpr (Nat.ne_of_gt I.big)
    have fresh : H s.heap.objs.size = none := I.hok.fresh (Nat.le_refl _)
    have hlen : (mergeT (es.map fun e => (e.k, e.v))).length ≤ sizeLine := by
      have := length_foldT (es.map fun e => (e.k, e.v)) []
      rw [List.length_nil, List.length_map, Nat.zero_add] at this
      exact Nat.le_trans this hz
    obtain ⟨q1, es1, ep, hq1, h2, h3, h4, _, h5⟩ := hd'
    have rel := KT.all (H := upd H s.heap.objs.size (.dT (mergeT (es.map fun e => (e.k, e.v))))) (es := es) (ps := ps) (kvs := []) (xs := []) hl (fun i e he => let ⟨u, a1, a2, _⟩ := hps i e he; ⟨u, a1, a2⟩) (fun e he => by rw [upd_ne (ne_of_none (hp e he).2 fresh)]; exact (hp e he).2) .nil
    exact ⟨.ref s.heap.objs.size, _, I.laid (t' := tk) (fun b ob e => k b ob (by simp) e) (Nat.le_refl _) (show ObjOk X.prog X.w _ _ _ (.dT (mergeT (es.map fun e => (e.k, e.v)))) from ⟨hlen, hm, _, rel, q1, es1, ep, hq1, h2, h3, h4, h5⟩), rfl, q _ fresh⟩
end L2

set_option Elab.async false
set_option linter.all false
set_option maxRecDepth 100000
set_option maxHeartbeats 4000000
/-! rows_of. -/
namespace K50
open PySem L2 L2.EV
abbrev sRows : Stmt := top 43
theorem gName_go2 {i : Nat} {v : V} {σ : L2.St} {H : Hp} {k : L2.St → Hp → Prop} (h : k (σ.set i (some v)) H) : gName i v σ H k := h
/-- where the last rule of a state and a sign leads -/
def nx (xs : List T3) (q : Int) (c : Str) : Option Int := xs.foldl (fun o x => if x.1 = q ∧ x.2.1 = c then some x.2.2 else o) none
theorem nx_snoc {xs : List T3} {x : T3} {q : Int} {c : Str} : nx (xs ++ [x]) q c = if x.1 = q ∧ x.2.1 = c then some x.2.2 else nx xs q c := by
  unfold nx
  rw [List.foldl_append]
  rfl
/-- a dict of dicts: for each state its signs -/
structure RB (H H' : Hp) (p : Addr) (n : Nat) (kvs : List (Key × V)) (xs : List T3) : Prop where
  hp : H' p = some (.dK kvs)
  np : H p = none
  few : kvs.length ≤ n
  row : ∀ q v, valV kvs (Sum.inl q) = some v → ∃ a rk, v = .ref a ∧ H' a = some (.dK rk) ∧ H a = none ∧ a ≠ p ∧ rk.length ≤ n ∧ ∀ c, valV rk (Sum.inr c) = (nx xs q c).map V.int
  no : ∀ q, valV kvs (Sum.inl q) = none → ∀ c, nx xs q c = none
  inj : ∀ q q' v, valV kvs (Sum.inl q) = some v → valV kvs (Sum.inl q') = some v → q = q'
  sm : Same H H'
theorem RB.keep {H H' H2 : Hp} {p : Addr} {n : Nat} {kvs : List (Key × V)} {xs : List T3} (R : RB H H' p n kvs xs) (s : Same H' H2) : RB H H2 p n kvs xs :=
  ⟨s _ _ R.hp, R.np, R.few, fun q v h => by
    obtain ⟨a, rk, e, h1, r⟩ := R.row q v h
    exact ⟨a, rk, e, s _ _ h1, r⟩, R.no, R.inj, R.sm.trans s⟩
theorem RB.le {H H' : Hp} {p : Addr} {n m : Nat} {kvs : List (Key × V)} {xs : List T3} (R : RB H H' p n kvs xs) (h : n ≤ m) : RB H H' p m kvs xs :=
  ⟨R.hp, R.np, Nat.le_trans R.few h, fun q v e => by
    obtain ⟨a, rk, e, w1, w2, w3, w4, w5⟩ := R.row q v e
    exact ⟨a, rk, e, w1, w2, w3, Nat.le_trans w4 h, w5⟩, R.no, R.inj, R.sm⟩
/-- a rule more -/
theorem RB.put {H H' : Hp} {p a : Addr} {n : Nat} {kvs rk : List (Key × V)} {xs : List T3} {x : T3} (R : RB H H' p n kvs xs) (hv : valV kvs (Sum.inl x.1) = some (.ref a)) (ha : H' a = some (.dK rk)) (hn : H a = none) (ne : a ≠ p)
    (rl : rk.length ≤ n) (hr : ∀ c, valV rk (Sum.inr c) = (nx xs x.1 c).map V.int) :
    RB H (upd H' a (.dK (putK rk (Sum.inr x.2.1) (.int x.2.2)))) p (n + 1) kvs (xs ++ [x]) := by
  refine ⟨by rw [upd_ne (Ne.symm ne)]; exact R.hp, R.np, Nat.le_succ_of_le R.few, fun q v h => ?_, fun q h c => ?_, R.inj, fun b o e => ?_⟩
  · by_cases c : q = x.1
    · subst c
      rw [hv] at h
      cases h
      refine ⟨a, _, rfl, upd_same, hn, ne, Nat.le_trans (length_putK ..) (by omega), fun c => ?_⟩
      rw [valV_put, nx_snoc]
      by_cases d : c = x.2.1
      · rw [if_pos (congrArg Sum.inr d), if_pos ⟨rfl, d.symm⟩]
        rfl
      · rw [if_neg (fun z => d (Sum.inr.inj z)), if_neg (fun z => d z.2.symm)]
        exact hr c
    · obtain ⟨b, rk2, e, h1, h2, h3, h4, h5⟩ := R.row q v h
      subst e
      have nb : b ≠ a := fun z => c (R.inj q x.1 (.ref b) h (by rw [hv, z]))
      refine ⟨b, rk2, rfl, by rw [upd_ne nb]; exact h1, h2, h3, Nat.le_succ_of_le h4, fun d => ?_⟩
      rw [nx_snoc, if_neg (fun z => c z.1.symm)]
      exact h5 d
  · rw [nx_snoc, if_neg (fun z => ?_)]
    · exact R.no q h c
    · rw [← z.1, hv] at h
      cases h
  · rw [upd_ne (ne_of_none e hn)]
    exact R.sm _ _ e
/-- a row more -/
theorem RB.grow {H H' : Hp} {p b : Addr} {n : Nat} {kvs : List (Key × V)} {xs : List T3} {q0 : Int} (R : RB H H' p n kvs xs) (hv : valV kvs (Sum.inl q0) = none) (hb : H' b = some (.dK [])) (hn : H b = none) (ne : b ≠ p) (fr : ∀ q v, valV kvs (Sum.inl q) = some v → v ≠ .ref b) :
    RB H (upd H' p (.dK (putK kvs (Sum.inl q0) (.ref b)))) p (n + 1) (putK kvs (Sum.inl q0) (.ref b)) xs := by
  refine ⟨upd_same, R.np, Nat.le_trans (length_putK ..) (Nat.succ_le_succ R.few), fun q v h => ?_, fun q h c => ?_, fun q q' v h h' => ?_, fun d o e => ?_⟩
  · rw [valV_put] at h
    by_cases c : (Sum.inl q : Key) = Sum.inl q0
    · rw [if_pos c] at h
      cases h
      cases c
      refine ⟨b, [], rfl, by rw [upd_ne ne]; exact hb, hn, ne, Nat.zero_le _, fun c => ?_⟩
      rw [R.no q0 hv c]
      rfl
    · rw [if_neg c] at h
      obtain ⟨a, rk, e, h1, h2, h3, h4, h5⟩ := R.row q v h
      exact ⟨a, rk, e, by rw [upd_ne h3]; exact h1, h2, h3, Nat.le_succ_of_le h4, h5⟩
  · rw [valV_put] at h
    by_cases d : (Sum.inl q : Key) = Sum.inl q0
    · rw [if_pos d] at h
      cases h
    · rw [if_neg d] at h
      exact R.no q h c
  · rw [valV_put] at h h'
    by_cases c : (Sum.inl q : Key) = Sum.inl q0
    · rw [if_pos c] at h
      cases h
      by_cases c' : (Sum.inl q' : Key) = Sum.inl q0
      · exact Sum.inl.inj (c.trans c'.symm)
      · rw [if_neg c'] at h'
        exact absurd rfl (fr q' _ h')
    · rw [if_neg c] at h
      by_cases c' : (Sum.inl q' : Key) = Sum.inl q0
      · rw [if_pos c'] at h'
        cases h'
        exact absurd rfl (fr q _ h)
      · rw [if_neg c'] at h'
        exact R.inj q q' v h h'
  · rw [upd_ne (ne_of_none e R.np)]
    exact R.sm _ _ e
/-- a reader of these rules at r -/
def RdA (H : Hp) (r : Addr) (xs : List T3) (gs : List Int) : Prop := ∃ (t1 t2 : Addr) (ts : List Addr), H r = some (.tup [.ref t1, .ref t2]) ∧ H t1 = some (.tup (ts.map V.ref)) ∧ At3 H ts xs ∧ H t2 = some (.tup (gs.map V.int))
theorem RdA.same {H H' : Hp} {r : Addr} {xs : List T3} {gs : List Int} (h : RdA H r xs gs) (s : Same H H') : RdA H' r xs gs := by
  obtain ⟨t1, t2, ts, h1, h2, h3, h4⟩ := h
  exact ⟨t1, t2, ts, s _ _ h1, s _ _ h2, h3.same (Same.keepT s), s _ _ h4⟩
theorem take_one' {α : Type} {es : List α} {i : Nat} {e : α} (h : es[i]? = some e) : es.take (i + 1) = es.take i ++ [e] := by
  rw [List.take_succ, h]
  rfl
def spRows : Sp := fun vs H Q _ => ∃ (r : Addr) (xs : List T3) (gs : List Int), vs = [.ref r] ∧ RdA H r xs gs ∧ xs.length ≤ 100 ∧ ∀ H' p kvs, RB H H' p 200 kvs xs → Q (.ref p) H'
section
variable {P : Program} {w : World} {K : PySem.W.Frag} {mg : Str → Option Value} {base : Heap}
theorem scRows : FnScope ["reader", "rows", "state", "sign", "goal", "row"] ["reader"] (defScope sRows) := ⟨rfl, rfl, rfl, by decide +kernel, rfl, by decide +kernel, by decide +kernel⟩
theorem ok_rows {f : Addr} {fd : FuncData} (F : Fun K "rows_of" "rows_of" sRows f fd) : FnOk P w K mg base CX0 1 f fd ["reader"] spRows := by
  refine F.ok scRows (fun vs H Q E h => ?_) (fun cdv A outer s H vs Q E hr h => ?_)
  · obtain ⟨r, xs, gs, rfl, _⟩ := h
    rfl
  · obtain ⟨r, xs, gs, rfl, ra, xl, q⟩ := h
    have hu : (A.deeper (PyProof.Rows.envOfC "rows_of" (defScope sRows) s.heap.objs.size f cdv)).units + 1 < cLine := by have := hr.un; omega
    refine ⟨_, pss_cons (ps_set (i := 1) scRows.nd rfl (Or.inl rfl) pe_dnewK)
      (pss_cons (ps_for PassesOwn.never rfl (pi_tup (pe_ix ix_tup (pv 0) pe_int (fun _ _ => rfl))) (pg_tup rfl (pgs_cons (pg_name (i := 2) scRows.nd rfl (Or.inl rfl)) (pgs_cons (pg_name (i := 3) scRows.nd rfl (Or.inl rfl)) (pgs_cons (pg_name (i := 4) scRows.nd rfl (Or.inl rfl)) pgs_nil))))
        (pss_cons (ps_set (i := 5) scRows.nd rfl (Or.inl rfl) (pe_dsetd (pv 1) (pv 2) pe_dnewK ⟨rfl, rfl, rfl, rfl⟩))
        (pss_one (ps_dput hu (pv 5) (pv 3) (pv 4) rfl))))
      (pss_one (ps_ret (pv 1)))), ?_⟩
    obtain ⟨t1, t2, ts, h1, h2, h3, h4⟩ := id ra
    intro p hp
    have u1 := same_upd (o := HO.dK []) hp
    have e1 := upd_same (H := H) (a := p) (o := HO.dK [])
    have R0 : RB H (upd H p (.dK [])) p 0 [] [] := ⟨e1, hp, Nat.le_refl _, (fun q v h => by cases h), (fun q h c => rfl), (fun q q' v h => by cases h), u1⟩
    refine gName_go2 ?_
    refine ⟨_, rfl, r, _, 0, .ref t1, rfl, rfl, SqT.of (u1 _ _ h1), rfl, t1, rfl, ⟨_, SqT.of (u1 _ _ h2)⟩, for_it (walk_tup (xs := ts.map V.ref)) (fun i σ H' => ∃ (v2 v3 v4 v5 : Option V) (kvs : List (Key × V)), σ = [some (.ref r), some (.ref p), v2, v3, v4, v5] ∧ RB H H' p (2 * i) kvs (xs.take i))
      ⟨none, none, none, none, [], rfl, R0⟩ (fun i σ H' _ ⟨_, _, _, _, _, _, z⟩ => SqT.of (z.sm _ _ h2)) ?_ ?_⟩
    · rintro i x σ H2z H2 hi ⟨v2, v3, v4, v5, kvs, rfl, R⟩ ⟨rfl, hx⟩
      obtain ⟨t, y, hy, rfl, e4⟩ := at_step (i := i) h3.1 h3.2 hx
      have e5 := R.sm _ _ e4
      refine ⟨t, _, rfl, SqT.of e5, rfl, _, _, rfl, _, _, rfl, _, _, rfl, rfl, ?_⟩
      have il : i < xs.length := (List.getElem?_eq_some_iff.mp hy).1
      have kf := R.few
      refine ⟨_, rfl, p, rfl, .inl ⟨kvs, .inl R.hp⟩, _, rfl, fun b hb => ?_⟩
      have ub := same_upd (o := HO.dK []) hb
      have eb := upd_same (H := H2) (a := b) (o := HO.dK [])
      have R1 := R.keep ub
      have nb : H b = none := same_none R.sm hb
      have nbp : b ≠ p := (ne_of_none R.hp hb).symm
      have frb : ∀ q v, valV kvs (Sum.inl q) = some v → v ≠ .ref b := fun q v h z => by
        obtain ⟨a, rk, e, w1, _⟩ := R.row q v h
        rw [z] at e
        cases e
        rw [hb] at w1
        cases w1
      generalize upd H2 b (.dK []) = H3 at ub eb R1 ⊢
      refine ⟨kvs, Sum.inl y.1, R1.hp, rfl, by rw [sizeLine_eq]; omega, fun v hv => gName_go2 ?_, fun hv => gName_go2 ?_⟩
      · obtain ⟨a, rk, rfl, w1, w2, w3, w4, w5⟩ := R1.row y.1 v hv
        have z := R1.put (x := y) hv w1 w2 w3 w4 w5
        rw [← take_one' hy] at z
        refine ⟨_, rfl, _, rfl, _, rfl, a, _, rfl, DPut.k (k := Sum.inr y.2.1) w1 (by rw [sizeLine_eq]; omega), ?_⟩
        exact ⟨_, _, _, _, kvs, rfl, z.le (by omega)⟩
      · have R2 := R1.grow hv eb nb nbp frb
        obtain ⟨a, rk, ea, w1, w2, w3, w4, w5⟩ := R2.row y.1 (.ref b) (by rw [valV_put, if_pos rfl])
        cases ea
        have z := R2.put (x := y) (by rw [valV_put, if_pos rfl]) w1 w2 w3 w4 w5
        rw [← take_one' hy] at z
        refine ⟨_, rfl, _, rfl, _, rfl, b, _, rfl, DPut.k (k := Sum.inr y.2.1) w1 (by rw [sizeLine_eq]; omega), ?_⟩
        exact ⟨_, _, _, _, _, rfl, z.le (by omega)⟩
    · rintro σ H2 ⟨v2, v3, v4, v5, kvs, rfl, R⟩
      rw [List.length_map, h3.1, List.take_length] at R
      exact ⟨_, rfl, q H2 p kvs (R.le (by omega))⟩
end
end K50

set_option Elab.async false
set_option linter.all false
set_option maxRecDepth 100000
set_option maxHeartbeats 4000000
/-! led; the law's table, _law_led. -/
namespace K50
open PySem L2 L2.EV
abbrev sLed : Stmt := top 44
def ldF (xs : List T3) (o : Option Int) (ss : List Str) : Option Int := ss.foldl (fun o c => o.bind fun q => nx xs q c) o
theorem ldF_snoc {xs : List T3} {o : Option Int} {ss : List Str} {c : Str} : ldF xs o (ss ++ [c]) = (ldF xs o ss).bind fun q => nx xs q c := by
  unfold ldF
  rw [List.foldl_append]
  rfl
def oV : Option Int → V
  | none => .non
  | some i => .int i
def chs (x : Str) : List Str := (sl x).map fun c => ⟨#[c]⟩
def spLed : Sp := fun vs H Q _ => ∃ (p l : Addr) (q : Int) (H0 : Hp) (n : Nat) (kvs : List (Key × V)) (xs : List T3) (ss : List Str), vs = [.ref p, .int q, .ref l] ∧ RB H0 H p n kvs xs ∧ H l = some (.lst (ss.map V.str)) ∧
  ∀ H', Same H H' → Q (oV (ldF xs (some q) ss)) H'
section
variable {P : Program} {w : World} {K : PySem.W.Frag} {mg : Str → Option Value} {base : Heap}
theorem scLed : FnScope ["rows", "state", "signs", "place", "sign"] ["rows", "state", "signs"] (defScope sLed) := ⟨rfl, rfl, rfl, by decide +kernel, rfl, by decide +kernel, by decide +kernel⟩
theorem ok_led {f : Addr} {fd : FuncData} (F : Fun K "led" "led" sLed f fd) : FnOk P w K mg base CX0 1 f fd ["rows", "state", "signs"] spLed := by
  refine F.ok scLed (fun vs H Q E h => ?_) (fun cdv A outer s H vs Q E hr h => ?_)
  · obtain ⟨p, l, q, H0, n, kvs, xs, ss, rfl, _⟩ := h
    rfl
  · obtain ⟨p, l, q0, H0, n, kvs, xs, ss, rfl, R, hl, q⟩ := h
    have hu : (A.deeper (PyProof.Rows.envOfC "led" (defScope sLed) s.heap.objs.size f cdv)).units + 1 < cLine := by have := hr.un; omega
    refine ⟨_, pss_cons (ps_set (i := 3) scLed.nd rfl (Or.inl rfl) (pv 1))
      (pss_cons (ps_for PassesOwn.never rfl (pi_list (pv 2)) (pg_name (i := 4) scLed.nd rfl (Or.inl rfl))
        (pss_one (ps_set (i := 3) scLed.nd rfl (Or.inl rfl) (pe_dget1 hu (pe_dget2N hu (pv 0) (pv 3) pe_dnewK ⟨rfl, rfl, rfl, rfl⟩) (pv 4) ⟨rfl, rfl, rfl, rfl⟩))))
      (pss_one (ps_ret (pv 3)))), ?_⟩
    refine ⟨_, rfl, ?_⟩
    refine ⟨_, rfl, l, rfl, ⟨_, SqL.of hl⟩, for_it (walk_list (xs := ss.map V.str)) (fun i σ H' => ∃ (v4 : Option V), σ = [some (.ref p), some (.int q0), some (.ref l), some (oV (ldF xs (some q0) (ss.take i))), v4] ∧ Same H H')
      ⟨none, rfl, Same.refl H⟩ (fun i σ H' _ ⟨_, _, z⟩ => SqL.of (z _ _ hl)) ?_ ?_⟩
    · rintro i x σ H2z H2 hi ⟨v4, rfl, s2⟩ ⟨rfl, hx⟩
      obtain ⟨c, hc, rfl⟩ : ∃ c, ss[i]? = some c ∧ x = .str c := by
        rw [List.getElem?_map] at hx
        cases e : ss[i]? with
        | none =>
          rw [e] at hx
          cases hx
        | some c =>
          rw [e] at hx
          exact ⟨c, rfl, (Option.some.inj hx).symm⟩
      have R2 := R.keep s2
      rw [take_one' hc, ldF_snoc]
      generalize ldF xs (some q0) (ss.take i) = o
      refine ⟨_, rfl, p, rfl, .inl ⟨kvs, .inl R2.hp⟩, _, rfl, fun b hb => ?_⟩
      have ub := same_upd (o := HO.dK []) hb
      have eb := upd_same (H := H2) (a := b) (o := HO.dK [])
      have R3 := R2.keep ub
      have s3 := s2.trans ub
      generalize upd H2 b (.dK []) = H3 at eb R3 s3 ⊢
      have fin : ∀ v, v = oV (o.bind fun q => nx xs q c) → ∃ (v4 : Option V), [some (V.ref p), some (.int q0), some (.ref l), some v, some (.str c)] = [some (.ref p), some (.int q0), some (.ref l), some (oV (o.bind fun q => nx xs q c)), v4] ∧ Same H H3 := fun v e => ⟨some (.str c), by rw [e], s3⟩
      cases o with
      | none =>
        refine ⟨none, .inr ⟨⟨kvs, .inl R3.hp⟩, rfl, rfl⟩, b, rfl, .inl ⟨[], .inl eb⟩, _, rfl, _, DGet.k (k := Sum.inr c) eb, ?_⟩
        exact fin _ rfl
      | some q =>
        refine ⟨_, .inl (DGet.k (k := Sum.inl q) R3.hp), ?_⟩
        cases e : valV kvs (Sum.inl q) with
        | none =>
          refine ⟨b, rfl, .inl ⟨[], .inl eb⟩, _, rfl, _, DGet.k (k := Sum.inr c) eb, ?_⟩
          refine fin _ ?_
          show V.non = oV (nx xs q c)
          rw [R3.no q e c]
          rfl
        | some v =>
          obtain ⟨a, rk, rfl, w1, _, _, _, w5⟩ := R3.row q v e
          refine ⟨a, rfl, .inl ⟨rk, .inl w1⟩, _, rfl, _, DGet.k (k := Sum.inr c) w1, ?_⟩
          refine fin _ ?_
          rw [w5]
          show _ = oV (nx xs q c)
          cases nx xs q c <;> rfl
    · rintro σ H2 ⟨v4, rfl, s2⟩
      rw [show ss.take (ss.map V.str).length = ss by rw [List.length_map, List.take_length]]
      exact ⟨_, rfl, q _ s2⟩
end
end K50

set_option Elab.async false
set_option linter.all false
set_option maxRecDepth 100000
set_option maxHeartbeats 4000000
/-! need_line_text. -/
namespace K50
open PySem L2 L2.EV
abbrev sNLT : Stmt := top 45
def Eo (C : Addr) (E : XK) (H : Hp) : Prop := ∀ H', Same H H' → E (.ref C) none H'
theorem Eo.same {C : Addr} {E : XK} {H H' : Hp} (h : Eo C E H) (s : Same H H') : Eo C E H' := fun H2 s2 => h H2 (s.trans s2)
def mks : List Nat := sl ("ABCDEFGH" : Str)
theorem mks_is : mks = [65, 66, 67, 68, 69, 70, 71, 72] := by decide +kernel
def ltB (p : Str) : Bool := Txt.endswith p ";" && ((sl p).dropLast.all fun c => decide (c ∈ sgs) || decide (c ∈ mks))
theorem cut_last {p : Str} : sl (cutS p none (some (-1))) = (sl p).dropLast := by
  show ((p.cps.toList.drop (HT.sIx p.length 0 none)).take (HT.sIx p.length p.length (some (-1)) - HT.sIx p.length 0 none)).toArray.toList = _
  rw [HT.sIx_none, List.drop_zero, Nat.sub_zero, List.toList_toArray, List.dropLast_eq_take]
  congr 1
  have e : p.length = (sl p).length := len_sl p
  show (if (-1 : Int) < 0 then ((-1 : Int) + (p.length : Int)).toNat else min (-1 : Int).toNat p.length) = _
  have z : (if (-1 : Int) < 0 then ((-1 : Int) + (p.length : Int)).toNat else min (-1 : Int).toNat p.length) = ((-1 : Int) + (p.length : Int)).toNat := if_pos (by decide)
  rw [z]
  omega
/-- no text -/
def NoStr (H : Hp) (v : V) : Prop := v = .non ∨ (∃ i, v = .int i) ∨ ∃ a o, v = .ref a ∧ H a = some o ∧ ((∃ xs, o = .tup xs) ∨ (∃ xs, o = .lst xs) ∨ ∃ kvs, o = .dK kvs)
theorem NoStr.ty {K : PySem.W.Frag} {H : Hp} {v : V} (h : NoStr H v) : ∃ t : Value, TyX K H v t ∧ PySem.W.kitOne K t (.type "str") = some false := by
  rcases h with rfl | ⟨i, rfl⟩ | ⟨a, o, rfl, e, ⟨xs, rfl⟩ | ⟨xs, rfl⟩ | ⟨kvs, rfl⟩⟩
  · exact ⟨_, .base .non, kit_ty (r := false) (by decide +kernel)⟩
  · exact ⟨_, .base (.int i), kit_ty (r := false) (by decide +kernel)⟩
  · exact ⟨_, .base (.tup e), kit_ty (r := false) (by decide +kernel)⟩
  · exact ⟨_, .base (.lst e), kit_ty (r := false) (by decide +kernel)⟩
  · exact ⟨_, .base (.dK e), kit_ty (r := false) (by decide +kernel)⟩
theorem NoStr.same {H H' : Hp} {v : V} (h : NoStr H v) (s : Same H H') : NoStr H' v := by
  rcases h with h | h | ⟨a, o, e, h, r⟩
  · exact .inl h
  · exact .inr (.inl h)
  · exact .inr (.inr ⟨a, o, e, s _ _ h, r⟩)
/-- what is handed in as a text -/
def TxI (H : Hp) (v : V) : Option Str → Prop
  | some p => v = .str p ∧ p.length ≤ 1000
  | none => NoStr H v
theorem TxI.same {H H' : Hp} {v : V} {o : Option Str} (h : TxI H v o) (s : Same H H') : TxI H' v o := by
  cases o with
  | none => exact NoStr.same h s
  | some p => exact h
def okO : Option Str → Bool
  | some p => ltB p
  | none => false
def spNLT (C : Addr) : Sp := fun vs H Q E => ∃ (v : V) (o : Option Str), vs = [v] ∧ TxI H v o ∧ (okO o = true → ∀ H', Same H H' → Q v H') ∧ (okO o = false → Eo C E H)
structure Tk (K : PySem.W.Frag) (mg : Str → Option Value) where
  R : Rs K mg
  O : Oop K mg
  marks : ∃ t, mg "MARKS" = some (.str "ABCDEFGH" t)
  f1 : Addr
  d1 : FuncData
  F1 : Fun K "need_line_text" "need_line_text" sNLT f1 d1
  b1 : Binds K d1 ["thing"] []
  m1 : mg "need_line_text" = some (.ref f1)
section
variable {P : Program} {w : World} {K : PySem.W.Frag} {mg : Str → Option Value} {base : Heap}
theorem scNLT : FnScope ["thing", "sign"] ["thing"] (defScope sNLT) := ⟨rfl, rfl, rfl, by decide +kernel, rfl, by decide +kernel, by decide +kernel⟩
theorem ok_nlt (Z : Tk K mg) : FnOk P w K mg base (L2.CX P w) 4 Z.f1 Z.d1 ["thing"] (spNLT Z.O.C) := by
  have T := Z.R.Z.T
  have GO : FnOk P w K mg base CX0 2 Z.O.f Z.O.d ["self", "text"] (spNo K Z.O.C) := ok_OutOfPlace Z.O.F Z.O.T Z.O.I Z.O.FM Z.O.bM Z.O.mM Z.O.TM
  refine Z.F1.okX scNLT (fun vs H Q E h => ?_) (fun cdv A outer s H vs Q E hr h => ?_)
  · obtain ⟨v, o, rfl, _⟩ := h
    rfl
  · obtain ⟨v, o, rfl, tx, qy, qn⟩ := h
    obtain ⟨ts, eS⟩ := T.signs
    obtain ⟨tm, eM⟩ := Z.marks
    refine ⟨_, pss_cons (ps_if (pw_or (pt_not (pt_val (pe_callB call_isi (by rfl) T.isi PyProof.Rows.boot_isinstance (pa_cons (pv 0) (pa_cons (pe_bltn (v := .ty "str") (by rfl) T.str (by decide +kernel) rfl) pa_nil)))))
          (pw_or1 (pt_not (pt_val (pe_m1 PySem.F.slot_str_endswith PySem.F.type_str_endswith mt_endswith (pv 0) pe_str))))).pt
        (pss_one (ps_raise rfl (takes_of rfl rfl rfl rfl) (pmk_own2 rfl (pe_new Z.O.T Z.O.iC Z.O.tI GO hr (kb_pos Z.O.b rfl) pass0 (by rfl) Z.O.m (pa_cons pe_str pa_nil))))) pss_nil)
      (pss_cons (ps_if (pt_not (pt_val (pe_callB (cr_all rfl) (by rfl) T.all (by decide +kernel) (pa_cons (pe_lc (own := [("sign", 1)]) (g := gName 1) rfl scNLT.nd (pi_str (pe_slice sl_str (pv 0) po_none (po_some (pe_un un_neg pe_int))))
            (blkOk_by (N := ["thing", "sign"]) (sc := defScope sNLT) (by decide +kernel))
            (fun _ _ _ _ _ => pg_name (i := 1) scNLT.nd rfl (Or.inl rfl)) (fun _ _ _ _ _ => pts_nil)
            (fun _ _ _ _ _ => pe_or (pe_cmpR op_in_sign (pv 1) (pe_glob (v := .str "abcdefghijklmnopqrstuvwxyz0123456789@") (by rfl) eS ⟨_, rfl⟩) (by rfl)) (pe_one (pe_cmpR op_in_sign (pv 1) (pe_glob (v := .str "ABCDEFGH") (by rfl) eM ⟨_, rfl⟩) (by rfl))))) pa_nil))))
        (pss_one (ps_raise rfl (takes_of rfl rfl rfl rfl) (pmk_own2 rfl (pe_new Z.O.T Z.O.iC Z.O.tI GO hr (kb_pos Z.O.b rfl) pass0 (by rfl) Z.O.m (pa_cons pe_str pa_nil))))) pss_nil)
      (pss_one (ps_ret (pv 0)))), ?_⟩
    have rs : ∀ {H1 : Hp}, Same H H1 → okO o = false → Eo Z.O.C E H1 := fun s1 e => (qn e).same s1
    cases o with
    | none =>
      obtain ⟨t, ty, kt⟩ := NoStr.ty (K := K) tx
      refine ⟨_, rfl, v, .ty "str", t, .type "str", false, rfl, .ty "str", ty, kt, false, rfl, iteT ?_⟩
      refine ⟨rfl, rfl, (by decide), fun a na => ⟨a, .str _, .str _, rfl, upd_same, .str _, rfl, a, Z.O.C, none, rfl, upd_same, fr0_none na, raises_own Z.O.su Z.O.ty, ?_⟩⟩
      rw [delH_new na]
      exact qn rfl H (Same.refl H)
    | some p =>
      obtain ⟨rfl, pl⟩ := tx
      have qy : ltB p = true → ∀ H', Same H H' → Q (.str p) H' := qy
      have qn : ltB p = false → Eo Z.O.C E H := qn
      refine ⟨_, rfl, .str p, .ty "str", .type "str", .type "str", true, rfl, .ty "str", .base (.str p), kit_ty (r := true) (by decide +kernel), true, rfl, iteF ?_⟩
      refine ⟨_, rfl, ⟨_, rfl⟩, p, ";", rfl, rfl, _, rfl, ?_⟩
      cases e1 : Txt.endswith p ";" with
      | false =>
        refine iteT ?_
        refine ⟨rfl, rfl, (by decide), fun a na => ⟨a, .str _, .str _, rfl, upd_same, .str _, rfl, a, Z.O.C, none, rfl, upd_same, fr0_none na, raises_own Z.O.su Z.O.ty, ?_⟩⟩
        rw [delH_new na]
        exact qn (by unfold ltB; rw [e1]; rfl) H (Same.refl H)
      | true =>
        refine iteF ?_
        have cs := cut_last (p := p)
        have cl : (cutS p none (some (-1))).length ≤ 1000 := Nat.le_trans (cutS_length ..) pl
        refine ⟨_, rfl, 1, rfl, -1, rfl, p, rfl, (by rw [sizeLine_eq]; omega), ?_⟩
        generalize cutS p none (some (-1)) = cu at cs cl ⊢
        refine ⟨_, rfl, fun D hD => ?_⟩
        refine lc_it walk_str (fun i H' => H' D = some (.lst ((((sl cu).take i).map fun c => decide (c ∈ sgs) || decide (c ∈ mks)).map V.bl)) ∧ Same H H') ⟨upd_same, same_upd hD⟩ (fun _ _ _ _ => trivial) ?_ ?_
        · rintro i x H2 H3 hi ⟨hD2, s2⟩ ⟨rfl, ch, hc, rfl⟩
          have hc' : (sl cu)[i]? = some ch := (Array.getElem?_toList ..).trans hc
          have il : i < (sl cu).length := (List.getElem?_eq_some_iff.mp hc').1
          have cl' : (sl cu).length ≤ 1000 := by rw [← len_sl]; exact cl
          have fin : ∀ b : Bool, b = (decide (ch ∈ sgs) || decide (ch ∈ mks)) → ∃ acc, H3 D = some (.lst acc) ∧ acc.length < sizeLine ∧ ((upd H3 D (.lst (acc ++ [V.bl b]))) D = some (.lst ((((sl cu).take (i + 1)).map fun c => decide (c ∈ sgs) || decide (c ∈ mks)).map V.bl)) ∧ Same H (upd H3 D (.lst (acc ++ [V.bl b])))) := fun b e => by
            refine ⟨_, hD2, ?_, ?_, same_set hD s2⟩
            · rw [List.length_map, List.length_map, List.length_take, sizeLine_eq]
              omega
            · rw [take_one' hc', List.map_append, List.map_append, e]
              exact upd_same
          refine ⟨rfl, _, rfl, ch, _, rfl, rfl, _, rfl, ?_⟩
          by_cases c : ch ∈ sgs
          · refine iteT' (decide_eq_true c) ?_
            exact fin true (by rw [decide_eq_true c]; rfl)
          · refine iteF' (decide_eq_false c) ?_
            refine ⟨_, rfl, ch, _, rfl, rfl, ?_⟩
            exact fin _ (by rw [decide_eq_false c]; rfl)
        · rintro H2 ⟨hD2, s2⟩
          have ln : cu.cps.size = (sl cu).length := len_sl cu
          rw [ln, List.take_length] at hD2
          refine ⟨D, _, rfl, SqL.of hD2, _, rfl, ?_⟩
          have ev : (((sl cu).map fun c => decide (c ∈ sgs) || decide (c ∈ mks)).all id) = ltB p := by
            unfold ltB
            rw [e1, cs, List.all_map]
            rfl
          rw [ev]
          cases e2 : ltB p with
          | false =>
            refine iteT ?_
            refine ⟨rfl, rfl, (by decide), fun a na => ⟨a, .str _, .str _, rfl, upd_same, .str _, rfl, a, Z.O.C, none, rfl, upd_same, fr0_none (same_none s2 na), raises_own Z.O.su Z.O.ty, ?_⟩⟩
            rw [delH_new na]
            exact qn e2 H2 s2
          | true =>
            refine iteF ?_
            exact ⟨_, rfl, qy e2 H2 s2⟩
end
end K50

set_option Elab.async false
set_option linter.all false
set_option maxRecDepth 100000
set_option maxHeartbeats 4000000
/-! takes. -/
namespace L2
open PySem PySem.Spec PyProof.Rows EV
/-- a promise of a def that may raise, where it doesn't -/
theorem fnOk0 {P : Program} {w : World} {K : PySem.W.Frag} {mg : Str → Option Value} {base : Heap} {k : Nat} {f : Addr} {fd : FuncData} {ps : List Str} {sp sp2 : Sp} (F : FnOk P w K mg base (L2.CX P w) k f fd ps sp) (h : ∀ vs H Q E, sp2 vs H Q E → sp vs H Q E0) : FnOk P w K mg base CX0 k f fd ps sp2 :=
  ⟨fun vs H Q E q => F.len vs H Q E0 (h _ _ _ _ q), fun A outer s H args us vs Q E hr he hb hv hs => codeAny_mono (F.run A outer s H args us vs Q E0 hr he hb hv (h _ _ _ _ hs)) fun r s' z => by
    cases r with
    | error e =>
      obtain ⟨_, _, _, _, _, _, _, _, _, _, _, _, bad⟩ := z
      exact bad
    | ok fl => cases fl <;> exact z⟩
end L2
namespace K50
open PySem L2 L2.EV
abbrev sTakes : Stmt := top 46
/-- a right reader -/
def RdD (d : PyData) : Prop := ffD d = none ∧ SzR d
theorem rd_ok {d : PyData} (h : RdD d) : ffD d = none := h.1
theorem rd_sz {d : PyData} (h : RdD d) : SzR d := h.2
def rdT (xs : List T3) (gs : List Int) : PyData := .tuple [.tuple (xs.map d3), .tuple (gs.map PyData.int)]
theorem da_3 {H : Hp} : ∀ {xs : List T3} {vs : List V}, DaAll H vs (xs.map d3) → ∃ ts : List Addr, vs = ts.map V.ref ∧ At3 H ts xs
  | [], _, h => by
    cases h
    exact ⟨[], rfl, rfl, fun i t x h => by cases h⟩
  | x :: xs, _, h => by
    cases h with
    | cons h1 h2 =>
      obtain ⟨ts, e, r⟩ := da_3 (xs := xs) h2
      subst e
      cases h1 with
      | @tup a ys _ e all =>
        cases all with
        | cons a1 b1 =>
          cases a1
          cases b1 with
          | cons a2 b2 =>
            cases a2
            cases b2 with
            | cons a4 b4 =>
              cases a4
              cases b4
              refine ⟨a :: ts, rfl, by rw [List.length_cons, List.length_cons, r.1], fun i t y h1 h2 => ?_⟩
              cases i with
              | zero =>
                cases h1
                cases h2
                exact e
              | succ i => exact r.2 i t y (by simpa using h1) (by simpa using h2)
theorem da_gs {H : Hp} : ∀ {gs : List Int} {vs : List V}, DaAll H vs (gs.map PyData.int) → vs = gs.map V.int
  | [], _, h => by cases h; rfl
  | n :: ns, _, h => by
    cases h with
    | cons h1 h2 =>
      cases h1
      rw [da_gs h2]
      rfl
theorem rda_of {H : Hp} {v : V} {xs : List T3} {gs : List Int} (h : Da H v (rdT xs gs)) : ∃ r, v = .ref r ∧ RdA H r xs gs := by
  cases h with
  | @tup a ys _ e all =>
    cases all with
    | cons h1 r1 =>
      cases r1 with
      | cons h2 r2 =>
        cases r2
        cases h1 with
        | @tup b zs _ e1 all1 =>
          cases h2 with
          | @tup c ws _ e2 all2 =>
            obtain ⟨ts, rfl, a3⟩ := da_3 all1
            obtain rfl := da_gs all2
            exact ⟨a, rfl, b, c, ts, e, e1, a3, e2⟩
/-- how many marks a text has -/
def cnt (p : Str) : Nat := ((64 :: mks).filter fun c => decide (c ∈ sl p)).length
def sgOf (c : Nat) : Str := if c ∈ mks then "@" else ⟨#[c]⟩
def sgsOf (p : Str) : List Str := (sl p).dropLast.map sgOf
def tkF (xs : List T3) (gs : List Int) (p : Str) : Bool := decide (cnt p < 2) && match ldF xs (some 0) (sgsOf p) with
  | some q => decide (q ∈ gs)
  | none => false
def spTk (C : Addr) : Sp := fun vs H Q E => ∃ (r v : V) (xs : List T3) (gs : List Int) (o : Option Str), vs = [r, v] ∧ Da H r (rdT xs gs) ∧ RdD (rdT xs gs) ∧ xs.length ≤ 100 ∧ TxI H v o ∧
  (∀ p, o = some p → ltB p = true → ∀ H', Same H H' → Q (.bl (tkF xs gs p)) H') ∧ (okO o = false → Eo C E H)
def spTk0 : Sp := fun vs H Q _ => ∃ (r : V) (xs : List T3) (gs : List Int) (p : Str), vs = [r, .str p] ∧ Da H r (rdT xs gs) ∧ RdD (rdT xs gs) ∧ xs.length ≤ 100 ∧ p.length ≤ 1000 ∧ ltB p = true ∧
  ∀ H', Same H H' → Q (.bl (tkF xs gs p)) H'
structure Tt (K : PySem.W.Frag) (mg : Str → Option Value) where
  T : Tk K mg
  fR : Addr
  dR : FuncData
  FR : Fun K "need_reader" "need_reader" sNeedR fR dR
  bR : Binds K dR ["thing"] []
  mR : mg "need_reader" = some (.ref fR)
  fO : Addr
  dO : FuncData
  FO : Fun K "rows_of" "rows_of" sRows fO dO
  bO : Binds K dO ["reader"] []
  mO : mg "rows_of" = some (.ref fO)
  fL : Addr
  dL : FuncData
  FL : Fun K "led" "led" sLed fL dL
  bL : Binds K dL ["rows", "state", "signs"] []
  mL : mg "led" = some (.ref fL)
  fT : Addr
  dT : FuncData
  FT : Fun K "takes" "takes" sTakes fT dT
  bT : Binds K dT ["reader", "text"] []
  mT : mg "takes" = some (.ref fT)
abbrev NT : List Str := ["reader", "text", "marks", "signs", "mark", "sign"]
theorem ints_flat : ∀ ns : List Int, (ns.map V.int).all flatV = true
  | [] => rfl
  | n :: ns => by
    rw [List.map_cons, List.all_cons, ints_flat ns]
    rfl
theorem in_ints {ns : List Int} {k : Int} : inV (.int k) (ns.map V.int) = decide (k ∈ ns) := by
  unfold inV
  induction ns with
  | nil => rfl
  | cons n ns ih =>
    rw [List.map_cons, List.any_cons, ih]
    by_cases c : k = n
    · subst c
      simp [eqV]
    · have : eqV (.int n) (.int k) = false ∨ eqV (.int k) (.int n) = false := .inl (by simp [eqV]; omega)
      by_cases d : k ∈ ns
      · simp [d]
      · rw [decide_eq_false d, decide_eq_false (by simp [c, d])]
        simp [eqV]
        omega
theorem in_none {ns : List Int} : inV .non (ns.map V.int) = false := by
  unfold inV
  rw [List.any_eq_false]
  intro y hy
  obtain ⟨n, _, rfl⟩ := List.mem_map.mp hy
  simp [eqV]
section
variable {P : Program} {w : World} {K : PySem.W.Frag} {mg : Str → Option Value} {base : Heap}
theorem scTakes : FnScope NT ["reader", "text"] (defScope sTakes) := ⟨rfl, rfl, rfl, by decide +kernel, rfl, by decide +kernel, by decide +kernel⟩
theorem ok_takes (Z : Tt K mg) : FnOk P w K mg base (L2.CX P w) 5 Z.fT Z.dT ["reader", "text"] (spTk Z.T.O.C) := by
  have T := Z.T.R.Z.T
  have GR : FnOk P w K mg base (L2.CX P w) 3 Z.fR Z.dR ["thing"] (spNeedR Z.T.R.B.C) := ok_needR Z.T.R Z.FR
  have GN : FnOk P w K mg base (L2.CX P w) 4 Z.T.f1 Z.T.d1 ["thing"] (spNLT Z.T.O.C) := ok_nlt Z.T
  have GO : FnOk P w K mg base CX0 1 Z.fO Z.dO ["reader"] spRows := ok_rows Z.FO
  have GL : FnOk P w K mg base CX0 1 Z.fL Z.dL ["rows", "state", "signs"] spLed := ok_led Z.FL
  refine Z.FT.okX scTakes (fun vs H Q E h => ?_) (fun cdv A outer s H vs Q E hr h => ?_)
  · obtain ⟨r, v, xs, gs, o, rfl, _⟩ := h
    rfl
  · obtain ⟨r, v, xs, gs, o, rfl, da, rd, xl, tx, qy, qn⟩ := h
    have r1 := hr.mono (j := 1) (by omega)
    have r3 := hr.mono (j := 3) (by omega)
    obtain ⟨tm, eM⟩ := Z.T.marks
    refine ⟨_, pss_cons (ps_expr (pe_call GR r3 (by rfl) Z.mR Z.FR.kp Z.bR .nil (passes_call (E := E0) (takes_of rfl rfl rfl rfl) fun _ _ _ _ h => h.elim) (pa_cons (pv 0) pa_nil)))
      (pss_cons (ps_expr (pe_call GN hr (by rfl) Z.T.m1 Z.T.F1.kp Z.T.b1 .nil (passes_call (E := E) (takes_of rfl rfl rfl rfl) fun _ _ _ _ h => h) (pa_cons (pv 1) pa_nil)))
      (pss_cons (ps_setLc (i := 2) (own := [("mark", 4)]) (g := gName 4) rfl scTakes.nd rfl rfl rfl (pi_str (pe_glob (v := .str "ABCDEFGH") (by rfl) eM ⟨_, rfl⟩))
          (blkOk_by (N := NT) (sc := defScope sTakes) (by decide +kernel)) (fun _ _ _ _ _ => pg_name (i := 4) scTakes.nd rfl (Or.inl rfl)) (fun _ _ _ _ _ => pts_one (pt_cmpR op_in_sign (pv 4) (pv 1) (by rfl))) (fun _ _ _ _ _ => pv 4))
      (pss_cons (ps_if (pw_or (pt_cmpR op_gt (pe_callB call_len_seq (by rfl) T.len PySem.boot_len (pa_cons (pv 2) pa_nil)) pe_int (nomark _)) (pw_or1 (pw_and (pt_cmpR op_eq (pe_callB call_len_seq (by rfl) T.len PySem.boot_len (pa_cons (pv 2) pa_nil)) pe_int (nomark _)) (pw_and1 (pt_cmpR op_in_sign pe_str (pv 1) (by rfl)))).pt)).pt (pss_one (ps_ret pe_bl)) pss_nil)
      (pss_cons (ps_setLc (i := 3) (own := [("sign", 5)]) (g := gName 5) rfl scTakes.nd rfl rfl rfl (pi_str (pe_slice sl_str (pv 1) po_none (po_some (pe_un un_neg pe_int))))
          (blkOk_by (N := NT) (sc := defScope sTakes) (by decide +kernel)) (fun _ _ _ _ _ => pg_name (i := 5) scTakes.nd rfl (Or.inl rfl)) (fun _ _ _ _ _ => pts_nil)
          (fun _ _ _ _ _ => pe_ifExp (pt_cmpR op_in_sign (pv 5) (pe_glob (v := .str "ABCDEFGH") (by rfl) eM ⟨_, rfl⟩) (by rfl)) pe_str (pv 5)))
      (pss_one (ps_ret (pe_cmpR op_in_seq (pe_call GL r1 (by rfl) Z.mL Z.FL.kp Z.bL .nil pass0 (pa_cons (pe_call GO r1 (by rfl) Z.mO Z.FO.kp Z.bO .nil pass0 (pa_cons (pv 0) pa_nil)) (pa_cons pe_int (pa_cons (pv 3) pa_nil)))) (pe_ix ix_tup (pv 0) pe_int (fun _ _ => rfl)) (by rfl)))))))), ?_⟩
    obtain ⟨r0, rfl, ra⟩ := rda_of da
    refine ⟨_, rfl, .ref r0, rdT xs gs, rfl, da, rd_sz rd, ?_⟩
    rw [rd_ok rd]
    intro H1 s1
    refine ⟨_, rfl, v, o, rfl, tx.same s1, fun ok H2 s2 => ?_, fun e => (qn e).same s1⟩
    cases o with
    | none => cases ok
    | some p =>
    obtain ⟨rfl, pl⟩ := tx
    have ok : ltB p = true := ok
    have s02 := s1.trans s2
    have qy := qy p rfl ok
    refine ⟨_, rfl, fun D hD => ?_⟩
    have ml : mks.length = 8 := by decide +kernel
    refine lc_it walk_str (fun i H' => H' D = some (.lst (((mks.take i).filter fun c => decide (c ∈ sl p)).map fun c => V.str ⟨#[c]⟩)) ∧ Same H2 H') ⟨upd_same, same_upd hD⟩ (fun _ _ _ _ => trivial) ?_ ?_
    · rintro i x H3z H3 hi ⟨hD3, s3⟩ ⟨rfl, ch, hc, rfl⟩
      have hc' : mks[i]? = some ch := (Array.getElem?_toList ..).trans hc
      refine ⟨rfl, ?_⟩
      refine ⟨_, rfl, _, rfl, ch, p, rfl, rfl, _, rfl, ?_⟩
      rw [take_one' hc', List.filter_append, List.filter_cons]
      have ll : (((mks.take i).filter fun c => decide (c ∈ sl p)).map fun c => V.str ⟨#[c]⟩).length ≤ 8 := by
        rw [List.length_map]
        refine Nat.le_trans (List.length_filter_le ..) ?_
        rw [List.length_take]
        omega
      by_cases c : ch ∈ sl p
      · refine iteT' (decide_eq_true c) ?_
        rw [if_pos (decide_eq_true c)]
        refine ⟨_, rfl, _, hD3, by rw [sizeLine_eq]; omega, ?_, same_set hD s3⟩
        rw [List.map_append]
        exact upd_same
      · refine iteF' (decide_eq_false c) ?_
        rw [if_neg (by simpa using c), List.filter_nil, List.append_nil]
        exact ⟨hD3, s3⟩
    rintro H3 ⟨hD3, s3⟩
    have e8 : ("ABCDEFGH" : Str).cps.size = mks.length := len_sl _
    rw [e8, List.take_length] at hD3
    have s03 := s02.trans s3
    refine gName_go2 ?_
    have cn : cnt p = (if 64 ∈ sl p then 1 else 0) + (mks.filter fun c => decide (c ∈ sl p)).length := by
      unfold cnt
      rw [List.filter_cons]
      by_cases c : 64 ∈ sl p
      · rw [if_pos (decide_eq_true c), if_pos c, List.length_cons]
        omega
      · rw [if_neg (by simpa using c), if_neg c]
        omega
    generalize mks.filter (fun c => decide (c ∈ sl p)) = mm at hD3 cn
    refine ⟨_, rfl, D, _, rfl, .inl (SqL.of hD3), _, 1, rfl, rfl, _, rfl, ?_⟩
    rw [List.length_map]
    have no : ¬ cnt p < 2 → ∀ H', Same H H' → Q (.bl false) H' := fun c H' s' => by
      have z := qy H' s'
      unfold tkF at z
      rw [decide_eq_false c, Bool.false_and] at z
      exact z
    by_cases c1 : 1 < mm.length
    · refine iteT' (by simp; omega) ?_
      exact no (by omega) _ s03
    refine iteF' (by simp; omega) ?_
    refine ⟨_, rfl, D, _, rfl, .inl (SqL.of hD3), rfl, _, rfl, ?_⟩
    rw [List.length_map]
    have at_is : ("@" : Str) = ⟨#[64]⟩ := by decide +kernel
    by_cases c2 : mm.length = 1 ∧ 64 ∈ sl p
    · refine iteT' (by simp [c2.1]) ?_
      refine ⟨_, rfl, 64, p, congrArg V.str at_is, rfl, _, rfl, ?_⟩
      refine iteT' (decide_eq_true c2.2) ?_
      exact no (by rw [cn, if_pos c2.2]; omega) _ s03
    have lt : cnt p < 2 := by
      rw [cn]
      by_cases c : 64 ∈ sl p
      · rw [if_pos c]
        have : mm.length ≠ 1 := fun z => c2 ⟨z, c⟩
        omega
      · rw [if_neg c]
        omega
    have qy2 : ∀ H', Same H H' → Q (.bl (match ldF xs (some 0) (sgsOf p) with
      | some q => decide (q ∈ gs)
      | none => false)) H' := fun H' s' => by
      have z := qy H' s'
      unfold tkF at z
      rw [decide_eq_true lt, Bool.true_and] at z
      exact z
    by_cases c3 : mm.length = 1
    refine iteT' (by simp [c3]) ?_
    refine ⟨_, rfl, 64, p, congrArg V.str at_is, rfl, _, rfl, ?_⟩
    refine iteF' (decide_eq_false (fun z => c2 ⟨c3, z⟩)) ?_
    rotate_left
    refine iteF' (by simp; omega) ?_
    all_goals
      have cs := cut_last (p := p)
      have cl : (cutS p none (some (-1))).length ≤ 1000 := Nat.le_trans (cutS_length ..) pl
      refine ⟨_, rfl, 1, rfl, -1, rfl, p, rfl, (by rw [sizeLine_eq]; omega), ?_⟩
      generalize cutS p none (some (-1)) = cu at cs cl ⊢
      refine ⟨_, rfl, fun D2 hD2 => ?_⟩
      refine lc_it walk_str (fun i H' => H' D2 = some (.lst ((((sl cu).take i).map sgOf).map V.str)) ∧ Same H3 H') ⟨upd_same, same_upd hD2⟩ (fun _ _ _ _ => trivial) ?_ ?_
      · rintro i x H4z H4 hi ⟨hD4, s4⟩ ⟨rfl, ch, hc, rfl⟩
        have hc' : (sl cu)[i]? = some ch := (Array.getElem?_toList ..).trans hc
        have cl' : (sl cu).length ≤ 1000 := by rw [← len_sl]; exact cl
        have fin : ∀ c : Str, c = sgOf ch → ∃ acc, H4 D2 = some (.lst acc) ∧ acc.length < sizeLine ∧ ((upd H4 D2 (.lst (acc ++ [V.str c]))) D2 = some (.lst ((((sl cu).take (i + 1)).map sgOf).map V.str)) ∧ Same H3 (upd H4 D2 (.lst (acc ++ [V.str c])))) := fun c e => by
          refine ⟨_, hD4, ?_, ?_, same_set hD2 s4⟩
          · rw [List.length_map, List.length_map, List.length_take, sizeLine_eq]
            omega
          · rw [take_one' hc', List.map_append, List.map_append, e]
            exact upd_same
        refine ⟨rfl, _, rfl, ch, _, rfl, rfl, _, rfl, ?_⟩
        by_cases c : ch ∈ mks
        · refine iteT' (decide_eq_true c) ?_
          exact fin "@" (by unfold sgOf; rw [if_pos c])
        · refine iteF' (decide_eq_false c) ?_
          refine ⟨_, rfl, ?_⟩
          exact fin _ (by unfold sgOf; rw [if_neg c])
      rintro H4 ⟨hD4, s4⟩
      have ln : cu.cps.size = (sl cu).length := len_sl cu
      rw [ln, List.take_length, cs] at hD4
      refine gName_go2 ?_
      have s04 := s03.trans s4
      refine ⟨_, rfl, r0, xs, gs, rfl, ra.same s04, xl, fun H5 pr kvs R => ⟨_, rfl, pr, D2, 0, H4, 200, kvs, xs, sgsOf p, rfl, R, R.sm _ _ hD4, fun H6 s6 => ?_⟩⟩
      have s06 := s04.trans (R.sm.trans s6)
      obtain ⟨t1, t2, ts, h1, h2, h3, h4⟩ := ra.same s06
      refine ⟨_, rfl, r0, _, 1, .ref t2, rfl, rfl, SqT.of h1, rfl, t2, gs.map V.int, rfl, .inr (SqT.of h4), ?_, ints_flat gs, ?_⟩
      · cases ldF xs (some 0) (sgsOf p) <;> rfl
      have z := qy2 H6 s06
      cases e : ldF xs (some 0) (sgsOf p) with
      | none =>
        rw [e] at z
        show Q (.bl (inV .non (gs.map V.int))) H6
        rw [in_none]
        exact z
      | some q =>
        rw [e] at z
        show Q (.bl (inV (.int q) (gs.map V.int))) H6
        rw [in_ints]
        exact z
end
end K50

set_option Elab.async false
set_option linter.all false
set_option maxRecDepth 100000
set_option maxHeartbeats 4000000
/-! == of instances by an own __eq__, with either answer; what is never asked. -/
namespace L2
open PySem PySem.Spec PyProof.Rows
theorem pe_never {X : Cx} {e : Expr} : PE X e (fun _ _ _ => False) := ⟨fun _ _ _ _ _ _ h => h.elim⟩
/-- x == y, both of the class at C -/
def rEqIns (C : Addr) (sp : Sp) (E : XK) : R2 := fun x y H Q => ∃ (a b dx dy : Addr) (fs gs : List (Str × V)), x = .ref a ∧ y = .ref b ∧ H a = some (.ins C dx fs) ∧ H b = some (.ins C dy gs) ∧ sp [.ref a, .ref b] H (fun v H' => (∃ k, v = .bl k) ∧ Q v H') E
theorem op_eqIns {X : Cx} {CX : CXT} {C f : Addr} {fd : FuncData} {ps : List Str} {n : Nat} {sp : Sp} {E : XK} (F : FnOk X.prog X.w X.K X.mg X.base CX n f fd ps sp) (hr : Room n X.A)
    (hs : PySem.W.findIn X.K (.ref C) "__eq__" = some (some (.ref f))) (hf : PySem.W.isFn X.K (.ref f) = true) (hb : Binds X.K fd ps []) (hx : Passes CX X E) : OpR X (compareOp .Eq) (rEqIns C sp E) := by
  intro pins s σ H x y v u Q I rx ry hq
  obtain ⟨a, b, dx, dy, fs, gs, rfl, rfl, ha, hb', hsp⟩ := hq
  cases rx
  cases ry
  obtain ⟨mA, J, _⟩ := ins_get I.hok ha
  obtain ⟨mB, J', _⟩ := ins_get I.hok hb'
  obtain ⟨od, J, _⟩ := J.look
  obtain ⟨od', J', _⟩ := J'.look
  obtain ⟨m, hF⟩ := I.fr
  show wpAny (model X.prog X.w) X.A (richCompare .Eq (.ref a) (.ref b)) (EP X pins σ Q) X.xe s
  refine PySem.W.cmp_K (op := .Eq) (tb := .ref C) hr.units0 hF I.ok.mod.kin J J'.type (by simp [PySem.W.notFirst]) hs hf ?_
  have hl := F.len _ _ _ _ hsp
  have r2 : Vals [V.ref a, V.ref b] [Value.ref a, Value.ref b] := .cons rfl (.cons rfl .nil)
  refine wpAny_call (codeAny_mono (F.run X.A X.stack s H ⟨[.ref a, .ref b], []⟩ [.ref a, .ref b] [.ref a, .ref b] _ E hr I.env0 (by
    have := hb s [.ref a, .ref b] I.kIn (by simpa using hl)
    simpa using this) r2 hsp) fun r s' hq => ?_)
  cases r with
  | error e => exact hx pins σ H s e s' I hq
  | ok fl =>
    cases fl with
    | ret w =>
      obtain ⟨z, H', I', rz, ⟨k, ez⟩, q⟩ := I.after hq
      subst ez
      cases rz
      exact ⟨.bl k, H', I', rfl, q⟩
    | next => exact False.elim hq
    | brk => exact False.elim hq
    | cont => exact False.elim hq
end L2

set_option Elab.async false
set_option linter.all false
set_option maxRecDepth 100000
set_option maxHeartbeats 4000000
/-! text_put, line_places. -/
namespace K50
open PySem L2 L2.EV
abbrev sPlaces : Stmt := top 37
/-- an entry that ends a line -/
def ends (fr : List T3) (e : E2) : Bool := decide ((stt fr e.2).2.2 = 0)
def cuts (fr : List T3) (es : List E2) (i : Nat) : List Int := ((List.range i).filter fun k => ends fr (es.getD k (0, 0))).map fun k : Nat => (k : Int) + 1
def lp (fr : List T3) (es : List E2) : List Int := 0 :: cuts fr es es.length
def spPlaces : Sp := fun vs H Q _ => ∃ (f w : Addr) (fr : List T3) (last : Nat) (es : List E2), vs = [.ref f, .ref w] ∧ FrA H f fr ∧ Frm fr last ∧ WvA H w es ∧ (∀ e ∈ es, Ent fr e) ∧ es.length ≤ 60 ∧ ∀ H' p, Same H H' → H p = none → H' p = some (.lst ((lp fr es).map V.int)) → Q (.ref p) H'
structure Ps (K : PySem.W.Frag) (mg : Str → Option Value) where
  Y : Ws K mg
  fL : Addr
  dL : FuncData
  L : Fun K "line_places" "line_places" sPlaces fL dL
  bL : Binds K dL ["framing", "entries"] []
  mL : mg "line_places" = some (.ref fL)
section
variable {P : Program} {w : World} {K : PySem.W.Frag} {mg : Str → Option Value} {base : Heap}
theorem scPlaces : FnScope ["framing", "entries", "at", "writer", "step"] ["framing", "entries"] (defScope sPlaces) := ⟨rfl, rfl, rfl, by decide +kernel, rfl, by decide +kernel, by decide +kernel⟩
theorem ok_places (U : Ps K mg) : FnOk P w K mg base CX0 1 U.fL U.dL ["framing", "entries"] spPlaces := by
  refine U.L.ok scPlaces (fun vs H Q E h => ?_) (fun cdv A outer s H vs Q E hr h => ?_)
  · obtain ⟨f, t, fr, l, e, rfl, _⟩ := h
    rfl
  · obtain ⟨f, wv, fr, last, es, rfl, fa, fm, wa, ent, l60, q⟩ := h
    refine ⟨_, pss_one (ps_ret (pe_op op_cat (pe_lst (pa_cons pe_int pa_nil)) (pe_lc (own := [("at", 2), ("writer", 3), ("step", 4)]) (g := gTup K 2 (gCons (gName 2) (gCons (gTup K 2 (gCons (gName 3) (gCons (gName 4) gNil))) gNil))) (tt := tTest (tOp rEq (tOp (rIxT K) (tOp (rIxT K) (tVar 0) (tVar 4)) (tC (.int 2))) (tC (.int 0)))) (te := tOp (rI0 fun i j => .int (i + j)) (tVar 2) (tC (.int 1))) rfl scPlaces.nd (pi_enumT (by rfl) U.Y.Z.en (pa_cons (pv 1) pa_nil))
      (blkOk_by (N := ["framing", "entries", "at", "writer", "step"]) (sc := defScope sPlaces) (by decide +kernel))
      (fun _ _ _ _ _ => pg_tup rfl (pgs_cons (pg_name (i := 2) scPlaces.nd rfl (Or.inl rfl)) (pgs_cons (pg_tup rfl (pgs_cons (pg_name (i := 3) scPlaces.nd rfl (Or.inl rfl)) (pgs_cons (pg_name (i := 4) scPlaces.nd rfl (Or.inl rfl)) pgs_nil))) pgs_nil)))
      (fun _ _ _ _ _ => pts_one (pt_cmpR op_eq (pe_ix ix_tup (pe_ix ix_tup (pv 0) (pv 4) (fun _ _ => rfl)) pe_int (fun _ _ => rfl)) pe_int (nomark _)))
      (fun _ _ _ _ _ => pe_op op_add (pv 2) pe_int)))), ?_⟩
    obtain ⟨tw, hw, wl, wt⟩ := id wa
    refine ⟨(by show 1 ≤ sizeLine; decide), fun z hz => ?_⟩
    have sz := same_upd (o := HO.lst [V.int 0]) hz
    refine ⟨_, rfl, wv, _, rfl, SqT.of (sz _ _ hw), fun D hD => ?_⟩
    have cl : ∀ i, i ≤ es.length → (cuts fr es i).length ≤ 60 := fun i hi => by
      have := List.length_filter_le (fun k => ends fr (es.getD k (0, 0))) (List.range i)
      unfold cuts
      rw [List.length_map]
      rw [List.length_range] at this
      omega
    refine lc_it (walk_enumT (xs := tw.map V.ref)) (fun i H' => H' D = some (.lst ((cuts fr es i).map V.int)) ∧ ∀ b o, upd H z (.lst [V.int 0]) b = some o → H' b = some o) ⟨upd_same, fun b o e => same_upd hD b o e⟩ (fun i H' _ y => SqT.of (y.2 _ _ (sz _ _ hw))) ?_ ?_
    · rintro i x H1 H2 hi ⟨hl, kp⟩ ⟨T, xi, xo, rfl, nT, rfl, h1, h2⟩
      cases h1
      obtain ⟨t, e, he, _, rfl, e4⟩ := at_ent (i := i) wl wt h2
      have hm := List.mem_of_getElem? he
      have uT := same_upd (o := HO.tup [V.int (i : Nat), V.ref t]) nT
      have s3 : Same H _ := (sz.trans kp).trans uT
      have hl3 := uT _ _ hl
      obtain ⟨e0, e1, n0, n1⟩ := ent e hm
      obtain ⟨ts, t2, hf, ha, h3, _⟩ := stt_at (fa.same s3) n0 n1
      have ie : i < es.length := (List.getElem?_eq_some_iff.mp he).1
      have eg : es.getD i (0, 0) = e := by rw [List.getD_eq_getElem?_getD, he]; rfl
      have cs : cuts fr es (i + 1) = cuts fr es i ++ (if ends fr e = true then [(i : Int) + 1] else []) := by
        unfold cuts
        rw [List.range_succ, List.filter_append, List.map_append, List.filter_cons, eg]
        split <;> rfl
      refine ⟨T, _, rfl, SqT.of upd_same, rfl, _, _, rfl, _, _, rfl, ⟨t, _, rfl, SqT.of (s3 _ _ e4), rfl, _, _, rfl, _, _, rfl, rfl, rfl, rfl, ?_⟩⟩
      refine ⟨_, rfl, _, rfl, f, _, e.2, .ref t2, rfl, rfl, SqT.of hf, ha, t2, _, 2, _, rfl, rfl, SqT.of h3, atI_nat (j := 2) rfl, rfl, _, rfl, ?_⟩
      refine ite2 (fun y => ?_) (fun y => ?_)
      · have y1 : (stt fr e.2).2.2 = 0 := V.int.inj (of_decide_eq_true y)
        have en : ends fr e = true := decide_eq_true y1
        refine ⟨_, rfl, _, _, rfl, rfl, _, hl3, ?_, ?_, fun b o q => ?_⟩
        · have := cl i (by omega)
          rw [List.length_map, sizeLine_eq]
          omega
        · rw [cs, if_pos en, List.map_append]
          exact upd_same
        · rw [upd_ne (ne_of_none q hD)]
          exact uT _ _ (kp b o q)
      · have en : ¬ ends fr e = true := fun q => y (decide_eq_true (congrArg V.int (of_decide_eq_true q)))
        refine ⟨?_, fun b o q => uT _ _ (kp b o q)⟩
        rw [cs, if_neg en, List.append_nil]
        exact hl3
    · rintro H1 ⟨hl, kp⟩
      rw [List.length_map, wl] at hl
      have := cl es.length (Nat.le_refl _)
      have z2 := kp _ _ (upd_same (a := z))
      refine ⟨z, D, _, _, rfl, rfl, z2, hl, ?_, fun p hp => ?_⟩
      · rw [List.length_map, sizeLine_eq]
        simp only [List.length_cons, List.length_nil]
        omega
      · refine q _ p (fun b o e => same_upd hp _ _ (kp _ _ (sz _ _ e))) ((sz.trans kp).free hp) ?_
        exact upd_same
end
end K50

set_option Elab.async false
set_option linter.all false
set_option maxRecDepth 100000
set_option maxHeartbeats 4000000
/-! file_of, read_lines, rest_of, stands. -/
namespace K50
open PySem L2 L2.EV
def cutsN (fr : List T3) (es : List E2) (i : Nat) : List Nat := ((List.range i).filter fun k => ends fr (es.getD k (0, 0))).map fun k : Nat => k + 1
def lpN (fr : List T3) (es : List E2) : List Nat := 0 :: cutsN fr es es.length
theorem lp_nat {fr : List T3} {es : List E2} : lp fr es = (lpN fr es).map fun k : Nat => (k : Int) := by
  unfold lp lpN cuts cutsN
  rw [List.map_cons, List.map_map]
  congr 1
def cutE {α : Type} (es : List α) (lo hi : Nat) : List α := (es.drop (min lo es.length)).take (min hi es.length - min lo es.length)
def linesE (fr : List T3) (es : List E2) : List (List E2) := ((lpN fr es).zip (lpN fr es).tail).map fun q => cutE es q.1 q.2
def restE (fr : List T3) (es : List E2) : List E2 := es.drop (min ((lpN fr es).getLastD 0) es.length)
/-- a tuple of lines -/
def LnA (H : Hp) (p : Addr) (ls : List (List E2)) : Prop := ∃ qs : List Addr, H p = some (.tup (qs.map V.ref)) ∧ qs.length = ls.length ∧ ∀ (i : Nat) q l, qs[i]? = some q → ls[i]? = some l → WvA H q l
theorem cutV_map {ts : List Addr} {lo hi : Nat} : cutV (ts.map V.ref) (some (lo : Int)) (some (hi : Int)) = (cutE ts lo hi).map V.ref := by
  unfold cutV cutE
  rw [HT.sIx_nat, HT.sIx_nat, List.length_map, List.map_take, List.map_drop]
theorem cutV_rest {ts : List Addr} {lo : Nat} : cutV (ts.map V.ref) (some (lo : Int)) none = (ts.drop (min lo ts.length)).map V.ref := by
  unfold cutV
  rw [HT.sIx_nat, HT.sIx_none, List.length_map, List.map_drop]
  exact List.take_of_length_le (by simp)
theorem wv_part {H H' : Hp} {tw : List Addr} {es : List E2} {p : Addr} {a b : Nat} (hl : tw.length = es.length) (ht : ∀ (i : Nat) t e, tw[i]? = some t → es[i]? = some e → A2 H t e) (s : Same H H') (hp : H' p = some (.tup (((tw.drop a).take b).map V.ref))) :
    WvA H' p ((es.drop a).take b) := by
  refine ⟨_, hp, by simp [hl], fun i t e h1 h2 => s _ _ ?_⟩
  rw [List.getElem?_take] at h1 h2
  by_cases hi : i < b
  · rw [if_pos hi, List.getElem?_drop] at h1 h2
    exact ht _ t e h1 h2
  · rw [if_neg hi] at h1
    cases h1
theorem int_at {l : List Nat} {i : Nat} {x : V} (h : ((l.map (fun k : Nat => (k : Int))).map V.int)[i]? = some x) : ∃ k : Nat, l[i]? = some k ∧ x = .int (k : Int) := by
  rw [List.getElem?_map, List.getElem?_map] at h
  cases e : l[i]? with
  | none =>
    rw [e] at h
    cases h
  | some k =>
    rw [e] at h
    exact ⟨k, rfl, (Option.some.inj h).symm⟩
theorem cut_tail {l : List Nat} : cutV ((l.map (fun k : Nat => (k : Int))).map V.int) (some 1) none = ((l.tail).map (fun k : Nat => (k : Int))).map V.int := by
  rw [cut_one]
  cases l <;> rfl
theorem lpN_len {fr : List T3} {es : List E2} (h : es.length ≤ 60) : (lpN fr es).length ≤ 61 := by
  have := List.length_filter_le (fun k => ends fr (es.getD k (0, 0))) (List.range es.length)
  unfold lpN cutsN
  rw [List.length_cons, List.length_map]
  rw [List.length_range] at this
  omega
structure Qs (K : PySem.W.Frag) (mg : Str → Option Value) where
  U : Ps K mg
end K50

set_option Elab.async false
set_option linter.all false
set_option maxRecDepth 100000
set_option maxHeartbeats 4000000
/-! is_read_line, is_whole_line. -/
namespace K50
open PySem L2 L2.EV
abbrev sIsRead : Stmt := top 38
abbrev sIsWhole : Stmt := top 39
theorem tup_inj {es : List E2} {ds : List PyData} {fr : List T3} : ∀ {pl : List (Option Int)} {i : Nat}, wrongF fr ds pl i = none → ∀ d ∈ ds, ∃ e : E2, entD fr.length 8 d = some e := by
  induction ds with
  | nil => exact fun _ d h => by cases h
  | cons d ds ih =>
    intro pl i h x hx
    have h : (match entD fr.length 8 d with
      | none => some i
      | some e => match pl.getD e.1.toNat none with
        | none => wrongF fr ds (pl.set e.1.toNat (some (stt fr e.2).2.2)) (i + 1)
        | some x => if x = (stt fr e.2).1 then wrongF fr ds (pl.set e.1.toNat (some (stt fr e.2).2.2)) (i + 1) else some i) = none := h
    cases ed : entD fr.length 8 d with
    | none =>
      rw [ed] at h
      cases h
    | some e =>
      rw [ed] at h
      rcases List.mem_cons.mp hx with rfl | hx
      · exact ⟨e, ed⟩
      have h : (match pl.getD e.1.toNat none with
        | none => wrongF fr ds (pl.set e.1.toNat (some (stt fr e.2).2.2)) (i + 1)
        | some x => if x = (stt fr e.2).1 then wrongF fr ds (pl.set e.1.toNat (some (stt fr e.2).2.2)) (i + 1) else some i) = none := h
      cases ep : pl.getD e.1.toNat none with
      | none =>
        rw [ep] at h
        exact ih h x hx
      | some y =>
        rw [ep] at h
        have h : (if y = (stt fr e.2).1 then wrongF fr ds (pl.set e.1.toNat (some (stt fr e.2).2.2)) (i + 1) else some i) = none := h
        by_cases c : y = (stt fr e.2).1
        · rw [if_pos c] at h
          exact ih h x hx
        · rw [if_neg c] at h
          cases h
/-- the entries of data -/
def esOf (fr : List T3) (ds : List PyData) : List E2 := ds.filterMap (entD fr.length 8)
theorem esOf_all {fr : List T3} : ∀ {ds : List PyData}, (∀ d ∈ ds, ∃ e : E2, entD fr.length 8 d = some e) → ds = (esOf fr ds).map d2 ∧ ∀ e ∈ esOf fr ds, Ent fr e
  | [], _ => ⟨rfl, fun e h => by cases h⟩
  | d :: ds, h => by
    obtain ⟨e, he⟩ := h d (List.mem_cons_self ..)
    obtain ⟨h1, h2⟩ := esOf_all (ds := ds) fun x hx => h x (List.mem_cons_of_mem _ hx)
    obtain ⟨rfl, e0, e1, n0, n1⟩ := entD_some he
    have z : esOf fr (.tuple [.int e.1, .int e.2] :: ds) = e :: esOf fr ds := by
      unfold esOf
      rw [List.filterMap_cons, he]
    rw [z]
    refine ⟨by rw [List.map_cons, ← h1]; rfl, fun x hx => ?_⟩
    rcases List.mem_cons.mp hx with rfl | hx
    · exact ⟨e0, e1, n0, n1⟩
    · exact h2 x hx
/-- the entries of a read line, if it is one -/
def lineOf (fr : List T3) : PyData → Option (List E2)
  | .tuple ds => if wrongF fr ds (all8 none) 0 = none ∧ lp fr (esOf fr ds) = [0, (ds.length : Int)] then some (esOf fr ds) else none
  | _ => none
def wholeE (fr : List T3) (es : List E2) : Bool := decide ((stt fr (es.headD (0, 0)).2).1 = 0) && es.all fun e => decide (e.1 = (es.headD (0, 0)).1)
theorem wv_ofR {H : Hp} {w : Addr} {ds : List PyData} {es : List E2} (h : Da H (.ref w) (.tuple ds)) (e : ds = es.map d2) : WvA H w es := by
  subst e
  cases h with
  | @tup _ xs _ e all =>
    have key : ∀ {es : List E2} {xs : List V}, DaAll H xs (es.map d2) → ∃ ts : List Addr, xs = ts.map V.ref ∧ ts.length = es.length ∧ ∀ (i : Nat) t e, ts[i]? = some t → es[i]? = some e → A2 H t e := by
      intro es
      induction es with
      | nil =>
        intro xs h
        cases h
        exact ⟨[], rfl, rfl, fun i t e h => by cases h⟩
      | cons x es ih =>
        intro xs h
        cases h with
        | cons h1 h2 =>
          obtain ⟨ts, rfl, l, c⟩ := ih h2
          cases h1 with
          | @tup t _ _ e1 a1 =>
            match a1 with
            | .cons (.int _) (.cons (.int _) .nil) =>
              refine ⟨t :: ts, rfl, by rw [List.length_cons, List.length_cons, l], fun i t' e' h3 h4 => ?_⟩
              cases i with
              | zero =>
                cases h3
                cases h4
                exact e1
              | succ i => exact c i t' e' (by simpa using h3) (by simpa using h4)
    obtain ⟨ts, rfl, l, c⟩ := key all
    exact ⟨ts, e, l, c⟩
theorem eqv_intsd : ∀ a b : List Int, PyData.eqvAll (a.map PyData.int) (b.map PyData.int) = decide (a = b)
  | [], [] => by simp [PyData.eqvAll]
  | [], _ :: _ => by simp [PyData.eqvAll]
  | _ :: _, [] => by simp [PyData.eqvAll]
  | x :: a, y :: b => by
    simp only [List.map_cons, PyData.eqvAll, eqv_intsd a b, PyData.eqv]
    by_cases h : x = y
    · subst h
      simp
    · simp [h]
def spIsRead : Sp := fun vs H Q _ => ∃ (f : Addr) (v : V) (fr : List T3) (last : Nat) (d : PyData), vs = [.ref f, v] ∧ FrA H f fr ∧ Frm fr last ∧ Da H v d ∧ szD d ≤ 60 ∧ ∀ H', Same H H' → Q (.bl (lineOf fr d).isSome) H'
def spIsWhole (C : Addr) : Sp := fun vs H Q E => ∃ (f : Addr) (v : V) (fr : List T3) (last : Nat) (d : PyData), vs = [.ref f, v] ∧ FrA H f fr ∧ Frm fr last ∧ Da H v d ∧ szD d ≤ 60 ∧
  ∀ H', Same H H' → match lineOf fr d with
    | none => E (.ref C) none H'
    | some es => Q (.bl (wholeE fr es)) H'
structure Hs (K : PySem.W.Frag) (mg : Str → Option Value) where
  G : Qs K mg
  O : Oop K mg
  f1 : Addr
  d1 : FuncData
  f2 : Addr
  d2 : FuncData
  R : Fun K "is_read_line" "is_read_line" sIsRead f1 d1
  W : Fun K "is_whole_line" "is_whole_line" sIsWhole f2 d2
  bR : Binds K d1 ["framing", "thing"] []
  bW : Binds K d2 ["framing", "entries"] []
  mR : mg "is_read_line" = some (.ref f1)
  mW : mg "is_whole_line" = some (.ref f2)
section
variable {P : Program} {w : World} {K : PySem.W.Frag} {mg : Str → Option Value} {base : Heap}
theorem scIsRead : FnScope ["framing", "thing"] ["framing", "thing"] (defScope sIsRead) := ⟨rfl, rfl, rfl, by decide +kernel, rfl, by decide +kernel, by decide +kernel⟩
theorem ok_isRead (S : Hs K mg) : FnOk P w K mg base CX0 4 S.f1 S.d1 ["framing", "thing"] spIsRead := by
  have GR : FnOk P w K mg base CX0 3 S.G.U.Y.fR S.G.U.Y.dR ["framing", "things", "begin"] spWrongD := ok_wrongD S.G.U.Y
  have GL : FnOk P w K mg base CX0 1 S.G.U.fL S.G.U.dL ["framing", "entries"] spPlaces := ok_places S.G.U
  refine S.R.ok scIsRead (fun vs H Q E h => ?_) (fun cdv A outer s H vs Q E hr h => ?_)
  · obtain ⟨f, v, fr, last, d, rfl, _⟩ := h
    rfl
  · obtain ⟨f, v, fr, last, d, rfl, fa, fm, da, l60, q⟩ := h
    have hu2 := hr.units
    refine ⟨_, pss_cons (ps_if (pw_or (pt_not (pt_val (pe_callB call_isi (by rfl) S.G.U.Y.Z.T.isi PyProof.Rows.boot_isinstance (pa_cons (pv 1) (pa_cons (pe_bltn (v := .ty "tuple") (by rfl) S.G.U.Y.Z.T.tuple (by decide +kernel) rfl) pa_nil)))))
        (pw_or1 (pt_cmpR op_notN (pe_call GR hr (by rfl) S.G.U.Y.mR S.G.U.Y.R.kp S.G.U.Y.bR .nil pass0 (pa_cons (pv 0) (pa_cons (pv 1) (pa_cons pe_non pa_nil)))) pe_non (nomark _)))).pt
        (pss_one (ps_ret pe_bl)) pss_nil)
      (pss_one (ps_ret (pe_cmpR (op_eqD hu2) (pe_call GL (hr.mono (by omega)) (by rfl) S.G.U.mL S.G.U.L.kp S.G.U.bL .nil pass0 (pa_cons (pv 0) (pa_cons (pv 1) pa_nil))) (pe_lst (pa_cons pe_int (pa_cons (pe_callB call_len_seq (by rfl) S.G.U.Y.Z.T.len PySem.boot_len (pa_cons (pv 1) pa_nil)) pa_nil))) (nomark _)))), ?_⟩
    obtain ⟨t, ty, kt, _, _⟩ := da.ty (K := K)
    refine ⟨_, rfl, v, .ty "tuple", t, .type "tuple", isTup d, rfl, .ty "tuple", ty, kt, isTup d, rfl, ?_⟩
    have zero := q H (Same.refl H)
    cases da with
    | @tup a xs ds e all =>
      refine iteF ?_
      have da2 : Da H (.ref a) (.tuple ds) := .tup e all
      refine ⟨_, rfl, _, rfl, f, a, fr, ds, none, rfl, fa, da2, fun H1 s1 => ?_⟩
      have q : ∀ H', Same H H' → Q (.bl (if wrongF fr ds (all8 none) 0 = none ∧ lp fr (esOf fr ds) = [0, (ds.length : Int)] then some (esOf fr ds) else none).isSome) H' := q
      cases ew : wrongF fr ds (all8 none) 0 with
      | some n =>
        refine ⟨rfl, _, rfl, iteT' (by simp [wv]) ?_⟩
        have z := q H1 s1
        rw [ew, if_neg (fun k => nomatch k.1)] at z
        exact z
      | none =>
        refine ⟨rfl, _, rfl, iteF' (by simp [wv]) ?_⟩
        obtain ⟨ee, ent⟩ := esOf_all (tup_inj (es := []) ew)
        have wa := wv_ofR (Da.same s1 _ _ da2) ee
        have ll : (esOf fr ds).length = ds.length := by
          have z := congrArg List.length ee
          rw [List.length_map] at z
          exact z.symm
        have l60 : ds.length ≤ 60 := l60
        refine ⟨_, rfl, _, rfl, f, a, fr, last, esOf fr ds, rfl, fa.same s1, fm, wa, ent, by omega, fun H2 p s2 np ep => ?_⟩
        refine ⟨_, rfl, a, _, rfl, .inr (SqT.of (s2 _ _ (s1 _ _ e))), (by show 2 ≤ sizeLine; decide), fun p3 hp3 => ?_⟩
        have u3 := same_upd (o := HO.lst ([0, (xs.length : Int)].map V.int)) hp3
        refine ⟨_, _, dp_list (u3 _ _ ep), dp_list (ns := [0, (xs.length : Int)]) upd_same, shaped_ints _, shaped_ints _, ?_⟩
        have z := q _ ((s1.trans s2).trans u3)
        have ev : PyData.eqv (.list ((lp fr (esOf fr ds)).map PyData.int)) (.list ([0, (xs.length : Int)].map PyData.int)) = decide (lp fr (esOf fr ds) = [0, (xs.length : Int)]) := by
          simp only [PyData.eqv]
          exact eqv_intsd _ _
        rw [ev]
        rw [all.len]
        by_cases c : lp fr (esOf fr ds) = [0, (ds.length : Int)]
        · rw [if_pos ⟨ew, c⟩] at z
          rw [decide_eq_true c]
          rw [all.len] at z
          exact z
        · rw [if_neg (fun k => c k.2)] at z
          rw [decide_eq_false c]
          rw [all.len] at z
          exact z
    | bl b => exact iteT zero
    | non => exact iteT zero
    | int i => exact iteT zero
    | str x => exact iteT zero
    | lst e h => exact iteT zero
end
end K50

set_option Elab.async false
set_option linter.all false
set_option maxRecDepth 100000
set_option maxHeartbeats 4000000
/-! is_whole_line. -/
namespace K50
open PySem L2 L2.EV
theorem line_some {fr : List T3} {d : PyData} {es : List E2} (h : lineOf fr d = some es) : ∃ ds, d = .tuple ds ∧ ds = es.map d2 ∧ (∀ e ∈ es, Ent fr e) ∧ wrongF fr ds (all8 none) 0 = none ∧ lp fr es = [0, (es.length : Int)] ∧ es ≠ [] := by
  cases d with
  | tuple ds =>
    have h : (if wrongF fr ds (all8 none) 0 = none ∧ lp fr (esOf fr ds) = [0, (ds.length : Int)] then some (esOf fr ds) else none) = some es := h
    by_cases c : wrongF fr ds (all8 none) 0 = none ∧ lp fr (esOf fr ds) = [0, (ds.length : Int)]
    · rw [if_pos c] at h
      cases h
      obtain ⟨c1, c2⟩ := c
      obtain ⟨ee, ent⟩ := esOf_all (tup_inj (es := []) c1)
      have ll : (esOf fr ds).length = ds.length := by
        have z := congrArg List.length ee
        rw [List.length_map] at z
        exact z.symm
      refine ⟨ds, rfl, ee, ent, c1, by rw [ll]; exact c2, fun z => ?_⟩
      rw [z] at c2
      have : lp fr [] = [0] := rfl
      rw [this] at c2
      simp at c2
    · rw [if_neg c] at h
      cases h
  | _ => cases h
theorem bmap {H : Hp} {D : Addr} {bs : List Bool} {b : Bool} : (bs.map V.bl) ++ [V.bl b] = (bs ++ [b]).map V.bl := by
  rw [List.map_append]
  rfl
section
variable {P : Program} {w : World} {K : PySem.W.Frag} {mg : Str → Option Value} {base : Heap}
theorem scIsWhole : FnScope ["framing", "entries", "first", "step", "writer", "further"] ["framing", "entries"] (defScope sIsWhole) := ⟨rfl, rfl, rfl, by decide +kernel, rfl, by decide +kernel, by decide +kernel⟩
theorem ok_isWhole (S : Hs K mg) : FnOk P w K mg base (L2.CX P w) 5 S.f2 S.d2 ["framing", "entries"] (spIsWhole S.O.C) := by
  have GF : FnOk P w K mg base CX0 3 S.G.U.Y.Z.fF S.G.U.Y.Z.dF ["thing"] spNeedF := ok_needF S.G.U.Y.Z
  have GR : FnOk P w K mg base CX0 4 S.f1 S.d1 ["framing", "thing"] spIsRead := ok_isRead S
  have GO : FnOk P w K mg base CX0 2 S.O.f S.O.d ["self", "text"] (spNo K S.O.C) := ok_OutOfPlace S.O.F S.O.T S.O.I S.O.FM S.O.bM S.O.mM S.O.TM
  refine S.W.okX scIsWhole (fun vs H Q E h => ?_) (fun cdv A outer s H vs Q E hr h => ?_)
  · obtain ⟨f, v, fr, last, d, rfl, _⟩ := h
    rfl
  · obtain ⟨f, v, fr, last, d, rfl, fa, fm, da, l60, q⟩ := h
    have r3 := hr.mono (j := 3) (by omega)
    refine ⟨_, pss_cons (ps_expr (pe_call GF r3 (by rfl) S.G.U.Y.Z.mF S.G.U.Y.Z.F.kp S.G.U.Y.Z.bF .nil pass0 (pa_cons (pv 0) pa_nil)))
      (pss_cons (ps_if (pt_not (pt_val (pe_call GR hr (by rfl) S.mR S.R.kp S.bR .nil pass0 (pa_cons (pv 0) (pa_cons (pv 1) pa_nil)))))
        (pss_one (ps_raise rfl (takes_of rfl rfl rfl rfl) (pmk_own2 rfl (pe_new S.O.T S.O.iC S.O.tI GO r3 (kb_pos S.O.b rfl) pass0 (by rfl) S.O.m (pa_cons pe_str pa_nil))))) pss_nil)
      (pss_cons (ps_asg (pe_ix ix_tup (pv 1) pe_int (fun _ _ => rfl)) (pg_tup rfl (pgs_cons (pg_name (i := 2) scIsWhole.nd rfl (Or.inr rfl)) (pgs_cons (pg_name (i := 3) scIsWhole.nd rfl (Or.inl rfl)) pgs_nil))))
      (pss_one (ps_ret (pe_and (pe_cmpR op_eq (pe_ix ix_tup (pe_ix ix_tup (pv 0) (pv 3) (fun _ _ => rfl)) pe_int (fun _ _ => rfl)) pe_int (nomark _))
        (pe_one (pe_callB (cr_all rfl) (by rfl) S.G.U.Y.Z.T.all (by decide +kernel) (pa_cons (pe_lc (own := [("writer", 4), ("further", 5)]) (g := gTup K 2 (gCons (gName 4) (gCons (gName 5) gNil))) (te := tOp rEq (tVar 4) (tVar 2)) rfl scIsWhole.nd (pi_tup (pv 1))
          (blkOk_by (N := ["framing", "entries", "first", "step", "writer", "further"]) (sc := defScope sIsWhole) (by decide +kernel))
          (fun _ _ _ _ _ => pg_tup rfl (pgs_cons (pg_name (i := 4) scIsWhole.nd rfl (Or.inl rfl)) (pgs_cons (pg_name (i := 5) scIsWhole.nd rfl (Or.inl rfl)) pgs_nil))) (fun _ _ _ _ _ => pts_nil)
          (fun _ _ _ _ _ => pe_cmpR op_eq (pv 4) (pv 2) (by rfl))) pa_nil)))))))), ?_⟩
    refine ⟨_, rfl, f, fr, last, rfl, fa, fm, fun H1 s1 => ?_⟩
    refine ⟨_, rfl, _, rfl, f, v, fr, last, d, rfl, fa.same s1, fm, Da.same s1 _ _ da, l60, fun H2 s2 => ?_⟩
    have s12 := s1.trans s2
    cases el : lineOf fr d with
    | none =>
      refine ⟨_, rfl, iteT ?_⟩
      refine ⟨rfl, rfl, (by decide), fun a na => ⟨a, .str _, .str _, rfl, upd_same, .str _, rfl, a, S.O.C, none, rfl, upd_same, fr0_none (same_none s12 na), raises_own S.O.su S.O.ty, ?_⟩⟩
      have z := q H2 s12
      rw [el] at z
      rw [delH_new na]
      exact z
    | some es =>
      refine ⟨_, rfl, iteF ?_⟩
      obtain ⟨ds, rfl, ee, ent, _, _, ne⟩ := line_some el
      have z := q
      rw [el] at z
      obtain ⟨a, rfl⟩ : ∃ a, v = .ref a := by
        cases da with
        | tup e h => exact ⟨_, rfl⟩
      have wa := wv_ofR (Da.same s12 _ _ da) ee
      match es, ne with
      | e0 :: rest, _ =>
        obtain ⟨tw, hw, wl, wt⟩ := id wa
        obtain ⟨t0, ht0⟩ : ∃ t0, tw[0]? = some t0 := by
          refine ⟨tw[0]'(by rw [wl]; simp), List.getElem?_eq_getElem _⟩
        have h0 := wt 0 t0 e0 ht0 rfl
        obtain ⟨e1, e2, n0, n1⟩ := ent e0 (List.mem_cons_self ..)
        obtain ⟨ts, t2, hf, ha, h3, _⟩ := stt_at (fa.same s12) n0 n1
        refine ⟨_, rfl, a, _, 0, .ref t0, rfl, rfl, SqT.of hw, atI_nat (j := 0) (by rw [List.getElem?_map, ht0]; rfl), t0, _, rfl, SqT.of h0, rfl, _, _, rfl, _, _, rfl, rfl, ?_⟩
        refine ⟨_, rfl, _, rfl, f, _, e0.2, .ref t2, rfl, rfl, SqT.of hf, ha, t2, _, 0, _, rfl, rfl, SqT.of h3, atI_nat (j := 0) rfl, rfl, _, rfl, ?_⟩
        have l60 : (e0 :: rest).length ≤ 60 := by
          have z : szD (.tuple ds) ≤ 60 := l60
          rw [ee] at z
          have z : ((e0 :: rest).map d2).length ≤ 60 := z
          rw [List.length_map] at z
          exact z
        refine ite2 (fun y => ?_) (fun y => ?_)
        · have y1 : (stt fr e0.2).1 = 0 := V.int.inj (of_decide_eq_true y)
          refine ⟨_, rfl, a, rfl, ⟨_, SqT.of hw⟩, fun D hD => ?_⟩
          refine lc_it (walk_tup (xs := tw.map V.ref)) (fun i H' => H' D = some (.lst ((((e0 :: rest).take i).map fun e => decide (e.1 = e0.1)).map V.bl)) ∧ ∀ b o, H2 b = some o → H' b = some o) ⟨upd_same, fun b o z => same_upd hD b o z⟩ (fun i H' _ z => SqT.of (z.2 _ _ hw)) ?_ ?_
          · rintro i x H3 H4 hi ⟨hl, kp⟩ ⟨rfl, hx⟩
            obtain ⟨t, e, he, _, rfl, e4⟩ := at_ent (i := i) wl wt hx
            refine ⟨t, _, rfl, SqT.of (kp _ _ e4), rfl, _, _, rfl, _, _, rfl, rfl, rfl, ?_⟩
            refine ⟨_, rfl, _, rfl, rfl, _, hl, ?_, ?_, fun b o z => ?_⟩
            · rw [List.length_map, List.length_map, List.length_take, sizeLine_eq]
              omega
            · rw [take_one he, List.map_append, List.map_append]
              have eb : decide (V.int e.1 = V.int e0.1) = decide (e.1 = e0.1) := by
                by_cases c : e.1 = e0.1
                · rw [decide_eq_true c, decide_eq_true (congrArg V.int c)]
                · rw [decide_eq_false c, decide_eq_false (fun k => c (V.int.inj k))]
              show upd H4 D (.lst (_ ++ [V.bl (decide (V.int e.1 = V.int e0.1))])) D = some (.lst (_ ++ [V.bl (decide (e.1 = e0.1))]))
              rw [eb]
              exact upd_same
            · rw [upd_ne (ne_of_none z hD)]
              exact kp b o z
          · rintro H3 ⟨hl, kp⟩
            have e9 : (e0 :: rest).take (tw.map V.ref).length = e0 :: rest := by
              rw [List.length_map, wl, List.take_length]
            rw [e9] at hl
            refine ⟨D, _, rfl, SqL.of hl, ?_⟩
            have z := q H3 (s12.trans kp)
            rw [el] at z
            have ew : wholeE fr (e0 :: rest) = ((e0 :: rest).map fun e => decide (e.1 = e0.1)).all id := by
              show (decide ((stt fr e0.2).1 = 0) && (e0 :: rest).all fun e => decide (e.1 = e0.1)) = _
              rw [decide_eq_true y1, Bool.true_and, List.all_map]
              rfl
            rw [← ew]
            exact z
        · have y1 : ¬ (stt fr e0.2).1 = 0 := fun k => y (decide_eq_true (congrArg V.int k))
          have z := q H2 s12
          rw [el] at z
          have ew : wholeE fr (e0 :: rest) = false := by
            show (decide ((stt fr e0.2).1 = 0) && (e0 :: rest).all fun e => decide (e.1 = e0.1)) = _
            rw [decide_eq_false y1, Bool.false_and]
          have z : Q (.bl (wholeE fr (e0 :: rest))) H2 := z
          rw [ew] at z
          exact z
end
end K50

set_option Elab.async false
set_option linter.all false
set_option maxRecDepth 100000
set_option maxHeartbeats 4000000
/-! The law's own text and lines. -/
namespace K50
open PySem L2 L2.EV
abbrev sLinesL : Stmt := top 63
def spl (fr : List T3) (es : List E2) : List (List E2) × List E2 := es.foldl (fun a e => if ends fr e = true then (a.1 ++ [a.2 ++ [e]], []) else (a.1, a.2 ++ [e])) ([], [])
theorem spl_snoc (fr : List T3) (es : List E2) (e : E2) : spl fr (es ++ [e]) = if ends fr e = true then ((spl fr es).1 ++ [(spl fr es).2 ++ [e]], []) else ((spl fr es).1, (spl fr es).2 ++ [e]) := by
  unfold spl
  rw [List.foldl_append]
  rfl
theorem semi_eq : (";" : Str) = ⟨#[59]⟩ := by decide +kernel
theorem pc_lastc {p : Str} {l : Bool} (h : Pc p l) : ∃ ch, atI p.cps.toList (-1) = some ch ∧ decide (V.str ⟨#[ch]⟩ = V.str ";") = l := by
  have at1 : ∀ (M : List Nat) (y : Nat), sl p = M ++ [y] → atI p.cps.toList (-1) = some y := fun M y e => by
    have e' : p.cps.toList = M ++ [y] := e
    rw [e']
    unfold atI ixN
    simp only [List.length_append, List.length_cons, List.length_nil]
    rw [if_neg (by omega), if_pos (by omega)]
    show (M ++ [y])[((-1 : Int) + ((M.length + (0 + 1) : Nat) : Int)).toNat]? = _
    have e2 : ((-1 : Int) + ((M.length + (0 + 1) : Nat) : Int)).toNat = M.length := by omega
    rw [e2, List.getElem?_append_right (Nat.le_refl _)]
    simp
  obtain ⟨b, e, _, hb, h2⟩ := h
  cases l with
  | true =>
    rw [if_pos rfl] at e
    refine ⟨59, at1 b 59 e, decide_eq_true ?_⟩
    rw [semi_eq]
  | false =>
    rw [if_neg (by simp), List.append_nil] at e
    obtain ⟨M, y, hM⟩ := SrtO.snoc_of (l := b) (List.length_pos_iff.mpr (h2 rfl))
    have hy : y ∈ sgs := hb y (by rw [hM]; simp)
    refine ⟨y, at1 M y (e.trans hM), decide_eq_false fun z => ?_⟩
    have z2 : (⟨#[y]⟩ : Str) = ";" := V.str.inj z
    rw [semi_eq] at z2
    have z3 : y = 59 := by
      have z4 := congrArg (fun s : Str => s.cps.toList) z2
      simpa using z4
    exact no59 (z3 ▸ hy)
def spLinesL : Sp := fun vs H Q _ => ∃ (f w : Addr) (fr : List T3) (last : Nat) (es : List E2), vs = [.ref f, .ref w] ∧ FrA H f fr ∧ Frm fr last ∧ WvA H w es ∧ Wv fr es ∧
  ∀ (H' : Hp) (p q r : Addr) (qs : List Addr), Same H H' → H' p = some (.tup [.ref q, .ref r]) → H' q = some (.lst (qs.map V.ref)) → qs.length = (spl fr es).1.length → (∀ (i : Nat) a l, qs[i]? = some a → (spl fr es).1[i]? = some l → WvA H' a l) → WvA H' r (spl fr es).2 → Q (.ref p) H'
section
variable {P : Program} {w : World} {K : PySem.W.Frag} {mg : Str → Option Value} {base : Heap}
structure Lt (K : PySem.W.Frag) (mg : Str → Option Value) where
  f3 : Addr
  d3 : FuncData
  L : Fun K "_law_lines" "_law_lines" sLinesL f3 d3
  bL : Binds K d3 ["framing", "weaving"] []
  gL : mg "_law_lines" = some (.ref f3)
  tu : mg "tuple" = none
theorem scLinesL : FnScope ["framing", "weaving", "found", "rest", "entry"] ["framing", "weaving"] (defScope sLinesL) := ⟨rfl, rfl, rfl, by decide +kernel, rfl, by decide +kernel, by decide +kernel⟩
theorem ok_linesL (G : Lt K mg) : FnOk P w K mg base CX0 1 G.f3 G.d3 ["framing", "weaving"] spLinesL := by
  refine G.L.ok scLinesL (fun vs H Q E h => ?_) (fun cdv A outer s H vs Q E hr h => ?_)
  · obtain ⟨f, t, fr, l, e, rfl, _⟩ := h
    rfl
  · obtain ⟨f, wv, fr, last, es, rfl, fa, fm, wa, wo, q⟩ := h
    refine ⟨_, pss_cons (ps_par (i := 2) (j := 3) (x := "found") (y := "rest") rfl scLinesL.nd rfl rfl (by decide) rfl rfl (pa_cons (pe_lst pa_nil) (pa_cons (pe_lst pa_nil) pa_nil)) (by rfl))
      (pss_cons (ps_for PassesOwn.never rfl (pi_tup (pv 1)) (pg_name (i := 4) scLinesL.nd rfl (Or.inl rfl))
        (pss_cons (ps_expr (pe_bm PySem.F.plainAttrs_list PySem.F.slot_list_append PySem.F.type_list_append mt_append (pv 3) (pa_cons (pv 4) pa_nil)))
        (pss_one (ps_if (pt_cmpR op_eq (pe_ix ix_str (pe_ix ix_tup (pe_ix ix_tup (pv 0) (pe_ix ix_tup (pv 4) pe_int (fun _ _ => rfl)) (fun _ _ => rfl)) pe_int (fun _ _ => rfl)) (pe_un un_neg pe_int) (fun _ _ => rfl)) pe_str (nomark _))
          (pss_cons (ps_expr (pe_bm PySem.F.plainAttrs_list PySem.F.slot_list_append PySem.F.type_list_append mt_append (pv 2) (pa_cons (pe_callTy call_tuple_of (by rfl) G.tu (by decide +kernel) (pa_cons (pv 3) pa_nil)) pa_nil)))
          (pss_one (ps_set (i := 3) scLinesL.nd rfl (Or.inl rfl) (pe_lst pa_nil)))) pss_nil))))
      (pss_one (ps_ret (pe_tup (pa_cons (pv 2) (pa_cons (pe_callTy call_tuple_of (by rfl) G.tu (by decide +kernel) (pa_cons (pv 3) pa_nil)) pa_nil)))))), ?_⟩
    obtain ⟨tw, hw, wl, wt⟩ := id wa
    have l60 := wo.l
    refine ⟨by decide, fun Fq hFq => ⟨by decide, fun R0 hR0 => ⟨_, _, rfl, ?_⟩⟩⟩
    have u1 := same_upd (o := HO.lst []) hFq
    have u2 := same_upd (o := HO.lst []) hR0
    refine ⟨_, rfl, wv, rfl, ⟨_, SqT.of ((u1.trans u2) _ _ hw)⟩, for_it (walk_tup (xs := tw.map V.ref)) (fun i σ H' => ∃ (R : Addr) (v4 : Option V) (qs rs : List Addr), σ = [some (.ref f), some (.ref wv), some (.ref Fq), some (.ref R), v4] ∧ Same H H' ∧
      H' Fq = some (.lst (qs.map V.ref)) ∧ H' R = some (.lst (rs.map V.ref)) ∧ Fq ≠ R ∧ H R = none ∧ qs.length = (spl fr (es.take i)).1.length ∧ qs.length ≤ i ∧ (∀ (j : Nat) a l, qs[j]? = some a → (spl fr (es.take i)).1[j]? = some l → WvA H' a l) ∧ At2 H' rs (spl fr (es.take i)).2 ∧ rs.length ≤ i)
      ⟨R0, none, [], [], rfl, u1.trans u2, u2 _ _ upd_same, upd_same, ne_of_none (upd_same (H := H) (a := Fq) (o := HO.lst [])) hR0, u1.free hR0, rfl, Nat.le_refl _, (fun j a l h => by cases h), ⟨rfl, fun j t e h => by cases h⟩, Nat.le_refl _⟩
      (fun i σ H' _ ⟨_, _, _, _, _, z, _⟩ => SqT.of (z _ _ hw)) ?_ ?_⟩
    · rintro i x σ H2 H2' hi ⟨R, v4, qs, rs, rfl, sm, hF, hR, fR, nR, ql, qi, qp, ra, ri⟩ ⟨rfl, hx⟩
      obtain ⟨t, e, he, _, rfl, e4⟩ := at_ent (i := i) wl wt hx
      obtain ⟨e0, e1, n0, n1⟩ := wo.ent e (List.mem_of_getElem? he)
      have ie : i < es.length := (List.getElem?_eq_some_iff.mp he).1
      refine ⟨_, rfl, .inl ⟨rfl, _, SqL.of hR⟩, _, rfl, R, rs.map V.ref, _, rfl, rfl, hR, by rw [List.length_map, sizeLine_eq]; omega, ?_⟩
      have k3 := keepT_upd (o := .lst (rs.map V.ref ++ [.ref t])) hR (fun xs z => by cases z)
      have s3 : Same H (upd H2' R (.lst (rs.map V.ref ++ [.ref t]))) := same_set nR sm
      have hF3 : upd H2' R (.lst (rs.map V.ref ++ [.ref t])) Fq = some (.lst (qs.map V.ref)) := by
        rw [upd_ne fR]
        exact hF
      have hR3 : upd H2' R (.lst (rs.map V.ref ++ [.ref t])) R = some (.lst ((rs ++ [t]).map V.ref)) := by
        rw [List.map_append]
        exact upd_same
      have ra3 := (ra.same k3).snoc (s3 _ _ e4)
      generalize upd H2' R (.lst (rs.map V.ref ++ [.ref t])) = H3 at *
      obtain ⟨ts, t2, hf, hat, h3, hm⟩ := stt_at (fa.same s3) n0 n1
      have hpc := (fm.stp _ hm).2.2.1
      obtain ⟨ch, hch, hdec⟩ := pc_lastc hpc
      have p8 := (pc_len hpc).2
      refine ⟨_, rfl, _, rfl, t, _, 1, _, rfl, rfl, SqT.of (s3 _ _ e4), atI_nat (j := 1) rfl, f, _, e.2, .ref t2, rfl, rfl, SqT.of hf, hat, t2, _, 1, _, rfl, rfl, SqT.of h3, atI_nat (j := 1) rfl, 1, rfl, _, -1, ch, rfl, rfl, by rw [sizeLine_eq]; omega, hch, rfl, _, rfl, ?_⟩
      rw [hdec]
      have wk : ∀ {H4 : Hp} {a : Addr} {l : List E2}, KeepT H2' H4 → WvA H2' a l → WvA H4 a l := fun {H4 a l} kt ⟨ts, e, b, c⟩ => ⟨ts, kt _ _ e, b, fun i t e h1 h2 => kt _ _ (c i t e h1 h2)⟩
      refine ite2 (fun z => ?_) (fun z => ?_)
      · have en : ends fr e = true := z
        refine ⟨_, rfl, .inl ⟨rfl, _, SqL.of hF3⟩, _, rfl, R, _, rfl, .inl ⟨SqL.of hR3, fun pt hpt => ?_⟩⟩
        have u4 := same_upd (o := HO.tup ((rs ++ [t]).map V.ref)) hpt
        refine ⟨Fq, qs.map V.ref, _, rfl, rfl, u4 _ _ hF3, by rw [List.length_map, sizeLine_eq]; omega, by decide, fun R2 hR2 => ?_⟩
        have k5 := keepT_upd (o := .lst (qs.map V.ref ++ [.ref pt])) (u4 _ _ hF3) (fun xs z => by cases z)
        have u6 := same_upd (o := HO.lst []) hR2
        have kt := (Same.keepT u4).trans (k5.trans (Same.keepT u6))
        have s5 : Same H (upd (upd H3 pt (.tup ((rs ++ [t]).map V.ref))) Fq (.lst (qs.map V.ref ++ [.ref pt]))) := same_set hFq (s3.trans u4)
        refine ⟨R2, _, qs ++ [pt], [], rfl, s5.trans u6, u6 _ _ (by rw [upd_same, List.map_append]; rfl), upd_same, ne_of_none (upd_same (H := upd H3 pt (.tup ((rs ++ [t]).map V.ref))) (a := Fq) (o := HO.lst (qs.map V.ref ++ [.ref pt]))) hR2, s5.free hR2, ?_, ?_, ?_, ?_, Nat.zero_le _⟩
        · rw [take_one he, spl_snoc, if_pos en, List.length_append, List.length_append, ql]
          rfl
        · rw [List.length_append]
          simp only [List.length_cons, List.length_nil]
          omega
        · intro j a l h1 h2
          rw [take_one he, spl_snoc, if_pos en] at h2
          by_cases hj : j < qs.length
          · rw [List.getElem?_append_left hj] at h1
            rw [List.getElem?_append_left (by rw [← ql]; exact hj)] at h2
            exact wk (k3.trans kt) (qp j a l h1 h2)
          · have j1 := (List.getElem?_eq_some_iff.mp h1).1
            rw [List.length_append] at j1
            have e2 : j = qs.length := by simp only [List.length_cons, List.length_nil] at j1; omega
            subst e2
            rw [List.getElem?_append_right (Nat.le_refl _), Nat.sub_self] at h1
            rw [ql, List.getElem?_append_right (Nat.le_refl _), Nat.sub_self] at h2
            have e3 : pt = a := Option.some.inj h1
            have e5 := Option.some.inj h2
            rw [← e3, ← e5]
            exact ⟨rs ++ [t], (k5.trans (Same.keepT u6)) _ _ upd_same, ra3.1, fun i t e h1 h2 => kt _ _ (ra3.2 i t e h1 h2)⟩
        · rw [take_one he, spl_snoc, if_pos en]
          exact ⟨rfl, fun j t e h => by cases h⟩
      · have en : ¬ ends fr e = true := z
        refine ⟨R, _, qs, rs ++ [t], rfl, s3, hF3, hR3, fR, nR, ?_, by omega, ?_, ?_, ?_⟩
        · rw [take_one he, spl_snoc, if_neg en]
          exact ql
        · intro j a l h1 h2
          rw [take_one he, spl_snoc, if_neg en] at h2
          exact wk k3 (qp j a l h1 h2)
        · rw [take_one he, spl_snoc, if_neg en]
          exact ra3
        · rw [List.length_append]
          simp only [List.length_cons, List.length_nil]
          omega
    · rintro σ H2 ⟨R, v4, qs, rs, rfl, sm, hF, hR, fR, nR, ql, qi, qp, ra, ri⟩
      rw [List.length_map, wl, List.take_length] at ql qp ra
      refine ⟨_, rfl, _, rfl, R, _, rfl, .inl ⟨SqL.of hR, fun pr hpr => ⟨(by show 2 ≤ sizeLine; decide), fun pp hpp => ?_⟩⟩⟩
      have u4 := same_upd (o := HO.tup (rs.map V.ref)) hpr
      have u5 := same_upd (o := HO.tup [V.ref Fq, V.ref pr]) hpp
      have kk := Same.keepT (u4.trans u5)
      refine q _ pp Fq pr qs (sm.trans (u4.trans u5)) upd_same ((u4.trans u5) _ _ hF) ql (fun j a l h1 h2 => (qp j a l h1 h2).same (u4.trans u5)) ?_
      exact ⟨rs, u5 _ _ upd_same, ra.1, fun i t e h1 h2 => kk _ _ (ra.2 i t e h1 h2)⟩
end
end K50

set_option Elab.async false
set_option linter.all false
set_option maxRecDepth 100000
set_option maxHeartbeats 4000000
/-! The lines by places are the lines entry by entry. -/
namespace K50
open PySem L2 L2.EV
theorem cutsN_snoc (fr : List T3) (es : List E2) (e : E2) : cutsN fr (es ++ [e]) (es ++ [e]).length = cutsN fr es es.length ++ (if ends fr e = true then [es.length + 1] else []) := by
  unfold cutsN
  have h1 : ((List.range es.length).filter fun k => ends fr ((es ++ [e]).getD k (0, 0))) = ((List.range es.length).filter fun k => ends fr (es.getD k (0, 0))) := by
    refine List.filter_congr fun k hk => ?_
    have hk2 : k < es.length := List.mem_range.mp hk
    rw [List.getD_eq_getElem?_getD, List.getD_eq_getElem?_getD, List.getElem?_append_left hk2]
  have h2 : (es ++ [e]).getD es.length (0, 0) = e := by
    rw [List.getD_eq_getElem?_getD, List.getElem?_append_right (Nat.le_refl _), Nat.sub_self]
    rfl
  rw [List.length_append, List.length_cons, List.length_nil, Nat.zero_add, List.range_succ, List.filter_append, List.map_append, h1, List.filter_cons, h2]
  split <;> rfl
theorem lpN_snoc (fr : List T3) (es : List E2) (e : E2) : lpN fr (es ++ [e]) = lpN fr es ++ (if ends fr e = true then [es.length + 1] else []) := by
  unfold lpN
  rw [cutsN_snoc]
  rfl
theorem lpN_le {fr : List T3} {es : List E2} : ∀ x ∈ lpN fr es, x ≤ es.length := by
  intro x hx
  unfold lpN cutsN at hx
  rcases List.mem_cons.mp hx with h | h
  · omega
  · obtain ⟨k, hk, rfl⟩ := List.mem_map.mp h
    have := List.mem_range.mp (List.mem_filter.mp hk).1
    omega
theorem zip_snoc (l : List Nat) (M : List Nat) (y x : Nat) (h : l = M ++ [y]) : (l ++ [x]).zip (l ++ [x]).tail = l.zip l.tail ++ [(y, x)] := by
  subst h
  induction M with
  | nil => rfl
  | cons a M ih =>
    cases M with
    | nil => rfl
    | cons b M =>
      have ih' := ih
      simp only [List.cons_append, List.tail_cons, List.zip_cons_cons] at ih' ⊢
      rw [ih']
theorem cutE_snoc {es : List E2} {e : E2} {lo hi : Nat} (h1 : lo ≤ es.length) (h2 : hi ≤ es.length) : cutE (es ++ [e]) lo hi = cutE es lo hi := by
  unfold cutE
  rw [List.length_append, List.length_cons, List.length_nil, Nat.min_eq_left (by omega), Nat.min_eq_left (by omega), Nat.min_eq_left h1, Nat.min_eq_left h2, List.drop_append_of_le_length h1, List.take_append_of_le_length (by rw [List.length_drop]; omega)]
theorem spl_is (fr : List T3) (es : List E2) : linesE fr es = (spl fr es).1 ∧ restE fr es = (spl fr es).2 := by
  refine snoc_ind (p := fun es => linesE fr es = (spl fr es).1 ∧ restE fr es = (spl fr es).2) ⟨rfl, rfl⟩ (fun es e ih => ?_) es
  obtain ⟨i1, i2⟩ := ih
  obtain ⟨M, y, hM⟩ := SrtO.snoc_of (l := lpN fr es) (by unfold lpN; simp)
  have hy : y ≤ es.length := lpN_le y (by rw [hM]; simp)
  have hr : restE fr es = es.drop y := by
    unfold restE
    rw [hM]
    simp [Nat.min_eq_left hy]
  have old : ((lpN fr es).zip (lpN fr es).tail).map (fun q => cutE (es ++ [e]) q.1 q.2) = linesE fr es := by
    unfold linesE
    refine List.map_congr_left fun q hq => ?_
    have h1 := lpN_le q.1 (List.of_mem_zip (show (q.1, q.2) ∈ (lpN fr es).zip (lpN fr es).tail from hq)).1
    have h2 := lpN_le q.2 (List.mem_of_mem_tail (List.of_mem_zip (show (q.1, q.2) ∈ (lpN fr es).zip (lpN fr es).tail from hq)).2)
    exact cutE_snoc h1 h2
  rw [spl_snoc]
  by_cases en : ends fr e = true
  · rw [if_pos en]
    refine ⟨?_, ?_⟩
    · show ((lpN fr (es ++ [e])).zip (lpN fr (es ++ [e])).tail).map (fun q => cutE (es ++ [e]) q.1 q.2) = _
      rw [lpN_snoc, if_pos en, zip_snoc _ M y _ hM, List.map_append, old, i1, ← i2, hr]
      show _ ++ [cutE (es ++ [e]) y (es.length + 1)] = _
      have z : cutE (es ++ [e]) y (es.length + 1) = es.drop y ++ [e] := by
        unfold cutE
        rw [List.length_append, List.length_cons, List.length_nil, Nat.min_eq_left (by omega), Nat.min_eq_left (by omega), List.drop_append_of_le_length hy]
        exact List.take_of_length_le (by rw [List.length_append, List.length_drop]; simp only [List.length_cons, List.length_nil]; omega)
      rw [z]
    · show (es ++ [e]).drop (min ((lpN fr (es ++ [e])).getLastD 0) (es ++ [e]).length) = []
      rw [lpN_snoc, if_pos en]
      have z : (lpN fr es ++ [es.length + 1]).getLastD 0 = es.length + 1 := by simp
      rw [z, List.length_append, List.length_cons, List.length_nil, Nat.zero_add, Nat.min_self]
      exact List.drop_of_length_le (by rw [List.length_append]; simp)
  · rw [if_neg en]
    refine ⟨?_, ?_⟩
    · show ((lpN fr (es ++ [e])).zip (lpN fr (es ++ [e])).tail).map (fun q => cutE (es ++ [e]) q.1 q.2) = _
      rw [lpN_snoc, if_neg en, List.append_nil, old, i1]
    · show (es ++ [e]).drop (min ((lpN fr (es ++ [e])).getLastD 0) (es ++ [e]).length) = _ ++ [e]
      rw [lpN_snoc, if_neg en, List.append_nil, ← i2, hr, hM]
      have z : (M ++ [y]).getLastD 0 = y := by simp
      rw [z, List.length_append, List.length_cons, List.length_nil, Nat.min_eq_left (by omega), List.drop_append_of_le_length hy]
end K50

set_option Elab.async false
set_option linter.all false
set_option maxRecDepth 100000
set_option maxHeartbeats 4000000
/-! A read line of data. -/
namespace K50
open PySem L2 L2.EV
theorem range_last (n : Nat) (p : Nat → Bool) : (List.range (n + 1)).filter p = [n] ↔ ∀ j < n + 1, p j = decide (j = n) := by
  constructor
  · intro h j hj
    by_cases c : j = n
    · have : n ∈ (List.range (n + 1)).filter p := by rw [h]; exact List.mem_cons_self ..
      rw [c, decide_eq_true rfl]
      exact (List.mem_filter.mp this).2
    · rw [decide_eq_false c]
      cases q : p j with
      | false => rfl
      | true =>
        have : j ∈ (List.range (n + 1)).filter p := List.mem_filter.mpr ⟨List.mem_range.mpr hj, q⟩
        rw [h] at this
        exact absurd (by simpa using this) c
  · intro h
    rw [List.range_succ, List.filter_append]
    have e1 : (List.range n).filter p = [] := by
      rw [List.filter_eq_nil_iff]
      intro j hj
      have hj := List.mem_range.mp hj
      rw [h j (by omega), decide_eq_false (by omega)]
      decide
    have e2 : [n].filter p = [n] := by
      rw [List.filter_cons, h n (by omega), decide_eq_true rfl]
      rfl
    rw [e1, e2]
    rfl
theorem lp_iff {fr : List T3} {es : List E2} : lp fr es = [0, (es.length : Int)] ↔ es ≠ [] ∧ ∀ j < es.length, ends fr (es.getD j (0, 0)) = decide (j + 1 = es.length) := by
  cases h : es.length with
  | zero =>
    have e : es = [] := List.length_eq_zero_iff.mp h
    subst e
    constructor
    · intro z
      have : lp fr [] = [0] := rfl
      rw [this] at z
      simp at z
    · exact fun z => absurd rfl z.1
  | succ n =>
    have ne : es ≠ [] := fun z => by rw [z] at h; cases h
    have key : lp fr es = [0, ((n + 1 : Nat) : Int)] ↔ (List.range (n + 1)).filter (fun k => ends fr (es.getD k (0, 0))) = [n] := by
      unfold lp cuts
      rw [h]
      constructor
      · intro z
        have z1 : ((List.range (n + 1)).filter (fun k => ends fr (es.getD k (0, 0)))).map (fun k : Nat => (k : Int) + 1) = [((n + 1 : Nat) : Int)] := by
          injection z
        cases q : (List.range (n + 1)).filter (fun k => ends fr (es.getD k (0, 0))) with
        | nil =>
          rw [q] at z1
          cases z1
        | cons a l =>
          rw [q] at z1
          rw [List.map_cons] at z1
          injection z1 with z2 z3
          have : l = [] := List.map_eq_nil_iff.mp z3
          rw [this]
          have : a = n := by push_cast at z2; omega
          rw [this]
      · intro z
        rw [z]
        simp
    rw [key, range_last]
    constructor
    · intro z
      refine ⟨ne, fun j hj => ?_⟩
      rw [z j hj]
      by_cases c : j = n
      · rw [decide_eq_true c, decide_eq_true (by omega)]
      · rw [decide_eq_false c, decide_eq_false (by omega)]
    · intro z j hj
      rw [z.2 j hj]
      by_cases c : j = n
      · rw [decide_eq_true c, decide_eq_true (by omega)]
      · rw [decide_eq_false c, decide_eq_false (by omega)]
/-- an entry of a right line -/
theorem line_at {fr : List T3} {ds : List PyData} {es : List E2} (h : lineOf fr (.tuple ds) = some es) {i : Nat} {e : E2} (hd : ds[i]? = some (.tuple [.int e.1, .int e.2])) : ends fr e = decide (i + 1 = ds.length) := by
  obtain ⟨ds2, e1, ee, ent, _, hl, ne⟩ := line_some h
  cases e1
  have ll : ds.length = es.length := by rw [ee, List.length_map]
  have he : es[i]? = some e := by
    rw [ee, List.getElem?_map] at hd
    cases q : es[i]? with
    | none =>
      rw [q] at hd
      cases hd
    | some x =>
      rw [q] at hd
      have z : d2 x = .tuple [.int e.1, .int e.2] := Option.some.inj hd
      unfold d2 at z
      injection z with z
      injection z with z1 z2
      injection z1 with z1
      injection z2 with z2 _
      injection z2 with z2
      have : x = e := Prod.ext z1 z2
      rw [this]
  have z := (lp_iff.mp hl).2 i (List.getElem?_eq_some_iff.mp he).1
  rw [List.getD_eq_getElem?_getD, he] at z
  rw [ll]
  exact z
theorem line_done {fr : List T3} {ds : List PyData} (h1 : wrongF fr ds (all8 none) 0 = none) (ne : ds ≠ []) (h : ∀ j < ds.length, ∃ e : E2, ds[j]? = some (.tuple [.int e.1, .int e.2]) ∧ ends fr e = decide (j + 1 = ds.length)) : ∃ es, lineOf fr (.tuple ds) = some es := by
  obtain ⟨ee, ent⟩ := esOf_all (tup_inj (es := []) h1)
  have ll : (esOf fr ds).length = ds.length := by
    have z := congrArg List.length ee
    rw [List.length_map] at z
    exact z.symm
  have hl : lp fr (esOf fr ds) = [0, ((esOf fr ds).length : Int)] := by
    refine lp_iff.mpr ⟨fun z => ne ?_, fun j hj => ?_⟩
    · rw [z] at ll
      exact List.length_eq_zero_iff.mp ll.symm
    · obtain ⟨e, h2, h3⟩ := h j (by rw [← ll]; exact hj)
      have he : (esOf fr ds)[j]? = some e := by
        rw [ee, List.getElem?_map] at h2
        cases q : (esOf fr ds)[j]? with
        | none =>
          rw [q] at h2
          cases h2
        | some x =>
          rw [q] at h2
          have z : d2 x = .tuple [.int e.1, .int e.2] := Option.some.inj h2
          unfold d2 at z
          injection z with z
          injection z with z1 z2
          injection z1 with z1
          injection z2 with z2 _
          injection z2 with z2
          have : x = e := Prod.ext z1 z2
          rw [this]
      rw [List.getD_eq_getElem?_getD, he, ll]
      exact h3
  refine ⟨esOf fr ds, ?_⟩
  show (if wrongF fr ds (all8 none) 0 = none ∧ lp fr (esOf fr ds) = [0, (ds.length : Int)] then some (esOf fr ds) else none) = _
  rw [if_pos ⟨h1, by rw [hl, ll]⟩]
end K50

set_option Elab.async false
set_option linter.all false
set_option maxRecDepth 100000
set_option maxHeartbeats 4000000
/-! What the read lines of a right weaving are. -/
namespace K50
open PySem L2 L2.EV
theorem wv_go {fr : List T3} {es : List E2} (h : Wv fr es) : goF fr (List.replicate 8 0) es := by
  have go : ∀ (es : List E2) (ql : List Int), (∀ (i : Nat) e, es[i]? = some e → ((es.take i).foldl (fun pl e => pl.set e.1.toNat (stt fr e.2).2.2) ql)[e.1.toNat]? = some (stt fr e.2).1) → goF fr ql es := by
    intro es
    induction es with
    | nil => exact fun _ _ => True.intro
    | cons e es ih => exact fun ql h => ⟨h 0 e rfl, ih _ fun i x hx => by simpa using h (i + 1) x (by simpa using hx)⟩
  exact go es _ h.go
theorem wv_take {fr : List T3} {es : List E2} (h : Wv fr es) (n : Nat) : Wv fr (es.take n) :=
  go_wv (goF_take n (wv_go h)) (fun e he => h.ent e (List.mem_of_mem_take he)) (by have := h.l; rw [List.length_take]; omega)
/-- a line that ends at its end alone -/
def Lne (fr : List T3) (l : List E2) : Prop := l ≠ [] ∧ ∀ j < l.length, ends fr (l.getD j (0, 0)) = decide (j + 1 = l.length)
theorem spl_lne {fr : List T3} (es : List E2) : (∀ l ∈ (spl fr es).1, Lne fr l ∧ ∃ a b, l = (es.drop a).take b) ∧ (∃ a, a ≤ es.length ∧ (spl fr es).2 = es.drop a) ∧ ∀ e ∈ (spl fr es).2, ends fr e = false := by
  refine snoc_ind (p := fun es => (∀ l ∈ (spl fr es).1, Lne fr l ∧ ∃ a b, l = (es.drop a).take b) ∧ (∃ a, a ≤ es.length ∧ (spl fr es).2 = es.drop a) ∧ ∀ e ∈ (spl fr es).2, ends fr e = false) ⟨(fun l h => by cases h), ⟨0, Nat.le_refl _, rfl⟩, (fun e h => by cases h)⟩ (fun es e ih => ?_) es
  obtain ⟨i1, ⟨a, al, ia⟩, i3⟩ := ih
  have old : ∀ l ∈ (spl fr es).1, Lne fr l ∧ ∃ a b, l = ((es ++ [e]).drop a).take b := fun l hl => by
    obtain ⟨h1, a, b, rfl⟩ := i1 l hl
    refine ⟨h1, min a es.length, min b (es.length - a), ?_⟩
    rw [List.drop_append_of_le_length (by omega), List.take_append_of_le_length (by rw [List.length_drop]; omega)]
    by_cases c : a ≤ es.length
    · rw [Nat.min_eq_left c]
      by_cases d : b ≤ es.length - a
      · rw [Nat.min_eq_left d]
      · rw [Nat.min_eq_right (by omega), List.take_of_length_le (by rw [List.length_drop]; omega), List.take_of_length_le (by rw [List.length_drop]; omega)]
    · rw [List.drop_of_length_le (by omega), List.drop_of_length_le (by omega)]
      simp
  rw [spl_snoc]
  have ea : (spl fr es).2 ++ [e] = (es ++ [e]).drop a := by rw [List.drop_append_of_le_length al, ia]
  by_cases en : ends fr e = true
  · rw [if_pos en]
    refine ⟨fun l hl => ?_, ⟨(es ++ [e]).length, Nat.le_refl _, by rw [List.drop_length]⟩, fun x hx => by cases hx⟩
    rcases List.mem_append.mp hl with hl | hl
    · exact old l hl
    · cases List.mem_singleton.mp hl
      refine ⟨⟨by simp, fun j hj => ?_⟩, a, ((es ++ [e]).drop a).length, by rw [ea, List.take_length]⟩
      rw [List.length_append, List.length_singleton] at hj ⊢
      rw [List.getD_eq_getElem?_getD]
      by_cases c : j = (spl fr es).2.length
      · rw [List.getElem?_append_right (by omega), c, Nat.sub_self, decide_eq_true rfl]
        exact en
      · rw [List.getElem?_append_left (by omega), List.getElem?_eq_getElem (by omega), decide_eq_false (by omega)]
        exact i3 _ (List.getElem_mem _)
  · rw [if_neg en]
    refine ⟨old, ⟨a, by rw [List.length_append]; omega, ea⟩, fun x hx => ?_⟩
    rcases List.mem_append.mp hx with hx | hx
    · exact i3 x hx
    · cases List.mem_singleton.mp hx
      exact Bool.eq_false_iff.mpr en
theorem esOf_d2 {fr : List T3} : ∀ {es : List E2}, (∀ e ∈ es, Ent fr e) → esOf fr (es.map d2) = es
  | [], _ => rfl
  | e :: es, h => by
    have i := esOf_d2 (es := es) fun x hx => h x (List.mem_cons_of_mem _ hx)
    unfold esOf at i ⊢
    rw [List.map_cons, List.filterMap_cons, ent_d2 (h e (List.mem_cons_self ..))]
    show e :: _ = _
    rw [i]
theorem kn_none {ql : List Int} : Kn (all8 none) ql := fun n x h => by
  have : (all8 none).getD n none = none := by
    rw [List.getD_eq_getElem?_getD]
    unfold all8
    rw [List.getElem?_replicate]
    split <;> rfl
  rw [this] at h
  cases h
/-- each read line of a right weaving can be one -/
theorem line_is {fr : List T3} {es : List E2} (h : Wv fr es) {l : List E2} (hl : l ∈ (spl fr es).1) : lineOf fr (.tuple (l.map d2)) = some l ∧ (∀ e ∈ l, Ent fr e) ∧ l.length ≤ 60 ∧ Lne fr l := by
  obtain ⟨h1, a, b, e⟩ := (spl_lne es).1 l hl
  have ent : ∀ x ∈ l, Ent fr x := fun x hx => by
    rw [e] at hx
    exact h.ent x (List.mem_of_mem_drop (List.mem_of_mem_take hx))
  have l60 : l.length ≤ 60 := by
    have := h.l
    rw [e, List.length_take, List.length_drop]
    omega
  obtain ⟨q2, q8, g⟩ := goF_drop a (wv_go h)
  have g2 := goF_take b g
  rw [← e] at g2
  have w : wrongF fr (l.map d2) (all8 none) 0 = none := go_none (ql := q2) rfl (by rw [q8]; rfl) kn_none ent g2
  refine ⟨?_, ent, l60, h1⟩
  have hp : lp fr l = [0, (l.length : Int)] := lp_iff.mpr h1
  show (if wrongF fr (l.map d2) (all8 none) 0 = none ∧ lp fr (esOf fr (l.map d2)) = [0, ((l.map d2).length : Int)] then some (esOf fr (l.map d2)) else none) = some l
  rw [esOf_d2 ent, List.length_map, if_pos ⟨w, hp⟩]
/-- whether all lines are whole -/
def clE (fr : List T3) (es : List E2) : Bool := (spl fr es).1.all (wholeE fr)
end K50

set_option Elab.async false
set_option linter.all false
set_option maxRecDepth 100000
set_option maxHeartbeats 4000000
/-! is_whole_line of a read line; is_clean. -/
namespace K50
open PySem L2 L2.EV
theorem pss_never {X : Cx} {ss : List Stmt} : PSs X ss tNever := ⟨fun _ _ _ _ _ _ h => h.elim⟩
theorem da_wv {H : Hp} {w : Addr} {es : List E2} (h : WvA H w es) : Da H (.ref w) (.tuple (es.map d2)) := by
  obtain ⟨ts, e, l, c⟩ := h
  refine .tup e ?_
  have key : ∀ {es : List E2} {ts : List Addr}, ts.length = es.length → (∀ (i : Nat) t e, ts[i]? = some t → es[i]? = some e → A2 H t e) → DaAll H (ts.map V.ref) (es.map d2) := by
    intro es
    induction es with
    | nil =>
      intro ts l c
      cases ts with
      | nil => exact .nil
      | cons t ts => cases l
    | cons x es ih =>
      intro ts l c
      cases ts with
      | nil => cases l
      | cons t ts => exact .cons (.tup (c 0 t x rfl rfl) (.cons (.int _) (.cons (.int _) .nil))) (ih (by simpa using l) fun i t e h1 h2 => c (i + 1) t e (by simpa using h1) (by simpa using h2))
  exact key l c
theorem spl_len {fr : List T3} {es : List E2} (h : Wv fr es) : (spl fr es).1.length ≤ 61 := by
  have := lpN_len (fr := fr) h.l
  rw [← (spl_is fr es).1]
  unfold linesE
  rw [List.length_map, List.length_zip]
  omega
def spWholeR : Sp := fun vs H Q _ => ∃ (f a : Addr) (fr : List T3) (last : Nat) (es : List E2), vs = [.ref f, .ref a] ∧ FrA H f fr ∧ Frm fr last ∧ WvA H a es ∧ es.length ≤ 60 ∧ lineOf fr (.tuple (es.map d2)) = some es ∧ (∀ e ∈ es, Ent fr e) ∧ es ≠ [] ∧ ∀ H', Same H H' → Q (.bl (wholeE fr es)) H'
section
variable {P : Program} {w : World} {K : PySem.W.Frag} {mg : Str → Option Value} {base : Heap}
theorem ok_wholeR (S : Hs K mg) : FnOk P w K mg base CX0 5 S.f2 S.d2 ["framing", "entries"] spWholeR := by
  have GF : FnOk P w K mg base CX0 3 S.G.U.Y.Z.fF S.G.U.Y.Z.dF ["thing"] spNeedF := ok_needF S.G.U.Y.Z
  have GR : FnOk P w K mg base CX0 4 S.f1 S.d1 ["framing", "thing"] spIsRead := ok_isRead S
  have GO : FnOk P w K mg base CX0 2 S.O.f S.O.d ["self", "text"] (spNo K S.O.C) := ok_OutOfPlace S.O.F S.O.T S.O.I S.O.FM S.O.bM S.O.mM S.O.TM
  refine S.W.ok scIsWhole (fun vs H Q E h => ?_) (fun cdv A outer s H vs Q E hr h => ?_)
  · obtain ⟨f, a, fr, last, es, rfl, _⟩ := h
    rfl
  · obtain ⟨f, a, fr, last, es, rfl, fa, fm, wa, l60, el, ent, ne, q⟩ := h
    have da := da_wv wa
    have r3 := hr.mono (j := 3) (by omega)
    refine ⟨_, pss_cons (ps_expr (pe_call GF r3 (by rfl) S.G.U.Y.Z.mF S.G.U.Y.Z.F.kp S.G.U.Y.Z.bF .nil pass0 (pa_cons (pv 0) pa_nil)))
      (pss_cons (ps_if (pt_not (pt_val (pe_call GR hr (by rfl) S.mR S.R.kp S.bR .nil pass0 (pa_cons (pv 0) (pa_cons (pv 1) pa_nil)))))
        pss_never pss_nil)
      (pss_cons (ps_asg (pe_ix ix_tup (pv 1) pe_int (fun _ _ => rfl)) (pg_tup rfl (pgs_cons (pg_name (i := 2) scIsWhole.nd rfl (Or.inr rfl)) (pgs_cons (pg_name (i := 3) scIsWhole.nd rfl (Or.inl rfl)) pgs_nil))))
      (pss_one (ps_ret (pe_and (pe_cmpR op_eq (pe_ix ix_tup (pe_ix ix_tup (pv 0) (pv 3) (fun _ _ => rfl)) pe_int (fun _ _ => rfl)) pe_int (nomark _))
        (pe_one (pe_callB (cr_all rfl) (by rfl) S.G.U.Y.Z.T.all (by decide +kernel) (pa_cons (pe_lc (own := [("writer", 4), ("further", 5)]) (g := gTup K 2 (gCons (gName 4) (gCons (gName 5) gNil))) (te := tOp rEq (tVar 4) (tVar 2)) rfl scIsWhole.nd (pi_tup (pv 1))
          (blkOk_by (N := ["framing", "entries", "first", "step", "writer", "further"]) (sc := defScope sIsWhole) (by decide +kernel))
          (fun _ _ _ _ _ => pg_tup rfl (pgs_cons (pg_name (i := 4) scIsWhole.nd rfl (Or.inl rfl)) (pgs_cons (pg_name (i := 5) scIsWhole.nd rfl (Or.inl rfl)) pgs_nil))) (fun _ _ _ _ _ => pts_nil)
          (fun _ _ _ _ _ => pe_cmpR op_eq (pv 4) (pv 2) (by rfl))) pa_nil)))))))), ?_⟩
    refine ⟨_, rfl, f, fr, last, rfl, fa, fm, fun H1 s1 => ?_⟩
    refine ⟨_, rfl, _, rfl, f, .ref a, fr, last, .tuple (es.map d2), rfl, fa.same s1, fm, Da.same s1 _ _ da, by show (es.map d2).length ≤ 60; rw [List.length_map]; exact l60, fun H2 s2 => ?_⟩
    have s12 := s1.trans s2
    rw [el]
    refine ⟨_, rfl, iteF ?_⟩
    have wa := wa.same s12
    match es, ne with
    | e0 :: rest, _ =>
      obtain ⟨tw, hw, wl, wt⟩ := id wa
      obtain ⟨t0, ht0⟩ : ∃ t0, tw[0]? = some t0 := by
        refine ⟨tw[0]'(by rw [wl]; simp), List.getElem?_eq_getElem _⟩
      have h0 := wt 0 t0 e0 ht0 rfl
      obtain ⟨e1, e2, n0, n1⟩ := ent e0 (List.mem_cons_self ..)
      obtain ⟨ts, t2, hf, ha, h3, _⟩ := stt_at (fa.same s12) n0 n1
      refine ⟨_, rfl, a, _, 0, .ref t0, rfl, rfl, SqT.of hw, atI_nat (j := 0) (by rw [List.getElem?_map, ht0]; rfl), t0, _, rfl, SqT.of h0, rfl, _, _, rfl, _, _, rfl, rfl, ?_⟩
      refine ⟨_, rfl, _, rfl, f, _, e0.2, .ref t2, rfl, rfl, SqT.of hf, ha, t2, _, 0, _, rfl, rfl, SqT.of h3, atI_nat (j := 0) rfl, rfl, _, rfl, ?_⟩
      refine ite2 (fun y => ?_) (fun y => ?_)
      · have y1 : (stt fr e0.2).1 = 0 := V.int.inj (of_decide_eq_true y)
        refine ⟨_, rfl, a, rfl, ⟨_, SqT.of hw⟩, fun D hD => ?_⟩
        refine lc_it (walk_tup (xs := tw.map V.ref)) (fun i H' => H' D = some (.lst ((((e0 :: rest).take i).map fun e => decide (e.1 = e0.1)).map V.bl)) ∧ ∀ b o, H2 b = some o → H' b = some o) ⟨upd_same, fun b o z => same_upd hD b o z⟩ (fun i H' _ z => SqT.of (z.2 _ _ hw)) ?_ ?_
        · rintro i x H3 H4 hi ⟨hl, kp⟩ ⟨rfl, hx⟩
          obtain ⟨t, e, he, _, rfl, e4⟩ := at_ent (i := i) wl wt hx
          refine ⟨t, _, rfl, SqT.of (kp _ _ e4), rfl, _, _, rfl, _, _, rfl, rfl, rfl, ?_⟩
          refine ⟨_, rfl, _, rfl, rfl, _, hl, ?_, ?_, fun b o z => ?_⟩
          · rw [List.length_map, List.length_map, List.length_take, sizeLine_eq]
            omega
          · rw [take_one he, List.map_append, List.map_append]
            have eb : decide (V.int e.1 = V.int e0.1) = decide (e.1 = e0.1) := by
              by_cases c : e.1 = e0.1
              · rw [decide_eq_true c, decide_eq_true (congrArg V.int c)]
              · rw [decide_eq_false c, decide_eq_false (fun k => c (V.int.inj k))]
            show upd H4 D (.lst (_ ++ [V.bl (decide (V.int e.1 = V.int e0.1))])) D = some (.lst (_ ++ [V.bl (decide (e.1 = e0.1))]))
            rw [eb]
            exact upd_same
          · rw [upd_ne (ne_of_none z hD)]
            exact kp b o z
        · rintro H3 ⟨hl, kp⟩
          have e9 : (e0 :: rest).take (tw.map V.ref).length = e0 :: rest := by
            rw [List.length_map, wl, List.take_length]
          rw [e9] at hl
          refine ⟨D, _, rfl, SqL.of hl, ?_⟩
          have z := q H3 (s12.trans kp)
          have ew : wholeE fr (e0 :: rest) = ((e0 :: rest).map fun e => decide (e.1 = e0.1)).all id := by
            show (decide ((stt fr e0.2).1 = 0) && (e0 :: rest).all fun e => decide (e.1 = e0.1)) = _
            rw [decide_eq_true y1, Bool.true_and, List.all_map]
            rfl
          rw [← ew]
          exact z
      · have y1 : ¬ (stt fr e0.2).1 = 0 := fun k => y (decide_eq_true (congrArg V.int k))
        have z := q H2 s12
        have ew : wholeE fr (e0 :: rest) = false := by
          show (decide ((stt fr e0.2).1 = 0) && (e0 :: rest).all fun e => decide (e.1 = e0.1)) = _
          rw [decide_eq_false y1, Bool.false_and]
        have z : Q (.bl (wholeE fr (e0 :: rest))) H2 := z
        rw [ew] at z
        exact z
end
end K50

set_option Elab.async false
set_option linter.all false
set_option maxRecDepth 100000
set_option maxHeartbeats 4000000
/-! The law's own look: _law_is_whole, _law_whole. -/
namespace K50
open PySem L2 L2.EV
abbrev sWhole : Stmt := top 64
def spWholeL : Sp := fun vs H Q _ => ∃ (f w : Addr) (fr : List T3) (es : List E2), vs = [.ref f, .ref w] ∧ FrA H f fr ∧ WvA H w es ∧ (∀ e ∈ es, Ent fr e) ∧ es ≠ [] ∧ es.length ≤ 60 ∧ ∀ H', Same H H' → Q (.bl (wholeE fr es)) H'
structure Wl (K : PySem.W.Frag) (mg : Str → Option Value) where
  f2 : Addr
  d2 : FuncData
  W : Fun K "_law_whole" "_law_whole" sWhole f2 d2
  bW : Binds K d2 ["framing", "line"] []
  gW : mg "_law_whole" = some (.ref f2)
theorem eqv_nilD (ds : List PyData) : PyData.eqv (.list ds) (.list []) = ds.isEmpty := by
  cases ds <;> simp [PyData.eqv, PyData.eqvAll]
theorem eqv_nilT (ds : List PyData) : PyData.eqv (.tuple ds) (.tuple []) = ds.isEmpty := by
  cases ds <;> simp [PyData.eqv, PyData.eqvAll]
theorem shaped_d2 (es : List E2) : PyData.canLayAll0 (es.map d2) = true ∧ PyData.depthAll (es.map d2) ≤ 1 := by
  induction es with
  | nil => exact ⟨by simp [PyData.canLayAll0], by simp [PyData.depthAll]⟩
  | cons e es ih => exact ⟨by simp [PyData.canLayAll0, d2, PyData.canLay0, ih.1], by simp only [List.map_cons, PyData.depthAll, d2, PyData.depth]; have := ih.2; omega⟩
theorem shaped_lst (es : List E2) : SeqAt.shaped (.list (es.map d2)) = true := by
  obtain ⟨a, b⟩ := shaped_d2 es
  show (PyData.canLay0 (.list (es.map d2)) && decide (PyData.depth (.list (es.map d2)) ≤ 64)) = true
  rw [Bool.and_eq_true]
  refine ⟨by simp only [PyData.canLay0]; exact a, decide_eq_true ?_⟩
  simp only [PyData.depth]
  omega
theorem shaped_nil : SeqAt.shaped (.list []) = true := by decide +kernel
theorem shaped_nilT : SeqAt.shaped (.tuple []) = true := by decide +kernel
section
variable {P : Program} {w : World} {K : PySem.W.Frag} {mg : Str → Option Value} {base : Heap}
theorem scWhole : FnScope ["framing", "line", "entry"] ["framing", "line"] (defScope sWhole) := ⟨rfl, rfl, rfl, by decide +kernel, rfl, by decide +kernel, by decide +kernel⟩
theorem ok_wholeL (L : Wl K mg) : FnOk P w K mg base CX0 1 L.f2 L.d2 ["framing", "line"] spWholeL := by
  refine L.W.ok scWhole (fun vs H Q E h => ?_) (fun cdv A outer s H vs Q E hr h => ?_)
  · obtain ⟨f, w, fr, es, rfl, _⟩ := h
    rfl
  · obtain ⟨f, w, fr, es, rfl, fa, wa, ent, ne, l60, q⟩ := h
    have hu2 := hr.units
    refine ⟨_, pss_cons (ps_if (pt_cmpR op_ne (pe_ix ix_tup (pe_ix ix_tup (pv 0) (pe_ix ix_tup (pe_ix ix_tup (pv 1) pe_int (fun _ _ => rfl)) pe_int (fun _ _ => rfl)) (fun _ _ => rfl)) pe_int (fun _ _ => rfl)) pe_int (nomark _)) (pss_one (ps_ret pe_bl)) pss_nil)
      (pss_one (ps_ret (pe_cmpR (op_eqD hu2) (pe_lc (own := [("entry", 2)]) (g := gName 2) (tt := tTest (tOp rNe (tOp (rIxT K) (tVar 2) (tC (.int 0))) (tOp (rIxT K) (tOp (rIxT K) (tVar 1) (tC (.int 0))) (tC (.int 0))))) (te := tVar 2) rfl scWhole.nd (pi_tup (pv 1))
        (blkOk_by (N := ["framing", "line", "entry"]) (sc := defScope sWhole) (by decide +kernel))
        (fun _ _ _ _ _ => pg_name (i := 2) scWhole.nd rfl (Or.inl rfl))
        (fun _ _ _ _ _ => pts_one (pt_cmpR op_ne (pe_ix ix_tup (pv 2) pe_int (fun _ _ => rfl)) (pe_ix ix_tup (pe_ix ix_tup (pv 1) pe_int (fun _ _ => rfl)) pe_int (fun _ _ => rfl)) (nomark _)))
        (fun _ _ _ _ _ => pv 2)) (pe_lst pa_nil) (nomark _)))), ?_⟩
    match es, ne with
    | e0 :: rest, _ =>
      obtain ⟨tw, hw, wl, wt⟩ := id wa
      obtain ⟨t0, ht0⟩ : ∃ t0, tw[0]? = some t0 := ⟨tw[0]'(by rw [wl]; simp), List.getElem?_eq_getElem _⟩
      have h0 := wt 0 t0 e0 ht0 rfl
      have atw : atI (tw.map V.ref) 0 = some (V.ref t0) := atI_nat (j := 0) (by rw [List.getElem?_map, ht0]; rfl)
      obtain ⟨e1, e2, n0, n1⟩ := ent e0 (List.mem_cons_self ..)
      obtain ⟨ts, t2, hf, ha, h3, _⟩ := stt_at fa n0 n1
      refine ⟨_, rfl, _, rfl, w, _, 0, .ref t0, rfl, rfl, SqT.of hw, atw, t0, _, 1, _, rfl, rfl, SqT.of h0, atI_nat (j := 1) rfl, f, _, e0.2, .ref t2, rfl, rfl, SqT.of hf, ha, t2, _, 0, _, rfl, rfl, SqT.of h3, atI_nat (j := 0) rfl, rfl, _, rfl, ?_⟩
      by_cases y1 : (stt fr e0.2).1 = 0
      · refine iteF' (by simp [y1]) ?_
        refine ⟨_, rfl, w, rfl, ⟨_, SqT.of hw⟩, fun D hD => ?_⟩
        refine lc_it (walk_tup (xs := tw.map V.ref)) (fun i H' => (∃ (ss : List Addr), H' D = some (.lst (ss.map V.ref)) ∧ At2 H ss (((e0 :: rest).take i).filter fun e => decide (¬ e.1 = e0.1))) ∧ ∀ b o, H b = some o → H' b = some o)
          ⟨⟨[], upd_same, rfl, fun i t e h => by cases h⟩, fun b o z => same_upd hD b o z⟩ (fun i H' _ z => SqT.of (z.2 _ _ hw)) ?_ ?_
        · rintro i x H3 H4 hi ⟨⟨ss, hl, hs⟩, kp⟩ ⟨rfl, hx⟩
          obtain ⟨t, e, he, _, rfl, e4⟩ := at_ent (i := i) wl wt hx
          refine ⟨rfl, ?_⟩
          refine ⟨_, rfl, t, _, 0, _, rfl, rfl, SqT.of (kp _ _ e4), atI_nat (j := 0) rfl, _, rfl, w, _, 0, .ref t0, rfl, rfl, SqT.of (kp _ _ hw), atw, t0, _, 0, _, rfl, rfl, SqT.of (kp _ _ h0), atI_nat (j := 0) rfl, rfl, _, rfl, ?_⟩
          have flt : ((e0 :: rest).take (i + 1)).filter (fun e => decide (¬ e.1 = e0.1)) = ((e0 :: rest).take i).filter (fun e => decide (¬ e.1 = e0.1)) ++ (if e.1 = e0.1 then [] else [e]) := by
            rw [take_one he, List.filter_append, List.filter_cons]
            by_cases c : e.1 = e0.1
            · rw [if_pos c]
              simp [c]
            · rw [if_neg c]
              simp [c]
          refine ite2 (fun y => ?_) (fun y => ?_)
          · have c : ¬ e.1 = e0.1 := fun k => by simp [k] at y
            rw [if_neg c] at flt
            refine ⟨_, rfl, _, hl, ?_, ⟨⟨ss ++ [t], by rw [List.map_append]; exact upd_same, by rw [flt]; exact hs.snoc (wt i t e (by
              rw [List.getElem?_map] at hx
              cases q : tw[i]? with
              | none => rw [q] at hx; cases hx
              | some t' =>
                rw [q] at hx
                have z : V.ref t' = V.ref t := Option.some.inj hx
                cases z
                rfl) he)⟩, fun b o z => ?_⟩⟩
            · rw [List.length_map, hs.1, sizeLine_eq]
              have := List.length_filter_le (fun e : E2 => decide (¬ e.1 = e0.1)) ((e0 :: rest).take i)
              rw [List.length_take] at this
              omega
            · rw [upd_ne (ne_of_none z hD)]
              exact kp b o z
          · have c : e.1 = e0.1 := Classical.byContradiction fun k => y (by simp [k])
            rw [if_pos c, List.append_nil] at flt
            refine ⟨⟨ss, hl, by rw [flt]; exact hs⟩, kp⟩
        · rintro H3 ⟨⟨ss, hl, hs⟩, kp⟩
          have e9 : (e0 :: rest).take (tw.map V.ref).length = e0 :: rest := by
            rw [List.length_map, wl, List.take_length]
          rw [e9] at hs
          generalize hfl : (e0 :: rest).filter (fun e => decide (¬ e.1 = e0.1)) = fl at hs
          refine ⟨(by show 0 ≤ sizeLine; decide), fun p3 hp3 => ?_⟩
          have u3 := same_upd (o := HO.lst []) hp3
          refine ⟨.list (fl.map d2), .list [], .lst (SqL.of (u3 _ _ hl)) ?_, .lst (SqL.of upd_same) .nil, shaped_lst fl, shaped_nil, ?_⟩
          · have k : ∀ {fl : List E2} {ss : List Addr}, At2 H ss fl → DpAll K (upd H3 p3 (.lst [])) (ss.map V.ref) (fl.map d2) := by
              intro fl
              induction fl with
              | nil =>
                intro ss h
                cases ss with
                | nil => exact .nil
                | cons t ts => cases h.1
              | cons x fl ih =>
                intro ss h
                cases ss with
                | nil => cases h.1
                | cons t ts => exact .cons (.tup (SqT.of (u3 _ _ (kp _ _ (h.2 0 t x rfl rfl)))) (.cons (.int _) (.cons (.int _) .nil))) (ih ⟨by have := h.1; simpa using this, fun i t e h1 h2 => h.2 (i + 1) t e (by simpa using h1) (by simpa using h2)⟩)
            exact k hs
          · rw [eqv_nilD]
            have z := q _ (Same.trans kp u3)
            have ew : wholeE fr (e0 :: rest) = (fl.map d2).isEmpty := by
              show (decide ((stt fr e0.2).1 = 0) && (e0 :: rest).all fun e => decide (e.1 = e0.1)) = _
              rw [decide_eq_true y1, Bool.true_and, ← hfl, List.isEmpty_map]
              rw [Bool.eq_iff_iff, List.all_eq_true, List.isEmpty_iff, List.filter_eq_nil_iff]
              constructor
              · intro h x hx
                have := h x hx
                simpa using this
              · intro h x hx
                have := h x hx
                simpa using this
            rw [ew] at z
            exact z
      · refine iteT' (by simp [y1]) ?_
        have z := q H (Same.refl H)
        have ew : wholeE fr (e0 :: rest) = false := by
          show (decide ((stt fr e0.2).1 = 0) && (e0 :: rest).all fun e => decide (e.1 = e0.1)) = _
          rw [decide_eq_false y1, Bool.false_and]
        rw [ew] at z
        exact z
end
end K50

set_option Elab.async false
set_option linter.all false
set_option maxRecDepth 100000
set_option maxHeartbeats 4000000
/-! e[n].replace(y, m[i]) with a written y. -/
namespace L2
open PySem PySem.Spec PyProof.Rows
def tReplM (r : R2) (ta : TE) (n : Int) (y : Str) (tM ti : TE) : TE := fun σ H Q => tOp r ta (tC (.int n)) σ H fun v H1 => ∃ x, v = .str x ∧ tM σ H1 fun m H2 => ti σ H2 fun iv H3 =>
  ∃ (z : Str) (c : Nat) (i : Int), m = .str z ∧ iv = .int i ∧ z.length ≤ sizeLine ∧ atI z.cps.toList i = some c ∧ (y == ⟨#[c]⟩) = false ∧ x.length + (x.length + 1) * 1 ≤ 16777216 ∧ Q (.str (Txt.replace x y ⟨#[c]⟩)) H3
section
variable {X : Cx} {a m i : Expr} {ta tM ti : TE} {y : Str} {n : Int} {j k : Nat} {c0 p1 p2 p3 apos pos : Pos} {r : R2}
theorem pe_replM (hr : IxR X r) (ha : PE X a ta) (hM : PE X m tM) (hi : PE X i ti) (hs : PlainIx (.Constant (.int n) j p1)) (hs3 : PlainIx i)
    (hst : starEach [.Constant (.str y) k c0, .Subscript m i p3] X.env = [(false, eval (.Constant (.str y) k c0) X.env), (false, eval (.Subscript m i p3) X.env)] := by rfl)
    (hbase : attributeBase (.Subscript a (.Constant (.int n) j p1) p2) "replace" X.env (eval (.Subscript a (.Constant (.int n) j p1) p2) X.env) = eval (.Subscript a (.Constant (.int n) j p1) p2) X.env := by rfl)
    (hline : (apos.endLine == pos.line) = true := by rfl) :
    PE X (.Call (.Attribute (.Subscript a (.Constant (.int n) j p1) p2) "replace" apos) [.Constant (.str y) k c0, .Subscript m i p3] [] pos) (tReplM r ta n y tM ti) := by
  refine ⟨fun pins s σ H Q I h => ?_⟩
  refine PySem.Call_method2 hbase hst hline (Subscript_ (thn (ha.run pins s σ H _ I h) fun v s1 ⟨x, H1, I1, rx, q1⟩ => ?_))
  refine wpAny_Constant_int ?_
  refine wpAny_mono (PySem.wpAny_toks (hr a (.Constant (.int n) j p1) pins _ σ H1 x (.int n) v (.int n s1.toks) _ (I1.tok _) rx ⟨_, rfl⟩ q1 (hs _ _))) (fun v2 s2 q => ?_) fun _ _ z => z.2
  obtain ⟨hk, x2, H2, I2, r2, xs, rfl, q⟩ := q
  obtain ⟨tx, rfl⟩ := r2
  have hk2 : s1.toks + 1 ≤ s2.toks := hk
  refine ⟨"str", _, PySem.F.plainAttrs_str, PySem.F.slot_str_replace, PySem.F.type_str_replace, typeIs_str _ _ _, (fun _ e => nomatch e), Calls.callWith_builtin rfl (Calls.evalArgs_plain (Calls.spliced_cons ?_))⟩
  refine Calls.Constant_str (Calls.spliced_cons (Subscript_ ?_))
  refine wpAny_mono (PySem.wpAny_toks (hM.run pins _ σ H2 _ (I2.tok (s2.toks + 1)) q)) (fun v3 s3 q => ?_) fun _ _ z => z.2
  obtain ⟨hk3, x3, H3, I3, r3, q⟩ := q
  have hk3' : s2.toks + 1 ≤ s3.toks := hk3
  refine wpAny_mono (PySem.wpAny_toks (hi.run pins _ σ H3 _ I3 q)) (fun v4 s4 q => ?_) fun _ _ z => z.2
  obtain ⟨hk4, x4, H4, I4, r4, z, c, ix, rfl, rfl, hz, he, hyz, hb, q⟩ := q
  obtain ⟨t, rfl⟩ := r3
  obtain ⟨t', rfl⟩ := r4
  obtain ⟨j, h1, h2, h3, h4, h5⟩ := atI_get he
  have hl : z.cps.toList.length = z.length := by simp [Str.length]
  rw [hl] at h1 h4 h5
  have hn := line63
  refine tail_any (typeIs_str s4 z t) slot_str_getitem.lookup (getItem_str (c := c) (by
    have e1 : decide (ix < -(2 ^ 63 : Int)) = false := decide_eq_false (by omega)
    have e2 : decide (ix ≥ 2 ^ 63) = false := decide_eq_false (by omega)
    rw [e1, e2, Bool.or_false]) (by rw [h1]; simpa using h2) ?_) (hs3 _ _)
  refine Calls.spliced_nil ?_
  exact PySem.SC.replace (by show s2.toks ≠ 0; omega) (by show s4.toks ≠ 0; omega) (by show s2.toks ≠ s4.toks; omega) hyz hb fun t' k => ⟨.str (Txt.replace xs y ⟨#[c]⟩), H4, I4.tok k, ⟨t', rfl⟩, q⟩
end
end L2

set_option Elab.async false
set_option linter.all false
set_option maxRecDepth 100000
set_option maxHeartbeats 4000000
/-! text_put of tuples and lists, line_places of lists. -/
namespace K50
open PySem L2 L2.EV
abbrev sPut : Stmt := top 36
def mrk (n : Int) : Nat := (sl ("ABCDEFGH" : Str)).getD n.toNat 0
/-- a list of entries -/
def LvA (H : Hp) (w : Addr) (es : List E2) : Prop := ∃ ts : List Addr, H w = some (.lst (ts.map V.ref)) ∧ ts.length = es.length ∧ ∀ (i : Nat) t e, ts[i]? = some t → es[i]? = some e → A2 H t e
theorem LvA.same {H H' : Hp} {f : Addr} {es : List E2} (h : LvA H f es) (s : Same H H') : LvA H' f es := by
  obtain ⟨ts, e, l, c⟩ := h
  exact ⟨ts, s _ _ e, l, fun i t x h1 h2 => s _ _ (c i t x h1 h2)⟩
/-- what an entry puts -/
def putE (fr : List T3) (e : E2) : Str := Txt.replace (stt fr e.2).2.1 "@" ⟨#[mrk e.1]⟩
def textE (fr : List T3) (es : List E2) : Str := Txt.join "" (es.map (putE fr))
theorem mrk_at {n : Int} (h0 : 0 ≤ n) (h1 : n < 8) : atI ("ABCDEFGH" : Str).cps.toList n = some (mrk n) ∧ (("@" : Str) == ⟨#[mrk n]⟩) = false := by
  obtain ⟨k, rfl⟩ := Int.eq_ofNat_of_zero_le h0
  have hk : k < 8 := by omega
  have e : ∀ k : Nat, k < 8 → atI ("ABCDEFGH" : Str).cps.toList (k : Int) = some (mrk (k : Int)) ∧ (("@" : Str) == ⟨#[mrk (k : Int)]⟩) = false := by
    intro k hk
    match k, hk with
    | 0, _ => exact ⟨by decide +kernel, by decide +kernel⟩
    | 1, _ => exact ⟨by decide +kernel, by decide +kernel⟩
    | 2, _ => exact ⟨by decide +kernel, by decide +kernel⟩
    | 3, _ => exact ⟨by decide +kernel, by decide +kernel⟩
    | 4, _ => exact ⟨by decide +kernel, by decide +kernel⟩
    | 5, _ => exact ⟨by decide +kernel, by decide +kernel⟩
    | 6, _ => exact ⟨by decide +kernel, by decide +kernel⟩
    | 7, _ => exact ⟨by decide +kernel, by decide +kernel⟩
  exact e k hk
theorem putE_len {fr : List T3} {e : E2} (h : (stt fr e.2).2.1.length ≤ 8) : (putE fr e).length ≤ 17 := by
  have z := TK.replace_len (stt fr e.2).2.1 "@" ⟨#[mrk e.1]⟩
  have z1 : (⟨#[mrk e.1]⟩ : Str).length = 1 := rfl
  unfold putE
  rw [z1] at z
  omega
def spPutG : Sp := fun vs H Q _ => ∃ (f w : Addr) (fr : List T3) (last : Nat) (es : List E2), vs = [.ref f, .ref w] ∧ FrA H f fr ∧ Frm fr last ∧ LvA H w es ∧ (∀ e ∈ es, Ent fr e) ∧ es.length ≤ 200 ∧ ∀ H', Same H H' → Q (.str (textE fr es)) H'
def spPutW : Sp := fun vs H Q _ => ∃ (f w : Addr) (fr : List T3) (last : Nat) (es : List E2), vs = [.ref f, .ref w] ∧ FrA H f fr ∧ Frm fr last ∧ WvA H w es ∧ (∀ e ∈ es, Ent fr e) ∧ es.length ≤ 200 ∧ ∀ H', Same H H' → Q (.str (textE fr es)) H'
def spPlacesG : Sp := fun vs H Q _ => ∃ (f w : Addr) (fr : List T3) (last : Nat) (es : List E2), vs = [.ref f, .ref w] ∧ FrA H f fr ∧ Frm fr last ∧ LvA H w es ∧ (∀ e ∈ es, Ent fr e) ∧ es.length ≤ 200 ∧ ∀ H' p, Same H H' → H p = none → H' p = some (.lst ((lp fr es).map V.int)) → Q (.ref p) H'
structure Pu (K : PySem.W.Frag) (mg : Str → Option Value) where
  Y : Ws K mg
  fT : Addr
  dT : FuncData
  T : Fun K "text_put" "text_put" sPut fT dT
  bT : Binds K dT ["framing", "entries"] []
  mT : mg "text_put" = some (.ref fT)
section
variable {P : Program} {w : World} {K : PySem.W.Frag} {mg : Str → Option Value} {base : Heap}
theorem scPut : FnScope ["framing", "entries", "writer", "step"] ["framing", "entries"] (defScope sPut) := ⟨rfl, rfl, rfl, by decide +kernel, rfl, by decide +kernel, by decide +kernel⟩
theorem ok_putG (U : Pu K mg) : FnOk P w K mg base CX0 1 U.fT U.dT ["framing", "entries"] spPutG := by
  refine U.T.ok scPut (fun vs H Q E h => ?_) (fun cdv A outer s H vs Q E hr h => ?_)
  · obtain ⟨f, t, fr, l, e, rfl, _⟩ := h
    rfl
  · obtain ⟨f, wv, fr, last, es, rfl, fa, fm, wa, wo, l60, q⟩ := h
    obtain ⟨tm, eM⟩ := U.Y.marks
    refine ⟨_, pss_one (ps_ret (pe_m1 PySem.F.slot_str_join PySem.F.type_str_join mt_join pe_str (pe_lc (own := [("writer", 2), ("step", 3)]) (g := gTup K 2 (gCons (gName 2) (gCons (gName 3) gNil))) (te := tReplM (rIxT K) (tOp (rIxT K) (tVar 0) (tVar 3)) 1 "@" (tC (.str "ABCDEFGH")) (tVar 2)) rfl scPut.nd (pi_list (pv 1))
      (blkOk_by (N := ["framing", "entries", "writer", "step"]) (sc := defScope sPut) (by decide +kernel))
      (fun _ _ _ _ _ => pg_tup rfl (pgs_cons (pg_name (i := 2) scPut.nd rfl (Or.inl rfl)) (pgs_cons (pg_name (i := 3) scPut.nd rfl (Or.inl rfl)) pgs_nil))) (fun _ _ _ _ _ => pts_nil)
      (fun _ _ _ _ _ => pe_replM ix_tup (pe_ix ix_tup (pv 0) (pv 3) (fun _ _ => rfl)) (pe_glob (v := .str "ABCDEFGH") (by rfl) eM ⟨_, rfl⟩) (pv 2) (fun _ _ => rfl) (fun _ _ => rfl))))), ?_⟩
    obtain ⟨tw, hw, wl, wt⟩ := id wa
    have pl : ∀ e ∈ es, (stt fr e.2).2.1.length ≤ 8 := fun e he => by
      obtain ⟨_, _, n0, n1⟩ := wo e he
      obtain ⟨_, _, _, _, _, hm⟩ := stt_at fa n0 n1
      exact (pc_len (fm.stp _ hm).2.2.1).2
    refine ⟨⟨_, rfl⟩, _, rfl, wv, rfl, ⟨_, SqL.of hw⟩, fun D hD => ?_⟩
    refine lc_it (walk_list (xs := tw.map V.ref)) (fun i H' => H' D = some (.lst (((es.take i).map (putE fr)).map V.str)) ∧ ∀ b o, H b = some o → H' b = some o) ⟨upd_same, fun b o z => same_upd hD b o z⟩ (fun i H' _ z => SqL.of (z.2 _ _ hw)) ?_ ?_
    · rintro i x H1 H2 hi ⟨hl, kp⟩ ⟨rfl, hx⟩
      obtain ⟨t, e, he, _, rfl, e4⟩ := at_ent (i := i) wl wt hx
      have hm := List.mem_of_getElem? he
      obtain ⟨e0, e1, n0, n1⟩ := wo e hm
      obtain ⟨ts, t2, hf, ha, h3, _⟩ := stt_at (fa.same kp) n0 n1
      obtain ⟨m1, m2⟩ := mrk_at e0 e1
      have p8 := pl e hm
      refine ⟨t, _, rfl, SqT.of (kp _ _ e4), rfl, _, _, rfl, _, _, rfl, rfl, rfl, ?_⟩
      refine ⟨_, rfl, _, rfl, f, _, e.2, .ref t2, rfl, rfl, SqT.of hf, ha, t2, _, 1, _, rfl, rfl, SqT.of h3, atI_nat (j := 1) rfl, _, rfl, _, rfl, _, mrk e.1, e.1, rfl, rfl, (by decide +kernel), m1, m2, by omega, _, hl, ?_, ?_, fun b o z => ?_⟩
      · rw [List.length_map, List.length_map, List.length_take, sizeLine_eq]
        omega
      · rw [take_one he, List.map_append, List.map_append]
        exact upd_same
      · rw [upd_ne (ne_of_none z hD)]
        exact kp b o z
    · rintro H1 ⟨hl, kp⟩
      have e0 : es.take (tw.map V.ref).length = es := by
        rw [List.length_map, wl, List.take_length]
      rw [e0] at hl
      refine ⟨"", D, es.map (putE fr), rfl, rfl, .inl (SqL.of hl), ?_, q H1 kp⟩
      have z : ∀ l : List E2, (∀ e ∈ l, (stt fr e.2).2.1.length ≤ 8) → ((l.map (putE fr)).map (·.length)).sum ≤ 17 * l.length := by
        intro l
        induction l with
        | nil => exact fun _ => Nat.le_refl _
        | cons e l ih =>
          intro h
          have h1 := putE_len (h e (List.mem_cons_self ..))
          have h2 := ih fun e he => h e (List.mem_cons_of_mem _ he)
          simp only [List.map_cons, List.sum_cons, List.length_cons]
          omega
      have z1 := z es pl
      have z2 : ("" : Str).length = 0 := by decide +kernel
      rw [z2]
      omega
theorem ok_putW (U : Pu K mg) : FnOk P w K mg base CX0 1 U.fT U.dT ["framing", "entries"] spPutW := by
  refine U.T.ok scPut (fun vs H Q E h => ?_) (fun cdv A outer s H vs Q E hr h => ?_)
  · obtain ⟨f, t, fr, l, e, rfl, _⟩ := h
    rfl
  · obtain ⟨f, wv, fr, last, es, rfl, fa, fm, wa, wo, l60, q⟩ := h
    obtain ⟨tm, eM⟩ := U.Y.marks
    refine ⟨_, pss_one (ps_ret (pe_m1 PySem.F.slot_str_join PySem.F.type_str_join mt_join pe_str (pe_lc (own := [("writer", 2), ("step", 3)]) (g := gTup K 2 (gCons (gName 2) (gCons (gName 3) gNil))) (te := tReplM (rIxT K) (tOp (rIxT K) (tVar 0) (tVar 3)) 1 "@" (tC (.str "ABCDEFGH")) (tVar 2)) rfl scPut.nd (pi_tup (pv 1))
      (blkOk_by (N := ["framing", "entries", "writer", "step"]) (sc := defScope sPut) (by decide +kernel))
      (fun _ _ _ _ _ => pg_tup rfl (pgs_cons (pg_name (i := 2) scPut.nd rfl (Or.inl rfl)) (pgs_cons (pg_name (i := 3) scPut.nd rfl (Or.inl rfl)) pgs_nil))) (fun _ _ _ _ _ => pts_nil)
      (fun _ _ _ _ _ => pe_replM ix_tup (pe_ix ix_tup (pv 0) (pv 3) (fun _ _ => rfl)) (pe_glob (v := .str "ABCDEFGH") (by rfl) eM ⟨_, rfl⟩) (pv 2) (fun _ _ => rfl) (fun _ _ => rfl))))), ?_⟩
    obtain ⟨tw, hw, wl, wt⟩ := id wa
    have pl : ∀ e ∈ es, (stt fr e.2).2.1.length ≤ 8 := fun e he => by
      obtain ⟨_, _, n0, n1⟩ := wo e he
      obtain ⟨_, _, _, _, _, hm⟩ := stt_at fa n0 n1
      exact (pc_len (fm.stp _ hm).2.2.1).2
    refine ⟨⟨_, rfl⟩, _, rfl, wv, rfl, ⟨_, SqT.of hw⟩, fun D hD => ?_⟩
    refine lc_it (walk_tup (xs := tw.map V.ref)) (fun i H' => H' D = some (.lst (((es.take i).map (putE fr)).map V.str)) ∧ ∀ b o, H b = some o → H' b = some o) ⟨upd_same, fun b o z => same_upd hD b o z⟩ (fun i H' _ z => SqT.of (z.2 _ _ hw)) ?_ ?_
    · rintro i x H1 H2 hi ⟨hl, kp⟩ ⟨rfl, hx⟩
      obtain ⟨t, e, he, _, rfl, e4⟩ := at_ent (i := i) wl wt hx
      have hm := List.mem_of_getElem? he
      obtain ⟨e0, e1, n0, n1⟩ := wo e hm
      obtain ⟨ts, t2, hf, ha, h3, _⟩ := stt_at (fa.same kp) n0 n1
      obtain ⟨m1, m2⟩ := mrk_at e0 e1
      have p8 := pl e hm
      refine ⟨t, _, rfl, SqT.of (kp _ _ e4), rfl, _, _, rfl, _, _, rfl, rfl, rfl, ?_⟩
      refine ⟨_, rfl, _, rfl, f, _, e.2, .ref t2, rfl, rfl, SqT.of hf, ha, t2, _, 1, _, rfl, rfl, SqT.of h3, atI_nat (j := 1) rfl, _, rfl, _, rfl, _, mrk e.1, e.1, rfl, rfl, (by decide +kernel), m1, m2, by omega, _, hl, ?_, ?_, fun b o z => ?_⟩
      · rw [List.length_map, List.length_map, List.length_take, sizeLine_eq]
        omega
      · rw [take_one he, List.map_append, List.map_append]
        exact upd_same
      · rw [upd_ne (ne_of_none z hD)]
        exact kp b o z
    · rintro H1 ⟨hl, kp⟩
      have e0 : es.take (tw.map V.ref).length = es := by
        rw [List.length_map, wl, List.take_length]
      rw [e0] at hl
      refine ⟨"", D, es.map (putE fr), rfl, rfl, .inl (SqL.of hl), ?_, q H1 kp⟩
      have z : ∀ l : List E2, (∀ e ∈ l, (stt fr e.2).2.1.length ≤ 8) → ((l.map (putE fr)).map (·.length)).sum ≤ 17 * l.length := by
        intro l
        induction l with
        | nil => exact fun _ => Nat.le_refl _
        | cons e l ih =>
          intro h
          have h1 := putE_len (h e (List.mem_cons_self ..))
          have h2 := ih fun e he => h e (List.mem_cons_of_mem _ he)
          simp only [List.map_cons, List.sum_cons, List.length_cons]
          omega
      have z1 := z es pl
      have z2 : ("" : Str).length = 0 := by decide +kernel
      rw [z2]
      omega
theorem ok_placesG (U : Ps K mg) : FnOk P w K mg base CX0 1 U.fL U.dL ["framing", "entries"] spPlacesG := by
  refine U.L.ok scPlaces (fun vs H Q E h => ?_) (fun cdv A outer s H vs Q E hr h => ?_)
  · obtain ⟨f, t, fr, l, e, rfl, _⟩ := h
    rfl
  · obtain ⟨f, wv, fr, last, es, rfl, fa, fm, wa, wo, l60, q⟩ := h
    refine ⟨_, pss_one (ps_ret (pe_op op_cat (pe_lst (pa_cons pe_int pa_nil)) (pe_lc (own := [("at", 2), ("writer", 3), ("step", 4)]) (g := gTup K 2 (gCons (gName 2) (gCons (gTup K 2 (gCons (gName 3) (gCons (gName 4) gNil))) gNil))) (tt := tTest (tOp rEq (tOp (rIxT K) (tOp (rIxT K) (tVar 0) (tVar 4)) (tC (.int 2))) (tC (.int 0)))) (te := tOp (rI0 fun i j => .int (i + j)) (tVar 2) (tC (.int 1))) rfl scPlaces.nd (pi_enum (by rfl) U.Y.Z.en (pa_cons (pv 1) pa_nil))
      (blkOk_by (N := ["framing", "entries", "at", "writer", "step"]) (sc := defScope sPlaces) (by decide +kernel))
      (fun _ _ _ _ _ => pg_tup rfl (pgs_cons (pg_name (i := 2) scPlaces.nd rfl (Or.inl rfl)) (pgs_cons (pg_tup rfl (pgs_cons (pg_name (i := 3) scPlaces.nd rfl (Or.inl rfl)) (pgs_cons (pg_name (i := 4) scPlaces.nd rfl (Or.inl rfl)) pgs_nil))) pgs_nil)))
      (fun _ _ _ _ _ => pts_one (pt_cmpR op_eq (pe_ix ix_tup (pe_ix ix_tup (pv 0) (pv 4) (fun _ _ => rfl)) pe_int (fun _ _ => rfl)) pe_int (nomark _)))
      (fun _ _ _ _ _ => pe_op op_add (pv 2) pe_int)))), ?_⟩
    obtain ⟨tw, hw, wl, wt⟩ := id wa
    refine ⟨(by show 1 ≤ sizeLine; decide), fun z hz => ?_⟩
    have sz := same_upd (o := HO.lst [V.int 0]) hz
    refine ⟨_, rfl, wv, _, rfl, SqL.of (sz _ _ hw), fun D hD => ?_⟩
    have cl : ∀ i, i ≤ es.length → (cuts fr es i).length ≤ 200 := fun i hi => by
      have := List.length_filter_le (fun k => ends fr (es.getD k (0, 0))) (List.range i)
      unfold cuts
      rw [List.length_map]
      rw [List.length_range] at this
      omega
    refine lc_it (walk_enum (xs := tw.map V.ref)) (fun i H' => H' D = some (.lst ((cuts fr es i).map V.int)) ∧ ∀ b o, upd H z (.lst [V.int 0]) b = some o → H' b = some o) ⟨upd_same, fun b o e => same_upd hD b o e⟩ (fun i H' _ y => SqL.of (y.2 _ _ (sz _ _ hw))) ?_ ?_
    · rintro i x H1 H2 hi ⟨hl, kp⟩ ⟨T, xi, xo, rfl, nT, rfl, h1, h2⟩
      cases h1
      obtain ⟨t, e, he, _, rfl, e4⟩ := at_ent (i := i) wl wt h2
      have hm := List.mem_of_getElem? he
      have uT := same_upd (o := HO.tup [V.int (i : Nat), V.ref t]) nT
      have s3 : Same H _ := (sz.trans kp).trans uT
      have hl3 := uT _ _ hl
      obtain ⟨e0, e1, n0, n1⟩ := wo e hm
      obtain ⟨ts, t2, hf, ha, h3, _⟩ := stt_at (fa.same s3) n0 n1
      have ie : i < es.length := (List.getElem?_eq_some_iff.mp he).1
      have eg : es.getD i (0, 0) = e := by rw [List.getD_eq_getElem?_getD, he]; rfl
      have cs : cuts fr es (i + 1) = cuts fr es i ++ (if ends fr e = true then [(i : Int) + 1] else []) := by
        unfold cuts
        rw [List.range_succ, List.filter_append, List.map_append, List.filter_cons, eg]
        split <;> rfl
      refine ⟨T, _, rfl, SqT.of upd_same, rfl, _, _, rfl, _, _, rfl, ⟨t, _, rfl, SqT.of (s3 _ _ e4), rfl, _, _, rfl, _, _, rfl, rfl, rfl, rfl, ?_⟩⟩
      refine ⟨_, rfl, _, rfl, f, _, e.2, .ref t2, rfl, rfl, SqT.of hf, ha, t2, _, 2, _, rfl, rfl, SqT.of h3, atI_nat (j := 2) rfl, rfl, _, rfl, ?_⟩
      refine ite2 (fun y => ?_) (fun y => ?_)
      · have y1 : (stt fr e.2).2.2 = 0 := V.int.inj (of_decide_eq_true y)
        have en : ends fr e = true := decide_eq_true y1
        refine ⟨_, rfl, _, _, rfl, rfl, _, hl3, ?_, ?_, fun b o q => ?_⟩
        · have := cl i (by omega)
          rw [List.length_map, sizeLine_eq]
          omega
        · rw [cs, if_pos en, List.map_append]
          exact upd_same
        · rw [upd_ne (ne_of_none q hD)]
          exact uT _ _ (kp b o q)
      · have en : ¬ ends fr e = true := fun q => y (decide_eq_true (congrArg V.int (of_decide_eq_true q)))
        refine ⟨?_, fun b o q => uT _ _ (kp b o q)⟩
        rw [cs, if_neg en, List.append_nil]
        exact hl3
    · rintro H1 ⟨hl, kp⟩
      rw [List.length_map, wl] at hl
      have := cl es.length (Nat.le_refl _)
      have z2 := kp _ _ (upd_same (a := z))
      refine ⟨z, D, _, _, rfl, rfl, z2, hl, ?_, fun p hp => ?_⟩
      · rw [List.length_map, sizeLine_eq]
        simp only [List.length_cons, List.length_nil]
        omega
      · refine q _ p (fun b o e => same_upd hp _ _ (kp _ _ (sz _ _ e))) ((sz.trans kp).free hp) ?_
        exact upd_same
end
end K50

set_option Elab.async false
set_option linter.all false
set_option maxRecDepth 100000
set_option maxHeartbeats 4000000
/-! place_of, rows_read, need_many. -/
namespace K50
open PySem L2 L2.EV
abbrev sPlaceOf : Stmt := top 51
abbrev sRowsRead : Stmt := top 52
abbrev sNeedMany : Stmt := top 50
/-- where a writer stands behind some entries -/
def plw (fr : List T3) (es : List E2) (n : Int) : Int := es.foldl (fun a e => if e.1 = n then (stt fr e.2).2.2 else a) 0
theorem plw_snoc {fr : List T3} {es : List E2} {e : E2} {n : Int} : plw fr (es ++ [e]) n = if e.1 = n then (stt fr e.2).2.2 else plw fr es n := by
  unfold plw
  rw [List.foldl_append]
  rfl
theorem plw_is {fr : List T3} {n : Int} (h0 : 0 ≤ n) (h1 : n < 8) (es : List E2) : (∀ e ∈ es, Ent fr e) → (plc fr es)[n.toNat]? = some (plw fr es n) := by
  refine snoc_ind (p := fun es => (∀ e ∈ es, Ent fr e) → (plc fr es)[n.toNat]? = some (plw fr es n)) (fun _ => ?_) (fun l e ih h => ?_) es
  · obtain ⟨k, rfl⟩ := Int.eq_ofNat_of_zero_le h0
    show (List.replicate 8 (0 : Int))[k]? = some 0
    rw [List.getElem?_replicate, if_pos (by omega)]
  · have ih := ih fun x hx => h x (List.mem_append_left _ hx)
    obtain ⟨e0, e1, _, _⟩ := h e (List.mem_append_right _ (List.mem_singleton.mpr rfl))
    rw [plc_snoc, plw_snoc]
    by_cases c : e.1 = n
    · rw [if_pos c, c, List.getElem?_set_self (by rw [plc_len]; omega)]
    · rw [if_neg c, List.getElem?_set_ne (by omega)]
      exact ih
def spPlaceOf : Sp := fun vs H Q _ => ∃ (f E : Addr) (fr : List T3) (es : List E2) (n : Int), vs = [.ref f, .ref E, .int n] ∧ FrA H f fr ∧ LvA H E es ∧ (∀ e ∈ es, Ent fr e) ∧ ∀ H', Same H H' → Q (.int (plw fr es n)) H'
def AtW (H : Hp) (ss : List Addr) (ls : List (List E2)) : Prop := ss.length = ls.length ∧ ∀ (i : Nat) a l, ss[i]? = some a → ls[i]? = some l → WvA H a l
/-- a list of lines -/
def LlA (H : Hp) (p : Addr) (ls : List (List E2)) : Prop := ∃ qs : List Addr, H p = some (.lst (qs.map V.ref)) ∧ AtW H qs ls
def spRowsRead : Sp := fun vs H Q _ => ∃ (f E : Addr) (fr : List T3) (last : Nat) (es : List E2), vs = [.ref f, .ref E] ∧ FrA H f fr ∧ Frm fr last ∧ LvA H E es ∧ (∀ e ∈ es, Ent fr e) ∧ es.length ≤ 60 ∧
  ∀ H' p, Same H H' → H p = none → LlA H' p (linesE fr es) → Q (.ref p) H'
def spNeedMany : Sp := fun vs H Q _ => ∃ (n : Int), vs = [.int n] ∧ 1 ≤ n ∧ n ≤ 8 ∧ Q (.int n) H
structure Lv (K : PySem.W.Frag) (mg : Str → Option Value) where
  U : Ps K mg
  fP : Addr
  dP : FuncData
  P : Fun K "place_of" "place_of" sPlaceOf fP dP
  bP : Binds K dP ["framing", "entries", "writer"] []
  mP : mg "place_of" = some (.ref fP)
  fR : Addr
  dR : FuncData
  R : Fun K "rows_read" "rows_read" sRowsRead fR dR
  bR : Binds K dR ["framing", "entries"] []
  mR : mg "rows_read" = some (.ref fR)
  fM : Addr
  dM : FuncData
  M : Fun K "need_many" "need_many" sNeedMany fM dM
  bM : Binds K dM ["thing"] []
  mM : mg "need_many" = some (.ref fM)
  zip : mg "zip" = none
  tu : mg "tuple" = none
section
variable {P : Program} {w : World} {K : PySem.W.Frag} {mg : Str → Option Value} {base : Heap}
theorem scPlaceOf : FnScope ["framing", "entries", "writer", "place", "other", "step"] ["framing", "entries", "writer"] (defScope sPlaceOf) := ⟨rfl, rfl, rfl, by decide +kernel, rfl, by decide +kernel, by decide +kernel⟩
theorem ok_placeOf (G : Lv K mg) : FnOk P w K mg base CX0 1 G.fP G.dP ["framing", "entries", "writer"] spPlaceOf := by
  refine G.P.ok scPlaceOf (fun vs H Q E h => ?_) (fun cdv A outer s H vs Q E hr h => ?_)
  · obtain ⟨f, E, fr, es, n, rfl, _⟩ := h
    rfl
  · obtain ⟨f, E, fr, es, n, rfl, fa, la, ent, q⟩ := h
    refine ⟨_, pss_cons (ps_set (i := 3) scPlaceOf.nd rfl (Or.inl rfl) pe_int)
      (pss_cons (ps_for PassesOwn.never rfl (pi_list (pv 1)) (pg_tup rfl (pgs_cons (pg_name (i := 4) scPlaceOf.nd rfl (Or.inl rfl)) (pgs_cons (pg_name (i := 5) scPlaceOf.nd rfl (Or.inl rfl)) pgs_nil)))
        (pss_one (ps_if (pt_cmpR op_eq (pv 4) (pv 2) (nomark _)) (pss_one (ps_set (i := 3) scPlaceOf.nd rfl (Or.inl rfl) (pe_ix ix_tup (pe_ix ix_tup (pv 0) (pv 5) (fun _ _ => rfl)) pe_int (fun _ _ => rfl)))) pss_nil)))
      (pss_one (ps_ret (pv 3)))), ?_⟩
    obtain ⟨tw, hw, wl, wt⟩ := id la
    refine ⟨_, rfl, E, rfl, ⟨_, SqL.of hw⟩, for_it (walk_list (xs := tw.map V.ref)) (fun i σ H' => ∃ (v4 v5 : Option V), σ = [some (.ref f), some (.ref E), some (.int n), some (.int (plw fr (es.take i) n)), v4, v5] ∧ Same H H')
      ⟨none, none, rfl, Same.refl H⟩ (fun i σ H' _ ⟨_, _, _, z⟩ => SqL.of (z _ _ hw)) ?_ ?_⟩
    · rintro i x σ H2z H2 hi ⟨v4, v5, rfl, s2⟩ ⟨rfl, hx⟩
      obtain ⟨t, e, he, _, rfl, e4⟩ := at_ent (i := i) wl wt hx
      obtain ⟨e0, e1, n0, n1⟩ := ent e (List.mem_of_getElem? he)
      obtain ⟨ts, t2, hf, ha, h3, _⟩ := stt_at (fa.same s2) n0 n1
      refine ⟨t, _, rfl, SqT.of (s2 _ _ e4), rfl, _, _, rfl, _, _, rfl, rfl, ?_⟩
      refine ⟨_, rfl, _, rfl, rfl, _, rfl, ?_⟩
      rw [take_one he, plw_snoc]
      by_cases c : e.1 = n
      · refine iteT' (by simp [c]) ?_
        rw [if_pos c]
        exact ⟨_, rfl, _, rfl, f, _, e.2, .ref t2, rfl, rfl, SqT.of hf, ha, t2, _, 2, _, rfl, rfl, SqT.of h3, atI_nat (j := 2) rfl, _, _, rfl, s2⟩
      · refine iteF' (by simp [c]) ?_
        rw [if_neg c]
        exact ⟨_, _, rfl, s2⟩
    · rintro σ H2 ⟨v4, v5, rfl, s2⟩
      rw [List.length_map, wl, List.take_length]
      exact ⟨_, rfl, q H2 s2⟩
theorem scRowsRead : FnScope ["framing", "entries", "places", "low", "high"] ["framing", "entries"] (defScope sRowsRead) := ⟨rfl, rfl, rfl, by decide +kernel, rfl, by decide +kernel, by decide +kernel⟩
def rTupO (K : PySem.W.Frag) : List V → Hp → VK → Prop := fun xs H Q => ∃ p ys, xs = [.ref p] ∧ ((SqL K H p ys ∧ ∀ l, H l = none → Q (.ref l) (upd H l (.tup ys))) ∨ (SqT K H p ys ∧ Q (.ref p) H))
theorem ok_rowsRead (G : Lv K mg) : FnOk P w K mg base CX0 2 G.fR G.dR ["framing", "entries"] spRowsRead := by
  have GL : FnOk P w K mg base CX0 1 G.U.fL G.U.dL ["framing", "entries"] spPlacesG := ok_placesG G.U
  refine G.R.ok scRowsRead (fun vs H Q E h => ?_) (fun cdv A outer s H vs Q E hr h => ?_)
  · obtain ⟨f, E, fr, last, es, rfl, _⟩ := h
    rfl
  · obtain ⟨f, E, fr, last, es, rfl, fa, fm, la, ent, l60, q⟩ := h
    refine ⟨_, pss_cons (ps_set (i := 2) scRowsRead.nd rfl (Or.inl rfl) (pe_call GL hr (by rfl) G.U.mL G.U.L.kp G.U.bL .nil pass0 (pa_cons (pv 0) (pa_cons (pv 1) pa_nil))))
      (pss_one (ps_ret (pe_lc (own := [("low", 3), ("high", 4)]) (g := gTup K 2 (gCons (gName 3) (gCons (gName 4) gNil))) (te := tCB (rTupO K) (tCons (tSl (rSlL K) (tVar 1) (tPart (tVar 3)) (tPart (tVar 4))) tNil)) rfl scRowsRead.nd
        (pi_zip (by rfl) G.zip (pa_cons (pv 2) (pa_cons (pe_slice sl_list (pv 2) (po_some pe_int) po_none) pa_nil)))
        (blkOk_by (N := ["framing", "entries", "places", "low", "high"]) (sc := defScope sRowsRead) (by decide +kernel))
        (fun _ _ _ _ _ => pg_tup rfl (pgs_cons (pg_name (i := 3) scRowsRead.nd rfl (Or.inl rfl)) (pgs_cons (pg_name (i := 4) scRowsRead.nd rfl (Or.inl rfl)) pgs_nil))) (fun _ _ _ _ _ => pts_nil)
        (fun _ _ _ _ _ => pe_callTy call_tuple_of (by rfl) G.tu (by decide +kernel) (pa_cons (pe_slice sl_list (pv 1) (po_some (pv 3)) (po_some (pv 4))) pa_nil))))), ?_⟩
    obtain ⟨tw, hw, wl, wt⟩ := id la
    refine ⟨_, rfl, _, rfl, f, E, fr, last, es, rfl, fa, fm, la, ent, by omega, fun H2 p s2 np ep => ?_⟩
    rw [lp_nat] at ep
    refine ⟨_, rfl, _, rfl, 1, rfl, p, _, rfl, SqL.of ep, fun p2 hp2 => ⟨p, p2, _, _, rfl, SqL.of (same_upd hp2 _ _ ep), SqL.of upd_same, fun D hD => ?_⟩⟩
    have u2 := same_upd (o := HO.lst (cutV ((List.map (fun k : Nat => (k : Int)) (lpN fr es)).map V.int) (some 1) none)) hp2
    rw [cut_tail] at hD u2 ⊢
    have sA := s2.trans u2
    have el : (linesE fr es).length = min (((lpN fr es).map (fun k : Nat => (k : Int))).map V.int).length ((((lpN fr es).tail).map (fun k : Nat => (k : Int))).map V.int).length := by
      unfold linesE
      simp
    refine lc_it (walk_zip el) (fun i H' => (∃ qs : List Addr, H' D = some (.lst (qs.map V.ref)) ∧ qs.length = i ∧ ∀ (k : Nat) q l, qs[k]? = some q → (linesE fr es)[k]? = some l → WvA H' q l) ∧ ∀ b o, upd H2 p2 (.lst ((((lpN fr es).tail).map (fun k : Nat => (k : Int))).map V.int)) b = some o → H' b = some o)
      ⟨⟨[], upd_same, rfl, fun k q l z => by cases z⟩, fun b o z => same_upd hD b o z⟩ (fun i H' _ z => ⟨SqL.of (z.2 _ _ (u2 _ _ ep)), SqL.of (z.2 _ _ upd_same)⟩) ?_ ?_
    · rintro i x H3 H4 hi ⟨⟨qs, hl, ql, hq⟩, kp⟩ ⟨T, x1, x2, rfl, nT, rfl, h1, h2⟩
      obtain ⟨lo, hlo, rfl⟩ := int_at h1
      obtain ⟨hi2, hhi, rfl⟩ := int_at h2
      have uT := same_upd (o := HO.tup [V.int (lo : Int), V.int (hi2 : Int)]) nT
      have s3 : Same H _ := (sA.trans kp).trans uT
      refine ⟨T, _, rfl, SqT.of upd_same, rfl, _, _, rfl, _, _, rfl, rfl, rfl, ?_⟩
      refine ⟨_, rfl, _, rfl, _, rfl, _, rfl, _, rfl, E, _, rfl, SqL.of (s3 _ _ hw), fun ns hns => ?_⟩
      have uS := same_upd (o := HO.lst (cutV (tw.map V.ref) (some (lo : Int)) (some (hi2 : Int)))) hns
      refine ⟨ns, _, rfl, .inl ⟨SqL.of upd_same, fun nq hnq => ?_⟩⟩
      have uQ := same_upd (o := HO.tup (cutV (tw.map V.ref) (some (lo : Int)) (some (hi2 : Int)))) hnq
      have e5 : upd (upd (upd H3 T (.tup [V.int (lo : Int), V.int (hi2 : Int)])) ns (.lst (cutV (tw.map V.ref) (some (lo : Int)) (some (hi2 : Int))))) nq (.tup (cutV (tw.map V.ref) (some (lo : Int)) (some (hi2 : Int)))) nq = some (.tup (cutV (tw.map V.ref) (some (lo : Int)) (some (hi2 : Int)))) := upd_same
      have s5 := uS.trans uQ
      generalize upd (upd (upd H3 T (.tup [V.int (lo : Int), V.int (hi2 : Int)])) ns (.lst (cutV (tw.map V.ref) (some (lo : Int)) (some (hi2 : Int))))) nq (.tup (cutV (tw.map V.ref) (some (lo : Int)) (some (hi2 : Int)))) = H5 at e5 s5 ⊢
      rw [cutV_map] at e5
      have le : (linesE fr es)[i]? = some (cutE es lo hi2) := by
        unfold linesE
        rw [List.getElem?_map, List.getElem?_zip_eq_some.mpr (show (lpN fr es)[i]? = some ((lo, hi2) : Nat × Nat).1 ∧ (lpN fr es).tail[i]? = some ((lo, hi2) : Nat × Nat).2 from ⟨hlo, hhi⟩)]
        rfl
      have d5 := s5 _ _ (uT _ _ hl)
      refine ⟨_, d5, ?_, ⟨⟨qs ++ [nq], ?_, by rw [List.length_append, ql]; rfl, fun k q l hk hl2 => ?_⟩, fun b o z => ?_⟩⟩
      · have : (lpN fr es).length ≤ 61 := lpN_len l60
        rw [el] at hi
        simp only [List.length_map] at hi
        rw [List.length_map, ql, sizeLine_eq]
        omega
      · rw [List.map_append]
        exact upd_same
      · have sD : ∀ {q : Addr} {l : List E2}, WvA H5 q l → WvA (upd H5 D (.lst (qs.map V.ref ++ [.ref nq]))) q l := fun {q l} ⟨ts, e, a, b⟩ => by
          have kt := keepT_upd (o := .lst (qs.map V.ref ++ [.ref nq])) d5 (fun xs z => by cases z)
          exact ⟨ts, kt _ _ e, a, fun i t e h1 h2 => kt _ _ (b i t e h1 h2)⟩
        refine sD ?_
        by_cases hk2 : k < i
        · rw [List.getElem?_append_left (by omega)] at hk
          exact (hq k q l hk hl2).same (uT.trans s5)
        · have hk3 : k = i := by
            have := (List.getElem?_eq_some_iff.mp hk).1
            rw [List.length_append, ql] at this
            simp only [List.length_cons, List.length_nil] at this
            omega
          subst hk3
          rw [List.getElem?_append_right (by omega), ql, Nat.sub_self] at hk
          have e6 : nq = q := Option.some.inj hk
          subst e6
          rw [le] at hl2
          have e7 := Option.some.inj hl2
          subst e7
          unfold cutE
          refine wv_part wl wt (s3.trans s5) ?_
          unfold cutE at e5
          rw [wl] at e5
          exact e5
      · rw [upd_ne (ne_of_none z hD)]
        exact s5 _ _ (uT _ _ (kp b o z))
    · rintro H3 ⟨⟨qs, hl, ql, hq⟩, kp⟩
      refine q _ D (sA.trans kp) ((sA).free hD) ⟨qs, hl, ?_, fun k q l h1 h2 => hq k q l h1 h2⟩
      exact ql
theorem scNeedMany : FnScope ["thing"] ["thing"] (defScope sNeedMany) := ⟨rfl, rfl, rfl, by decide +kernel, rfl, by decide +kernel, by decide +kernel⟩
theorem ok_needMany (G : Lv K mg) : FnOk P w K mg base CX0 2 G.fM G.dM ["thing"] spNeedMany := by
  have GN : FnOk P w K mg base CX0 1 G.U.Y.Z.fN G.U.Y.Z.dN ["thing", "many"] spNum := ok_num G.U.Y.Z.N G.U.Y.Z.T
  refine G.M.ok scNeedMany (fun vs H Q E h => ?_) (fun cdv A outer s H vs Q E hr h => ?_)
  · obtain ⟨n, rfl, _⟩ := h
    rfl
  · obtain ⟨n, rfl, n1, n8, q⟩ := h
    obtain ⟨tm, eM⟩ := G.U.Y.marks
    refine ⟨_, pss_cons (ps_if (pw_or (pt_not (pt_val (pe_call GN hr (by rfl) G.U.Y.Z.mN G.U.Y.Z.N.kp G.U.Y.Z.bN .nil pass0 (pa_cons (pv 0) (pa_cons (pe_op op_add (pe_callB call_len_str (by rfl) G.U.Y.Z.T.len PySem.boot_len (pa_cons (pe_glob (v := .str "ABCDEFGH") (by rfl) eM ⟨_, rfl⟩) pa_nil)) pe_int) pa_nil)))))
        (pw_or1 (pt_cmpR op_eq (pv 0) pe_int (nomark _)))).pt pss_never pss_nil)
      (pss_one (ps_ret (pv 0))), ?_⟩
    refine ⟨_, rfl, _, rfl, (by decide +kernel), _, _, rfl, rfl, n, _, rfl, _, rfl, ?_⟩
    have z : (("ABCDEFGH" : Str).length : Int) = 8 := by decide +kernel
    refine iteF' (by rw [decide_eq_true (show 0 ≤ n by omega), decide_eq_true (show n < (("ABCDEFGH" : Str).length : Int) + 1 by omega)]; rfl) ?_
    refine ⟨_, rfl, rfl, _, rfl, iteF' (by simp; omega) ?_⟩
    exact ⟨_, rfl, q⟩
end
end K50

set_option Elab.async false
set_option linter.all false
set_option maxRecDepth 100000
set_option maxHeartbeats 4000000
/-! The law's own text and lines. -/
namespace K50
open PySem L2 L2.EV
abbrev sPutL : Stmt := top 61
abbrev sTextL : Stmt := top 62
def spPutL : Sp := fun vs H Q _ => ∃ (f t : Addr) (fr : List T3) (last : Nat) (e : E2), vs = [.ref f, .ref t] ∧ FrA H f fr ∧ Frm fr last ∧ A2 H t e ∧ Ent fr e ∧ Q (.str (putE fr e)) H
def spPutT : Sp := fun vs H Q _ => ∃ (f w : Addr) (fr : List T3) (last : Nat) (es : List E2), vs = [.ref f, .ref w] ∧ FrA H f fr ∧ Frm fr last ∧ WvA H w es ∧ (∀ e ∈ es, Ent fr e) ∧ es.length ≤ 200 ∧ ∀ H', Same H H' → Q (.str (textE fr es)) H'
section
variable {P : Program} {w : World} {K : PySem.W.Frag} {mg : Str → Option Value} {base : Heap}
structure Lx (K : PySem.W.Frag) (mg : Str → Option Value) where
  f1 : Addr
  f2 : Addr
  d1 : FuncData
  d2 : FuncData
  P : Fun K "_law_put" "_law_put" sPutL f1 d1
  T : Fun K "_law_text" "_law_text" sTextL f2 d2
  bP : Binds K d1 ["framing", "entry"] []
  bT : Binds K d2 ["framing", "entries"] []
  gP : mg "_law_put" = some (.ref f1)
  gT : mg "_law_text" = some (.ref f2)
theorem scPutL : FnScope ["framing", "entry"] ["framing", "entry"] (defScope sPutL) := ⟨rfl, rfl, rfl, by decide +kernel, rfl, by decide +kernel, by decide +kernel⟩
theorem ok_putL (G : Lx K mg) : FnOk P w K mg base CX0 1 G.f1 G.d1 ["framing", "entry"] spPutL := by
  refine G.P.ok scPutL (fun vs H Q E h => ?_) (fun cdv A outer s H vs Q E hr h => ?_)
  · obtain ⟨f, t, fr, last, e, rfl, _⟩ := h
    rfl
  · obtain ⟨f, t, fr, last, e, rfl, fa, fm, ha, ⟨e0, e1, n0, n1⟩, q⟩ := h
    refine ⟨_, pss_one (ps_ret (pe_replM ix_tup (pe_ix ix_tup (pv 0) (pe_ix ix_tup (pv 1) pe_int (fun _ _ => rfl)) (fun _ _ => rfl)) pe_str (pe_ix ix_tup (pv 1) pe_int (fun _ _ => rfl)) (fun _ _ => rfl) (fun _ _ => rfl))), ?_⟩
    obtain ⟨ts, t2, hf, hat, h3, hm⟩ := stt_at fa n0 n1
    obtain ⟨m1, m2⟩ := mrk_at e0 e1
    have p8 := (pc_len (fm.stp _ hm).2.2.1).2
    exact ⟨_, rfl, _, rfl, t, _, 1, _, rfl, rfl, SqT.of ha, atI_nat (j := 1) rfl, f, _, e.2, .ref t2, rfl, rfl, SqT.of hf, hat, t2, _, 1, _, rfl, rfl, SqT.of h3, atI_nat (j := 1) rfl, _, rfl, _, rfl, t, _, 0, _, rfl, rfl, SqT.of ha, atI_nat (j := 0) rfl, _, mrk e.1, e.1, rfl, rfl, (by decide +kernel), m1, m2, by omega, q⟩
theorem scTextL : FnScope ["framing", "entries", "entry"] ["framing", "entries"] (defScope sTextL) := ⟨rfl, rfl, rfl, by decide +kernel, rfl, by decide +kernel, by decide +kernel⟩
theorem ok_textT (G : Lx K mg) : FnOk P w K mg base CX0 2 G.f2 G.d2 ["framing", "entries"] spPutT := by
  have GP : FnOk P w K mg base CX0 1 G.f1 G.d1 ["framing", "entry"] spPutL := ok_putL G
  refine G.T.ok scTextL (fun vs H Q E h => ?_) (fun cdv A outer s H vs Q E hr h => ?_)
  · obtain ⟨f, t, fr, l, e, rfl, _⟩ := h
    rfl
  · obtain ⟨f, wv, fr, last, es, rfl, fa, fm, wa, wo, l60, q⟩ := h
    refine ⟨_, pss_one (ps_ret (pe_m1 PySem.F.slot_str_join PySem.F.type_str_join mt_join pe_str (pe_lc (own := [("entry", 2)]) (g := gName 2) rfl scTextL.nd (pi_tup (pv 1))
      (blkOk_by (N := ["framing", "entries", "entry"]) (sc := defScope sTextL) (by decide +kernel))
      (fun _ _ _ _ _ => pg_name (i := 2) scTextL.nd rfl (Or.inl rfl)) (fun _ _ _ _ _ => pts_nil)
      (fun _ _ _ _ _ => pe_call GP hr (by rfl) G.gP G.P.kp G.bP .nil pass0 (pa_cons (pv 0) (pa_cons (pv 2) pa_nil)))))), ?_⟩
    obtain ⟨tw, hw, wl, wt⟩ := id wa
    have pl : ∀ e ∈ es, (stt fr e.2).2.1.length ≤ 8 := fun e he => by
      obtain ⟨_, _, n0, n1⟩ := wo e he
      obtain ⟨_, _, _, _, _, hm⟩ := stt_at fa n0 n1
      exact (pc_len (fm.stp _ hm).2.2.1).2
    refine ⟨⟨_, rfl⟩, _, rfl, wv, rfl, ⟨_, SqT.of hw⟩, fun D hD => ?_⟩
    refine lc_it (walk_tup (xs := tw.map V.ref)) (fun i H' => H' D = some (.lst (((es.take i).map (putE fr)).map V.str)) ∧ ∀ b o, H b = some o → H' b = some o) ⟨upd_same, fun b o z => same_upd hD b o z⟩ (fun i H' _ z => SqT.of (z.2 _ _ hw)) ?_ ?_
    · rintro i x H1 H2 hi ⟨hl, kp⟩ ⟨rfl, hx⟩
      obtain ⟨t, e, he, _, rfl, e4⟩ := at_ent (i := i) wl wt hx
      have hm := List.mem_of_getElem? he
      refine ⟨rfl, _, rfl, _, rfl, f, t, fr, last, e, rfl, fa.same kp, fm, kp _ _ e4, wo e hm, _, hl, ?_, ?_, fun b o z => ?_⟩
      · rw [List.length_map, List.length_map, List.length_take, sizeLine_eq]
        omega
      · rw [take_one he, List.map_append, List.map_append]
        exact upd_same
      · rw [upd_ne (ne_of_none z hD)]
        exact kp b o z
    · rintro H1 ⟨hl, kp⟩
      have e0 : es.take (tw.map V.ref).length = es := by
        rw [List.length_map, wl, List.take_length]
      rw [e0] at hl
      refine ⟨"", D, es.map (putE fr), rfl, rfl, .inl (SqL.of hl), ?_, q H1 kp⟩
      have z : ∀ l : List E2, (∀ e ∈ l, (stt fr e.2).2.1.length ≤ 8) → ((l.map (putE fr)).map (·.length)).sum ≤ 17 * l.length := by
        intro l
        induction l with
        | nil => exact fun _ => Nat.le_refl _
        | cons e l ih =>
          intro h
          have h1 := putE_len (h e (List.mem_cons_self ..))
          have h2 := ih fun e he => h e (List.mem_cons_of_mem _ he)
          simp only [List.map_cons, List.sum_cons, List.length_cons]
          omega
      have z1 := z es pl
      have z2 : ("" : Str).length = 0 := by decide +kernel
      rw [z2]
      omega
end
end K50

set_option Elab.async false
set_option linter.all false
set_option maxRecDepth 100000
set_option maxHeartbeats 4000000
/-! need_reader and takes of what is right; what a Shared is. -/
namespace K50
open PySem L2 L2.EV
def spNeedR0 : Sp := fun vs H Q _ => ∃ (v : V) (d : PyData), vs = [v] ∧ Da H v d ∧ RdD d ∧ ∀ H', Same H H' → Q v H'
abbrev nF : Str := "framing"
theorem h12 : ¬ (("framing" : Str) = "writers") := by decide +kernel
theorem h13 : ¬ (("framing" : Str) = "reader") := by decide +kernel
theorem h14 : ¬ (("framing" : Str) = "entries") := by decide +kernel
theorem h15 : ¬ (("framing" : Str) = "rows") := by decide +kernel
theorem h16 : ¬ (("framing" : Str) = "holder") := by decide +kernel
theorem h23 : ¬ (("writers" : Str) = "reader") := by decide +kernel
theorem h24 : ¬ (("writers" : Str) = "entries") := by decide +kernel
theorem h25 : ¬ (("writers" : Str) = "rows") := by decide +kernel
theorem h26 : ¬ (("writers" : Str) = "holder") := by decide +kernel
theorem h34 : ¬ (("reader" : Str) = "entries") := by decide +kernel
theorem h35 : ¬ (("reader" : Str) = "rows") := by decide +kernel
theorem h36 : ¬ (("reader" : Str) = "holder") := by decide +kernel
theorem h45 : ¬ (("entries" : Str) = "rows") := by decide +kernel
theorem h46 : ¬ (("entries" : Str) = "holder") := by decide +kernel
theorem h56 : ¬ (("rows" : Str) = "holder") := by decide +kernel
/-- the attributes of a Shared that nobody holds -/
def flds (f : Addr) (nw : Int) (r E R : Addr) : List (Str × V) := [("framing", .ref f), ("writers", .int nw), ("reader", .ref r), ("entries", .ref E), ("rows", .ref R), ("holder", .non)]
theorem flds_new (f : Addr) (nw : Int) (r E R : Addr) : putF "holder" .non (putF "rows" (.ref R) (putF "entries" (.ref E) (putF "reader" (.ref r) (putF "writers" (.int nw) (putF "framing" (.ref f) []))))) = flds f nw r E R := by
  simp only [flds, putF, if_neg h12, if_neg h13, if_neg h14, if_neg h15, if_neg h16, if_neg h23, if_neg h24, if_neg h25, if_neg h26, if_neg h34, if_neg h35, if_neg h36, if_neg h45, if_neg h46, if_neg h56]
theorem flds_rows (f : Addr) (nw : Int) (r E R R2 : Addr) : putF "rows" (.ref R2) (flds f nw r E R) = flds f nw r E R2 := by
  simp only [flds, putF, if_neg h15, if_neg h25, if_neg h35, if_neg h45, if_pos]
theorem flds_ents (f : Addr) (nw : Int) (r E R E2 : Addr) : putF "entries" (.ref E2) (flds f nw r E R) = flds f nw r E2 R := by
  simp only [flds, putF, if_neg h14, if_neg h24, if_neg h34, if_pos]
theorem lk (fs : List (Str × V)) (g k : Str) (v : V) (h : ¬ k = g) : ((k, v) :: fs).lookup g = fs.lookup g := by
  rw [List.lookup_cons]
  have : (g == k) = false := beq_eq_false_iff_ne.mpr fun z => h z.symm
  rw [this]
theorem lk0 (fs : List (Str × V)) (k : Str) (v : V) : ((k, v) :: fs).lookup k = some v := by
  rw [List.lookup_cons, beq_self_eq_true]
theorem l_framing (f : Addr) (nw : Int) (r E R : Addr) : (flds f nw r E R).lookup ("framing" : Str) = some (.ref f) := lk0 ..
theorem l_writers (f : Addr) (nw : Int) (r E R : Addr) : (flds f nw r E R).lookup ("writers" : Str) = some (.int nw) := by
  unfold flds
  rw [lk _ _ _ _ h12, lk0]
theorem l_reader (f : Addr) (nw : Int) (r E R : Addr) : (flds f nw r E R).lookup ("reader" : Str) = some (.ref r) := by
  unfold flds
  rw [lk _ _ _ _ h13, lk _ _ _ _ h23, lk0]
theorem l_entries (f : Addr) (nw : Int) (r E R : Addr) : (flds f nw r E R).lookup ("entries" : Str) = some (.ref E) := by
  unfold flds
  rw [lk _ _ _ _ h14, lk _ _ _ _ h24, lk _ _ _ _ h34, lk0]
theorem l_rows (f : Addr) (nw : Int) (r E R : Addr) : (flds f nw r E R).lookup ("rows" : Str) = some (.ref R) := by
  unfold flds
  rw [lk _ _ _ _ h15, lk _ _ _ _ h25, lk _ _ _ _ h35, lk _ _ _ _ h45, lk0]
theorem l_holder (f : Addr) (nw : Int) (r E R : Addr) : (flds f nw r E R).lookup ("holder" : Str) = some .non := by
  unfold flds
  rw [lk _ _ _ _ h16, lk _ _ _ _ h26, lk _ _ _ _ h36, lk _ _ _ _ h46, lk _ _ _ _ h56, lk0]
theorem l_no (f : Addr) (nw : Int) (r E R : Addr) {g : Str} (a1 : ¬ "framing" = g) (a2 : ¬ "writers" = g) (a3 : ¬ "reader" = g) (a4 : ¬ "entries" = g) (a5 : ¬ "rows" = g) (a6 : ¬ "holder" = g) : (flds f nw r E R).lookup g = none := by
  unfold flds
  rw [lk _ _ _ _ a1, lk _ _ _ _ a2, lk _ _ _ _ a3, lk _ _ _ _ a4, lk _ _ _ _ a5, lk _ _ _ _ a6]
  rfl
theorem FrA.keepT {H H' : Hp} {f : Addr} {fr : List T3} (h : FrA H f fr) (k : KeepT H H') : FrA H' f fr := by
  obtain ⟨ts, e, l, c⟩ := h
  exact ⟨ts, k _ _ e, l, fun i t x h1 h2 => k _ _ (c i t x h1 h2)⟩
theorem WvA.keepT {H H' : Hp} (k : KeepT H H') {a : Addr} {es : List E2} (h : WvA H a es) : WvA H' a es := by
  obtain ⟨ts, e, l, c⟩ := h
  exact ⟨ts, k _ _ e, l, fun i t x h1 h2 => k _ _ (c i t x h1 h2)⟩
theorem AtW.keepT {H H' : Hp} (k : KeepT H H') {ss : List Addr} {ls : List (List E2)} (h : AtW H ss ls) : AtW H' ss ls := ⟨h.1, fun i a l h1 h2 => (h.2 i a l h1 h2).keepT k⟩
theorem RdA.keepT {H H' : Hp} {r : Addr} {xs : List T3} {gs : List Int} (h : RdA H r xs gs) (k : KeepT H H') : RdA H' r xs gs := by
  obtain ⟨t1, t2, ts, h1, h2, h3, h4⟩ := h
  exact ⟨t1, t2, ts, k _ _ h1, k _ _ h2, h3.same k, k _ _ h4⟩
theorem da_ints' {H : Hp} : ∀ gs : List Int, DaAll H (gs.map V.int) (gs.map PyData.int)
  | [] => .nil
  | g :: gs => .cons (.int g) (da_ints' gs)
theorem da_3s {H : Hp} : ∀ {xs : List T3} {ts : List Addr}, At3 H ts xs → DaAll H (ts.map V.ref) (xs.map d3)
  | [], [], _ => .nil
  | [], _ :: _, h => by cases h.1
  | _ :: _, [], h => by cases h.1
  | x :: xs, t :: ts, h => .cons (.tup (h.2 0 t x rfl rfl) (.cons (.int _) (.cons (.str _) (.cons (.int _) .nil)))) (da_3s ⟨by simpa using h.1, fun i t x h1 h2 => h.2 (i + 1) t x (by simpa using h1) (by simpa using h2)⟩)
theorem RdA.da {H : Hp} {r : Addr} {xs : List T3} {gs : List Int} (h : RdA H r xs gs) : Da H (.ref r) (rdT xs gs) := by
  obtain ⟨t1, t2, ts, h1, h2, h3, h4⟩ := h
  exact .tup h1 (.cons (.tup h2 (da_3s h3)) (.cons (.tup h4 (da_ints' gs)) .nil))
/-- what stood in the heap stands, but at one or two places -/
def Keep2 (H H' : Hp) (p q : Addr) : Prop := ∀ b o, H b = some o → b ≠ p → b ≠ q → H' b = some o
theorem Keep2.keepT {H H' : Hp} {p q : Addr} (k : Keep2 H H' p q) (hp : ∀ xs, H p ≠ some (.tup xs)) (hq : ∀ xs, H q ≠ some (.tup xs)) : KeepT H H' := fun a xs e => k a _ e (fun z => hp xs (by rw [← z]; exact e)) (fun z => hq xs (by rw [← z]; exact e))
/-- a Shared at p, these entries put into it -/
structure ShA (H : Hp) (C p dx f r E R : Addr) (nw : Int) (fr : List T3) (es : List E2) : Prop where
  ob : H p = some (.ins C dx (flds f nw r E R))
  en : LvA H E es
  ro : LlA H R (linesE fr es)
theorem LlA.same {H H' : Hp} {p : Addr} {ls : List (List E2)} (h : LlA H p ls) (s : Same H H') : LlA H' p ls := by
  obtain ⟨qs, e, l, c⟩ := h
  exact ⟨qs, s _ _ e, l, fun i a l h1 h2 => (c i a l h1 h2).same s⟩
theorem ShA.same {H H' : Hp} {C p dx f r E R : Addr} {nw : Int} {fr : List T3} {es : List E2} (h : ShA H C p dx f r E R nw fr es) (s : Same H H') : ShA H' C p dx f r E R nw fr es := ⟨s _ _ h.ob, h.en.same s, h.ro.same s⟩
theorem ent_d2m {fr : List T3} {e : E2} {m : Int} (h : Ent fr e) (hm : e.1 < m) : entD fr.length m (d2 e) = some e := by
  obtain ⟨e0, e1, n0, n1⟩ := h
  have a : numD m (.int e.1) = some e.1 := if_pos ⟨e0, hm⟩
  have b : numD (fr.length : Int) (.int e.2) = some e.2 := if_pos ⟨n0, n1⟩
  show (match numD m (.int e.1), numD fr.length (.int e.2) with
    | some x, some y => some (x, y)
    | _, _ => none) = some e
  rw [a, b]
/-- what the walk asks of the class -/
structure ShT (K : PySem.W.Frag) (mg : Str → Option Value) where
  C : Addr
  m : mg "Shared" = some (.ref C)
  cl : Cls K C
  n1 : NoAttr K C "framing"
  n2 : NoAttr K C "writers"
  n3 : NoAttr K C "reader"
  n4 : NoAttr K C "entries"
  n5 : NoAttr K C "rows"
  n6 : NoAttr K C "holder"
section
variable {P : Program} {w : World} {K : PySem.W.Frag} {mg : Str → Option Value} {base : Heap}
theorem ok_needR0 (Z : Tt K mg) : FnOk P w K mg base CX0 3 Z.fR Z.dR ["thing"] spNeedR0 :=
  fnOk0 (ok_needR Z.T.R Z.FR) fun vs H Q E ⟨v, d, e, da, rd, q⟩ => ⟨v, d, e, da, rd_sz rd, by rw [rd_ok rd]; exact q⟩
theorem ok_takes0 (Z : Tt K mg) : FnOk P w K mg base CX0 5 Z.fT Z.dT ["reader", "text"] spTk0 :=
  fnOk0 (ok_takes Z) fun vs H Q E ⟨r, xs, gs, p, e, da, rd, xl, pl, lt, q⟩ => ⟨r, .str p, xs, gs, some p, e, da, rd, xl, ⟨rfl, pl⟩, (fun p' e' _ => by cases e'; exact q), fun z => by
    have z : ltB p = false := z
    rw [lt] at z
    cases z⟩
end
end K50

set_option Elab.async false
set_option linter.all false
set_option maxRecDepth 100000
set_option maxHeartbeats 4000000
/-! Shared.__init__, Shared.write. -/
namespace K50
open PySem L2 L2.EV
abbrev sInitS : Stmt := inClass (top 53) 0
abbrev sWrite : Stmt := inClass (top 53) 1
def spInitS (C : Addr) : Sp := fun vs H Q _ => ∃ (p dx f r : Addr) (nw : Int) (fr : List T3) (last : Nat) (xs : List T3) (gs : List Int), vs = [.ref p, .ref f, .int nw, .ref r] ∧ H p = some (.ins C dx []) ∧ FrA H f fr ∧ Frm fr last ∧ 1 ≤ nw ∧ nw ≤ 8 ∧ RdA H r xs gs ∧ RdD (rdT xs gs) ∧
  ∀ (H' : Hp) (E R : Addr), ShA H' C p dx f r E R nw fr [] → H E = none → H R = none → E ≠ R → Keep2 H H' p p → Q .non H'
def spWrite (C : Addr) : Sp := fun vs H Q _ => ∃ (p dx f r E R : Addr) (nw : Int) (fr : List T3) (last : Nat) (es : List E2) (e : E2), vs = [.ref p, .int e.1, .int e.2] ∧ ShA H C p dx f r E R nw fr es ∧ FrA H f fr ∧ Frm fr last ∧ Wv fr (es ++ [e]) ∧ e.1 < nw ∧ nw ≤ 8 ∧
  ∀ (H' : Hp) (R' : Addr), ShA H' C p dx f r E R' nw fr (es ++ [e]) → H R' = none → Keep2 H H' p E → Q (.str (putE fr e)) H'
structure Si (K : PySem.W.Frag) (mg : Str → Option Value) where
  T : ShT K mg
  V : Lv K mg
  U : Pu K mg
  R : Tt K mg
  f : Addr
  d : FuncData
  F : FunD K "__init__" "Shared.__init__" (defArgs sInitS) (defBody sInitS) (defScope sInitS) [.int 2] [] f d
structure Sw (K : PySem.W.Frag) (mg : Str → Option Value) where
  T : ShT K mg
  V : Lv K mg
  U : Pu K mg
  f : Addr
  d : FuncData
  F : Fun K "write" "Shared.write" sWrite f d
  b : Binds K d ["self", "writer", "step"] []
  m : Meth K T.C "write" f
  most : ∃ t, mg "MOST_ENTRIES" = some (.int 200 t)
theorem join_one (x : Str) : Txt.join "" [x] = x := by
  show Txt.join "" [x] = x
  rfl
section
variable {P : Program} {w : World} {K : PySem.W.Frag} {mg : Str → Option Value} {base : Heap}
theorem scInitS : FnScope ["self", "framing", "writers", "reader"] ["self", "framing", "writers", "reader"] (defScope sInitS) := ⟨rfl, rfl, rfl, by decide +kernel, rfl, by decide +kernel, by decide +kernel⟩
theorem ok_initS (S : Si K mg) : FnOk P w K mg base CX0 4 S.f S.d ["self", "framing", "writers", "reader"] (spInitS S.T.C) := by
  have GF : FnOk P w K mg base CX0 3 S.V.U.Y.Z.fF S.V.U.Y.Z.dF ["thing"] spNeedF := ok_needF S.V.U.Y.Z
  have GM : FnOk P w K mg base CX0 2 S.V.fM S.V.dM ["thing"] spNeedMany := ok_needMany S.V
  have GR : FnOk P w K mg base CX0 3 S.R.fR S.R.dR ["thing"] spNeedR0 := ok_needR0 S.R
  refine S.F.ok scInitS (fun vs H Q E h => ?_) (fun cdv A outer s H vs Q E hr h => ?_)
  · obtain ⟨p, dx, f, r, nw, fr, last, xs, gs, rfl, _⟩ := h
    rfl
  · obtain ⟨p, dx, f, r, nw, fr, last, xs, gs, rfl, hp, fa, fm, w1, w8, ra, rd, q⟩ := h
    have r2 := hr.mono (j := 2) (by omega)
    refine ⟨_, pss_cons (ps_fld (pv 0) (pe_call GF hr (by rfl) S.V.U.Y.Z.mF S.V.U.Y.Z.F.kp S.V.U.Y.Z.bF .nil pass0 (pa_cons (pv 1) pa_nil)) rfl)
      (pss_cons (ps_fld (pv 0) (pe_call GM r2 (by rfl) S.V.mM S.V.M.kp S.V.bM .nil pass0 (pa_cons (pv 2) pa_nil)) rfl)
      (pss_cons (ps_fld (pv 0) (pe_ifExp (pt_cmpR op_isN (pv 3) pe_non (nomark _)) pe_never (pe_call GR hr (by rfl) S.R.mR S.R.FR.kp S.R.bR .nil pass0 (pa_cons (pv 3) pa_nil))) rfl)
      (pss_cons (ps_fld (pv 0) (pe_lst pa_nil) rfl)
      (pss_cons (ps_fld (pv 0) (pe_lst pa_nil) rfl)
      (pss_one (ps_fld (pv 0) pe_non rfl)))))), ?_⟩
    refine ⟨_, rfl, f, fr, last, rfl, fa, fm, fun H1 s1 => ⟨_, rfl, p, S.T.C, dx, [], rfl, s1 _ _ hp, S.T.cl, S.T.n1, (by show 0 < 1000; decide), ?_⟩⟩
    refine ⟨_, rfl, nw, rfl, w1, w8, _, rfl, p, S.T.C, dx, _, rfl, upd_same, S.T.cl, S.T.n2, (by show 1 < 1000; decide), ?_⟩
    have k2 : Keep2 H (upd (upd H1 p (.ins S.T.C dx (putF "framing" (.ref f) []))) p (.ins S.T.C dx (putF "writers" (.int nw) (putF "framing" (.ref f) [])))) p p := fun b o e h _ => by
      rw [upd_ne h, upd_ne h]
      exact s1 _ _ e
    have nt : ∀ xs, H p ≠ some (.tup xs) := fun xs z => by
      rw [hp] at z
      cases z
    have e2 := upd_same (H := upd H1 p (.ins S.T.C dx (putF "framing" (.ref f) []))) (a := p) (o := .ins S.T.C dx (putF "writers" (.int nw) (putF "framing" (.ref f) [])))
    generalize upd (upd H1 p (.ins S.T.C dx (putF "framing" (.ref f) []))) p (.ins S.T.C dx (putF "writers" (.int nw) (putF "framing" (.ref f) []))) = H2 at k2 e2 ⊢
    have ra2 := ra.keepT (k2.keepT nt nt)
    refine ⟨_, rfl, rfl, _, rfl, iteF' (by simp) ?_⟩
    refine ⟨_, rfl, .ref r, rdT xs gs, rfl, ra2.da, rd, fun H3 s3 => ⟨_, rfl, p, S.T.C, dx, _, rfl, s3 _ _ e2, S.T.cl, S.T.n3, (by show 2 < 1000; decide), ?_⟩⟩
    have k3 : Keep2 H (upd H3 p (.ins S.T.C dx (putF "reader" (.ref r) (putF "writers" (.int nw) (putF "framing" (.ref f) []))))) p p := fun b o e h h' => by
      rw [upd_ne h]
      exact s3 _ _ (k2 b o e h h')
    have e3 := upd_same (H := H3) (a := p) (o := .ins S.T.C dx (putF "reader" (.ref r) (putF "writers" (.int nw) (putF "framing" (.ref f) []))))
    generalize upd H3 p (.ins S.T.C dx (putF "reader" (.ref r) (putF "writers" (.int nw) (putF "framing" (.ref f) [])))) = H4 at k3 e3 ⊢
    have fresh : ∀ {E : Addr}, H4 E = none → H E = none := fun {E} n => by
      cases c : H E with
      | none => rfl
      | some o =>
        by_cases z : E = p
        · rw [z, e3] at n
          cases n
        · rw [k3 E o c z z] at n
          cases n
    refine ⟨(by show 0 ≤ sizeLine; decide), fun E hE => ?_⟩
    have pE := ne_of_none e3 hE
    have e4 : upd H4 E (.lst []) p = some (.ins S.T.C dx (putF "reader" (.ref r) (putF "writers" (.int nw) (putF "framing" (.ref f) [])))) := by rw [upd_ne pE]; exact e3
    refine ⟨_, rfl, p, S.T.C, dx, _, rfl, e4, S.T.cl, S.T.n4, (by show 3 < 1000; decide), ?_⟩
    refine ⟨(by show 0 ≤ sizeLine; decide), fun R hR => ?_⟩
    have e5 := upd_same (H := upd H4 E (.lst [])) (a := p) (o := .ins S.T.C dx (putF "entries" (.ref E) (putF "reader" (.ref r) (putF "writers" (.int nw) (putF "framing" (.ref f) [])))))
    have l5 : upd (upd H4 E (.lst [])) p (.ins S.T.C dx (putF "entries" (.ref E) (putF "reader" (.ref r) (putF "writers" (.int nw) (putF "framing" (.ref f) []))))) E = some (.lst []) := by
      rw [upd_ne pE.symm]
      exact upd_same
    have k5 : ∀ b o, H4 b = some o → b ≠ p → upd (upd H4 E (.lst [])) p (.ins S.T.C dx (putF "entries" (.ref E) (putF "reader" (.ref r) (putF "writers" (.int nw) (putF "framing" (.ref f) []))))) b = some o := fun b o e h => by
      rw [upd_ne h, upd_ne (ne_of_none e hE)]
      exact e
    generalize upd (upd H4 E (.lst [])) p (.ins S.T.C dx (putF "entries" (.ref E) (putF "reader" (.ref r) (putF "writers" (.int nw) (putF "framing" (.ref f) []))))) = H5 at e5 l5 k5 hR ⊢
    have pR := ne_of_none e5 hR
    have e6 : upd H5 R (.lst []) p = some (.ins S.T.C dx (putF "entries" (.ref E) (putF "reader" (.ref r) (putF "writers" (.int nw) (putF "framing" (.ref f) []))))) := by rw [upd_ne pR]; exact e5
    refine ⟨_, rfl, p, S.T.C, dx, _, rfl, e6, S.T.cl, S.T.n5, (by show 4 < 1000; decide), ?_⟩
    refine ⟨_, rfl, p, S.T.C, dx, _, rfl, upd_same, S.T.cl, S.T.n6, (by show 5 < 1000; decide), ?_⟩
    rw [flds_new]
    have hR4 : H4 R = none := by
      cases c : H4 R with
      | none => rfl
      | some o =>
        rw [k5 R o c pR.symm] at hR
        cases hR
    have ER := ne_of_none l5 hR
    refine q _ E R ⟨upd_same, ⟨[], ?_, rfl, fun i t e h => by cases h⟩, ⟨[], ?_, rfl, fun i t e h => by cases h⟩⟩ (fresh hE) (fresh hR4) ER fun b o e h h' => ?_
    · rw [upd_ne pE.symm, upd_ne pE.symm, upd_ne ER]
      exact l5
    · rw [upd_ne pR.symm, upd_ne pR.symm]
      exact upd_same
    · have e9 := k5 b o (k3 b o e h h) h
      rw [upd_ne h, upd_ne h, upd_ne (ne_of_none e9 hR)]
      exact e9
theorem scWrite : FnScope ["self", "writer", "step"] ["self", "writer", "step"] (defScope sWrite) := ⟨rfl, rfl, rfl, by decide +kernel, rfl, by decide +kernel, by decide +kernel⟩
theorem ok_write (S : Sw K mg) : FnOk P w K mg base CX0 3 S.f S.d ["self", "writer", "step"] (spWrite S.T.C) := by
  have GE : FnOk P w K mg base CX0 2 S.V.U.Y.fE S.V.U.Y.dE ["framing", "thing", "many"] spEntryD := ok_entryD S.V.U.Y
  have GP : FnOk P w K mg base CX0 1 S.V.fP S.V.dP ["framing", "entries", "writer"] spPlaceOf := ok_placeOf S.V
  have GR : FnOk P w K mg base CX0 2 S.V.fR S.V.dR ["framing", "entries"] spRowsRead := ok_rowsRead S.V
  have GT : FnOk P w K mg base CX0 1 S.U.fT S.U.dT ["framing", "entries"] spPutG := ok_putG S.U
  refine S.F.ok scWrite (fun vs H Q E h => ?_) (fun cdv A outer s H vs Q E hr h => ?_)
  · obtain ⟨p, dx, f, r, E, R, nw, fr, last, es, e, rfl, _⟩ := h
    rfl
  · obtain ⟨p, dx, f, r, E, R, nw, fr, last, es, e, rfl, sh, fa, fm, wo, wl, w8, q⟩ := h
    have r1 := hr.mono (j := 1) (by omega)
    obtain ⟨tm, eM⟩ := S.most
    refine ⟨_, pss_cons (ps_if (pt_not (pt_val (pe_call GE hr (by rfl) S.V.U.Y.mE S.V.U.Y.E.kp S.V.U.Y.bE .nil pass0 (pa_cons (pe_fld (pv 0) rfl) (pa_cons (pe_tup (pa_cons (pv 1) (pa_cons (pv 2) pa_nil))) (pa_cons (pe_fld (pv 0) rfl) pa_nil)))))) pss_never pss_nil)
      (pss_cons (ps_if (pt_cmpR op_ne (pe_call GP r1 (by rfl) S.V.mP S.V.P.kp S.V.bP .nil pass0 (pa_cons (pe_fld (pv 0) rfl) (pa_cons (pe_fld (pv 0) rfl) (pa_cons (pv 1) pa_nil)))) (pe_ix ix_tup (pe_ix ix_tup (pe_fld (pv 0) rfl) (pv 2) (fun _ _ => rfl)) pe_int (fun _ _ => rfl)) (nomark _)) pss_never pss_nil)
      (pss_cons (ps_if (pt_cmpR op_ge (pe_callB call_len_seq (by rfl) S.V.U.Y.Z.T.len PySem.boot_len (pa_cons (pe_fld (pv 0) rfl) pa_nil)) (pe_glob (v := .int 200) (by rfl) eM ⟨_, rfl⟩) (nomark _)) pss_never pss_nil)
      (pss_cons (ps_if (pw_and (pt_cmpR op_notN (pe_fld (pv 0) rfl) pe_non (nomark _)) (pw_and1 (pt_cmpR op_ne (pe_fld (pv 0) rfl) (pv 1) (nomark _)))).pt pss_never pss_nil)
      (pss_cons (ps_expr (pe_bm PySem.F.plainAttrs_list PySem.F.slot_list_append PySem.F.type_list_append mt_append (pe_fld (pv 0) rfl) (pa_cons (pe_tup (pa_cons (pv 1) (pa_cons (pv 2) pa_nil))) pa_nil)))
      (pss_cons (ps_fld (pv 0) (pe_call GR hr (by rfl) S.V.mR S.V.R.kp S.V.bR .nil pass0 (pa_cons (pe_fld (pv 0) rfl) (pa_cons (pe_fld (pv 0) rfl) pa_nil))) rfl)
      (pss_one (ps_ret (pe_call GT r1 (by rfl) S.U.mT S.U.T.kp S.U.bT .nil pass0 (pa_cons (pe_fld (pv 0) rfl) (pa_cons (pe_lst (pa_cons (pe_tup (pa_cons (pv 1) (pa_cons (pv 2) pa_nil))) pa_nil)) pa_nil)))))))))), ?_⟩
    have cl := S.T.cl
    have ent : ∀ x ∈ es ++ [e], Ent fr x := wo.ent
    have ente := ent e (List.mem_append_right _ (List.mem_singleton.mpr rfl))
    have ent0 : ∀ x ∈ es, Ent fr x := fun x hx => ent x (List.mem_append_left _ hx)
    obtain ⟨e0, e1, n0, n1⟩ := id ente
    have wat : plw fr es e.1 = (stt fr e.2).1 := by
      have a := plw_is e0 e1 es ent0
      have b := wo.go es.length e (by rw [List.getElem?_append_right (Nat.le_refl _), Nat.sub_self]; rfl)
      rw [List.take_left' rfl, a] at b
      exact Option.some.inj b
    have l60 := wo.l
    refine ⟨_, rfl, p, S.T.C, dx, _, _, rfl, sh.ob, cl, S.T.n1, l_framing .., _, rfl, _, rfl, (by show 2 ≤ sizeLine; decide), fun t ht => ?_⟩
    have uT := same_upd (o := HO.tup [V.int e.1, V.int e.2]) ht
    have sh1 := sh.same uT
    have fa1 := fa.same uT
    have dt : Da (upd H t (.tup [.int e.1, .int e.2])) (.ref t) (d2 e) := .tup upd_same (.cons (.int _) (.cons (.int _) .nil))
    generalize upd H t (.tup [.int e.1, .int e.2]) = H1 at uT sh1 fa1 dt ⊢
    refine ⟨_, rfl, p, S.T.C, dx, _, _, rfl, sh1.ob, cl, S.T.n2, l_writers .., f, .ref t, d2 e, fr, nw, rfl, fa1, dt, ?_⟩
    rw [ent_d2m ente wl]
    refine ⟨_, rfl, iteF ?_⟩
    refine ⟨_, rfl, p, S.T.C, dx, _, _, rfl, sh1.ob, cl, S.T.n1, l_framing .., _, rfl, p, S.T.C, dx, _, _, rfl, sh1.ob, cl, S.T.n4, l_entries .., _, rfl, f, E, fr, es, e.1, rfl, fa1, sh1.en, ent0, fun H2 s2 => ?_⟩
    have sh2 := sh1.same s2
    have fa2 := fa1.same s2
    obtain ⟨ts, t2, hf, ha, h3, _⟩ := stt_at fa2 n0 n1
    refine ⟨_, rfl, p, S.T.C, dx, _, _, rfl, sh2.ob, cl, S.T.n1, l_framing .., _, rfl, f, _, e.2, .ref t2, rfl, rfl, SqT.of hf, ha, t2, _, 0, _, rfl, rfl, SqT.of h3, atI_nat (j := 0) rfl, rfl, _, rfl, iteF' (by simp [wat]) ?_⟩
    obtain ⟨tw, hw, wl2, wt⟩ := id sh2.en
    have tl : tw.length < 200 := by
      rw [List.length_append] at l60
      simp only [List.length_cons, List.length_nil] at l60
      omega
    refine ⟨_, rfl, p, S.T.C, dx, _, _, rfl, sh2.ob, cl, S.T.n4, l_entries .., E, _, rfl, .inl (SqL.of hw), _, 200, rfl, rfl, _, rfl, iteF' (by simp; omega) ?_⟩
    refine ⟨_, rfl, p, S.T.C, dx, _, _, rfl, sh2.ob, cl, S.T.n6, l_holder .., rfl, _, rfl, iteF' (by simp) ?_⟩
    refine ⟨_, rfl, p, S.T.C, dx, _, _, rfl, sh2.ob, cl, S.T.n4, l_entries .., .inl ⟨rfl, _, SqL.of hw⟩, _, rfl, _, rfl, (by show 2 ≤ sizeLine; decide), fun t3 ht3 => ?_⟩
    have u3 := same_upd (o := HO.tup [V.int e.1, V.int e.2]) ht3
    have a3 : A2 (upd H2 t3 (.tup [.int e.1, .int e.2])) t3 e := upd_same
    have sh3 := sh2.same u3
    have fa3 := fa2.same u3
    have s03 := uT.trans (s2.trans u3)
    generalize upd H2 t3 (.tup [.int e.1, .int e.2]) = H3 at u3 a3 sh3 fa3 s03 ⊢
    have hw3 := u3 _ _ hw
    refine ⟨E, tw.map V.ref, _, rfl, rfl, hw3, by rw [List.length_map, sizeLine_eq]; omega, ?_⟩
    have pE : p ≠ E := ne_of sh3.ob hw3 (by intro z; cases z)
    have kE := keepT_upd (o := .lst (tw.map V.ref ++ [.ref t3])) hw3 (fun xs z => by cases z)
    have ob4 : upd H3 E (.lst (tw.map V.ref ++ [.ref t3])) p = some (.ins S.T.C dx (flds f nw r E R)) := by
      rw [upd_ne pE]
      exact sh3.ob
    have en4 : LvA (upd H3 E (.lst (tw.map V.ref ++ [.ref t3]))) E (es ++ [e]) := by
      refine ⟨tw ++ [t3], by rw [List.map_append]; exact upd_same, by rw [List.length_append, List.length_append, wl2]; rfl, fun i t x h1 h2 => kE _ _ ?_⟩
      exact ((At2.snoc ⟨wl2, fun i t e h1 h2 => u3 _ _ (wt i t e h1 h2)⟩ a3).2 i t x h1 h2)
    have fa4 := fa3.keepT kE
    have k4 : ∀ b o, H3 b = some o → b ≠ E → upd H3 E (.lst (tw.map V.ref ++ [.ref t3])) b = some o := fun b o z h => by
      rw [upd_ne h]
      exact z
    generalize upd H3 E (.lst (tw.map V.ref ++ [.ref t3])) = H4 at ob4 en4 fa4 k4 ⊢
    refine ⟨_, rfl, p, S.T.C, dx, _, _, rfl, ob4, cl, S.T.n1, l_framing .., _, rfl, p, S.T.C, dx, _, _, rfl, ob4, cl, S.T.n4, l_entries .., f, E, fr, last, es ++ [e], rfl, fa4, fm, en4, ent, l60, fun H5 R5 s5 nR lR => ?_⟩
    refine ⟨_, rfl, p, S.T.C, dx, _, rfl, s5 _ _ ob4, cl, S.T.n5, (by show 6 < 1000; decide), ?_⟩
    rw [flds_rows]
    have nt : ∀ xs, H5 p ≠ some (.tup xs) := fun xs z => by
      rw [s5 _ _ ob4] at z
      cases z
    have kp := keepT_upd (o := .ins S.T.C dx (flds f nw r E R5)) (s5 _ _ ob4) (fun xs z => by cases z)
    have ob6 := upd_same (H := H5) (a := p) (o := .ins S.T.C dx (flds f nw r E R5))
    have fa6 := (fa4.same s5).keepT kp
    have pR : p ≠ R5 := by
      obtain ⟨qs, e, _⟩ := lR
      exact ne_of (s5 _ _ ob4) e (by intro z; cases z)
    have sh6 : ShA (upd H5 p (.ins S.T.C dx (flds f nw r E R5))) S.T.C p dx f r E R5 nw fr (es ++ [e]) := by
      refine ⟨ob6, ?_, ?_⟩
      · obtain ⟨ts, h1, h2, h3⟩ := en4.same s5
        exact ⟨ts, by rw [upd_ne pE.symm]; exact h1, h2, fun i t x a b => kp _ _ (h3 i t x a b)⟩
      · obtain ⟨qs, h1, h2⟩ := lR
        exact ⟨qs, by rw [upd_ne pR.symm]; exact h1, h2.keepT kp⟩
    have k6 : Keep2 H (upd H5 p (.ins S.T.C dx (flds f nw r E R5))) p E := fun b o z h1 h2 => by
      rw [upd_ne h1]
      exact s5 _ _ (k4 b o (s03 _ _ z) h2)
    have nR0 : H R5 = none := by
      cases c : H R5 with
      | none => rfl
      | some o =>
        by_cases z : R5 = E
        · rw [z] at nR
          obtain ⟨ts, h1, _⟩ := en4
          rw [h1] at nR
          cases nR
        · rw [k4 _ _ (s03 _ _ c) z] at nR
          cases nR
    generalize upd H5 p (.ins S.T.C dx (flds f nw r E R5)) = H6 at ob6 fa6 sh6 k6 ⊢
    refine ⟨_, rfl, p, S.T.C, dx, _, _, rfl, ob6, cl, S.T.n1, l_framing .., _, rfl, _, rfl, (by show 2 ≤ sizeLine; decide), fun t7 h7 => ⟨(by show 1 ≤ sizeLine; decide), fun L hL => ?_⟩⟩
    have u7 := same_upd (o := HO.tup [V.int e.1, V.int e.2]) h7
    have u8 := same_upd (o := HO.lst [V.ref t7]) hL
    have s8 := u7.trans u8
    refine ⟨f, L, fr, last, [e], rfl, fa6.same s8, fm, ⟨[t7], upd_same, rfl, fun i t x h1 h2 => ?_⟩, fun x hx => ?_, (by show 1 ≤ 200; decide), fun H9 s9 => ?_⟩
    · cases i with
      | zero =>
        cases h1
        cases h2
        exact u8 _ _ upd_same
      | succ i => cases h1
    · cases List.mem_singleton.mp hx
      exact ente
    · have e9 : textE fr [e] = putE fr e := join_one _
      rw [e9]
      have s69 := s8.trans s9
      exact q H9 R5 (sh6.same s69) nR0 fun b o z h1 h2 => s69 _ _ (k6 b o z h1 h2)
end
end K50

set_option Elab.async false
set_option linter.all false
set_option maxRecDepth 100000
set_option maxHeartbeats 4000000
/-! Shared.good, passed, copy, __eq__. -/
namespace K50
open PySem L2 L2.EV
abbrev sGood : Stmt := inClass (top 53) 9
abbrev sPassed : Stmt := inClass (top 53) 10
abbrev sCopy : Stmt := inClass (top 53) 12
abbrev sEqS : Stmt := inClass (top 53) 13
/-- the texts of the read lines -/
def txs (fr : List T3) (es : List E2) : List Str := (linesE fr es).map (textE fr)
def goodF (fr : List T3) (es : List E2) (xs : List T3) (gs : List Int) : List Str := (txs fr es).filter (tkF xs gs)
def pasF (fr : List T3) (es : List E2) (xs : List T3) (gs : List Int) : List Int := ((List.range (linesE fr es).length).filter fun i => !wholeE fr ((linesE fr es).getD i []) && tkF xs gs (textE fr ((linesE fr es).getD i []))).map fun i : Nat => (i : Int)
/-- what a read line is -/
structure Lok (fr : List T3) (l : List E2) : Prop where
  ent : ∀ e ∈ l, Ent fr e
  ne : l ≠ []
  len : l.length ≤ 60
  ok : lineOf fr (.tuple (l.map d2)) = some l
  lt : ltB (textE fr l) = true
  sz : (textE fr l).length ≤ 1000
structure ShR (H : Hp) (C p : Addr) (f r : Addr) (fr : List T3) (last : Nat) (es : List E2) (xs : List T3) (gs : List Int) : Prop where
  sh : ∃ dx E R nw, ShA H C p dx f r E R nw fr es
  fa : FrA H f fr
  fm : Frm fr last
  ra : RdA H r xs gs
  rd : RdD (rdT xs gs)
  xl : xs.length ≤ 100
  lo : ∀ l ∈ linesE fr es, Lok fr l
  ll : (linesE fr es).length ≤ 60
theorem ShR.same {H H' : Hp} {C p f r : Addr} {fr : List T3} {last : Nat} {es : List E2} {xs : List T3} {gs : List Int} (h : ShR H C p f r fr last es xs gs) (s : Same H H') : ShR H' C p f r fr last es xs gs := by
  obtain ⟨dx, E, R, nw, sh⟩ := h.sh
  exact ⟨⟨dx, E, R, nw, sh.same s⟩, h.fa.same s, h.fm, h.ra.same s, h.rd, h.xl, h.lo, h.ll⟩
def spGood (C : Addr) : Sp := fun vs H Q _ => ∃ (p f r : Addr) (fr : List T3) (last : Nat) (es : List E2) (xs : List T3) (gs : List Int), vs = [.ref p] ∧ ShR H C p f r fr last es xs gs ∧
  ∀ H' q, Same H H' → H' q = some (.tup ((goodF fr es xs gs).map V.str)) → Q (.ref q) H'
def spPassed (C : Addr) : Sp := fun vs H Q _ => ∃ (p f r : Addr) (fr : List T3) (last : Nat) (es : List E2) (xs : List T3) (gs : List Int), vs = [.ref p] ∧ ShR H C p f r fr last es xs gs ∧
  ∀ H' q, Same H H' → H' q = some (.tup ((pasF fr es xs gs).map V.int)) → Q (.ref q) H'
structure Sg (K : PySem.W.Frag) (mg : Str → Option Value) where
  T : ShT K mg
  U : Pu K mg
  R : Tt K mg
  S : Hs K mg
  f1 : Addr
  d1 : FuncData
  F1 : Fun K "good" "Shared.good" sGood f1 d1
  b1 : Binds K d1 ["self"] []
  m1 : Meth K T.C "good" f1
  f2 : Addr
  d2 : FuncData
  F2 : Fun K "passed" "Shared.passed" sPassed f2 d2
  b2 : Binds K d2 ["self"] []
  m2 : Meth K T.C "passed" f2
  tu : mg "tuple" = none
section
variable {P : Program} {w : World} {K : PySem.W.Frag} {mg : Str → Option Value} {base : Heap}
theorem scGood : FnScope ["self", "texts", "row", "text"] ["self"] (defScope sGood) := ⟨rfl, rfl, rfl, by decide +kernel, rfl, by decide +kernel, by decide +kernel⟩
theorem ok_good (S : Sg K mg) : FnOk P w K mg base CX0 6 S.f1 S.d1 ["self"] (spGood S.T.C) := by
  have GT : FnOk P w K mg base CX0 1 S.U.fT S.U.dT ["framing", "entries"] spPutW := ok_putW S.U
  have GK : FnOk P w K mg base CX0 5 S.R.fT S.R.dT ["reader", "text"] spTk0 := ok_takes0 S.R
  refine S.F1.ok scGood (fun vs H Q E h => ?_) (fun cdv A outer s H vs Q E hr h => ?_)
  · obtain ⟨p, f, r, fr, last, es, xs, gs, rfl, _⟩ := h
    rfl
  · obtain ⟨p, f, r, fr, last, es, xs, gs, rfl, sr, q⟩ := h
    have r1 := hr.mono (j := 1) (by omega)
    have cl := S.T.cl
    refine ⟨_, pss_cons (ps_setLc (i := 1) (y := "texts") (own := [("row", 2)]) (g := gName 2) (te := tCall spPutW [] E0 (tCons (L2.tFld K (tVar 0) "framing") (tCons (tVar 2) tNil))) rfl scGood.nd rfl rfl (by rfl) (pi_list (pe_fld (pv 0) rfl))
        (blkOk_by (N := ["self", "texts", "row", "text"]) (sc := defScope sGood) (by decide +kernel))
        (fun _ _ _ _ _ => pg_name (i := 2) scGood.nd rfl (Or.inl rfl)) (fun _ _ _ _ _ => pts_nil)
        (fun _ _ _ _ _ => pe_call GT r1 (by rfl) S.U.mT S.U.T.kp S.U.bT .nil pass0 (pa_cons (pe_fld (pv 0) rfl) (pa_cons (pv 2) pa_nil))))
      (pss_one (ps_ret (pe_callTy call_tuple_of (by rfl) S.tu (by decide +kernel) (pa_cons (pe_lc (own := [("text", 3)]) (g := gName 3) (tt := tTest (tCall spTk0 [] E0 (tCons (L2.tFld K (tVar 0) "reader") (tCons (tVar 3) tNil)))) (te := tVar 3) rfl scGood.nd (pi_list (pv 1))
        (blkOk_by (N := ["self", "texts", "row", "text"]) (sc := defScope sGood) (by decide +kernel))
        (fun _ _ _ _ _ => pg_name (i := 3) scGood.nd rfl (Or.inl rfl)) (fun _ _ _ _ _ => pts_one (pt_val (pe_call GK hr (by rfl) S.R.mT S.R.FT.kp S.R.bT .nil pass0 (pa_cons (pe_fld (pv 0) rfl) (pa_cons (pv 3) pa_nil)))))
        (fun _ _ _ _ _ => pv 3)) pa_nil)))), ?_⟩
    obtain ⟨dx, E0', R, nw, sh⟩ := sr.sh
    obtain ⟨qs, hR, ql, qa⟩ := id sh.ro
    have ll := sr.ll
    refine ⟨_, rfl, p, S.T.C, dx, _, _, rfl, sh.ob, cl, S.T.n5, l_rows .., R, rfl, ⟨_, SqL.of hR⟩, fun D hD => ?_⟩
    refine lc_it (walk_list (xs := qs.map V.ref)) (fun i H' => H' D = some (.lst ((((linesE fr es).take i).map (textE fr)).map V.str)) ∧ Same H H') ⟨upd_same, same_upd hD⟩ (fun i H' _ z => SqL.of (z.2 _ _ hR)) ?_ ?_
    · rintro i x H2z H2 hi ⟨hl, s2⟩ ⟨rfl, hx⟩
      rw [List.length_map] at hi
      have iq : qs[i]? = some qs[i] := List.getElem?_eq_getElem hi
      rw [List.getElem?_map, iq] at hx
      obtain rfl : V.ref qs[i] = x := Option.some.inj hx
      have il : (linesE fr es)[i]? = some (linesE fr es)[i] := List.getElem?_eq_getElem (by omega)
      have lm := List.getElem_mem (l := linesE fr es) (n := i) (by omega)
      have wl := (qa i _ _ iq il).same s2
      have lo := sr.lo _ lm
      generalize (linesE fr es)[i] = l at *
      have l6 := lo.len
      refine ⟨rfl, _, rfl, p, S.T.C, dx, _, _, rfl, s2 _ _ sh.ob, cl, S.T.n1, l_framing .., _, rfl, f, qs[i], fr, last, l, rfl, sr.fa.same s2, sr.fm, wl, lo.ent, by omega, fun H4 s4 => ?_⟩
      refine ⟨_, s4 _ _ hl, ?_, ?_, same_set hD (s2.trans s4)⟩
      · rw [List.length_map, List.length_map, List.length_take, sizeLine_eq]
        omega
      · rw [take_one il, List.map_append, List.map_append]
        exact upd_same
    rintro H2 ⟨hl, s2⟩
    rw [List.length_map, ql, List.take_length] at hl
    refine gName_go2 ?_
    refine ⟨_, rfl, D, rfl, ⟨_, SqL.of hl⟩, fun D2 hD2 => ?_⟩
    refine lc_it (walk_list (xs := (txs fr es).map V.str)) (fun i H' => H' D2 = some (.lst ((((txs fr es).take i).filter (tkF xs gs)).map V.str)) ∧ Same H2 H') ⟨upd_same, same_upd hD2⟩ (fun i H' _ z => SqL.of (z.2 _ _ hl)) ?_ ?_
    · rintro i x H3z H3 hi ⟨hl3, s3⟩ ⟨rfl, hx⟩
      rw [List.length_map] at hi
      have il : (txs fr es)[i]? = some (txs fr es)[i] := List.getElem?_eq_getElem hi
      have lm := List.getElem_mem (l := txs fr es) (n := i) hi
      rw [List.getElem?_map, il] at hx
      generalize (txs fr es)[i] = y at *
      obtain rfl : V.str y = x := Option.some.inj hx
      obtain ⟨l, hl2, rfl⟩ := List.mem_map.mp lm
      have lo := sr.lo _ hl2
      have s03 := s2.trans s3
      refine ⟨rfl, ?_⟩
      refine ⟨_, rfl, p, S.T.C, dx, _, _, rfl, s03 _ _ sh.ob, cl, S.T.n3, l_reader .., _, rfl, .ref r, xs, gs, textE fr l, rfl, (sr.ra.same s03).da, sr.rd, sr.xl, lo.sz, lo.lt, fun H4 s4 => ⟨_, rfl, ?_⟩⟩
      have l9 : (txs fr es).length ≤ 60 := by
        unfold txs
        rw [List.length_map]
        exact ll
      rw [take_one il, List.filter_append, List.filter_cons]
      refine ite2 (fun z => ?_) (fun z => ?_)
      · rw [if_pos z]
        refine ⟨_, rfl, _, s4 _ _ hl3, ?_, ?_, same_set hD2 (s3.trans s4)⟩
        · have := List.length_filter_le (tkF xs gs) ((txs fr es).take i)
          rw [List.length_take] at this
          rw [List.length_map, sizeLine_eq]
          omega
        · rw [List.map_append]
          exact upd_same
      · rw [if_neg z, List.filter_nil, List.append_nil]
        exact ⟨s4 _ _ hl3, s3.trans s4⟩
    rintro H3 ⟨hl3, s3⟩
    rw [List.length_map, List.take_length] at hl3
    refine ⟨D2, _, rfl, .inl ⟨SqL.of hl3, fun q2 hq2 => ?_⟩⟩
    exact q _ q2 (s2.trans (s3.trans (same_upd hq2))) upd_same
theorem scPassed : FnScope ["self", "numbers", "number", "row"] ["self"] (defScope sPassed) := ⟨rfl, rfl, rfl, by decide +kernel, rfl, by decide +kernel, by decide +kernel⟩
theorem ok_passed (S : Sg K mg) : FnOk P w K mg base CX0 6 S.f2 S.d2 ["self"] (spPassed S.T.C) := by
  have GT : FnOk P w K mg base CX0 1 S.U.fT S.U.dT ["framing", "entries"] spPutW := ok_putW S.U
  have GK : FnOk P w K mg base CX0 5 S.R.fT S.R.dT ["reader", "text"] spTk0 := ok_takes0 S.R
  have GW : FnOk P w K mg base CX0 5 S.S.f2 S.S.d2 ["framing", "entries"] spWholeR := ok_wholeR S.S
  refine S.F2.ok scPassed (fun vs H Q E h => ?_) (fun cdv A outer s H vs Q E hr h => ?_)
  · obtain ⟨p, f, r, fr, last, es, xs, gs, rfl, _⟩ := h
    rfl
  · obtain ⟨p, f, r, fr, last, es, xs, gs, rfl, sr, q⟩ := h
    have r1 := hr.mono (j := 1) (by omega)
    have cl := S.T.cl
    refine ⟨_, pss_cons (ps_set (i := 1) scPassed.nd rfl (Or.inl rfl) (pe_lst pa_nil))
      (pss_cons (ps_for PassesOwn.never rfl (pi_enum (by rfl) S.U.Y.Z.en (pa_cons (pe_fld (pv 0) rfl) pa_nil)) (pg_tup rfl (pgs_cons (pg_name (i := 2) scPassed.nd rfl (Or.inl rfl)) (pgs_cons (pg_name (i := 3) scPassed.nd rfl (Or.inl rfl)) pgs_nil)))
        (pss_one (ps_if (pw_and (pt_not (pt_val (pe_call GW hr (by rfl) S.S.mW S.S.W.kp S.S.bW .nil pass0 (pa_cons (pe_fld (pv 0) rfl) (pa_cons (pv 3) pa_nil))))) (pw_and1 (pt_val (pe_call GK hr (by rfl) S.R.mT S.R.FT.kp S.R.bT .nil pass0 (pa_cons (pe_fld (pv 0) rfl) (pa_cons (pe_call GT r1 (by rfl) S.U.mT S.U.T.kp S.U.bT .nil pass0 (pa_cons (pe_fld (pv 0) rfl) (pa_cons (pv 3) pa_nil))) pa_nil)))))).pt
          (pss_one (ps_expr (pe_bm PySem.F.plainAttrs_list PySem.F.slot_list_append PySem.F.type_list_append mt_append (pv 1) (pa_cons (pv 2) pa_nil)))) pss_nil)))
      (pss_one (ps_ret (pe_callTy call_tuple_of (by rfl) S.tu (by decide +kernel) (pa_cons (pv 1) pa_nil))))), ?_⟩
    obtain ⟨dx, E0', R, nw, sh⟩ := sr.sh
    obtain ⟨qs, hR, ql, qa⟩ := id sh.ro
    have ll := sr.ll
    refine ⟨(by show 0 ≤ sizeLine; decide), fun D hD => gName_go2 ?_⟩
    have uD := same_upd (o := HO.lst []) hD
    refine ⟨_, rfl, p, S.T.C, dx, _, _, rfl, uD _ _ sh.ob, cl, S.T.n5, l_rows .., R, _, rfl, SqL.of (uD _ _ hR), for_it (walk_enum (xs := qs.map V.ref)) (fun i σ H' => ∃ (v2 v3 : Option V), σ = [some (.ref p), some (.ref D), v2, v3] ∧ Same H H' ∧ H' D = some (.lst ((((List.range i).filter fun i => !wholeE fr ((linesE fr es).getD i []) && tkF xs gs (textE fr ((linesE fr es).getD i []))).map fun i : Nat => (i : Int)).map V.int)))
      ⟨none, none, rfl, uD, upd_same⟩ (fun i σ H' _ ⟨_, _, _, z, _⟩ => SqL.of (z _ _ hR)) ?_ ?_⟩
    · rintro i x σ H2z H2 hi ⟨v2, v3, rfl, s2, hl⟩ ⟨T, xi, xo, rfl, nT, rfl, h1, h2⟩
      cases h1
      rw [List.length_map] at hi
      have iq : qs[i]? = some qs[i] := List.getElem?_eq_getElem hi
      have h2 : (qs.map V.ref)[i]? = some xo := h2
      rw [List.getElem?_map, iq] at h2
      obtain rfl : V.ref qs[i] = xo := Option.some.inj h2
      have il : (linesE fr es)[i]? = some (linesE fr es)[i] := List.getElem?_eq_getElem (by omega)
      have lm := List.getElem_mem (l := linesE fr es) (n := i) (by omega)
      have uT := same_upd (o := HO.tup [V.int (i : Nat), V.ref qs[i]]) nT
      have eT := upd_same (H := H2z) (a := T) (o := HO.tup [V.int (i : Nat), V.ref qs[i]])
      have s3 := s2.trans uT
      have hl3 := uT _ _ hl
      have wl := (qa i _ _ iq il).same s3
      have lo := sr.lo _ lm
      have eg : (linesE fr es).getD i [] = (linesE fr es)[i] := by
        rw [List.getD_eq_getElem?_getD, il]
        rfl
      have flt : (List.range (i + 1)).filter (fun i => !wholeE fr ((linesE fr es).getD i []) && tkF xs gs (textE fr ((linesE fr es).getD i []))) = (List.range i).filter (fun i => !wholeE fr ((linesE fr es).getD i []) && tkF xs gs (textE fr ((linesE fr es).getD i []))) ++ (if (!wholeE fr (linesE fr es)[i] && tkF xs gs (textE fr (linesE fr es)[i])) = true then [i] else []) := by
        rw [List.range_succ, List.filter_append, List.filter_cons, List.filter_nil, eg]
      rw [flt]
      have fl := List.length_filter_le (fun i => !wholeE fr ((linesE fr es).getD i []) && tkF xs gs (textE fr ((linesE fr es).getD i []))) (List.range i)
      rw [List.length_range] at fl
      generalize (List.range i).filter (fun i => !wholeE fr ((linesE fr es).getD i []) && tkF xs gs (textE fr ((linesE fr es).getD i []))) = acc at *
      generalize (linesE fr es)[i] = l at *
      generalize upd H2z T (HO.tup [V.int (i : Nat), V.ref qs[i]]) = H3 at *
      have l6 := lo.len
      refine ⟨T, _, rfl, SqT.of eT, rfl, _, _, rfl, _, _, rfl, rfl, ?_⟩
      refine ⟨_, rfl, p, S.T.C, dx, _, _, rfl, s3 _ _ sh.ob, cl, S.T.n1, l_framing .., _, rfl, f, qs[i], fr, last, l, rfl, sr.fa.same s3, sr.fm, wl, l6, lo.ok, lo.ent, lo.ne, fun H4 s4 => ⟨_, rfl, ?_⟩⟩
      have s04 := s3.trans s4
      cases ew : wholeE fr l with
      | true =>
        refine iteF ?_
        refine ⟨_, _, rfl, s04, ?_⟩
        rw [if_neg (by simp), List.append_nil]
        exact s4 _ _ hl3
      | false =>
        refine iteT ?_
        refine ⟨_, rfl, p, S.T.C, dx, _, _, rfl, s04 _ _ sh.ob, cl, S.T.n3, l_reader .., _, rfl, p, S.T.C, dx, _, _, rfl, s04 _ _ sh.ob, cl, S.T.n1, l_framing .., _, rfl, f, qs[i], fr, last, l, rfl, sr.fa.same s04, sr.fm, wl.same s4, lo.ent, by omega, fun H5 s5 => ?_⟩
        have s05 := s04.trans s5
        refine ⟨.ref r, xs, gs, textE fr l, rfl, (sr.ra.same s05).da, sr.rd, sr.xl, lo.sz, lo.lt, fun H6 s6 => ⟨_, rfl, ?_⟩⟩
        have s06 := s05.trans s6
        have hl6 := s6 _ _ (s5 _ _ (s4 _ _ hl3))
        refine ite2 (fun z => ?_) (fun z => ?_)
        · refine ⟨_, rfl, .inl ⟨rfl, _, SqL.of hl6⟩, _, rfl, D, _, _, rfl, rfl, hl6, ?_, ?_⟩
          · rw [List.length_map, List.length_map, sizeLine_eq]
            omega
          · refine ⟨_, _, rfl, same_set hD s06, ?_⟩
            rw [if_pos (by rw [z]; rfl), List.map_append, List.map_append]
            exact upd_same
        · refine ⟨_, _, rfl, s06, ?_⟩
          rw [if_neg (by simp [z]), List.append_nil]
          exact hl6
    · rintro σ H2 ⟨v2, v3, rfl, s2, hl⟩
      rw [List.length_map, ql] at hl
      refine ⟨_, rfl, D, _, rfl, .inl ⟨SqL.of hl, fun q2 hq2 => ?_⟩⟩
      exact q _ q2 (s2.trans (same_upd hq2)) upd_same
end
end K50

set_option Elab.async false
set_option linter.all false
set_option maxRecDepth 100000
set_option maxHeartbeats 4000000
/-! Shared.copy, __eq__. -/
namespace K50
open PySem L2 L2.EV
def gA {α : Type} (us ws : List α) : List α := us ++ ws
def spCopy (C : Addr) : Sp := fun vs H Q _ => ∃ (p dx f r E R : Addr) (nw : Int) (fr : List T3) (last : Nat) (es : List E2) (xs : List T3) (gs : List Int), vs = [.ref p] ∧ ShA H C p dx f r E R nw fr es ∧ FrA H f fr ∧ Frm fr last ∧ 1 ≤ nw ∧ nw ≤ 8 ∧ RdA H r xs gs ∧ RdD (rdT xs gs) ∧
  ∀ (H' : Hp) (p' dx' E' R' : Addr), Same H H' → ShA H' C p' dx' f r E' R' nw fr es → Q (.ref p') H'
theorem Okd.shaped {d : PyData} {n dp : Nat} (h : Okd d n dp) (hd : dp ≤ 64) : SeqAt.shaped d = true := by
  show (PyData.canLay0 d && decide (PyData.depth d ≤ 64)) = true
  rw [Bool.and_eq_true]
  exact ⟨h.lay, decide_eq_true (Nat.le_trans h.dp hd)⟩
def enD (es : List E2) : PyData := .list (es.map d2)
def frD (fr : List T3) : PyData := .tuple (fr.map d3)
theorem FrA.da {H : Hp} {f : Addr} {fr : List T3} (h : FrA H f fr) : Da H (.ref f) (frD fr) := by
  obtain ⟨ts, e, l, c⟩ := h
  exact .tup e (da_3s ⟨l, c⟩)
theorem da_2s {H : Hp} : ∀ {es : List E2} {ts : List Addr}, At2 H ts es → DaAll H (ts.map V.ref) (es.map d2)
  | [], [], _ => .nil
  | [], _ :: _, h => by cases h.1
  | _ :: _, [], h => by cases h.1
  | x :: xs, t :: ts, h => .cons (.tup (h.2 0 t x rfl rfl) (.cons (.int _) (.cons (.int _) .nil))) (da_2s ⟨by simpa using h.1, fun i t x h1 h2 => h.2 (i + 1) t x (by simpa using h1) (by simpa using h2)⟩)
theorem LvA.da {H : Hp} {E : Addr} {es : List E2} (h : LvA H E es) : Da H (.ref E) (enD es) := by
  obtain ⟨ts, e, l, c⟩ := h
  exact .lst e (da_2s ⟨l, c⟩)
def spEqS (C : Addr) : Sp := fun vs H Q _ => ∃ (a dx f r E R b dy s F S : Addr) (nw : Int) (fr : List T3) (es gs' : List E2) (xs ys : List T3) (gs hs : List Int), vs = [.ref a, .ref b] ∧ ShA H C a dx f r E R nw fr es ∧ ShA H C b dy f s F S nw fr gs' ∧ FrA H f fr ∧ RdA H r xs gs ∧ RdA H s ys hs ∧
  SeqAt.shaped (frD fr) = true ∧ SeqAt.shaped (rdT xs gs) = true ∧ SeqAt.shaped (rdT ys hs) = true ∧ SeqAt.shaped (enD es) = true ∧ SeqAt.shaped (enD gs') = true ∧
  Q (.bl (PyData.eqv (rdT xs gs) (rdT ys hs) && PyData.eqv (enD es) (enD gs'))) H
structure Sc (K : PySem.W.Frag) (mg : Str → Option Value) where
  I : Si K mg
  mkC : Mk K I.T.C I.f
  hb : KBn K I.d ["self", "framing", "writers", "reader"] 3 ["reader"] gA gA
  fC : Addr
  dC : FuncData
  FC : Fun K "copy" "Shared.copy" sCopy fC dC
  bC : Binds K dC ["self"] []
  mC : Meth K I.T.C "copy" fC
  li : mg "list" = none
  isi : mg "isinstance" = none
  fE : Addr
  dE : FuncData
  FE : Fun K "__eq__" "Shared.__eq__" sEqS fE dE
  bE : Binds K dE ["self", "other"] []
  eE : PySem.W.findIn K (.ref I.T.C) "__eq__" = some (some (.ref fE))
  iE : PySem.W.isFn K (.ref fE) = true
  ca : PySem.W.findIn K (.ref I.T.C) "__class__" = some (some (.builtin "object.__class__"))
  cn : PySem.W.specialIn K (.builtin "object.__class__") "__get__" = some (some (.builtin "getset_descriptor.__get__"))
  ct : PySem.W.takesIn K (.builtin "object.__class__") = some true
  om : PySem.W.mroIn K I.T.C (.type "object") = some true
  ko : PySem.W.kitOne K (.ref I.T.C) (.ref I.T.C) = some true
section
variable {P : Program} {w : World} {K : PySem.W.Frag} {mg : Str → Option Value} {base : Heap}
theorem scCopy : FnScope ["self", "twin"] ["self"] (defScope sCopy) := ⟨rfl, rfl, rfl, by decide +kernel, rfl, by decide +kernel, by decide +kernel⟩
theorem ok_copy (S : Sc K mg) : FnOk P w K mg base CX0 6 S.fC S.dC ["self"] (spCopy S.I.T.C) := by
  have GI : FnOk P w K mg base CX0 4 S.I.f S.I.d ["self", "framing", "writers", "reader"] (spInitS S.I.T.C) := ok_initS S.I
  refine S.FC.ok scCopy (fun vs H Q E h => ?_) (fun cdv A outer s H vs Q E hr h => ?_)
  · obtain ⟨p, dx, f, r, E, R, nw, fr, last, es, xs, gs, rfl, _⟩ := h
    rfl
  · obtain ⟨p, dx, f, r, E, R, nw, fr, last, es, xs, gs, rfl, sh, fa, fm, w1, w8, ra, rd, q⟩ := h
    have cl := S.I.T.cl
    refine ⟨_, pss_cons (ps_set (i := 1) scCopy.nd rfl (Or.inl rfl) (pe_makeN S.mkC GI hr (by rfl) S.I.T.m S.hb pass0 (pa_cons (pe_fld (pv 0) rfl) (pa_cons (pe_fld (pv 0) rfl) pa_nil)) (pk_cons (pe_fld (pv 0) rfl) pk_nil)))
      (pss_cons (ps_fld (pv 1) (pe_callTy call_list_of (by rfl) S.li (by decide +kernel) (pa_cons (pe_fld (pv 0) rfl) pa_nil)) rfl)
      (pss_cons (ps_fld (pv 1) (pe_callTy call_list_of (by rfl) S.li (by decide +kernel) (pa_cons (pe_fld (pv 0) rfl) pa_nil)) rfl)
      (pss_one (ps_ret (pv 1))))), ?_⟩
    refine ⟨_, rfl, p, S.I.T.C, dx, _, _, rfl, sh.ob, cl, S.I.T.n1, l_framing .., _, rfl, p, S.I.T.C, dx, _, _, rfl, sh.ob, cl, S.I.T.n2, l_writers .., _, rfl, p, S.I.T.C, dx, _, _, rfl, sh.ob, cl, S.I.T.n3, l_reader .., rfl, rfl, fun x dy nx ndx nex => ?_⟩
    have s0 : Same H (upd (upd H dy (.own x)) x (.ins S.I.T.C dy [])) := fun b o e => by
      rw [upd_ne (ne_of_none e nx), upd_ne (ne_of_none e ndx)]
      exact e
    refine ⟨x, dy, f, r, nw, fr, last, xs, gs, rfl, upd_same, fa.same s0, fm, w1, w8, ra.same s0, rd, fun H1 E1 R1 sh1 nE nR ER k1 => ⟨rfl, ?_⟩⟩
    have s1 : Same H H1 := fun b o e => k1 b o (s0 b o e) (ne_of_none e nx) (ne_of_none e nx)
    obtain ⟨ts, hE, tl, ta⟩ := id sh.en
    obtain ⟨qs, hR, ql, qa⟩ := id sh.ro
    refine gName_go2 ?_
    refine ⟨_, rfl, p, S.I.T.C, dx, _, _, rfl, s1 _ _ sh.ob, cl, S.I.T.n4, l_entries .., E, _, rfl, .inl (SqL.of (s1 _ _ hE)), fun l1 hl1 => ?_⟩
    have xl1 := ne_of_none sh1.ob hl1
    refine ⟨_, rfl, x, S.I.T.C, dy, _, rfl, (by rw [upd_ne xl1]; exact sh1.ob), cl, S.I.T.n4, (by show 6 < 1000; decide), ?_⟩
    rw [flds_ents]
    have e3 := upd_same (H := upd H1 l1 (.lst (ts.map V.ref))) (a := x) (o := .ins S.I.T.C dy (flds f nw r l1 R1))
    have hl3 : upd (upd H1 l1 (.lst (ts.map V.ref))) x (.ins S.I.T.C dy (flds f nw r l1 R1)) l1 = some (.lst (ts.map V.ref)) := by
      rw [upd_ne xl1.symm]
      exact upd_same
    have s3 : Same H (upd (upd H1 l1 (.lst (ts.map V.ref))) x (.ins S.I.T.C dy (flds f nw r l1 R1))) := fun b o e => by
      rw [upd_ne (ne_of_none e nx), upd_ne (ne_of_none (s1 _ _ e) hl1)]
      exact s1 _ _ e
    generalize upd (upd H1 l1 (.lst (ts.map V.ref))) x (.ins S.I.T.C dy (flds f nw r l1 R1)) = H3 at e3 hl3 s3 ⊢
    refine ⟨_, rfl, p, S.I.T.C, dx, _, _, rfl, s3 _ _ sh.ob, cl, S.I.T.n5, l_rows .., R, _, rfl, .inl (SqL.of (s3 _ _ hR)), fun l2 hl2 => ?_⟩
    have xl2 := ne_of_none e3 hl2
    have l12 := ne_of_none hl3 hl2
    refine ⟨_, rfl, x, S.I.T.C, dy, _, rfl, (by rw [upd_ne xl2]; exact e3), cl, S.I.T.n5, (by show 6 < 1000; decide), _, rfl, ?_⟩
    rw [flds_rows]
    have s5 : Same H (upd (upd H3 l2 (.lst (qs.map V.ref))) x (.ins S.I.T.C dy (flds f nw r l1 l2))) := fun b o e => by
      rw [upd_ne (ne_of_none e nx), upd_ne (ne_of_none (s3 _ _ e) hl2)]
      exact s3 _ _ e
    refine q _ x dy l1 l2 s5 ⟨upd_same, ⟨ts, ?_, tl, fun i t e a b => s5 _ _ (ta i t e a b)⟩, ⟨qs, ?_, ql, fun i a l h1 h2 => (qa i a l h1 h2).same s5⟩⟩
    · rw [upd_ne xl1.symm, upd_ne l12]
      exact hl3
    · rw [upd_ne xl2.symm]
      exact upd_same
theorem scEqS : FnScope ["self", "other"] ["self", "other"] (defScope sEqS) := ⟨rfl, rfl, rfl, by decide +kernel, rfl, by decide +kernel, by decide +kernel⟩
theorem ok_eqS (S : Sc K mg) : FnOk P w K mg base CX0 2 S.fE S.dE ["self", "other"] (spEqS S.I.T.C) := by
  refine S.FE.ok scEqS (fun vs H Q E h => ?_) (fun cdv A outer s H vs Q E hr h => ?_)
  · obtain ⟨a, dx, f, r, E, R, b, dy, s, F, Z, nw, fr, es, es', xs, ys, gs, hs, rfl, _⟩ := h
    rfl
  · obtain ⟨a, dx, f, r, E, R, b, dy, s, F, Z, nw, fr, es, es', xs, ys, gs, hs, rfl, sh, sh', fa, ra, rb, z1, z2, z3, z4, z5, q⟩ := h
    have cl := S.I.T.cl
    have hu2 := hr.units
    refine ⟨_, pss_one (ps_ret (pe_and (pe_callB call_isi (by rfl) S.isi PyProof.Rows.boot_isinstance (pa_cons (pv 1) (pa_cons (pe_glob (v := .ref S.I.T.C) (by rfl) S.I.T.m rfl) pa_nil)))
      (pe_and (pe_cmpR (op_eqD hu2) (pe_fld (pv 0) rfl) (pe_fld (pv 1) rfl) (nomark _))
      (pe_and (pe_cmpR op_eq (pe_fld (pv 0) rfl) (pe_fld (pv 1) rfl) (nomark _))
      (pe_and (pe_cmpR (op_eqD hu2) (pe_fld (pv 0) rfl) (pe_fld (pv 1) rfl) (nomark _))
      (pe_one (pe_cmpR (op_eqD hu2) (pe_fld (pv 0) rfl) (pe_fld (pv 1) rfl) (nomark _)))))))), ?_⟩
    refine ⟨_, rfl, .ref b, .ref S.I.T.C, .ref S.I.T.C, .ref S.I.T.C, true, rfl, .own _, .base (.ins sh'.ob cl S.ca S.cn S.ct S.om), S.ko, true, rfl, iteT ?_⟩
    have rf : PyData.eqv (frD fr) (frD fr) = true := SeqAt.eqv_refl _ (by
      have z : (PyData.canLay0 (frD fr) && decide (PyData.depth (frD fr) ≤ 64)) = true := z1
      rw [Bool.and_eq_true] at z
      exact z.1)
    refine ⟨_, rfl, a, S.I.T.C, dx, _, _, rfl, sh.ob, cl, S.I.T.n1, l_framing .., _, rfl, b, S.I.T.C, dy, _, _, rfl, sh'.ob, cl, S.I.T.n1, l_framing .., frD fr, frD fr, Da.dp _ _ fa.da, Da.dp _ _ fa.da, z1, z1, _, rfl, iteT' rf ?_⟩
    refine ⟨_, rfl, a, S.I.T.C, dx, _, _, rfl, sh.ob, cl, S.I.T.n2, l_writers .., _, rfl, b, S.I.T.C, dy, _, _, rfl, sh'.ob, cl, S.I.T.n2, l_writers .., rfl, _, rfl, iteT' (by simp) ?_⟩
    refine ⟨_, rfl, a, S.I.T.C, dx, _, _, rfl, sh.ob, cl, S.I.T.n3, l_reader .., _, rfl, b, S.I.T.C, dy, _, _, rfl, sh'.ob, cl, S.I.T.n3, l_reader .., rdT xs gs, rdT ys hs, Da.dp _ _ ra.da, Da.dp _ _ rb.da, z2, z3, _, rfl, ?_⟩
    cases e1 : PyData.eqv (rdT xs gs) (rdT ys hs) with
    | false =>
      rw [e1] at q
      exact iteF q
    | true =>
      rw [e1] at q
      refine iteT ?_
      exact ⟨_, rfl, a, S.I.T.C, dx, _, _, rfl, sh.ob, cl, S.I.T.n4, l_entries .., _, rfl, b, S.I.T.C, dy, _, _, rfl, sh'.ob, cl, S.I.T.n4, l_entries .., enD es, enD es', Da.dp _ _ sh.en.da, Da.dp _ _ sh'.en.da, z4, z5, q⟩
end
end K50

set_option Elab.async false
set_option linter.all false
set_option maxRecDepth 100000
set_option maxHeartbeats 4000000
/-! A drawn reader: _law_reader. -/
namespace K50
open PySem L2 L2.EV
abbrev sRdr : Stmt := top 65
/-- the rules found so far -/
structure FR (H H' : Hp) (m c l F : Addr) (kb : Int) (xs : List T3) : Prop where
  ex : ∃ (ts : List Addr) (l' : Addr) (k' : Int), H' F = some (.lst (ts.map V.ref)) ∧ At3 H' ts xs ∧ F ≠ l' ∧ F ≠ m ∧ F ≠ c ∧ k' ≤ kb ∧ Dr H H' m c l l' k'
  hF : ∀ b o, H b = some o → b ≠ m → b ≠ l → b ≠ F
theorem FR.push {H H1 H2 H3 : Hp} {m c l F l1 l2 t : Addr} {k1 k2 kb : Int} {xs : List T3} {ts : List Addr} {x : T3} (hF : H1 F = some (.lst (ts.map V.ref))) (ha : At3 H1 ts xs) (n1 : F ≠ l1) (n2 : F ≠ m) (n3 : F ≠ c) (d1 : Dr H H1 m c l l1 k1)
    (d2 : Dr H1 H2 m c l1 l2 k2) (ht : H2 t = none) (e3 : H3 = upd (upd H2 t (.tup [.int x.1, .str x.2.1, .int x.2.2])) F (.lst (ts.map V.ref ++ [.ref t]))) (hk : k2 ≤ kb)
    (hF0 : ∀ b o, H b = some o → b ≠ m → b ≠ l → b ≠ F) : FR H H3 m c l F kb (xs ++ [x]) := by
  obtain ⟨hF2, n4⟩ := d2.lst d1.at_ hF n1
  have u := same_upd (o := HO.tup [.int x.1, .str x.2.1, .int x.2.2]) ht
  have hF2' := u _ _ hF2
  have kt := keepT_upd (o := .lst (ts.map V.ref ++ [.ref t])) hF2' (fun xs z => by cases z)
  have D2 := (d1.trans d2).same u
  subst e3
  refine ⟨⟨ts ++ [t], l2, k2, by rw [List.map_append]; exact upd_same, ?_, n4, n2, n3, hk, ⟨D2.at_.upd n2 n3 n4, D2.hl, fun b o z h1 h2 => ?_⟩⟩, hF0⟩
  · refine At3.snoc (ha.same ?_) (kt _ _ upd_same)
    exact ((d2.keepT d1.at_).trans (Same.keepT u)).trans kt
  · rw [upd_ne (hF0 b o z h1 h2)]
    exact D2.kp b o z h1 h2
/-- a draw only -/
theorem FR.draw {H H1 H2 : Hp} {m c l F l1 l2 : Addr} {k1 k2 kb : Int} {xs : List T3} {ts : List Addr} (hF : H1 F = some (.lst (ts.map V.ref))) (ha : At3 H1 ts xs) (n1 : F ≠ l1) (n2 : F ≠ m) (n3 : F ≠ c) (d1 : Dr H H1 m c l l1 k1)
    (d2 : Dr H1 H2 m c l1 l2 k2) (hk : k2 ≤ kb) (hF0 : ∀ b o, H b = some o → b ≠ m → b ≠ l → b ≠ F) : FR H H2 m c l F kb xs := by
  obtain ⟨hF2, n4⟩ := d2.lst d1.at_ hF n1
  exact ⟨⟨ts, l2, k2, hF2, ha.same (d2.keepT d1.at_), n4, n2, n3, hk, d1.trans d2⟩, hF0⟩
def sgn : Nat → Str
  | 0 => ⟨#[97]⟩
  | 1 => ⟨#[98]⟩
  | 2 => ⟨#[64]⟩
  | 3 => ⟨#[99]⟩
  | 4 => ⟨#[120]⟩
  | _ => ⟨#[48]⟩
theorem sgn_at {j c : Nat} (h : ("ab@cx0" : Str).cps.toList[j]? = some c) : j < 6 ∧ (⟨#[c]⟩ : Str) = sgn j := by
  have e : ("ab@cx0" : Str).cps.toList = [97, 98, 64, 99, 120, 48] := by decide +kernel
  rw [e] at h
  match j, h with
  | 0, h => cases h; exact ⟨by decide, rfl⟩
  | 1, h => cases h; exact ⟨by decide, rfl⟩
  | 2, h => cases h; exact ⟨by decide, rfl⟩
  | 3, h => cases h; exact ⟨by decide, rfl⟩
  | 4, h => cases h; exact ⟨by decide, rfl⟩
  | 5, h => cases h; exact ⟨by decide, rfl⟩
theorem sgn_ok {r : Nat} (h : r < 6) : signD (sgn r) = true ∧ (sgn r).length = 1 ∧ PyData.strOk (sgn r) = true ∧ ¬ sgn r = "q" := by
  match r, h with
  | 0, _ => exact ⟨by decide +kernel, rfl, by decide +kernel, by decide +kernel⟩
  | 1, _ => exact ⟨by decide +kernel, rfl, by decide +kernel, by decide +kernel⟩
  | 2, _ => exact ⟨by decide +kernel, rfl, by decide +kernel, by decide +kernel⟩
  | 3, _ => exact ⟨by decide +kernel, rfl, by decide +kernel, by decide +kernel⟩
  | 4, _ => exact ⟨by decide +kernel, rfl, by decide +kernel, by decide +kernel⟩
  | 5, _ => exact ⟨by decide +kernel, rfl, by decide +kernel, by decide +kernel⟩
theorem sgn_inj {r j : Nat} (h : r < 6) (hj : j < 6) (e : sgn r = sgn j) : r = j := by
  have z : ∀ r j : Fin 6, sgn r.val = sgn j.val → r.val = j.val := by decide +kernel
  exact z ⟨r, h⟩ ⟨j, hj⟩ e
def key (x : T3) : IS := (x.1, x.2.1)
/-- what a drawn rule is -/
def Rul (x : T3) : Prop := 0 ≤ x.2.2 ∧ x.2.2 < 5 ∧ ∃ q r : Nat, x.1 = (q : Int) ∧ q < 5 ∧ r < 6 ∧ x.2.1 = sgn r
/-- rules of states before i, and of i with signs before j -/
structure KP (xs : List T3) (i j : Nat) : Prop where
  at_ : ∀ x ∈ xs, 0 ≤ x.2.2 ∧ x.2.2 < 5 ∧ ∃ q r : Nat, x.1 = (q : Int) ∧ q < 5 ∧ r < 6 ∧ x.2.1 = sgn r ∧ (q < i ∨ (q = i ∧ r < j))
  dst : xs.Pairwise fun a b => key a ≠ key b
  len : xs.length ≤ 6 * i + j
theorem KP.nil : KP [] 0 0 := ⟨(fun x h => by cases h), List.Pairwise.nil, by simp⟩
theorem KP.next {xs : List T3} {i j : Nat} (h : KP xs i j) : KP xs i (j + 1) := ⟨fun x hx => by
  obtain ⟨h1, h2, q, r, e1, e2, e3, e4, e5⟩ := h.at_ x hx
  exact ⟨h1, h2, q, r, e1, e2, e3, e4, by omega⟩, h.dst, by have := h.len; omega⟩
theorem KP.row {xs : List T3} {i : Nat} (h : KP xs i 6) : KP xs (i + 1) 0 := ⟨fun x hx => by
  obtain ⟨h1, h2, q, r, e1, e2, e3, e4, e5⟩ := h.at_ x hx
  exact ⟨h1, h2, q, r, e1, e2, e3, e4, by omega⟩, h.dst, by have := h.len; omega⟩
theorem KP.push {xs : List T3} {i j : Nat} {t : Int} (h : KP xs i j) (hi : i < 5) (hj : j < 6) (h0 : 0 ≤ t) (h1 : t < 5) : KP (xs ++ [((i : Int), sgn j, t)]) i (j + 1) := by
  refine ⟨fun x hx => ?_, ?_, by have := h.len; rw [List.length_append]; simp only [List.length_cons, List.length_nil]; omega⟩
  · rcases List.mem_append.mp hx with hx | hx
    · exact h.next.at_ x hx
    · obtain rfl := List.mem_singleton.mp hx
      exact ⟨h0, h1, i, j, rfl, hi, hj, rfl, by omega⟩
  · rw [List.pairwise_append]
    refine ⟨h.dst, List.pairwise_singleton _ _, fun a ha b hb => ?_⟩
    obtain rfl := List.mem_singleton.mp hb
    obtain ⟨_, _, q, r, e1, e2, e3, e4, e5⟩ := h.at_ a ha
    intro z
    have z1 : a.1 = (i : Int) := congrArg Prod.fst z
    have z2 : a.2.1 = sgn j := congrArg Prod.snd z
    rw [e4] at z2
    have z3 := sgn_inj e3 hj z2
    omega
theorem badR_ok : ∀ {xs : List T3} {last : Option IS} {k : Nat}, (∀ x ∈ xs, ruleD (d3 x) = some x) → xs.Pairwise (fun a b => ltIS (key a) (key b) = true) → (∀ p, last = some p → ∀ x ∈ xs, ltIS p (key x) = true) → badR (xs.map d3) last k = none
  | [], _, _, _, _, _ => rfl
  | x :: xs, last, k, h1, h2, h3 => by
    rw [List.map_cons, badR_some (h1 x (List.mem_cons_self ..))]
    obtain ⟨h4, h5⟩ := List.pairwise_cons.mp h2
    have z : lbR last x = false := by
      cases last with
      | none => rfl
      | some p =>
        have := h3 p rfl x (List.mem_cons_self ..)
        show (!ltIS p (x.1, x.2.1)) = false
        rw [show ((x.1, x.2.1) : IS) = key x from rfl, this]
        rfl
    rw [z, if_neg (by simp)]
    exact badR_ok (fun y hy => h1 y (List.mem_cons_of_mem _ hy)) h5 fun p hp y hy => by
      cases hp
      exact h4 y hy
theorem badG_ok : ∀ {gs : List Int} {last : Option Int} {k : Nat}, (∀ x ∈ gs, 0 ≤ x ∧ x < 200) → gs.Pairwise (· < ·) → (∀ p, last = some p → ∀ x ∈ gs, p < x) → badG (gs.map PyData.int) last k = none
  | [], _, _, _, _, _ => rfl
  | x :: xs, last, k, h1, h2, h3 => by
    have hx : numD 200 (.int x) = some x := if_pos (h1 x (List.mem_cons_self ..))
    rw [List.map_cons, badG_some hx]
    obtain ⟨h4, h5⟩ := List.pairwise_cons.mp h2
    have z : lbG last x = false := by
      cases last with
      | none => rfl
      | some p =>
        have := h3 p rfl x (List.mem_cons_self ..)
        exact decide_eq_false (by omega)
    rw [z, if_neg (by simp)]
    exact badG_ok (fun y hy => h1 y (List.mem_cons_of_mem _ hy)) h5 fun p hp y hy => by
      cases hp
      exact h4 y hy
/-- a drawn reader -/
structure Rok (xs : List T3) (gs : List Int) : Prop where
  rul : ∀ x ∈ xs, Rul x
  srt : xs.Pairwise fun a b => ltIS (key a) (key b) = true
  len : xs.length ≤ 30
  gd : ∀ g ∈ gs, 0 ≤ g ∧ g < 5
  asc : gs.Pairwise (· < ·)
  gl : gs.length ≤ 5
theorem rule_d3 {x : T3} (h : Rul x) : ruleD (d3 x) = some x := by
  obtain ⟨h1, h2, q, r, e1, e2, e3, e4⟩ := h
  show (match numD 200 (.int x.1), numD 200 (.int x.2.2) with
    | some i, some j => if signD x.2.1 = true then some (i, x.2.1, j) else none
    | _, _ => none) = some x
  have a1 : numD 200 (.int x.1) = some x.1 := if_pos ⟨by omega, by omega⟩
  have a2 : numD 200 (.int x.2.2) = some x.2.2 := if_pos ⟨by omega, by omega⟩
  rw [a1, a2, e4]
  show (if signD (sgn r) = true then some (x.1, sgn r, x.2.2) else none) = some x
  rw [if_pos (sgn_ok e3).1, ← e4]
theorem Rok.rd {xs : List T3} {gs : List Int} (h : Rok xs gs) : RdD (rdT xs gs) := by
  refine ⟨?_, ?_⟩
  · show (match badR (xs.map d3) none 0 with
      | some k => some ((("rules" : Str), some k))
      | none => match badG (gs.map PyData.int) none 0 with
        | some k => some ((("good" : Str), some k))
        | none => none) = none
    rw [badR_ok (fun x hx => rule_d3 (h.rul x hx)) h.srt (fun p h => by cases h), badG_ok (fun x hx => ⟨(h.gd x hx).1, by have := (h.gd x hx).2; omega⟩) h.asc (fun p h => by cases h)]
  · intro rs g e r hr a x b er
    cases e
    obtain ⟨y, hy, rfl⟩ := List.mem_map.mp hr
    cases er
    obtain ⟨_, _, q, r, _, _, e3, e4⟩ := h.rul y hy
    rw [e4, (sgn_ok e3).2.1]
    decide
theorem sl_tot {x y : Str} (h : ¬ sl y < sl x) (n : x ≠ y) : sl x < sl y := by
  refine Classical.byContradiction fun c => n ?_
  have e : sl x = sl y := List.le_antisymm (List.not_lt.mp h) (List.not_lt.mp c)
  obtain ⟨⟨a⟩⟩ := x
  obtain ⟨⟨b⟩⟩ := y
  have e : a = b := e
  rw [e]
theorem lt3_key {x y : T3} (h : lt3 y x = false) (n : key x ≠ key y) : ltIS (key x) (key y) = true := by
  have a := lt3_no.mp h
  show (if x.1 = y.1 then decide (sl x.2.1 < sl y.2.1) else decide (x.1 < y.1)) = true
  by_cases e : x.1 = y.1
  · rw [if_pos e]
    refine decide_eq_true ?_
    have n2 : x.2.1 ≠ y.2.1 := fun z => n (by show (x.1, x.2.1) = (y.1, y.2.1); rw [e, z])
    refine Classical.byContradiction fun c => a (.inr ⟨e.symm, .inl ?_⟩)
    exact sl_tot c n2.symm
  · rw [if_neg e]
    exact decide_eq_true (by
      have : ¬ y.1 < x.1 := fun z => a (.inl z)
      omega)
theorem rok_of {H : Hp} {ts : List Addr} {xs : List T3} {vs : List V} (h : At3 H ts xs) (sr : SrtO.Srtd (fun x y => lt3 (stepAt H x) (stepAt H y)) vs) (pm : vs.Perm (ts.map V.ref)) (kp : KP xs 5 0) :
    (∀ x ∈ vs.map (stepAt H), Rul x) ∧ (vs.map (stepAt H)).Pairwise (fun a b => ltIS (key a) (key b) = true) ∧ (vs.map (stepAt H)).length ≤ 30 ∧ ∃ us : List Addr, vs = us.map V.ref ∧ At3 H us (vs.map (stepAt H)) := by
  have pm2 : (vs.map (stepAt H)).Perm xs := by
    have z := pm.map (stepAt H)
    rw [map_stepAt h] at z
    exact z
  have nd : (vs.map (stepAt H)).Pairwise fun a b => key a ≠ key b := (pm2.pairwise_iff (fun {a b} n z => n z.symm)).mpr kp.dst
  refine ⟨fun x hx => ?_, ?_, by rw [pm2.length_eq]; have := kp.len; omega, ?_⟩
  · obtain ⟨h1, h2, q, r, e1, e2, e3, e4, _⟩ := kp.at_ x (pm2.mem_iff.mp hx)
    exact ⟨h1, h2, q, r, e1, e2, e3, e4⟩
  · have s2 : (vs.map (stepAt H)).Pairwise fun x y => lt3 y x = false := List.pairwise_map.mpr sr
    exact (s2.and nd).imp fun {x y} z => lt3_key z.1 z.2
  · have rf : ∀ v ∈ vs, ∃ t x, v = V.ref t ∧ S3 H t x := fun v hv => by
      obtain ⟨t, ht, rfl⟩ := List.mem_map.mp (pm.mem_iff.mp hv)
      obtain ⟨i, hi, e⟩ := List.getElem_of_mem ht
      have hx : i < xs.length := by rw [← h.1]; exact hi
      exact ⟨t, xs[i], rfl, h.2 i t _ (by rw [List.getElem?_eq_getElem hi, e]) (List.getElem?_eq_getElem hx)⟩
    have go : ∀ ws : List V, (∀ v ∈ ws, ∃ t x, v = V.ref t ∧ S3 H t x) → ∃ us : List Addr, ws = us.map V.ref ∧ At3 H us (ws.map (stepAt H)) := by
      intro ws
      induction ws with
      | nil => exact fun _ => ⟨[], rfl, rfl, fun i t x h => by cases h⟩
      | cons v ws ih =>
        intro hw
        obtain ⟨t, x, rfl, hx⟩ := hw v (List.mem_cons_self ..)
        obtain ⟨us, e1, e2⟩ := ih fun v hv => hw v (List.mem_cons_of_mem _ hv)
        refine ⟨t :: us, by rw [e1]; rfl, by rw [List.length_cons, e2.1]; rfl, fun i u y h1 h2 => ?_⟩
        cases i with
        | zero =>
          have e3 : t = u := Option.some.inj h1
          have e4 : stepAt H (.ref t) = y := Option.some.inj h2
          rw [← e3, ← e4, stepAt_of hx]
          exact hx
        | succ i => exact e2.2 i u y (by simpa using h1) (by simpa using h2)
    exact go vs rf
structure Lr (K : PySem.W.Frag) (mg : Str → Option Value) where
  L : Ls K mg
  f : Addr
  d : FuncData
  F : Fun K "_law_reader" "_law_reader" sRdr f d
  b : Binds K d ["m"] []
  m : mg "_law_reader" = some (.ref f)
  so : mg "sorted" = none
  tu : mg "tuple" = none
def spRdr : Sp := fun vs H Q _ => ∃ (m c l : Addr) (k : Int), vs = [.ref m] ∧ MAt H m c l k ∧ k < 800000 ∧
  ∀ (r : Addr) (xs : List T3) (gs : List Int) (H' : Hp) (l' : Addr) (k' : Int), RdA H' r xs gs → Rok xs gs → k' ≤ k + 100 → Dr H H' m c l l' k' → Q (.ref r) H'
abbrev NR : List Str := ["m", "rules", "state", "sign"]
section
variable {P : Program} {w : World} {K : PySem.W.Frag} {mg : Str → Option Value} {base : Heap}
theorem scRdr : FnScope NR ["m"] (defScope sRdr) := ⟨rfl, rfl, rfl, by decide +kernel, rfl, by decide +kernel, by decide +kernel⟩
theorem ok_rdr (L : Lr K mg) : FnOk P w K mg base CX0 2 L.f L.d ["m"] spRdr := by
  have GX : FnOk P w K mg base CX0 1 L.L.f1 L.L.d1 ["m", "total"] spNext := ok_next L.L.N L.L.T
  refine L.F.ok scRdr (fun vs H Q E h => ?_) (fun cdv A outer s H vs Q E hr h => ?_)
  · obtain ⟨m, c, l, k, rfl, _⟩ := h
    rfl
  · obtain ⟨m, c, l, k, rfl, M, hk, q⟩ := h
    refine ⟨_, pss_cons (ps_set (i := 1) scRdr.nd rfl (Or.inl rfl) (pe_lst pa_nil))
      (pss_cons (ps_for PassesOwn.never rfl (pi_range1 (by rfl) L.L.ra (pa_cons pe_int pa_nil)) (pg_name (i := 2) scRdr.nd rfl (Or.inl rfl))
        (pss_one (ps_for PassesOwn.never rfl (pi_str pe_str) (pg_name (i := 3) scRdr.nd rfl (Or.inl rfl))
          (pss_one (ps_if (pt_cmpR op_eq (pe_call GX hr (by rfl) L.L.mN L.L.N.kp L.L.bN .nil pass0 (pa_cons (pv 0) (pa_cons pe_int pa_nil))) pe_int (nomark _))
            (pss_one (ps_expr (pe_bm PySem.F.plainAttrs_list PySem.F.slot_list_append PySem.F.type_list_append mt_append (pv 1) (pa_cons (pe_tup (pa_cons (pv 2) (pa_cons (pv 3) (pa_cons (pe_call GX hr (by rfl) L.L.mN L.L.N.kp L.L.bN .nil pass0 (pa_cons (pv 0) (pa_cons pe_int pa_nil))) pa_nil)))) pa_nil)))) pss_nil)))))
      (pss_one (ps_ret (pe_tup (pa_cons (pe_callTy call_tuple_of (by rfl) L.tu (by decide +kernel) (pa_cons (pe_callB cr_sorted3 (by rfl) L.so (by decide +kernel) (pa_cons (pv 1) pa_nil)) pa_nil))
        (pa_cons (pe_callTy call_tuple_of (by rfl) L.tu (by decide +kernel) (pa_cons (pe_lc (own := [("state", 2)]) (g := gName 2) rfl scRdr.nd (pi_range1 (by rfl) L.L.ra (pa_cons pe_int pa_nil))
          (blkOk_by (N := NR) (sc := defScope sRdr) (by decide +kernel))
          (fun _ _ _ _ _ => pg_name (i := 2) scRdr.nd rfl (Or.inl rfl)) (fun _ _ _ _ _ => pts_one (pt_cmpR op_eq (pe_call GX hr (by rfl) L.L.mN L.L.N.kp L.L.bN .nil pass0 (pa_cons (pv 0) (pa_cons pe_int pa_nil))) pe_int (by rfl))) (fun _ _ _ _ _ => pv 2)) pa_nil)) pa_nil)))))), ?_⟩
    refine ⟨by decide, fun F hF => ?_⟩
    have u1 := same_upd (o := HO.lst []) hF
    have D0 := (Dr.refl M).same u1
    have fr0 : FR H _ m c l F k [] := ⟨⟨[], l, k, upd_same, ⟨rfl, fun i t x h => by cases h⟩, M.l_some hF, (ne_of_none M.hm hF).symm, M.c_some hF, Int.le_refl _, D0⟩, fun b o z h1 h2 => ne_of_none z hF⟩
    refine ⟨5, rfl, by decide, by decide, for_it walk_range (fun i σ H' => ∃ (v2 v3 : Option V) (xs : List T3), σ = [some (.ref m), some (.ref F), v2, v3] ∧
      FR H H' m c l F (k + 12 * i) xs ∧ KP xs i 0)
      ⟨none, none, [], rfl, by simpa using fr0, KP.nil⟩ (fun _ _ _ _ _ => trivial) ?_ ?_⟩
    · rintro i x σ H2 H3 hi ⟨v2, v3, xs, rfl, fr, kp⟩ ⟨rfl, rfl⟩
      have hin : i < 5 := hi
      refine ⟨_, rfl, for_it walk_str (fun j σ H' => ∃ (v3 : Option V) (xs : List T3), σ = [some (.ref m), some (.ref F), some (.int (0 + (i : Int))), v3] ∧ FR H H' m c l F (k + 12 * i + 2 * j) xs ∧ KP xs i j)
        ⟨v3, xs, rfl, by simpa using fr, kp⟩ (fun _ _ _ _ _ => trivial) ?_ ?_⟩
      · rintro j x σ H4 H5 hj ⟨v3, xs, rfl, fr, kp⟩ ⟨rfl, ch, hc, rfl⟩
        obtain ⟨j3, es⟩ := sgn_at (j := j) (by simpa using hc)
        rw [es]
        obtain ⟨ts, l4, k4, hF4, ha4, n4, nm, nc, kk4, D4⟩ := fr.ex
        refine ⟨_, rfl, m, c, l4, k4, 2, rfl, D4.at_, by decide, by decide, by omega, fun r5 H6 l6 k6 a6 b6 g6 N6 f6 q6 => ?_⟩
        have d6 : Dr _ H6 m c l4 l6 k6 := ⟨N6, f6, q6⟩
        obtain ⟨hF6, n6⟩ := d6.lst D4.at_ hF4 n4
        refine ⟨rfl, _, rfl, ?_⟩
        refine ite2 (fun z => ?_) (fun z => ?_)
        · refine ⟨_, rfl, .inl ⟨rfl, _, SqL.of hF6⟩, _, rfl, _, rfl, _, rfl, m, c, l6, k6, 5, rfl, N6, by decide, by decide, by omega, fun r7 H8 l8 k8 a8 b8 g8 N8 f8 q8 => ?_⟩
          have d8 : Dr H6 H8 m c l6 l8 k8 := ⟨N8, f8, q8⟩
          obtain ⟨hF8, n8⟩ := d8.lst N6 hF6 n6
          refine ⟨(by show 3 ≤ sizeLine; decide), fun tp htp => ?_⟩
          refine ⟨F, ts.map V.ref, _, rfl, rfl, same_upd htp _ _ hF8, by rw [List.length_map, ha4.1, sizeLine_eq]; have := kp.len; omega, ?_⟩
          have fr' := FR.push (x := (0 + (i : Int), sgn j, r7)) hF4 ha4 n4 nm nc D4 (d6.trans d8) htp rfl (kb := k + 12 * i + 2 * ((j + 1 : Nat) : Int)) (by omega) fr.hF
          have kp' : KP (xs ++ [(0 + (i : Int), sgn j, r7)]) i (j + 1) := by
            rw [Int.zero_add]
            exact kp.push hin j3 a8 b8
          exact ⟨_, _, rfl, fr', kp'⟩
        · exact ⟨_, _, rfl, FR.draw hF4 ha4 n4 nm nc D4 d6 (by omega) fr.hF, kp.next⟩
      · rintro σ H4 ⟨v3, xs, rfl, fr, kp⟩
        have e3 : ("ab@cx0" : Str).cps.size = 6 := by decide +kernel
        rw [e3] at kp fr
        obtain ⟨ts, l4, k4, hF4, ha4, n4, nm, nc, kk4, D4⟩ := fr.ex
        refine ⟨_, _, xs, rfl, ⟨⟨ts, l4, k4, hF4, ha4, n4, nm, nc, ?_, D4⟩, fr.hF⟩, KP.row kp⟩
        omega
    · rintro σ H2 ⟨v2, v3, xs, rfl, fr, kp⟩
      have kp : KP xs 5 0 := kp
      have fr : FR H H2 m c l F (k + 12 * 5) xs := fr
      obtain ⟨ts, l4, k4, hF4, ha4, n4, nm, nc, kk4, D4⟩ := fr.ex
      refine ⟨_, rfl, F, _, stepAt H2, rfl, SqL.of hF4, fun x hx => ?_, fun ys ps sr pm hps => ?_⟩
      · obtain ⟨t, ht, rfl⟩ := List.mem_map.mp hx
        obtain ⟨j, hj, e⟩ := List.getElem_of_mem ht
        have hx2 : j < xs.length := by rw [← ha4.1]; exact hj
        have s3 := ha4.2 j t _ (by rw [List.getElem?_eq_getElem hj, e]) (List.getElem?_eq_getElem hx2)
        refine ⟨t, rfl, ?_⟩
        rw [stepAt_of s3]
        exact s3
      obtain ⟨rul, srt, len, us, eu, hu⟩ := rok_of ha4 sr pm kp
      generalize ys.map (stepAt H2) = zs at rul srt len hu
      subst eu
      have u0 := same_upd (o := HO.lst (us.map V.ref)) hps
      refine ⟨ps, _, rfl, .inl ⟨SqL.of upd_same, fun t1 ht1 => ?_⟩⟩
      have u1 := same_upd (o := HO.tup (us.map V.ref)) ht1
      have D5 := D4.same (u0.trans u1)
      have ht1' := upd_same (H := upd H2 ps (.lst (us.map V.ref))) (a := t1) (o := HO.tup (us.map V.ref))
      have ha5 := hu.same (Same.keepT (u0.trans u1))
      generalize upd (upd H2 ps (.lst (us.map V.ref))) t1 (HO.tup (us.map V.ref)) = Ha at D5 ht1' ha5 ⊢
      refine ⟨5, rfl, by decide, by decide, fun D hD => ?_⟩
      refine lc_it walk_range (fun i H' => ∃ (gs : List Int) (l' : Addr) (k' : Int), H' D = some (.lst (gs.map V.int)) ∧ D ≠ l' ∧ gs.length ≤ i ∧ (∀ g ∈ gs, 0 ≤ g ∧ g < 5 ∧ g < i) ∧ gs.Pairwise (· < ·) ∧ k' ≤ k4 + i ∧ Dr Ha H' m c l4 l' k')
        ⟨[], l4, k4, upd_same, D5.at_.l_some hD, by simp, (fun g h => by cases h), List.Pairwise.nil, by simp, (Dr.refl D5.at_).same (same_upd hD)⟩ (fun _ _ _ _ => trivial) ?_ ?_
      · rintro i x H6 H7 hi ⟨gs, l6, k6, hD6, n6, lg, hg, sg, kk6, D6⟩ ⟨rfl, rfl⟩
        have hin : i < 5 := hi
        refine ⟨rfl, _, rfl, m, c, l6, k6, 2, rfl, D6.at_, by decide, by decide, by omega, fun r8 H8 l8 k8 a8 b8 g8 N8 f8 q8 => ?_⟩
        have d8 : Dr H7 H8 m c l6 l8 k8 := ⟨N8, f8, q8⟩
        obtain ⟨hD8, n8⟩ := d8.lst D6.at_ hD6 n6
        have D8 := D6.trans d8
        refine ⟨rfl, _, rfl, ?_⟩
        refine ite2 (fun z => ?_) (fun z => ?_)
        · refine ⟨_, rfl, _, hD8, by rw [List.length_map, sizeLine_eq]; omega, ?_⟩
          refine ⟨gs ++ [(i : Int)], l8, k8, ?_, n8, by rw [List.length_append]; simp only [List.length_cons, List.length_nil]; omega, fun g hg' => ?_, ?_, by omega, ?_⟩
          · rw [List.map_append]
            show upd H8 D (.lst (gs.map V.int ++ [V.int (0 + (i : Int))])) D = some (.lst (gs.map V.int ++ [V.int (i : Int)]))
            rw [Int.zero_add]
            exact upd_same
          · rcases List.mem_append.mp hg' with h | h
            · obtain ⟨h1, h2, h3⟩ := hg g h
              exact ⟨h1, h2, by omega⟩
            · obtain rfl := List.mem_singleton.mp h
              exact ⟨by omega, by omega, by omega⟩
          · rw [List.pairwise_append]
            refine ⟨sg, List.pairwise_singleton _ _, fun a ha b hb => ?_⟩
            obtain rfl := List.mem_singleton.mp hb
            exact (hg a ha).2.2
          · exact ⟨D8.at_.upd (ne_of_none D5.at_.hm hD).symm (D5.at_.c_some hD) n8, D8.hl, fun b o e h1 h2 => by
              rw [upd_ne (ne_of_none e hD)]
              exact D8.kp b o e h1 h2⟩
        · exact ⟨gs, l8, k8, hD8, n8, by omega, fun g h => ⟨(hg g h).1, (hg g h).2.1, by have := (hg g h).2.2; omega⟩, sg, by omega, D8⟩
      · rintro H6 ⟨gs, l6, k6, hD6, n6, lg, hg, sg, kk6, D6⟩
        have lg : gs.length ≤ 5 := lg
        refine ⟨D, _, rfl, .inl ⟨SqL.of hD6, fun t2 ht2 => ?_⟩⟩
        have u2 := same_upd (o := HO.tup (gs.map V.int)) ht2
        have D7 := D6.same u2
        refine ⟨(by show 2 ≤ sizeLine; decide), fun t3 ht3 => ?_⟩
        have u3 := same_upd (o := HO.tup [V.ref t1, V.ref t2]) ht3
        have D8 := D7.same u3
        have e1 := D8.tup D5.at_ ht1'
        have e2 := u3 _ _ (upd_same (H := H6) (a := t2) (o := HO.tup (gs.map V.int)))
        have ha8 := ha5.same (D8.keepT D5.at_)
        exact q t3 zs gs _ l6 k6 ⟨t1, t2, us, upd_same, e1, ha8, e2⟩ ⟨rul, srt, len, fun g h => ⟨(hg g h).1, (hg g h).2.1⟩, sg, lg⟩ (by have : k6 ≤ k4 + 5 := kk6; omega) (D5.trans D8)
end
end K50

set_option Elab.async false
set_option linter.all false
set_option maxRecDepth 100000
set_option maxHeartbeats 4000000
/-! _law_taken. -/
namespace K50
open PySem L2 L2.EV
abbrev sTaken : Stmt := top 66
/-- where the rules lead -/
def mt (xs : List T3) (q : Int) (c : Str) : List Int := (xs.filter fun x => decide (x.1 = q) && decide (x.2.1 = c)).map fun x => x.2.2
theorem mt_snoc {xs : List T3} {x : T3} {q : Int} {c : Str} : mt (xs ++ [x]) q c = mt xs q c ++ (if x.1 = q ∧ x.2.1 = c then [x.2.2] else []) := by
  unfold mt
  rw [List.filter_append, List.map_append, List.filter_cons, List.filter_nil]
  by_cases h : x.1 = q ∧ x.2.1 = c
  · rw [if_pos h, if_pos (by rw [decide_eq_true h.1, decide_eq_true h.2]; rfl)]
    rfl
  · rw [if_neg h, if_neg (fun z => h (by simpa using z))]
    rfl
theorem nx_last {q : Int} {c : Str} (xs : List T3) : nx xs q c = (mt xs q c).getLast? := by
  refine snoc_ind (p := fun xs => nx xs q c = (mt xs q c).getLast?) rfl (fun l x ih => ?_) xs
  rw [nx_snoc, mt_snoc]
  by_cases h : x.1 = q ∧ x.2.1 = c
  · rw [if_pos h, if_pos h, List.getLast?_append]
    rfl
  · rw [if_neg h, if_neg h, List.append_nil, ih]
theorem mt_one {xs : List T3} {q : Int} {c : Str} (h : xs.Pairwise fun a b => key a ≠ key b) : (mt xs q c).length ≤ 1 := by
  unfold mt
  rw [List.length_map]
  have p := h.filter (fun x => decide (x.1 = q) && decide (x.2.1 = c))
  have m : ∀ x ∈ xs.filter (fun x => decide (x.1 = q) && decide (x.2.1 = c)), key x = (q, c) := fun x hx => by
    have z := (List.mem_filter.mp hx).2
    rw [Bool.and_eq_true, decide_eq_true_eq, decide_eq_true_eq] at z
    show (x.1, x.2.1) = (q, c)
    rw [z.1, z.2]
  generalize xs.filter (fun x => decide (x.1 = q) && decide (x.2.1 = c)) = l at p m
  match l, p, m with
  | [], _, _ => exact Nat.zero_le _
  | [_], _, _ => exact Nat.le_refl _
  | a :: b :: l, p, m =>
    have z := (List.pairwise_cons.mp p).1 b (List.mem_cons_self ..)
    rw [m a (List.mem_cons_self ..), m b (List.mem_cons_of_mem _ (List.mem_cons_self ..))] at z
    exact absurd rfl z
theorem ltIS_ne {a b : IS} (h : ltIS a b = true) : a ≠ b := fun e => by
  subst e
  unfold ltIS at h
  rw [if_pos rfl] at h
  exact absurd (of_decide_eq_true h) (List.lt_irrefl _)
theorem Rok.dst {xs : List T3} {gs : List Int} (h : Rok xs gs) : xs.Pairwise fun a b => key a ≠ key b := h.srt.imp fun {a b} z => ltIS_ne z
theorem nx_head {xs : List T3} {gs : List Int} (h : Rok xs gs) (q : Int) (c : Str) : (mt xs q c = [] ∧ nx xs q c = none) ∨ ∃ t, mt xs q c = [t] ∧ nx xs q c = some t := by
  have l := mt_one (q := q) (c := c) h.dst
  rw [nx_last]
  match mt xs q c, l with
  | [], _ => exact .inl ⟨rfl, rfl⟩
  | [t], _ => exact .inr ⟨t, rfl, rfl⟩
/-- the marks of a text -/
def mrs (p : Str) : List Nat := (sl p).filter fun c => decide (c ∈ mks)
theorem cnt_is {p : Str} (h : 64 ∉ sl p) : cnt p < 2 ↔ ∀ c ∈ mrs p, ∀ d ∈ mrs p, c = d := by
  have e : cnt p = (mks.filter fun c => decide (c ∈ sl p)).length := by
    unfold cnt
    rw [List.filter_cons, if_neg (by simpa using h)]
  rw [e]
  have mem : ∀ c, c ∈ mrs p ↔ c ∈ mks.filter (fun c => decide (c ∈ sl p)) := fun c => by
    unfold mrs
    rw [List.mem_filter, List.mem_filter, decide_eq_true_eq, decide_eq_true_eq]
    exact And.comm
  have nd : (mks.filter fun c => decide (c ∈ sl p)).Nodup := List.Pairwise.filter _ (show mks.Nodup by rw [mks_is]; decide)
  constructor
  · intro l c hc d hd
    have hc := (mem c).mp hc
    have hd := (mem d).mp hd
    generalize mks.filter (fun c => decide (c ∈ sl p)) = ls at *
    match ls, l with
    | [], _ => cases hc
    | [x], _ => rw [List.mem_singleton.mp hc, List.mem_singleton.mp hd]
  · intro l
    have l : ∀ c ∈ mks.filter (fun c => decide (c ∈ sl p)), ∀ d ∈ mks.filter (fun c => decide (c ∈ sl p)), c = d := fun c hc d hd => l c ((mem c).mpr hc) d ((mem d).mpr hd)
    generalize mks.filter (fun c => decide (c ∈ sl p)) = ls at *
    match ls with
    | [] => exact Nat.zero_lt_succ _
    | [x] => exact Nat.lt_succ_self _
    | a :: b :: r =>
      have z := l a (List.mem_cons_self ..) b (List.mem_cons_of_mem _ (List.mem_cons_self ..))
      rw [z] at nd
      exact absurd (List.mem_cons_self ..) (List.nodup_cons.mp nd).1
theorem ldF_none {xs : List T3} (ss : List Str) : ldF xs none ss = none := by
  refine snoc_ind (p := fun ss => ldF xs none ss = none) rfl (fun l x ih => ?_) ss
  rw [ldF_snoc, ih]
  rfl
theorem ldF_app {xs : List T3} {o : Option Int} (as bs : List Str) : ldF xs o (as ++ bs) = ldF xs (ldF xs o as) bs := by
  unfold ldF
  rw [List.foldl_append]
theorem mk_ok : ∀ c ∈ mks, PyData.strOk ⟨#[c]⟩ = true := by
  rw [mks_is]
  intro c hc
  simp only [List.mem_cons, List.not_mem_nil, or_false] at hc
  rcases hc with rfl | rfl | rfl | rfl | rfl | rfl | rfl | rfl <;> decide +kernel
theorem mr_ok {l : List Nat} (h : ∀ c ∈ l, c ∈ mks) (n : l.length ≤ 1000) : SeqAt.shaped (.list (l.map fun c => PyData.str ⟨#[c]⟩)) = true :=
  (okd_list (n := 12) (dp := 0) (m := 1000) (fun d hd => by
    obtain ⟨c, hc, rfl⟩ := List.mem_map.mp hd
    exact okd_str (m := 1) (mk_ok c (h c hc)) (Nat.le_refl _)) (by rw [List.length_map]; exact n)).shaped (by decide)
theorem dp_strs {K : PySem.W.Frag} {H : Hp} : ∀ l : List Nat, DpAll K H (l.map fun c => V.str ⟨#[c]⟩) (l.map fun c => PyData.str ⟨#[c]⟩)
  | [] => .nil
  | c :: l => .cons (.str _) (dp_strs l)
theorem dp_intL {K : PySem.W.Frag} {H : Hp} : ∀ l : List Int, DpAll K H (l.map V.int) (l.map PyData.int)
  | [] => .nil
  | c :: l => .cons (.int _) (dp_intL l)
theorem tk_no {xs : List T3} {gs : List Int} {p : Str} (h : ¬ cnt p < 2) : tkF xs gs p = false := by
  unfold tkF
  rw [decide_eq_false h]
  rfl
theorem tk_none {xs : List T3} {gs : List Int} {p : Str} (h : ldF xs (some 0) (sgsOf p) = none) : tkF xs gs p = false := by
  unfold tkF
  rw [h, Bool.and_false]
theorem tk_some {xs : List T3} {gs : List Int} {p : Str} {q : Int} (l : cnt p < 2) (h : ldF xs (some 0) (sgsOf p) = some q) : tkF xs gs p = decide (q ∈ gs) := by
  unfold tkF
  rw [h, decide_eq_true l, Bool.true_and]
def spTkn : Sp := fun vs H Q _ => ∃ (r : Addr) (xs : List T3) (gs : List Int) (p : Str), vs = [.ref r, .str p] ∧ RdA H r xs gs ∧ Rok xs gs ∧ p.length ≤ 1000 ∧ 64 ∉ sl p ∧ ∀ H', Same H H' → Q (.bl (tkF xs gs p)) H'
structure Lk (K : PySem.W.Frag) (mg : Str → Option Value) where
  f : Addr
  d : FuncData
  F : Fun K "_law_taken" "_law_taken" sTaken f d
  b : Binds K d ["taker", "text"] []
  m : mg "_law_taken" = some (.ref f)
abbrev NTk : List Str := ["taker", "text", "sign", "marks", "state", "own", "some", "begin", "letter", "to"]
section
variable {P : Program} {w : World} {K : PySem.W.Frag} {mg : Str → Option Value} {base : Heap}
theorem scTkn : FnScope NTk ["taker", "text"] (defScope sTaken) := ⟨rfl, rfl, rfl, by decide +kernel, rfl, by decide +kernel, by decide +kernel⟩
theorem ok_tkn (L : Lk K mg) : FnOk P w K mg base CX0 1 L.f L.d ["taker", "text"] spTkn := by
  refine L.F.ok scTkn (fun vs H Q E h => ?_) (fun cdv A outer s H vs Q E hr h => ?_)
  · obtain ⟨r, xs, gs, p, rfl, _⟩ := h
    rfl
  · obtain ⟨r, xs, gs, p, rfl, ra, ro, pl, n64, q⟩ := h
    have hu2 := hr.units
    refine ⟨_, pss_cons (ps_set (i := 3) scTkn.nd rfl (Or.inr rfl) (pe_lc (own := [("sign", 2)]) (g := gName 2) rfl scTkn.nd (pi_str (pv 1))
          (blkOk_by (N := NTk) (sc := defScope sTaken) (by decide +kernel)) (fun _ _ _ _ _ => pg_name (i := 2) scTkn.nd rfl (Or.inl rfl)) (fun _ _ _ _ _ => pts_one (pt_cmpR op_in_sign (pv 2) pe_str (by rfl))) (fun _ _ _ _ _ => pv 2)))
      (pss_cons (ps_if (pt_cmpR (op_neD hu2) (pe_lc (own := [("sign", 2)]) (g := gName 2) (tt := tTest (tOp rNe (tVar 2) (tOp (rIxL K) (tVar 3) (tC (.int 0))))) (te := tVar 2) rfl scTkn.nd (pi_list (pv 3))
          (blkOk_by (N := NTk) (sc := defScope sTaken) (by decide +kernel)) (fun _ _ _ _ _ => pg_name (i := 2) scTkn.nd rfl (Or.inl rfl)) (fun _ _ _ _ _ => pts_one (pt_cmpR op_ne (pv 2) (pe_ix ix_list (pv 3) pe_int (fun _ _ => rfl)) (by rfl))) (fun _ _ _ _ _ => pv 2)) (pe_lst pa_nil) (nomark _)) (pss_one (ps_ret pe_bl)) pss_nil)
      (pss_cons (ps_set (i := 4) scTkn.nd rfl (Or.inr rfl) pe_int)
      (pss_cons (ps_for PassesOwn.never rfl (pi_str (pe_slice sl_str (pv 1) po_none (po_some (pe_un un_neg pe_int)))) (pg_name (i := 2) scTkn.nd rfl (Or.inl rfl))
        (pss_cons (ps_set (i := 5) scTkn.nd rfl (Or.inr rfl) (pe_ifExp (pt_cmpR op_in_sign (pv 2) pe_str (by rfl)) pe_str (pv 2)))
        (pss_cons (ps_setLc (i := 6) (y := "some") (own := [("begin", 7), ("letter", 8), ("to", 9)]) (g := gTup K 3 (gCons (gName 7) (gCons (gName 8) (gCons (gName 9) gNil)))) (te := tVar 9) rfl scTkn.nd rfl rfl (by rfl) (pi_tup (pe_ix ix_tup (pv 0) pe_int (fun _ _ => rfl)))
          (blkOk_by (N := NTk) (sc := defScope sTaken) (by decide +kernel))
          (fun _ _ _ _ _ => pg_tup rfl (pgs_cons (pg_name (i := 7) scTkn.nd rfl (Or.inl rfl)) (pgs_cons (pg_name (i := 8) scTkn.nd rfl (Or.inl rfl)) (pgs_cons (pg_name (i := 9) scTkn.nd rfl (Or.inl rfl)) pgs_nil))))
          (fun _ _ _ _ _ => pts_one (pw_and (pt_cmpR op_eq (pv 7) (pv 4) (by rfl)) (pw_and1 (pt_cmpR op_eq (pv 8) (pv 5) (by rfl)))).pt) (fun _ _ _ _ _ => pv 9))
        (pss_cons (ps_if (pt_cmpR (op_eqD hu2) (pv 6) (pe_lst pa_nil) (nomark _)) (pss_one (ps_ret pe_bl)) pss_nil)
        (pss_one (ps_set (i := 4) scTkn.nd rfl (Or.inr rfl) (pe_ix ix_list (pv 6) pe_int (fun _ _ => rfl))))))))
      (pss_one (ps_ret (pe_cmpR op_in_seq (pv 4) (pe_ix ix_tup (pv 0) pe_int (fun _ _ => rfl)) (by rfl))))))), ?_⟩
    have pl' : (sl p).length ≤ 1000 := by rw [← len_sl]; exact pl
    have ml : (mrs p).length ≤ 1000 := Nat.le_trans (List.length_filter_le ..) pl'
    have mm : ∀ c ∈ mrs p, c ∈ mks := fun c hc => by
      have := (List.mem_filter.mp hc).2
      simpa using this
    refine ⟨_, rfl, _, rfl, fun D hD => ?_⟩
    refine lc_it walk_str (fun i H' => H' D = some (.lst ((((sl p).take i).filter fun c => decide (c ∈ mks)).map fun c => V.str ⟨#[c]⟩)) ∧ Same H H') ⟨upd_same, same_upd hD⟩ (fun _ _ _ _ => trivial) ?_ ?_
    · rintro i x H2z H2 hi ⟨hD2, s2⟩ ⟨rfl, ch, hc, rfl⟩
      have hc' : (sl p)[i]? = some ch := (Array.getElem?_toList ..).trans hc
      refine ⟨rfl, ?_⟩
      refine ⟨_, rfl, ch, _, rfl, rfl, _, rfl, ?_⟩
      rw [take_one' hc', List.filter_append, List.filter_cons]
      have ll : (((sl p).take i).filter fun c => decide (c ∈ mks)).length ≤ 1000 := by
        refine Nat.le_trans (List.length_filter_le ..) ?_
        rw [List.length_take]
        omega
      by_cases c : ch ∈ mks
      · refine iteT' (decide_eq_true c) ?_
        rw [if_pos (decide_eq_true c)]
        refine ⟨_, rfl, _, hD2, by rw [List.length_map, sizeLine_eq]; omega, ?_, same_set hD s2⟩
        rw [List.map_append]
        exact upd_same
      · refine iteF' (decide_eq_false c) ?_
        rw [if_neg (by simpa using c), List.filter_nil, List.append_nil]
        exact ⟨hD2, s2⟩
    rintro H2 ⟨hD2, s2⟩
    rw [show p.cps.size = (sl p).length from len_sl p, List.take_length] at hD2
    have hD2 : H2 D = some (.lst ((mrs p).map fun c => V.str ⟨#[c]⟩)) := hD2
    refine gName_go2 ?_
    refine ⟨_, rfl, D, rfl, ⟨_, SqL.of hD2⟩, fun D2 nD2 => ?_⟩
    refine lc_it (walk_list (xs := (mrs p).map fun c => V.str ⟨#[c]⟩)) (fun i H' => H' D2 = some (.lst ((((mrs p).take i).filter fun c => decide (¬ c = (mrs p).headD 0)).map fun c => V.str ⟨#[c]⟩)) ∧ Same H2 H') ⟨upd_same, same_upd nD2⟩ (fun i H' _ z => SqL.of (z.2 _ _ hD2)) ?_ ?_
    · rintro i x H3z H3 hi ⟨hD3, s3⟩ ⟨rfl, hx⟩
      rw [List.length_map] at hi
      have il : (mrs p)[i]? = some (mrs p)[i] := List.getElem?_eq_getElem hi
      rw [List.getElem?_map, il] at hx
      obtain ⟨h0, e0⟩ : ∃ h0, (mrs p)[0]? = some h0 := ⟨_, List.getElem?_eq_getElem (by omega)⟩
      have eh : (mrs p).headD 0 = h0 := by
        cases em : mrs p with
        | nil =>
          rw [em] at e0
          cases e0
        | cons a l =>
          rw [em] at e0
          exact Option.some.inj e0
      rw [take_one' il, List.filter_append, List.filter_cons, eh]
      rw [eh] at hD3
      have ll : (((mrs p).take i).filter fun c => decide (¬ c = h0)).length ≤ 1000 := by
        refine Nat.le_trans (List.length_filter_le ..) ?_
        rw [List.length_take]
        omega
      generalize (mrs p)[i] = ch at *
      obtain rfl : V.str ⟨#[ch]⟩ = x := Option.some.inj hx
      refine ⟨rfl, ?_⟩
      refine ⟨_, rfl, _, rfl, D, _, 0, .str ⟨#[h0]⟩, rfl, rfl, SqL.of (s3 _ _ hD2), atI_nat (j := 0) (by rw [List.getElem?_map, e0]; rfl), rfl, _, rfl, ?_⟩
      by_cases c : ch = h0
      · refine iteF' (by simp [c]) ?_
        rw [if_neg (by simp [c]), List.filter_nil, List.append_nil]
        exact ⟨hD3, s3⟩
      · refine iteT' (by simp [c]) ?_
        rw [if_pos (by simp [c])]
        refine ⟨_, rfl, _, hD3, by rw [List.length_map, sizeLine_eq]; omega, ?_, same_set nD2 s3⟩
        rw [List.map_append]
        exact upd_same
    rintro H3 ⟨hD3, s3⟩
    rw [List.length_map, List.take_length] at hD3
    refine ⟨(by show 0 ≤ sizeLine; decide), fun p3 hp3 => ?_⟩
    have u4 := same_upd (o := HO.lst []) hp3
    have s04 := s2.trans (s3.trans u4)
    have fm : ∀ c ∈ (mrs p).filter (fun c => decide (¬ c = (mrs p).headD 0)), c ∈ mks := fun c hc => mm c (List.mem_filter.mp hc).1
    refine ⟨.list (((mrs p).filter fun c => decide (¬ c = (mrs p).headD 0)).map fun c => PyData.str ⟨#[c]⟩), .list [], .lst (SqL.of (u4 _ _ hD3)) (dp_strs _), .lst (SqL.of upd_same) .nil, mr_ok fm (Nat.le_trans (List.length_filter_le ..) ml), shaped_nil, _, rfl, ?_⟩
    rw [eqv_nilD, List.isEmpty_map]
    by_cases cl : cnt p < 2
    case neg =>
      refine iteT' ?_ ?_
      · rw [Bool.not_eq_true', ← Bool.not_eq_true, List.isEmpty_iff, List.filter_eq_nil_iff]
        intro z
        refine cl ((cnt_is n64).mpr fun c hc d hd => ?_)
        have a := z c hc
        have b := z d hd
        simp at a b
        rw [a, b]
      · have z := q _ s04
        rw [tk_no cl] at z
        exact z
    refine iteF' ?_ ?_
    · rw [Bool.not_eq_false', List.isEmpty_iff, List.filter_eq_nil_iff]
      intro c hc
      have a := (cnt_is n64).mp cl c hc
      cases em : mrs p with
      | nil =>
        rw [em] at hc
        cases hc
      | cons x l =>
        have b := a x (by rw [em]; exact List.mem_cons_self ..)
        simp [b]
    generalize upd H3 p3 (.lst []) = H4 at s04 ⊢
    have cs := cut_last (p := p)
    have cl2 : (cutS p none (some (-1))).length ≤ 1000 := Nat.le_trans (cutS_length ..) pl
    obtain ⟨t1, t2, ts, h1, h2, h3, h4⟩ := id ra
    refine ⟨_, rfl, 1, rfl, -1, rfl, p, rfl, (by rw [sizeLine_eq]; omega), ?_⟩
    generalize cutS p none (some (-1)) = cu at cs cl2 ⊢
    have sg : sgsOf p = (sl cu).map sgOf := by
      unfold sgsOf
      rw [cs]
    refine ⟨_, rfl, for_it walk_str (fun i σ H' => ∃ (v2 v5 v6 : Option V) (qq : Int), σ = [some (.ref r), some (.str p), v2, some (.ref D), some (.int qq), v5, v6, none, none, none] ∧ ldF xs (some 0) (((sl cu).map sgOf).take i) = some qq ∧ Same H H')
      ⟨_, _, _, 0, rfl, rfl, s04⟩ (fun _ _ _ _ _ => trivial) ?_ ?_⟩
    · rintro i x σ H5z H5 hi ⟨v2, v5, v6, qq, rfl, el, s5⟩ ⟨rfl, ch, hc, rfl⟩
      have hc' : (sl cu)[i]? = some ch := (Array.getElem?_toList ..).trans hc
      have hm : ((sl cu).map sgOf)[i]? = some (sgOf ch) := by
        rw [List.getElem?_map, hc']
        rfl
      refine ⟨_, rfl, ch, _, rfl, rfl, _, rfl, ?_⟩
      by_cases cm : ch ∈ mks
      · refine iteT' (decide_eq_true cm) ?_
        have eo : ("@" : Str) = sgOf ch := by unfold sgOf; rw [if_pos cm]
        rw [eo]
        refine gName_go2 ?_
        have tl := take_one' hm
        have wh := nx_head ro qq (sgOf ch)
        have ld : ldF xs (some 0) (((sl cu).map sgOf).take (i + 1)) = nx xs qq (sgOf ch) := by
          rw [tl, ldF_snoc, el]
          rfl
        generalize sgOf ch = og at wh ld hm ⊢
        refine ⟨_, rfl, r, _, 0, .ref t1, rfl, rfl, SqT.of (s5 _ _ h1), rfl, t1, rfl, ⟨_, SqT.of (s5 _ _ h2)⟩, fun D3 nD3 => ?_⟩
        refine lc_it (walk_tup (xs := ts.map V.ref)) (fun i H' => H' D3 = some (.lst ((mt (xs.take i) qq og).map V.int)) ∧ Same H5 H') ⟨upd_same, same_upd nD3⟩ (fun i H' _ z => SqT.of (z.2 _ _ (s5 _ _ h2))) ?_ ?_
        · rintro j x H6z H6 hj ⟨hD6, s6⟩ ⟨rfl, hx⟩
          obtain ⟨t, y, hy, rfl, e4⟩ := at_step (i := j) h3.1 h3.2 hx
          have e5 := (s5.trans s6) _ _ e4
          have xl := ro.len
          have mtl : (mt (xs.take j) qq og).length ≤ 30 := by
            unfold mt
            rw [List.length_map]
            refine Nat.le_trans (List.length_filter_le ..) ?_
            rw [List.length_take]
            omega
          rw [take_one' hy, mt_snoc]
          refine ⟨t, _, rfl, SqT.of e5, rfl, _, _, rfl, _, _, rfl, _, _, rfl, rfl, rfl, ?_⟩
          refine ⟨_, rfl, _, rfl, rfl, _, rfl, ?_⟩
          by_cases c1 : y.1 = qq
          · refine iteT' (by simp [c1]) ?_
            refine ⟨_, rfl, _, rfl, rfl, _, rfl, ?_⟩
            by_cases c2 : y.2.1 = og
            · refine iteT' (by simp [c2]) ?_
              rw [if_pos ⟨c1, c2⟩]
              refine ⟨_, rfl, _, hD6, by rw [List.length_map, sizeLine_eq]; omega, ?_, same_set nD3 s6⟩
              rw [List.map_append]
              exact upd_same
            · refine iteF' (by simp [c2]) ?_
              rw [if_neg (fun z => c2 z.2), List.append_nil]
              exact ⟨hD6, s6⟩
          · refine iteF' (by simp [c1]) ?_
            rw [if_neg (fun z => c1 z.1), List.append_nil]
            exact ⟨hD6, s6⟩
        · rintro H6 ⟨hD6, s6⟩
          rw [List.length_map, h3.1, List.take_length] at hD6
          refine gName_go2 ?_
          refine ⟨_, rfl, (by show 0 ≤ sizeLine; decide), fun p7 hp7 => ?_⟩
          have u7 := same_upd (o := HO.lst []) hp7
          have s07 := (s5.trans s6).trans u7
          have hD7 := u7 _ _ hD6
          have e7 := upd_same (H := H6) (a := p7) (o := HO.lst [])
          generalize upd H6 p7 (.lst []) = H7 at u7 s07 hD7 e7 ⊢
          rcases wh with ⟨em, en⟩ | ⟨tt, em, en⟩
          · rw [em] at hD7
            refine ⟨.list [], .list [], .lst (SqL.of hD7) .nil, .lst (SqL.of e7) .nil, shaped_nil, shaped_nil, _, rfl, iteT' (by decide +kernel) ?_⟩
            have z := q H7 s07
            rw [tk_none (by
              rw [sg, ← List.take_append_drop (i + 1) ((sl cu).map sgOf), ldF_app, ld, en]
              exact ldF_none _)] at z
            exact z
          · rw [em] at hD7
            refine ⟨.list ([tt].map PyData.int), .list [], .lst (SqL.of hD7) (dp_intL [tt]), .lst (SqL.of e7) .nil, ?_, shaped_nil, _, rfl, iteF' ?_ ?_⟩
            · show (PyData.canLay0 (.list [.int tt]) && decide (PyData.depth (.list [.int tt]) ≤ 64)) = true
              simp [PyData.canLay0, PyData.canLayAll0, PyData.depth, PyData.depthAll]
            · rw [eqv_nilD]
              rfl
            · refine ⟨_, rfl, D3, _, 0, .int tt, rfl, rfl, SqL.of hD7, atI_nat (j := 0) rfl, ?_⟩
              exact ⟨_, _, _, tt, rfl, ld.trans en, s07⟩
      · refine iteF' (decide_eq_false cm) ?_
        refine ⟨_, rfl, ?_⟩
        have eo : (⟨#[ch]⟩ : Str) = sgOf ch := by unfold sgOf; rw [if_neg cm]
        rw [eo]
        refine gName_go2 ?_
        have tl := take_one' hm
        have wh := nx_head ro qq (sgOf ch)
        have ld : ldF xs (some 0) (((sl cu).map sgOf).take (i + 1)) = nx xs qq (sgOf ch) := by
          rw [tl, ldF_snoc, el]
          rfl
        generalize sgOf ch = og at wh ld hm ⊢
        refine ⟨_, rfl, r, _, 0, .ref t1, rfl, rfl, SqT.of (s5 _ _ h1), rfl, t1, rfl, ⟨_, SqT.of (s5 _ _ h2)⟩, fun D3 nD3 => ?_⟩
        refine lc_it (walk_tup (xs := ts.map V.ref)) (fun i H' => H' D3 = some (.lst ((mt (xs.take i) qq og).map V.int)) ∧ Same H5 H') ⟨upd_same, same_upd nD3⟩ (fun i H' _ z => SqT.of (z.2 _ _ (s5 _ _ h2))) ?_ ?_
        · rintro j x H6z H6 hj ⟨hD6, s6⟩ ⟨rfl, hx⟩
          obtain ⟨t, y, hy, rfl, e4⟩ := at_step (i := j) h3.1 h3.2 hx
          have e5 := (s5.trans s6) _ _ e4
          have xl := ro.len
          have mtl : (mt (xs.take j) qq og).length ≤ 30 := by
            unfold mt
            rw [List.length_map]
            refine Nat.le_trans (List.length_filter_le ..) ?_
            rw [List.length_take]
            omega
          rw [take_one' hy, mt_snoc]
          refine ⟨t, _, rfl, SqT.of e5, rfl, _, _, rfl, _, _, rfl, _, _, rfl, rfl, rfl, ?_⟩
          refine ⟨_, rfl, _, rfl, rfl, _, rfl, ?_⟩
          by_cases c1 : y.1 = qq
          · refine iteT' (by simp [c1]) ?_
            refine ⟨_, rfl, _, rfl, rfl, _, rfl, ?_⟩
            by_cases c2 : y.2.1 = og
            · refine iteT' (by simp [c2]) ?_
              rw [if_pos ⟨c1, c2⟩]
              refine ⟨_, rfl, _, hD6, by rw [List.length_map, sizeLine_eq]; omega, ?_, same_set nD3 s6⟩
              rw [List.map_append]
              exact upd_same
            · refine iteF' (by simp [c2]) ?_
              rw [if_neg (fun z => c2 z.2), List.append_nil]
              exact ⟨hD6, s6⟩
          · refine iteF' (by simp [c1]) ?_
            rw [if_neg (fun z => c1 z.1), List.append_nil]
            exact ⟨hD6, s6⟩
        · rintro H6 ⟨hD6, s6⟩
          rw [List.length_map, h3.1, List.take_length] at hD6
          refine gName_go2 ?_
          refine ⟨_, rfl, (by show 0 ≤ sizeLine; decide), fun p7 hp7 => ?_⟩
          have u7 := same_upd (o := HO.lst []) hp7
          have s07 := (s5.trans s6).trans u7
          have hD7 := u7 _ _ hD6
          have e7 := upd_same (H := H6) (a := p7) (o := HO.lst [])
          generalize upd H6 p7 (.lst []) = H7 at u7 s07 hD7 e7 ⊢
          rcases wh with ⟨em, en⟩ | ⟨tt, em, en⟩
          · rw [em] at hD7
            refine ⟨.list [], .list [], .lst (SqL.of hD7) .nil, .lst (SqL.of e7) .nil, shaped_nil, shaped_nil, _, rfl, iteT' (by decide +kernel) ?_⟩
            have z := q H7 s07
            rw [tk_none (by
              rw [sg, ← List.take_append_drop (i + 1) ((sl cu).map sgOf), ldF_app, ld, en]
              exact ldF_none _)] at z
            exact z
          · rw [em] at hD7
            refine ⟨.list ([tt].map PyData.int), .list [], .lst (SqL.of hD7) (dp_intL [tt]), .lst (SqL.of e7) .nil, ?_, shaped_nil, _, rfl, iteF' ?_ ?_⟩
            · show (PyData.canLay0 (.list [.int tt]) && decide (PyData.depth (.list [.int tt]) ≤ 64)) = true
              simp [PyData.canLay0, PyData.canLayAll0, PyData.depth, PyData.depthAll]
            · rw [eqv_nilD]
              rfl
            · refine ⟨_, rfl, D3, _, 0, .int tt, rfl, rfl, SqL.of hD7, atI_nat (j := 0) rfl, ?_⟩
              exact ⟨_, _, _, tt, rfl, ld.trans en, s07⟩
    · rintro σ H5 ⟨v2, v5, v6, qq, rfl, el, s5⟩
      rw [show cu.cps.size = ((sl cu).map sgOf).length by rw [List.length_map]; exact len_sl cu, List.take_length, ← sg] at el
      refine ⟨_, rfl, _, rfl, r, _, 1, .ref t2, rfl, rfl, SqT.of (s5 _ _ h1), rfl, t2, gs.map V.int, rfl, .inr (SqT.of (s5 _ _ h4)), rfl, ints_flat gs, ?_⟩
      rw [in_ints]
      have z := q H5 s5
      rw [tk_some cl el] at z
      exact z
end
end K50

set_option Elab.async false
set_option linter.all false
set_option maxRecDepth 100000
set_option maxHeartbeats 4000000
/-! What the read lines' texts are. -/
namespace K50
open PySem L2 L2.EV
theorem replL_mem {a d : Nat} {z : List Nat} : ∀ {l : List Nat}, d ∈ StrLaws.replL [a] z l → d ∈ z ∨ d ∈ l
  | [], h => by
    rw [StrLaws.replL_nil] at h
    cases h
  | c :: r, h => by
    by_cases e : (c :: r).take ([a] : List Nat).length = [a]
    · rw [StrLaws.replL_hit (by simp) e] at h
      rcases List.mem_append.mp h with h | h
      · exact .inl h
      · exact (replL_mem (l := r) h).imp id fun z => List.mem_cons_of_mem _ z
    · rw [StrLaws.replL_miss e] at h
      rcases List.mem_cons.mp h with h | h
      · exact .inr (by rw [h]; exact List.mem_cons_self ..)
      · exact (replL_mem (l := r) h).imp id fun z => List.mem_cons_of_mem _ z
theorem at_eq : ("@" : Str) = ⟨#[64]⟩ := by decide +kernel
theorem mrk_low {n : Int} : mrk n < 0x110000 := by
  unfold mrk
  by_cases h : n.toNat < 8
  · have z : ∀ k : Fin 8, (sl ("ABCDEFGH" : Str)).getD k.val 0 < 0x110000 := by decide +kernel
    exact z ⟨n.toNat, h⟩
  · rw [List.getD_eq_getElem?_getD, List.getElem?_eq_none (by
      have : (sl ("ABCDEFGH" : Str)).length = 8 := by decide +kernel
      omega)]
    decide
theorem ok_low {p : Str} (h : PyData.strOk p = true) : ∀ c ∈ sl p, c < 0x110000 := fun c hc => by
  unfold PyData.strOk at h
  rw [← Array.all_toList, List.all_eq_true] at h
  exact of_decide_eq_true (h c hc)
theorem putE_low {fr : List T3} {e : E2} (h : PyData.strOk (stt fr e.2).2.1 = true) : ∀ c ∈ sl (putE fr e), c < 0x110000 := by
  intro c hc
  unfold putE at hc
  rw [at_eq, show sl (Txt.replace (stt fr e.2).2.1 ⟨#[64]⟩ ⟨#[mrk e.1]⟩) = StrLaws.replL [64] [mrk e.1] (sl (stt fr e.2).2.1) from StrLaws.replace_list (by decide)] at hc
  rcases replL_mem hc with z | z
  · have : c = mrk e.1 := by simpa using z
    rw [this]
    exact mrk_low
  · exact ok_low h c z
theorem okd_text {fr : List T3} {es : List E2} {last : Nat} (F : Frm fr last) (he : ∀ e ∈ es, Ent fr e) (hl : es.length ≤ 60) : Okd (.str (textE fr es)) 12000 0 := by
  have hm : ∀ e ∈ es, stt fr e.2 ∈ fr := fun e h => by
    obtain ⟨_, _, n0, n1⟩ := he e h
    obtain ⟨k, hk⟩ := Int.eq_ofNat_of_zero_le n0
    unfold stt
    rw [hk] at n1 ⊢
    have kl : k < fr.length := by omega
    rw [List.getD_eq_getElem?_getD, Int.toNat_natCast, List.getElem?_eq_getElem kl]
    exact List.getElem_mem kl
  have ll : ∀ l : List E2, (∀ e ∈ l, e ∈ es) → ((l.map (putE fr)).map sl).flatten.length ≤ 17 * l.length ∧ ∀ c, c ∈ ((l.map (putE fr)).map sl).flatten → c < 0x110000 := by
    intro l
    induction l with
    | nil => exact fun _ => ⟨Nat.le_refl _, fun c h => by cases h⟩
    | cons e l ih =>
      intro h
      obtain ⟨i1, i2⟩ := ih fun x hx => h x (List.mem_cons_of_mem _ hx)
      have e1 := h e (List.mem_cons_self ..)
      have sp := (F.stp _ (hm e e1)).2.2.1
      have h1 := putE_len (pc_len sp).2
      rw [len_sl] at h1
      rw [List.map_cons, List.map_cons, List.flatten_cons]
      refine ⟨by rw [List.length_append, List.length_cons]; omega, fun c hc => ?_⟩
      rcases List.mem_append.mp hc with hc | hc
      · exact putE_low (pc_ok sp) c hc
      · exact i2 c hc
  obtain ⟨z1, z2⟩ := ll es fun e h => h
  have es1 : sl (textE fr es) = ((es.map (putE fr)).map sl).flatten := txt_join _
  rw [← es1] at z1 z2
  refine (okd_str (m := 1020) ?_ (by rw [len_sl]; omega)).le (by decide) (by decide)
  unfold PyData.strOk
  rw [← Array.all_toList, List.all_eq_true]
  exact fun c hc => decide_eq_true (z2 c hc)
theorem replL_map {a d : Nat} : ∀ l : List Nat, StrLaws.replL [a] [d] l = l.map fun c => if c = a then d else c
  | [] => by rw [StrLaws.replL_nil]; rfl
  | c :: r => by
    by_cases e : (c :: r).take ([a] : List Nat).length = [a]
    · rw [StrLaws.replL_hit (by simp) e]
      have e2 : c = a := by simpa using e
      show [d] ++ StrLaws.replL [a] [d] r = _
      rw [replL_map r, List.map_cons, if_pos e2]
      rfl
    · rw [StrLaws.replL_miss e, replL_map r, List.map_cons, if_neg (by simpa using e)]
theorem sl_putE (fr : List T3) (e : E2) : sl (putE fr e) = (sl (stt fr e.2).2.1).map fun c => if c = 64 then mrk e.1 else c := by
  unfold putE
  rw [at_eq, show sl (Txt.replace (stt fr e.2).2.1 ⟨#[64]⟩ ⟨#[mrk e.1]⟩) = StrLaws.replL [64] [mrk e.1] (sl (stt fr e.2).2.1) from StrLaws.replace_list (by decide), replL_map]
theorem mrk_in {n : Int} (h0 : 0 ≤ n) (h1 : n < 8) : mrk n ∈ mks ∧ mrk n ≠ 64 := by
  obtain ⟨k, rfl⟩ := Int.eq_ofNat_of_zero_le h0
  have z : ∀ k : Fin 8, mrk (k.val : Int) ∈ mks ∧ mrk (k.val : Int) ≠ 64 := by decide +kernel
  exact z ⟨k, by omega⟩
/-- a sign or a mark of a text -/
def Sg1 (c : Nat) : Prop := (c ∈ sgs ∨ c ∈ mks) ∧ c ≠ 64
theorem put_sgn {fr : List T3} {last : Nat} (F : Frm fr last) {e : E2} (h : Ent fr e) : ∃ b : List Nat, sl (putE fr e) = b ++ (if ends fr e = true then [59] else []) ∧ ∀ c ∈ b, Sg1 c := by
  obtain ⟨e0, e1, n0, n1⟩ := h
  have hm : stt fr e.2 ∈ fr := by
    obtain ⟨k, hk⟩ := Int.eq_ofNat_of_zero_le n0
    unfold stt
    rw [hk] at n1 ⊢
    have kl : k < fr.length := by omega
    rw [List.getD_eq_getElem?_getD, Int.toNat_natCast, List.getElem?_eq_getElem kl]
    exact List.getElem_mem kl
  obtain ⟨b, eb, _, hb, _⟩ := (F.stp _ hm).2.2.1
  refine ⟨b.map fun c => if c = 64 then mrk e.1 else c, ?_, fun c hc => ?_⟩
  · rw [sl_putE, eb, List.map_append]
    congr 1
    show (if decide ((stt fr e.2).2.2 = 0) = true then [59] else []).map _ = (if decide ((stt fr e.2).2.2 = 0) = true then [59] else [])
    by_cases z : (stt fr e.2).2.2 = 0
    · rw [if_pos (decide_eq_true z)]
      rfl
    · rw [if_neg (by simpa using z)]
      rfl
  · obtain ⟨d, hd, rfl⟩ := List.mem_map.mp hc
    by_cases z : d = 64
    · rw [if_pos z]
      exact ⟨.inr (mrk_in e0 e1).1, (mrk_in e0 e1).2⟩
    · rw [if_neg z]
      exact ⟨.inl (hb d hd), z⟩
theorem puts_sgn {fr : List T3} {last : Nat} (F : Frm fr last) : ∀ l : List E2, (∀ e ∈ l, Ent fr e ∧ ends fr e = false) → ∀ c ∈ ((l.map (putE fr)).map sl).flatten, Sg1 c
  | [], _, c, h => by cases h
  | e :: l, h, c, hc => by
    rw [List.map_cons, List.map_cons, List.flatten_cons] at hc
    obtain ⟨he, hn⟩ := h e (List.mem_cons_self ..)
    obtain ⟨b, eb, hb⟩ := put_sgn F he
    rw [hn, if_neg (by simp), List.append_nil] at eb
    rcases List.mem_append.mp hc with z | z
    · rw [eb] at z
      exact hb c z
    · exact puts_sgn F l (fun x hx => h x (List.mem_cons_of_mem _ hx)) c z
theorem line_text {fr : List T3} {last : Nat} (F : Frm fr last) {l : List E2} (ent : ∀ e ∈ l, Ent fr e) (ln : Lne fr l) : ∃ body : List Nat, sl (textE fr l) = body ++ [59] ∧ ∀ c ∈ body, Sg1 c := by
  obtain ⟨M, y, rfl⟩ := SrtO.snoc_of (l := l) (List.length_pos_iff.mpr ln.1)
  have hl := ln.2
  have hy : ends fr y = true := by
    have z := hl M.length (by simp)
    rw [List.getD_eq_getElem?_getD, List.getElem?_append_right (Nat.le_refl _), Nat.sub_self] at z
    have z : ends fr y = decide (M.length + 1 = (M ++ [y]).length) := z
    rw [z]
    simp
  have hM : ∀ e ∈ M, Ent fr e ∧ ends fr e = false := fun e he => by
    refine ⟨ent e (List.mem_append_left _ he), ?_⟩
    obtain ⟨j, hj, ej⟩ := List.getElem_of_mem he
    have z := hl j (by rw [List.length_append]; omega)
    rw [List.getD_eq_getElem?_getD, List.getElem?_append_left hj, List.getElem?_eq_getElem hj, ej] at z
    have z : ends fr e = decide (j + 1 = (M ++ [y]).length) := z
    rw [z]
    exact decide_eq_false (by rw [List.length_append, List.length_singleton]; omega)
  obtain ⟨b, eb, hb⟩ := put_sgn F (ent y (List.mem_append_right _ (List.mem_singleton.mpr rfl)))
  rw [if_pos hy] at eb
  refine ⟨((M.map (putE fr)).map sl).flatten ++ b, ?_, fun c hc => ?_⟩
  · rw [show sl (textE fr (M ++ [y])) = (((M ++ [y]).map (putE fr)).map sl).flatten from txt_join _, List.map_append, List.map_append, List.flatten_append, List.append_assoc, ← eb]
    simp
  · rcases List.mem_append.mp hc with z | z
    · exact puts_sgn F M hM c z
    · exact hb c z
theorem text_lt {p : Str} {body : List Nat} (e : sl p = body ++ [59]) (h : ∀ c ∈ body, Sg1 c) : ltB p = true ∧ 64 ∉ sl p := by
  refine ⟨?_, ?_⟩
  · unfold ltB
    rw [Bool.and_eq_true]
    refine ⟨?_, ?_⟩
    · show (decide (0 + (";" : Str).length ≤ p.length) && Builtin.Str.subAt p ";" (p.length - (";" : Str).length)) = true
      rw [at_end, e, semi1, len_sl, e]
      simp
    · rw [e, List.dropLast_concat, List.all_eq_true]
      intro c hc
      have z := (h c hc).1
      simpa using z
  · rw [e]
    intro z
    rcases List.mem_append.mp z with z | z
    · exact (h 64 z).2 rfl
    · simp at z
theorem lines_len (fr : List T3) (es : List E2) : (linesE fr es).length ≤ es.length := by
  have := List.length_filter_le (fun k => ends fr (es.getD k (0, 0))) (List.range es.length)
  rw [List.length_range] at this
  unfold linesE lpN cutsN
  rw [List.length_map, List.length_zip, List.tail_cons, List.length_map]
  omega
theorem lines_ok {fr : List T3} {last : Nat} {es : List E2} (F : Frm fr last) (wo : Wv fr es) (hl : es.length ≤ 40) : (∀ l ∈ linesE fr es, Lok fr l ∧ 64 ∉ sl (textE fr l) ∧ Okd (.str (textE fr l)) 12000 0) ∧ (linesE fr es).length ≤ 60 := by
  refine ⟨fun l hm => ?_, Nat.le_trans (lines_len fr es) (by omega)⟩
  rw [(spl_is fr es).1] at hm
  · obtain ⟨h1, h2, h3, h4⟩ := line_is wo hm
    obtain ⟨body, e, hb⟩ := line_text F h2 h4
    obtain ⟨lt, n64⟩ := text_lt e hb
    have ok := okd_text F h2 h3
    refine ⟨⟨h2, h4.1, h3, h1, lt, ?_⟩, n64, ok⟩
    have ll : ∀ l : List E2, (∀ e ∈ l, Ent fr e) → ((l.map (putE fr)).map sl).flatten.length ≤ 17 * l.length := by
      intro l
      induction l with
      | nil => exact fun _ => Nat.le_refl _
      | cons x l ih =>
        intro h
        obtain ⟨_, _, n0, n1⟩ := h x (List.mem_cons_self ..)
        have hm : stt fr x.2 ∈ fr := by
          obtain ⟨k, hk⟩ := Int.eq_ofNat_of_zero_le n0
          unfold stt
          rw [hk] at n1 ⊢
          have kl : k < fr.length := by omega
          rw [List.getD_eq_getElem?_getD, Int.toNat_natCast, List.getElem?_eq_getElem kl]
          exact List.getElem_mem kl
        have h1 := putE_len (pc_len (F.stp _ hm).2.2.1).2
        rw [len_sl] at h1
        have i := ih fun y hy => h y (List.mem_cons_of_mem _ hy)
        rw [List.map_cons, List.map_cons, List.flatten_cons, List.length_append, List.length_cons]
        omega
    have z := ll l h2
    rw [len_sl, show sl (textE fr l) = ((l.map (putE fr)).map sl).flatten from txt_join _]
    have l40 : l.length ≤ 40 := by
      obtain ⟨_, a, b, rfl⟩ := (spl_lne (fr := fr) es).1 l hm
      rw [List.length_take, List.length_drop]
      omega
    omega
end K50

set_option Elab.async false
set_option linter.all false
set_option maxRecDepth 100000
set_option maxHeartbeats 8000000
/-! What is shown. -/
namespace K50
open PySem L2 L2.EV
theorem sl_ok {d : PyData} {n dp : Nat} (h : Okd d n dp) (hn : n ≤ 2000000) : d.shown.length ≤ sizeLine := by
  have := h.sz
  rw [sizeLine_eq]
  omega
theorem dp5 {d : PyData} {n dp : Nat} (h : Okd d n dp) (hn : dp ≤ 5) : d.depth ≤ 5 := Nat.le_trans h.dp hn
theorem Rok.okd {xs : List T3} {gs : List Int} (h : Rok xs gs) : Okd (rdT xs gs) 30000 3 := by
  refine (okd_tuple (n := 12000) (dp := 2) (m := 2) (fun d hd => ?_) (Nat.le_refl _)).le (by decide) (by decide)
  have cs : d = .tuple (xs.map d3) ∨ d = .tuple (gs.map PyData.int) := by simpa using hd
  rcases cs with rfl | rfl
  · refine (okd_tuple (n := 100) (dp := 1) (m := 30) (fun d hd => ?_) (by rw [List.length_map]; exact h.len)).le (by decide) (by decide)
    obtain ⟨x, hx, rfl⟩ := List.mem_map.mp hd
    obtain ⟨h1, h2, q, r, e1, e2, e3, e4⟩ := h.rul x hx
    refine (okd_tuple (n := 20) (dp := 0) (m := 3) (fun d hd => ?_) (Nat.le_refl _)).le (by decide) (by decide)
    have cs : d = .int x.1 ∨ d = .str x.2.1 ∨ d = .int x.2.2 := by simpa using hd
    rcases cs with rfl | rfl | rfl
    · exact (okd_int (by omega) (by omega)).le (by decide) (by decide)
    · rw [e4]
      exact (okd_str (m := 1) (sgn_ok e3).2.2.1 (by rw [(sgn_ok e3).2.1]; decide)).le (by decide) (by decide)
    · exact (okd_int (by omega) (by omega)).le (by decide) (by decide)
  · refine (okd_tuple (n := 10) (dp := 0) (m := 5) (fun d hd => ?_) (by rw [List.length_map]; exact h.gl)).le (by decide) (by decide)
    obtain ⟨g, hg, rfl⟩ := List.mem_map.mp hd
    have := h.gd g hg
    exact okd_int (by omega) (by omega)
theorem dp_strL {K : PySem.W.Frag} {H : Hp} : ∀ l : List Str, DpAll K H (l.map V.str) (l.map PyData.str)
  | [] => .nil
  | c :: l => .cons (.str _) (dp_strL l)
/-- what is told of a Shared -/
def toD (fr : List T3) (es : List E2) (xs : List T3) (gs : List Int) : PyData := .list [.tuple ((goodF fr es xs gs).map PyData.str), .tuple ((pasF fr es xs gs).map PyData.int)]
theorem okd_to {fr : List T3} {es : List E2} {xs : List T3} {gs : List Int} (h : ∀ l ∈ linesE fr es, Okd (.str (textE fr l)) 12000 0) (ll : (linesE fr es).length ≤ 60) : Okd (toD fr es xs gs) 2000000 3 := by
  refine (okd_list (n := 720123) (dp := 1) (m := 2) (fun d hd => ?_) (Nat.le_refl _)).le (by decide) (by decide)
  have cs : d = .tuple ((goodF fr es xs gs).map PyData.str) ∨ d = .tuple ((pasF fr es xs gs).map PyData.int) := by simpa using hd
  rcases cs with rfl | rfl
  · refine okd_tuple (n := 12000) (dp := 0) (m := 60) (fun d hd => ?_) ?_
    · obtain ⟨y, hy, rfl⟩ := List.mem_map.mp hd
      obtain ⟨l, hl, rfl⟩ := List.mem_map.mp (List.mem_filter.mp hy).1
      exact h l hl
    · rw [List.length_map]
      refine Nat.le_trans (List.length_filter_le ..) ?_
      unfold txs
      rw [List.length_map]
      exact ll
  · refine (okd_tuple (n := 10) (dp := 0) (m := 60) (fun d hd => ?_) ?_).le (by decide) (by decide)
    · obtain ⟨y, hy, rfl⟩ := List.mem_map.mp hd
      obtain ⟨k, hk, rfl⟩ := List.mem_map.mp hy
      have := List.mem_range.mp (List.mem_filter.mp hk).1
      exact okd_int (by omega) (by omega)
    · rw [List.length_map]
      unfold pasF
      rw [List.length_map]
      refine Nat.le_trans (List.length_filter_le ..) ?_
      rw [List.length_range]
      exact ll
theorem da_to {K : PySem.W.Frag} {H : Hp} {L g p : Addr} {fr : List T3} {es : List E2} {xs : List T3} {gs : List Int} (hL : H L = some (.lst [.ref g, .ref p])) (hg : H g = some (.tup ((goodF fr es xs gs).map V.str))) (hp : H p = some (.tup ((pasF fr es xs gs).map V.int))) : Dp K H (.ref L) (toD fr es xs gs) :=
  .lst (SqL.of hL) (.cons (.tup (SqT.of hg) (dp_strL _)) (.cons (.tup (SqT.of hp) (dp_intL _)) .nil))
theorem okd_fr {fr : List T3} {last : Nat} (F : Frm fr last) : Okd (frD fr) 5000 2 := by
  refine (okd_tuple (n := 260) (dp := 1) (m := 16) (fun d hd => ?_) (by rw [List.length_map]; exact F.l1)).le (by decide) (by decide)
  obtain ⟨x, hx, rfl⟩ := List.mem_map.mp hd
  obtain ⟨s0, s1, s2, s3, s4⟩ := F.stp x hx
  refine (okd_tuple (n := 82) (dp := 0) (m := 3) (fun d hd => ?_) (Nat.le_refl _)).le (by decide) (by decide)
  have cs : d = .int x.1 ∨ d = .str x.2.1 ∨ d = .int x.2.2 := by simpa using hd
  rcases cs with rfl | rfl | rfl
  · exact (okd_int s0 (by omega)).le (by decide) (by decide)
  · exact okd_str (m := 8) (pc_ok s2) (pc_len s2).2
  · exact (okd_int s3 (by omega)).le (by decide) (by decide)
theorem okd_en {fr : List T3} {es : List E2} (he : ∀ e ∈ es, Ent fr e) (hf : fr.length ≤ 16) (hl : es.length ≤ 60) : Okd (enD es) 3000 2 := by
  refine (okd_list (n := 40) (dp := 1) (m := 60) (fun d hd => ?_) (by rw [List.length_map]; exact hl)).le (by decide) (by decide)
  obtain ⟨x, hx, rfl⟩ := List.mem_map.mp hd
  obtain ⟨s0, s1, s2, s3⟩ := he x hx
  refine (okd_tuple (n := 10) (dp := 0) (m := 2) (fun d hd => ?_) (Nat.le_refl _)).le (by decide) (by decide)
  have cs : d = .int x.1 ∨ d = .int x.2 := by simpa using hd
  rcases cs with rfl | rfl
  · exact okd_int s0 (by omega)
  · exact okd_int s2 (by omega)
abbrev qs1 : List T3 := [(0, "q", 0)]
theorem eqv_q {xs : List T3} {gs : List Int} (h : Rok xs gs) : PyData.eqv (rdT xs gs) (rdT qs1 []) = false := by
  show PyData.eqvAll [.tuple (xs.map d3), .tuple (gs.map PyData.int)] [.tuple [d3 (0, "q", 0)], .tuple []] = false
  simp only [PyData.eqvAll, PyData.eqv]
  match xs, h with
  | [], _ => simp [PyData.eqvAll]
  | [x], h =>
    have e : PyData.eqv (d3 x) (d3 (0, "q", 0)) = false := by
      rw [d3_eq]
      refine decide_eq_false fun z => ?_
      obtain ⟨_, _, q, r, _, _, e3, e4⟩ := h.rul x (List.mem_cons_self ..)
      rw [z] at e4
      exact (sgn_ok e3).2.2.2 e4.symm
    simp [PyData.eqvAll, e]
  | x :: y :: l, _ => simp [PyData.eqvAll]
theorem rd_q : RdD (rdT qs1 []) := ⟨by decide +kernel, fun rs g e r hr a x b er => by
  cases e
  obtain ⟨y, hy, rfl⟩ := List.mem_map.mp hr
  cases List.mem_singleton.mp hy
  cases er
  decide +kernel⟩
theorem shp_q : SeqAt.shaped (rdT qs1 []) = true := by decide +kernel
theorem shp_0 : SeqAt.shaped (enD []) = true := by decide +kernel
end K50

set_option Elab.async false
set_option linter.all false
set_option maxRecDepth 100000
set_option maxHeartbeats 8000000
/-! The law. -/
namespace K50
open PySem L2 L2.EV
abbrev sLaw : Stmt := top 67
abbrev NL : List Str := ["script", "m", "turn", "framing", "writers", "taker", "entries", "shared", "kept", "writer", "number", "lines", "texts", "good", "some", "passed", "twin", "line", "text", "at"]
structure Lall (K : PySem.W.Frag) (mg : Str → Option Value) where
  W : Lw K mg
  R : Lr K mg
  S : Sc K mg
  Sw : Sw K mg
  Sg : Sg K mg
  eC : Sw.T.C = S.I.T.C
  eG : Sg.T.C = S.I.T.C
  T : Lt K mg
  X : Lx K mg
  V : Wl K mg
  N : Lk K mg
  fB : Addr
  dB : FuncData
  Be : Fun K "_law_begun" "_law_begun" sBegun fB dB
  bB : Binds K dB ["script"] []
  mB : mg "_law_begun" = some (.ref fB)
  mi : mg "min" = none
  re : mg "repr" = none
def spLaw (K : PySem.W.Frag) : Sp := fun vs H Q _ => ∃ (a : Addr) (ns : List Int), vs = [.ref a] ∧ SqL K H a (ns.map V.int) ∧ ns.length ≤ 63 ∧ ∀ H', Q (.bl true) H'
section
variable {P : Program} {w : World} {K : PySem.W.Frag} {mg : Str → Option Value} {base : Heap}
theorem scLaw : FnScope NL ["script"] (defScope sLaw) := ⟨rfl, rfl, rfl, by decide +kernel, rfl, by decide +kernel, by decide +kernel⟩
theorem ok_law (L : Lall K mg) {f : Addr} {fd : FuncData} (F : Fun K "law" "law" sLaw f fd) : FnG P w K mg base CX0 7 f fd ["script"] (spLaw K) := by
  have GG : FnOk P w K mg base CX0 1 L.fB L.dB ["script"] (spBegun K) := ok_begun L.Be L.W.G.L.T
  have GX : FnOk P w K mg base CX0 1 L.W.G.L.f1 L.W.G.L.d1 ["m", "total"] spNext := ok_next L.W.G.L.N L.W.G.L.T
  have GF : FnOk P w K mg base CX0 3 L.W.G.f L.W.G.d ["m", "most"] spFraming := ok_framing L.W.G
  have GW : FnOk P w K mg base CX0 2 L.W.f2 L.W.d2 ["m", "framing", "writers", "total"] spWeave := ok_weave L.W
  have GR : FnOk P w K mg base CX0 2 L.R.f L.R.d ["m"] spRdr := ok_rdr L.R
  have GI : FnOk P w K mg base CX0 4 L.S.I.f L.S.I.d ["self", "framing", "writers", "reader"] (spInitS L.S.I.T.C) := ok_initS L.S.I
  have GWr : FnOk P w K mg base CX0 3 L.Sw.f L.Sw.d ["self", "writer", "step"] (spWrite L.S.I.T.C) := L.eC ▸ ok_write L.Sw
  have GGo : FnOk P w K mg base CX0 6 L.Sg.f1 L.Sg.d1 ["self"] (spGood L.S.I.T.C) := L.eG ▸ ok_good L.Sg
  have GPa : FnOk P w K mg base CX0 6 L.Sg.f2 L.Sg.d2 ["self"] (spPassed L.S.I.T.C) := L.eG ▸ ok_passed L.Sg
  have GC : FnOk P w K mg base CX0 6 L.S.fC L.S.dC ["self"] (spCopy L.S.I.T.C) := ok_copy L.S
  have GE : FnOk P w K mg base CX0 2 L.S.fE L.S.dE ["self", "other"] (spEqS L.S.I.T.C) := ok_eqS L.S
  have GL : FnOk P w K mg base CX0 1 L.T.f3 L.T.d3 ["framing", "weaving"] spLinesL := ok_linesL L.T
  have GT : FnOk P w K mg base CX0 2 L.X.f2 L.X.d2 ["framing", "entries"] spPutT := ok_textT L.X
  have GV : FnOk P w K mg base CX0 1 L.V.f2 L.V.d2 ["framing", "line"] spWholeL := ok_wholeL L.V
  have GN : FnOk P w K mg base CX0 1 L.N.f L.N.d ["taker", "text"] spTkn := ok_tkn L.N
  have mWr : Meth K L.S.I.T.C "write" L.Sw.f := L.eC ▸ L.Sw.m
  have mGo : Meth K L.S.I.T.C "good" L.Sg.f1 := L.eG ▸ L.Sg.m1
  have mPa : Meth K L.S.I.T.C "passed" L.Sg.f2 := L.eG ▸ L.Sg.m2
  have len := L.W.G.L.T.len
  have ra := L.W.G.L.ra
  have tu := L.W.G.tu
  have cl := L.S.I.T.cl
  refine okG F scLaw (fun vs H Q E h => ?_) (fun cdv A outer s H vs Q E hr hgd h => ?_)
  · obtain ⟨a, ns, rfl, _⟩ := h
    rfl
  · obtain ⟨a, ns, rfl, hS, hlen, q⟩ := h
    have ggd : (A.deeper (PyProof.Rows.envOfC "law" (defScope sLaw) s.heap.objs.size f cdv)).guards = some [] := hgd
    have hu64 := hr.units
    have r1 := hr.mono (j := 1) (by decide)
    have r2 := hr.mono (j := 2) (by decide)
    have r3 := hr.mono (j := 3) (by decide)
    have r5 := hr.mono (j := 5) (by decide)
    refine ⟨_, pss_cons (ps_set (i := 1) scLaw.nd rfl (Or.inl rfl) (pe_call GG r1 (by rfl) L.mB L.Be.kp L.bB .nil pass0 (pa_cons (pv 0) pa_nil)))
      (pss_cons (ps_for PassesOwn.never rfl (pi_range1 (by rfl) ra (pa_cons (pe_op op_add pe_int (pe_callB (call_min2 rfl) (by rfl) L.mi (by decide +kernel) (pa_cons (pe_callB call_len_seq (by rfl) len PySem.boot_len (pa_cons (pv 0) pa_nil)) (pa_cons pe_int pa_nil)))) pa_nil)) (pg_name (i := 2) scLaw.nd rfl (Or.inl rfl))
        (pss_cons (ps_asg (pe_tup (pa_cons (pe_call GF r3 (by rfl) L.W.G.g L.W.G.F.kp L.W.G.b .nil pass0 (pa_cons (pv 1) (pa_cons pe_int pa_nil))) (pa_cons (pe_op op_add pe_int (pe_call GX r1 (by rfl) L.W.G.L.mN L.W.G.L.N.kp L.W.G.L.bN .nil pass0 (pa_cons (pv 1) (pa_cons pe_int pa_nil)))) (pa_cons (pe_call GR r2 (by rfl) L.R.m L.R.F.kp L.R.b .nil pass0 (pa_cons (pv 1) pa_nil)) pa_nil))))
            (pg_tup rfl (pgs_cons (pg_name (i := 3) scLaw.nd rfl (Or.inr rfl)) (pgs_cons (pg_name (i := 4) scLaw.nd rfl (Or.inl rfl)) (pgs_cons (pg_name (i := 5) scLaw.nd rfl (Or.inr rfl)) pgs_nil)))))
        (pss_cons (ps_set (i := 6) scLaw.nd rfl (Or.inl rfl) (pe_call GW r2 (by rfl) L.W.gW L.W.W.kp L.W.bW .nil pass0 (pa_cons (pv 1) (pa_cons (pv 3) (pa_cons (pv 4) (pa_cons (pe_call GX r1 (by rfl) L.W.G.L.mN L.W.G.L.N.kp L.W.G.L.bN .nil pass0 (pa_cons (pv 1) (pa_cons pe_int pa_nil))) pa_nil))))))
        (pss_cons (ps_par (i := 7) (j := 8) (x := "shared") (y := "kept") rfl scLaw.nd rfl rfl (by decide) rfl rfl (pa_cons (pe_makeN L.S.mkC GI r5 (by rfl) L.S.I.T.m L.S.hb pass0 (pa_cons (pv 3) (pa_cons (pv 4) pa_nil)) (pk_cons (pv 5) pk_nil)) (pa_cons (pe_callB (call_showV ggd hu64) (by rfl) L.re (by decide +kernel) (pa_cons (pv 5) pa_nil)) pa_nil)) (by rfl))
        (pss_cons (ps_for PassesOwn.never rfl (pi_tup (pv 6)) (pg_tup rfl (pgs_cons (pg_name (i := 9) scLaw.nd rfl (Or.inl rfl)) (pgs_cons (pg_name (i := 10) scLaw.nd rfl (Or.inl rfl)) pgs_nil)))
          (pss_one (ps_expr (pe_meth (pv 7) cl mWr GWr r3 L.Sw.b .nil pass0 (pa_cons (pv 9) (pa_cons (pv 10) pa_nil))))))
        (pss_cons (ps_set (i := 11) scLaw.nd rfl (Or.inr rfl) (pe_ix ix_tup (pe_call GL r1 (by rfl) L.T.gL L.T.L.kp L.T.bL .nil pass0 (pa_cons (pv 3) (pa_cons (pv 6) pa_nil))) pe_int (fun _ _ => rfl)))
        (pss_cons (ps_set (i := 12) scLaw.nd rfl (Or.inr rfl) (pe_lc (own := [("line", 17)]) (g := gName 17) (te := tCall spPutT [] E0 (tCons (tVar 3) (tCons (tVar 17) tNil))) rfl scLaw.nd (pi_list (pv 11))
            (blkOk_by (N := NL) (sc := defScope sLaw) (by decide +kernel))
            (fun _ _ _ _ _ => pg_name (i := 17) scLaw.nd rfl (Or.inl rfl)) (fun _ _ _ _ _ => pts_nil)
            (fun _ _ _ _ _ => pe_call GT r2 (by rfl) L.X.gT L.X.T.kp L.X.bT .nil pass0 (pa_cons (pv 3) (pa_cons (pv 17) pa_nil)))))
        (pss_cons (ps_set (i := 13) scLaw.nd rfl (Or.inl rfl) (pe_callTy call_tuple_of (by rfl) tu (by decide +kernel) (pa_cons (pe_lc (own := [("text", 18)]) (g := gName 18) (tt := tTest (tCall spTkn [] E0 (tCons (tVar 5) (tCons (tVar 18) tNil)))) (te := tVar 18) rfl scLaw.nd (pi_list (pv 12))
            (blkOk_by (N := NL) (sc := defScope sLaw) (by decide +kernel))
            (fun _ _ _ _ _ => pg_name (i := 18) scLaw.nd rfl (Or.inl rfl)) (fun _ _ _ _ _ => pts_one (pt_val (pe_call GN r1 (by rfl) L.N.m L.N.F.kp L.N.b .nil pass0 (pa_cons (pv 5) (pa_cons (pv 18) pa_nil)))))
            (fun _ _ _ _ _ => pv 18)) pa_nil)))
        (pss_cons (ps_setLc (i := 14) (y := "some") (own := [("at", 19)]) (g := gName 19) (tt := tNot (tTest (tCall spWholeL [] E0 (tCons (tVar 3) (tCons (tOp (rIxL K) (tVar 11) (tVar 19)) tNil))))) (te := tVar 19) rfl scLaw.nd rfl rfl (by rfl) (pi_range1 (by rfl) ra (pa_cons (pe_callB call_len_seq (by rfl) len PySem.boot_len (pa_cons (pv 11) pa_nil)) pa_nil))
            (blkOk_by (N := NL) (sc := defScope sLaw) (by decide +kernel))
            (fun _ _ _ _ _ => pg_name (i := 19) scLaw.nd rfl (Or.inl rfl)) (fun _ _ _ _ _ => pts_one (pt_not (pt_val (pe_call GV r1 (by rfl) L.V.gW L.V.W.kp L.V.bW .nil pass0 (pa_cons (pv 3) (pa_cons (pe_ix ix_list (pv 11) (pv 19) (fun _ _ => rfl)) pa_nil))))))
            (fun _ _ _ _ _ => pv 19))
        (pss_cons (ps_set (i := 15) scLaw.nd rfl (Or.inl rfl) (pe_callTy call_tuple_of (by rfl) tu (by decide +kernel) (pa_cons (pe_lc (own := [("at", 19)]) (g := gName 19) (tt := tTest (tCall spTkn [] E0 (tCons (tVar 5) (tCons (tOp (rIxL K) (tVar 12) (tVar 19)) tNil)))) (te := tVar 19) rfl scLaw.nd (pi_list (pv 14))
            (blkOk_by (N := NL) (sc := defScope sLaw) (by decide +kernel))
            (fun _ _ _ _ _ => pg_name (i := 19) scLaw.nd rfl (Or.inl rfl)) (fun _ _ _ _ _ => pts_one (pt_val (pe_call GN r1 (by rfl) L.N.m L.N.F.kp L.N.b .nil pass0 (pa_cons (pv 5) (pa_cons (pe_ix ix_list (pv 12) (pv 19) (fun _ _ => rfl)) pa_nil)))))
            (fun _ _ _ _ _ => pv 19)) pa_nil)))
        (pss_cons (ps_if (pw_or (pt_cmpR op_ne (pe_callB (call_showV ggd hu64) (by rfl) L.re (by decide +kernel) (pa_cons (pe_lst (pa_cons (pe_meth0 (pv 7) cl mGo GGo hr L.Sg.b1 .nil pass0) (pa_cons (pe_meth0 (pv 7) cl mPa GPa hr L.Sg.b2 .nil pass0) pa_nil))) pa_nil)) (pe_callB (call_showV ggd hu64) (by rfl) L.re (by decide +kernel) (pa_cons (pe_lst (pa_cons (pv 13) (pa_cons (pv 15) pa_nil))) pa_nil)) (nomark _))
            (pw_or1 (pt_cmpR op_ne (pe_callB (call_showV ggd hu64) (by rfl) L.re (by decide +kernel) (pa_cons (pv 5) pa_nil)) (pv 8) (nomark _)))).pt (pss_one (ps_ret pe_bl)) pss_nil)
        (pss_cons (ps_set (i := 16) scLaw.nd rfl (Or.inl rfl) (pe_meth0 (pv 7) cl L.S.mC GC hr L.S.bC .nil pass0))
        (pss_one (ps_if (pw_or (pt_not (pt_cmpR (op_eqIns GE r2 L.S.eE L.S.iE L.S.bE pass0) (pv 16) (pv 7) (nomark _)))
            (pw_or1 (pt_cmpR (op_eqIns GE r2 L.S.eE L.S.iE L.S.bE pass0) (pv 16) (pe_makeN L.S.mkC GI r5 (by rfl) L.S.I.T.m L.S.hb pass0 (pa_cons (pv 3) (pa_cons (pv 4) pa_nil)) (pk_cons (pe_tup (pa_cons (pe_tup (pa_cons (pe_tup (pa_cons pe_int (pa_cons pe_str (pa_cons pe_int pa_nil)))) pa_nil)) (pa_cons (pe_tup pa_nil) pa_nil))) pk_nil)) (nomark _)))).pt (pss_one (ps_ret pe_bl)) pss_nil))))))))))))))
      (pss_one (ps_ret pe_bl))), ?_⟩
    refine ⟨_, rfl, a, ns, rfl, hS, by omega, fun m mc l0 H0 M0 hm hmc hl sm0 => ?_⟩
    have nl : (ns.map V.int).length ≤ 63 := by rw [List.length_map]; exact hlen
    refine ⟨_, rfl, a, _, rfl, .inl (sm0.seq hS), _, 4, rfl, 2, _, rfl, rfl, _, rfl, by split <;> omega, by split <;> omega, ?_⟩
    have hN : (2 + if (4 : Int) < ((ns.map V.int).length : Nat) then 4 else (((ns.map V.int).length : Nat) : Int)).toNat ≤ 7 := by split <;> omega
    generalize (2 + if (4 : Int) < ((ns.map V.int).length : Nat) then 4 else (((ns.map V.int).length : Nat) : Int)).toNat = N at hN ⊢
    refine for_it walk_range (fun i σ H' => ∃ (v2 v3 v4 v5 v6 v7 v8 v9 v10 v11 v12 v13 v14 v15 v16 : Option V) (l : Addr) (k : Int), σ = [some (.ref a), some (.ref m), v2, v3, v4, v5, v6, v7, v8, v9, v10, v11, v12, v13, v14, v15, v16, none, none, none] ∧ MAt H' m mc l k ∧ k ≤ 2000 * i)
      ⟨none, none, none, none, none, none, none, none, none, none, none, none, none, none, none, l0, 0, rfl, M0, by omega⟩ (fun _ _ _ _ _ => trivial) ?_ (fun σ H' _ => q H')
    rintro i x σ H1z H1 hi ⟨v2, v3, v4, v5, v6, v7, v8, v9, v10, v11, v12, v13, v14, v15, v16, l1, k1, rfl, M1, kk1⟩ ⟨rfl, rfl⟩
    refine ⟨_, rfl, m, mc, l1, k1, 3, rfl, by decide, M1, by omega, fun f2 fr last H2 l2 k2 fa fm lb kk2 d2 => ?_⟩
    refine ⟨_, rfl, m, mc, l2, k2, 4, rfl, d2.at_, by decide, by decide, by omega, fun r3 H3 l3 k3 a3 b3 g3 N3 f3 q3 => ⟨1, r3, rfl, rfl, ?_⟩⟩
    have d3 : Dr H2 H3 m mc l2 l3 k3 := ⟨N3, f3, q3⟩
    obtain ⟨n3, rfl⟩ := Int.eq_ofNat_of_zero_le a3
    have fa3 := d3.fr d2.at_ fa
    refine ⟨_, rfl, m, mc, l3, k3, rfl, N3, by omega, fun rr xs gs H4 l4 k4 ra4 rok kk4 d4 => ?_⟩
    have fa4 := d4.fr N3 fa3
    refine ⟨(by show 3 ≤ sizeLine; decide), fun tp htp => ?_⟩
    have u5 := same_upd (o := HO.tup [V.ref f2, V.int (1 + (n3 : Int)), V.ref rr]) htp
    have e5 := upd_same (H := H4) (a := tp) (o := HO.tup [V.ref f2, V.int (1 + (n3 : Int)), V.ref rr])
    have M5 := d4.at_.same u5
    have fa5 := fa4.same u5
    have ra5 := ra4.same u5
    refine ⟨tp, _, rfl, SqT.of e5, rfl, _, _, rfl, _, _, rfl, _, _, rfl, rfl, ?_⟩
    clear e5 u5
    generalize upd H4 tp (HO.tup [V.ref f2, V.int (1 + (n3 : Int)), V.ref rr]) = H5 at M5 fa5 ra5 ⊢
    refine ⟨_, rfl, _, rfl, _, rfl, _, rfl, m, mc, l4, k4, 31, rfl, M5, by decide, by decide, by omega, fun r6 H6 l6 k6 a6 b6 g6 N6 f6 q6 => ?_⟩
    have d6 : Dr H5 H6 m mc l4 l6 k6 := ⟨N6, f6, q6⟩
    obtain ⟨n6, rfl⟩ := Int.eq_ofNat_of_zero_le a6
    have fa6 := d6.fr M5 fa5
    have ra6 := ra5.keepT (d6.keepT M5)
    refine ⟨m, mc, l6, f2, k6, fr, last, 1 + n3, n6, by rw [Int.natCast_add]; rfl, N6, by omega, fa6, fm, by omega, by omega, by omega, fun wv es H7 l7 k7 wa wo lw le kk7 d7 => ?_⟩
    have M7 := d7.at_
    have fa7 := d7.fr N6 fa6
    have ra7 := ra6.keepT (d7.keepT N6)
    have w1 : (1 : Int) ≤ 1 + (n3 : Int) := by omega
    have w8 : 1 + (n3 : Int) ≤ 8 := by omega
    have lw : ∀ e ∈ es, e.1 < 1 + (n3 : Int) := fun e he => by have := lw e he; omega
    generalize 1 + (n3 : Int) = nw at w1 w8 lw ⊢
    have es30 : es.length ≤ 30 := by omega
    have kk : k7 ≤ 2000 * ((i + 1 : Nat) : Int) := by omega
    clear d7 d6 d4 d3 d2 N6 N3 M5 M1 kk1 kk2 kk4 kk7 fa6 fa5 fa4 fa3 fa ra6 ra5 ra4 q3 q6 f3 f6
    refine ⟨_, rfl, _, rfl, _, rfl, rfl, rfl, fun x dx nx ndx nex => ?_⟩
    have s0 : Same H7 (upd (upd H7 dx (.own x)) x (.ins L.S.I.T.C dx [])) := fun b o e => by
      rw [upd_ne (ne_of_none e nx), upd_ne (ne_of_none e ndx)]
      exact e
    refine ⟨x, dx, f2, rr, nw, fr, last, xs, gs, rfl, upd_same, fa7.same s0, fm, w1, w8, ra7.same s0, rok.rd, fun H8 E R sh8 nE nR ER k8 => ⟨rfl, ?_⟩⟩
    have s8 : Same H7 H8 := fun b o e => k8 b o (s0 b o e) (ne_of_none e nx) (ne_of_none e nx)
    have nE7 : H7 E = none := same_none s0 nE
    clear k8 nR ER nE ndx nex s0
    have okr := rok.okd
    refine ⟨_, rfl, .ref rr, rdT xs gs, rfl, Da.dp _ _ (ra7.same s8).da, okr.sh, okr.nd, sl_ok okr (by decide), dp5 okr (by decide), _, _, rfl, ?_⟩
    obtain ⟨tw, hw, wl, wt⟩ := id wa
    refine ⟨_, rfl, wv, rfl, ⟨_, SqT.of (s8 _ _ hw)⟩, for_it (walk_tup (xs := tw.map V.ref)) (fun i σ H' => ∃ (v9 v10 : Option V) (R : Addr), σ = [some (.ref a), some (.ref m), some (.int _), some (.ref f2), some (.int nw), some (.ref rr), some (.ref wv), some (.ref x), some (.str (rdT xs gs).shown), v9, v10, v11, v12, v13, v14, v15, v16, none, none, none] ∧
      ShA H' L.S.I.T.C x dx f2 rr E R nw fr (es.take i) ∧ Same H7 H')
      ⟨_, _, R, rfl, sh8, s8⟩ (fun i σ H' _ ⟨_, _, _, _, _, z⟩ => SqT.of (z _ _ hw)) ?_ ?_⟩
    · rintro j y σ H9z H9 hj ⟨v9, v10, R, rfl, sh9, s9⟩ ⟨rfl, hy⟩
      obtain ⟨t, e, he, _, rfl, e4⟩ := at_ent (i := j) wl wt hy
      refine ⟨t, _, rfl, SqT.of (s9 _ _ e4), rfl, _, _, rfl, _, _, rfl, rfl, ?_⟩
      have wj := wv_take wo (j + 1)
      rw [take_one he] at wj ⊢
      refine ⟨_, rfl, x, dx, _, rfl, sh9.ob, l_no _ _ _ _ _ (by decide +kernel) (by decide +kernel) (by decide +kernel) (by decide +kernel) (by decide +kernel) (by decide +kernel), _, rfl, _, rfl, ?_⟩
      refine ⟨x, dx, f2, rr, E, R, nw, fr, last, es.take j, e, rfl, sh9, fa7.same s9, fm, wj, lw e (List.mem_of_getElem? he), w8, fun Ha R2 sha nR ka => ?_⟩
      exact ⟨_, _, R2, rfl, sha, fun b o z => ka b o (s9 _ _ z) (ne_of_none z nx) (ne_of_none z nE7)⟩
    rintro σ H9 ⟨v9, v10, R, rfl, sh9, s9⟩
    rw [List.length_map, wl, List.take_length] at sh9
    have fa9 := fa7.same s9
    have ra9 := ra7.same s9
    obtain ⟨lok, ll60⟩ := lines_ok fm wo (by omega)
    have si := (spl_is fr es).1
    refine ⟨_, rfl, _, rfl, f2, wv, fr, last, es, rfl, fa9, fm, wa.same s9, wo, fun Ha pa qa rst qs sa hpa hqa ql qA _ => ⟨pa, _, 0, .ref qa, rfl, rfl, SqT.of hpa, rfl, ?_⟩⟩
    rw [← si] at ql qA
    have sA := s9.trans sa
    clear hpa
    refine gName_go2 ?_
    -- texts
    refine ⟨_, rfl, qa, rfl, ⟨_, SqL.of hqa⟩, fun D hD => ?_⟩
    refine lc_it (walk_list (xs := qs.map V.ref)) (fun i H' => H' D = some (.lst ((((linesE fr es).take i).map (textE fr)).map V.str)) ∧ Same Ha H') ⟨upd_same, same_upd hD⟩ (fun i H' _ z => SqL.of (z.2 _ _ hqa)) ?_ ?_
    · rintro j y Hbz Hb hj ⟨hl, sb⟩ ⟨rfl, hy⟩
      rw [List.length_map] at hj
      have iq : qs[j]? = some qs[j] := List.getElem?_eq_getElem hj
      rw [List.getElem?_map, iq] at hy
      obtain rfl : V.ref qs[j] = y := Option.some.inj hy
      have il : (linesE fr es)[j]? = some (linesE fr es)[j] := List.getElem?_eq_getElem (by omega)
      have lm := List.getElem_mem (l := linesE fr es) (n := j) (by omega)
      have wl := (qA j _ _ iq il).same sb
      have lo := (lok _ lm).1
      generalize (linesE fr es)[j] = l at *
      have l6 := lo.len
      refine ⟨rfl, _, rfl, _, rfl, f2, qs[j], fr, last, l, rfl, fa7.same (sA.trans sb), fm, wl, lo.ent, by omega, fun Hc sc => ?_⟩
      refine ⟨_, sc _ _ hl, ?_, ?_, same_set hD (sb.trans sc)⟩
      · rw [List.length_map, List.length_map, List.length_take, sizeLine_eq]
        omega
      · rw [take_one il, List.map_append, List.map_append]
        exact upd_same
    rintro Hb ⟨hl, sb⟩
    rw [List.length_map, ql, List.take_length] at hl
    have hl : Hb D = some (.lst ((txs fr es).map V.str)) := hl
    have sB := sA.trans sb
    have hqb := sb _ _ hqa
    refine gName_go2 ?_
    -- good
    refine ⟨_, rfl, D, rfl, ⟨_, SqL.of hl⟩, fun D2 hD2 => ?_⟩
    refine lc_it (walk_list (xs := (txs fr es).map V.str)) (fun i H' => H' D2 = some (.lst ((((txs fr es).take i).filter (tkF xs gs)).map V.str)) ∧ Same Hb H') ⟨upd_same, same_upd hD2⟩ (fun i H' _ z => SqL.of (z.2 _ _ hl)) ?_ ?_
    · rintro j y Hcz Hc hj ⟨hl3, sc⟩ ⟨rfl, hy⟩
      rw [List.length_map] at hj
      have il : (txs fr es)[j]? = some (txs fr es)[j] := List.getElem?_eq_getElem hj
      have lm := List.getElem_mem (l := txs fr es) (n := j) hj
      rw [List.getElem?_map, il] at hy
      generalize (txs fr es)[j] = y2 at *
      obtain rfl : V.str y2 = y := Option.some.inj hy
      obtain ⟨l, hl2, rfl⟩ := List.mem_map.mp lm
      obtain ⟨lo, n64, _⟩ := lok _ hl2
      refine ⟨rfl, ?_⟩
      refine ⟨_, rfl, _, rfl, rr, xs, gs, textE fr l, rfl, ra7.same (sB.trans sc), rok, lo.sz, n64, fun Hd sd => ⟨_, rfl, ?_⟩⟩
      have l9 : (txs fr es).length ≤ 60 := by
        unfold txs
        rw [List.length_map]
        exact ll60
      rw [take_one il, List.filter_append, List.filter_cons]
      refine ite2 (fun z => ?_) (fun z => ?_)
      · rw [if_pos z]
        refine ⟨_, rfl, _, sd _ _ hl3, ?_, ?_, same_set hD2 (sc.trans sd)⟩
        · have := List.length_filter_le (tkF xs gs) ((txs fr es).take j)
          rw [List.length_take] at this
          rw [List.length_map, sizeLine_eq]
          omega
        · rw [List.map_append]
          exact upd_same
      · rw [if_neg z, List.filter_nil, List.append_nil]
        exact ⟨sd _ _ hl3, sc.trans sd⟩
    rintro Hc ⟨hl3, sc⟩
    rw [List.length_map, List.take_length] at hl3
    refine ⟨D2, _, rfl, .inl ⟨SqL.of hl3, fun gp hgp => ?_⟩⟩
    have ug := same_upd (o := HO.tup ((goodF fr es xs gs).map V.str)) hgp
    have eg := upd_same (H := Hc) (a := gp) (o := HO.tup ((goodF fr es xs gs).map V.str))
    have sD := (sB.trans sc).trans ug
    have hqd := (sc.trans ug) _ _ hqb
    have hld := (sc.trans ug) _ _ hl
    have scd := (sb.trans sc).trans ug
    have key : upd Hc gp (.tup (((txs fr es).filter (tkF xs gs)).map V.str)) = upd Hc gp (.tup ((goodF fr es xs gs).map V.str)) := rfl
    rw [key]
    generalize upd Hc gp (.tup ((goodF fr es xs gs).map V.str)) = Hd at eg sD hqd hld scd ⊢
    clear key ug hgp hl3 sc hD2
    -- some
    refine ⟨_, rfl, qa, _, rfl, .inl (SqL.of hqd), _, rfl, by rw [List.length_map]; omega, by rw [List.length_map]; omega, fun D3 hD3 => ?_⟩
    rw [List.length_map, ql]
    refine lc_it walk_range (fun i H' => H' D3 = some (.lst (((List.range i).filter fun i => !wholeE fr ((linesE fr es).getD i [])).map fun i : Nat => V.int (i : Int))) ∧ Same Hd H') ⟨upd_same, same_upd hD3⟩ (fun _ _ _ _ => trivial) ?_ ?_
    · rintro j y Hez He hj ⟨hl4, se⟩ ⟨rfl, rfl⟩
      have hj : j < (linesE fr es).length := by rw [Int.toNat_natCast] at hj; exact hj
      have iq : qs[j]? = some qs[j] := List.getElem?_eq_getElem (by omega)
      have il : (linesE fr es)[j]? = some (linesE fr es)[j] := List.getElem?_eq_getElem hj
      have lm := List.getElem_mem (l := linesE fr es) (n := j) hj
      have wl := (qA j _ _ iq il).same (scd.trans se)
      have lo := (lok _ lm).1
      have eg : (linesE fr es).getD j [] = (linesE fr es)[j] := by
        rw [List.getD_eq_getElem?_getD, il]
        rfl
      have flt : (List.range (j + 1)).filter (fun i => !wholeE fr ((linesE fr es).getD i [])) = (List.range j).filter (fun i => !wholeE fr ((linesE fr es).getD i [])) ++ (if (!wholeE fr (linesE fr es)[j]) = true then [j] else []) := by
        rw [List.range_succ, List.filter_append, List.filter_cons, List.filter_nil, eg]
      rw [flt]
      have fl := List.length_filter_le (fun i => !wholeE fr ((linesE fr es).getD i [])) (List.range j)
      rw [List.length_range] at fl
      generalize (List.range j).filter (fun i => !wholeE fr ((linesE fr es).getD i [])) = acc at *
      generalize (linesE fr es)[j] = l at *
      refine ⟨rfl, ?_⟩
      refine ⟨_, rfl, _, rfl, _, rfl, qa, _, (0 + (j : Int)), .ref qs[j], rfl, rfl, SqL.of (se _ _ hqd), by rw [Int.zero_add]; exact atI_nat (by rw [List.getElem?_map, iq]; rfl), f2, qs[j], fr, l, rfl, fa7.same (sD.trans se), wl, lo.ent, lo.ne, lo.len, fun Hf sf => ⟨_, rfl, ?_⟩⟩
      refine ite2 (fun z => ?_) (fun z => ?_)
      · rw [if_pos z]
        refine ⟨_, rfl, _, sf _ _ hl4, by rw [List.length_map, sizeLine_eq]; omega, ?_, same_set hD3 (se.trans sf)⟩
        rw [List.map_append]
        show upd Hf D3 (.lst (_ ++ [V.int (0 + (j : Int))])) D3 = some (.lst (_ ++ [V.int (j : Int)]))
        rw [Int.zero_add]
        exact upd_same
      · rw [if_neg z, List.append_nil]
        exact ⟨sf _ _ hl4, se.trans sf⟩
    rintro He ⟨hl4, se⟩
    rw [Int.toNat_natCast] at hl4
    have sE := sD.trans se
    refine gName_go2 ?_
    -- passed
    have smm : ∀ k ∈ (List.range (linesE fr es).length).filter (fun i => !wholeE fr ((linesE fr es).getD i [])), k < (linesE fr es).length := fun k hk => List.mem_range.mp (List.mem_filter.mp hk).1
    have sml : ((List.range (linesE fr es).length).filter fun i => !wholeE fr ((linesE fr es).getD i [])).length ≤ 60 := by
      refine Nat.le_trans (List.length_filter_le ..) ?_
      rw [List.length_range]
      exact ll60
    have pas : pasF fr es xs gs = (((List.range (linesE fr es).length).filter fun i => !wholeE fr ((linesE fr es).getD i [])).filter fun i => tkF xs gs (textE fr ((linesE fr es).getD i []))).map fun i : Nat => (i : Int) := by
      unfold pasF
      rw [List.filter_filter]
      congr 1
      exact List.filter_congr fun x _ => Bool.and_comm ..
    generalize (List.range (linesE fr es).length).filter (fun i => !wholeE fr ((linesE fr es).getD i [])) = sm at hl4 smm sml pas
    have hle := se _ _ hld
    refine ⟨_, rfl, D3, rfl, ⟨_, SqL.of hl4⟩, fun D4 hD4 => ?_⟩
    refine lc_it (walk_list (xs := sm.map fun i : Nat => V.int (i : Int))) (fun i H' => H' D4 = some (.lst (((sm.take i).filter fun i => tkF xs gs (textE fr ((linesE fr es).getD i []))).map fun i : Nat => V.int (i : Int))) ∧ Same He H') ⟨upd_same, same_upd hD4⟩ (fun i H' _ z => SqL.of (z.2 _ _ hl4)) ?_ ?_
    · rintro j y Hfz Hf hj ⟨hl5, sf⟩ ⟨rfl, hy⟩
      rw [List.length_map] at hj
      have ik : sm[j]? = some sm[j] := List.getElem?_eq_getElem hj
      have kl := smm sm[j] (List.getElem_mem hj)
      rw [List.getElem?_map, ik] at hy
      have fl := List.length_filter_le (fun i => tkF xs gs (textE fr ((linesE fr es).getD i []))) (sm.take j)
      rw [List.length_take] at fl
      rw [take_one ik, List.filter_append, List.filter_cons]
      generalize sm[j] = k at *
      obtain rfl : V.int (k : Int) = y := Option.some.inj hy
      have il : (linesE fr es)[k]? = some (linesE fr es)[k] := List.getElem?_eq_getElem kl
      have lm := List.getElem_mem (l := linesE fr es) (n := k) kl
      have eg : (linesE fr es).getD k [] = (linesE fr es)[k] := by
        rw [List.getD_eq_getElem?_getD, il]
        rfl
      have tk : (txs fr es)[k]? = some (textE fr (linesE fr es)[k]) := by
        unfold txs
        rw [List.getElem?_map, il]
        rfl
      rw [eg]
      obtain ⟨lo, n64, _⟩ := lok _ lm
      generalize (linesE fr es)[k] = l at *
      refine ⟨rfl, ?_⟩
      refine ⟨_, rfl, _, rfl, _, rfl, D, _, (k : Int), .str (textE fr l), rfl, rfl, SqL.of (sf _ _ hle), atI_nat (by rw [List.getElem?_map, tk]; rfl), rr, xs, gs, textE fr l, rfl, ra7.same (sE.trans sf), rok, lo.sz, n64, fun Hg sg => ⟨_, rfl, ?_⟩⟩
      refine ite2 (fun z => ?_) (fun z => ?_)
      · rw [if_pos z]
        refine ⟨_, rfl, _, sg _ _ hl5, by rw [List.length_map, sizeLine_eq]; omega, ?_, same_set hD4 (sf.trans sg)⟩
        rw [List.map_append]
        exact upd_same
      · rw [if_neg z, List.filter_nil, List.append_nil]
        exact ⟨sg _ _ hl5, sf.trans sg⟩
    rintro Hf ⟨hl5, sf⟩
    rw [List.length_map, List.take_length] at hl5
    have hl5 : Hf D4 = some (.lst ((pasF fr es xs gs).map V.int)) := by
      rw [pas, List.map_map]
      exact hl5
    refine ⟨D4, _, rfl, .inl ⟨SqL.of hl5, fun pp hpp => ?_⟩⟩
    have up := same_upd (o := HO.tup ((pasF fr es xs gs).map V.int)) hpp
    have ep := upd_same (H := Hf) (a := pp) (o := HO.tup ((pasF fr es xs gs).map V.int))
    have sF := (sE.trans sf).trans up
    have egf := up _ _ (sf _ _ (se _ _ eg))
    have s9f : Same H9 (upd Hf pp (HO.tup ((pasF fr es xs gs).map V.int))) := (((sa.trans scd).trans se).trans sf).trans up
    generalize upd Hf pp (HO.tup ((pasF fr es xs gs).map V.int)) = Hg at ep sF egf s9f ⊢
    clear hl5 hpp up sf hD4 hle hl4 se hD3 smm sml pas
    have shR : ShR H9 L.S.I.T.C x f2 rr fr last es xs gs := ⟨⟨dx, E, R, nw, sh9⟩, fa9, fm, ra9, rok.rd, Nat.le_trans rok.len (by decide), fun l hl => (lok l hl).1, ll60⟩
    obtain ⟨dd, okt, hda⟩ : ∃ dd, Okd dd 2000000 3 ∧ ∀ (Hx : Hp) (Lx g p : Addr), Hx Lx = some (.lst [.ref g, .ref p]) → Hx g = some (.tup ((goodF fr es xs gs).map V.str)) → Hx p = some (.tup ((pasF fr es xs gs).map V.int)) → Dp K Hx (.ref Lx) dd :=
      ⟨_, okd_to (fun l hl => (lok l hl).2.2) ll60, fun _ _ _ _ a b c => da_to a b c⟩
    have noM : ∀ (g : Str), (flds f2 nw rr E R).lookup g = none → (flds f2 nw rr E R).lookup g = none := fun _ h => h
    refine ⟨_, rfl, x, dx, _, rfl, (sh9.same s9f).ob, l_no _ _ _ _ _ (by decide +kernel) (by decide +kernel) (by decide +kernel) (by decide +kernel) (by decide +kernel) (by decide +kernel), x, f2, rr, fr, last, es, xs, gs, rfl, shR.same s9f, fun Hh qg sh hqg => ?_⟩
    have s9h := s9f.trans sh
    refine ⟨_, rfl, x, dx, _, rfl, (sh9.same s9h).ob, l_no _ _ _ _ _ (by decide +kernel) (by decide +kernel) (by decide +kernel) (by decide +kernel) (by decide +kernel) (by decide +kernel), x, f2, rr, fr, last, es, xs, gs, rfl, shR.same s9h, fun Hi qp si2 hqp => ?_⟩
    refine ⟨(by show 2 ≤ sizeLine; decide), fun Lp hLp => ⟨.ref Lp, dd, rfl, ?_, okt.sh, okt.nd, sl_ok okt (by decide), dp5 okt (by decide), ?_⟩⟩
    · have u := same_upd (o := HO.lst [V.ref qg, V.ref qp]) hLp
      exact hda _ _ _ _ upd_same (u _ _ (si2 _ _ hqg)) (u _ _ hqp)
    have uL := same_upd (o := HO.lst [V.ref qg, V.ref qp]) hLp
    have s9j := (s9h.trans si2).trans uL
    have sgj := (sh.trans si2).trans uL
    generalize upd Hi Lp (HO.lst [V.ref qg, V.ref qp]) = Hj at s9j sgj ⊢
    refine ⟨_, rfl, _, rfl, (by show 2 ≤ sizeLine; decide), fun Lq hLq => ⟨.ref Lq, dd, rfl, ?_, okt.sh, okt.nd, sl_ok okt (by decide), dp5 okt (by decide), rfl, _, rfl, iteF' (by simp) ?_⟩⟩
    · have u := same_upd (o := HO.lst [V.ref gp, V.ref pp]) hLq
      exact hda _ _ _ _ upd_same (u _ _ (sgj _ _ egf)) (u _ _ (sgj _ _ ep))
    have s9k := s9j.trans (same_upd (o := HO.lst [V.ref gp, V.ref pp]) hLq)
    generalize upd Hj Lq (HO.lst [V.ref gp, V.ref pp]) = Hk at s9k ⊢
    refine ⟨_, rfl, .ref rr, rdT xs gs, rfl, Da.dp _ _ (ra9.same s9k).da, okr.sh, okr.nd, sl_ok okr (by decide), dp5 okr (by decide), _, rfl, rfl, _, rfl, iteF' (by simp) ?_⟩
    have sh9k := sh9.same s9k
    refine ⟨_, rfl, x, dx, _, rfl, sh9k.ob, l_no _ _ _ _ _ (by decide +kernel) (by decide +kernel) (by decide +kernel) (by decide +kernel) (by decide +kernel) (by decide +kernel), x, dx, f2, rr, E, R, nw, fr, last, es, xs, gs, rfl, sh9k, fa9.same s9k, fm, w1, w8, ra9.same s9k, rok.rd, fun Hl x2 dx2 E2 R2 sl2 shl => ?_⟩
    have s9l := s9k.trans sl2
    have z1 := (okd_fr fm).shaped (by decide)
    have z2 := okr.shaped (by decide)
    have z4 := (okd_en wo.ent fm.l1 (by omega)).shaped (by decide)
    have sh9l := sh9.same s9l
    refine gName_go2 ?_
    refine ⟨_, rfl, _, rfl, x2, x, dx2, dx, _, _, rfl, rfl, shl.ob, sh9l.ob, x2, dx2, f2, rr, E2, R2, x, dx, rr, E, R, nw, fr, es, es, xs, xs, gs, gs, rfl, shl, sh9l, fa9.same s9l, ra9.same s9l, ra9.same s9l, z1, z2, z2, z4, z4, ⟨⟨_, rfl⟩, _, rfl, ?_⟩⟩
    have rfr : PyData.eqv (rdT xs gs) (rdT xs gs) = true := SeqAt.eqv_refl _ okr.lay
    have ren : PyData.eqv (enD es) (enD es) = true := SeqAt.eqv_refl _ (okd_en wo.ent fm.l1 (by omega)).lay
    refine iteF' (by rw [rfr, ren]; rfl) ?_
    refine ⟨_, rfl, _, rfl, _, rfl, (by show 3 ≤ sizeLine; decide), fun t1 h1 => ⟨(by show 1 ≤ sizeLine; decide), fun t2 h2 => ⟨(by show 0 ≤ sizeLine; decide), fun t3 h3 => ⟨(by show 2 ≤ sizeLine; decide), fun t4 h4 => ⟨rfl, rfl, fun y dy ny ndy ney => ?_⟩⟩⟩⟩⟩
    have u1 := same_upd (o := HO.tup [V.int 0, V.str "q", V.int 0]) h1
    have u2 := same_upd (o := HO.tup [V.ref t1]) h2
    have u3 := same_upd (o := HO.tup []) h3
    have u4 := same_upd (o := HO.tup [V.ref t2, V.ref t3]) h4
    have rq : RdA (upd (upd (upd (upd Hl t1 (.tup [.int 0, .str "q", .int 0])) t2 (.tup [.ref t1])) t3 (.tup [])) t4 (.tup [.ref t2, .ref t3])) t4 qs1 [] := by
      refine ⟨t2, t3, [t1], upd_same, u4 _ _ (u3 _ _ upd_same), ⟨rfl, fun i t x a b => ?_⟩, u4 _ _ upd_same⟩
      cases i with
      | zero =>
        cases a
        cases b
        exact u4 _ _ (u3 _ _ (u2 _ _ upd_same))
      | succ i => cases a
    have slm := u1.trans (u2.trans (u3.trans u4))
    generalize upd (upd (upd (upd Hl t1 (.tup [.int 0, .str "q", .int 0])) t2 (.tup [.ref t1])) t3 (.tup [])) t4 (.tup [.ref t2, .ref t3]) = Hm at rq slm ny ndy ⊢
    have s0 : Same Hm (upd (upd Hm dy (.own y)) y (.ins L.S.I.T.C dy [])) := fun b o e => by
      rw [upd_ne (ne_of_none e ny), upd_ne (ne_of_none e ndy)]
      exact e
    have s9m := (s9l.trans slm).trans s0
    refine ⟨y, dy, f2, t4, nw, fr, last, qs1, [], rfl, upd_same, fa9.same s9m, fm, w1, w8, rq.same s0, rd_q, fun Hn Ey Ry shn _ _ _ kn => ⟨rfl, ?_⟩⟩
    have sn : Same Hm Hn := fun b o e => kn b o (s0 b o e) (ne_of_none e ny) (ne_of_none e ny)
    have s9n := (s9l.trans slm).trans sn
    refine ⟨x2, y, dx2, dy, _, _, rfl, rfl, (shl.same (slm.trans sn)).ob, shn.ob, x2, dx2, f2, rr, E2, R2, y, dy, t4, Ey, Ry, nw, fr, es, [], xs, qs1, gs, [], rfl, shl.same (slm.trans sn), shn, fa9.same s9n, ra9.same s9n, rq.same sn, z1, z2, shp_q, z4, shp_0, ⟨⟨_, rfl⟩, _, rfl, ?_⟩⟩
    refine iteF' (by rw [eqv_q rok]; rfl) ?_
    exact ⟨_, _, _, _, _, _, _, _, _, _, _, _, _, _, _, l7, k7, rfl, M7.same (s9.trans s9n), kk⟩
end
end K50

set_option Elab.async false
set_option linter.all false
set_option maxRecDepth 100000
set_option maxHeartbeats 8000000
/-! What the top has written. -/
namespace K50
open PySem L2 L2.EV PySem.Spec PyProof.Rows
theorem oxc {K : PySem.W.Frag} {C N : Addr} {nm q : Str} {bs : List Value} {sn : List Str} {sub : List Value} {ab : Bool} {col : Option Bool} {dd : Option Addr} {k0 k1 k2 k3 k5 : Option Value} {B newId initId : String} {bm : List Value}
    (cl : K.lookup C = some (excClassObj nm q C N bs bm true sn sub ab col dd k0 k1 k2 k3 k5 newId)) (F : ExcBaseFacts B newId initId bm) (pas : ∀ self, refuseLoop self "__setattr__" bm = pure ()) (obj : bm.contains (.type "object") = true)
    (sa : PySem.W.findIn K (.ref C) "__setattr__" = some (some (.builtin "object.__setattr__"))) (ga : PySem.W.findIn K (.ref C) "__getattribute__" = some (some (.builtin "BaseException.__getattribute__")))
    (gg : PySem.W.findIn K (.ref C) "__getattr__" = some none) (exC : PySem.W.subIn K (.ref C) (.type "BaseException") = some true) (kC : PySem.W.keepIn K (.ref C) = true) (hd : PySem.W.hasDictIn K C = true)
    (ca : PySem.W.findIn K (.ref C) "__class__" = some (some (.builtin "object.__class__"))) (cn : PySem.W.specialIn K (.builtin "object.__class__") "__get__" = some (some (.builtin "getset_descriptor.__get__")))
    (ct : PySem.W.takesIn K (.builtin "object.__class__") = some true) (om : PySem.W.mroIn K C (.type "object") = some true) : OxC K C B newId initId bm :=
  ⟨F, ⟨nm, q, N, bs, sn, sub, ab, col, dd, k0, k1, k2, k3, k5, cl⟩, pas, obj, sa, ga, gg, exC, kC, hd, ca, cn, ct, om⟩
theorem fund_two {K : PySem.W.Frag} {x qual : Str} {st : Stmt} {f T : Addr} {oc toc : Value} {od an tod : Option Addr} {osl tsl : Array (Option Value)} {n : Nat} {tk : Tok} {kV doc pm cdv ct : Value} (l : K.lookup f = some ⟨oc, od, .func (PySem.W.fnOf x qual (defArgs st) (defBody st) (defScope st) (.ref T) kV doc pm an cdv ct), osl⟩)
    (t : K.lookup T = some ⟨toc, tod, .seq #[.int 2 tk] n, tsl⟩) (c : PySem.W.codeIn K cdv qual = true) (k : PySem.W.keepIn K (.ref f) = true) :
    FunD K x qual (defArgs st) (defBody st) (defScope st) [V.int 2] [] f (PySem.W.fnOf x qual (defArgs st) (defBody st) (defScope st) (.ref T) kV doc pm an cdv ct) :=
  ⟨⟨oc, od, .ref T, kV, doc, pm, an, cdv, ct, osl, rfl, l, c, .inr ⟨by simp, T, _, [.int 2 tk], n, rfl, t, rfl, .cons ⟨_, rfl⟩ .nil⟩, .inl rfl⟩, k⟩
theorem all_mk {P : Program} {w : World} {K : PySem.W.Frag} {h : Heap} {mg : Str → Option Value} {fa C D S T_sI f_sI f_ini f_ino f_iN f_iP f_iS f_iL f_iW f_iJ f_iF f_wE f_wR f_tP f_rP f_rI f_rW f_eU f_eR f_eO f_eE f_eX f_eT f_vP f_vR f_vM f_ms f_lB f_lN f_lP f_lF f_lG f_lV f_lU f_lX f_lL f_lW f_lR f_lK f_la f_sW f_sG f_sP f_sC f_sE : Addr} {n_sI : Nat} {to_sI : Value} {td_sI : Option Addr} {ts_sI : Array (Option Value)} {tk_sI : Tok}
    {od_iN an_iN : Option Addr} {sl_iN : Array (Option Value)} {oc_iN kV_iN dc_iN pm_iN cd_iN ct_iN : Value}
    {od_iP an_iP : Option Addr} {sl_iP : Array (Option Value)} {oc_iP kV_iP dc_iP pm_iP cd_iP ct_iP : Value}
    {od_iS an_iS : Option Addr} {sl_iS : Array (Option Value)} {oc_iS kV_iS dc_iS pm_iS cd_iS ct_iS : Value}
    {od_iL an_iL : Option Addr} {sl_iL : Array (Option Value)} {oc_iL kV_iL dc_iL pm_iL cd_iL ct_iL : Value}
    {od_iW an_iW : Option Addr} {sl_iW : Array (Option Value)} {oc_iW kV_iW dc_iW pm_iW cd_iW ct_iW : Value}
    {od_iJ an_iJ : Option Addr} {sl_iJ : Array (Option Value)} {oc_iJ kV_iJ dc_iJ pm_iJ cd_iJ ct_iJ : Value}
    {od_iF an_iF : Option Addr} {sl_iF : Array (Option Value)} {oc_iF kV_iF dc_iF pm_iF cd_iF ct_iF : Value}
    {od_wE an_wE : Option Addr} {sl_wE : Array (Option Value)} {oc_wE kV_wE dc_wE pm_wE cd_wE ct_wE : Value}
    {od_wR an_wR : Option Addr} {sl_wR : Array (Option Value)} {oc_wR kV_wR dc_wR pm_wR cd_wR ct_wR : Value}
    {od_tP an_tP : Option Addr} {sl_tP : Array (Option Value)} {oc_tP kV_tP dc_tP pm_tP cd_tP ct_tP : Value}
    {od_rP an_rP : Option Addr} {sl_rP : Array (Option Value)} {oc_rP kV_rP dc_rP pm_rP cd_rP ct_rP : Value}
    {od_rI an_rI : Option Addr} {sl_rI : Array (Option Value)} {oc_rI kV_rI dc_rI pm_rI cd_rI ct_rI : Value}
    {od_rW an_rW : Option Addr} {sl_rW : Array (Option Value)} {oc_rW kV_rW dc_rW pm_rW cd_rW ct_rW : Value}
    {od_eU an_eU : Option Addr} {sl_eU : Array (Option Value)} {oc_eU kV_eU dc_eU pm_eU cd_eU ct_eU : Value}
    {od_eR an_eR : Option Addr} {sl_eR : Array (Option Value)} {oc_eR kV_eR dc_eR pm_eR cd_eR ct_eR : Value}
    {od_eO an_eO : Option Addr} {sl_eO : Array (Option Value)} {oc_eO kV_eO dc_eO pm_eO cd_eO ct_eO : Value}
    {od_eE an_eE : Option Addr} {sl_eE : Array (Option Value)} {oc_eE kV_eE dc_eE pm_eE cd_eE ct_eE : Value}
    {od_eX an_eX : Option Addr} {sl_eX : Array (Option Value)} {oc_eX kV_eX dc_eX pm_eX cd_eX ct_eX : Value}
    {od_eT an_eT : Option Addr} {sl_eT : Array (Option Value)} {oc_eT kV_eT dc_eT pm_eT cd_eT ct_eT : Value}
    {od_vP an_vP : Option Addr} {sl_vP : Array (Option Value)} {oc_vP kV_vP dc_vP pm_vP cd_vP ct_vP : Value}
    {od_vR an_vR : Option Addr} {sl_vR : Array (Option Value)} {oc_vR kV_vR dc_vR pm_vR cd_vR ct_vR : Value}
    {od_vM an_vM : Option Addr} {sl_vM : Array (Option Value)} {oc_vM kV_vM dc_vM pm_vM cd_vM ct_vM : Value}
    {od_ms an_ms : Option Addr} {sl_ms : Array (Option Value)} {oc_ms kV_ms dc_ms pm_ms cd_ms ct_ms : Value}
    {od_lB an_lB : Option Addr} {sl_lB : Array (Option Value)} {oc_lB kV_lB dc_lB pm_lB cd_lB ct_lB : Value}
    {od_lN an_lN : Option Addr} {sl_lN : Array (Option Value)} {oc_lN kV_lN dc_lN pm_lN cd_lN ct_lN : Value}
    {od_lP an_lP : Option Addr} {sl_lP : Array (Option Value)} {oc_lP kV_lP dc_lP pm_lP cd_lP ct_lP : Value}
    {od_lF an_lF : Option Addr} {sl_lF : Array (Option Value)} {oc_lF kV_lF dc_lF pm_lF cd_lF ct_lF : Value}
    {od_lG an_lG : Option Addr} {sl_lG : Array (Option Value)} {oc_lG kV_lG dc_lG pm_lG cd_lG ct_lG : Value}
    {od_lV an_lV : Option Addr} {sl_lV : Array (Option Value)} {oc_lV kV_lV dc_lV pm_lV cd_lV ct_lV : Value}
    {od_lU an_lU : Option Addr} {sl_lU : Array (Option Value)} {oc_lU kV_lU dc_lU pm_lU cd_lU ct_lU : Value}
    {od_lX an_lX : Option Addr} {sl_lX : Array (Option Value)} {oc_lX kV_lX dc_lX pm_lX cd_lX ct_lX : Value}
    {od_lL an_lL : Option Addr} {sl_lL : Array (Option Value)} {oc_lL kV_lL dc_lL pm_lL cd_lL ct_lL : Value}
    {od_lW an_lW : Option Addr} {sl_lW : Array (Option Value)} {oc_lW kV_lW dc_lW pm_lW cd_lW ct_lW : Value}
    {od_lR an_lR : Option Addr} {sl_lR : Array (Option Value)} {oc_lR kV_lR dc_lR pm_lR cd_lR ct_lR : Value}
    {od_lK an_lK : Option Addr} {sl_lK : Array (Option Value)} {oc_lK kV_lK dc_lK pm_lK cd_lK ct_lK : Value}
    {od_la an_la : Option Addr} {sl_la : Array (Option Value)} {oc_la kV_la dc_la pm_la cd_la ct_la : Value}
    {od_sW an_sW : Option Addr} {sl_sW : Array (Option Value)} {oc_sW kV_sW dc_sW pm_sW cd_sW ct_sW : Value}
    {od_sG an_sG : Option Addr} {sl_sG : Array (Option Value)} {oc_sG kV_sG dc_sG pm_sG cd_sG ct_sG : Value}
    {od_sP an_sP : Option Addr} {sl_sP : Array (Option Value)} {oc_sP kV_sP dc_sP pm_sP cd_sP ct_sP : Value}
    {od_sC an_sC : Option Addr} {sl_sC : Array (Option Value)} {oc_sC kV_sC dc_sC pm_sC cd_sC ct_sC : Value}
    {od_sE an_sE : Option Addr} {sl_sE : Array (Option Value)} {oc_sE kV_sE dc_sE pm_sE cd_sE ct_sE : Value}
    {od_ini an_ini : Option Addr} {sl_ini : Array (Option Value)} {oc_ini kV_ini dc_ini pm_ini cd_ini ct_ini : Value}
    {od_ino an_ino : Option Addr} {sl_ino : Array (Option Value)} {oc_ino kV_ino dc_ino pm_ino cd_ino ct_ino : Value}
    {od_sI an_sI : Option Addr} {sl_sI : Array (Option Value)} {oc_sI kV_sI dc_sI pm_sI cd_sI ct_sI : Value}
    {t_vS : Tok}
    {t_vG : Tok}
    {t_vT : Tok}
    {t_vD : Tok}
    {t_vK : Tok}
    {t_vE : Tok}
    {t_vQ : Tok}
    (X : K.In h) (G : h.Ns mainGlobals mg) (hfa : mg "law" = some (.ref fa))
    (a_iN : PySem.W.nsIn K mainGlobals "is_number" = some (some (.ref f_iN)))
    (l_iN : K.lookup f_iN = some ⟨oc_iN, od_iN, .func (PySem.W.fnOf "is_number" "is_number" (defArgs sNum) (defBody sNum) (defScope sNum) .none kV_iN dc_iN pm_iN an_iN cd_iN ct_iN), sl_iN⟩) (c_iN : PySem.W.codeIn K cd_iN "is_number" = true) (k_iN : PySem.W.keepIn K (.ref f_iN) = true)
    (a_iP : PySem.W.nsIn K mainGlobals "is_piece" = some (some (.ref f_iP)))
    (l_iP : K.lookup f_iP = some ⟨oc_iP, od_iP, .func (PySem.W.fnOf "is_piece" "is_piece" (defArgs sPc) (defBody sPc) (defScope sPc) .none kV_iP dc_iP pm_iP an_iP cd_iP ct_iP), sl_iP⟩) (c_iP : PySem.W.codeIn K cd_iP "is_piece" = true) (k_iP : PySem.W.keepIn K (.ref f_iP) = true)
    (a_iS : PySem.W.nsIn K mainGlobals "is_step" = some (some (.ref f_iS)))
    (l_iS : K.lookup f_iS = some ⟨oc_iS, od_iS, .func (PySem.W.fnOf "is_step" "is_step" (defArgs sStep) (defBody sStep) (defScope sStep) .none kV_iS dc_iS pm_iS an_iS cd_iS ct_iS), sl_iS⟩) (c_iS : PySem.W.codeIn K cd_iS "is_step" = true) (k_iS : PySem.W.keepIn K (.ref f_iS) = true)
    (a_iL : PySem.W.nsIn K mainGlobals "listed_standings" = some (some (.ref f_iL)))
    (l_iL : K.lookup f_iL = some ⟨oc_iL, od_iL, .func (PySem.W.fnOf "listed_standings" "listed_standings" (defArgs sListed) (defBody sListed) (defScope sListed) .none kV_iL dc_iL pm_iL an_iL cd_iL ct_iL), sl_iL⟩) (c_iL : PySem.W.codeIn K cd_iL "listed_standings" = true) (k_iL : PySem.W.keepIn K (.ref f_iL) = true)
    (a_iW : PySem.W.nsIn K mainGlobals "ways_from" = some (some (.ref f_iW)))
    (l_iW : K.lookup f_iW = some ⟨oc_iW, od_iW, .func (PySem.W.fnOf "ways_from" "ways_from" (defArgs sWays) (defBody sWays) (defScope sWays) .none kV_iW dc_iW pm_iW an_iW cd_iW ct_iW), sl_iW⟩) (c_iW : PySem.W.codeIn K cd_iW "ways_from" = true) (k_iW : PySem.W.keepIn K (.ref f_iW) = true)
    (a_iJ : PySem.W.nsIn K mainGlobals "is_joined" = some (some (.ref f_iJ)))
    (l_iJ : K.lookup f_iJ = some ⟨oc_iJ, od_iJ, .func (PySem.W.fnOf "is_joined" "is_joined" (defArgs sJoined) (defBody sJoined) (defScope sJoined) .none kV_iJ dc_iJ pm_iJ an_iJ cd_iJ ct_iJ), sl_iJ⟩) (c_iJ : PySem.W.codeIn K cd_iJ "is_joined" = true) (k_iJ : PySem.W.keepIn K (.ref f_iJ) = true)
    (a_iF : PySem.W.nsIn K mainGlobals "need_framing" = some (some (.ref f_iF)))
    (l_iF : K.lookup f_iF = some ⟨oc_iF, od_iF, .func (PySem.W.fnOf "need_framing" "need_framing" (defArgs sNeedF) (defBody sNeedF) (defScope sNeedF) .none kV_iF dc_iF pm_iF an_iF cd_iF ct_iF), sl_iF⟩) (c_iF : PySem.W.codeIn K cd_iF "need_framing" = true) (k_iF : PySem.W.keepIn K (.ref f_iF) = true)
    (a_wE : PySem.W.nsIn K mainGlobals "is_entry" = some (some (.ref f_wE)))
    (l_wE : K.lookup f_wE = some ⟨oc_wE, od_wE, .func (PySem.W.fnOf "is_entry" "is_entry" (defArgs sEntry) (defBody sEntry) (defScope sEntry) .none kV_wE dc_wE pm_wE an_wE cd_wE ct_wE), sl_wE⟩) (c_wE : PySem.W.codeIn K cd_wE "is_entry" = true) (k_wE : PySem.W.keepIn K (.ref f_wE) = true)
    (a_wR : PySem.W.nsIn K mainGlobals "first_wrong" = some (some (.ref f_wR)))
    (l_wR : K.lookup f_wR = some ⟨oc_wR, od_wR, .func (PySem.W.fnOf "first_wrong" "first_wrong" (defArgs sWrong) (defBody sWrong) (defScope sWrong) .none kV_wR dc_wR pm_wR an_wR cd_wR ct_wR), sl_wR⟩) (c_wR : PySem.W.codeIn K cd_wR "first_wrong" = true) (k_wR : PySem.W.keepIn K (.ref f_wR) = true)
    (a_tP : PySem.W.nsIn K mainGlobals "text_put" = some (some (.ref f_tP)))
    (l_tP : K.lookup f_tP = some ⟨oc_tP, od_tP, .func (PySem.W.fnOf "text_put" "text_put" (defArgs sPut) (defBody sPut) (defScope sPut) .none kV_tP dc_tP pm_tP an_tP cd_tP ct_tP), sl_tP⟩) (c_tP : PySem.W.codeIn K cd_tP "text_put" = true) (k_tP : PySem.W.keepIn K (.ref f_tP) = true)
    (a_rP : PySem.W.nsIn K mainGlobals "line_places" = some (some (.ref f_rP)))
    (l_rP : K.lookup f_rP = some ⟨oc_rP, od_rP, .func (PySem.W.fnOf "line_places" "line_places" (defArgs sPlaces) (defBody sPlaces) (defScope sPlaces) .none kV_rP dc_rP pm_rP an_rP cd_rP ct_rP), sl_rP⟩) (c_rP : PySem.W.codeIn K cd_rP "line_places" = true) (k_rP : PySem.W.keepIn K (.ref f_rP) = true)
    (a_rI : PySem.W.nsIn K mainGlobals "is_read_line" = some (some (.ref f_rI)))
    (l_rI : K.lookup f_rI = some ⟨oc_rI, od_rI, .func (PySem.W.fnOf "is_read_line" "is_read_line" (defArgs sIsRead) (defBody sIsRead) (defScope sIsRead) .none kV_rI dc_rI pm_rI an_rI cd_rI ct_rI), sl_rI⟩) (c_rI : PySem.W.codeIn K cd_rI "is_read_line" = true) (k_rI : PySem.W.keepIn K (.ref f_rI) = true)
    (a_rW : PySem.W.nsIn K mainGlobals "is_whole_line" = some (some (.ref f_rW)))
    (l_rW : K.lookup f_rW = some ⟨oc_rW, od_rW, .func (PySem.W.fnOf "is_whole_line" "is_whole_line" (defArgs sIsWhole) (defBody sIsWhole) (defScope sIsWhole) .none kV_rW dc_rW pm_rW an_rW cd_rW ct_rW), sl_rW⟩) (c_rW : PySem.W.codeIn K cd_rW "is_whole_line" = true) (k_rW : PySem.W.keepIn K (.ref f_rW) = true)
    (a_eU : PySem.W.nsIn K mainGlobals "is_rule" = some (some (.ref f_eU)))
    (l_eU : K.lookup f_eU = some ⟨oc_eU, od_eU, .func (PySem.W.fnOf "is_rule" "is_rule" (defArgs sRule) (defBody sRule) (defScope sRule) .none kV_eU dc_eU pm_eU an_eU cd_eU ct_eU), sl_eU⟩) (c_eU : PySem.W.codeIn K cd_eU "is_rule" = true) (k_eU : PySem.W.keepIn K (.ref f_eU) = true)
    (a_eR : PySem.W.nsIn K mainGlobals "need_reader" = some (some (.ref f_eR)))
    (l_eR : K.lookup f_eR = some ⟨oc_eR, od_eR, .func (PySem.W.fnOf "need_reader" "need_reader" (defArgs sNeedR) (defBody sNeedR) (defScope sNeedR) .none kV_eR dc_eR pm_eR an_eR cd_eR ct_eR), sl_eR⟩) (c_eR : PySem.W.codeIn K cd_eR "need_reader" = true) (k_eR : PySem.W.keepIn K (.ref f_eR) = true)
    (a_eO : PySem.W.nsIn K mainGlobals "rows_of" = some (some (.ref f_eO)))
    (l_eO : K.lookup f_eO = some ⟨oc_eO, od_eO, .func (PySem.W.fnOf "rows_of" "rows_of" (defArgs sRows) (defBody sRows) (defScope sRows) .none kV_eO dc_eO pm_eO an_eO cd_eO ct_eO), sl_eO⟩) (c_eO : PySem.W.codeIn K cd_eO "rows_of" = true) (k_eO : PySem.W.keepIn K (.ref f_eO) = true)
    (a_eE : PySem.W.nsIn K mainGlobals "led" = some (some (.ref f_eE)))
    (l_eE : K.lookup f_eE = some ⟨oc_eE, od_eE, .func (PySem.W.fnOf "led" "led" (defArgs sLed) (defBody sLed) (defScope sLed) .none kV_eE dc_eE pm_eE an_eE cd_eE ct_eE), sl_eE⟩) (c_eE : PySem.W.codeIn K cd_eE "led" = true) (k_eE : PySem.W.keepIn K (.ref f_eE) = true)
    (a_eX : PySem.W.nsIn K mainGlobals "need_line_text" = some (some (.ref f_eX)))
    (l_eX : K.lookup f_eX = some ⟨oc_eX, od_eX, .func (PySem.W.fnOf "need_line_text" "need_line_text" (defArgs sNLT) (defBody sNLT) (defScope sNLT) .none kV_eX dc_eX pm_eX an_eX cd_eX ct_eX), sl_eX⟩) (c_eX : PySem.W.codeIn K cd_eX "need_line_text" = true) (k_eX : PySem.W.keepIn K (.ref f_eX) = true)
    (a_eT : PySem.W.nsIn K mainGlobals "takes" = some (some (.ref f_eT)))
    (l_eT : K.lookup f_eT = some ⟨oc_eT, od_eT, .func (PySem.W.fnOf "takes" "takes" (defArgs sTakes) (defBody sTakes) (defScope sTakes) .none kV_eT dc_eT pm_eT an_eT cd_eT ct_eT), sl_eT⟩) (c_eT : PySem.W.codeIn K cd_eT "takes" = true) (k_eT : PySem.W.keepIn K (.ref f_eT) = true)
    (a_vP : PySem.W.nsIn K mainGlobals "place_of" = some (some (.ref f_vP)))
    (l_vP : K.lookup f_vP = some ⟨oc_vP, od_vP, .func (PySem.W.fnOf "place_of" "place_of" (defArgs sPlaceOf) (defBody sPlaceOf) (defScope sPlaceOf) .none kV_vP dc_vP pm_vP an_vP cd_vP ct_vP), sl_vP⟩) (c_vP : PySem.W.codeIn K cd_vP "place_of" = true) (k_vP : PySem.W.keepIn K (.ref f_vP) = true)
    (a_vR : PySem.W.nsIn K mainGlobals "rows_read" = some (some (.ref f_vR)))
    (l_vR : K.lookup f_vR = some ⟨oc_vR, od_vR, .func (PySem.W.fnOf "rows_read" "rows_read" (defArgs sRowsRead) (defBody sRowsRead) (defScope sRowsRead) .none kV_vR dc_vR pm_vR an_vR cd_vR ct_vR), sl_vR⟩) (c_vR : PySem.W.codeIn K cd_vR "rows_read" = true) (k_vR : PySem.W.keepIn K (.ref f_vR) = true)
    (a_vM : PySem.W.nsIn K mainGlobals "need_many" = some (some (.ref f_vM)))
    (l_vM : K.lookup f_vM = some ⟨oc_vM, od_vM, .func (PySem.W.fnOf "need_many" "need_many" (defArgs sNeedMany) (defBody sNeedMany) (defScope sNeedMany) .none kV_vM dc_vM pm_vM an_vM cd_vM ct_vM), sl_vM⟩) (c_vM : PySem.W.codeIn K cd_vM "need_many" = true) (k_vM : PySem.W.keepIn K (.ref f_vM) = true)
    (a_ms : PySem.W.nsIn K mainGlobals "message" = some (some (.ref f_ms)))
    (l_ms : K.lookup f_ms = some ⟨oc_ms, od_ms, .func (PySem.W.fnOf "message" "message" (defArgs sMsg) (defBody sMsg) (defScope sMsg) .none kV_ms dc_ms pm_ms an_ms cd_ms ct_ms), sl_ms⟩) (c_ms : PySem.W.codeIn K cd_ms "message" = true) (k_ms : PySem.W.keepIn K (.ref f_ms) = true)
    (a_lB : PySem.W.nsIn K mainGlobals "_law_begun" = some (some (.ref f_lB)))
    (l_lB : K.lookup f_lB = some ⟨oc_lB, od_lB, .func (PySem.W.fnOf "_law_begun" "_law_begun" (defArgs sBegun) (defBody sBegun) (defScope sBegun) .none kV_lB dc_lB pm_lB an_lB cd_lB ct_lB), sl_lB⟩) (c_lB : PySem.W.codeIn K cd_lB "_law_begun" = true) (k_lB : PySem.W.keepIn K (.ref f_lB) = true)
    (a_lN : PySem.W.nsIn K mainGlobals "_law_next" = some (some (.ref f_lN)))
    (l_lN : K.lookup f_lN = some ⟨oc_lN, od_lN, .func (PySem.W.fnOf "_law_next" "_law_next" (defArgs sNext) (defBody sNext) (defScope sNext) .none kV_lN dc_lN pm_lN an_lN cd_lN ct_lN), sl_lN⟩) (c_lN : PySem.W.codeIn K cd_lN "_law_next" = true) (k_lN : PySem.W.keepIn K (.ref f_lN) = true)
    (a_lP : PySem.W.nsIn K mainGlobals "_law_piece" = some (some (.ref f_lP)))
    (l_lP : K.lookup f_lP = some ⟨oc_lP, od_lP, .func (PySem.W.fnOf "_law_piece" "_law_piece" (defArgs sPiece) (defBody sPiece) (defScope sPiece) .none kV_lP dc_lP pm_lP an_lP cd_lP ct_lP), sl_lP⟩) (c_lP : PySem.W.codeIn K cd_lP "_law_piece" = true) (k_lP : PySem.W.keepIn K (.ref f_lP) = true)
    (a_lF : PySem.W.nsIn K mainGlobals "_law_framing" = some (some (.ref f_lF)))
    (l_lF : K.lookup f_lF = some ⟨oc_lF, od_lF, .func (PySem.W.fnOf "_law_framing" "_law_framing" (defArgs sFraming) (defBody sFraming) (defScope sFraming) .none kV_lF dc_lF pm_lF an_lF cd_lF ct_lF), sl_lF⟩) (c_lF : PySem.W.codeIn K cd_lF "_law_framing" = true) (k_lF : PySem.W.keepIn K (.ref f_lF) = true)
    (a_lG : PySem.W.nsIn K mainGlobals "_law_from" = some (some (.ref f_lG)))
    (l_lG : K.lookup f_lG = some ⟨oc_lG, od_lG, .func (PySem.W.fnOf "_law_from" "_law_from" (defArgs sFrom) (defBody sFrom) (defScope sFrom) .none kV_lG dc_lG pm_lG an_lG cd_lG ct_lG), sl_lG⟩) (c_lG : PySem.W.codeIn K cd_lG "_law_from" = true) (k_lG : PySem.W.keepIn K (.ref f_lG) = true)
    (a_lV : PySem.W.nsIn K mainGlobals "_law_weaving" = some (some (.ref f_lV)))
    (l_lV : K.lookup f_lV = some ⟨oc_lV, od_lV, .func (PySem.W.fnOf "_law_weaving" "_law_weaving" (defArgs sWeave) (defBody sWeave) (defScope sWeave) .none kV_lV dc_lV pm_lV an_lV cd_lV ct_lV), sl_lV⟩) (c_lV : PySem.W.codeIn K cd_lV "_law_weaving" = true) (k_lV : PySem.W.keepIn K (.ref f_lV) = true)
    (a_lU : PySem.W.nsIn K mainGlobals "_law_put" = some (some (.ref f_lU)))
    (l_lU : K.lookup f_lU = some ⟨oc_lU, od_lU, .func (PySem.W.fnOf "_law_put" "_law_put" (defArgs sPutL) (defBody sPutL) (defScope sPutL) .none kV_lU dc_lU pm_lU an_lU cd_lU ct_lU), sl_lU⟩) (c_lU : PySem.W.codeIn K cd_lU "_law_put" = true) (k_lU : PySem.W.keepIn K (.ref f_lU) = true)
    (a_lX : PySem.W.nsIn K mainGlobals "_law_text" = some (some (.ref f_lX)))
    (l_lX : K.lookup f_lX = some ⟨oc_lX, od_lX, .func (PySem.W.fnOf "_law_text" "_law_text" (defArgs sTextL) (defBody sTextL) (defScope sTextL) .none kV_lX dc_lX pm_lX an_lX cd_lX ct_lX), sl_lX⟩) (c_lX : PySem.W.codeIn K cd_lX "_law_text" = true) (k_lX : PySem.W.keepIn K (.ref f_lX) = true)
    (a_lL : PySem.W.nsIn K mainGlobals "_law_lines" = some (some (.ref f_lL)))
    (l_lL : K.lookup f_lL = some ⟨oc_lL, od_lL, .func (PySem.W.fnOf "_law_lines" "_law_lines" (defArgs sLinesL) (defBody sLinesL) (defScope sLinesL) .none kV_lL dc_lL pm_lL an_lL cd_lL ct_lL), sl_lL⟩) (c_lL : PySem.W.codeIn K cd_lL "_law_lines" = true) (k_lL : PySem.W.keepIn K (.ref f_lL) = true)
    (a_lW : PySem.W.nsIn K mainGlobals "_law_whole" = some (some (.ref f_lW)))
    (l_lW : K.lookup f_lW = some ⟨oc_lW, od_lW, .func (PySem.W.fnOf "_law_whole" "_law_whole" (defArgs sWhole) (defBody sWhole) (defScope sWhole) .none kV_lW dc_lW pm_lW an_lW cd_lW ct_lW), sl_lW⟩) (c_lW : PySem.W.codeIn K cd_lW "_law_whole" = true) (k_lW : PySem.W.keepIn K (.ref f_lW) = true)
    (a_lR : PySem.W.nsIn K mainGlobals "_law_reader" = some (some (.ref f_lR)))
    (l_lR : K.lookup f_lR = some ⟨oc_lR, od_lR, .func (PySem.W.fnOf "_law_reader" "_law_reader" (defArgs sRdr) (defBody sRdr) (defScope sRdr) .none kV_lR dc_lR pm_lR an_lR cd_lR ct_lR), sl_lR⟩) (c_lR : PySem.W.codeIn K cd_lR "_law_reader" = true) (k_lR : PySem.W.keepIn K (.ref f_lR) = true)
    (a_lK : PySem.W.nsIn K mainGlobals "_law_taken" = some (some (.ref f_lK)))
    (l_lK : K.lookup f_lK = some ⟨oc_lK, od_lK, .func (PySem.W.fnOf "_law_taken" "_law_taken" (defArgs sTaken) (defBody sTaken) (defScope sTaken) .none kV_lK dc_lK pm_lK an_lK cd_lK ct_lK), sl_lK⟩) (c_lK : PySem.W.codeIn K cd_lK "_law_taken" = true) (k_lK : PySem.W.keepIn K (.ref f_lK) = true)
    (a_la : PySem.W.nsIn K mainGlobals "law" = some (some (.ref f_la)))
    (l_la : K.lookup f_la = some ⟨oc_la, od_la, .func (PySem.W.fnOf "law" "law" (defArgs sLaw) (defBody sLaw) (defScope sLaw) .none kV_la dc_la pm_la an_la cd_la ct_la), sl_la⟩) (c_la : PySem.W.codeIn K cd_la "law" = true) (k_la : PySem.W.keepIn K (.ref f_la) = true)
    (aS : PySem.W.nsIn K mainGlobals "Shared" = some (some (.ref S)))
    (aI : PySem.W.findIn K (.ref S) "__init__" = some (some (.ref f_sI)))
    (iI : PySem.W.isFn K (.ref f_sI) = true)
    (l_sI : K.lookup f_sI = some ⟨oc_sI, od_sI, .func (PySem.W.fnOf "__init__" "Shared.__init__" (defArgs sInitS) (defBody sInitS) (defScope sInitS) (.ref T_sI) kV_sI dc_sI pm_sI an_sI cd_sI ct_sI), sl_sI⟩) (c_sI : PySem.W.codeIn K cd_sI "Shared.__init__" = true) (k_sI : PySem.W.keepIn K (.ref f_sI) = true)
    (d_sI : K.lookup T_sI = some ⟨to_sI, td_sI, .seq #[.int 2 tk_sI] n_sI, ts_sI⟩)
    (a_sW : PySem.W.findIn K (.ref S) "write" = some (some (.ref f_sW)))
    (i_sW : PySem.W.isFn K (.ref f_sW) = true)
    (l_sW : K.lookup f_sW = some ⟨oc_sW, od_sW, .func (PySem.W.fnOf "write" "Shared.write" (defArgs sWrite) (defBody sWrite) (defScope sWrite) .none kV_sW dc_sW pm_sW an_sW cd_sW ct_sW), sl_sW⟩) (c_sW : PySem.W.codeIn K cd_sW "Shared.write" = true) (k_sW : PySem.W.keepIn K (.ref f_sW) = true)
    (a_sG : PySem.W.findIn K (.ref S) "good" = some (some (.ref f_sG)))
    (i_sG : PySem.W.isFn K (.ref f_sG) = true)
    (l_sG : K.lookup f_sG = some ⟨oc_sG, od_sG, .func (PySem.W.fnOf "good" "Shared.good" (defArgs sGood) (defBody sGood) (defScope sGood) .none kV_sG dc_sG pm_sG an_sG cd_sG ct_sG), sl_sG⟩) (c_sG : PySem.W.codeIn K cd_sG "Shared.good" = true) (k_sG : PySem.W.keepIn K (.ref f_sG) = true)
    (a_sP : PySem.W.findIn K (.ref S) "passed" = some (some (.ref f_sP)))
    (i_sP : PySem.W.isFn K (.ref f_sP) = true)
    (l_sP : K.lookup f_sP = some ⟨oc_sP, od_sP, .func (PySem.W.fnOf "passed" "Shared.passed" (defArgs sPassed) (defBody sPassed) (defScope sPassed) .none kV_sP dc_sP pm_sP an_sP cd_sP ct_sP), sl_sP⟩) (c_sP : PySem.W.codeIn K cd_sP "Shared.passed" = true) (k_sP : PySem.W.keepIn K (.ref f_sP) = true)
    (a_sC : PySem.W.findIn K (.ref S) "copy" = some (some (.ref f_sC)))
    (i_sC : PySem.W.isFn K (.ref f_sC) = true)
    (l_sC : K.lookup f_sC = some ⟨oc_sC, od_sC, .func (PySem.W.fnOf "copy" "Shared.copy" (defArgs sCopy) (defBody sCopy) (defScope sCopy) .none kV_sC dc_sC pm_sC an_sC cd_sC ct_sC), sl_sC⟩) (c_sC : PySem.W.codeIn K cd_sC "Shared.copy" = true) (k_sC : PySem.W.keepIn K (.ref f_sC) = true)
    (a_sE : PySem.W.findIn K (.ref S) "__eq__" = some (some (.ref f_sE)))
    (i_sE : PySem.W.isFn K (.ref f_sE) = true)
    (l_sE : K.lookup f_sE = some ⟨oc_sE, od_sE, .func (PySem.W.fnOf "__eq__" "Shared.__eq__" (defArgs sEqS) (defBody sEqS) (defScope sEqS) .none kV_sE dc_sE pm_sE an_sE cd_sE ct_sE), sl_sE⟩) (c_sE : PySem.W.codeIn K cd_sE "Shared.__eq__" = true) (k_sE : PySem.W.keepIn K (.ref f_sE) = true)
    (pg : PySem.W.plainGet K S Str.empty = true)
    (hd : PySem.W.hasDictIn K S = true)
    (po : PySem.W.plainOver K S = true)
    (sa : PySem.W.findIn K (.ref S) "__setattr__" = some (some (.builtin "object.__setattr__")))
    (mk : PySem.W.makesIn K S = true)
    (kc : PySem.W.keepIn K (.ref S) = true)
    (q1 : PySem.W.findIn K (.ref S) "framing" = some none)
    (q2 : PySem.W.findIn K (.ref S) "writers" = some none)
    (q3 : PySem.W.findIn K (.ref S) "reader" = some none)
    (q4 : PySem.W.findIn K (.ref S) "entries" = some none)
    (q5 : PySem.W.findIn K (.ref S) "rows" = some none)
    (q6 : PySem.W.findIn K (.ref S) "holder" = some none)
    (ca : PySem.W.findIn K (.ref S) "__class__" = some (some (.builtin "object.__class__")))
    (cn : PySem.W.specialIn K (.builtin "object.__class__") "__get__" = some (some (.builtin "getset_descriptor.__get__")))
    (ct : PySem.W.takesIn K (.builtin "object.__class__") = some true)
    (om : PySem.W.mroIn K S (.type "object") = some true)
    (ko : PySem.W.kitOne K (.ref S) (.ref S) = some true)
    (aC : PySem.W.nsIn K mainGlobals "BadReader" = some (some (.ref C)))
    (OXC : OxC K C "ValueError" "ValueError.__new__" "ValueError.__init__" [.type "ValueError", .type "Exception", .type "BaseException", .type "object"])
    (iCC : PySem.W.findIn K (.ref C) "__init__" = some (some (.ref f_ini)))
    (tIC : PySem.W.typeIn K (.ref f_ini) = some (.type "function"))
    (n0 : PySem.W.findIn K (.ref C) "part" = some none)
    (n1 : PySem.W.findIn K (.ref C) "number" = some none)
    (l_ini : K.lookup f_ini = some ⟨oc_ini, od_ini, .func (PySem.W.fnOf "__init__" "BadReader.__init__" (defArgs sBadReader) (defBody sBadReader) (defScope sBadReader) .none kV_ini dc_ini pm_ini an_ini cd_ini ct_ini), sl_ini⟩) (c_ini : PySem.W.codeIn K cd_ini "BadReader.__init__" = true) (k_ini : PySem.W.keepIn K (.ref f_ini) = true)
    (suC : PySem.W.subIn K (.ref C) (.type "BaseException") = some true)
    (tyC : PySem.W.typeIn K (.ref C) = some (.type "type"))
    (owC : PySem.W.subIn K (.ref C) (.ref C) = some true)
    (aD : PySem.W.nsIn K mainGlobals "OutOfPlace" = some (some (.ref D)))
    (OXD : OxC K D "ValueError" "ValueError.__new__" "ValueError.__init__" [.type "ValueError", .type "Exception", .type "BaseException", .type "object"])
    (iCD : PySem.W.findIn K (.ref D) "__init__" = some (some (.ref f_ino)))
    (tID : PySem.W.typeIn K (.ref f_ino) = some (.type "function"))
    (l_ino : K.lookup f_ino = some ⟨oc_ino, od_ino, .func (PySem.W.fnOf "__init__" "OutOfPlace.__init__" (defArgs sOutOfPlace) (defBody sOutOfPlace) (defScope sOutOfPlace) .none kV_ino dc_ino pm_ino an_ino cd_ino ct_ino), sl_ino⟩) (c_ino : PySem.W.codeIn K cd_ino "OutOfPlace.__init__" = true) (k_ino : PySem.W.keepIn K (.ref f_ino) = true)
    (suD : PySem.W.subIn K (.ref D) (.type "BaseException") = some true)
    (tyD : PySem.W.typeIn K (.ref D) = some (.type "type"))
    (owD : PySem.W.subIn K (.ref D) (.ref D) = some true)
    (g_vS : PySem.W.nsIn K mainGlobals "SIGNS" = some (some (.str "abcdefghijklmnopqrstuvwxyz0123456789@" t_vS)))
    (g_vG : PySem.W.nsIn K mainGlobals "MOST_SIGNS" = some (some (.int 8 t_vG)))
    (g_vT : PySem.W.nsIn K mainGlobals "MOST_STEPS" = some (some (.int 16 t_vT)))
    (g_vD : PySem.W.nsIn K mainGlobals "MANY_STANDINGS" = some (some (.int 6 t_vD)))
    (g_vK : PySem.W.nsIn K mainGlobals "MARKS" = some (some (.str "ABCDEFGH" t_vK)))
    (g_vE : PySem.W.nsIn K mainGlobals "MOST_ENTRIES" = some (some (.int 200 t_vE)))
    (g_vQ : PySem.W.nsIn K mainGlobals "MOST_STATES" = some (some (.int 200 t_vQ)))
    (z_isinstance : PySem.W.nsIn K mainGlobals "isinstance" = some none)
    (z_int : PySem.W.nsIn K mainGlobals "int" = some none)
    (z_bool : PySem.W.nsIn K mainGlobals "bool" = some none)
    (z_str : PySem.W.nsIn K mainGlobals "str" = some none)
    (z_tuple : PySem.W.nsIn K mainGlobals "tuple" = some none)
    (z_len : PySem.W.nsIn K mainGlobals "len" = some none)
    (z_all : PySem.W.nsIn K mainGlobals "all" = some none)
    (z_sorted : PySem.W.nsIn K mainGlobals "sorted" = some none)
    (z_enumerate : PySem.W.nsIn K mainGlobals "enumerate" = some none)
    (z_list : PySem.W.nsIn K mainGlobals "list" = some none)
    (z_range : PySem.W.nsIn K mainGlobals "range" = some none)
    (z_min : PySem.W.nsIn K mainGlobals "min" = some none)
    (z_zip : PySem.W.nsIn K mainGlobals "zip" = some none)
    (z_repr : PySem.W.nsIn K mainGlobals "repr" = some none)
    (z_ValueError : PySem.W.nsIn K mainGlobals "ValueError" = some none)
    (v_V : PySem.W.findCls K (.type "ValueError") (.type "type") "__init__" = some (.val (.builtin "ValueError.__init__"))) :
    ∃ fd : FuncData, (∀ (s : Shared) (u : Value), BindsTo s fd ⟨[u], []⟩ [("script", u)]) ∧ ∀ base : Heap, K.In base → base.Ns mainGlobals mg → FnG P w K mg base CX0 7 fa fd ["script"] (spLaw K) := by
  have e := hfa.symm.trans (PySem.W.mg_of X G a_la)
  cases e
  have F_iN := fun_mk (st := sNum) l_iN c_iN k_iN
  have b_iN := F_iN.binds (ps := ["thing", "many"]) fun _ _ _ _ _ _ us hl => match us, hl with | [_, _], _ => rfl
  have F_iP := fun_mk (st := sPc) l_iP c_iP k_iP
  have b_iP := F_iP.binds (ps := ["thing"]) fun _ _ _ _ _ _ us hl => match us, hl with | [_], _ => rfl
  have F_iS := fun_mk (st := sStep) l_iS c_iS k_iS
  have b_iS := F_iS.binds (ps := ["thing"]) fun _ _ _ _ _ _ us hl => match us, hl with | [_], _ => rfl
  have F_iL := fun_mk (st := sListed) l_iL c_iL k_iL
  have b_iL := F_iL.binds (ps := ["framing"]) fun _ _ _ _ _ _ us hl => match us, hl with | [_], _ => rfl
  have F_iW := fun_mk (st := sWays) l_iW c_iW k_iW
  have b_iW := F_iW.binds (ps := ["framing", "begin"]) fun _ _ _ _ _ _ us hl => match us, hl with | [_, _], _ => rfl
  have F_iJ := fun_mk (st := sJoined) l_iJ c_iJ k_iJ
  have b_iJ := F_iJ.binds (ps := ["framing"]) fun _ _ _ _ _ _ us hl => match us, hl with | [_], _ => rfl
  have F_iF := fun_mk (st := sNeedF) l_iF c_iF k_iF
  have b_iF := F_iF.binds (ps := ["thing"]) fun _ _ _ _ _ _ us hl => match us, hl with | [_], _ => rfl
  have F_wE := fun_mk (st := sEntry) l_wE c_wE k_wE
  have b_wE := F_wE.binds (ps := ["framing", "thing", "many"]) fun _ _ _ _ _ _ us hl => match us, hl with | [_, _, _], _ => rfl
  have F_wR := fun_mk (st := sWrong) l_wR c_wR k_wR
  have b_wR := F_wR.binds (ps := ["framing", "things", "begin"]) fun _ _ _ _ _ _ us hl => match us, hl with | [_, _, _], _ => rfl
  have F_tP := fun_mk (st := sPut) l_tP c_tP k_tP
  have b_tP := F_tP.binds (ps := ["framing", "entries"]) fun _ _ _ _ _ _ us hl => match us, hl with | [_, _], _ => rfl
  have F_rP := fun_mk (st := sPlaces) l_rP c_rP k_rP
  have b_rP := F_rP.binds (ps := ["framing", "entries"]) fun _ _ _ _ _ _ us hl => match us, hl with | [_, _], _ => rfl
  have F_rI := fun_mk (st := sIsRead) l_rI c_rI k_rI
  have b_rI := F_rI.binds (ps := ["framing", "thing"]) fun _ _ _ _ _ _ us hl => match us, hl with | [_, _], _ => rfl
  have F_rW := fun_mk (st := sIsWhole) l_rW c_rW k_rW
  have b_rW := F_rW.binds (ps := ["framing", "entries"]) fun _ _ _ _ _ _ us hl => match us, hl with | [_, _], _ => rfl
  have F_eU := fun_mk (st := sRule) l_eU c_eU k_eU
  have b_eU := F_eU.binds (ps := ["thing"]) fun _ _ _ _ _ _ us hl => match us, hl with | [_], _ => rfl
  have F_eR := fun_mk (st := sNeedR) l_eR c_eR k_eR
  have b_eR := F_eR.binds (ps := ["thing"]) fun _ _ _ _ _ _ us hl => match us, hl with | [_], _ => rfl
  have F_eO := fun_mk (st := sRows) l_eO c_eO k_eO
  have b_eO := F_eO.binds (ps := ["reader"]) fun _ _ _ _ _ _ us hl => match us, hl with | [_], _ => rfl
  have F_eE := fun_mk (st := sLed) l_eE c_eE k_eE
  have b_eE := F_eE.binds (ps := ["rows", "state", "signs"]) fun _ _ _ _ _ _ us hl => match us, hl with | [_, _, _], _ => rfl
  have F_eX := fun_mk (st := sNLT) l_eX c_eX k_eX
  have b_eX := F_eX.binds (ps := ["thing"]) fun _ _ _ _ _ _ us hl => match us, hl with | [_], _ => rfl
  have F_eT := fun_mk (st := sTakes) l_eT c_eT k_eT
  have b_eT := F_eT.binds (ps := ["reader", "text"]) fun _ _ _ _ _ _ us hl => match us, hl with | [_, _], _ => rfl
  have F_vP := fun_mk (st := sPlaceOf) l_vP c_vP k_vP
  have b_vP := F_vP.binds (ps := ["framing", "entries", "writer"]) fun _ _ _ _ _ _ us hl => match us, hl with | [_, _, _], _ => rfl
  have F_vR := fun_mk (st := sRowsRead) l_vR c_vR k_vR
  have b_vR := F_vR.binds (ps := ["framing", "entries"]) fun _ _ _ _ _ _ us hl => match us, hl with | [_, _], _ => rfl
  have F_vM := fun_mk (st := sNeedMany) l_vM c_vM k_vM
  have b_vM := F_vM.binds (ps := ["thing"]) fun _ _ _ _ _ _ us hl => match us, hl with | [_], _ => rfl
  have F_ms := fun_mk (st := sMsg) l_ms c_ms k_ms
  have b_ms := F_ms.binds (ps := ["text"]) fun _ _ _ _ _ _ us hl => match us, hl with | [_], _ => rfl
  have F_lB := fun_mk (st := sBegun) l_lB c_lB k_lB
  have b_lB := F_lB.binds (ps := ["script"]) fun _ _ _ _ _ _ us hl => match us, hl with | [_], _ => rfl
  have F_lN := fun_mk (st := sNext) l_lN c_lN k_lN
  have b_lN := F_lN.binds (ps := ["m", "total"]) fun _ _ _ _ _ _ us hl => match us, hl with | [_, _], _ => rfl
  have F_lP := fun_mk (st := sPiece) l_lP c_lP k_lP
  have b_lP := F_lP.binds (ps := ["m", "last"]) fun _ _ _ _ _ _ us hl => match us, hl with | [_, _], _ => rfl
  have F_lF := fun_mk (st := sFraming) l_lF c_lF k_lF
  have b_lF := F_lF.binds (ps := ["m", "most"]) fun _ _ _ _ _ _ us hl => match us, hl with | [_, _], _ => rfl
  have F_lG := fun_mk (st := sFrom) l_lG c_lG k_lG
  have b_lG := F_lG.binds (ps := ["framing", "here"]) fun _ _ _ _ _ _ us hl => match us, hl with | [_, _], _ => rfl
  have F_lV := fun_mk (st := sWeave) l_lV c_lV k_lV
  have b_lV := F_lV.binds (ps := ["m", "framing", "writers", "total"]) fun _ _ _ _ _ _ us hl => match us, hl with | [_, _, _, _], _ => rfl
  have F_lU := fun_mk (st := sPutL) l_lU c_lU k_lU
  have b_lU := F_lU.binds (ps := ["framing", "entry"]) fun _ _ _ _ _ _ us hl => match us, hl with | [_, _], _ => rfl
  have F_lX := fun_mk (st := sTextL) l_lX c_lX k_lX
  have b_lX := F_lX.binds (ps := ["framing", "entries"]) fun _ _ _ _ _ _ us hl => match us, hl with | [_, _], _ => rfl
  have F_lL := fun_mk (st := sLinesL) l_lL c_lL k_lL
  have b_lL := F_lL.binds (ps := ["framing", "weaving"]) fun _ _ _ _ _ _ us hl => match us, hl with | [_, _], _ => rfl
  have F_lW := fun_mk (st := sWhole) l_lW c_lW k_lW
  have b_lW := F_lW.binds (ps := ["framing", "line"]) fun _ _ _ _ _ _ us hl => match us, hl with | [_, _], _ => rfl
  have F_lR := fun_mk (st := sRdr) l_lR c_lR k_lR
  have b_lR := F_lR.binds (ps := ["m"]) fun _ _ _ _ _ _ us hl => match us, hl with | [_], _ => rfl
  have F_lK := fun_mk (st := sTaken) l_lK c_lK k_lK
  have b_lK := F_lK.binds (ps := ["taker", "text"]) fun _ _ _ _ _ _ us hl => match us, hl with | [_, _], _ => rfl
  have F_la := fun_mk (st := sLaw) l_la c_la k_la
  have b_la := F_la.binds (ps := ["script"]) fun _ _ _ _ _ _ us hl => match us, hl with | [_], _ => rfl
  have F_sW := fun_mk (st := sWrite) l_sW c_sW k_sW
  have b_sW := F_sW.binds (ps := ["self", "writer", "step"]) fun _ _ _ _ _ _ us hl => match us, hl with | [_, _, _], _ => rfl
  have F_sG := fun_mk (st := sGood) l_sG c_sG k_sG
  have b_sG := F_sG.binds (ps := ["self"]) fun _ _ _ _ _ _ us hl => match us, hl with | [_], _ => rfl
  have F_sP := fun_mk (st := sPassed) l_sP c_sP k_sP
  have b_sP := F_sP.binds (ps := ["self"]) fun _ _ _ _ _ _ us hl => match us, hl with | [_], _ => rfl
  have F_sC := fun_mk (st := sCopy) l_sC c_sC k_sC
  have b_sC := F_sC.binds (ps := ["self"]) fun _ _ _ _ _ _ us hl => match us, hl with | [_], _ => rfl
  have F_sE := fun_mk (st := sEqS) l_sE c_sE k_sE
  have b_sE := F_sE.binds (ps := ["self", "other"]) fun _ _ _ _ _ _ us hl => match us, hl with | [_, _], _ => rfl
  have m_iN := PySem.W.mg_of X G a_iN
  have m_iP := PySem.W.mg_of X G a_iP
  have m_iS := PySem.W.mg_of X G a_iS
  have m_iL := PySem.W.mg_of X G a_iL
  have m_iW := PySem.W.mg_of X G a_iW
  have m_iJ := PySem.W.mg_of X G a_iJ
  have m_iF := PySem.W.mg_of X G a_iF
  have m_wE := PySem.W.mg_of X G a_wE
  have m_wR := PySem.W.mg_of X G a_wR
  have m_tP := PySem.W.mg_of X G a_tP
  have m_rP := PySem.W.mg_of X G a_rP
  have m_rI := PySem.W.mg_of X G a_rI
  have m_rW := PySem.W.mg_of X G a_rW
  have m_eU := PySem.W.mg_of X G a_eU
  have m_eR := PySem.W.mg_of X G a_eR
  have m_eO := PySem.W.mg_of X G a_eO
  have m_eE := PySem.W.mg_of X G a_eE
  have m_eX := PySem.W.mg_of X G a_eX
  have m_eT := PySem.W.mg_of X G a_eT
  have m_vP := PySem.W.mg_of X G a_vP
  have m_vR := PySem.W.mg_of X G a_vR
  have m_vM := PySem.W.mg_of X G a_vM
  have m_ms := PySem.W.mg_of X G a_ms
  have m_lB := PySem.W.mg_of X G a_lB
  have m_lN := PySem.W.mg_of X G a_lN
  have m_lP := PySem.W.mg_of X G a_lP
  have m_lF := PySem.W.mg_of X G a_lF
  have m_lG := PySem.W.mg_of X G a_lG
  have m_lV := PySem.W.mg_of X G a_lV
  have m_lU := PySem.W.mg_of X G a_lU
  have m_lX := PySem.W.mg_of X G a_lX
  have m_lL := PySem.W.mg_of X G a_lL
  have m_lW := PySem.W.mg_of X G a_lW
  have m_lR := PySem.W.mg_of X G a_lR
  have m_lK := PySem.W.mg_of X G a_lK
  have m_la := PySem.W.mg_of X G a_la
  have F_sI := fund_two (st := sInitS) l_sI d_sI c_sI k_sI
  obtain ⟨its_sI, hb⟩ := F_sI.kbindsD (ps := ["self", "framing", "writers", "reader"]) 3 ["reader"] (fun us _ ws => gA us ws) (by simp) (fun r _ r2 => Vals.append r r2) fun T kV doc pm an cdv ct us its ws hl hi hw => match us, hl, its, hi, ws, hw with | [_, _, _], _, [_], _, [_], _ => ⟨_, rfl, rfl⟩
  have F_ini := fun_mk (st := sBadReader) l_ini c_ini k_ini
  have b_ini := F_ini.binds (ps := ["self", "part", "number"]) fun _ _ _ _ _ _ us hl => match us, hl with | [_, _, _], _ => rfl
  have F_ino := fun_mk (st := sOutOfPlace) l_ino c_ino k_ino
  have b_ino := F_ino.binds (ps := ["self", "text"]) fun _ _ _ _ _ _ us hl => match us, hl with | [_, _], _ => rfl
  have y_isinstance := PySem.W.mg_none_of X G z_isinstance
  have y_int := PySem.W.mg_none_of X G z_int
  have y_bool := PySem.W.mg_none_of X G z_bool
  have y_str := PySem.W.mg_none_of X G z_str
  have y_tuple := PySem.W.mg_none_of X G z_tuple
  have y_len := PySem.W.mg_none_of X G z_len
  have y_all := PySem.W.mg_none_of X G z_all
  have y_sorted := PySem.W.mg_none_of X G z_sorted
  have y_enumerate := PySem.W.mg_none_of X G z_enumerate
  have y_list := PySem.W.mg_none_of X G z_list
  have y_range := PySem.W.mg_none_of X G z_range
  have y_min := PySem.W.mg_none_of X G z_min
  have y_zip := PySem.W.mg_none_of X G z_zip
  have y_repr := PySem.W.mg_none_of X G z_repr
  have y_ValueError := PySem.W.mg_none_of X G z_ValueError
  have x_vS := PySem.W.mg_of X G g_vS
  have x_vG := PySem.W.mg_of X G g_vG
  have x_vT := PySem.W.mg_of X G g_vT
  have x_vD := PySem.W.mg_of X G g_vD
  have x_vK := PySem.W.mg_of X G g_vK
  have x_vE := PySem.W.mg_of X G g_vE
  have x_vQ := PySem.W.mg_of X G g_vQ
  have TF : TxtF mg := ⟨y_isinstance, y_int, y_bool, y_str, y_tuple, y_len, y_all, ⟨_, x_vS⟩, ⟨_, x_vG⟩, ⟨_, x_vD⟩⟩
  have TD : TxtD mg := ⟨y_list, y_int, y_len⟩
  have IV : BI K mg "ValueError" "ValueError" "ValueError.__init__" := ⟨y_ValueError, by decide +kernel, by kernel_rfl, v_V, by decide +kernel⟩
  have TM : TxtM mg := ⟨y_isinstance, y_str⟩
  let zF : Fs K mg := { fN := f_iN, dN := _, N := F_iN, bN := b_iN, mN := m_iN, fP := f_iP, dP := _, P := F_iP, bP := b_iP, mP := m_iP, fS := f_iS, dS := _, S := F_iS, bS := b_iS, mS := m_iS, fL := f_iL, dL := _, L := F_iL, bL := b_iL, mL := m_iL, fW := f_iW, dW := _, W := F_iW, bW := b_iW, mW := m_iW, fJ := f_iJ, dJ := _, J := F_iJ, bJ := b_iJ, mJ := m_iJ, fF := f_iF, dF := _, F := F_iF, bF := b_iF, mF := m_iF, T := TF, so := y_sorted, en := y_enumerate, ms := ⟨_, x_vT⟩ }
  let zW : Ws K mg := { Z := zF, fE := f_wE, dE := _, E := F_wE, bE := b_wE, mE := m_wE, fR := f_wR, dR := _, R := F_wR, bR := b_wR, mR := m_wR, marks := ⟨_, x_vK⟩ }
  let zO : Oop K mg := { C := D, f := f_ino, d := _, fM := f_ms, dM := _, T := OXD, I := IV, F := F_ino, b := b_ino, FM := F_ms, bM := b_ms, mM := m_ms, TM := TM, m := PySem.W.mg_of X G aD, iC := iCD, tI := tID, su := suD, ty := tyD }
  let zB : Brd K mg := { C := C, f := f_ini, d := _, T := OXC, I := IV, F := F_ini, b := b_ini, m := PySem.W.mg_of X G aC, iC := iCC, tI := tIC, n0 := n0, n1 := n1, su := suC, ty := tyC, own := owC }
  let zR : Rs K mg := { Z := zF, B := zB, fU := f_eU, dU := _, U := F_eU, bU := b_eU, mU := m_eU, states := ⟨_, x_vQ⟩ }
  let zK : Tk K mg := { R := zR, O := zO, marks := ⟨_, x_vK⟩, f1 := f_eX, d1 := _, F1 := F_eX, b1 := b_eX, m1 := m_eX }
  let zT : Tt K mg := { T := zK, fR := f_eR, dR := _, FR := F_eR, bR := b_eR, mR := m_eR, fO := f_eO, dO := _, FO := F_eO, bO := b_eO, mO := m_eO, fL := f_eE, dL := _, FL := F_eE, bL := b_eE, mL := m_eE, fT := f_eT, dT := _, FT := F_eT, bT := b_eT, mT := m_eT }
  let zps : Ps K mg := { Y := zW, fL := f_rP, dL := _, L := F_rP, bL := b_rP, mL := m_rP }
  let zhs : Hs K mg := { G := ⟨zps⟩, O := zO, f1 := f_rI, d1 := _, f2 := f_rW, d2 := _, R := F_rI, W := F_rW, bR := b_rI, bW := b_rW, mR := m_rI, mW := m_rW }
  let zpu : Pu K mg := { Y := zW, fT := f_tP, dT := _, T := F_tP, bT := b_tP, mT := m_tP }
  let zlv : Lv K mg := { U := zps, fP := f_vP, dP := _, P := F_vP, bP := b_vP, mP := m_vP, fR := f_vR, dR := _, R := F_vR, bR := b_vR, mR := m_vR, fM := f_vM, dM := _, M := F_vM, bM := b_vM, mM := m_vM, zip := y_zip, tu := y_tuple }
  let zst : ShT K mg := { C := S, m := PySem.W.mg_of X G aS, cl := ⟨pg, hd, po, sa⟩, n1 := q1, n2 := q2, n3 := q3, n4 := q4, n5 := q5, n6 := q6 }
  let zsi : Si K mg := { T := zst, V := zlv, U := zpu, R := zT, f := f_sI, d := _, F := F_sI }
  let zsw : Sw K mg := { T := zst, V := zlv, U := zpu, f := f_sW, d := _, F := F_sW, b := b_sW, m := ⟨a_sW, i_sW, k_sW⟩, most := ⟨_, x_vE⟩ }
  let zsg : Sg K mg := { T := zst, U := zpu, R := zT, S := zhs, f1 := f_sG, d1 := _, F1 := F_sG, b1 := b_sG, m1 := ⟨a_sG, i_sG, k_sG⟩, f2 := f_sP, d2 := _, F2 := F_sP, b2 := b_sP, m2 := ⟨a_sP, i_sP, k_sP⟩, tu := y_tuple }
  let zsc : Sc K mg := { I := zsi, mkC := ⟨mk, aI, iI, kc⟩, hb := hb, fC := f_sC, dC := _, FC := F_sC, bC := b_sC, mC := ⟨a_sC, i_sC, k_sC⟩, li := y_list, isi := y_isinstance, fE := f_sE, dE := _, FE := F_sE, bE := b_sE, eE := a_sE, iE := i_sE, ca := ca, cn := cn, ct := ct, om := om, ko := ko }
  let zL : Ls K mg := { f1 := f_lN, d1 := _, N := F_lN, bN := b_lN, mN := m_lN, T := TD, ra := y_range, f2 := f_lP, d2 := _, P := F_lP, bP := b_lP, mP := m_lP }
  let zG : Lf K mg := { L := zL, f := f_lF, d := _, F := F_lF, b := b_lF, g := m_lF, so := y_sorted, tu := y_tuple, en := y_enumerate }
  let zV : Lw K mg := { G := zG, f1 := f_lG, d1 := _, F := F_lG, bF := b_lG, gF := m_lG, f2 := f_lV, d2 := _, W := F_lV, bW := b_lV, gW := m_lV }
  let zlr : Lr K mg := { L := zL, f := f_lR, d := _, F := F_lR, b := b_lR, m := m_lR, so := y_sorted, tu := y_tuple }
  let zlt : Lt K mg := { f3 := f_lL, d3 := _, L := F_lL, bL := b_lL, gL := m_lL, tu := y_tuple }
  let zlx : Lx K mg := { f1 := f_lU, f2 := f_lX, d1 := _, d2 := _, P := F_lU, T := F_lX, bP := b_lU, bT := b_lX, gP := m_lU, gT := m_lX }
  let zwl : Wl K mg := { f2 := f_lW, d2 := _, W := F_lW, bW := b_lW, gW := m_lW }
  let zlk : Lk K mg := { f := f_lK, d := _, F := F_lK, b := b_lK, m := m_lK }
  let zA : Lall K mg := { W := zV, R := zlr, S := zsc, Sw := zsw, Sg := zsg, eC := rfl, eG := rfl, T := zlt, X := zlx, V := zwl, N := zlk, fB := f_lB, dB := _, Be := F_lB, bB := b_lB, mB := m_lB, mi := y_min, re := y_repr }
  exact ⟨PySem.W.fnOf "law" "law" (defArgs sLaw) (defBody sLaw) (defScope sLaw) .none kV_la dc_la pm_la an_la cd_la ct_la, fun s u => .of_eq rfl, fun base _ _ => ok_law zA F_la⟩
theorem walk {l : PySem.W.OpenLaw} {q : Program} {loose : List Str} {XP : (Str → Option Value) → Heap → Prop} {YP : World → Heap → Prop} {d : DefRec} {K : Params → PySem.W.Frag} (hn : l.most = some 63) (hdf : d.params.defaults = [])
    (hY : ∀ (w : World) (h : Heap), YP w h → (K w.params).In h)
    (F : ∀ (w : World) (mg : Str → Option Value) (fa : Addr) (h : Heap), (K w.params).In h → h.Ns mainGlobals mg → mg d.name = some (.ref fa) →
      ∃ fd : FuncData, (∀ (s : Shared) (u : Value), BindsTo s fd ⟨[u], []⟩ [("script", u)]) ∧ ∀ base : Heap, (K w.params).In base → base.Ns mainGlobals mg → FnG l.prog w (K w.params) mg base CX0 7 fa fd ["script"] (spLaw (K w.params))) :
    PySem.W.WalkO q loose XP YP l.row.toRowW d [] (fun f vs => PySem.call f vs) :=
  walk_ofG (n := 63) (k := 7) (x := "script") (sp := spLaw) hn (by decide) hdf ⟨rfl, by decide, by decide⟩ hY F (fun _ _ a ns hl _ hS => ⟨a, ns, rfl, hS, hl, fun _ => rfl⟩)
end K50

set_option Elab.async false
set_option maxRecDepth 100000
open PySem PySem.W PyProof.Rows
set_option maxRecDepth 100000 in
set_option maxHeartbeats 0 in
theorem PySem.Challenge.cw_tornlines_k50_whole_other_readers_holds : PySem.Challenge.rw_tornlines_k50_whole_other_readers.Holds := by
  w_on; o_law; k_head; (case hw => w_witness2)
  k_fill
  refine K50.walk (l := PySem.Challenge.rw_tornlines_k50_whole_other_readers) rfl rfl (fun w h Y => by first | exact PySem.W.kIn_of Y | exact PySem.W.km_in_of Y) ?F
  case F =>
    intro w mg fa h KX G hmg
    refine' K50.all_mk KX G hmg ?a_iN ?l_iN ?c_iN ?k_iN ?a_iP ?l_iP ?c_iP ?k_iP ?a_iS ?l_iS ?c_iS ?k_iS ?a_iL ?l_iL ?c_iL ?k_iL ?a_iW ?l_iW ?c_iW ?k_iW ?a_iJ ?l_iJ ?c_iJ ?k_iJ ?a_iF ?l_iF ?c_iF ?k_iF ?a_wE ?l_wE ?c_wE ?k_wE ?a_wR ?l_wR ?c_wR ?k_wR ?a_tP ?l_tP ?c_tP ?k_tP ?a_rP ?l_rP ?c_rP ?k_rP ?a_rI ?l_rI ?c_rI ?k_rI ?a_rW ?l_rW ?c_rW ?k_rW ?a_eU ?l_eU ?c_eU ?k_eU ?a_eR ?l_eR ?c_eR ?k_eR ?a_eO ?l_eO ?c_eO ?k_eO ?a_eE ?l_eE ?c_eE ?k_eE ?a_eX ?l_eX ?c_eX ?k_eX ?a_eT ?l_eT ?c_eT ?k_eT ?a_vP ?l_vP ?c_vP ?k_vP ?a_vR ?l_vR ?c_vR ?k_vR ?a_vM ?l_vM ?c_vM ?k_vM ?a_ms ?l_ms ?c_ms ?k_ms ?a_lB ?l_lB ?c_lB ?k_lB ?a_lN ?l_lN ?c_lN ?k_lN ?a_lP ?l_lP ?c_lP ?k_lP ?a_lF ?l_lF ?c_lF ?k_lF ?a_lG ?l_lG ?c_lG ?k_lG ?a_lV ?l_lV ?c_lV ?k_lV ?a_lU ?l_lU ?c_lU ?k_lU ?a_lX ?l_lX ?c_lX ?k_lX ?a_lL ?l_lL ?c_lL ?k_lL ?a_lW ?l_lW ?c_lW ?k_lW ?a_lR ?l_lR ?c_lR ?k_lR ?a_lK ?l_lK ?c_lK ?k_lK ?a_la ?l_la ?c_la ?k_la ?aS ?aI ?iI ?l_sI ?c_sI ?k_sI ?d_sI ?a_sW ?i_sW ?l_sW ?c_sW ?k_sW ?a_sG ?i_sG ?l_sG ?c_sG ?k_sG ?a_sP ?i_sP ?l_sP ?c_sP ?k_sP ?a_sC ?i_sC ?l_sC ?c_sC ?k_sC ?a_sE ?i_sE ?l_sE ?c_sE ?k_sE ?pg ?hd ?po ?sa ?mk ?kc ?q1 ?q2 ?q3 ?q4 ?q5 ?q6 ?ca ?cn ?ct ?om ?ko ?aC ?OXC ?iCC ?tIC ?n0 ?n1 ?l_ini ?c_ini ?k_ini ?suC ?tyC ?owC ?aD ?OXD ?iCD ?tID ?l_ino ?c_ino ?k_ino ?suD ?tyD ?owD ?g_vS ?g_vG ?g_vT ?g_vD ?g_vK ?g_vE ?g_vQ ?z_isinstance ?z_int ?z_bool ?z_str ?z_tuple ?z_len ?z_all ?z_sorted ?z_enumerate ?z_list ?z_range ?z_min ?z_zip ?z_repr ?z_ValueError ?v_V
    (case a_iN => k_is)
    (case l_iN => k_is)
    (case c_iN => k_is)
    (case k_iN => k_is)
    (case a_iP => k_is)
    (case l_iP => k_is)
    (case c_iP => k_is)
    (case k_iP => k_is)
    (case a_iS => k_is)
    (case l_iS => k_is)
    (case c_iS => k_is)
    (case k_iS => k_is)
    (case a_iL => k_is)
    (case l_iL => k_is)
    (case c_iL => k_is)
    (case k_iL => k_is)
    (case a_iW => k_is)
    (case l_iW => k_is)
    (case c_iW => k_is)
    (case k_iW => k_is)
    (case a_iJ => k_is)
    (case l_iJ => k_is)
    (case c_iJ => k_is)
    (case k_iJ => k_is)
    (case a_iF => k_is)
    (case l_iF => k_is)
    (case c_iF => k_is)
    (case k_iF => k_is)
    (case a_wE => k_is)
    (case l_wE => k_is)
    (case c_wE => k_is)
    (case k_wE => k_is)
    (case a_wR => k_is)
    (case l_wR => k_is)
    (case c_wR => k_is)
    (case k_wR => k_is)
    (case a_tP => k_is)
    (case l_tP => k_is)
    (case c_tP => k_is)
    (case k_tP => k_is)
    (case a_rP => k_is)
    (case l_rP => k_is)
    (case c_rP => k_is)
    (case k_rP => k_is)
    (case a_rI => k_is)
    (case l_rI => k_is)
    (case c_rI => k_is)
    (case k_rI => k_is)
    (case a_rW => k_is)
    (case l_rW => k_is)
    (case c_rW => k_is)
    (case k_rW => k_is)
    (case a_eU => k_is)
    (case l_eU => k_is)
    (case c_eU => k_is)
    (case k_eU => k_is)
    (case a_eR => k_is)
    (case l_eR => k_is)
    (case c_eR => k_is)
    (case k_eR => k_is)
    (case a_eO => k_is)
    (case l_eO => k_is)
    (case c_eO => k_is)
    (case k_eO => k_is)
    (case a_eE => k_is)
    (case l_eE => k_is)
    (case c_eE => k_is)
    (case k_eE => k_is)
    (case a_eX => k_is)
    (case l_eX => k_is)
    (case c_eX => k_is)
    (case k_eX => k_is)
    (case a_eT => k_is)
    (case l_eT => k_is)
    (case c_eT => k_is)
    (case k_eT => k_is)
    (case a_vP => k_is)
    (case l_vP => k_is)
    (case c_vP => k_is)
    (case k_vP => k_is)
    (case a_vR => k_is)
    (case l_vR => k_is)
    (case c_vR => k_is)
    (case k_vR => k_is)
    (case a_vM => k_is)
    (case l_vM => k_is)
    (case c_vM => k_is)
    (case k_vM => k_is)
    (case a_ms => k_is)
    (case l_ms => k_is)
    (case c_ms => k_is)
    (case k_ms => k_is)
    (case a_lB => k_is)
    (case l_lB => k_is)
    (case c_lB => k_is)
    (case k_lB => k_is)
    (case a_lN => k_is)
    (case l_lN => k_is)
    (case c_lN => k_is)
    (case k_lN => k_is)
    (case a_lP => k_is)
    (case l_lP => k_is)
    (case c_lP => k_is)
    (case k_lP => k_is)
    (case a_lF => k_is)
    (case l_lF => k_is)
    (case c_lF => k_is)
    (case k_lF => k_is)
    (case a_lG => k_is)
    (case l_lG => k_is)
    (case c_lG => k_is)
    (case k_lG => k_is)
    (case a_lV => k_is)
    (case l_lV => k_is)
    (case c_lV => k_is)
    (case k_lV => k_is)
    (case a_lU => k_is)
    (case l_lU => k_is)
    (case c_lU => k_is)
    (case k_lU => k_is)
    (case a_lX => k_is)
    (case l_lX => k_is)
    (case c_lX => k_is)
    (case k_lX => k_is)
    (case a_lL => k_is)
    (case l_lL => k_is)
    (case c_lL => k_is)
    (case k_lL => k_is)
    (case a_lW => k_is)
    (case l_lW => k_is)
    (case c_lW => k_is)
    (case k_lW => k_is)
    (case a_lR => k_is)
    (case l_lR => k_is)
    (case c_lR => k_is)
    (case k_lR => k_is)
    (case a_lK => k_is)
    (case l_lK => k_is)
    (case c_lK => k_is)
    (case k_lK => k_is)
    (case a_la => k_is)
    (case l_la => k_is)
    (case c_la => k_is)
    (case k_la => k_is)
    (case aS => k_is)
    (case aI => k_is)
    (case iI => k_is)
    (case l_sI => k_is)
    (case c_sI => k_is)
    (case k_sI => k_is)
    (case d_sI => k_is)
    (case a_sW => k_is)
    (case i_sW => k_is)
    (case l_sW => k_is)
    (case c_sW => k_is)
    (case k_sW => k_is)
    (case a_sG => k_is)
    (case i_sG => k_is)
    (case l_sG => k_is)
    (case c_sG => k_is)
    (case k_sG => k_is)
    (case a_sP => k_is)
    (case i_sP => k_is)
    (case l_sP => k_is)
    (case c_sP => k_is)
    (case k_sP => k_is)
    (case a_sC => k_is)
    (case i_sC => k_is)
    (case l_sC => k_is)
    (case c_sC => k_is)
    (case k_sC => k_is)
    (case a_sE => k_is)
    (case i_sE => k_is)
    (case l_sE => k_is)
    (case c_sE => k_is)
    (case k_sE => k_is)
    (case pg => k_is)
    (case hd => k_is)
    (case po => k_is)
    (case sa => k_is)
    (case mk => k_is)
    (case kc => k_is)
    (case q1 => k_is)
    (case q2 => k_is)
    (case q3 => k_is)
    (case q4 => k_is)
    (case q5 => k_is)
    (case q6 => k_is)
    (case ca => k_is)
    (case cn => k_is)
    (case ct => k_is)
    (case om => k_is)
    (case ko => exact if_pos (beq_self_eq_true _))
    (case aC => k_is)
    case OXC =>
      refine' K50.oxc ?cl PySem.F.excBase_ValueError (fun self => PySem.F.store_ValueError.passes self) (by decide +kernel) ?sa ?ga ?gg ?exC ?kC ?hd ?ca ?cn ?ct ?om
      (case cl => k_is)
      (case sa => k_is)
      (case ga => k_is)
      (case gg => k_is)
      (case exC => k_is)
      (case kC => k_is)
      (case hd => k_is)
      (case ca => k_is)
      (case cn => k_is)
      (case ct => k_is)
      (case om => k_is)
    (case iCC => k_is)
    (case tIC => k_is)
    (case n0 => k_is)
    (case n1 => k_is)
    (case l_ini => k_is)
    (case c_ini => k_is)
    (case k_ini => k_is)
    (case suC => k_is)
    (case tyC => k_is)
    (case owC => k_is)
    (case aD => k_is)
    case OXD =>
      refine' K50.oxc ?cl PySem.F.excBase_ValueError (fun self => PySem.F.store_ValueError.passes self) (by decide +kernel) ?sa ?ga ?gg ?exC ?kC ?hd ?ca ?cn ?ct ?om
      (case cl => k_is)
      (case sa => k_is)
      (case ga => k_is)
      (case gg => k_is)
      (case exC => k_is)
      (case kC => k_is)
      (case hd => k_is)
      (case ca => k_is)
      (case cn => k_is)
      (case ct => k_is)
      (case om => k_is)
    (case iCD => k_is)
    (case tID => k_is)
    (case l_ino => k_is)
    (case c_ino => k_is)
    (case k_ino => k_is)
    (case suD => k_is)
    (case tyD => k_is)
    (case owD => k_is)
    (case g_vS => k_is)
    (case g_vG => k_is)
    (case g_vT => k_is)
    (case g_vD => k_is)
    (case g_vK => k_is)
    (case g_vE => k_is)
    (case g_vQ => k_is)
    (case z_isinstance => k_is)
    (case z_int => k_is)
    (case z_bool => k_is)
    (case z_str => k_is)
    (case z_tuple => k_is)
    (case z_len => k_is)
    (case z_all => k_is)
    (case z_sorted => k_is)
    (case z_enumerate => k_is)
    (case z_list => k_is)
    (case z_range => k_is)
    (case z_min => k_is)
    (case z_zip => k_is)
    (case z_repr => k_is)
    (case z_ValueError => k_is)
    (case v_V => k_is)
#print axioms PySem.Challenge.cw_tornlines_k50_whole_other_readers_holds
