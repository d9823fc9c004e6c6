import PyProof.Rows.All
import Wide.All
import OpenK.AllK
import Wide.FinOn
import KE.KExcInit
import KE.KExcIs
import HandS.ForMost
import HandS.Exc
import HandS.ExcInit
import HandS.Defaults
import HandS.IsInst
import HandS.Conv
import HandS.Small
import HandS.SortRule
import HandS.TupLe
import HandS.NamedTupSort
import PyProof.Rows.SortKeyStr
import PyProof.FString5
import HandS.Wide
import HandS.StrMore
import HandS.Walk
import PyProof.Rows.StrLen
import PyProof.StrLawsAffix
import HandS.Set
import HandS.Strs
import HandS.SetBool
import KE.GoesMore
import HandS.TupAny
import HandS.Deep
import HandS.TryMany
import HandS.ExcValue
import HandS.ExcOwn
import PyProof.ReprRoads
import HandS.ExcField
import HandS.WordsExc
import HandS.Style
import HandS.SortInts
import PySem.Challenge.RW_tornlines_k39_whole_great_scores
set_option Elab.async false
set_option linter.all false
set_option maxRecDepth 100000
set_option maxHeartbeats 4000000
/-! Own exception classes over any built-in base: made with positional or keyword arguments, kept as values, their fields read, asked by isinstance. -/
namespace EV
open PySem PySem.W PySem.Calls PyProof.Rows PySem.HandSPX
open Builtin Builtin.ObjectAttr
section
variable {prog : Program} {w : World} {A : Around} {E : Value → Shared → Prop} {R : Result → Shared → Prop}
variable {hp : Heap} {g : Array GenState} {d : Drawn} {t : Nat} {os : OsState}
/-- an exception's first field, whatever its base -/
theorem put_first {K : W.Frag} {nm : Str} {tk : Tok} {v : Value} {x C : Addr} {fv : Array Value} {cd : ClassData}
    (X : K.In hp) (hx : hp.get? x = some { cls := .ref C, data := .fields fv }) (hcd : W.clsIn K C = some cd)
    (pas : refuseLoop (.ref x) "__setattr__" cd.mro = pure ()) (hob : cd.mro.contains (.type "object") = true) (hne : cd.mro.isEmpty = false)
    (hh : cd.hasDict = true) (ha : W.findIn K (.ref C) nm = some none)
    (hq : ∀ h' tk' dx, (∀ b o, b ≠ x → hp.get? b = some o → h'.get? b = some o) → hp.objs.size ≤ dx → dx ≠ x →
      h'.get? x = some { cls := .ref C, dict := some dx, data := .fields fv } → h'.Ns1 dx (fun y => if y = nm then some v else none) →
      R (.ok (.ret .none)) ⟨h', g, d, tk', os⟩) :
    codeAny (model prog w) A (.call (.builtin "object.__setattr__") ⟨[.ref x, .str nm tk, v], []⟩) R ⟨hp, g, d, t, os⟩ := by
  have J : W.InstAt hp x { cls := .ref C, data := .fields fv } C none := ⟨hx, rfl, rfl, trivial⟩
  have hxs : x ≠ hp.objs.size := Nat.ne_of_lt (Heap.lt_size hx)
  have isO : W.Looks (model prog w) hp (isInstance (.ref x) (.type "object")) true :=
    J.type.andThen (W.looks_mroIn X (by unfold W.mroIn; rw [hcd, Option.bind_some, if_neg (by rw [hne]; decide), hob]))
  refine codeAny_call_builtin F.store_object.slot.plain F.store_object.entry
    (@W.check_slot (model prog w) _ _ ⟨hp, g, d, t, os⟩ "object.__setattr__" "object" "__setattr__" (.ref x) [.str nm tk, v] [] _
      F.store_object.kind F.store_object.split isO (F.store_object.args (.ref x) (.str nm tk) v) ?_)
  have order : W.Looks (model prog w) hp (mroOf (.ref C)) cd.mro := (W.looks_clsIn X hcd).andThen .now
  have taker : W.Looks (model prog w) hp (storeTaker? none) none := .now
  have data : W.Looks (model prog w) hp (classData C) cd := W.looks_clsIn X hcd
  rw [W.osa_eq, refuse_eq]
  refine wpAny_bind (wpAny_bind (J.type.at (wpAny_bind (order.at ?_))))
  rw [pas]
  refine wpAny_pure (wpAny_bind (J.type.at (wpAny_bind ((W.looks_findIn X ha).at (wpAny_bind (taker.at ?_))))))
  show wpAny _ _ (storeInOwnDict (.ref x) (.ref C) (.str nm tk) nm v false) _ _ _
  obtain ⟨q1, q2, q3, q4, q5, q6, q7, q8, q9, q10, q11⟩ := cd
  dsimp only at hh
  subst hh
  unfold storeInOwnDict ownDictForStores
  repeat (first
    | with_reducible refine store_in_new ?_ ?_
    | with_reducible refine wpAny_loadPart_at hx ?_
    | with_reducible refine data.at ?_
    | wp_step)
  · exact ⟨_, #[], _, (Heap.get?_update_ne _ _ _ _ hxs.symm).trans (Heap.get?_push_at rfl rfl), rfl, fun e he => absurd he (by simp), fun _ => rfl⟩
  · intro h' tk' nsd same
    have hx1 : (hp.push { cls := .type "dict", data := .dict #[] }).get? x = some { cls := .ref C, data := .fields fv } := Heap.get?_push_of_some _ hx
    refine hq h' tk' hp.objs.size (fun b o nb q => ?_) (Nat.le_refl _) hxs.symm ?_ nsd
    · exact (same.2 b (Nat.ne_of_lt (Heap.lt_size q))).trans
        ((Heap.get?_update_ne _ _ _ _ nb).trans (Heap.get?_push_of_some _ q))
    · exact (same.2 x hxs).trans (Heap.get?_update_self _ hx1 rfl)
/-- a further field -/
theorem put_more {K : W.Frag} {nm : Str} {tk : Tok} {v : Value} {x C dx : Addr} {fv : Array Value} {cd : ClassData} {m0 : Str → Option Value} {nl : List Str}
    (X : K.In hp) (hx : hp.get? x = some { cls := .ref C, dict := some dx, data := .fields fv }) (nsd : hp.Ns1 dx m0) (wi : Within m0 nl) (hz : nl.length ≤ 1000)
    (hcd : W.clsIn K C = some cd) (pas : refuseLoop (.ref x) "__setattr__" cd.mro = pure ()) (hob : cd.mro.contains (.type "object") = true)
    (hne : cd.mro.isEmpty = false) (hh : cd.hasDict = true) (ha : W.findIn K (.ref C) nm = some none)
    (hq : ∀ h' tk', (∀ b o, b ≠ dx → hp.get? b = some o → h'.get? b = some o) → h'.Ns1 dx (fun y => if y = nm then some v else m0 y) →
      R (.ok (.ret .none)) ⟨h', g, d, tk', os⟩) :
    codeAny (model prog w) A (.call (.builtin "object.__setattr__") ⟨[.ref x, .str nm tk, v], []⟩) R ⟨hp, g, d, t, os⟩ := by
  obtain ⟨oD, _, _, hoD, _, _⟩ := nsd.count wi
  have J : W.InstAt hp x { cls := .ref C, dict := some dx, data := .fields fv } C (some oD) := ⟨hx, rfl, rfl, hoD⟩
  have isO : W.Looks (model prog w) hp (isInstance (.ref x) (.type "object")) true :=
    J.type.andThen (W.looks_mroIn X (by unfold W.mroIn; rw [hcd, Option.bind_some, if_neg (by rw [hne]; decide), hob]))
  refine codeAny_call_builtin F.store_object.slot.plain F.store_object.entry
    (@W.check_slot (model prog w) _ _ ⟨hp, g, d, t, os⟩ "object.__setattr__" "object" "__setattr__" (.ref x) [.str nm tk, v] [] _
      F.store_object.kind F.store_object.split isO (F.store_object.args (.ref x) (.str nm tk) v) ?_)
  have order : W.Looks (model prog w) hp (mroOf (.ref C)) cd.mro := (W.looks_clsIn X hcd).andThen .now
  have taker : W.Looks (model prog w) hp (storeTaker? none) none := .now
  have data : W.Looks (model prog w) hp (classData C) cd := W.looks_clsIn X hcd
  rw [W.osa_eq, refuse_eq]
  refine wpAny_bind (wpAny_bind (J.type.at (wpAny_bind (order.at ?_))))
  rw [pas]
  refine wpAny_pure (wpAny_bind (J.type.at (wpAny_bind ((W.looks_findIn X ha).at (wpAny_bind (taker.at ?_))))))
  show wpAny _ _ (storeInOwnDict (.ref x) (.ref C) (.str nm tk) nm v false) _ _ _
  obtain ⟨q1, q2, q3, q4, q5, q6, q7, q8, q9, q10, q11⟩ := cd
  dsimp only at hh
  subst hh
  unfold storeInOwnDict ownDictForStores
  repeat (first
    | with_reducible refine OEX.store_in_old nsd wi hz ?_
    | with_reducible refine wpAny_loadPart_at hx ?_
    | with_reducible refine data.at ?_
    | wp_step)
  intro h' tk' ns' same
  exact hq h' tk' (fun b o nb q => (same.2 b nb).trans q) ns'
end
/-! ### an own exception class called with keywords -/
section
variable {M : Model} {A : Around} {E : Value → Shared → Prop} {h : Heap} {g : Array GenState} {d : Drawn} {t : Nat} {os : OsState}
variable {nm q : Str} {C N : Addr} {bs bm : List Value} {hd : Bool} {sn : List Str} {sub : List Value} {ab : Bool} {col : Option Bool} {dd : Option Addr}
variable {k0 k1 k2 k3 k5 : Option Value} {B newId initId : String}
theorem check_newK (F : ExcBaseFacts B newId initId bm) {rest : List Value} {kw : List (Str × Value)} {Q : Unit → Shared → Prop}
    (hC : h.get? C = some (excClassObj nm q C N bs bm hd sn sub ab col dd k0 k1 k2 k3 k5 newId)) (hq : Q () ⟨h, g, d, t, os⟩) :
    wpAny M A (checkBuiltinCall newId ⟨.ref C :: rest, kw⟩) Q E ⟨h, g, d, t, os⟩ := by
  have hasIt : (Value.ref C :: bm).contains (.type B) = true := by rw [List.contains_cons, F.hasB, Bool.or_true]
  have star := F.noStar
  simp only [checkBuiltinCall, F.newKind, F.newSplit, F.newRow]
  repeat (first
    | refine wpAny_loadPart_at hC ?_
    | (refine wpAny_isSubtype_exc hC ?_; rw [hasIt])
    | refine wpAny_staticBase_exc hC ?_
    | refine wpAny_madeBy_exc hC ?_
    | simp only [bne_self_eq_false, Bool.false_eq_true, if_false]
    | wp_step)
  exact hq
end
section
variable {prog : Program} {w : World} {A : Around} {E : Value → Shared → Prop} {R : Result → Shared → Prop}
variable {h : Heap} {g : Array GenState} {d : Drawn} {t : Nat} {os : OsState}
variable {nm q : Str} {C N : Addr} {bs bm : List Value} {hd : Bool} {sn : List Str} {sub : List Value} {ab : Bool} {col : Option Bool} {dd : Option Addr}
variable {k0 k1 k2 k3 k5 : Option Value} {B newId initId : String}
theorem newK (F : ExcBaseFacts B newId initId bm) {rest : List Value} {kw : List (Str × Value)}
    (hC : h.get? C = some (excClassObj nm q C N bs bm hd sn sub ab col dd k0 k1 k2 k3 k5 newId))
    (hq : R (.ok (.ret (.ref (h.objs.size + 1)))) ⟨(h.push (W.kdv_tup rest)).push (excO C h.objs.size), g, d, t, os⟩) (hrest : rest.length ≤ sizeLine) :
    codeAny (model prog w) A (.builtin newId ⟨.ref C :: rest, kw⟩) R ⟨h, g, d, t, os⟩ := by
  have ends := F.ends
  have b1 : (Value.ref C :: bm).contains (.type B) = true := by rw [List.contains_cons, F.hasB, Bool.or_true]
  have b2 : (Value.ref C :: bm).contains (.type "AttributeError") = false := by rw [List.contains_cons, F.noAttr]; rfl
  have b3 : (Value.ref C :: bm).contains (.type "NameError") = false := by rw [List.contains_cons, F.noName]; rfl
  refine codeAny_builtinAt F.entry ?_
  unfold Builtin.«BaseException.__new__»
  refine PySem.wpAt_bind ?_
  show PySem.wpAt _ _ _ (stack >>= _) _ _ _
  refine PySem.wpAt_bind (PySem.wpAt_stack fun p below => PySem.wpAt_of_wpAny ?_)
  wp_walk
  refine PySem.wpAt_of_wpAny ?_
  rw [F.owner]
  repeat (first
    | with_reducible refine wpAny_madeHere_exc F.canon hC ?_
    | with_reducible refine wpAny_loadPart_at hC ?_
    | (with_reducible refine wpAny_isSubtype_exc hC ?_; first | rw [b1] | rw [b2] | rw [b3])
    | wp_step)
  show R _ _
  rw [Heap.size_push]
  exact hq
theorem typeCallK (F : ExcBaseFacts B newId initId bm) {rest : List Value} {kw : List (Str × Value)} {fI : Addr} {Q : Fin → Shared → Prop}
    (hC : h.get? C = some (excClassObj nm q C N bs bm hd sn sub ab col dd k0 k1 k2 k3 k5 newId))
    (hi : W.Looks (model prog w) h (typeLookup (.ref C) "__init__") (some (.ref fI)))
    (hb : ∀ self, W.Looks (model prog w) h (bindSpecial (.ref fI) self) (.ref fI, [self])) (hrest : rest.length ≤ sizeLine)
    (hq : codeAny (model prog w) A (.call (.ref fI) ⟨.ref (h.objs.size + 1) :: rest, kw⟩)
      (fun r s' => match r with | .ok (.ret v) => v = .none ∧ Q (.done (.ret (.ref (h.objs.size + 1)))) s' | .ok _ => False | .error e => E e s')
      ⟨(h.push (W.kdv_tup rest)).push (excO C h.objs.size), g, d, t, os⟩) :
    wpAny (model prog w) A (Builtin.«type.__call__» ⟨.ref C :: rest, kw⟩) Q E ⟨h, g, d, t, os⟩ := by
  repeat (first
    | with_reducible refine wpAny_loadPart_at hC ?_
    | with_reducible refine wpAny_madeBy_exc hC ?_
    | wp_step)
  refine codeAny_call_builtin_code (Code.quiet_builtin _ F.quiet) (check_newK F hC ?_)
  refine newK F hC ?_ hrest
  show wpAny _ _ _ _ _ _
  have kp : ∀ b o, h.get? b = some o → ((h.push (W.kdv_tup rest)).push (excO C h.objs.size)).get? b = some o :=
    fun b o e => Heap.get?_push_of_some _ (Heap.get?_push_of_some _ e)
  have hC1 := kp _ _ hC
  have new : ((h.push (W.kdv_tup rest)).push (excO C h.objs.size)).get? (h.objs.size + 1) = some (excO C h.objs.size) := by heap_get
  have self : (Value.ref C :: bm).contains (.ref C) = true := by simp
  have i1 := hi.keeps kp
  have b1 := (hb (.ref (h.objs.size + 1))).keeps kp
  unfold isInstance
  repeat (first
    | with_reducible refine wpAny_loadPart_at new ?_
    | (with_reducible refine wpAny_isSubtype_exc hC1 ?_; rw [self])
    | wp_step)
  show wpAny _ _ (typeLookup (.ref C) _) _ _ _
  refine i1.at ?_
  refine wpAny_holding (wpAny_bind (b1.at ?_))
  refine wpAny_bind (wpAny_call (codeAny_mono hq fun r s' z => ?_))
  rcases r with e | (v | _ | _ | _) <;> first | exact z | exact z.elim | skip
  obtain ⟨rfl, z⟩ := z
  first
    | exact wpAny_pure (wpAny_pure z)
    | (wp_walk; exact z)
theorem callK (F : ExcBaseFacts B newId initId bm) {rest : List Value} {kw : List (Str × Value)} {fI : Addr}
    (hC : h.get? C = some (excClassObj nm q C N bs bm hd sn sub ab col dd k0 k1 k2 k3 k5 newId))
    (hi : W.Looks (model prog w) h (typeLookup (.ref C) "__init__") (some (.ref fI)))
    (hb : ∀ self, W.Looks (model prog w) h (bindSpecial (.ref fI) self) (.ref fI, [self])) (hrest : rest.length ≤ sizeLine)
    (hq : codeAny (model prog w) (A.under (.builtin "type.__call__" ⟨.ref C :: rest, kw⟩)) (.call (.ref fI) ⟨.ref (h.objs.size + 1) :: rest, kw⟩)
      (W.InitBack (h.objs.size + 1) R) ⟨(h.push (W.kdv_tup rest)).push (excO C h.objs.size), g, d, t, os⟩) :
    codeAny (model prog w) A (.call (.ref C) ⟨rest, kw⟩) R ⟨h, g, d, t, os⟩ := by
  have f1 := tc_lookup
  have f2 := tc_bind (.ref C)
  have ty : (⟨h, g, d, t, os⟩ : Shared).TypeIs (.ref C) "type" := ⟨_, hC, rfl⟩
  refine codeAny_of_tree ?_
  show wpAny _ _ (callAny (.ref C) _) _ _ _
  repeat (any_goals (first
    | assumption
    | with_reducible refine wpAny_loadPart_at hC ?_
    | wp_step))
  refine ⟨rfl, ?_⟩
  refine codeAny_call_builtin_at (Code.quiet_builtin _ (by decide +kernel)) entry_typeCall ?_
  refine wpAny_check_type_call_sub hC ?_
  refine typeCallK F hC hi hb hrest (codeAny_mono hq fun r s' z => ?_)
  rcases r with e | (v | _ | _ | _) <;> exact z
end
end EV

set_option Elab.async false
set_option linter.all false
set_option maxRecDepth 100000
set_option maxHeartbeats 4000000
namespace L2
namespace EV
open PySem PySem.Spec PyProof.Rows _root_.EV
/-- what the written part says of an own exception class at C, straight under the built-in base B -/
structure OxC (K : PySem.W.Frag) (C : Addr) (B newId initId : String) (bm : List Value) : Prop where
  F : ExcBaseFacts B newId initId bm
  cls : ∃ nm q N bs sn sub ab col dd k0 k1 k2 k3 k5, K.lookup C = some (excClassObj nm q C N bs bm true sn sub ab col dd k0 k1 k2 k3 k5 newId)
  pas : ∀ self, refuseLoop self "__setattr__" bm = pure ()
  obj : bm.contains (.type "object") = true
  sa : PySem.W.findIn K (.ref C) "__setattr__" = some (some (.builtin "object.__setattr__"))
  ga : PySem.W.findIn K (.ref C) "__getattribute__" = some (some (.builtin "BaseException.__getattribute__"))
  gg : PySem.W.findIn K (.ref C) "__getattr__" = some none
  exC : PySem.W.subIn K (.ref C) (.type "BaseException") = some true
  kC : PySem.W.keepIn K (.ref C) = true
  hd : PySem.W.hasDictIn K C = true
  ca : PySem.W.findIn K (.ref C) "__class__" = some (some (.builtin "object.__class__"))
  cn : PySem.W.specialIn K (.builtin "object.__class__") "__get__" = some (some (.builtin "getset_descriptor.__get__"))
  ct : PySem.W.takesIn K (.builtin "object.__class__") = some true
  om : PySem.W.mroIn K C (.type "object") = some true
section
variable {X : Cx} {pins : List (Addr × Obj)} {σ : St} {H : Hp} {s : Shared} {a C dx : Addr} {f : Str} {y : V} {u : Value} {fs : List (Str × V)}
variable {Q : Unit → Shared → Prop} {E : Value → Shared → Prop} {A : Around} {B newId initId : String} {bm : List Value}
theorem OxC.data {K : PySem.W.Frag} (T : OxC K C B newId initId bm) : ∃ cd, PySem.W.clsIn K C = some cd ∧ cd.mro = .ref C :: bm ∧ cd.hasDict = true := by
  obtain ⟨nm, q, N, bs, sn, sub, ab, col, dd, k0, k1, k2, k3, k5, hC⟩ := T.cls
  refine ⟨{ name := nm, bases := bs, mro := .ref C :: bm, ns := N, qualname := q, hasDict := true, slotNames := sn, subclasses := sub, abstract := ab, collection := col, hasDel := false }, ?_, rfl, rfl⟩
  unfold PySem.W.clsIn
  rw [hC] <;> rfl
theorem OxC.look {K : PySem.W.Frag} (T : OxC K C B newId initId bm) {cd : ClassData} (e : cd.mro = .ref C :: bm) (self : Value) :
    refuseLoop self "__setattr__" cd.mro = pure () ∧ cd.mro.contains (.type "object") = true ∧ cd.mro.isEmpty = false := by
  rw [e, refuseLoop_ref]
  refine ⟨T.pas self, ?_, rfl⟩
  rw [List.contains_cons, T.obj, Bool.or_true]
/-- self.f = y, the first field -/
theorem ox_first (T : OxC X.K C B newId initId bm) (I : Inv X pins σ H s) (e : H a = some (exo a C none)) (no : PySem.W.findIn X.K (.ref C) f = some none) (ry : RelV y u)
    (h : ∀ dx s', H dx = none → dx ≠ a → Inv X pins σ (upd (upd H dx (exd dx [(f, y)])) a (exo a C (some dx))) s' → Q () s') :
    wpAny (model X.prog X.w) A (setAttr (.ref a) f u) Q E s := by
  obtain ⟨cd, hcl, hmr, hdi⟩ := T.data
  obtain ⟨l1, l2, l3⟩ := T.look hmr (.ref a)
  obtain ⟨t1, ho⟩ := exo_at I.hok e
  obtain ⟨hp, g, d, t, os⟩ := s
  refine PySem.W.set_plain I.kIn (ox := { cls := .ref C, dict := none, data := .fields #[.ref t1, .none, .none, .none, .bool false, .none] })
    (od := none) ⟨ho, rfl, rfl, trivial⟩ T.sa ?_
  refine put_first I.kIn ho hcl l1 l2 l3 hdi no fun h' tk' dx k big ne hx hn => ?_
  have free : H dx = none := I.hok.fresh big
  have old : ∀ {b : Addr} {o : Obj}, hp.get? b = some o → b ≠ dx := fun {b o} q => Nat.ne_of_lt (Nat.lt_of_lt_of_le (Heap.lt_size q) big)
  have nota : ∀ {b : Addr}, H b = none → b ≠ a := fun {b} n z => by
    subst z
    rw [e] at n
    cases n
  have un : Un X.fs [] H (upd (upd H dx (exd dx [(f, y)])) a (exo a C (some dx))) hp h' := by
    refine ⟨fun b o q n _ _ => k b o (nota n) q, fun b o q n _ _ => ⟨o.slots, k b o (nota n) q⟩, fun b o q n _ => ?_, fun b o q _ => ?_, fun b xs q => ?_, fun b o v q => ?_, fun b ps q => ⟨#[], ?_⟩⟩
    · rw [upd_ne (nota n), upd_ne (old q)]
      exact n
    · by_cases hb : b = a
      · subst hb
        exact ⟨_, hx⟩
      · exact ⟨o, k b o hb q⟩
    · rw [upd_ne (at_ne e q exo_tup), upd_ne (ne_of_none q free)]
      exact q
    · rw [upd_ne (at_ne e q exo_frz), upd_ne (ne_of_none q free)]
      exact q
    · rw [upd_ne (at_ne e q exo_tbl), upd_ne (ne_of_none q free), q]
      simp
  refine h dx _ free ne (I.un (t' := tk') un fun b o q => ?_)
  by_cases hb : b = a
  · subst hb
    rw [upd_same] at q
    cases q
    exact exo_ok hx
  · rw [upd_ne hb] at q
    by_cases hd : b = dx
    · subst hd
      rw [upd_same] at q
      cases q
      exact exd_ok hn (relO_put (fs := []) ry fun g => True.intro)
    · rw [upd_ne hd] at q
      refine (I.hok b o q).stay (fun c v hc z => k c v ?_ z) (fun c hc => ?_) fun c xs hc => ?_
      · rcases hc with hc | hc
        · subst hc
          exact hb
        · exact at_ne e hc exo_own
      · rw [upd_ne (at_ne e hc exo_own), upd_ne (ne_of_none hc free)]
        exact hc
      · rw [upd_ne (at_ne e hc exo_tup), upd_ne (ne_of_none hc free)]
        exact hc
/-- self.f = y, a further field -/
theorem ox_more (T : OxC X.K C B newId initId bm) (I : Inv X pins σ H s) (e : H a = some (exo a C (some dx))) (ed : H dx = some (exd dx fs)) (hl : fs.length ≤ 900)
    (no : PySem.W.findIn X.K (.ref C) f = some none) (ry : RelV y u) (h : ∀ s', Inv X pins σ (upd H dx (exd dx ((f, y) :: fs))) s' → Q () s') :
    wpAny (model X.prog X.w) A (setAttr (.ref a) f u) Q E s := by
  obtain ⟨cd, hcl, hmr, hdi⟩ := T.data
  obtain ⟨l1, l2, l3⟩ := T.look hmr (.ref a)
  obtain ⟨t1, ho⟩ := exo_at I.hok e
  obtain ⟨mA, hns, rel⟩ := exd_at I.hok ed
  have hw := within_of rel
  obtain ⟨hp, g, d, t, os⟩ := s
  obtain ⟨oD, _, _, hoD, _, _⟩ := hns.count hw
  refine PySem.W.set_plain I.kIn (ox := { cls := .ref C, dict := some dx, data := .fields #[.ref t1, .none, .none, .none, .bool false, .none] })
    (od := some oD) ⟨ho, rfl, rfl, hoD⟩ T.sa ?_
  refine put_more I.kIn ho hns hw (by rw [List.length_map]; omega) hcl l1 l2 l3 hdi no fun h' tk' k hn => ?_
  have there : ∃ o, h'.get? dx = some o := by
    obtain ⟨o, _, _, e', _⟩ := hn
    exact ⟨o, e'⟩
  refine h _ (I.write (t' := tk') (x := dx) (e := dx) (o := exd dx ((f, y) :: fs)) ?_ (.inl rfl) k there (exd_ok hn (relO_put ry rel)))
  rw [ed]
  exact True.intro
/-- B.__init__(self, ..) of an exception without fields: nothing of it is told -/
theorem ox_init {us : List Value} {Q : Value → Shared → Prop} (T : OxC X.K C B newId initId bm) (I : Inv X pins σ H s) (e : H a = some (exo a C none)) (hl : us.length ≤ sizeLine)
    (h : ∀ s', Inv X pins σ H s' → Q .none s') : wpAny (model X.prog X.w) A (call (.builtin initId) (.ref a :: us)) Q E s := by
  obtain ⟨nm, q, N, bs, sn, sub, ab, col, dd, k0, k1, k2, k3, k5, hC⟩ := T.cls
  obtain ⟨t1, ho⟩ := exo_at I.hok e
  obtain ⟨hp, g, d, t, os⟩ := s
  refine wpAny_call (PySem.HandSPX.init_base T.F (fun _ => rfl) (I.kIn _ _ hC) ho hl fun h' t2 k hx => ?_)
  have J := I.write (t' := t) (x := a) (e := a) (o := exo a C none) (by rw [e]; exact True.intro) (.inl rfl) k ⟨_, hx⟩ (exo_ok hx)
  have eu : upd H a (exo a C none) = H := by
    funext b
    by_cases hb : b = a
    · subst hb
      rw [upd_same, e]
    · rw [upd_ne hb]
  rw [eu] at J
  exact h _ J
end
/-! ### the readings -/
def tBin (K : PySem.W.Frag) (B newId initId : String) (bm : List Value) (ta : TA) : TE := fun σ H Q => ta σ H fun vs H1 =>
  ∃ (a C : Addr) (ws : List V), vs = .ref a :: ws ∧ ws.length ≤ 1000 ∧ OxC K C B newId initId bm ∧ H1 a = some (exo a C none) ∧ Q .non H1
def tPut (K : PySem.W.Frag) (B newId initId : String) (bm : List Value) (f : Str) (to te : TE) : TS := fun D σ H => te σ H fun y H1 => to σ H1 fun x H2 =>
  ∃ a C : Addr, x = .ref a ∧ OxC K C B newId initId bm ∧ PySem.W.findIn K (.ref C) f = some none ∧
    ((H2 a = some (exo a C none) ∧ ∀ dx, H2 dx = none → dx ≠ a → D.nx σ (upd (upd H2 dx (exd dx [(f, y)])) a (exo a C (some dx)))) ∨
      ∃ (dx : Addr) (fs : List (Str × V)), H2 a = some (exo a C (some dx)) ∧ H2 dx = some (exd dx fs) ∧ fs.length ≤ 900 ∧ D.nx σ (upd H2 dx (exd dx ((f, y) :: fs))))
/-- C(..) as a value: gV puts the exception itself, the values by position and those by name in the parameters' order -/
def tNew (C : Addr) (n m : Nat) (sp : Sp) (gV : List V → List V → List V) (t tk : TA) : TE := fun σ H Q => t σ H fun vs H1 => tk σ H1 fun zs H2 =>
  vs.length = n ∧ zs.length = m ∧ vs.length ≤ 1000 ∧ ∀ a, H2 a = none → sp (gV (.ref a :: vs) zs) (upd H2 a (exo a C none)) (fun v H3 => v = .non ∧ Q (.ref a) H3) (fun _ _ _ => False)
/-- e.f, e such an exception -/
def tFld (K : PySem.W.Frag) (f : Str) (te : TE) : TE := fun σ H Q => te σ H fun x H1 =>
  ∃ (a C dx : Addr) (B newId initId : String) (bm : List Value) (fs : List (Str × V)) (v : V), x = .ref a ∧ OxC K C B newId initId bm ∧ PySem.W.findIn K (.ref C) f = some none ∧
    H1 a = some (exo a C (some dx)) ∧ H1 dx = some (exd dx fs) ∧ fs.lookup f = some v ∧ Q v H1
/-- isinstance(e, c) -/
def rIsX (K : PySem.W.Frag) : List V → Hp → VK → Prop := fun xs H Q => ∃ (a C : Addr) (od : Option Addr) (fs : List (Str × V)) (B newId initId : String) (bm : List Value) (c : V) (u : Value) (b : Bool),
  xs = [.ref a, c] ∧ ClsV c u ∧ OxC K C B newId initId bm ∧ H a = some (exo a C od) ∧ (∀ dx, od = some dx → H dx = some (exd dx fs)) ∧ PySem.W.kitOne K (.ref C) u = some b ∧ Q (.bl b) H
section
variable {X : Cx} {o e : Expr} {es : List Expr} {to te : TE} {ta : TA} {f : Str} {p p' p1 p2 pos : Pos} {B newId initId : String} {bm : List Value}
theorem pe_bin {nB : Str} {pl : Sem Bool} (hg : Gl X nB) (hm : X.mg nB = none) (hv : bootBuiltins nB = some (.type B)) (ty : typeOf (.type B) = pure (.type "type"))
    (vV : PySem.W.findCls X.K (.type B) (.type "type") "__init__" = some (.val (.builtin initId))) (q4 : Manifest.isStub B = false) (ha : PA X (e :: es) ta) (q3 : PySem.W.handedIn (.builtin initId) = true)
    (hn1 : nB ≠ "__name__" := by decide) (hn2 : (nB == ("__debug__" : Str)) = false := by decide)
    (hc : eval (.Call (.Attribute (.Name nB p1) "__init__" p2) (e :: es) [] pos) X.env = (do
      let ov ← eval (.Name nB p1) X.env
      standAt p2.atName
      let (f, first) ← holding [ov] (getMethod ov "__init__" pl)
      callWith pos f first (backTo pos (starEach (e :: es) X.env)) (backToKw pos (keywordEach [] X.env))) := by rfl)
    (he : starEach (e :: es) X.env = (false, eval e X.env) :: starEach es X.env := by rfl) (hpl : (backTo pos (starEach es X.env)).any (·.1) = false := by rfl) :
    PE X (.Call (.Attribute (.Name nB p1) "__init__" p2) (e :: es) [] pos) (tBin X.K B newId initId bm ta) := by
  refine ⟨fun pins s σ H Q I h => ?_⟩
  refine PySem.W.methodCall_KW (ld_blt I hg hm hv ?_ hn1 hn2) hc
  obtain ⟨m, fr⟩ := I.fr
  refine PySem.W.method_type fr I.ok.mod.kin ty q4 vV q3 ?_
  show wpAny _ _ (callWith pos (Value.builtin initId) [] (backTo pos (starEach (e :: es) X.env)) []) _ _ _
  refine PyProof.Rows.callWith_method1 (thn (ha.run pos pins _ σ H _ (I.tok _) h) fun us s1 ⟨vs, H1, I1, r1, a, C, ws, ev, hl, T, ea, q⟩ => ?_) he hpl
  subst ev
  cases r1 with
  | @cons _ u0 _ ur ra rr =>
    obtain rfl : u0 = Value.ref a := ra
    have len : ur.length ≤ sizeLine := by
      have e1 := Paired.length rr
      rw [← e1, sizeLine_eq]
      omega
    exact ox_init T I1 ea len fun s' J => ⟨.non, H1, J, rfl, q⟩
/-- self.f = e -/
theorem ps_put (ho : PE X o to) (he : PE X e te) (hs : swapsWith e (some (.Attribute o f p')) pos.line X.env = pure false := by rfl) :
    PS X (.Assign [.Attribute o f p'] e pos) (tPut X.K B newId initId bm f to te) := by
  refine ⟨fun pins s σ H D I h => ?_⟩
  refine plainObj_wpAny_Assign_Attribute (thn (he.run pins s σ H _ I h) fun v s1 ⟨y, H1, I1, r1, q1⟩ => ?_) hs
  refine thn (ho.run pins s1 σ H1 _ I1 q1) fun u s2 ⟨x, H2, I2, r2, a, C, ex, T, no, q⟩ => ?_
  subst ex
  obtain rfl : u = Value.ref a := r2
  rcases q with ⟨ea, q⟩ | ⟨dx, fs, ea, ed, hl, q⟩
  · exact ox_first T I2 ea no r1 fun dx s' n ne J => ⟨σ, _, J, q dx n ne⟩
  · exact ox_more T I2 ea ed hl no r1 fun s' J => ⟨σ, _, J, q⟩
/-- e.f -/
theorem pe_xfld (he : PE X e te) (hb : attributeBase e f X.env (eval e X.env) = eval e X.env := by rfl) : PE X (.Attribute e f pos) (tFld X.K f te) := by
  refine ⟨fun pins s σ H Q I h => ?_⟩
  refine attr_of hb (thn (he.run pins s σ H _ I h) fun u s1 ⟨x, H1, I1, rx, a, C, dx, B, newId, initId, bm, fs, v, ex, T, no, ea, ed, l, q⟩ => ?_)
  subst ex
  obtain rfl : u = Value.ref a := rx
  obtain ⟨t1, ho⟩ := exo_at I1.hok ea
  obtain ⟨mA, hns, hr⟩ := exd_at I1.hok ed
  obtain ⟨od, hod, hl⟩ := lookIn_ns hns
  obtain ⟨u, hu, ru⟩ := RelO.some_of (v := v) (o := mA f) (by rw [← l]; exact hr f)
  have J : PySem.W.InstAt s1.heap a { cls := .ref C, dict := some dx, data := .fields #[.ref t1, .none, .none, .none, .bool false, .none] } C (some od) := ⟨ho, rfl, rfl, hod⟩
  exact HandSPX.exc_get I1.kIn J T.ga T.gg T.exC (PySem.W.findObj_own T.hd no rfl (by rw [hl, hu])) (handed_of ru) ⟨v, H1, I1.tok _, ru, q⟩
theorem call_isX : CallR X (.builtin "isinstance") (rIsX X.K) := by
  intro pins s σ H xs us Q I r h
  obtain ⟨a, C, od, fs, B, newId, initId, bm, c, u, b, rfl, k, T, ea, ed, e, q⟩ := h
  obtain ⟨u1, u2, rfl, r1, r2⟩ := vals2 r
  have e2 := k.eq r2
  subst e2
  obtain rfl : u1 = Value.ref a := r1
  obtain ⟨t1, ho⟩ := exo_at I.hok ea
  obtain ⟨cd, hcl, _⟩ := T.data
  have some_ : (PySem.W.clsIn X.K C).isSome = true := by rw [hcl]; rfl
  have fin : ∀ tk, EP X pins σ Q (.bool b) { s with toks := tk } := fun tk => ⟨.bl b, H, I.tok tk, rfl, q⟩
  cases od with
  | none =>
    have J : PySem.W.InstAt s.heap a { cls := .ref C, dict := none, data := .fields #[.ref t1, .none, .none, .none, .bool false, .none] } C none := ⟨ho, rfl, rfl, trivial⟩
    exact PySem.W.kia_one (PySem.W.kitx_exc some_ T.ga T.gg T.exC T.ca T.cn T.ct T.om) I.kIn J e (fun z => nomatch z) fin
  | some dx =>
    obtain ⟨mA, hns, hr⟩ := exd_at I.hok (ed dx rfl)
    obtain ⟨o', hod, hl⟩ := lookIn_ns hns
    have J : PySem.W.InstAt s.heap a { cls := .ref C, dict := some dx, data := .fields #[.ref t1, .none, .none, .none, .bool false, .none] } C (some o') := ⟨ho, rfl, rfl, hod⟩
    exact PySem.W.kia_one (PySem.W.kitx_exc some_ T.ga T.gg T.exC T.ca T.cn T.ct T.om) I.kIn J e (fun z => nomatch z) fin
end
/-! ### making one, kept as a value -/
section
variable {X : Cx} {CX : CXT} {k n : Nat} {fI C : Addr} {fd : FuncData} {ps ks : List Str} {sp : Sp} {x : Str} {p pos : Pos} {e : Expr} {es : List Expr} {kws : List Keyword}
variable {t tk : TA} {g : List Value → List Value → List Value} {gV : List V → List V → List V} {B newId initId : String} {bm : List Value}
theorem run_new {pins : List (Addr × Obj)} {σ : St} {H : Hp} {s : Shared} {Q : VK} {us ws : List Value} {vs zs : List V} (T : OxC X.K C B newId initId bm)
    (iC : PySem.W.findIn X.K (.ref C) "__init__" = some (some (.ref fI))) (tI : PySem.W.typeIn X.K (.ref fI) = some (.type "function"))
    (F : FnOk X.prog X.w X.K X.mg X.base CX k fI fd ps sp) (hr : Room (k + 1) X.A) (hb : KBn X.K fd ps (n + 1) ks g gV) (hx : Passes CX X (fun _ _ _ => False))
    (I : Inv X pins σ H s) (r : Vals vs us) (rz : Vals zs ws) (l1 : vs.length = n) (l2 : zs.length = ks.length) (l3 : vs.length ≤ 1000)
    (h : ∀ a, H a = none → sp (gV (.ref a :: vs) zs) (upd H a (exo a C none)) (fun v H3 => v = .non ∧ Q (.ref a) H3) (fun _ _ _ => False)) :
    wpAny (model X.prog X.w) X.A (call (.ref C) us (ks.zip ws)) (EP X pins σ Q) X.xe s := by
  obtain ⟨nm, q, N, bs, sn, sub, ab, col, dd, k0, k1, k2, k3, k5, hC⟩ := T.cls
  obtain ⟨hp, g1, dr, tk, os⟩ := s
  have big : hp.objs.size ≤ hp.objs.size + 1 := Nat.le_succ _
  have free : H (hp.objs.size + 1) = none := I.hok.fresh big
  have hq := h (hp.objs.size + 1) free
  have kp : ∀ b o, hp.get? b = some o → ((hp.push (PySem.W.kdv_tup us)).push (PySem.HandSPX.excO C hp.objs.size)).get? b = some o := fun b o e =>
    Heap.get?_push_of_some _ (Heap.get?_push_of_some _ e)
  have new : ((hp.push (PySem.W.kdv_tup us)).push (PySem.HandSPX.excO C hp.objs.size)).get? (hp.objs.size + 1) = some (PySem.HandSPX.excO C hp.objs.size) := by heap_get
  have I2 : Inv X pins σ (upd H (hp.objs.size + 1) (exo (hp.objs.size + 1) C none))
      ⟨(hp.push (PySem.W.kdv_tup us)).push (PySem.HandSPX.excO C hp.objs.size), g1, dr, tk, os⟩ :=
    I.laid (t' := tk) (a := hp.objs.size + 1) (o := exo (hp.objs.size + 1) C none) (h' := (hp.push (PySem.W.kdv_tup us)).push (PySem.HandSPX.excO C hp.objs.size)) kp big (exo_ok new)
  have ra : Vals (V.ref (hp.objs.size + 1) :: vs) (Value.ref (hp.objs.size + 1) :: us) := .cons rfl r
  have lu : us.length ≤ sizeLine := by
    have e1 := Paired.length r
    rw [← e1, sizeLine_eq]
    omega
  have n1 : (Value.ref (hp.objs.size + 1) :: us).length = n + 1 := by
    rw [List.length_cons, ← r.length, l1]
  refine wpAny_call (EV.callK T.F (I.kIn _ _ hC) (PySem.W.looks_findIn I.kIn iC) (fun self => PySem.W.bind_fn I.kIn self tI) lu
    (codeAny_mono (F.run _ X.stack _ _ ⟨Value.ref (hp.objs.size + 1) :: us, ks.zip ws⟩ (g (Value.ref (hp.objs.size + 1) :: us) ws) _ _ (fun _ _ _ => False)
      (hr.make C us (ks.zip ws)) (I2.env0.make C us (ks.zip ws)) (hb.to _ _ ws I2.kIn n1 (rz.length.symm.trans l2)) (hb.rel ra rz) hq) fun r s' hq' => ?_))
  cases r with
  | error er => exact hx pins σ _ _ er s' I2 hq'
  | ok fl =>
    cases fl with
    | ret u =>
      obtain ⟨v, H3, I3, rv, ev, q3⟩ := I2.after hq'
      subst ev
      exact ⟨rv, ⟨V.ref (hp.objs.size + 1), H3, I3, rfl, q3⟩⟩
    | next => exact False.elim hq'
    | brk => exact False.elim hq'
    | cont => exact False.elim hq'
/-- C(e, ..) -/
theorem pe_new (T : OxC X.K C B newId initId bm) (iC : PySem.W.findIn X.K (.ref C) "__init__" = some (some (.ref fI))) (tI : PySem.W.typeIn X.K (.ref fI) = some (.type "function"))
    (F : FnOk X.prog X.w X.K X.mg X.base CX k fI fd ps sp) (hr : Room (k + 1) X.A) (hb : KBn X.K fd ps (n + 1) [] g gV) (hx : Passes CX X (fun _ _ _ => False))
    (hg : Gl X x) (hm : X.mg x = some (.ref C)) (ha : PA X (e :: es) t) (hdb : (x == ("__debug__" : Str)) = false := by decide)
    (he : starEach (e :: es) X.env = (false, eval e X.env) :: starEach es X.env := by rfl) (hpl : (backTo pos (starEach es X.env)).any (·.1) = false := by rfl) :
    PE X (.Call (.Name x p) (e :: es) [] pos) (tNew C n 0 sp gV t tNil) := by
  refine ⟨fun pins s σ H Q I h => ?_⟩
  refine wpAny_Call_Name_kw (ld_glob I hg hm ?_ hdb)
  refine PySem.W.callWith_K (h₀ := X.base) I.ok.mod.kin T.kC (thn (ha.run pos pins s σ H _ I h) fun us s1 ⟨vs, H1, I1, r1, q1⟩ => ⟨I1.kIn, ?_⟩) he hpl
  obtain ⟨l1, _, l3, q2⟩ := q1
  exact run_new (ws := []) (zs := []) T iC tI F hr hb hx I1 r1 .nil l1 rfl l3 q2
/-- C(k = v, ..) -/
theorem pe_newK (T : OxC X.K C B newId initId bm) (iC : PySem.W.findIn X.K (.ref C) "__init__" = some (some (.ref fI))) (tI : PySem.W.typeIn X.K (.ref fI) = some (.type "function"))
    (F : FnOk X.prog X.w X.K X.mg X.base CX k fI fd ps sp) (hr : Room (k + 1) X.A) (hb : KBn X.K fd ps 1 ks g gV) (hx : Passes CX X (fun _ _ _ => False))
    (hg : Gl X x) (hm : X.mg x = some (.ref C)) (hkw : PK X kws tk) (hall : (backToKw pos (keywordEach kws X.env)).all (·.1.isSome) = true := by rfl)
    (hks : (backToKw pos (keywordEach kws X.env)).filterMap (·.1) = ks := by rfl) (hdb : (x == ("__debug__" : Str)) = false := by decide)
    (hpl : ((backTo pos (starEach [] X.env)).any (·.1) || (backToKw pos (keywordEach kws X.env)).any (·.1.isNone)) = false := by rfl) :
    PE X (.Call (.Name x p) [] kws pos) (tNew C 0 ks.length sp gV tNil tk) := by
  refine ⟨fun pins s σ H Q I h => ?_⟩
  refine wpAny_Call_Name_kw (ld_glob I hg hm ?_ hdb)
  refine PySem.W.callWith_KW0 (h₀ := X.base) I.ok.mod.kin T.kC hall ?_ hpl
  refine thn (hkw.run pos pins s σ H _ I h) fun ws s2 ⟨zs, H2, I2, rz, l1, l2, l3, q2⟩ => ⟨I2.kIn, ?_⟩
  rw [hks]
  exact run_new (us := []) (vs := []) T iC tI F hr hb hx I2 .nil rz rfl l2 (by decide) q2
end
end EV
end L2

set_option Elab.async false
set_option linter.all false
set_option maxRecDepth 100000
set_option maxHeartbeats 4000000
/-! Defs that show values by repr: a promise that is kept where no repr runs yet. -/
namespace L2
namespace EV
open PySem PySem.Spec PyProof.Rows _root_.EV
/-- FnOk, where no repr runs yet -/
structure FnG (P : Program) (w : World) (K : PySem.W.Frag) (mg : Str → Option Value) (base : Heap) (CX : CXT) (k : Nat) (f : Addr) (fd : FuncData) (ps : List Str) (sp : Sp) : Prop where
  len : ∀ vs H Q E, sp vs H Q E → vs.length = ps.length
  run : ∀ (A : Around) (outer : List Env) (s : Shared) (H : Hp) (args : Args) (us : List Value) (vs : List V) (Q : VK) (E : XK), Room k A → A.guards = some [] →
    Env0 P w K mg base A outer s H → BindsTo s fd args (ps.zip us) → Vals vs us → sp vs H Q E → codeAny (model P w) A (.call (.ref f) args) (CR CX outer P w H s Q E) s
section
variable {P : Program} {w : World} {K : PySem.W.Frag} {mg : Str → Option Value} {base : Heap}
theorem okG {x qual : Str} {st : Stmt} {f : Addr} {fd : FuncData} {N ps : List Str} {k : Nat} {sp : Sp} (F : Fun K x qual st f fd) (S : FnScope N ps (defScope st))
    (len : ∀ vs H Q E, sp vs H Q E → vs.length = ps.length)
    (hbody : ∀ (cdv : Value) (A : Around) (outer : List Env) (s : Shared) (H : Hp) (vs : List V) (Q : VK) (E : XK), Room k (A.deeper (envOfC qual (defScope st) s.heap.objs.size f cdv)) →
      A.guards = some [] → sp vs H Q E →
      ∃ t, PSs (cxOf CX0 P w K mg base N qual (defScope st) f cdv A outer s H E).nox (defBody st) t ∧ t { nx := fun _ H' => Q .non H', rt := Q } (start N vs) H) :
    FnG P w K mg base CX0 (k + 1) f fd ps sp := by
  obtain ⟨oc, od, kV, doc, pm, an, cdv, ct, osl, rfl, lk, hcd⟩ := F.ex
  refine ⟨len, fun A outer s H args us vs Q E hr hgd e0 hb r hsp => ?_⟩
  have hl := len _ _ _ _ hsp
  have keptB : ∀ b o, base.get? b = some o → s.heap.get? b = some o := fun b o e => (e0.bs b o e).1
  have KX : K.In s.heap := e0.mod.kin.keeps keptB
  have lim : s.heap.NoLimit := e0.mod.nolimit.keeps keptB
  have kinds : ∀ y ∈ ps.zip us, (defScope st).names.lookup y.1 = some .local ∨
      ((defScope st).names.lookup y.1 = some .cell ∧ ((cellsFrom (s.heap.objs.size + 1) (defScope st).names []).lookup y.1).isSome = true) := fun ⟨n, v⟩ hy =>
    (S.par n (List.of_mem_zip hy).1).elim .inl fun q => .inr ⟨q, PySem.W.cellsFrom_some _ _ _ (.inl q)⟩
  refine codeAny_call_function hr.depth (KX _ _ lk) rfl S.co S.gen rfl (PySem.W.codeRec_of KX hcd) (hb _ _ _ _ ?_)
  refine wpAny_newFunctionEnv_cells S.kind kinds fun env he s1 x => ?_
  subst he
  refine ⟨lim.keeps x.toInCall.keep, codeAny_func ?_⟩
  obtain ⟨t, ht0, hq⟩ := hbody cdv A outer s H vs Q E (hr.deeper _) hgd hsp
  have ht := ht0.nox
  have I : Inv (cxOf CX0 P w K mg base N qual (defScope st) f cdv A outer s H E) [] (start N vs) H s1 := inv_start S hr.hd e0 hl r x
  refine wpAny_mono (ht.run [] s1 (start N vs) H _ I hq) (fun fl s' hs => ?_) fun e s' hs => hs
  cases fl with
  | ret u =>
    obtain ⟨v, σ', H', J, rv, q⟩ := hs
    exact ⟨v, H', J.os, J.bare, J.base, J.hok, rv, q⟩
  | next =>
    obtain ⟨σ', H', J, q⟩ := hs
    exact ⟨V.non, H', J.os, J.bare, J.base, J.hok, rfl, q⟩
  | brk =>
    obtain ⟨_, _, _, q⟩ := hs
    exact False.elim q
  | cont =>
    obtain ⟨_, _, _, q⟩ := hs
    exact False.elim q
end
section
variable {X : Cx} {CX : CXT} {k : Nat} {f : Addr} {fd : FuncData} {ps : List Str} {sp : Sp} {x : Str} {p pos : Pos} {e : Expr} {es : List Expr} {t : TA} {E : XK}
/-- f(e, ..) of such a def -/
theorem pe_callG (F : FnG X.prog X.w X.K X.mg X.base CX k f fd ps sp) (hr : Room k X.A) (hgd : X.A.guards = some []) (hg : Gl X x) (hm : X.mg x = some (.ref f))
    (hk : PySem.W.keepIn X.K (.ref f) = true) (hb : Binds X.K fd ps []) (hx : Passes CX X E) (ha : PA X (e :: es) t) (hdb : (x == ("__debug__" : Str)) = false := by decide)
    (he : starEach (e :: es) X.env = (false, eval e X.env) :: starEach es X.env := by rfl) (hpl : (backTo pos (starEach es X.env)).any (·.1) = false := by rfl) :
    PE X (.Call (.Name x p) (e :: es) [] pos) (fun σ H Q => t σ H fun vs H1 => sp vs H1 Q E) := by
  refine ⟨fun pins s σ H Q I h => ?_⟩
  refine wpAny_Call_Name_kw (ld_glob I hg hm ?_ hdb)
  refine PySem.W.callWith_K (h₀ := X.base) I.ok.mod.kin hk (thn (ha.run pos pins s σ H _ I h) fun us s1 ⟨vs, H1, I1, r, q⟩ => ⟨I1.kIn, ?_⟩) he hpl
  have hl : us.length = ps.length := by
    rw [← r.length]
    exact F.len _ _ _ _ q
  have bn := hb s1 us I1.kIn (by rw [List.append_nil]; exact hl)
  rw [List.append_nil] at bn
  refine wpAny_call (codeAny_mono (F.run X.A X.stack s1 H1 ⟨us, []⟩ us vs Q E hr hgd I1.env0 bn r q) fun r2 s2 hq => ?_)
  cases r2 with
  | error er => exact hx pins σ H1 s1 er s2 I1 hq
  | ok fl =>
    cases fl with
    | ret u => exact I1.after hq
    | next => exact False.elim hq
    | brk => exact False.elim hq
    | cont => exact False.elim hq
end
/-- the law's own call, of a promise that is kept where no repr runs -/
theorem law_callG {P : Program} {w : World} {K : PySem.W.Frag} {mg mb : Str → Option Value} {k : Nat} {fa a : Addr} {fd : FuncData} {x : Str} {sp : Sp} {s1 : Shared} {vs : List Value} {ns : List Int}
    (KX : K.In s1.heap) (hns : s1.heap.Ns mainGlobals mg) (hb : s1.heap.Ns builtinsNs mb) (hbb : ∀ x : Str, x ≠ "__name__" → mb x = bootBuiltins x) (hlim : s1.heap.NoLimit) (hg : s1.gens = #[])
    (ha : s1.heap.get? a = some { cls := .type "list", data := .seq vs.toArray }) (hi : IntsAre vs ns) (hl : ns.length ≤ sizeLine) (hr : Room k callerA)
    (F : ∀ base : Heap, K.In base → base.Ns mainGlobals mg → FnG P w K mg base CX0 k fa fd [x] sp) (hbind : ∀ (s : Shared) (u : Value), BindsTo s fd ⟨[u], []⟩ [(x, u)])
    (hsp : ∀ H : Hp, Only H → SqL K H a (ns.map V.int) → sp [.ref a] H (fun v _ => v = .bl true) fun _ _ _ => False) :
    codeAny (model P w) callerA (.call (.ref fa) ⟨[.ref a], []⟩) (fun r s' => r = .ok (.ret (.bool true)) ∧ OldK s1.heap s'.heap ∧ s'.os = s1.os ∧ AllBare s'.gens) s1 := by
  have rv := vals_ints hi
  have lenV := hi.length
  have core : ∀ H : Hp, Only H → SqL K H a (ns.map V.int) → HOk P w H s1.heap → (∀ b, H b ≠ none → b = a) → (H a ≠ none → K.lookup a = none) →
      codeAny (model P w) callerA (.call (.ref fa) ⟨[.ref a], []⟩) (fun r s' => r = .ok (.ret (.bool true)) ∧ OldK s1.heap s'.heap ∧ s'.os = s1.os ∧ AllBare s'.gens) s1 := by
    intro H hO hS hok onlyA notK
    have noDict : ∀ {b : Addr} {o : Obj} {es : Array DictEntry} {ep : Nat}, s1.heap.get? b = some o → o.data = .dict es ep → H b = none := fun {b o es ep} e d => by
      cases q : H b with
      | none => rfl
      | some u =>
        obtain rfl : b = a := onlyA b (by rw [q]; simp)
        rw [ha] at e
        cases e
        exact nomatch (show Data.seq vs.toArray _ = Data.dict es ep from d)
    have nsK : ∀ {b : Addr} {m : Str → Option Value}, s1.heap.Ns b m → (hidT s1.heap H).Ns b m := fun {b m} ⟨o, es, ep, e, d, r⟩ => ⟨o, es, ep, hidT_get e (noDict e d), d, r⟩
    have kin : K.In (hidT s1.heap H) := fun b o e => hidT_get (KX b o e) (by
      cases q : H b with
      | none => rfl
      | some u =>
        obtain rfl : b = a := onlyA b (by rw [q]; simp)
        rw [notK (by rw [q]; simp)] at e
        cases e)
    obtain ⟨mc, c1, c2⟩ := hlim
    have hM : Mod K mg (hidT s1.heap H) := ⟨kin, nsK hns, ⟨mb, nsK hb, hbb⟩, ⟨mc, nsK c1, c2⟩⟩
    have noF : ∀ b, b ∉ frs [] := fun b z => absurd (show b ∈ ([] : List Addr) from z) (by simp)
    have e0 : Env0 P w K mg (hidT s1.heap H) callerA [] s1 H :=
      ⟨rfl, hM, fun b o e => of_hidT e, Nat.le_of_eq (hidT_size _ _), trivial, fun b z => absurd z (noF b), hok, .of_eq hg⟩
    refine codeAny_mono ((F _ kin (nsK hns)).run callerA [] s1 H ⟨[.ref a], []⟩ [.ref a] [.ref a] _ _ hr rfl e0 (hbind s1 (.ref a)) (.cons rfl .nil) (hsp H hO hS)) fun r s' h => ?_
    cases r with
    | error e => exact False.elim h
    | ok fl =>
      cases fl with
      | next => exact False.elim h
      | brk => exact False.elim h
      | cont => exact False.elim h
      | ret u =>
        obtain ⟨v, H', os, bare, un, hok', r', q⟩ := h
        obtain rfl : v = .bl true := q
        obtain rfl : u = Value.bool true := r'
        refine ⟨rfl, OldK.of_keep fun b o e => ?_, os, bare⟩
        cases q : H b with
        | none => exact un.keep b o e q (noF b) (by simp)
        | some u =>
          rcases hO b with z | ⟨ob, xs, z⟩
          · rw [q] at z
            cases z
          · obtain ⟨e1, _⟩ := hok b _ z
            obtain ⟨e2, _⟩ := hok' b _ (un.frzs b ob _ z)
            rw [e] at e1
            cases e1
            exact e2
  cases hk : K.lookup a with
  | some o =>
    have e := KX a o hk
    rw [ha] at e
    cases e
    refine core (fun _ => none) (fun _ => .inl rfl) (.inr ⟨_, vs.toArray, _, hk, rfl, rfl, rfl, ?_, by simpa using rv⟩) (fun b u z => ?_) (fun b z => absurd rfl z) fun z => absurd rfl z
    · rw [List.size_toArray, lenV]
      exact hl
    · exact nomatch (show (none : Option HO) = some u from z)
  | none =>
    refine core (fun b => if b = a then some (.frz { cls := .type "list", data := .seq vs.toArray } (.lst (ns.map V.int))) else none) (fun b => ?_)
      (.inl (.inr ⟨{ cls := .type "list", data := .seq vs.toArray }, if_pos rfl⟩)) (fun b u z => ?_) (fun b z => ?_) fun _ => hk
    · by_cases hb : b = a
      · exact .inr ⟨_, _, if_pos hb⟩
      · exact .inl (if_neg hb)
    · by_cases hb : b = a
      · have z2 := (if_pos hb).symm.trans z
        cases z2
        subst hb
        exact ⟨ha, by rw [List.length_map]; exact hl, vs, _, rv, ha⟩
      · exact nomatch (if_neg hb).symm.trans z
    · by_cases hb : b = a
      · exact hb
      · exact absurd (if_neg hb) z
theorem walk_ofG {l : PySem.W.OpenLaw} {n k : Nat} {q : Program} {loose : List Str} {XP : (Str → Option Value) → Heap → Prop} {YP : World → Heap → Prop} {d : DefRec} {K : Params → PySem.W.Frag} {sp : PySem.W.Frag → Sp} {x : Str}
    (hn : l.most = some n) (hn2 : n ≤ sizeLine) (hdf : d.params.defaults = []) (hr : Room k callerA) (hY : ∀ (w : World) (h : Heap), YP w h → (K w.params).In h)
    (F : ∀ (w : World) (mg : Str → Option Value) (fa : Addr) (h : Heap), (K w.params).In h → h.Ns mainGlobals mg → mg d.name = some (.ref fa) →
      ∃ fd : FuncData, (∀ (s : Shared) (u : Value), BindsTo s fd ⟨[u], []⟩ [(x, u)]) ∧
        ∀ base : Heap, (K w.params).In base → base.Ns mainGlobals mg → FnG l.prog w (K w.params) mg base CX0 k fa fd [x] (sp (K w.params)))
    (hsp : ∀ (K : PySem.W.Frag) (H : Hp) (a : Addr) (ns : List Int), ns.length ≤ n → Only H → SqL K H a (ns.map V.int) → sp K [.ref a] H (fun v _ => v = .bl true) fun _ _ _ => False) :
    PySem.W.WalkO q loose XP YP l.row.toRowW d [] (fun f vs => PySem.call f vs) := by
  refine Att.attach_call hn hdf fun w s0 s1 mg mb fa o pm cd doc a vs ns G Y ho hd hcd hmg hobj hints hlen hg => ?_
  have KX := hY w _ Y
  obtain ⟨fd, hb, hF⟩ := F w mg fa _ KX G.T.g hmg
  exact law_callG KX G.T.g G.T.b G.T.builtins G.T.nolimit hg hobj hints (Nat.le_trans hlen hn2) hr hF hb fun H hO hS => hsp _ H a ns hlen hO hS
end EV
end L2

set_option Elab.async false
set_option linter.all false
set_option maxRecDepth 100000
set_option maxHeartbeats 4000000
/-! repr of a list of data. -/
namespace L2
namespace EV
open PySem PySem.Spec PyProof.Rows _root_.EV
/-- v stands for d: data without dicts, or the dict {"a": 1} -/
inductive Sh (K : PySem.W.Frag) (H : Hp) : V → PyData → Prop
  | plain {v : V} {d : PyData} : Dp K H v d → d.hasDict = false → Sh K H v d
  | one {a : Addr} : H a = some (.dK [(Sum.inr "a", V.int 1)]) → Sh K H (.ref a) (.dict [(.str "a", .int 1)])
def Small (d : PyData) : Prop := d.showable = true ∧ d.shown.length ≤ 60 ∧ d.depth ≤ 5
inductive ShAll (K : PySem.W.Frag) (H : Hp) : List V → List PyData → Prop
  | nil : ShAll K H [] []
  | cons {v : V} {vs : List V} {d : PyData} {ds : List PyData} : Sh K H v d → Small d → ShAll K H vs ds → ShAll K H (v :: vs) (d :: ds)
section
variable {X : Cx} {pins : List (Addr × Obj)} {σ : St} {H : Hp} {s : Shared}
theorem sh_reads (I : Inv X pins σ H s) {v : V} {d : PyData} {u : Value} (h : Sh X.K H v d) (r : RelV v u) : ∃ as, Reads s.heap u d as ∧ (d.hasDict = true → sysModules ∉ as) := by
  cases h with
  | plain hd no =>
    obtain ⟨as, q⟩ := Dp.reads I d v u hd r
    exact ⟨as, q, fun z => by rw [no] at z; cases z⟩
  | @one a e =>
    obtain rfl : u = Value.ref a := r
    obtain ⟨_, nsys, vs, kv, o, es, ep, ho, ex, hd, _, pr, _⟩ := (show ObjOk X.prog X.w H s.heap a (.dK [(Sum.inr "a", V.int 1)]) from I.hok a _ e)
    cases kv with
    | @cons _ p _ ps hk kr =>
      cases kr
      obtain ⟨k, v⟩ := p
      obtain ⟨ek, t, ev⟩ := hk
      dsimp only at ek ev
      subst ek ev
      generalize hes : es.toList = l at pr
      cases pr with
      | @cons e1 _ l2 _ k1 k2 k3 =>
        cases k3
        obtain ⟨t2, ek⟩ : ∃ t2, e1.key = Value.str "a" t2 := Value.isStrOf_shape k1
        refine ⟨[a], Reads.dict (as := []) (bs := []) ho ex.1 hd ?_ ?_, fun _ z => ?_⟩
        · rw [hes]
          show ReadsAll s.heap [e1.key] [PyData.str "a"] []
          rw [ek]
          exact ReadsAll.cons (Reads.str _ _) ReadsAll.nil
        · rw [hes]
          show ReadsAll s.heap [e1.val] [PyData.int 1] []
          rw [k2]
          exact ReadsAll.cons (Reads.int _ _) ReadsAll.nil
        · obtain rfl : sysModules = a := by simpa using z
          simp at nsys
theorem sh_all (I : Inv X pins σ H s) : ∀ {vs : List V} {ds : List PyData} {us : List Value}, ShAll X.K H vs ds → Vals vs us →
    ∃ as bs, ReadsAll s.heap us ds as ∧ ReadAtMost s.heap (PyData.depthAll ds) bs ∧ ReprAllK X.prog X.w bs s.heap (PyData.depthAll ds) us (PyData.shownAll ds)
  | _, _, _, .nil, .nil => ⟨[], [], ReadsAll.nil, (fun _ h => nomatch h), by simp only [PyData.shownAll]; exact .nil⟩
  | _, _, _, .cons (d := d) (ds := ds) h sm t, .cons r rt => by
    obtain ⟨as1, q1, hsm⟩ := sh_reads I h r
    obtain ⟨as2, b2, q2, m2, k2⟩ := sh_all I t rt
    obtain ⟨b1, m1, k1⟩ := ReprK.of_reads (prog := X.prog) (w := X.w) q1 sm.1 hsm (Nat.le_trans sm.2.1 (by decide))
    refine ⟨as1 ++ as2, b1 ++ b2, ReadsAll.cons q1 q2, ?_, ?_⟩
    · simp only [PyData.depthAll]
      exact (m1.mono (Nat.le_max_left _ _)).append (m2.mono (Nat.le_max_right _ _))
    · simp only [PyData.depthAll, PyData.shownAll]
      exact .cons ((k1.more fun b hb => List.mem_append_left _ hb).level_le (Nat.le_max_left _ _)) (k2.more_le (fun b hb => List.mem_append_right _ hb) (Nat.le_max_right _ _))
theorem shall_depth {K : PySem.W.Frag} {H : Hp} : ∀ {vs : List V} {ds : List PyData}, ShAll K H vs ds → PyData.depthAll ds ≤ 5 ∧ (∀ t ∈ PyData.shownAll ds, t.length ≤ 60) ∧ (PyData.shownAll ds).length = vs.length
  | _, _, .nil => ⟨by simp only [PyData.depthAll]; omega, by simp [PyData.shownAll], by simp [PyData.shownAll]⟩
  | _, _, .cons h sm t => by
    obtain ⟨h1, h2, h3⟩ := shall_depth t
    refine ⟨by simp only [PyData.depthAll]; have := sm.2.2; omega, ?_, by simp [PyData.shownAll, h3]⟩
    intro t ht
    simp only [PyData.shownAll, List.mem_cons] at ht
    rcases ht with rfl | ht
    · exact sm.2.1
    · exact h2 t ht
theorem sum_le60 : ∀ {ts : List Str}, (∀ t ∈ ts, t.length ≤ 60) → (ts.map (·.length)).sum ≤ 60 * ts.length
  | [], _ => by simp
  | t :: ts, h => by
    have h1 := h t (List.mem_cons_self ..)
    have h2 := sum_le60 (ts := ts) fun t ht => h t (List.mem_cons_of_mem _ ht)
    simp only [List.map_cons, List.sum_cons, List.length_cons]
    omega
/-- repr(l), l a list of some data -/
def rShow (K : PySem.W.Frag) : List V → Hp → VK → Prop := fun xs H Q => ∃ (l : Addr) (v : V) (vs : List V) (ds : List PyData), xs = [.ref l] ∧ H l = some (.lst (v :: vs)) ∧ ShAll K H (v :: vs) ds ∧ vs.length ≤ 1000 ∧
  Q (.str (listText (PyData.shownAll ds))) H
theorem call_show (hgd : X.A.guards = some []) (hu : X.A.units + 64 < cLine) : CallR X (.builtin "repr") (rShow X.K) := by
  intro pins s σ H xs us Q I r h
  obtain ⟨l, v, vs, ds, rfl, e, sh, lz, q⟩ := h
  obtain ⟨u, rfl, ru⟩ := vals1 r
  obtain rfl : u = Value.ref l := ru
  obtain ⟨_, its, n, rv, ho⟩ := (show ObjOk X.prog X.w H s.heap l (.lst (v :: vs)) from I.hok l _ e)
  obtain ⟨as, bs, q1, m1, k1⟩ := sh_all I sh rv
  obtain ⟨dp, sz, ln⟩ := shall_depth sh
  have whole : Reads s.heap (.ref l) (.list ds) (l :: as) := Reads.list ho rfl rfl (by simpa using q1)
  have hna : l ∉ bs := not_mem_of_deeper whole (by simp only [PyData.depth]; omega) m1
  have hz : (listText (PyData.shownAll ds)).length ≤ sizeLine := by
    have h1 := listText_len_le (PyData.shownAll ds)
    have h2 := sum_le60 sz
    rw [ln, List.length_cons] at *
    rw [sizeLine_eq]
    omega
  cases rv with
  | @cons _ u1 _ ut r1 r2 =>
    refine call_repr_slot (by omega) ⟨_, ho, rfl⟩ PySem.F.slot_list_repr.toG ?_
    refine call_list_reprK ho rfl rfl hna (by simpa using k1.length_eq) (fun i y ey => k1.item i y (by simpa using ey)) (A := X.A.in1) hgd (fun b _ => Clear.nil b) ?_ (fun _ _ z => z) (fun h' t tk hk => ⟨_, _, rfl, ?_⟩) hz
    · show X.A.units + 1 + (PyData.depthAll ds + 1) < cLine
      omega
    · exact ⟨.str _, H, I.kept (t' := tk) hk, ⟨_, rfl⟩, q⟩
end
end EV
end L2

set_option Elab.async false
set_option linter.all false
set_option maxRecDepth 100000
set_option maxHeartbeats 4000000
/-! Tuples of an int, a text and an int: sorted, and <=. -/
namespace L2
open PySem PySem.Spec PyProof.Rows
abbrev T3 : Type := Int × Str × Int
abbrev sl (a : Str) : List Nat := a.cps.toList
theorem sl_inj {a b : Str} (h : sl a = sl b) : a = b := by
  cases a with
  | mk x =>
    cases b with
    | mk y =>
      have : x = y := Array.toList_inj.mp h
      rw [this]
/-- x is ahead of y -/
def lt3 (a b : T3) : Bool := if a.1 = b.1 then (if a.2.1 = b.2.1 then decide (a.2.2 < b.2.2) else decide (sl a.2.1 < sl b.2.1)) else decide (a.1 < b.1)
theorem lt3_iff {a b : T3} : lt3 a b = true ↔ a.1 < b.1 ∨ (a.1 = b.1 ∧ (sl a.2.1 < sl b.2.1 ∨ (a.2.1 = b.2.1 ∧ a.2.2 < b.2.2))) := by
  unfold lt3
  by_cases e1 : a.1 = b.1
  · rw [if_pos e1]
    by_cases e2 : a.2.1 = b.2.1
    · rw [if_pos e2, decide_eq_true_eq]
      refine ⟨fun h => .inr ⟨e1, .inr ⟨e2, h⟩⟩, ?_⟩
      rintro (h | ⟨_, h | ⟨_, h⟩⟩)
      · omega
      · rw [e2] at h
        exact absurd h (List.lt_irrefl _)
      · exact h
    · rw [if_neg e2, decide_eq_true_eq]
      refine ⟨fun h => .inr ⟨e1, .inl h⟩, ?_⟩
      rintro (h | ⟨_, h | ⟨h, _⟩⟩)
      · omega
      · exact h
      · exact absurd h e2
  · rw [if_neg e1, decide_eq_true_eq]
    refine ⟨fun h => .inl h, ?_⟩
    rintro (h | ⟨h, _⟩)
    · exact h
    · exact absurd h e1
theorem lt3_no {a b : T3} : lt3 a b = false ↔ ¬ (a.1 < b.1 ∨ (a.1 = b.1 ∧ (sl a.2.1 < sl b.2.1 ∨ (a.2.1 = b.2.1 ∧ a.2.2 < b.2.2)))) := by
  rw [← lt3_iff]
  cases lt3 a b <;> simp
theorem swo3 : SrtO.Swo lt3 := by
  refine ⟨fun x y h => ?_, fun x y z h1 h2 => ?_⟩
  · have a := lt3_iff.mp h
    refine lt3_no.mpr ?_
    rintro (h1 | ⟨h1, h2⟩)
    · rcases a with a | ⟨a, _⟩ <;> omega
    · rcases a with a | ⟨_, a⟩
      · omega
      · rcases h2 with h2 | ⟨h2, h3⟩
        · rcases a with a | ⟨a, _⟩
          · exact List.lt_asymm a h2
          · rw [a] at h2
            exact List.lt_irrefl _ h2
        · rcases a with a | ⟨_, a⟩
          · rw [h2] at a
            exact List.lt_irrefl _ a
          · omega
  · have a := lt3_no.mp h1
    have b := lt3_no.mp h2
    refine lt3_no.mpr ?_
    have a1 : ¬ y.1 < x.1 := fun q => a (.inl q)
    have b1 : ¬ z.1 < y.1 := fun q => b (.inl q)
    rintro (q | ⟨q1, q2⟩)
    · omega
    · have e1 : y.1 = x.1 := by omega
      have e2 : z.1 = y.1 := by omega
      have a2 : ¬ sl y.2.1 < sl x.2.1 := fun q => a (.inr ⟨e1, .inl q⟩)
      have b2 : ¬ sl z.2.1 < sl y.2.1 := fun q => b (.inr ⟨e2, .inl q⟩)
      have l1 : sl x.2.1 ≤ sl y.2.1 := List.not_lt.mp a2
      have l2 : sl y.2.1 ≤ sl z.2.1 := List.not_lt.mp b2
      rcases q2 with q2 | ⟨q2, q3⟩
      · exact absurd q2 (List.not_lt.mpr (List.le_trans l1 l2))
      · have e3 : sl y.2.1 = sl x.2.1 := by
          rw [q2] at l2
          exact List.le_antisymm l2 l1
        have e4 := sl_inj e3
        have a3 : ¬ y.2.2 < x.2.2 := fun q => a (.inr ⟨e1, .inr ⟨e4, q⟩⟩)
        have b3 : ¬ z.2.2 < y.2.2 := fun q => b (.inr ⟨e2, .inr ⟨q2.trans e4.symm, q⟩⟩)
        omega
theorem swo3k {α : Type} (k : α → T3) : SrtO.Swo fun v u : α => lt3 (k v) (k u) := ⟨fun x y => swo3.asym (k x) (k y), fun x y z => swo3.tr (k x) (k y) (k z)⟩
/-- v is a tuple of an int, a text and an int in the heap -/
def IsTrip (h : Heap) (v : Value) (x : T3) : Prop := ∃ a o t u r n, v = .ref a ∧ h.get? a = some o ∧ o.cls = .type "tuple" ∧ o.data = .seq #[.int x.1 t, .str x.2.1 u, .int x.2.2 r] n
theorem IsTrip.keeps {h h' : Heap} {v : Value} {x : T3} (p : IsTrip h v x) (k : ∀ b o, h.get? b = some o → o.cls = .type "tuple" → h'.get? b = some o) : IsTrip h' v x := by
  obtain ⟨a, o, t, u, r, n, e, ho, hc, hd⟩ := p
  exact ⟨a, o, t, u, r, n, e, k _ _ ho hc, hc, hd⟩
theorem firsts3 {h : Heap} : ∀ {vs : List Value}, (∀ v ∈ vs, ∃ x, IsTrip h v x) → ∃ fs : List Value, PySem.W.KatTups h vs fs ∧ fs.length = vs.length ∧ ∀ f ∈ fs, ∃ x t, f = Value.int x t
  | [], _ => ⟨[], PySem.W.KatTups.nil, rfl, fun _ hm => by simp at hm⟩
  | v :: vs, hp => by
    obtain ⟨fs, h1, h2, h3⟩ := firsts3 (vs := vs) fun v' hm => hp v' (List.mem_cons_of_mem _ hm)
    obtain ⟨x, a, o, t, u, r, n, e, ho, hc, hd⟩ := hp v (List.mem_cons_self ..)
    subst e
    refine ⟨.int x.1 t :: fs, PySem.W.KatTups.cons ho hc hd rfl h1, by rw [List.length_cons, List.length_cons, h2], fun f hm => ?_⟩
    rcases List.mem_cons.mp hm with rfl | hm
    · exact ⟨x.1, t, rfl⟩
    · exact h3 f hm
section
variable {prog : Program} {w : World} {A : Around} {E : Value → Shared → Prop} {s : Shared}
theorem trip_cmp {vs : List Value} {k : Value → T3} (hp : ∀ v ∈ vs, IsTrip s.heap v (k v)) : SrtO.Cmp prog w A s (tuples' true) (fun p => p.1 ∈ vs) (SrtO.lt2 fun v u => lt3 (k v) (k u)) := by
  intro p q hm hm'
  have h1 := hp _ hm
  have h2 := hp _ hm'
  show wpAny (model prog w) A (keyLt' (tuples' true) p.1 q.1) (fun r s' => s' = s ∧ r = lt3 (k p.1) (k q.1)) (fun _ _ => False) s
  generalize k p.1 = x at h1 ⊢
  generalize k q.1 = y at h2 ⊢
  obtain ⟨x1, x2, x3⟩ := x
  obtain ⟨y1, y2, y3⟩ := y
  obtain ⟨a, o, t, u, r, n, e, ho, hc, hd⟩ := h1
  obtain ⟨a', o', t', u', r', n', e', ho', hc', hd'⟩ := h2
  rw [e, e']
  unfold lt3
  refine PySem.W.kat_lt ho hd ho' hd' ?_
  show PySem.W.KatLex prog w A true (decide (3 < 3)) _ [(.int x1 t, .int y1 t'), (.str x2 u, .str y2 u'), (.int x3 r, .int y3 r')] 0 s
  refine PySem.W.kat_cons (SeqAt.EqAt.int_int x1 t y1 t' prog w _ _ ?_)
  refine PySem.W.kat_go (fun e1 => ?_) (fun e1 => ?_)
  · have ex : x1 = y1 := by simpa using e1
    subst ex
    refine PySem.W.kat_yes (PySem.W.kat_cons (SeqAt.EqAt.str_str x2 u y2 u' prog w _ _ ?_))
    refine PySem.W.kat_go (fun e2 => ?_) (fun e2 => ?_)
    · have ey : x2 = y2 := by simpa using e2
      subst ey
      refine PySem.W.kat_yes (PySem.W.kat_cons (SeqAt.EqAt.int_int x3 r y3 r' prog w _ _ ?_))
      refine PySem.W.kat_go (fun e3 => ?_) (fun e3 => ?_)
      · have ez : x3 = y3 := by simpa using e3
        subst ez
        refine PySem.W.kat_yes (PySem.W.kat_nil ⟨rfl, ?_⟩)
        simp
      · refine PySem.W.kat_no (PySem.W.kat_one _ _ (PyProof.Rows.lt_int ?_))
        refine (show s = s ∧ _ from ⟨rfl, ?_⟩)
        simp
    · have ey : ¬ x2 = y2 := by simpa using e2
      refine PySem.W.kat_no (PySem.W.kat_one _ _ (PyProof.Rows.lt_str ?_))
      refine (show s = s ∧ _ from ⟨rfl, ?_⟩)
      simp [ey]
  · have ex : ¬ x1 = y1 := by simpa using e1
    refine PySem.W.kat_no (oneLt_int ⟨rfl, ?_⟩)
    simp [ex]
theorem trips_sortable {a : Addr} {vs : List Value} {k : Value → T3} (h0 : 0 < vs.length) (hp : ∀ v ∈ vs, IsTrip s.heap v (k v)) (ha : ∀ o, s.heap.get? a = some o → o.cls ≠ .type "tuple") : SrtO.SortableO prog w A s a vs fun v u => lt3 (k v) (k u) := by
  intro h' keep
  have hp' : ∀ v ∈ vs, IsTrip h' v (k v) := fun v hm => (hp v hm).keeps fun b o e c => keep b o (fun z => by subst z; exact ha o e c) e
  obtain ⟨fs, h1, h2, h3⟩ := firsts3 fun v hm => ⟨_, hp' v hm⟩
  refine ⟨tuples' true, fun Q E hq => ?_, trip_cmp hp'⟩
  refine PySem.W.kat_kind (T := .type "int") h1 (by omega) (fun f hm => ?_) (by rfl) ?_
  · obtain ⟨x, t, rfl⟩ := h3 f hm
    exact PySem.W.Looks.now
  · have e : (Value.type "int" != Value.type "tuple") = true := by first | decide +kernel | rfl | decide
    rw [e]
    exact hq
theorem sorted_trips {l : Addr} {vs : List Value} {k : Value → T3} {Q : Value → Shared → Prop} (hl : s.heap.IsList l vs.toArray) (hz : vs.length ≤ sizeLine) (hp : ∀ v ∈ vs, IsTrip s.heap v (k v))
    (h : ∀ (h' : Heap) (d : Addr) (out : List Value), SrtO.Srtd (fun v u => lt3 (k v) (k u)) out → SrtO.Stb (fun v u => lt3 (k v) (k u)) out vs → (∀ b o, s.heap.get? b = some o → h'.get? b = some o) → s.heap.objs.size ≤ d → (∃ n, h'.get? d = some (seqObj "list" out.toArray n)) → Q (.ref d) { s with heap := h' }) :
    wpAny (model prog w) A (call (.builtin "sorted") [.ref l]) Q E s := by
  refine SrtO.sorted_ord (swo3k k) hl hz (fun h2 h₁ a ha kk => ?_) fun out hs hb => ?_
  · refine trips_sortable (s := { s with heap := h₁ }) (by omega) (fun v hm => (hp v hm).keeps fun b o e _ => (kk b o e).2) fun o e => ?_
    have e' : some o = some (seqObj "list" vs.toArray 0) := e.symm.trans ha
    cases e'
    intro c
    exact absurd (Value.type.inj c) (by decide)
  · exact h _ _ out hs hb (fun b o e => sortedAll_old e) (Nat.le_succ _) (sortedAll_at s.heap vs out.toArray)
end
/-- sorted(xs), xs a list of such tuples (k says which): a new list of the same ones -/
def rSorted3 (K : PySem.W.Frag) : List V → Hp → VK → Prop := fun vs H Q => ∃ (a : Addr) (xs : List V) (k : V → T3), vs = [V.ref a] ∧ SqL K H a xs ∧ (∀ x ∈ xs, ∃ t, x = V.ref t ∧ H t = some (.tup [.int (k x).1, .str (k x).2.1, .int (k x).2.2])) ∧
  ∀ ys p, SrtO.Srtd (fun x y => lt3 (k x) (k y)) ys → ys.Perm xs → H p = none → Q (.ref p) (upd H p (.lst ys))
theorem vals_3 {x y z : V} {us : List Value} (r : Vals [x, y, z] us) : ∃ u w' t', us = [u, w', t'] ∧ RelV x u ∧ RelV y w' ∧ RelV z t' := by
  cases r with
  | cons r1 r2 =>
    obtain ⟨u, w', rfl, r3, r4⟩ := vals2 r2
    exact ⟨_, u, w', rfl, r1, r3, r4⟩
section
variable {X : Cx}
theorem cr_sorted3 : CallR X (.builtin "sorted") (rSorted3 X.K) := by
  intro pins s σ H vs us Q I r h
  obtain ⟨a, xs, k, rfl, hs, hx, q⟩ := h
  obtain ⟨its, rv, hl, hz⟩ := I.list hs
  obtain ⟨u, rfl, ru⟩ := vals1 r
  obtain rfl : u = Value.ref a := ru
  obtain ⟨e1, e2⟩ := refs_back rv fun x m => by
    obtain ⟨t, e, _⟩ := hx x m
    exact ⟨t, e⟩
  refine sorted_trips (k := fun u => k (backV u)) hl.isList (by rw [← rv.length]; exact hz) (fun v hv => ?_) fun h' d out h1 h2 kp hd hn => ?_
  · obtain ⟨t, rfl⟩ := e2 v hv
    have hm : V.ref t ∈ xs := by rw [e1]; exact List.mem_map.mpr ⟨_, hv, rfl⟩
    obtain ⟨t', e, ht⟩ := hx _ hm
    cases e
    obtain ⟨_, its2, r2, o, ho, hc, n, hd⟩ := I.hok _ _ ht
    obtain ⟨u1, u2, u3, rfl, ri, rj, rk⟩ := vals_3 r2
    obtain ⟨t1, rfl⟩ := ri
    obtain ⟨t2, rfl⟩ := rj
    obtain ⟨t3, rfl⟩ := rk
    exact ⟨t, o, t1, t2, t3, n, rfl, ho, hc, hd⟩
  · have h3 : ∀ u ∈ out, ∃ a, u = Value.ref a := fun u hu => e2 u (h2.perm.mem_iff.mp hu)
    obtain ⟨n, hn⟩ := hn
    have hb : SrtO.Stb (fun x y => lt3 (k x) (k y)) (out.map backV) xs := by
      rw [e1]
      exact SrtO.Stb.map (swo3k k) backV h2
    refine ⟨.ref d, upd H d (.lst (out.map backV)), I.laid (t' := s.toks) kp hd ⟨?_, out, n, vals_back h3, hn⟩, rfl, q _ d (SrtO.srtd_map h1) hb.perm (I.hok.fresh hd)⟩
    rw [hb.len]
    exact hz
/-- x <= y of two such tuples -/
def rLe3 : R2 := fun x y H Q => ∃ (a b : Addr) (m n : T3), x = .ref a ∧ y = .ref b ∧ H a = some (.tup [.int m.1, .str m.2.1, .int m.2.2]) ∧ H b = some (.tup [.int n.1, .str n.2.1, .int n.2.2]) ∧ Q (.bl (!lt3 n m)) H
theorem le_lex (m n : T3) : Ob.lexAt (fun j => if j = 0 then m.1 == n.1 else if j = 1 then m.2.1 == n.2.1 else m.2.2 == n.2.2)
    (fun j => if j = 0 then decide (m.1 ≤ n.1) else if j = 1 then decide (sl m.2.1 ≤ sl n.2.1) else decide (m.2.2 ≤ n.2.2)) true 0 3 = !lt3 n m := by
  obtain ⟨m1, m2, m3⟩ := m
  obtain ⟨n1, n2, n3⟩ := n
  simp only [Ob.lexAt, lt3]
  by_cases e1 : m1 = n1
  · subst e1
    by_cases e2 : m2 = n2
    · subst e2
      by_cases e3 : m3 = n3
      · subst e3
        simp
      · simp only [beq_self_eq_true, if_true, Nat.zero_add, Nat.one_ne_zero, if_false, Nat.reduceAdd, Nat.reduceEqDiff, beq_iff_eq, e3]
        by_cases z : m3 ≤ n3
        · rw [decide_eq_true z, decide_eq_false (by omega)]
          rfl
        · rw [decide_eq_false z, decide_eq_true (by omega)]
          rfl
    · have e2' : ¬ n2 = m2 := fun z => e2 z.symm
      simp only [beq_self_eq_true, if_true, Nat.zero_add, Nat.one_ne_zero, if_false, beq_iff_eq, e2, e2']
      by_cases z : sl m2 ≤ sl n2
      · rw [decide_eq_true z, decide_eq_false (List.not_lt.mpr z)]
        rfl
      · rw [decide_eq_false z, decide_eq_true (List.not_le.mp z)]
        rfl
  · have e1' : ¬ n1 = m1 := fun z => e1 z.symm
    simp only [if_true, beq_iff_eq, e1, e1', if_false]
    by_cases z : m1 ≤ n1
    · rw [decide_eq_true z, decide_eq_false (by omega)]
      rfl
    · rw [decide_eq_false z, decide_eq_true (by omega)]
      rfl
theorem RcOp.le_str {A : Around} {s : Shared} (a b : Str) (t u : Tok) : Ob.RcOp .LtE A s (.str a t) (.str b u) (decide (sl a ≤ sl b)) := fun _ _ _ _ h => PySem.P.le_str (by
  have e : (!decide (b.cps.toList < a.cps.toList)) = decide (sl a ≤ sl b) := by
    by_cases z : sl a ≤ sl b
    · rw [decide_eq_true z, decide_eq_false (List.not_lt.mpr z)]
      rfl
    · rw [decide_eq_false z, decide_eq_true (List.not_le.mp z)]
      rfl
  rw [e]
  exact h)
theorem op_le3 (hu : X.A.units < cLine) : OpR X (compareOp .LtE) rLe3 := by
  intro pins s σ H x y v u Q I rx ry h
  obtain ⟨a, b, m, n, rfl, rfl, ha, hb, q⟩ := h
  cases rx
  cases ry
  obtain ⟨its, r1, p1, _⟩ := I.tuple (SqT.of ha)
  obtain ⟨its2, r2, p2, _⟩ := I.tuple (SqT.of hb)
  obtain ⟨u1, u2, u3, rfl, ⟨t1, rfl⟩, ⟨t2, rfl⟩, ⟨t3, rfl⟩⟩ := vals_3 r1
  obtain ⟨v1, v2, v3, rfl, ⟨w1, rfl⟩, ⟨w2, rfl⟩, ⟨w3, rfl⟩⟩ := vals_3 r2
  have R := Ob.RcOp.tuples_le (A := X.A) (s := s) (e := fun j => if j = 0 then m.1 == n.1 else if j = 1 then m.2.1 == n.2.1 else m.2.2 == n.2.2)
    (r := fun j => if j = 0 then decide (m.1 ≤ n.1) else if j = 1 then decide (sl m.2.1 ≤ sl n.2.1) else decide (m.2.2 ≤ n.2.2)) p1 p2 hu (fun j h1 h2 => by
    match j, h1 with
    | 0, _ => exact SeqAt.EqAt.int_int _ _ _ _
    | 1, _ => exact SeqAt.EqAt.str_str _ _ _ _
    | 2, _ => exact SeqAt.EqAt.int_int _ _ _ _) (fun j h1 h2 _ => by
    match j, h1 with
    | 0, _ => exact Ob.RcOp.le_int _ _ _ _
    | 1, _ => exact RcOp.le_str _ _ _ _
    | 2, _ => exact Ob.RcOp.le_int _ _ _ _)
  have e3 : Ob.lexAt (fun j => if j = 0 then m.1 == n.1 else if j = 1 then m.2.1 == n.2.1 else m.2.2 == n.2.2)
    (fun j => if j = 0 then decide (m.1 ≤ n.1) else if j = 1 then decide (sl m.2.1 ≤ sl n.2.1) else decide (m.2.2 ≤ n.2.2)) (decide (3 ≤ 3)) 0 (min 3 3) = !lt3 n m := le_lex m n
  have z : wpAny (model X.prog X.w) X.A (compareOp .LtE (.ref a) (.ref b)) (EP X pins σ Q) X.xe s := R X.prog X.w X.xe (EP X pins σ Q) ⟨.bl _, H, I, rfl, by
    rw [← e3] at q
    exact q⟩
  exact z
end
end L2

set_option Elab.async false
set_option linter.all false
set_option maxRecDepth 100000
set_option maxHeartbeats 4000000
/-! The law's draws. -/
namespace K39
open PySem L2 L2.EV
def top (i : Nat) : Stmt := PySem.Challenge.pw_tornlines_k39_whole_great_scores.main.body.getD i (.Pass ⟨0, 0, 0, 0⟩)
abbrev sBegun : Stmt := top 44
abbrev sNext : Stmt := top 45
/-! ### data of ints -/
theorem canLay_ints : ∀ ns : List Int, PyData.canLayAll0 (ns.map PyData.int) = true
  | [] => by simp [PyData.canLayAll0]
  | n :: ns => by simp [PyData.canLayAll0, PyData.canLay0, canLay_ints ns]
theorem depth_ints : ∀ ns : List Int, PyData.depthAll (ns.map PyData.int) = 0
  | [] => by simp [PyData.depthAll]
  | n :: ns => by simp [PyData.depthAll, PyData.depth, depth_ints ns]
theorem shaped_ints (ns : List Int) : SeqAt.shaped (.list (ns.map PyData.int)) = true := by
  show (PyData.canLay0 (.list (ns.map PyData.int)) && decide (PyData.depth (.list (ns.map PyData.int)) ≤ 64)) = true
  rw [Bool.and_eq_true]
  refine ⟨by simp only [PyData.canLay0]; exact canLay_ints ns, decide_eq_true ?_⟩
  simp only [PyData.depth, depth_ints]
  omega
theorem dp_ints {K : PySem.W.Frag} {H : Hp} : ∀ ns : List Int, DpAll K H (ns.map V.int) (ns.map PyData.int)
  | [] => .nil
  | n :: ns => .cons (.int n) (dp_ints ns)
theorem dp_list {K : PySem.W.Frag} {H : Hp} {a : Addr} {ns : List Int} (h : H a = some (.lst (ns.map V.int))) : Dp K H (.ref a) (.list (ns.map PyData.int)) := .lst (SqL.of h) (dp_ints ns)
theorem eqv_nil (ns : List Int) : PyData.eqv (.list (ns.map PyData.int)) (.list []) = ns.isEmpty := by
  cases ns <;> simp [PyData.eqv, PyData.eqvAll]
/-! ### the draws' dict -/
def mkv (c l : Addr) (k : Int) : List (Key × V) := [(Sum.inr "cells", .ref c), (Sum.inr "left", .ref l), (Sum.inr "at", .int k)]
theorem n1 : ¬ (("cells" : Str) = "left") := by decide +kernel
theorem n2 : ¬ (("cells" : Str) = "at") := by decide +kernel
theorem n3 : ¬ (("left" : Str) = "at") := by decide +kernel
theorem n1' : ¬ (("left" : Str) = "cells") := by decide +kernel
theorem n2' : ¬ (("at" : Str) = "cells") := by decide +kernel
theorem n3' : ¬ (("at" : Str) = "left") := by decide +kernel
theorem k1 {a b : Str} (h : ¬ a = b) : ¬ ((Sum.inr a : Key) = Sum.inr b) := fun z => h (Sum.inr.inj z)
theorem v_cells (c l : Addr) (k : Int) : valV (mkv c l k) (Sum.inr "cells" : Key) = some (.ref c) := by simp [valV, mkv, List.find?_cons]
theorem v_left (c l : Addr) (k : Int) : valV (mkv c l k) (Sum.inr "left" : Key) = some (.ref l) := by simp [valV, mkv, List.find?_cons, n1]
theorem v_at (c l : Addr) (k : Int) : valV (mkv c l k) (Sum.inr "at" : Key) = some (.int k) := by simp [valV, mkv, List.find?_cons, n2, n3]
theorem p_left (c l l' : Addr) (k : Int) : putK (mkv c l k) (Sum.inr "left" : Key) (.ref l') = mkv c l' k := by simp [putK, mkv, n1, n3']
theorem p_at (c l : Addr) (k k' : Int) : putK (mkv c l k) (Sum.inr "at" : Key) (.int k') = mkv c l k' := by simp [putK, mkv, n2, n3]
theorem mk_merge (c l : Addr) (k : Int) : mergeK [] (mkv c l k) = mkv c l k := by simp [mergeK, putK, mkv, n1, n2, n3]
structure MAt (H : Hp) (m c l : Addr) (k : Int) : Prop where
  hm : H m = some (.dK (mkv c l k))
  hc : ∃ cs : List Int, H c = some (.lst (cs.map V.int)) ∧ cs.length ≤ 1000
  hl : ∃ ls : List Int, H l = some (.lst (ls.map V.int)) ∧ ls.length ≤ 1000
  ne : c ≠ l
  k0 : 0 ≤ k
  k1 : k ≤ 1000000
theorem big_lt {n : Int} (h0 : 0 < n) (h : n < 1606938044258990275541962092341162602522202993782792835301376) : n.natAbs < 2 ^ 9000 := by
  have e : 1606938044258990275541962092341162602522202993782792835301376 < 2 ^ 9000 := by decide +kernel
  omega
/-- a drawn number from 0 to n - 1; only the dict and its list of great cells have changed -/
def spNext : Sp := fun vs H Q _ => ∃ (m c l : Addr) (k n : Int), vs = [.ref m, .int n] ∧ MAt H m c l k ∧ 0 < n ∧ n < 1606938044258990275541962092341162602522202993782792835301376 ∧ k < 1000000 ∧
  ∀ (r : Int) (H' : Hp) (l' : Addr) (k' : Int), 0 ≤ r → r < n → k' ≤ k + 1 → MAt H' m c l' k' → (l' = l ∨ H l' = none) → (∀ b o, H b = some o → b ≠ m → b ≠ l → H' b = some o) → Q (.int r) H'
/-- the beginning -/
def spBegun (K : PySem.W.Frag) : Sp := fun vs H Q _ => ∃ (a : Addr) (ns : List Int), vs = [.ref a] ∧ SqL K H a (ns.map V.int) ∧ ns.length ≤ 1000 ∧
  ∀ (m c l : Addr) (H' : Hp), MAt H' m c l 0 → H m = none → H c = none → H l = none → Same H H' → Q (.ref m) H'
structure TxtD (mg : Str → Option Value) : Prop where
  list : mg "list" = none
  int : mg "int" = none
  len : mg "len" = none
theorem same_upd {H : Hp} {p : Addr} {o : HO} (h : H p = none) : Same H (upd H p o) := fun b u e => by
  rw [upd_ne (ne_of_none e h)]
  exact e
theorem MAt.same {H H' : Hp} {m c l : Addr} {k : Int} (M : MAt H m c l k) (s : Same H H') : MAt H' m c l k := by
  obtain ⟨h1, ⟨cs, h2, h3⟩, ⟨ls, h4, h5⟩, h6, h7, h8⟩ := M
  exact ⟨s _ _ h1, ⟨cs, s _ _ h2, h3⟩, ⟨ls, s _ _ h4, h5⟩, h6, h7, h8⟩
theorem MAt.set {H : Hp} {m c l : Addr} {k : Int} {ls : List Int} (M : MAt H m c l k) (hz : ls.length ≤ 1000) : MAt (upd H l (.lst (ls.map V.int))) m c l k := by
  obtain ⟨h1, ⟨cs, h2, h3⟩, ⟨ls0, h4, h5⟩, h6, h7, h8⟩ := M
  have ml : m ≠ l := ne_of h1 h4 (fun z => by cases z)
  exact ⟨by rw [upd_ne ml]; exact h1, ⟨cs, by rw [upd_ne h6]; exact h2, h3⟩, ⟨ls, upd_same, hz⟩, h6, h7, h8⟩
/-- another list of great cells -/
theorem MAt.turn {H : Hp} {m c l p : Addr} {k : Int} {ls : List Int} (M : MAt H m c l k) (hp : H p = none) (hz : ls.length ≤ 1000) : MAt (upd (upd H p (.lst (ls.map V.int))) m (.dK (mkv c p k))) m c p k := by
  obtain ⟨h1, ⟨cs, h2, h3⟩, ⟨ls0, h4, h5⟩, h6, h7, h8⟩ := M
  have mp : p ≠ m := (ne_of_none h1 hp).symm
  have cp : c ≠ p := ne_of_none h2 hp
  have cm : c ≠ m := ne_of h2 h1 (fun z => by cases z)
  exact ⟨upd_same, ⟨cs, by rw [upd_ne cm, upd_ne cp]; exact h2, h3⟩, ⟨ls, by rw [upd_ne mp]; exact upd_same, hz⟩, cp, h7, h8⟩
/-- another counter -/
theorem MAt.count {H : Hp} {m c l : Addr} {k k' : Int} (M : MAt H m c l k) (h0 : 0 ≤ k') (h1' : k' ≤ 1000000) : MAt (upd H m (.dK (mkv c l k'))) m c l k' := by
  obtain ⟨h1, ⟨cs, h2, h3⟩, ⟨ls0, h4, h5⟩, h6, h7, h8⟩ := M
  have lm : l ≠ m := ne_of h4 h1 (fun z => by cases z)
  have cm : c ≠ m := ne_of h2 h1 (fun z => by cases z)
  exact ⟨upd_same, ⟨cs, by rw [upd_ne cm]; exact h2, h3⟩, ⟨ls0, by rw [upd_ne lm]; exact h4, h5⟩, h6, h0, h1'⟩
section
variable {K : PySem.W.Frag} {σ : St} {H : Hp} {m c l : Addr} {k : Int}
theorem rd_left {Q : VK} (h0 : σ[0]? = some (some (.ref m))) (M : MAt H m c l k) (q : Q (.ref l) H) : tDGet (tVar 0) (tC (.str "left")) σ H Q := by
  have z : DGet H m (.str "left") (valV (mkv c l k) (Sum.inr "left" : Key)) := DGet.k (k := Sum.inr "left") M.hm
  rw [v_left] at z
  exact ⟨_, h0, m, _, rfl, z, q⟩
theorem rd_cells {Q : VK} (h0 : σ[0]? = some (some (.ref m))) (M : MAt H m c l k) (q : Q (.ref c) H) : tDGet (tVar 0) (tC (.str "cells")) σ H Q := by
  have z : DGet H m (.str "cells") (valV (mkv c l k) (Sum.inr "cells" : Key)) := DGet.k (k := Sum.inr "cells") M.hm
  rw [v_cells] at z
  exact ⟨_, h0, m, _, rfl, z, q⟩
theorem rd_at {Q : VK} (h0 : σ[0]? = some (some (.ref m))) (M : MAt H m c l k) (q : Q (.int k) H) : tDGet (tVar 0) (tC (.str "at")) σ H Q := by
  have z : DGet H m (.str "at") (valV (mkv c l k) (Sum.inr "at" : Key)) := DGet.k (k := Sum.inr "at") M.hm
  rw [v_at] at z
  exact ⟨_, h0, m, _, rfl, z, q⟩
/-- a list of ints against the empty one -/
theorem ne_empty {Q : Bool → Hp → Prop} {a : Addr} {ls : List Int} (hl : H a = some (.lst (ls.map V.int))) (q : ∀ p, H p = none → Q (!ls.isEmpty) (upd H p (.lst []))) :
    tLst tNil σ H fun y H2 => rNeD K (.ref a) y H2 fun x H' => ∃ k, x = .bl k ∧ Q k H' := by
  refine ⟨by decide, fun p hp => ⟨.list (ls.map PyData.int), .list [], dp_list (same_upd hp _ _ hl), .lst (SqL.of upd_same) .nil, shaped_ints ls, shaped_ints [], _, rfl, ?_⟩⟩
  rw [eqv_nil]
  exact q p hp
theorem cut_one (ls : List Int) : cutV (ls.map V.int) (some 1) none = (ls.drop 1).map V.int := by
  unfold cutV
  have e1 : HT.sIx (ls.map V.int).length 0 (some 1) = min 1 (ls.map V.int).length := HT.sIx_nat _ _ 1
  rw [e1, HT.sIx_none]
  cases ls with
  | nil => rfl
  | cons x r =>
    have e2 : min 1 ((x :: r).map V.int).length = 1 := by simp
    rw [e2]
    show List.take ((x :: r).map V.int).length.pred (r.map V.int) = r.map V.int
    exact List.take_of_length_le (by simp)
end
theorem byAll {P : Int → Prop} {G : Prop} (a : (∀ x, P x) → G) (b : ∀ x, P x) : G := a b
theorem iteF' {b : Bool} {A B : Prop} (h : b = false) (q : B) : if b = true then A else B := by
  rw [h]
  exact iteF q
theorem iteT' {b : Bool} {A B : Prop} (h : b = true) (q : A) : if b = true then A else B := by
  rw [h]
  exact iteT q
theorem seq_while {tc : TT} {tb u : TS} {D : Ends} {σ : St} {H : Hp} (W : Nat → Hp → Prop) (R : Hp → Prop) {j0 : Nat} (h0 : W j0 H) (hr : ∀ H2, R H2 → u D σ H2)
    (turn : (∀ H2, R H2 → u D σ H2) → ∀ j H1, W j H1 → tc σ H1 fun b H2 => if b = true then
      ∃ N : St → Hp → Prop, (∀ σ' H', N σ' H' → ∃ j', j' < j ∧ (σ' = σ ∧ W j' H')) ∧ tb { nx := N, rt := D.rt, bk := u D, ct := N } σ H2 else u D σ H2) :
    tSeq (tWhile tc tb) u D σ H := by
  refine ⟨fun j σ' H' => σ' = σ ∧ W j H', ⟨j0, rfl, h0⟩, ?_⟩
  rintro j σ' H1 ⟨rfl, w⟩
  exact turn hr j H1 w
section
variable {P : Program} {w : World} {K : PySem.W.Frag} {mg : Str → Option Value} {base : Heap}
theorem scN : FnScope ["m", "total", "rest", "k", "cell", "mixed"] ["m", "total"] (defScope sNext) := ⟨rfl, rfl, rfl, by decide +kernel, rfl, by decide +kernel, by decide +kernel⟩
theorem ok_next {f : Addr} {fd : FuncData} (F : Fun K "_law_next" "_law_next" sNext f fd) (T : TxtD mg) : FnOk P w K mg base CX0 1 f fd ["m", "total"] spNext := by
  refine F.ok scN (fun vs H Q E h => ?_) (fun cdv A outer s H vs Q E hr h => ?_)
  · obtain ⟨m, c, l, k, n, rfl, _⟩ := h
    rfl
  · obtain ⟨m, c, l, k, n, rfl, M, n0, n1, kk, q⟩ := h
    have hu := hu_of hr
    have hu2 := hr.units
    refine ⟨_, pss_cons (ps_while PassesOwn.never
        (pw_and (pt_cmpR (op_neD hu2) (pe_dget hu (pv 0) pe_str (fun _ _ => rfl)) (pe_lst pa_nil) (nomark _))
          (pw_and1 (pt_cmpR op_eq (pe_ix ix_list (pe_dget hu (pv 0) pe_str (fun _ _ => rfl)) pe_int (fun _ _ => rfl)) pe_int (nomark _)))).pt
        (pss_one (ps_dput hu (pv 0) pe_str (pe_slice sl_list (pe_dget hu (pv 0) pe_str (fun _ _ => rfl)) (po_some pe_int) po_none) rfl)))
      (pss_cons (ps_if (pt_cmpR (op_neD hu2) (pe_dget hu (pv 0) pe_str (fun _ _ => rfl)) (pe_lst pa_nil) (nomark _))
        (pss_cons (ps_set (i := 2) scN.nd rfl (Or.inl rfl) (pe_callTy call_int1 (by rfl) T.int (by decide +kernel) (pa_cons (pe_ix ix_list (pe_dget hu (pv 0) pe_str (fun _ _ => rfl)) pe_int (fun _ _ => rfl)) pa_nil)))
        (pss_cons (ps_asg (pe_op op_fdivW (pv 2) (pv 1)) (pg_sub (pe_dget hu (pv 0) pe_str (fun _ _ => rfl)) pe_int set_list))
        (pss_one (ps_ret (pe_op op_mod (pv 2) (pv 1)))))) pss_nil)
      (pss_cons (ps_set (i := 3) scN.nd rfl (Or.inl rfl) (pe_op op_add (pe_dget hu (pv 0) pe_str (fun _ _ => rfl)) pe_int))
      (pss_cons (ps_dput hu (pv 0) pe_str (pv 3) rfl)
      (pss_cons (ps_set (i := 4) scN.nd rfl (Or.inl rfl) (pe_ifExp (pt_cmpR (op_neD hu2) (pe_dget hu (pv 0) pe_str (fun _ _ => rfl)) (pe_lst pa_nil) (nomark _))
        (pe_ix ix_list (pe_dget hu (pv 0) pe_str (fun _ _ => rfl))
          (pe_op op_mod (pe_callTy call_int1 (by rfl) T.int (by decide +kernel) (pa_cons (pv 3) pa_nil)) (pe_callB call_len_seq (by rfl) T.len PySem.boot_len (pa_cons (pe_dget hu (pv 0) pe_str (fun _ _ => rfl)) pa_nil))) (fun _ _ => rfl))
        pe_int))
      (pss_cons (ps_set (i := 5) scN.nd rfl (Or.inl rfl) (pe_op op_mul (pe_callTy call_int1 (by rfl) T.int (by decide +kernel) (pa_cons
        (pe_op op_add (pe_op op_add (pe_op op_mod (pe_callTy call_int1 (by rfl) T.int (by decide +kernel) (pa_cons (pv 4) pa_nil)) pe_int) (pe_op op_mul pe_int (pv 3))) (pe_op op_mul (pe_op op_mul pe_int (pv 3)) (pv 3))) pa_nil)) pe_int))
      (pss_cons (ps_set (i := 5) scN.nd rfl (Or.inl rfl) (pe_op op_mul (pe_callTy call_int1 (by rfl) T.int (by decide +kernel) (pa_cons
        (pe_op op_add (pe_op op_mod (pe_callTy call_int1 (by rfl) T.int (by decide +kernel) (pa_cons (pv 5) pa_nil)) pe_int) (pe_op op_mul pe_int (pv 3))) pa_nil)) pe_int))
      (pss_one (ps_ret (pe_op op_mod (pe_callTy call_int1 (by rfl) T.int (by decide +kernel) (pa_cons
        (pe_op op_fdiv (pe_op op_mod (pe_callTy call_int1 (by rfl) T.int (by decide +kernel) (pa_cons (pv 5) pa_nil)) pe_int) pe_int) pa_nil)) (pv 1)))))))))), ?_⟩
    obtain ⟨ls0, hl0, ll0⟩ := id M.hl
    refine seq_while (fun j H1 => ∃ (l1 : Addr) (ls : List Int), MAt H1 m c l1 k ∧ H1 l1 = some (.lst (ls.map V.int)) ∧ ls.length = j ∧ (l1 = l ∨ H l1 = none) ∧ (∀ b o, H b = some o → b ≠ m → b ≠ l → H1 b = some o) ∧ ∃ o, H1 l = some o)
      (fun H1 => ∃ (l1 : Addr) (ls : List Int), MAt H1 m c l1 k ∧ H1 l1 = some (.lst (ls.map V.int)) ∧ (l1 = l ∨ H l1 = none) ∧ (∀ b o, H b = some o → b ≠ m → b ≠ l → H1 b = some o))
      ⟨l, ls0, M, hl0, rfl, .inl rfl, fun b o e _ _ => e, _, hl0⟩ ?_ ?_
    · rintro H1 ⟨l1, ls, M1, hl, fl, kp⟩
      refine rd_left rfl M1 (ne_empty hl fun p hp => ?_)
      have M2 := MAt.same M1 (same_upd (o := .lst []) hp)
      have hl2 : upd H1 p (.lst []) l1 = some (.lst (ls.map V.int)) := same_upd hp _ _ hl
      cases ls with
      | cons x r =>
        refine iteT' rfl ?_
        refine rd_left rfl M2 ?_
        refine ⟨l1, _, 0, .int x, rfl, rfl, SqL.of hl2, atI_nat (j := 0) rfl, .inl ⟨x, rfl, ?_⟩⟩
        refine ⟨_, rfl, _, rfl, x, n, rfl, rfl, ⟨n0, PySem.Flt.log2_lt_of (by decide) (big_lt n0 n1)⟩, ?_⟩
        refine rd_left rfl M2 ?_
        refine ⟨l1, _, 0, 0, rfl, rfl, hl2, by simp [ixN], ?_⟩
        refine ⟨_, rfl, _, rfl, x, n, rfl, rfl, n0, ?_⟩
        show Q (.int (x % n)) _
        have hz : ((x / n) :: r).length ≤ 1000 := by
          obtain ⟨ls', e1, e2⟩ := M2.hl
          rw [hl2] at e1
          have e3 := congrArg List.length (HO.lst.inj (Option.some.inj e1))
          simp only [List.length_map] at e3
          rw [List.length_cons] at e3 ⊢
          omega
        refine q (x % n) _ l1 k (Int.emod_nonneg _ (by omega)) (Int.emod_lt_of_pos _ n0) (by omega) (M2.set hz) fl fun b o e h1 h2 => ?_
        have h3 : b ≠ l1 := by
          rcases fl with z | z
          · rw [z]
            exact h2
          · exact ne_of_none e z
        rw [upd_ne h3]
        exact same_upd hp _ _ (kp b o e h1 h2)
      | nil =>
        refine iteF' rfl ?_
        refine rd_at rfl M2 ⟨k, 1, rfl, rfl, ?_⟩
        refine ⟨_, rfl, _, rfl, m, _, rfl, DPut.k (k := Sum.inr "at") M2.hm (small1000 (by show 3 ≤ 1000; decide)), ?_⟩
        rw [p_at]
        have M3 := M2.count (k' := k + 1) (by have := M2.k0; omega) (by omega)
        obtain ⟨cs, hc, lc⟩ := id M3.hc
        have k0 := M.k0
        have kp3 : ∀ b o, H b = some o → b ≠ m → b ≠ l → upd (upd H1 p (.lst [])) m (.dK (mkv c l1 (k + 1))) b = some o := fun b o e h1 h2 => by
          rw [upd_ne h1]
          exact same_upd hp _ _ (kp b o e h1 h2)
        refine rd_cells rfl M3 (ne_empty hc fun p3 hp3 => ?_)
        have M4 := MAt.same M3 (same_upd (o := .lst []) hp3)
        have hc4 := same_upd (o := .lst []) hp3 _ _ hc
        have kp4 : ∀ b o, H b = some o → b ≠ m → b ≠ l → upd (upd (upd H1 p (.lst [])) m (.dK (mkv c l1 (k + 1)))) p3 (.lst []) b = some o := fun b o e h1 h2 => same_upd hp3 _ _ (kp3 b o e h1 h2)
        apply byAll
        case a =>
          intro fin
          by_cases he : cs.isEmpty = true
          · refine iteF' (by rw [he]; rfl) ?_
            generalize (3 : Int) = x
            exact fin x
          · refine iteT' (by simpa using he) ?_
            refine rd_cells rfl M4 ?_
            have ne0 : 0 < cs.length := List.length_pos_iff.mpr (fun z => he (by rw [z]; rfl))
            have pos : (0 : Int) < ((cs.map V.int).length : Nat) := by
              simp only [List.length_map]
              omega
            refine ⟨_, rfl, .inl ⟨k + 1, rfl, ?_⟩⟩
            refine rd_cells rfl M4 ?_
            refine ⟨c, _, rfl, .inl (SqL.of hc4), k + 1, _, rfl, rfl, pos, ?_⟩
            have i0 := Int.emod_nonneg (k + 1) (Int.ne_of_gt pos)
            have i1 := Int.emod_lt_of_pos (k + 1) pos
            obtain ⟨j, hj⟩ := Int.eq_ofNat_of_zero_le i0
            have jl : j < cs.length := by
              simp only [List.length_map] at i1 hj
              omega
            obtain ⟨x, hx⟩ : ∃ x : Int, cs[j]? = some x := ⟨cs[j], List.getElem?_eq_getElem jl⟩
            refine ⟨c, _, _, V.int x, rfl, rfl, SqL.of hc4, ?_, ?_⟩
            · rw [hj]
              refine atI_nat ?_
              rw [List.getElem?_map, hx]
              rfl
            · exact fin x
        case b =>
          intro x
          have k2 : -(2 ^ 64) < k + 1 ∧ k + 1 < 2 ^ 64 := ⟨by omega, by omega⟩
          refine ⟨_, rfl, .inl ⟨x, rfl, _, _, rfl, rfl, (by show (0 : Int) < 2147483629; decide), _, rfl, _, _, rfl, rfl, .inl ⟨by decide, by decide⟩, _, _, rfl, rfl, _, rfl, _, _, rfl, rfl, .inl ⟨by decide, by decide⟩,
            _, rfl, _, _, rfl, rfl, .inr k2, _, _, rfl, rfl, .inl ⟨_, rfl, _, _, rfl, rfl, .inr ⟨by decide, by decide⟩, ?_⟩⟩⟩
          refine ⟨_, rfl, .inl ⟨_, rfl, _, _, rfl, rfl, (by show (0 : Int) < 2147483647; decide), _, rfl, _, _, rfl, rfl, .inl ⟨by decide, by decide⟩, _, _, rfl, rfl, .inl ⟨_, rfl, _, _, rfl, rfl, .inr ⟨by decide, by decide⟩, ?_⟩⟩⟩
          refine ⟨_, rfl, .inl ⟨_, rfl, _, _, rfl, rfl, (by show (0 : Int) < 2147483587; decide), _, _, rfl, rfl, ⟨by decide, by decide⟩, .inl ⟨_, rfl, _, rfl, _, _, rfl, rfl, n0, ?_⟩⟩⟩
          exact q _ _ l1 (k + 1) (Int.emod_nonneg _ (by omega)) (Int.emod_lt_of_pos _ n0) (by omega) M4 fl kp4
    · rintro out j H1 ⟨l1, ls, M1, hl, lj, fl, kp, lo⟩
      refine rd_left rfl M1 (ne_empty hl fun p hp => ?_)
      have M2 := MAt.same M1 (same_upd (o := .lst []) hp)
      have hl2 : upd H1 p (.lst []) l1 = some (.lst (ls.map V.int)) := same_upd hp _ _ hl
      have kp2 : ∀ b o, H b = some o → b ≠ m → b ≠ l → upd H1 p (.lst []) b = some o := fun b o e h1 h2 => same_upd hp _ _ (kp b o e h1 h2)
      have lo2 : ∃ o, upd H1 p (.lst []) l = some o := lo.elim fun o e => ⟨o, same_upd hp _ _ e⟩
      cases ls with
      | nil =>
        refine iteF' rfl (iteF' rfl ?_)
        exact out _ ⟨l1, [], M2, hl2, fl, kp2⟩
      | cons x r =>
        refine iteT' rfl (rd_left rfl M2 ⟨l1, _, 0, .int x, rfl, rfl, SqL.of hl2, atI_nat (j := 0) rfl, rfl, _, rfl, ?_⟩)
        refine ite2 (fun z => ?_) (fun z => ?_)
        · refine ⟨_, fun _ _ z => z, ?_⟩
          refine rd_left rfl M2 ⟨1, rfl, l1, _, rfl, SqL.of hl2, fun p2 hp2 => ?_⟩
          have M3 : MAt (upd (upd H1 p (.lst [])) p2 (.lst (cutV ((x :: r).map V.int) (some 1) none))) m c l1 k := MAt.same M2 (same_upd hp2)
          refine ⟨_, rfl, m, _, rfl, DPut.k (k := Sum.inr "left") M3.hm (small1000 (by show 3 ≤ 1000; decide)), ?_⟩
          rw [p_left, cut_one]
          have hz : ((x :: r).drop 1).length ≤ 1000 := by
            obtain ⟨ls', e1, e2⟩ := M2.hl
            rw [hl2] at e1
            have e3 := congrArg List.length (HO.lst.inj (Option.some.inj e1))
            simp only [List.length_map] at e3
            rw [List.length_cons] at e3
            simp only [List.drop_succ_cons, List.drop_zero]
            omega
          have mp : p2 ≠ m := (ne_of_none M2.hm hp2).symm
          refine ⟨r.length, by rw [← lj]; simp, rfl, p2, r, M2.turn hp2 hz, by rw [upd_ne mp]; exact upd_same, rfl, .inr ?_, fun b o e h1 h2 => ?_, ?_⟩
          · cases q0 : H p2 with
            | none => rfl
            | some o =>
              have a2 : p2 ≠ l := by
                obtain ⟨o, e⟩ := lo2
                exact (ne_of_none e hp2).symm
              rw [kp2 p2 o q0 mp a2] at hp2
              cases hp2
          · rw [upd_ne h1]
            exact same_upd hp2 _ _ (kp2 b o e h1 h2)
          · obtain ⟨o, e⟩ := lo2
            refine ⟨o, ?_⟩
            by_cases lm : l = m
            · subst lm
              rw [M.hm] at hl0
              cases hl0
            · rw [upd_ne lm]
              exact same_upd hp2 _ _ e
        · exact out _ ⟨l1, x :: r, M2, hl2, fl, kp2⟩
theorem scB : FnScope ["script", "cell"] ["script"] (defScope sBegun) := ⟨rfl, rfl, rfl, by decide +kernel, rfl, by decide +kernel, by decide +kernel⟩
theorem ok_begun {f : Addr} {fd : FuncData} (F : Fun K "_law_begun" "_law_begun" sBegun f fd) (T : TxtD mg) : FnOk P w K mg base CX0 1 f fd ["script"] (spBegun K) := by
  refine F.ok scB (fun vs H Q E h => ?_) (fun cdv A outer s H vs Q E hr h => ?_)
  · obtain ⟨a, ns, rfl, _⟩ := h
    rfl
  · obtain ⟨a, ns, rfl, hS, hl, q⟩ := h
    refine ⟨_, pss_one (ps_ret (pe_disp (pps_cons pe_str (pe_callTy call_list_of (by rfl) T.list (by decide +kernel) (pa_cons (pv 0) pa_nil))
      (pps_cons pe_str (pe_lc (own := [("cell", 1)]) (g := gName 1) rfl scB.nd (pi_list (pv 0)) (blkOk_by (N := ["script", "cell"]) (sc := defScope sBegun) (by decide +kernel))
        (fun _ _ _ _ _ => pg_name (i := 1) scB.nd rfl (Or.inl rfl)) (fun _ _ _ _ _ => pts_one (pt_cmpR op_ge (pv 1) (pe_op op_pow pe_int pe_int) (nomark _))) (fun _ _ _ _ _ => pv 1))
      (pps_cons pe_str pe_int pps_nil))) rfl rfl (by simp) (by decide))), ?_⟩
    intro m hm
    have s1 : Same H (upd H m (.dK [])) := same_upd hm
    refine ⟨_, rfl, a, ns.map V.int, rfl, .inl (s1.seq hS), fun c hc => ?_⟩
    have s2 := s1.trans (same_upd (o := .lst (ns.map V.int)) hc)
    refine ⟨_, rfl, a, rfl, ⟨_, s2.seq hS⟩, fun l hl0 => ?_⟩
    have mc : m ≠ c := ne_of_none upd_same hc
    have hm2 : upd (upd H m (.dK [])) c (.lst (ns.map V.int)) m = some (.dK []) := by
      rw [upd_ne mc]
      exact upd_same
    have ml : m ≠ l := ne_of_none hm2 hl0
    have cl : c ≠ l := ne_of_none (upd_same) hl0
    refine lc_list (K := K) (a := a) (xs := ns.map V.int) (fun i H' => ∃ acc : List Int, H' l = some (.lst (acc.map V.int)) ∧ acc.length ≤ i ∧ ∀ b o, upd (upd H m (.dK [])) c (.lst (ns.map V.int)) b = some o → H' b = some o)
      ⟨[], upd_same, Nat.le_refl _, fun b o e => same_upd hl0 _ _ e⟩ (fun i H' _ ⟨acc, _, _, k⟩ => Same.seq (s2.trans k) hS) ?_ ?_
    · rintro i x H' hi ⟨acc, ha, la, kp⟩
      obtain ⟨z, rfl⟩ : ∃ z, x = V.int z := by
        rw [List.getElem?_map] at hi
        cases e : ns[i]? with
        | none =>
          rw [e] at hi
          cases hi
        | some z =>
          rw [e] at hi
          exact ⟨z, (Option.some.inj hi).symm⟩
      have il : i < ns.length := by
        have := (List.getElem?_eq_some_iff.mp hi).1
        simpa using this
      refine ⟨rfl, _, rfl, 10, 18, rfl, rfl, ⟨by decide, by decide, by decide⟩, _, _, rfl, rfl, _, rfl, ?_⟩
      refine ite2 (fun _ => ⟨_, rfl, acc.map V.int, ha, ?_, acc ++ [z], ?_, ?_, fun b o e => ?_⟩) (fun _ => ⟨acc, ha, Nat.le_succ_of_le la, kp⟩)
      · rw [List.length_map]
        exact small1000 (by omega)
      · rw [List.map_append]
        exact upd_same
      · simp only [List.length_append, List.length_cons, List.length_nil]
        omega
      · rw [upd_ne (ne_of_none e hl0)]
        exact kp b o e
    · rintro H' ⟨acc, ha, la, kp⟩
      rw [List.length_map] at la
      refine ⟨kp _ _ hm2, mkv c l 0, rfl, (by show 3 ≤ 15; decide), ?_⟩
      rw [mk_merge]
      have lm : l ≠ m := ml.symm
      have cm : c ≠ m := mc.symm
      refine q m c l _ ⟨upd_same, ⟨ns, by rw [upd_ne cm]; exact kp _ _ upd_same, hl⟩, ⟨acc, by rw [upd_ne lm]; exact ha, by omega⟩, cl, by decide, by decide⟩ hm (s1.free hc) (s2.free hl0) fun b o e => ?_
      rw [upd_ne (ne_of_none e hm)]
      exact kp _ _ (s2 _ _ e)
end
end K39

set_option Elab.async false
set_option linter.all false
set_option maxRecDepth 100000
set_option maxHeartbeats 4000000
/-! is_number, is_piece, is_step: of what a framing holds. -/
namespace K39
open PySem L2 L2.EV
abbrev sNum : Stmt := top 10
abbrev sPc : Stmt := top 11
abbrev sStep : Stmt := top 12
def sgs : List Nat := sl ("abcdefghijklmnopqrstuvwxyz0123456789@" : Str)
theorem no59 : ¬ (59 ∈ sgs) := by decide +kernel
theorem semi : sl (";" : Str) = [59] := by decide +kernel
theorem semi1 : (";" : Str).length = 1 := by decide +kernel
/-- a piece; it ends a line if last -/
def Pc (p : Str) (last : Bool) : Prop := ∃ b : List Nat, sl p = b ++ (if last = true then [59] else []) ∧ b.length ≤ 7 ∧ (∀ c ∈ b, c ∈ sgs) ∧ (last = false → b ≠ [])
theorem len_sl (p : Str) : p.length = (sl p).length := by
  show p.cps.size = p.cps.toList.length
  simp
theorem pc_len {p : Str} {l : Bool} (h : Pc p l) : 1 ≤ p.length ∧ p.length ≤ 8 := by
  obtain ⟨b, e, h1, _, h2⟩ := h
  rw [len_sl, e, List.length_append]
  cases l with
  | true =>
    rw [if_pos rfl]
    simp only [List.length_cons, List.length_nil]
    omega
  | false =>
    have := List.length_pos_iff.mpr (h2 rfl)
    rw [if_neg (by simp)]
    simp only [List.length_nil]
    omega
theorem at_end {p : Str} : Builtin.Str.subAt p ";" (p.length - (";" : Str).length) = (((sl p).drop ((sl p).length - 1)).take 1 == [59]) := by
  rw [StrLaws.subAt_eq, semi1, len_sl]
  show (((sl p).drop _).take 1 == sl (";" : Str)) = _
  rw [semi]
theorem pc_last {p : Str} {l : Bool} (h : Pc p l) : (decide (0 + (";" : Str).length ≤ p.length) && Builtin.Str.subAt p ";" (p.length - (";" : Str).length)) = l := by
  have z := pc_len h
  rw [at_end]
  have d : decide (0 + (";" : Str).length ≤ p.length) = true := decide_eq_true (by rw [semi1]; omega)
  rw [d, Bool.true_and]
  obtain ⟨b, e, h1, hb, h2⟩ := h
  rw [e]
  cases l with
  | true =>
    rw [if_pos rfl]
    simp
  | false =>
    rw [if_neg (by simp), List.append_nil]
    obtain ⟨M, y, rfl⟩ := SrtO.snoc_of (l := b) (List.length_pos_iff.mpr (h2 rfl))
    have hy : y ∈ sgs := hb y (by simp)
    have ne : ¬ y = 59 := fun q => no59 (q ▸ hy)
    simp [ne]
theorem pc_ends {p : Str} {l : Bool} (h : Pc p l) : Txt.endswith p ";" = l := pc_last h
theorem pc_cut {p : Str} {l : Bool} (h : Pc p l) : ∀ c ∈ sl (Txt.removesuffix p ";"), c ∈ sgs := by
  have z := pc_last h
  rw [StrLaws.removesuffix_eq]
  rw [show (decide (0 + (";" : Str).length ≤ p.length) && Builtin.Str.subAt p ";" (p.length - (";" : Str).length)) = l from z]
  obtain ⟨b, e, h1, hb, h2⟩ := h
  intro c hc
  cases l with
  | true =>
    rw [if_pos rfl] at hc e
    rw [semi1, len_sl] at hc
    have e' : p.cps.toList = b ++ [59] := e
    simp only [e, e', List.drop_zero, List.length_append, List.length_cons, List.length_nil] at hc
    have : (b ++ [59]).take (b.length + (0 + 1) - 1 - 0) = b := by simp
    rw [this] at hc
    exact hb c (by simpa using hc)
  | false =>
    rw [if_neg (by simp)] at hc
    rw [e, if_neg (by simp), List.append_nil] at hc
    exact hb c hc
/-- is_number(n, many) -/
def spNum : Sp := fun vs H Q _ => ∃ n m : Int, vs = [.int n, .int m] ∧ Q (.bl (decide (0 ≤ n) && decide (n < m))) H
/-- is_piece(p), p a piece -/
def spPc : Sp := fun vs H Q _ => ∃ (p : Str) (l : Bool), vs = [.str p] ∧ Pc p l ∧ ∀ H', Same H H' → Q (.bl true) H'
/-- what a step is -/
def Stp (x : T3) : Prop := 0 ≤ x.1 ∧ x.1 < 6 ∧ Pc x.2.1 (decide (x.2.2 = 0)) ∧ 0 ≤ x.2.2 ∧ x.2.2 < 6
/-- a step at t -/
abbrev S3 (H : Hp) (t : Addr) (x : T3) : Prop := H t = some (.tup [.int x.1, .str x.2.1, .int x.2.2])
def spStep : Sp := fun vs H Q _ => ∃ (t : Addr) (x : T3), vs = [.ref t] ∧ S3 H t x ∧ Stp x ∧ ∀ H', Same H H' → Q (.bl true) H'
structure TxtF (mg : Str → Option Value) : Prop where
  isi : mg "isinstance" = none
  int : mg "int" = none
  bool : mg "bool" = none
  str : mg "str" = none
  tuple : mg "tuple" = none
  len : mg "len" = none
  all : mg "all" = none
  signs : ∃ t, mg "SIGNS" = some (.str "abcdefghijklmnopqrstuvwxyz0123456789@" t)
  mSigns : ∃ t, mg "MOST_SIGNS" = some (.int 8 t)
  many : ∃ t, mg "MANY_STANDINGS" = some (.int 6 t)
section
variable {P : Program} {w : World} {K : PySem.W.Frag} {mg : Str → Option Value} {base : Heap}
theorem scNum : FnScope ["thing", "many"] ["thing", "many"] (defScope sNum) := ⟨rfl, rfl, rfl, by decide +kernel, rfl, by decide +kernel, by decide +kernel⟩
theorem ok_num {f : Addr} {fd : FuncData} (F : Fun K "is_number" "is_number" sNum f fd) (T : TxtF mg) : FnOk P w K mg base CX0 1 f fd ["thing", "many"] spNum := by
  refine F.ok scNum (fun vs H Q E h => ?_) (fun cdv A outer s H vs Q E hr h => ?_)
  · obtain ⟨n, m, rfl, _⟩ := h
    rfl
  · obtain ⟨n, m, rfl, q⟩ := h
    refine ⟨_, pss_one (ps_ret (pe_and (pe_callB call_isi (by rfl) T.isi PyProof.Rows.boot_isinstance (pa_cons (pv 0) (pa_cons (pe_bltn (v := .ty "int") (by rfl) T.int (by decide +kernel) rfl) pa_nil)))
      (pe_and (pe_not (pe_callB call_isi (by rfl) T.isi PyProof.Rows.boot_isinstance (pa_cons (pv 0) (pa_cons (pe_bltn (v := .ty "bool") (by rfl) T.bool (by decide +kernel) rfl) pa_nil))))
        (pe_one (pe_chain op_le op_lt pe_int (pv 0) (pv 1)))))), ?_⟩
    refine ⟨_, rfl, .int n, .ty "int", .type "int", .type "int", true, rfl, .ty "int", .base (.int n), kit_ty (by decide +kernel), true, rfl, iteT ?_⟩
    refine ⟨_, rfl, .int n, .ty "bool", .type "int", .type "bool", false, rfl, .ty "bool", .base (.int n), kit_ty (by decide +kernel), false, rfl, true, rfl, iteT ?_⟩
    refine ⟨_, rfl, 0, n, rfl, rfl, _, rfl, ?_⟩
    refine ite2 (fun z => ?_) (fun z => ?_)
    · refine ⟨_, rfl, n, m, rfl, rfl, ?_⟩
      rw [z, Bool.true_and] at q
      exact q
    · rw [eq_false_of_ne_true z, Bool.false_and] at q
      exact q
theorem scPc : FnScope ["thing", "sign"] ["thing"] (defScope sPc) := ⟨rfl, rfl, rfl, by decide +kernel, rfl, by decide +kernel, by decide +kernel⟩
theorem ok_pc {f : Addr} {fd : FuncData} (F : Fun K "is_piece" "is_piece" sPc f fd) (T : TxtF mg) : FnOk P w K mg base CX0 1 f fd ["thing"] spPc := by
  refine F.ok scPc (fun vs H Q E h => ?_) (fun cdv A outer s H vs Q E hr h => ?_)
  · obtain ⟨p, l, rfl, _⟩ := h
    rfl
  · obtain ⟨p, l, rfl, hp, q⟩ := h
    obtain ⟨ts, eS⟩ := T.signs
    obtain ⟨tm, eM⟩ := T.mSigns
    refine ⟨_, pss_cons (ps_if (pw_or (pt_not (pt_val (pe_callB call_isi (by rfl) T.isi PyProof.Rows.boot_isinstance (pa_cons (pv 0) (pa_cons (pe_bltn (v := .ty "str") (by rfl) T.str (by decide +kernel) rfl) pa_nil)))))
        (pw_or1 (pt_not (pt_chain op_le op_le pe_int (pe_callB call_len_str (by rfl) T.len PySem.boot_len (pa_cons (pv 0) pa_nil)) (pe_glob (v := .int 8) (by rfl) eM ⟨_, rfl⟩))))).pt
        (pss_one (ps_ret pe_bl)) pss_nil)
      (pss_one (ps_ret (pe_callB (cr_all rfl) (by rfl) T.all (by decide +kernel) (pa_cons (pe_lc (own := [("sign", 1)]) (g := gName 1) rfl scPc.nd
        (pi_str (pe_m1 PySem.F.slot_str_removesuffix PySem.F.type_str_removesuffix mt_removesuffix (pv 0) pe_str)) (blkOk_by (N := ["thing", "sign"]) (sc := defScope sPc) (by decide +kernel))
        (fun _ _ _ _ _ => pg_name (i := 1) scPc.nd rfl (Or.inl rfl)) (fun _ _ _ _ _ => pts_nil) (fun _ _ _ _ _ => pe_cmpR op_in_sign (pv 1) (pe_glob (v := .str "abcdefghijklmnopqrstuvwxyz0123456789@") (by rfl) eS ⟨_, rfl⟩) (by rfl))) pa_nil)))), ?_⟩
    have z := pc_len hp
    refine ⟨_, rfl, .str p, .ty "str", .type "str", .type "str", true, rfl, .ty "str", .base (.str p), kit_ty (by decide +kernel), true, rfl, iteF ?_⟩
    refine ⟨.str p, rfl, p, rfl, by rw [sizeLine_eq]; omega, 1, p.length, rfl, rfl, _, rfl, iteT' (decide_eq_true (by omega)) ⟨p.length, 8, rfl, rfl, _, rfl, ?_⟩⟩
    refine iteF' (by rw [decide_eq_true (by omega)]; rfl) ?_
    refine ⟨_, rfl, ⟨p, rfl⟩, p, ";", rfl, rfl, by rw [sizeLine_eq]; omega, _, rfl, fun D hD => ?_⟩
    refine lc_it walk_str (fun i H' => H' D = some (.lst ((List.replicate i true).map V.bl)) ∧ ∀ b o, H b = some o → H' b = some o) ⟨upd_same, fun b o z => same_upd hD b o z⟩ (fun _ _ _ _ => trivial) ?_ ?_
    · rintro i x H1 H2 hi ⟨hl, kp⟩ ⟨rfl, c, hc, rfl⟩
      refine ⟨rfl, ⟨_, rfl, c, _, rfl, rfl, ?_⟩⟩
      have hm : c ∈ sgs := pc_cut hp c (List.mem_of_getElem? (by simpa using hc))
      refine ⟨_, hl, ?_, ?_, fun b o z => ?_⟩
      · rw [List.length_map, List.length_replicate, sizeLine_eq]
        have l1 := PyProof.Rows.len_removesuffix p ";"
        have l2 : (Txt.removesuffix p ";").cps.size = (Txt.removesuffix p ";").length := rfl
        omega
      · have e : decide (c ∈ ("abcdefghijklmnopqrstuvwxyz0123456789@" : Str).cps.toList) = true := decide_eq_true hm
        rw [e, List.replicate_succ', List.map_append]
        exact upd_same
      · rw [upd_ne (ne_of_none z hD)]
        exact kp b o z
    · rintro H1 ⟨hl, kp⟩
      refine ⟨D, _, rfl, SqL.of hl, ?_⟩
      rw [show (List.replicate (Txt.removesuffix p ";").cps.size true).all id = true by simp]
      exact q H1 kp
theorem scStep : FnScope ["thing", "start", "piece", "goal"] ["thing"] (defScope sStep) := ⟨rfl, rfl, rfl, by decide +kernel, rfl, by decide +kernel, by decide +kernel⟩
theorem ok_step {f fN fP : Addr} {fd fdN fdP : FuncData} (F : Fun K "is_step" "is_step" sStep f fd) (T : TxtF mg) (FN : Fun K "is_number" "is_number" sNum fN fdN) (bN : Binds K fdN ["thing", "many"] []) (mN : mg "is_number" = some (.ref fN))
    (FP : Fun K "is_piece" "is_piece" sPc fP fdP) (bP : Binds K fdP ["thing"] []) (mP : mg "is_piece" = some (.ref fP)) : FnOk P w K mg base CX0 2 f fd ["thing"] spStep := by
  have GN : FnOk P w K mg base CX0 1 fN fdN ["thing", "many"] spNum := ok_num FN T
  have GP : FnOk P w K mg base CX0 1 fP fdP ["thing"] spPc := ok_pc FP T
  refine F.ok scStep (fun vs H Q E h => ?_) (fun cdv A outer s H vs Q E hr h => ?_)
  · obtain ⟨t, x, rfl, _⟩ := h
    rfl
  · obtain ⟨t, x, rfl, e, hx, q⟩ := h
    obtain ⟨tm, eM⟩ := T.many
    refine ⟨_, pss_cons (ps_if (pw_or (pt_not (pt_val (pe_callB call_isi (by rfl) T.isi PyProof.Rows.boot_isinstance (pa_cons (pv 0) (pa_cons (pe_bltn (v := .ty "tuple") (by rfl) T.tuple (by decide +kernel) rfl) pa_nil)))))
        (pw_or1 (pt_cmpR op_ne (pe_callB call_len_seq (by rfl) T.len PySem.boot_len (pa_cons (pv 0) pa_nil)) pe_int (nomark _)))).pt
        (pss_one (ps_ret pe_bl)) pss_nil)
      (pss_cons (ps_asg (pv 0) (pg_tup rfl (pgs_cons (pg_name (i := 1) scStep.nd rfl (Or.inl rfl)) (pgs_cons (pg_name (i := 2) scStep.nd rfl (Or.inl rfl)) (pgs_cons (pg_name (i := 3) scStep.nd rfl (Or.inl rfl)) pgs_nil)))))
      (pss_cons (ps_if (pw_or (pt_not (pt_val (pe_call GN hr (by rfl) mN FN.kp bN .nil pass0 (pa_cons (pv 1) (pa_cons (pe_glob (v := .int 6) (by rfl) eM ⟨_, rfl⟩) pa_nil)))))
        (pw_or (pt_not (pt_val (pe_call GP hr (by rfl) mP FP.kp bP .nil pass0 (pa_cons (pv 2) pa_nil))))
          (pw_or1 (pt_not (pt_val (pe_call GN hr (by rfl) mN FN.kp bN .nil pass0 (pa_cons (pv 3) (pa_cons (pe_glob (v := .int 6) (by rfl) eM ⟨_, rfl⟩) pa_nil)))))))).pt
        (pss_one (ps_ret pe_bl)) pss_nil)
      (pss_one (ps_ret (pe_cmpR op_eq (pe_m1 PySem.F.slot_str_endswith PySem.F.type_str_endswith mt_endswith (pv 2) pe_str) (pe_cmpR op_eq (pv 3) pe_int (nomark _)) (nomark _)))))), ?_⟩
    obtain ⟨h0, h6, hp, g0, g6⟩ := hx
    refine ⟨_, rfl, .ref t, .ty "tuple", .type "tuple", .type "tuple", true, rfl, .ty "tuple", .base (.tup e), kit_ty (by decide +kernel), true, rfl, iteF ?_⟩
    refine ⟨_, rfl, t, _, rfl, .inr (SqT.of e), rfl, _, rfl, iteF ?_⟩
    refine ⟨_, rfl, t, _, rfl, SqT.of e, rfl, _, _, rfl, _, _, rfl, _, _, rfl, rfl, ?_⟩
    refine ⟨_, rfl, x.1, 6, rfl, _, rfl, ?_⟩
    refine iteF' (by rw [decide_eq_true h0, decide_eq_true h6]; rfl) ?_
    refine ⟨_, rfl, x.2.1, _, rfl, hp, fun H1 s1 => ⟨_, rfl, iteF ?_⟩⟩
    refine ⟨_, rfl, x.2.2, 6, rfl, _, rfl, ?_⟩
    refine iteF' (by rw [decide_eq_true g0, decide_eq_true g6]; rfl) ?_
    refine ⟨_, rfl, ⟨_, rfl⟩, x.2.1, _, rfl, rfl, ⟨_, rfl, rfl, rfl, ?_⟩⟩
    rw [pc_ends hp]
    have e1 : decide (V.int x.2.2 = V.int 0) = decide (x.2.2 = 0) := by
      rw [dec_int]
      by_cases z : x.2.2 = 0
      · rw [z]
        rfl
      · rw [decide_eq_false z]
        exact beq_eq_false_iff_ne.mpr z
    rw [e1, decide_eq_true rfl]
    exact q H1 s1
end
end K39

set_option Elab.async false
set_option linter.all false
set_option maxRecDepth 100000
set_option maxHeartbeats 4000000
/-! {elt for tg in iter if .. for tg1 in iter1 if ..}: a set of ints by a comprehension of two clauses. -/
namespace L2
namespace EV
open PySem PySem.Spec PyProof.Rows
/-- the comprehension itself -/
abbrev sc2 (elt t0 i0 t1 i1 : Expr) (f0 f1 : List Expr) (sc : Scope) (pos : Pos) : Expr := .SetComp elt [⟨t0, i0, f0, 0⟩, ⟨t1, i1, f1, 0⟩] sc pos
section
variable (elt t0 i0 t1 i1 : Expr) (f0 f1 : List Expr) (sc : Scope) (pos : Pos) (it acc : Value) (env : Env)
theorem turn_outer : compTurn (sc2 elt t0 i0 t1 i1 f0 f1 sc pos) 0 it acc env = (do
    standAt i0.pos
    match ← pyNext it with
    | none => pure (.done .next)
    | some u =>
      letOwnedTupleGo t0 it u
      assign t0 env u
      let mut go := true
      for c in f0 do
        if go then go ← isTrue c env (eval c env)
      if go then
        let xs ← eval i1 env
        standAt i1.pos
        let xs ← foldedSetIterable i1 env xs
        let _ ← runOwn (.compStart (sc2 elt t0 i0 t1 i1 f0 f1 sc pos) 1 (← holding [xs] (pyIter xs)) acc env) env
      again (.compLoop (sc2 elt t0 i0 t1 i1 f0 f1 sc pos) 0 it acc env)) := by rfl
theorem turn_inner : compTurn (sc2 elt t0 i0 t1 i1 f0 f1 sc pos) 1 it acc env = (do
    standAt i1.pos
    match ← pyNext it with
    | none => pure (.done .next)
    | some u =>
      letOwnedTupleGo t1 it u
      assign t1 env u
      let mut go := true
      for c in f1 do
        if go then go ← isTrue c env (eval c env)
      if go then
        (do let y ← eval elt env; standAt elt.pos; let _ ← call (.builtin "set.add") [acc, y])
      again (.compLoop (sc2 elt t0 i0 t1 i1 f0 f1 sc pos) 1 it acc env)) := by rfl
end
section
variable {prog : Program} {w : World} {A : Around} {R : Result → Shared → Prop} {s : Shared} {elt t0 i0 t1 i1 : Expr} {f0 f1 : List Expr} {sc : Scope} {pos : Pos} {it acc : Value} {env : Env}
/-- what is wanted of an error in the block -/
abbrev Erx (prog : Program) (w : World) (A : Around) (env : Env) (R : Result → Shared → Prop) : Value → Shared → Prop := notedBy (model prog w) A env fun e s' => R (.error e) s'
/-- the tests of a clause -/
abbrev tests (fs : List Expr) (env : Env) : Sem Bool := forIn fs true fun c r => if r = true then do let ok ← isTrue c env (eval c env); pure (ForInStep.yield ok) else pure (ForInStep.yield r)
theorem loop_outer (fold : ∀ x, foldedSetIterable i1 env x = pure x) (J : Nat → Shared → Prop)
    (turn : ∀ n s, J n s → wpAny (model prog w) A (pyNext it) (fun r s1 => match r with
      | none => R (.ok .next) s1
      | some u => wpAny (model prog w) A (letOwnedTupleGo t0 it u) (fun _ s2 => wpAny (model prog w) A (assign t0 env u) (fun _ s3 => wpAny (model prog w) A (tests f0 env) (fun ok s4 =>
          if ok = true then wpAny (model prog w) A (eval i1 env) (fun xs s5 => wpAny (model prog w) A (pyIter xs) (fun itv s6 =>
            codeAny (model prog w) A (.compStart (sc2 elt t0 i0 t1 i1 f0 f1 sc pos) 1 itv acc env) (fun r s' => (∃ fl, r = .ok fl) ∧ ∃ m, m < n ∧ J m s') s6) (Erx prog w A env R) s5) (Erx prog w A env R) s4
          else ∃ m, m < n ∧ J m s4) (Erx prog w A env R) s3) (Erx prog w A env R) s2) (Erx prog w A env R) s1) (Erx prog w A env R) s) (n : Nat) (h : J n s) :
    codeAny (model prog w) A (.compLoop (sc2 elt t0 i0 t1 i1 f0 f1 sc pos) 0 it acc env) R s := by
  refine codeAny_loop rfl J (fun n s hJ => ?_) n h
  show wpAny _ A ((compTurn (sc2 elt t0 i0 t1 i1 f0 f1 sc pos) 0 it acc env).onRaise (fun x => do noteFrame x env; theTreesLotGoes x)) _ _ s
  refine wpAny_noted ?_
  rw [turn_outer]
  refine wpAny_bind (wpAny_standAt (wpAny_bind (wpAny_mono (turn n s hJ) (fun r s1 q1 => ?_) fun _ _ z => z)))
  cases r with
  | none => exact wpAny_pure q1
  | some u =>
    refine wpAny_bind (wpAny_mono q1 (fun _ s2 q2 => ?_) fun _ _ z => z)
    refine wpAny_bind (wpAny_mono q2 (fun _ s3 q3 => ?_) fun _ _ z => z)
    refine wpAny_bind (wpAny_mono q3 (fun ok s4 q4 => ?_) fun _ _ z => z)
    cases ok with
    | false => exact wpAny_pure ⟨rfl, q4⟩
    | true =>
      refine wpAny_bind (wpAny_mono q4 (fun xs s5 q5 => ?_) fun _ _ z => z)
      refine wpAny_bind (wpAny_standAt (wpAny_bind (wpAny_of_eq (fold xs) ?_)))
      refine wpAny_bind (wpAny_holding (wpAny_mono q5 (fun itv s6 q6 => ?_) fun _ _ z => z))
      refine wpAny_bind (wpAny_runOwn ?_)
      rw [Around.mark_none]
      refine codeAny_mono q6 fun r s' hr => ?_
      obtain ⟨⟨fl, rfl⟩, hm⟩ := hr
      first
        | exact wpAny_pure ⟨rfl, hm⟩
        | exact wpAny_bind (wpAny_pure (wpAny_pure ⟨rfl, hm⟩))
theorem loop_inner (J : Nat → Shared → Prop)
    (turn : ∀ n s, J n s → wpAny (model prog w) A (pyNext it) (fun r s1 => match r with
      | none => R (.ok .next) s1
      | some u => wpAny (model prog w) A (letOwnedTupleGo t1 it u) (fun _ s2 => wpAny (model prog w) A (assign t1 env u) (fun _ s3 => wpAny (model prog w) A (tests f1 env) (fun ok s4 =>
          if ok = true then wpAny (model prog w) A (eval elt env) (fun y s5 => wpAny (model prog w) A (call (.builtin "set.add") [acc, y]) (fun _ s6 => ∃ m, m < n ∧ J m s6) (Erx prog w A env R) s5) (Erx prog w A env R) s4
          else ∃ m, m < n ∧ J m s4) (Erx prog w A env R) s3) (Erx prog w A env R) s2) (Erx prog w A env R) s1) (Erx prog w A env R) s) (n : Nat) (h : J n s) :
    codeAny (model prog w) A (.compLoop (sc2 elt t0 i0 t1 i1 f0 f1 sc pos) 1 it acc env) R s := by
  refine codeAny_loop rfl J (fun n s hJ => ?_) n h
  show wpAny _ A ((compTurn (sc2 elt t0 i0 t1 i1 f0 f1 sc pos) 1 it acc env).onRaise (fun x => do noteFrame x env; theTreesLotGoes x)) _ _ s
  refine wpAny_noted ?_
  rw [turn_inner]
  refine wpAny_bind (wpAny_standAt (wpAny_bind (wpAny_mono (turn n s hJ) (fun r s1 q1 => ?_) fun _ _ z => z)))
  cases r with
  | none => exact wpAny_pure q1
  | some u =>
    refine wpAny_bind (wpAny_mono q1 (fun _ s2 q2 => ?_) fun _ _ z => z)
    refine wpAny_bind (wpAny_mono q2 (fun _ s3 q3 => ?_) fun _ _ z => z)
    refine wpAny_bind (wpAny_mono q3 (fun ok s4 q4 => ?_) fun _ _ z => z)
    cases ok with
    | false => exact wpAny_pure ⟨rfl, q4⟩
    | true =>
      refine wpAny_bind (wpAny_bind (wpAny_mono q4 (fun y s5 q5 => ?_) fun _ _ z => z))
      refine wpAny_bind (wpAny_standAt (wpAny_bind (wpAny_mono q5 (fun _ s6 q6 => ?_) fun _ _ z => z)))
      exact wpAny_pure (wpAny_pure ⟨rfl, q6⟩)
/-- a clause's start: its walk is begun already, or begins here -/
theorem start_inner (h0 : codeAny (model prog w) A (.compLoop (sc2 elt t0 i0 t1 i1 f0 f1 sc pos) 1 it acc env) R s)
    (h : wpAny (model prog w) A (pyIter it) (fun itv s' => codeAny (model prog w) A (.compLoop (sc2 elt t0 i0 t1 i1 f0 f1 sc pos) 1 itv acc env) R s') (Erx prog w A env R) s) :
    codeAny (model prog w) A (.compStart (sc2 elt t0 i0 t1 i1 f0 f1 sc pos) 1 it acc env) R s := by
  refine codeAny_of_tree ?_
  show wpAny _ _ ((compStart (sc2 elt t0 i0 t1 i1 f0 f1 sc pos) 1 it acc env).onRaise (fun x => do noteFrame x env; standAt theWindowsPlace)) _ _ s
  refine wpAny_notedAt ?_
  unfold compStart
  show wpAny _ _ (ask >>= _) _ _ s
  refine wpAny_bind (wpAny_askSetting (wpAny_ite ?_))
  split
  · first
      | exact wpAny_bind (wpAny_pure (wpAny_pure (And.intro rfl h0)))
      | exact wpAny_pure (And.intro rfl h0)
  · refine wpAny_bind (wpAny_rule ?_)
    show wpAny _ _ (standAt i1.pos >>= _) _ _ s
    exact wpAny_bind (wpAny_standAt (wpAny_bind (wpAny_mono h (fun itv s' q => wpAny_pure (And.intro rfl q)) fun _ _ z => z)))
end
/-- the set at D has got y -/
def addedS (w : World) (D : Addr) (y : V) (H : Hp) (N : Hp → Prop) : Prop := ∃ (k : Int) (S : Int → Bool) (n : Nat), y = .int k ∧ H D = some (SetO w D S n) ∧ n + 1 < scanBound ∧
  N (upd H D (SetO w D (fun j => S j || decide (j = k)) (if S k = true then n else n + 1)))
/-- the reading: D the new set; behind the first clause's store and tests the second walk, from which Nx is reached -/
def tSc2 (w : World) (wi : TI) (g : TG) (tt : TT) (wi1 : TI) (g1 : TG) (tt1 : TT) (te : TE) (vs vs1 : List Nat) : TE := fun σ H Q => wi σ H fun J H1 => ∀ D, H1 D = none →
  ∃ W : Nat → Nat → Hp → Prop, (∃ m, W 0 m (upd H1 D (SetO w D (fun _ => false) 0))) ∧ ∀ i m H, W i m H →
    (J.stop i H ∧ Q (.ref D) H) ∨ (J.go i H ∧ ∃ Nx : Hp → Prop, (∀ H', Nx H' → ∃ m', m' < m ∧ W (i + 1) m' H') ∧ ∀ x H', J.yld i H x H' → g x (wipe σ vs) H' fun σ2 H2 => wipe σ2 vs = wipe σ vs ∧ tt σ2 H2 fun b H3 =>
      if b = true then wi1 σ2 H3 fun J1 H4 => ∃ W1 : Nat → Nat → Hp → Prop, (∃ m, W1 0 m H4) ∧ ∀ j k H, W1 j k H →
        (J1.stop j H ∧ Nx H) ∨ (J1.go j H ∧ ∃ Nx1 : Hp → Prop, (∀ H', Nx1 H' → ∃ k', k' < k ∧ W1 (j + 1) k' H') ∧ ∀ x H', J1.yld j H x H' → g1 x (wipe σ2 vs1) H' fun σ3 H5 => wipe σ3 vs1 = wipe σ2 vs1 ∧ tt1 σ3 H5 fun b H6 =>
          if b = true then te σ3 H6 fun y H7 => addedS w D y H7 Nx1 else Nx1 H6)
      else Nx H3)
section
variable {X : Cx}
theorem add_in {pins : List (Addr × Obj)} {σ : L2.St} {H : Hp} {s : Shared} {D : Addr} {y : V} {u : Value} {N : Hp → Prop} {Q : Value → Shared → Prop} (I : Inv X pins σ H s) (r : RelV y u) (a : addedS X.w D y H N)
    (h : ∀ H' s', Inv X pins σ H' s' → N H' → Q .none s') : wpAny (model X.prog X.w) X.A (call (.builtin "set.add") [.ref D, u]) Q X.xe s := by
  obtain ⟨k, S, n, rfl, hD, room, nx⟩ := a
  refine thn (mt_sadd pins s σ H (.ref D) [.int k] (.ref D) [u] (fun v H' => v = .non ∧ N H') I rfl (.cons r .nil) ⟨D, k, S, n, rfl, rfl, hD, room, rfl, nx⟩) fun v s' q => ?_
  obtain ⟨v', H', I', rv, rfl, nx'⟩ := q
  obtain rfl : v = Value.none := rv
  exact h H' s' I' nx'
variable {elt tg iter tg1 iter1 : Expr} {ifs ifs1 : List Expr} {scope : Scope} {own : List (Str × Nat)} {vs1 : List Nat} {pos : Pos} {wi wi1 : TI} {g g1 : TG} {tt tt1 : TT} {te : TE}
theorem pe_sc2 (hc : X.calm = true) (hN : X.N.Nodup) (hi : PI X tg iter wi) (ok : BlkOk X.N X.env.scope scope own) (hv : ∀ i ∈ vs1, i ∈ own.map (·.2))
    (blk : ∀ (s : Shared) (H : Hp) (C : Addr) (cl : List (Str × Addr)) (fp : List Addr), PG (X.blk s H scope (compEnvC scope cl C X.env) fp) tg g ∧ PTs (X.blk s H scope (compEnvC scope cl C X.env) fp) ifs tt ∧
      PI (X.blk s H scope (compEnvC scope cl C X.env) fp) tg1 iter1 wi1 ∧ PG (X.blk s H scope (compEnvC scope cl C X.env) fp) tg1 g1 ∧ PTs (X.blk s H scope (compEnvC scope cl C X.env) fp) ifs1 tt1 ∧
      PE (X.blk s H scope (compEnvC scope cl C X.env) fp) elt te)
    (fold : ∀ x, foldedSetIterable iter X.env x = pure x := by intro _; rfl) (fold1 : ∀ env x, foldedSetIterable iter1 env x = pure x := by intro _ _; rfl) :
    PE X (sc2 elt tg iter tg1 iter1 ifs ifs1 scope pos) (tSc2 X.w wi g tt wi1 g1 tt1 te (own.map (·.2)) vs1) := by
  refine ⟨fun pins s σ H Q I h => ?_⟩
  rw [PpSet.eval_SetComp]
  have cellOf : ∀ y ∈ scope.names, y.2 = .free → ∃ c, X.env.cells.lookup y.1 = some c := fun y hy e => (ok.free y hy e).elim (fun k => I.ok.has _ (.inl k)) fun k => I.ok.has _ (.inr k)
  refine wpAny_comprehension_free (use := none) rfl fold (closure_ok cellOf) ok.kind (fun y hy e => by rw [ok.uniq y hy, e]) (thn (hi.run pins s σ H _ I h) fun xv s1 hx => thn hx fun itv s2 h2 => ?_)
  obtain ⟨it, fp, tn, J, H2, e, I2, T, st2, f2, q⟩ := h2
  subst e
  refine PpSet.newSet_ok (newEnv_comp ?_)
  generalize hD : s2.heap.objs.size = D
  have freeD : H2 D = none := I2.hok.fresh (Nat.le_of_eq hD)
  obtain ⟨W, ⟨m0, w0⟩, turn⟩ := q D freeD
  generalize hso : ({ cls := .type "set", dict := none, data := .set #[] 0 (.fresh 0 0 (!X.w.params.followText "set-order")) } : Obj) = so
  have keepSo : ∀ b o, s2.heap.get? b = some o → (s2.heap.push so).get? b = some o := fun b o e => Heap.get?_push_of_some _ e
  have I3 : Inv X pins σ (upd H2 D (SetO X.w D (fun _ => false) 0)) { s2 with heap := s2.heap.push so } := by
    refine I2.laid (t' := s2.toks) keepSo (Nat.le_of_eq hD) ?_
    rw [← hD, ← hso]
    exact setO_new (setR_fresh X.w)
  generalize hs3 : ({ s2 with heap := s2.heap.push so } : Shared) = s3 at I3 ⊢
  have h3 : s3.heap = s2.heap.push so := by rw [← hs3]
  have below : ∀ b ∈ fp, b < s2.heap.objs.size := fun b hb => (T.obj _ _ st2 b hb).elim fun o e => Heap.lt_size e.1
  generalize hH3 : upd H2 D (SetO X.w D (fun _ => false) 0) = H3 at I3 w0 ⊢
  have f3 : ∀ b ∈ fp, FpOk X pins H3 b ∧ b < s3.heap.objs.size := fun b hb => by
    have lt := below b hb
    refine ⟨⟨?_, (f2 b hb).2⟩, by rw [h3, Heap.size_push]; exact Nat.lt_succ_of_lt lt⟩
    rw [← hH3, upd_ne (by rw [← hD]; exact Nat.ne_of_lt lt)]
    exact (f2 b hb).1
  have st3 : tn 0 s3.heap := T.keep _ _ _ st2 fun b _ o e => by rw [h3]; exact keepSo b o e
  have I4 := block_start I3 ok hN f3
  obtain ⟨pg, pt, pi1, pg1, pt1, pe⟩ := blk s3 H3 s3.heap.objs.size (cellsFrom (s3.heap.objs.size + 1) scope.names (cloFrom X.env.cells scope.names [])) fp
  show codeAny _ _ (.compStart (sc2 elt tg iter tg1 iter1 ifs ifs1 scope pos) 0 (.ref it) (.ref D) (compEnvC scope (cellsFrom (s3.heap.objs.size + 1) scope.names (cloFrom X.env.cells scope.names [])) s3.heap.objs.size X.env))
    (compPost (model X.prog X.w) X.A X.xe none (EP X pins σ Q) (.ref D) s3.heap.objs.size) { s3 with heap := pushCells (s3.heap.push { cls := .type "dict", data := .dict #[] }) scope.names }
  generalize hce : compEnvC scope (cellsFrom (s3.heap.objs.size + 1) scope.names (cloFrom X.env.cells scope.names [])) s3.heap.objs.size X.env = ce at I4 pg pt pi1 pg1 pt1 pe ⊢
  have locals : ce.locals = s3.heap.objs.size := by
    subst hce
    rfl
  generalize hs4 : ({ s3 with heap := pushCells (s3.heap.push { cls := .type "dict", data := .dict #[] }) scope.names } : Shared) = s4 at I4 ⊢
  have st4 : tn 0 s4.heap := T.keep _ _ _ st3 fun b _ o e => by
    rw [← hs4]
    exact pushCells_keeps _ _ _ _ (Heap.get?_push_of_some _ e)
  have clearOf : ∀ {H' : Hp}, H3 = H' → ∀ b ∈ fp, H' b = none := fun e b hb => by
    rw [← e]
    exact (f3 b hb).1.1
  -- a record of the outer walk, within the block
  have outer : ∀ {σ' : L2.St} {H' : Hp} {s' : Shared}, Inv (X.blk s3 H3 scope ce fp) [] σ' H' s' → (∀ b ∈ fp, H' b = none) → ∀ b ∈ fp, FpOk (X.blk s3 H3 scope ce fp) [] H' b := fun I' clear b hb =>
    ⟨clear b hb, (I'.ok.exf b hb).1, I'.ok.exfs b hb, .inl hb, fun x c e => (I'.ok.exf b hb).2 x c e, fun p hp => by simp at hp⟩
  -- what the outer loop keeps
  let Keep : Nat → Shared → Prop := fun n s' => ∃ i H', Inv (X.blk s3 H3 scope ce fp) [] (wipe σ (own.map (·.2))) H' s' ∧ tn i s'.heap ∧ (∀ b ∈ fp, H' b = none) ∧ W i n H'
  have loop : codeAny (model X.prog X.w) X.A (.compLoop (sc2 elt tg iter tg1 iter1 ifs ifs1 scope pos) 0 (.ref it) (.ref D) ce) (compPost (model X.prog X.w) X.A X.xe none (EP X pins σ Q) (.ref D) s3.heap.objs.size) s4 := by
    refine loop_outer (fold1 ce) Keep ?_ m0 ⟨0, H3, I4, st4, clearOf rfl, w0⟩
    rintro n s5 ⟨i, H5, I5, st5, n5, w5⟩
    rcases turn i n H5 w5 with ⟨stop, done⟩ | ⟨go, Nx, hNx, one⟩
    · refine thnF (T.done (X.blk s3 H3 scope ce fp) rfl rfl rfl hc i [] s5 _ H5 (fun _ _ => False) I5 (outer I5 n5) st5 stop) fun r s6 ⟨hr, I6⟩ => ?_
      subst hr
      have I7 : Inv X pins σ H5 s6 := I3.call' (ch := fp) I6.os I6.base I6.hok I6.bare fun b hb => by
        obtain ⟨⟨z1, z2, z3, z4, z5, z6⟩, _⟩ := f3 b hb
        exact ⟨z4, z2, z5, z6⟩
      have free5 : H5 s3.heap.objs.size = none := by
        have z : H5 ce.locals = none := I6.free
        rw [locals] at z
        exact z
      obtain ⟨m, hn, _⟩ := I6.loc
      have hn : s6.heap.Ns ce.locals m := hn
      rw [locals] at hn
      obtain ⟨y0, y1, y2, y3, y4, y5⟩ := I3.fpOk (Nat.le_refl _) free5
      refine ⟨m, hn, fun h'' sb => ?_⟩
      exact ⟨.ref D, H5, I7.turned (t' := s6.toks) (fun b o nb e => (sb.2 b nb).trans e) y0 y1 y3 y4 y5, rfl, done⟩
    · refine thnF (T.item (X.blk s3 H3 scope ce fp) rfl rfl rfl hc i [] s5 _ H5 (fun _ _ => False) I5 (outer I5 n5) st5 go) fun r s6 ⟨u, hr, h6⟩ => ?_
      subst hr
      refine thnF h6 fun _ s7 ⟨x, H7, I7, r7, y7, st7, n7⟩ => ?_
      refine thnF (pg.run _ s7 _ H7 x u _ (I7.pinned (outer I7 n7) (T.obj _ _ st7)) r7 (one x H7 y7)) fun _ s8 ⟨σ8, H8, I8, hw8, q8⟩ => ?_
      refine thnF (pt.run _ s8 σ8 H8 _ I8 q8) fun b s9 ⟨H9, I9, q9⟩ => ?_
      have len8 : (wipe σ (own.map (·.2))).length = σ8.length := by rw [← hw8, wipe_length]
      have know8 : ∀ (j : Nat) v, (wipe σ (own.map (·.2)))[j]? = some (some v) → σ8[j]? = some (some v) ∧ j ∉ own.map (·.2) := fun j v e => by
        rw [← hw8] at e
        exact wipe_some e
      -- the turn's end, from any slots that know what the block knew
      have fin : ∀ {σ9 : L2.St} {s' : Shared} {H' : Hp}, Inv (X.blk s3 H3 scope ce fp) ([] ++ pinsAt fp s7.heap) σ9 H' s' → (wipe σ (own.map (·.2))).length = σ9.length →
          (∀ (j : Nat) v, (wipe σ (own.map (·.2)))[j]? = some (some v) → σ9[j]? = some (some v)) → Nx H' → ∃ m, m < n ∧ Keep m s' := fun {σ9 s' H'} I' hl hk nx => by
        obtain ⟨m', lt, w'⟩ := hNx H' nx
        have pinned : ∀ b ∈ fp, ∀ o, s7.heap.get? b = some o → s'.heap.get? b = some o ∧ H' b = none := fun b hb o e => by
          have z := I'.pin (b, o) (List.mem_append_right _ (List.mem_append_right _ (mem_pinsAt hb e)))
          exact ⟨z.1, z.2.1⟩
        refine ⟨m', lt, i + 1, H', (I'.unpinned (pins := [])).weak hl hk, T.keep _ _ _ st7 fun b hb o e => (pinned b hb o e).1, fun b hb => ?_, w'⟩
        obtain ⟨o, e, _⟩ := T.obj _ _ st7 b hb
        exact (pinned b hb o e).2
      cases b with
      | false =>
        simp only [Bool.false_eq_true, if_false] at q9 ⊢
        exact fin I9 len8 (fun j v e => (know8 j v e).1) q9
      | true =>
        simp only [if_true] at q9 ⊢
        refine thnF (pi1.run _ s9 σ8 H9 _ I9 q9) fun xv s10 hx => thnF hx fun itv s11 h11 => ?_
        obtain ⟨it1, fp1, tn1, J1, H11, e1, I11, T1, st11, f11, W1, ⟨m1, w1⟩, turn1⟩ := h11
        subst e1
        have inner : ∀ {H' : Hp}, (∀ b ∈ fp1, H' b = none) → ∀ b ∈ fp1, FpOk (X.blk s3 H3 scope ce fp) ([] ++ pinsAt fp s7.heap) H' b := fun clear b hb => ⟨clear b hb, (f11 b hb).2⟩
        let Keep1 : Nat → Shared → Prop := fun k s' => ∃ j H', Inv (X.blk s3 H3 scope ce fp) ([] ++ pinsAt fp s7.heap) (wipe σ8 vs1) H' s' ∧ tn1 j s'.heap ∧ (∀ b ∈ fp1, H' b = none) ∧ W1 j k H'
        have loop1 : codeAny (model X.prog X.w) X.A (.compLoop (sc2 elt tg iter tg1 iter1 ifs ifs1 scope pos) 1 (.ref it1) (.ref D) ce) (fun r s' => (∃ fl, r = .ok fl) ∧ ∃ m, m < n ∧ Keep m s') s11 := by
          refine loop_inner Keep1 ?_ m1 ⟨0, H11, I11.weak (wipe_length _ _) (fun j v e => (wipe_some e).1), st11, fun b hb => (f11 b hb).1, w1⟩
          rintro k s12 ⟨j, H12, I12, st12, n12, w12⟩
          rcases turn1 j k H12 w12 with ⟨stop1, nx1⟩ | ⟨go1, Nx1, hNx1, one1⟩
          · refine thnF (T1.done (X.blk s3 H3 scope ce fp) rfl rfl rfl hc j _ s12 (wipe σ8 vs1) H12 (fun _ _ => False) I12 (inner n12) st12 stop1) fun r s13 ⟨hr, I13⟩ => ?_
            subst hr
            refine ⟨⟨_, rfl⟩, fin I13 (len8.trans (wipe_length σ8 vs1).symm) (fun j v e => ?_) nx1⟩
            obtain ⟨z1, z2⟩ := know8 j v e
            rw [wipe_out fun z => z2 (hv j z)]
            exact z1
          · refine thnF (T1.item (X.blk s3 H3 scope ce fp) rfl rfl rfl hc j _ s12 (wipe σ8 vs1) H12 (fun _ _ => False) I12 (inner n12) st12 go1) fun r s13 ⟨u1, hr, h13⟩ => ?_
            subst hr
            refine thnF h13 fun _ s14 ⟨x1, H14, I14, r14, y14, st14, n14⟩ => ?_
            refine thnF (pg1.run _ s14 (wipe σ8 vs1) H14 x1 u1 _ (I14.pinned (inner n14) (T1.obj _ _ st14)) r14 (one1 x1 H14 y14)) fun _ s15 ⟨σ15, H15, I15, hw15, q15⟩ => ?_
            refine thnF (pt1.run _ s15 σ15 H15 _ I15 q15) fun b1 s16 ⟨H16, I16, q16⟩ => ?_
            have fin1 : ∀ {s' : Shared} {H' : Hp}, Inv (X.blk s3 H3 scope ce fp) (([] ++ pinsAt fp s7.heap) ++ pinsAt fp1 s14.heap) σ15 H' s' → Nx1 H' → ∃ m, m < k ∧ Keep1 m s' := fun {s' H'} I' nx => by
              obtain ⟨m', lt, w'⟩ := hNx1 H' nx
              have pinned : ∀ b ∈ fp1, ∀ o, s14.heap.get? b = some o → s'.heap.get? b = some o ∧ H' b = none := fun b hb o e => by
                have z := I'.pin (b, o) (List.mem_append_right _ (List.mem_append_right _ (mem_pinsAt hb e)))
                exact ⟨z.1, z.2.1⟩
              refine ⟨m', lt, j + 1, H', I'.unpinned.weak (by rw [← hw15, wipe_length]) (fun j v e => by rw [← hw15] at e; exact (wipe_some e).1), T1.keep _ _ _ st14 fun b hb o e => (pinned b hb o e).1, fun b hb => ?_, w'⟩
              obtain ⟨o, e, _⟩ := T1.obj _ _ st14 b hb
              exact (pinned b hb o e).2
            cases b1 with
            | false =>
              simp only [Bool.false_eq_true, if_false] at q16 ⊢
              exact fin1 I16 q16
            | true =>
              simp only [if_true] at q16 ⊢
              refine thnF (pe.run _ s16 σ15 H16 _ I16 q16) fun z s17 ⟨yv, H17, I17, r17, ad⟩ => ?_
              exact thnF (add_in (X := X.blk s3 H3 scope ce fp) (Q := fun _ s' => ∃ m, m < k ∧ Keep1 m s') I17 r17 ad fun H' s18 I18 nx => fin1 I18 nx) fun _ _ z => z
        exact start_inner loop1 (T1.self X.A 0 _ _ _ st11 loop1)
  exact PpSet.codeAny_compStart_set loop (T.self X.A 0 _ _ _ st4 loop)
end
end EV
end L2

set_option Elab.async false
set_option linter.all false
set_option maxRecDepth 100000
set_option maxHeartbeats 4000000
/-! enumerate over a tuple. -/
namespace PySem
open Sem (wp)
open AutoSeq1 (wpAny_loadPart')
theorem meets_enumerate_newT (l : Addr) (items : Array Value) (n : Nat) (dct : Option Addr) (sl : Array (Option Value)) :
    Meets (Builtin.«enumerate.__new__» ⟨[.type "enumerate", .ref l], []⟩) (fun _ R s => s.heap.get? l = some { cls := .type "tuple", dict := dct, data := .seq items n, slots := sl } ∧
      R (.ok (.ret (.ref (s.heap.push { cls := .type "tuple_iterator", data := .fields #[.ref l, .int 0 0] }).objs.size)))
        { s with heap := (s.heap.push { cls := .type "tuple_iterator", data := .fields #[.ref l, .int 0 0] }).push { cls := .type "enumerate", data := .fields #[.none, .bool false, .ref s.heap.objs.size, rawInt 0, .none, .none] } }) :=
  .of_wp fun prog w A R s h => by
    obtain ⟨hp, g, d, tk, os⟩ := s; obtain ⟨hl, h⟩ := h
    have hsub := sub_enumerate
    have hL : Heap.IsTuple (Shared.heap ⟨hp, g, d, tk, os⟩) l items := ⟨_, hl, rfl, n, rfl⟩
    wp_walk using wpAny_loadPart' hl
    refine wpAny_stack_any fun st => wpAny_pure ?_
    split
    · rename_i c _ _ _ _ _
      cases (c == Value.type "enumerate")
      · wp_walk using wpAny_loadPart' hl, wpAny_pyIter_tuple hL
        exact ⟨_, rfl, h⟩
      · wp_walk using wpAny_loadPart' hl, wpAny_pyIter_tuple hL
        exact ⟨_, rfl, h⟩
    · wp_walk using wpAny_loadPart' hl, wpAny_pyIter_tuple hL
      exact ⟨_, rfl, h⟩
section
variable {prog : Program} {w : World} {A : Around} {E : Value → Shared → Prop} {s : Shared}
theorem call_enumerate_tuple {l : Addr} {items : Array Value} {Q : Value → Shared → Prop} (hL : s.heap.IsTuple l items)
    (h : ∀ h', IsEnum h' (s.heap.objs.size + 1) s.heap.objs.size 0 .none → h'.IsTupleIter s.heap.objs.size l 0 → h'.objs.size = s.heap.objs.size + 2 →
      (∀ b o, s.heap.get? b = some o → h'.get? b = some o) → Q (.ref (s.heap.objs.size + 1)) { s with heap := h' }) :
    wpAny (model prog w) A (call (.type "enumerate") [.ref l]) Q E s := by
  obtain ⟨⟨c, dct, dt, sl⟩, hl, hc, n, hd⟩ := hL
  replace hc : c = .type "tuple" := hc
  replace hd : dt = .seq items n := hd
  subst hc hd
  refine callType_new F.called_enumerate (by decide) (F.typeCall_enumerate_1 _) (F.newCall_enumerate_1 _) (fun obj => F.args_object_init_2 obj _) F.entry_enumerate_new
    (meets_enumerate_newT l items n dct sl) ⟨hl, ?_⟩
  have hz : (s.heap.push { cls := .type "tuple_iterator", data := .fields #[.ref l, .int 0 0] }).objs.size = s.heap.objs.size + 1 := Heap.size_push ..
  show _ ∧ _
  rw [hz]
  have he : IsEnum ((s.heap.push { cls := .type "tuple_iterator", data := .fields #[.ref l, .int 0 0] }).push
      { cls := .type "enumerate", data := .fields #[.none, .bool false, .ref s.heap.objs.size, rawInt 0, .none, .none] }) (s.heap.objs.size + 1) s.heap.objs.size 0 .none := by
    have := Heap.get?_push_size (s.heap.push { cls := .type "tuple_iterator", data := .fields #[.ref l, .int 0 0] })
      (o := { cls := .type "enumerate", data := .fields #[.none, .bool false, .ref s.heap.objs.size, rawInt 0, .none, .none] }) rfl
    rw [hz] at this; exact this
  refine ⟨⟨_, he, rfl⟩, h _ he ⟨_, Heap.get?_push_of_some _ (Heap.get?_push_size _ rfl), rfl, rfl⟩ (by rw [Heap.size_push, hz]) fun b o x => Heap.get?_push_of_some _ (Heap.get?_push_of_some _ x)⟩
end
end PySem
namespace L2
open PySem PySem.Spec PyProof.Rows
def IteT (K : PySem.W.Frag) (a : Addr) : It :=
  ⟨fun i H => ∃ (xs : List V) (x : V), SqT K H a xs ∧ xs[i]? = some x, fun i H v H' => ∃ T x, v = .ref T ∧ H T = none ∧ H' = upd H T (.tup [.int (i : Nat), x]) ∧ ∀ xs, SqT K H a xs → xs[i]? = some x, fun i H => ∃ xs : List V, SqT K H a xs ∧ xs.length = i⟩
theorem turn_enumT {P : Program} {w : World} {K : PySem.W.Frag} {elts : List Expr} {kk : Nat} {tpos : Pos} (a e it : Addr) (hai : a ≠ it) (hae : a ≠ e) :
    Turn P w K (.Tuple elts kk tpos) (IteT K a) [e, it] e (fun i h => (∃ old, IsEnum h e it ((i : Nat) : Int) old) ∧ h.IsTupleIter it a i ∧ e ≠ it) where
  mem := by simp
  obj := fun i h st b hb => by
    obtain ⟨⟨old, he⟩, ⟨o, ho, hc, hd⟩, _⟩ := st
    have e' : b = e ∨ b = it := by simpa using hb
    rcases e' with z | z
    · rw [z]; exact ⟨_, he, fun v q => nomatch q⟩
    · rw [z]; exact ⟨o, ho, fun v q => by rw [hd] at q; cases q⟩
  keep := fun i h h' st k => let ⟨⟨old, he⟩, hi, hne⟩ := st; ⟨⟨old, k e (by simp) _ he⟩, hi.at fun o q => k it (by simp) o q, hne⟩
  item := by
    intro X hP hw hK hc i pins s σ H E I hf st hg
    subst hP hw hK
    obtain ⟨⟨old, he⟩, hit, hne⟩ := st
    obtain ⟨xs, x, hq, hx⟩ := hg
    obtain ⟨its, rv, p, hz⟩ := I.tuple hq
    obtain ⟨u, hu, ru⟩ := rv.get hx
    have hel : e < s.heap.objs.size := Heap.lt_size he
    have hil : it < s.heap.objs.size := by obtain ⟨_, q, _⟩ := hit; exact Heap.lt_size q
    have hlt : i < its.toArray.size := by
      have := (List.getElem?_eq_some_iff.mp hu).1
      simpa using this
    refine wpAny_pyNext_enum_itemD (Draws.tuple (A := X.A.in1) (show X.A.in1.handled = none from I.ok.hd hc) it a hai its.toArray) he ⟨hit, show s.heap.IsTuple a its.toArray from p⟩ hlt hne (by simp [hne, Ne.symm hae]) fun u' h' tk hu' ho st' hT hsz hk => ?_
    have e0 : u' = u := by
      have q1 : its[i]? = some u' := by simpa using hu'
      rw [hu] at q1
      exact (Option.some.inj q1).symm
    subst e0
    obtain ⟨hit', _⟩ := st'
    refine ⟨_, rfl, wpAny_letOwnedTupleGo_enum (s := { s with heap := h', toks := tk + 1 }) ho fun h'' he' sb => ?_⟩
    have hT2 : h''.get? s.heap.objs.size = some { cls := .type "tuple", data := .seq #[.int i tk, u'] } := (sb.2 _ (Nat.ne_of_gt hel)).trans hT
    have new : ObjOk X.prog X.w (upd H s.heap.objs.size (.tup [.int (i : Nat), x])) h'' s.heap.objs.size (.tup [.int (i : Nat), x]) :=
      ⟨by show 2 ≤ sizeLine; decide, [.int i tk, u'], .cons ⟨_, rfl⟩ (.cons ru .nil), ⟨_, hT2, rfl, _, rfl⟩⟩
    have I1 : Inv X pins σ (upd H s.heap.objs.size (.tup [.int (i : Nat), x])) { s with heap := h'', toks := tk + 1 } :=
      I.turnedNew (ch := [e, it]) (fun b ob hb q => (sb.2 b (fun z => hb (by simp [z]))).trans (hk b ob (fun z => hb (by simp [z])) (fun z => hb (by simp [z])) q)) hf (Nat.le_refl _) new
    refine ⟨.ref s.heap.objs.size, _, I1, rfl, ⟨_, x, rfl, I.hok.fresh (Nat.le_refl _), rfl, fun ys hy => by rw [I.tuple_inj hy hq]; exact hx⟩, ⟨⟨u', ?_⟩, hit'.at fun o q => (sb.2 it (Ne.symm hne)).trans q, hne⟩, fun b hb => ?_⟩
    · have e1 : ((i + 1 : Nat) : Int) = (i : Int) + 1 := by omega
      rw [e1]; exact he'
    · have hb' : b < s.heap.objs.size := by
        have e' : b = e ∨ b = it := by simpa using hb
        rcases e' with z | z
        · rw [z]; exact hel
        · rw [z]; exact hil
      rw [upd_ne (Nat.ne_of_lt hb')]
      exact (hf b hb).1
  done := by
    intro X hP hw hK hc i pins s σ H E I hf st hg
    subst hP hw hK
    obtain ⟨⟨old, he⟩, hit, hne⟩ := st
    obtain ⟨xs, hq, hx⟩ := hg
    obtain ⟨its, rv, p, hz⟩ := I.tuple hq
    obtain ⟨f0, f1, f2, f3, f4, f5⟩ := hf it (by simp)
    have hl := rv.length
    have hn : its.toArray.size = i := by simp; omega
    exact wpAny_pyNext_enum_endD (Draws.tuple (A := X.A.in1) (show X.A.in1.handled = none from I.ok.hd hc) it a hai its.toArray) he ⟨hn.symm ▸ hit, show s.heap.IsTuple a its.toArray from p⟩ fun h' eb => ⟨rfl, I.turned (t' := s.toks) (fun b o hb q => eb b o hb q) f0 f1 f3 f4 f5⟩
  self := fun A i s Q E st h => let ⟨⟨_, he⟩, _⟩ := st; wpAny_pyIter_enum he h
def iEnumT (K : PySem.W.Frag) (ta : TA) : TI := fun σ H R => ta σ H fun vs H1 => ∃ a xs, vs = [.ref a] ∧ SqT K H1 a xs ∧ R (IteT K a) H1
theorem pi_enumT {X : Cx} {e : Expr} {ta : TA} {p pos tpos : Pos} {elts : List Expr} {kk : Nat} (hg : Gl X "enumerate") (hm : X.mg "enumerate" = none) (ha : PA X [e] ta) (hs : starEach [e] X.env = [(false, eval e X.env)] := by rfl) :
    PI X (.Tuple elts kk tpos) (.Call (.Name "enumerate" p) [e] [] pos) (iEnumT X.K ta) := by
  refine ⟨fun pins s σ H R I h => ?_⟩
  refine Call_ (ld_blt I hg hm boot_enumerate (PyProof.Rows.callWith_type1 (thn (ha.run pos pins s σ H _ I h) fun us s1 ⟨vs, H1, I1, r1, q1⟩ => ?_) hs rfl))
  obtain ⟨a, xs, ex, hq, q⟩ := q1
  subst ex
  cases r1 with
  | cons r rr =>
    cases rr
    cases r
    obtain ⟨its, rv, p', hz⟩ := I1.tuple hq
    have hal : a < s1.heap.objs.size := by
      obtain ⟨o, q, _⟩ := id p'
      exact Heap.lt_size q
    refine call_enumerate_tuple (show s1.heap.IsTuple a its.toArray from p') fun h' he hit hsz hk => wpAny_pyIter_enum he ?_
    have I2 : Inv X pins σ H1 { s1 with heap := h' } := I1.kept (t' := s1.toks) hk
    refine ⟨s1.heap.objs.size + 1, [s1.heap.objs.size + 1, s1.heap.objs.size], _, _, H1, rfl, I2, turn_enumT a (s1.heap.objs.size + 1) s1.heap.objs.size (Nat.ne_of_lt hal) (Nat.ne_of_lt (Nat.lt_succ_of_lt hal)), ⟨⟨.none, he⟩, hit, Nat.succ_ne_self _⟩, fun b hb => ?_, q⟩
    have e' : b = s1.heap.objs.size + 1 ∨ b = s1.heap.objs.size := by simpa using hb
    have hle : s1.heap.objs.size ≤ b := by
      rcases e' with z | z
      · rw [z]; exact Nat.le_add_right _ _
      · rw [z]; exact Nat.le_refl _
    exact I1.fpOk hle (I1.hok.fresh hle)
theorem walk_enumT {K : PySem.W.Frag} {a : Addr} {xs : List V} : Walk (IteT K a) xs.length (fun H => SqT K H a xs) (YPair (fun i => some (.int (i : Nat))) (fun i => xs[i]?)) := by
  refine ⟨fun i _ hi q => ⟨xs, xs[i], q, by simp [hi]⟩, fun _ q => ⟨xs, q, rfl⟩, fun i H v H' _ q y => ?_⟩
  obtain ⟨T, x, h1, h2, h3, h4⟩ := y
  exact ⟨T, .int (i : Nat), x, h1, h2, h3, rfl, h4 xs q⟩
end L2

set_option Elab.async false
set_option linter.all false
set_option maxRecDepth 100000
set_option maxHeartbeats 4000000
/-! Framings; listed_standings. -/
namespace K39
open PySem L2 L2.EV
abbrev sListed : Stmt := top 13
/-- a framing at f -/
def FrA (H : Hp) (f : Addr) (fr : List T3) : Prop := ∃ ts : List Addr, H f = some (.tup (ts.map V.ref)) ∧ ts.length = fr.length ∧ ∀ (i : Nat) t x, ts[i]? = some t → fr[i]? = some x → S3 H t x
theorem FrA.same {H H' : Hp} {f : Addr} {fr : List T3} (h : FrA H f fr) (s : Same H H') : FrA H' f fr := by
  obtain ⟨ts, e, l, c⟩ := h
  exact ⟨ts, s _ _ e, l, fun i t x h1 h2 => s _ _ (c i t x h1 h2)⟩
structure Frm (fr : List T3) (last : Nat) : Prop where
  l0 : 1 ≤ fr.length
  l1 : fr.length ≤ 16
  stp : ∀ x ∈ fr, Stp x
  srt : fr.Pairwise (fun x y => lt3 x y = true)
  ring : ∀ k : Nat, k ≤ last → ∃ x ∈ fr, x.1 = (k : Int) ∧ x.2.2 = (if k < last then (k : Int) + 1 else 0)
  lo : ∀ x ∈ fr, x.1 ≤ last ∧ x.2.2 ≤ last
  l5 : last ≤ 5
/-- what is closed under the steps, from b on, holds all standings -/
theorem Frm.all {fr : List T3} {last : Nat} (F : Frm fr last) {S : Int → Prop} {b : Nat} (hb : b ≤ last) (c0 : ∀ x ∈ fr, x.1 = (b : Int) → S x.2.2) (c : ∀ x ∈ fr, S x.1 → S x.2.2) : ∀ k : Nat, k ≤ last → S k := by
  have up : ∀ j : Nat, b + j ≤ last → j = 0 ∨ S ((b + j : Nat) : Int) := by
    intro j
    induction j with
    | zero => exact fun _ => .inl rfl
    | succ j ih =>
      intro h
      obtain ⟨x, hx, e1, e2⟩ := F.ring (b + j) (by omega)
      rw [if_pos (by omega)] at e2
      have e3 : (((b + (j + 1) : Nat)) : Int) = ((b + j : Nat) : Int) + 1 := by omega
      rw [e3, ← e2]
      refine .inr ?_
      rcases ih (by omega) with z | z
      · subst z
        exact c0 x hx (by simpa using e1)
      · exact c x hx (by rw [e1]; exact z)
  have s0 : S 0 := by
    obtain ⟨x, hx, e1, e2⟩ := F.ring last (Nat.le_refl _)
    rw [if_neg (by omega)] at e2
    rw [← e2]
    obtain ⟨j, rfl⟩ := Nat.le.dest hb
    rcases up j (Nat.le_refl _) with z | z
    · subst z
      exact c0 x hx (by simpa using e1)
    · exact c x hx (by rw [e1]; exact z)
  intro k
  induction k with
  | zero => exact fun _ => s0
  | succ k ih =>
    intro h
    obtain ⟨x, hx, e1, e2⟩ := F.ring k (by omega)
    rw [if_pos (by omega)] at e2
    have e3 : ((k + 1 : Nat) : Int) = (k : Int) + 1 := by omega
    rw [e3, ← e2]
    exact c x hx (by rw [e1]; exact ih (by omega))
theorem sc_it {J : It} {n : Nat} {G : Hp → Prop} {Y : Nat → Hp → V → Hp → Prop} (w : Walk J n G Y) {H0 : Hp} {Qd : Hp → Prop} {body : V → Hp → (Hp → Prop) → Prop} (Pv : Nat → Hp → Prop) (h0 : Pv 0 H0) (hG : ∀ i H, i ≤ n → Pv i H → G H)
    (hs : ∀ i x H H', i < n → Pv i H → Y i H x H' → body x H' (Pv (i + 1))) (hd : ∀ H, Pv n H → Qd H) :
    ∃ W : Nat → Nat → Hp → Prop, (∃ m, W 0 m H0) ∧ ∀ i m H, W i m H → (J.stop i H ∧ Qd H) ∨ (J.go i H ∧ ∃ Nx : Hp → Prop, (∀ H', Nx H' → ∃ m', m' < m ∧ W (i + 1) m' H') ∧ ∀ x H', J.yld i H x H' → body x H' Nx) := by
  refine ⟨fun i m H => m = n - i ∧ i ≤ n ∧ Pv i H, ⟨n, by simp, Nat.zero_le _, h0⟩, ?_⟩
  rintro i m H ⟨rfl, hi, p⟩
  have q := hG i H hi p
  by_cases hlt : i < n
  · exact .inr ⟨w.goes i H hlt q, Pv (i + 1), fun H' p' => ⟨n - (i + 1), by omega, rfl, hlt, p'⟩, fun x H' y => hs i x H H' hlt p (w.yields i H x H' hlt q y)⟩
  · have e : i = n := by omega
    subst e
    exact .inl ⟨w.stops H q, hd H p⟩
theorem at_step {H : Hp} {ts : List Addr} {fr : List T3} {i : Nat} {x : V} (hl : ts.length = fr.length) (ht : ∀ (i : Nat) t x, ts[i]? = some t → fr[i]? = some x → S3 H t x) (hx : (ts.map V.ref)[i]? = some x) :
    ∃ t y, fr[i]? = some y ∧ x = .ref t ∧ S3 H t y := by
  rw [List.getElem?_map] at hx
  cases e : ts[i]? with
  | none =>
    rw [e] at hx
    cases hx
  | some t =>
    rw [e] at hx
    have il : i < fr.length := by
      have := (List.getElem?_eq_some_iff.mp e).1
      omega
    exact ⟨t, fr[i], List.getElem?_eq_getElem il, (Option.some.inj hx).symm, ht i t _ e (List.getElem?_eq_getElem il)⟩
/-- listed_standings(framing): a new list of numbers up to last -/
def spListed : Sp := fun vs H Q _ => ∃ (f : Addr) (fr : List T3) (last : Nat), vs = [.ref f] ∧ FrA H f fr ∧ Frm fr last ∧
  ∀ (H' : Hp) (p : Addr) (ns : List Int), Same H H' → H p = none → H' p = some (.lst (ns.map V.int)) → ns.length ≤ 32 → (∀ k ∈ ns, 0 ≤ k ∧ k ≤ last) → Q (.ref p) H'
theorem pe_sc2s {X : Cx} {elt tg iter tg1 iter1 : Expr} {ifs ifs1 : List Expr} {scope : Scope} {own : List (Str × Nat)} {vs1 : List Nat} {pos : Pos} {wi wi1 : TI} {g g1 : TG} {tt tt1 : TT} {te : TE} (hc : X.calm = true) (hN : X.N.Nodup) (hi : PI X tg iter wi) (ok : BlkOk X.N X.env.scope scope own) (hv : ∀ i ∈ vs1, i ∈ own.map (·.2))
    (b1 : ∀ (s : Shared) (H : Hp) (C : Addr) (cl : List (Str × Addr)) (fp : List Addr), PG (X.blk s H scope (compEnvC scope cl C X.env) fp) tg g)
    (b2 : ∀ (s : Shared) (H : Hp) (C : Addr) (cl : List (Str × Addr)) (fp : List Addr), PTs (X.blk s H scope (compEnvC scope cl C X.env) fp) ifs tt)
    (b3 : ∀ (s : Shared) (H : Hp) (C : Addr) (cl : List (Str × Addr)) (fp : List Addr), PI (X.blk s H scope (compEnvC scope cl C X.env) fp) tg1 iter1 wi1)
    (b4 : ∀ (s : Shared) (H : Hp) (C : Addr) (cl : List (Str × Addr)) (fp : List Addr), PG (X.blk s H scope (compEnvC scope cl C X.env) fp) tg1 g1)
    (b5 : ∀ (s : Shared) (H : Hp) (C : Addr) (cl : List (Str × Addr)) (fp : List Addr), PTs (X.blk s H scope (compEnvC scope cl C X.env) fp) ifs1 tt1)
    (b6 : ∀ (s : Shared) (H : Hp) (C : Addr) (cl : List (Str × Addr)) (fp : List Addr), PE (X.blk s H scope (compEnvC scope cl C X.env) fp) elt te)
    (fold : ∀ x, foldedSetIterable iter X.env x = pure x := by intro _; rfl) (fold1 : ∀ env x, foldedSetIterable iter1 env x = pure x := by intro _ _; rfl) :
    PE X (.SetComp elt [⟨tg, iter, ifs, 0⟩, ⟨tg1, iter1, ifs1, 0⟩] scope pos) (tSc2 X.w wi g tt wi1 g1 tt1 te (own.map (·.2)) vs1) :=
  pe_sc2 hc hN hi ok hv (fun s H C cl fp => ⟨b1 s H C cl fp, b2 s H C cl fp, b3 s H C cl fp, b4 s H C cl fp, b5 s H C cl fp, b6 s H C cl fp⟩) fold fold1
theorem same_set {D : Addr} {H H' : Hp} {o : HO} (hD : H D = none) (k : Same H H') : Same H (upd H' D o) := fun b u e => by
  rw [upd_ne (ne_of_none e hD)]
  exact k _ _ e
theorem scan64 : 64 < scanBound := by decide +kernel
section
variable {P : Program} {w : World} {K : PySem.W.Frag} {mg : Str → Option Value} {base : Heap}
theorem scListed : FnScope ["framing", "start", "piece", "goal", "standing"] ["framing"] (defScope sListed) := ⟨rfl, rfl, rfl, by decide +kernel, rfl, by decide +kernel, by decide +kernel⟩
theorem ok_listed {f : Addr} {fd : FuncData} (F : Fun K "listed_standings" "listed_standings" sListed f fd) (hs : mg "sorted" = none) : FnOk P w K mg base CX0 1 f fd ["framing"] spListed := by
  refine F.ok scListed (fun vs H Q E h => ?_) (fun cdv A outer s H vs Q E hr h => ?_)
  · obtain ⟨f, fr, last, rfl, _⟩ := h
    rfl
  · obtain ⟨f, fr, last, rfl, fa, fm, q⟩ := h
    refine ⟨_, pss_one (ps_ret (pe_callB (cr_sortedSet rfl) (by rfl) hs (by decide +kernel) (pa_cons (pe_sc2s (g := gTup K 3 (gCons (gName 1) (gCons (gName 2) (gCons (gName 3) gNil)))) (tt := tYes) (wi1 := iTup K (tTup (tCons (tVar 1) (tCons (tVar 3) tNil)))) (g1 := gName 4) (tt1 := tYes) (te := tVar 4) (own := [("start", 1), ("piece", 2), ("goal", 3), ("standing", 4)]) (vs1 := [4]) rfl scListed.nd (pi_tup (pv 0))
      (blkOk_by (N := ["framing", "start", "piece", "goal", "standing"]) (sc := defScope sListed) (by decide +kernel)) (by decide)
      (fun _ _ _ _ _ => pg_tup rfl (pgs_cons (pg_name (i := 1) scListed.nd rfl (Or.inl rfl)) (pgs_cons (pg_name (i := 2) scListed.nd rfl (Or.inl rfl)) (pgs_cons (pg_name (i := 3) scListed.nd rfl (Or.inl rfl)) pgs_nil)))) (fun _ _ _ _ _ => pts_nil)
      (fun _ _ _ _ _ => pi_tup (pe_tup (pa_cons (pv 1) (pa_cons (pv 3) pa_nil)))) (fun _ _ _ _ _ => pg_name (i := 4) scListed.nd rfl (Or.inl rfl)) (fun _ _ _ _ _ => pts_nil) (fun _ _ _ _ _ => pv 4)) pa_nil))), ?_⟩
    obtain ⟨ts, hf, hl, ht⟩ := id fa
    refine ⟨_, rfl, f, rfl, ⟨_, SqT.of hf⟩, fun D hD => ?_⟩
    refine sc_it (walk_tup (xs := ts.map V.ref)) (fun i H' => Same H H' ∧ ∃ (S : Int → Bool) (n : Nat), H' D = some (SetO w D S n) ∧ n ≤ 2 * i ∧ ∀ k, S k = true → 0 ≤ k ∧ k ≤ last)
      ⟨same_upd hD, _, _, upd_same, Nat.le_refl _, fun k z => by cases z⟩ (fun i H' _ z => SqT.of (z.1 _ _ hf)) ?_ ?_
    · rintro i x H1 H2 hi ⟨sm, S, n, hS, hn, hk⟩ ⟨rfl, hx⟩
      obtain ⟨t, y, hy, rfl, e3⟩ := at_step (i := i) hl ht hx
      have e4 : H2 t = _ := sm _ _ e3
      obtain ⟨b1, b2, _, b3, b4⟩ := fm.stp y (List.mem_of_getElem? hy)
      obtain ⟨b5, b6⟩ := fm.lo y (List.mem_of_getElem? hy)
      refine ⟨t, _, rfl, SqT.of e4, rfl, _, _, rfl, _, _, rfl, _, _, rfl, rfl, rfl, ?_⟩
      refine ⟨_, rfl, _, rfl, (by show 2 ≤ sizeLine; decide), fun p hp => ⟨p, rfl, ⟨_, SqT.of upd_same⟩, ?_⟩⟩
      refine sc_it (walk_tup (xs := [V.int y.1, V.int y.2.2])) (fun j H' => Same H H' ∧ H' p = some (.tup [V.int y.1, V.int y.2.2]) ∧ ∃ (S : Int → Bool) (n : Nat), H' D = some (SetO w D S n) ∧ n ≤ 2 * i + j ∧ ∀ k, S k = true → 0 ≤ k ∧ k ≤ last)
        ⟨fun b u e => same_upd hp _ _ (sm _ _ e), upd_same, S, n, by rw [upd_ne (ne_of_none hS hp)]; exact hS, hn, hk⟩ (fun j H' _ z => SqT.of z.2.1) ?_ ?_
      · rintro j x H2 H3 hj ⟨sm2, hp2, S2, n2, hS2, hn2, hk2⟩ ⟨rfl, hx2⟩
        have hj2 : j < 2 := hj
        obtain ⟨k, rfl, k0, k1⟩ : ∃ k : Int, x = .int k ∧ 0 ≤ k ∧ k ≤ last := by
          match j, hj2 with
          | 0, _ => exact ⟨y.1, (Option.some.inj hx2).symm, b1, b5⟩
          | 1, _ => exact ⟨y.2.2, (Option.some.inj hx2).symm, b3, b6⟩
        have sc := scan64
        have l1 := fm.l1
        have hi2 : i < fr.length := (List.getElem?_eq_some_iff.mp hy).1
        refine ⟨rfl, _, rfl, k, S2, n2, rfl, hS2, by omega, same_set hD sm2, ?_, _, _, upd_same, ?_, fun k2 z => ?_⟩
        · rw [upd_ne (ne_of hp2 hS2 (fun z => by cases z))]
          exact hp2
        · split <;> omega
        · rw [Bool.or_eq_true] at z
          rcases z with z | z
          · exact hk2 k2 z
          · have e5 : k2 = k := of_decide_eq_true z
            rw [e5]
            exact ⟨k0, k1⟩
      · rintro H2 ⟨sm2, hp2, S2, n2, hS2, hn2, hk2⟩
        refine ⟨sm2, S2, n2, hS2, ?_, hk2⟩
        have hn3 : n2 ≤ 2 * i + 2 := hn2
        omega
    · rintro H1 ⟨sm, S, n, hS, hn, hk⟩
      refine ⟨D, S, n, rfl, hS, ?_, fun ns p _ h2 h3 h4 => ?_⟩
      · have := fm.l1
        simp only [List.length_map] at hn
        omega
      · refine q _ p ns ?_ ?_ upd_same ?_ ?_
        · exact fun b u e => by
            rw [upd_ne (ne_of_none (sm _ _ e) h4)]
            exact sm _ _ e
        · exact sm.free h4
        · have := fm.l1
          simp only [List.length_map] at hn
          omega
        · exact fun k z => hk k ((h2 k).mp z)
end
end K39

set_option Elab.async false
set_option linter.all false
set_option maxRecDepth 100000
set_option maxHeartbeats 4000000
/-! ways_from: all standings are found. -/
namespace K39
open PySem L2 L2.EV
abbrev sWays : Stmt := top 14
abbrev has (kvs : List (Key × V)) (g : Int) : Bool := (valV kvs (Sum.inl g : Key)).isSome
/-- ways_from(framing, b): a new dict that has all standings -/
def spWays : Sp := fun vs H Q _ => ∃ (f : Addr) (fr : List T3) (last b : Nat), vs = [.ref f, .int b] ∧ FrA H f fr ∧ Frm fr last ∧ b ≤ last ∧
  ∀ (H' : Hp) (d : Addr) (kvs : List (Key × V)), Same H H' → H d = none → H' d = some (.dK kvs) → (∀ k : Nat, k ≤ last → has kvs k = true) → Q (.ref d) H'
/-- the standings up to last that are not found -/
def miss (last : Nat) (kvs : List (Key × V)) : Nat := ((List.range (last + 1)).filter fun k : Nat => !has kvs k).length
theorem miss_le {last : Nat} {kvs : List (Key × V)} : miss last kvs ≤ last + 1 := by
  have := List.length_filter_le (fun k : Nat => !has kvs k) (List.range (last + 1))
  rw [List.length_range] at this
  exact this
theorem filt_lt {α : Type} {p q : α → Bool} : ∀ {l : List α} {a : α}, a ∈ l → p a = true → q a = false → (∀ x, q x = true → p x = true) → (l.filter q).length < (l.filter p).length
  | x :: l, a, hm, hp, hq, h => by
    have le : ∀ m : List α, (m.filter q).length ≤ (m.filter p).length := fun m => by
      induction m with
      | nil => exact Nat.le_refl _
      | cons y m ih =>
        rw [List.filter_cons, List.filter_cons]
        by_cases z : q y = true
        · rw [if_pos z, if_pos (h y z), List.length_cons, List.length_cons]
          omega
        · rw [if_neg z]
          split
          · rw [List.length_cons]
            omega
          · exact ih
    rw [List.filter_cons, List.filter_cons]
    rcases List.mem_cons.mp hm with z | z
    · subst z
      rw [if_pos hp, if_neg (by rw [hq]; simp), List.length_cons]
      have := le l
      omega
    · have ih := filt_lt z hp hq h
      by_cases y : q x = true
      · rw [if_pos y, if_pos (h x y), List.length_cons, List.length_cons]
        omega
      · rw [if_neg y]
        split
        · rw [List.length_cons]
          omega
        · exact ih
theorem has_put {kvs : List (Key × V)} {g k : Int} {v : V} : has (putK kvs (Sum.inl g) v) k = (decide (k = g) || has kvs k) := by
  unfold has
  rw [valV_put]
  by_cases e : k = g
  · subst e
    rw [if_pos rfl, decide_eq_true rfl]
    rfl
  · rw [if_neg (fun z => e (Sum.inl.inj z)), decide_eq_false e, Bool.false_or]
theorem miss_put {last : Nat} {kvs : List (Key × V)} {g : Int} {v : V} (h0 : 0 ≤ g) (h1 : g ≤ last) (n : has kvs g = false) : miss last (putK kvs (Sum.inl g) v) < miss last kvs := by
  obtain ⟨a, rfl⟩ := Int.eq_ofNat_of_zero_le h0
  refine filt_lt (a := a) (List.mem_range.mpr (by omega)) (by simp only [n, Bool.not_false]) ?_ ?_
  · rw [has_put, decide_eq_true rfl]
    rfl
  · intro x hx
    rw [has_put] at hx
    cases z : has kvs x with
    | false => rfl
    | true =>
      rw [z] at hx
      simp at hx
/-- the rows: tuples of a way and a standing -/
def Rows (H : Hp) (last n : Nat) (ps : List (Addr × Int)) : Prop := ∀ q ∈ ps, 0 ≤ q.2 ∧ q.2 ≤ last ∧ ∃ (wy : Addr) (xs : List V), H q.1 = some (.tup [.ref wy, .int q.2]) ∧ H wy = some (.tup xs) ∧ xs.length ≤ n
def KeepT (H H' : Hp) : Prop := ∀ a xs, H a = some (.tup xs) → H' a = some (.tup xs)
theorem Rows.keep {H H' : Hp} {last n m : Nat} {ps : List (Addr × Int)} (h : Rows H last n ps) (k : KeepT H H') (l : n ≤ m) : Rows H' last m ps := fun q hq => by
  obtain ⟨h0, h1, wy, xs, e1, e2, e3⟩ := h q hq
  exact ⟨h0, h1, wy, xs, k _ _ e1, k _ _ e2, Nat.le_trans e3 l⟩
theorem Same.keepT {H H' : Hp} (s : Same H H') : KeepT H H' := fun a xs e => s _ _ e
theorem KeepT.trans {H H' H2 : Hp} (a : KeepT H H') (b : KeepT H' H2) : KeepT H H2 := fun x xs e => b _ _ (a _ _ e)
theorem keepT_upd {H : Hp} {d : Addr} {o : HO} {o' : HO} (e : H d = some o') (n : ∀ xs, o' ≠ .tup xs) : KeepT H (upd H d o) := fun a xs h => by
  by_cases z : a = d
  · subst z
    rw [e] at h
    exact absurd (Option.some.inj h) (n xs)
  · rw [upd_ne z]
    exact h
/-- t + u, u not empty: the result is somewhere, all else stays -/
def rCatS (K : PySem.W.Frag) : R2 := fun x y H Q => ∃ a b xs ys, x = .ref a ∧ y = .ref b ∧ SqT K H a xs ∧ H b = some (.tup ys) ∧ ys ≠ [] ∧ xs.length + ys.length ≤ sizeLine ∧ ∀ p H', Same H H' → H' p = some (.tup (xs ++ ys)) → Q (.ref p) H'
theorem op_catS {X : Cx} : OpR X (binaryOp .Add) (rCatS X.K) := by
  intro pins s σ H x y v u Q I rx ry h
  obtain ⟨a, b, xs, ys, rfl, rfl, ha, hb, hn, hz, q⟩ := h
  refine op_catA pins s σ H _ _ v u Q I rx ry ⟨a, b, xs, ys, rfl, rfl, ha, SqT.of hb, hz, fun z => ?_, fun _ z => absurd z hn, fun _ _ p hp => q p _ (same_upd hp) upd_same⟩
  subst z
  exact q b H (fun _ _ e => e) (by rw [hb]; rfl)
structure Co (H0 H : Hp) (d r u : Addr) (last m0 : Nat) (ps qs : List (Addr × Int)) (kvs : List (Key × V)) : Prop where
  sm : Same H0 H
  hd : H d = some (.dK kvs)
  hr : H r = some (.lst (ps.map fun q => V.ref q.1))
  hu : H u = some (.lst (qs.map fun q => V.ref q.1))
  rp : Rows H last kvs.length ps
  rq : Rows H last kvs.length qs
  cnt : kvs.length + miss last kvs ≤ last + 1
  me : (qs = [] ∧ miss last kvs ≤ m0) ∨ miss last kvs < m0
  ql : qs.length ≤ kvs.length
theorem Co.same {H0 H H' : Hp} {d r u : Addr} {last m0 : Nat} {ps qs : List (Addr × Int)} {kvs : List (Key × V)} (C : Co H0 H d r u last m0 ps qs kvs) (s : Same H H') : Co H0 H' d r u last m0 ps qs kvs :=
  ⟨C.sm.trans s, s _ _ C.hd, s _ _ C.hr, s _ _ C.hu, C.rp.keep (Same.keepT s) (Nat.le_refl _), C.rq.keep (Same.keepT s) (Nat.le_refl _), C.cnt, C.me, C.ql⟩
/-- what is reached from a standing that stands in the rows, or is found -/
def Clo (fr : List T3) (b : Nat) (kvs : List (Key × V)) (open_ : Int → T3 → Prop) : Prop := ∀ x ∈ fr, (x.1 = (b : Int) ∨ has kvs x.1 = true) → open_ x.1 x ∨ has kvs x.2.2 = true
section
variable {P : Program} {w : World} {K : PySem.W.Frag} {mg : Str → Option Value} {base : Heap}
theorem scWays : FnScope ["framing", "begin", "found", "rows", "further", "way", "standing", "number", "start", "piece", "goal"] ["framing", "begin"] (defScope sWays) := ⟨rfl, rfl, rfl, by decide +kernel, rfl, by decide +kernel, by decide +kernel⟩
theorem ok_ways {f : Addr} {fd : FuncData} (F : Fun K "ways_from" "ways_from" sWays f fd) (he : mg "enumerate" = none) : FnOk P w K mg base CX0 1 f fd ["framing", "begin"] spWays := by
  refine F.ok scWays (fun vs H Q E h => ?_) (fun cdv A outer s H vs Q E hr h => ?_)
  · obtain ⟨f, fr, last, b, rfl, _⟩ := h
    rfl
  · obtain ⟨f, fr, last, b, rfl, fa, fm, hb, q⟩ := h
    have hu := hu_of hr
    refine ⟨_, pss_cons (ps_set (i := 2) scWays.nd rfl (Or.inl rfl) pe_dnewK)
      (pss_cons (ps_set (i := 3) scWays.nd rfl (Or.inl rfl) (pe_lst (pa_cons (pe_tup (pa_cons (pe_tup pa_nil) (pa_cons (pv 1) pa_nil))) pa_nil)))
      (pss_cons (ps_while PassesOwn.never (pt_truth (pv 3) (fun _ => rfl))
        (pss_cons (ps_set (i := 4) scWays.nd rfl (Or.inl rfl) (pe_lst pa_nil))
        (pss_cons (ps_for PassesOwn.never rfl (pi_list (pv 3)) (pg_tup rfl (pgs_cons (pg_name (i := 5) scWays.nd rfl (Or.inl rfl)) (pgs_cons (pg_name (i := 6) scWays.nd rfl (Or.inl rfl)) pgs_nil)))
          (pss_one (ps_for PassesOwn.never rfl (pi_enumT (by rfl) he (pa_cons (pv 0) pa_nil)) (pg_tup rfl (pgs_cons (pg_name (i := 7) scWays.nd rfl (Or.inl rfl)) (pgs_cons (pg_tup rfl (pgs_cons (pg_name (i := 8) scWays.nd rfl (Or.inl rfl)) (pgs_cons (pg_name (i := 9) scWays.nd rfl (Or.inl rfl)) (pgs_cons (pg_name (i := 10) scWays.nd rfl (Or.inl rfl)) pgs_nil)))) pgs_nil)))
            (pss_one (ps_if (pw_and (pt_cmpR op_eq (pv 8) (pv 6) (nomark _)) (pw_and1 (pt_cmp (pc_dnotin hu (pv 10) (pv 2)) (by rfl)))).pt
              (pss_cons (ps_dput hu (pv 2) (pv 10) (pe_op op_catS (pv 5) (pe_tup (pa_cons (pv 7) pa_nil))) rfl)
                (pss_one (ps_expr (pe_bm PySem.F.plainAttrs_list PySem.F.slot_list_append PySem.F.type_list_append mt_append (pv 4) (pa_cons (pe_tup (pa_cons (pe_dget hu (pv 2) (pv 10) (fun _ _ => rfl)) (pa_cons (pv 10) pa_nil))) pa_nil)))))
              pss_nil)))))
        (pss_one (ps_set (i := 3) scWays.nd rfl (Or.inl rfl) (pv 4))))))
      (pss_one (ps_ret (pv 2))))), ?_⟩
    intro d hd0
    have sd := same_upd (o := HO.dK []) hd0
    refine ⟨by decide, fun e0 he0 => ⟨_, rfl, (by show 2 ≤ sizeLine; decide), fun p0 hp0 => ⟨(by show 1 ≤ sizeLine; decide), fun r hr0 => ?_⟩⟩⟩
    have s1 := same_upd (o := HO.tup []) he0
    have s2 := same_upd (o := HO.tup [V.ref e0, V.int (b : Int)]) hp0
    have s3 := same_upd (o := HO.lst [V.ref p0]) hr0
    refine ⟨fun j σ H' => ∃ (r : Addr) (kvs : List (Key × V)) (ps : List (Addr × Int)) (v4 v5 v6 v7 v8 v9 v10 : Option V), σ = [some (.ref f), some (.int b), some (.ref d), some (.ref r), v4, v5, v6, v7, v8, v9, v10] ∧
      Same H H' ∧ H' d = some (.dK kvs) ∧ H' r = some (.lst (ps.map fun q => V.ref q.1)) ∧ Rows H' last kvs.length ps ∧ kvs.length + miss last kvs ≤ last + 1 ∧ Clo fr b kvs (fun g _ => ∃ q ∈ ps, q.2 = g) ∧ j = 2 * miss last kvs + (if ps = [] then 0 else 1), ⟨_, r, [], [(p0, (b : Int))], none, none, none, none, none, none, none, rfl, ?_, ?_, ?_, ?_, ?_, ?_, rfl⟩, ?_⟩
    · exact sd.trans (s1.trans (s2.trans s3))
    · exact s3 _ _ (s2 _ _ (s1 _ _ upd_same))
    · exact upd_same
    · intro q hq
      have e : q = (p0, (b : Int)) := by simpa using hq
      subst e
      refine ⟨by show (0 : Int) ≤ (b : Int); omega, by show (b : Int) ≤ last; omega, e0, [], s3 _ _ upd_same, s3 _ _ (s2 _ _ upd_same), Nat.le_refl _⟩
    · have := miss_le (last := last) (kvs := [])
      simp only [List.length_nil]
      omega
    · intro x hx h
      rcases h with h | h
      · exact .inl ⟨_, List.mem_singleton.mpr rfl, h.symm⟩
      · cases h
    · rintro j σ H1 ⟨r, kvs, ps, v4, v5, v6, v7, v8, v9, v10, rfl, sm, hd, hr, rp, cnt, clo, rfl⟩
      refine ⟨_, rfl, _, .inl ⟨_, SqL.of hr, rfl⟩, ?_⟩
      by_cases hps : ps = []
      · subst hps
        refine iteF' rfl ?_
        refine ⟨_, rfl, q H1 d kvs sm hd0 hd fun k hk => ?_⟩
        have c2 : ∀ x ∈ fr, (x.1 = (b : Int) ∨ has kvs x.1 = true) → has kvs x.2.2 = true := fun x hx h => by
          rcases clo x hx h with ⟨_, z, _⟩ | z
          · cases z
          · exact z
        exact fm.all (S := fun g => has kvs g = true) hb (fun x hx e => c2 x hx (.inl e)) (fun x hx e => c2 x hx (.inr e)) k hk
      · refine iteT' (by cases ps; exact absurd rfl hps; rfl) ?_
        refine ⟨_, fun _ _ z => z, ?_⟩
        refine ⟨by decide, fun u hu0 => ?_⟩
        have su := same_upd (o := HO.lst []) hu0
        have hur : u ≠ r := (ne_of_none hr hu0).symm
        have hu00 : H u = none := sm.free hu0
        refine ⟨_, rfl, r, rfl, ⟨_, SqL.of (su _ _ hr)⟩, for_it (walk_list (xs := ps.map fun q => V.ref q.1)) (fun i σ H' => ∃ (kvs2 : List (Key × V)) (qs : List (Addr × Int)) (v5 v6 v7 v8 v9 v10 : Option V), σ = [some (.ref f), some (.int b), some (.ref d), some (.ref r), some (.ref u), v5, v6, v7, v8, v9, v10] ∧
          Co H H' d r u last (miss last kvs) ps qs kvs2 ∧ Clo fr b kvs2 (fun g _ => (∃ q ∈ ps.drop i, q.2 = g) ∨ ∃ q ∈ qs, q.2 = g))
          ⟨kvs, [], v5, v6, v7, v8, v9, v10, rfl, ⟨sm.trans su, su _ _ hd, su _ _ hr, upd_same, rp.keep (Same.keepT su) (Nat.le_refl _), (fun q hq => by cases hq), cnt, .inl ⟨rfl, Nat.le_refl _⟩, Nat.zero_le _⟩, fun x hx h => (clo x hx h).imp (fun z => .inl z) id⟩
          (fun i σ H' _ ⟨_, _, _, _, _, _, _, _, _, C, _⟩ => SqL.of C.hr) ?_ ?_⟩
        · rintro i v σ H2 H3 hi ⟨kvs2, qs, v5, v6, v7, v8, v9, v10, rfl, C, cl⟩ ⟨rfl, hv⟩
          obtain ⟨q1, hq1, rfl⟩ : ∃ q1, ps[i]? = some q1 ∧ v = V.ref q1.1 := by
            rw [List.getElem?_map] at hv
            cases e : ps[i]? with
            | none =>
              rw [e] at hv
              cases hv
            | some q1 =>
              rw [e] at hv
              exact ⟨q1, rfl, (Option.some.inj hv).symm⟩
          obtain ⟨g0, g1, wy, xs, e1, e2, e3⟩ := C.rp q1 (List.mem_of_getElem? hq1)
          have dq : ps.drop i = q1 :: ps.drop (i + 1) := by
            have il := (List.getElem?_eq_some_iff.mp hq1).1
            rw [List.drop_eq_getElem_cons il]
            have := (List.getElem?_eq_some_iff.mp hq1).2
            rw [this]
          obtain ⟨ts, hf, hl, ht⟩ := id fa
          refine ⟨_, _, rfl, SqT.of e1, rfl, _, _, rfl, _, _, rfl, rfl, ?_⟩
          refine ⟨_, rfl, f, _, rfl, SqT.of (C.sm _ _ hf), for_it (walk_enumT (xs := ts.map V.ref)) (fun k σ H' => ∃ (kvs3 : List (Key × V)) (qs3 : List (Addr × Int)) (v7 v8 v9 v10 : Option V), σ = [some (.ref f), some (.int b), some (.ref d), some (.ref r), some (.ref u), some (.ref wy), some (.int q1.2), v7, v8, v9, v10] ∧
            Co H H' d r u last (miss last kvs) ps qs3 kvs3 ∧ H' wy = some (.tup xs) ∧ xs.length ≤ kvs3.length ∧ Clo fr b kvs3 (fun g x => ((∃ q ∈ ps.drop (i + 1), q.2 = g) ∨ ∃ q ∈ qs3, q.2 = g) ∨ (g = q1.2 ∧ x ∈ fr.drop k)))
            ⟨kvs2, qs, v7, v8, v9, v10, rfl, C, e2, e3, fun x hx h => ?_⟩
            (fun k σ H' _ ⟨_, _, _, _, _, _, _, C', _⟩ => SqT.of (C'.sm _ _ hf)) ?_ ?_⟩
          · rcases cl x hx h with (⟨q, z, e⟩ | z) | z
            · rw [dq] at z
              rcases List.mem_cons.mp z with z | z
              · subst z
                exact .inl (.inr ⟨e.symm, by simpa using hx⟩)
              · exact .inl (.inl (.inl ⟨q, z, e⟩))
            · exact .inl (.inl (.inr z))
            · exact .inr z
          · rintro k x σ H3 H4 hk ⟨kvs3, qs3, v7, v8, v9, v10, rfl, C3, w3, wl, cl3⟩ ⟨T, xi, xo, rfl, nT, rfl, h1, h2⟩
            cases h1
            obtain ⟨t, y, hy, rfl, e4⟩ := at_step (i := k) hl ht h2
            have uT := same_upd (o := HO.tup [V.int (k : Nat), V.ref t]) nT
            have C4 := C3.same uT
            have t4 := uT _ _ (C3.sm _ _ e4)
            have w4 := uT _ _ w3
            have hym : y ∈ fr := List.mem_of_getElem? hy
            obtain ⟨b1, b2, _, b3, b4⟩ := fm.stp y hym
            obtain ⟨b5, b6⟩ := fm.lo y hym
            have dk : fr.drop k = y :: fr.drop (k + 1) := by
              have il := (List.getElem?_eq_some_iff.mp hy).1
              rw [List.drop_eq_getElem_cons il]
              have := (List.getElem?_eq_some_iff.mp hy).2
              rw [this]
            -- the step is done with
            have go : ∀ (kvs4 : List (Key × V)) (qs4 : List (Addr × Int)), (∀ g : Int, has kvs4 g = true → has kvs3 g = true ∨ ∃ q ∈ qs4, q.2 = g) → (∀ g : Int, has kvs3 g = true → has kvs4 g = true) → (∀ q ∈ qs3, q ∈ qs4) → (y.1 = q1.2 → has kvs4 y.2.2 = true) →
                Clo fr b kvs4 (fun g x => ((∃ q ∈ ps.drop (i + 1), q.2 = g) ∨ ∃ q ∈ qs4, q.2 = g) ∨ (g = q1.2 ∧ x ∈ fr.drop (k + 1))) := fun kvs4 qs4 n1 n2 n3 n4 x hx h => by
              have old : x.1 = (b : Int) ∨ has kvs3 x.1 = true → ((((∃ q ∈ ps.drop (i + 1), q.2 = x.1) ∨ ∃ q ∈ qs4, q.2 = x.1) ∨ (x.1 = q1.2 ∧ x ∈ fr.drop (k + 1))) ∨ has kvs4 x.2.2 = true) := fun h => by
                rcases cl3 x hx h with ((z | ⟨q, z, e⟩) | ⟨z1, z2⟩) | z
                · exact .inl (.inl (.inl z))
                · exact .inl (.inl (.inr ⟨q, n3 q z, e⟩))
                · rw [dk] at z2
                  rcases List.mem_cons.mp z2 with z2 | z2
                  · subst z2
                    exact .inr (n4 z1)
                  · exact .inl (.inr ⟨z1, z2⟩)
                · exact .inr (n2 _ z)
              rcases h with h | h
              · exact old (.inl h)
              · rcases n1 _ h with z | z
                · exact old (.inr z)
                · exact .inl (.inl (.inr z))
            refine ⟨T, _, rfl, SqT.of upd_same, rfl, _, _, rfl, _, _, rfl, ⟨t, _, rfl, SqT.of t4, rfl, _, _, rfl, _, _, rfl, _, _, rfl, rfl, rfl, ?_⟩⟩
            refine ⟨_, rfl, _, rfl, rfl, _, rfl, ?_⟩
            refine ite2 (fun z => ?_) (fun z => ?_)
            · have z1 : y.1 = q1.2 := V.int.inj (of_decide_eq_true z)
              refine ⟨_, rfl, _, rfl, d, _, rfl, DGet.k (k := Sum.inl y.2.2) C4.hd, _, rfl, ?_⟩
              refine ite2 (fun y1 => ?_) (fun y1 => ?_)
              · have no : has kvs3 y.2.2 = false := by
                  cases e : has kvs3 y.2.2 with
                  | false => rfl
                  | true =>
                    have e' : (valV kvs3 (Sum.inl y.2.2 : Key)).isSome = true := e
                    rw [e'] at y1
                    cases y1
                have mp := miss_put (v := V.non) b3 b6 no
                have l5 := fm.l5
                have c3 := C3.cnt
                refine ⟨_, rfl, ⟨_, rfl, (by show 1 ≤ sizeLine; decide), fun p hp => ⟨wy, p, xs, [V.int (k : Nat)], rfl, rfl, SqT.of (same_upd hp _ _ w4), upd_same, (fun z => by cases z), ?_, fun nw H5 s5 n5 => ?_⟩⟩⟩
                · rw [sizeLine_eq]
                  simp only [List.length_cons, List.length_nil]
                  omega
                have C5 := (C4.same (same_upd (o := HO.tup [V.int (k : Nat)]) hp)).same s5
                have hdu : d ≠ u := ne_of C5.hd C5.hu (fun z => by cases z)
                have hdr : d ≠ r := ne_of C5.hd C5.hr (fun z => by cases z)
                refine ⟨_, rfl, _, rfl, d, _, rfl, DPut.k (k := Sum.inl y.2.2) C5.hd (by rw [sizeLine_eq]; omega), ?_⟩
                have hn : valV kvs3 (Sum.inl y.2.2 : Key) = none := by
                  cases e : valV kvs3 (Sum.inl y.2.2 : Key) with
                  | none => rfl
                  | some v =>
                    have e' : has kvs3 y.2.2 = true := by
                      show (valV kvs3 (Sum.inl y.2.2 : Key)).isSome = true
                      rw [e]
                      rfl
                    rw [e'] at no
                    cases no
                generalize hH6 : upd H5 d (.dK (putK kvs3 (Sum.inl y.2.2) (.ref nw))) = H6
                have k6 : KeepT H5 H6 := by
                  rw [← hH6]
                  exact keepT_upd C5.hd (fun xs z => by cases z)
                have d6 : H6 d = some (.dK (putK kvs3 (Sum.inl y.2.2) (.ref nw))) := by
                  rw [← hH6]
                  exact upd_same
                have u6 : H6 u = some (.lst (qs3.map fun q => V.ref q.1)) := by
                  rw [← hH6, upd_ne hdu.symm]
                  exact C5.hu
                have r6 : H6 r = some (.lst (ps.map fun q => V.ref q.1)) := by
                  rw [← hH6, upd_ne hdr.symm]
                  exact C5.hr
                have m6 : Same H H6 := by
                  rw [← hH6]
                  exact same_set hd0 C5.sm
                have g6 : valV (putK kvs3 (Sum.inl y.2.2) (V.ref nw)) (Sum.inl y.2.2 : Key) = some (.ref nw) := by
                  rw [valV_put, if_pos rfl]
                have n6 := k6 _ _ n5
                have ml := miss_le (last := last) (kvs := kvs3)
                have mp2 := miss_put (v := V.ref nw) b3 b6 no
                have pe : (putK kvs3 (Sum.inl y.2.2 : Key) (V.ref nw)).length = kvs3.length + 1 := by
                  rw [putK_new _ hn, List.length_append]
                  rfl
                have ql := C3.ql
                refine ⟨_, rfl, ?_, _, rfl, _, rfl, ⟨d, _, rfl, by rw [← g6]; exact DGet.k (k := Sum.inl y.2.2) d6, _, rfl, (by show 2 ≤ sizeLine; decide), fun p7 hp7 => ⟨u, qs3.map (fun q => V.ref q.1), _, rfl, rfl, same_upd hp7 _ _ u6, by rw [sizeLine_eq, List.length_map]; omega, ?_⟩⟩⟩
                · exact .inl ⟨rfl, _, SqL.of u6⟩
                have k7 := Same.keepT (same_upd (o := HO.tup [V.ref nw, V.int y.2.2]) hp7)
                have hd7 := same_upd (o := HO.tup [V.ref nw, V.int y.2.2]) hp7 _ _ d6
                have hu7 := same_upd (o := HO.tup [V.ref nw, V.int y.2.2]) hp7 _ _ u6
                have hr7 := same_upd (o := HO.tup [V.ref nw, V.int y.2.2]) hp7 _ _ r6
                have k8 := keepT_upd (o := .lst (qs3.map (fun q => V.ref q.1) ++ [V.ref p7])) hu7 (fun xs z => by cases z)
                have kk : KeepT H5 _ := (k6.trans k7).trans k8
                refine ⟨putK kvs3 (Sum.inl y.2.2) (.ref nw), qs3 ++ [(p7, y.2.2)], _, _, _, _, rfl, ⟨same_set hu00 (m6.trans (same_upd hp7)), ?_, ?_, ?_, ?_, ?_, by rw [pe]; omega, .inr ?_, by rw [pe, List.length_append]; simp only [List.length_cons, List.length_nil]; omega⟩, ?_, by rw [pe]; omega, ?_⟩
                · rw [upd_ne hdu]
                  exact hd7
                · rw [upd_ne hur.symm]
                  exact hr7
                · rw [List.map_append]
                  exact upd_same
                · exact C5.rp.keep kk (by rw [pe]; omega)
                · intro q hq
                  rcases List.mem_append.mp hq with hq | hq
                  · exact C5.rq.keep kk (by rw [pe]; omega) q hq
                  · have e : q = (p7, y.2.2) := by simpa using hq
                    subst e
                    refine ⟨b3, b6, nw, xs ++ [V.int (k : Nat)], k8 _ _ upd_same, k8 _ _ (k7 _ _ n6), ?_⟩
                    rw [pe, List.length_append]
                    simp only [List.length_cons, List.length_nil]
                    omega
                · rcases C3.me with ⟨_, z⟩ | z <;> omega
                · exact kk _ _ ((same_upd (o := HO.tup [V.int (k : Nat)]) hp |>.trans s5) _ _ w4)
                · refine go _ _ (fun g h => ?_) (fun g h => ?_) (fun q h => List.mem_append_left _ h) (fun _ => ?_)
                  · rw [has_put] at h
                    rcases (Bool.or_eq_true _ _).mp h with h | h
                    · exact .inr ⟨_, List.mem_append_right _ (List.mem_singleton.mpr rfl), (of_decide_eq_true h).symm⟩
                    · exact .inl h
                  · rw [has_put, h, Bool.or_true]
                  · rw [has_put, decide_eq_true rfl]
                    rfl
              · have yes : has kvs3 y.2.2 = true := by
                  cases e : has kvs3 y.2.2 with
                  | true => rfl
                  | false =>
                    have e' : (valV kvs3 (Sum.inl y.2.2 : Key)).isSome = false := e
                    rw [e'] at y1
                    exact absurd rfl y1
                exact ⟨kvs3, qs3, _, _, _, _, rfl, C4, w4, wl, go kvs3 qs3 (fun g h => .inl h) (fun g h => h) (fun q h => h) (fun _ => yes)⟩
            · have z1 : ¬ y.1 = q1.2 := fun e => z (decide_eq_true (congrArg V.int e))
              refine iteF ?_
              exact ⟨kvs3, qs3, _, _, _, _, rfl, C4, w4, wl, go kvs3 qs3 (fun g h => .inl h) (fun g h => h) (fun q h => h) (fun e => absurd e z1)⟩
          · rintro σ H3 ⟨kvs3, qs3, v7, v8, v9, v10, rfl, C3, w3, wl, cl3⟩
            refine ⟨kvs3, qs3, _, _, v7, v8, v9, v10, rfl, C3, fun x hx h => ?_⟩
            rcases cl3 x hx h with (z | ⟨_, z⟩) | z
            · exact .inl z
            · rw [show (ts.map V.ref).length = fr.length by simp [hl], List.drop_length] at z
              cases z
            · exact .inr z
        · rintro σ H2 ⟨kvs2, qs, v5, v6, v7, v8, v9, v10, rfl, C, cl⟩
          refine ⟨_, rfl, _, ?_, u, kvs2, qs, some (.ref u), v5, v6, v7, v8, v9, v10, rfl, C.sm, C.hd, C.hu, C.rq, C.cnt, fun x hx h => ?_, rfl⟩
          · rw [if_neg hps]
            rcases C.me with ⟨z, y⟩ | z
            · rw [if_pos z]
              omega
            · split <;> omega
          · rcases cl x hx h with (z | z) | z
            · rw [List.length_map, List.drop_length] at z
              obtain ⟨_, z, _⟩ := z
              cases z
            · exact .inl z
            · exact .inr z
end
end K39

set_option Elab.async false
set_option linter.all false
set_option maxRecDepth 100000
set_option maxHeartbeats 4000000
/-! is_joined, need_framing. -/
namespace K39
open PySem L2 L2.EV
abbrev sJoined : Stmt := top 15
abbrev sNeedF : Stmt := top 16
def spJoined : Sp := fun vs H Q _ => ∃ (f : Addr) (fr : List T3) (last : Nat), vs = [.ref f] ∧ FrA H f fr ∧ Frm fr last ∧ ∀ H', Same H H' → Q (.bl true) H'
def spNeedF : Sp := fun vs H Q _ => ∃ (f : Addr) (fr : List T3) (last : Nat), vs = [.ref f] ∧ FrA H f fr ∧ Frm fr last ∧ ∀ H', Same H H' → Q (.ref f) H'
/-- the defs that need_framing calls -/
structure Fs (K : PySem.W.Frag) (mg : Str → Option Value) where
  fN : Addr
  fP : Addr
  fS : Addr
  fL : Addr
  fW : Addr
  fJ : Addr
  fF : Addr
  dN : FuncData
  dP : FuncData
  dS : FuncData
  dL : FuncData
  dW : FuncData
  dJ : FuncData
  dF : FuncData
  N : Fun K "is_number" "is_number" sNum fN dN
  P : Fun K "is_piece" "is_piece" sPc fP dP
  S : Fun K "is_step" "is_step" sStep fS dS
  L : Fun K "listed_standings" "listed_standings" sListed fL dL
  W : Fun K "ways_from" "ways_from" sWays fW dW
  J : Fun K "is_joined" "is_joined" sJoined fJ dJ
  F : Fun K "need_framing" "need_framing" sNeedF fF dF
  bN : Binds K dN ["thing", "many"] []
  bP : Binds K dP ["thing"] []
  bS : Binds K dS ["thing"] []
  bL : Binds K dL ["framing"] []
  bW : Binds K dW ["framing", "begin"] []
  bJ : Binds K dJ ["framing"] []
  bF : Binds K dF ["thing"] []
  mN : mg "is_number" = some (.ref fN)
  mP : mg "is_piece" = some (.ref fP)
  mS : mg "is_step" = some (.ref fS)
  mL : mg "listed_standings" = some (.ref fL)
  mW : mg "ways_from" = some (.ref fW)
  mJ : mg "is_joined" = some (.ref fJ)
  mF : mg "need_framing" = some (.ref fF)
  T : TxtF mg
  so : mg "sorted" = none
  en : mg "enumerate" = none
  ms : ∃ t, mg "MOST_STEPS" = some (.int 16 t)
section
variable {P : Program} {w : World} {K : PySem.W.Frag} {mg : Str → Option Value} {base : Heap}
theorem scJoined : FnScope ["framing", "reached", "standing"] ["framing"] (defScope sJoined) := ⟨rfl, rfl, rfl, by decide +kernel, rfl, by decide +kernel, by decide +kernel⟩
theorem ok_joined (Z : Fs K mg) : FnOk P w K mg base CX0 2 Z.fJ Z.dJ ["framing"] spJoined := by
  have GL : FnOk P w K mg base CX0 1 Z.fL Z.dL ["framing"] spListed := ok_listed Z.L Z.so
  have GW : FnOk P w K mg base CX0 1 Z.fW Z.dW ["framing", "begin"] spWays := ok_ways Z.W Z.en
  refine Z.J.ok scJoined (fun vs H Q E h => ?_) (fun cdv A outer s H vs Q E hr h => ?_)
  · obtain ⟨f, fr, last, rfl, _⟩ := h
    rfl
  · obtain ⟨f, fr, last, rfl, fa, fm, q⟩ := h
    have hu := hu_of hr
    refine ⟨_, pss_cons (ps_set (i := 1) scJoined.nd rfl (Or.inl rfl) (pe_call GW hr (by rfl) Z.mW Z.W.kp Z.bW .nil pass0 (pa_cons (pv 0) (pa_cons pe_int pa_nil))))
      (pss_cons (ps_for PassesOwn.never rfl (pi_list (pe_call GL hr (by rfl) Z.mL Z.L.kp Z.bL .nil pass0 (pa_cons (pv 0) pa_nil))) (pg_name (i := 2) scJoined.nd rfl (Or.inl rfl))
        (pss_one (ps_if (pw_or (pt_cmp (pc_dnotin hu (pv 2) (pv 1)) (by rfl)) (pw_or1 (pt_cmp (pc_dnotin hu pe_int (pe_call GW hr (by rfl) Z.mW Z.W.kp Z.bW .nil pass0 (pa_cons (pv 0) (pa_cons (pv 2) pa_nil)))) (by rfl)))).pt
          (pss_one (ps_ret pe_bl)) pss_nil)))
      (pss_one (ps_ret pe_bl))), ?_⟩
    refine ⟨_, rfl, f, fr, last, 0, rfl, fa, fm, Nat.zero_le _, fun H1 d kvs s1 n1 e1 h1 => ?_⟩
    refine ⟨_, rfl, f, fr, last, rfl, fa.same s1, fm, fun H2 p ns s2 n2 e2 l2 k2 => ⟨p, rfl, ⟨_, SqL.of e2⟩, for_it (walk_list (xs := ns.map V.int)) (fun i σ H' => ∃ v2 : Option V, σ = [some (.ref f), some (.ref d), v2] ∧ Same H2 H')
      ⟨none, rfl, fun _ _ e => e⟩ (fun i σ H' _ ⟨_, _, z⟩ => SqL.of (z _ _ e2)) ?_ ?_⟩⟩
    · rintro i x σ H3 H4 hi ⟨v2, rfl, s3⟩ ⟨rfl, hx⟩
      obtain ⟨k, hk, rfl⟩ : ∃ k : Int, k ∈ ns ∧ x = .int k := by
        rw [List.getElem?_map] at hx
        cases e : ns[i]? with
        | none =>
          rw [e] at hx
          cases hx
        | some k =>
          rw [e] at hx
          exact ⟨k, List.mem_of_getElem? e, (Option.some.inj hx).symm⟩
      obtain ⟨k0, k1⟩ := k2 k hk
      obtain ⟨b, rfl⟩ := Int.eq_ofNat_of_zero_le k0
      have hb : b ≤ last := by omega
      have hb' : (valV kvs (Sum.inl (b : Int) : Key)).isSome = true := h1 b hb
      refine ⟨_, rfl, _, rfl, d, _, rfl, DGet.k (k := Sum.inl (b : Int)) (s3 _ _ (s2 _ _ e1)), _, rfl, iteF' (by rw [hb']; rfl) ?_⟩
      refine ⟨_, rfl, _, rfl, f, fr, last, b, rfl, (fa.same s1).same (s2.trans s3), fm, hb, fun H5 d5 kvs5 s5 n5 e5 h5 => ?_⟩
      have h0' : (valV kvs5 (Sum.inl (0 : Int) : Key)).isSome = true := h5 0 (Nat.zero_le _)
      refine ⟨d5, _, rfl, DGet.k (k := Sum.inl (0 : Int)) e5, _, rfl, iteF' (by rw [h0']; rfl) ?_⟩
      exact ⟨_, rfl, s3.trans s5⟩
    · rintro σ H3 ⟨v2, rfl, s3⟩
      exact q H3 (s1.trans (s2.trans s3))
theorem scNeedF : FnScope ["thing", "number", "step"] ["thing"] (defScope sNeedF) := ⟨rfl, rfl, rfl, by decide +kernel, rfl, by decide +kernel, by decide +kernel⟩
theorem ok_needF (Z : Fs K mg) : FnOk P w K mg base CX0 3 Z.fF Z.dF ["thing"] spNeedF := by
  have GS : FnOk P w K mg base CX0 2 Z.fS Z.dS ["thing"] spStep := ok_step Z.S Z.T Z.N Z.bN Z.mN Z.P Z.bP Z.mP
  have GJ : FnOk P w K mg base CX0 2 Z.fJ Z.dJ ["framing"] spJoined := ok_joined Z
  refine Z.F.ok scNeedF (fun vs H Q E h => ?_) (fun cdv A outer s H vs Q E hr h => ?_)
  · obtain ⟨f, fr, last, rfl, _⟩ := h
    rfl
  · obtain ⟨f, fr, last, rfl, fa, fm, q⟩ := h
    have hu := hu_of hr
    have hu0 : (A.deeper (PyProof.Rows.envOfC "need_framing" (defScope sNeedF) s.heap.objs.size Z.fF cdv)).units < cLine := by omega
    obtain ⟨tm, eM⟩ := Z.ms
    refine ⟨_, pss_cons (ps_if (pw_or (pt_not (pt_val (pe_callB call_isi (by rfl) Z.T.isi PyProof.Rows.boot_isinstance (pa_cons (pv 0) (pa_cons (pe_bltn (v := .ty "tuple") (by rfl) Z.T.tuple (by decide +kernel) rfl) pa_nil)))))
        (pw_or1 (pt_not (pt_chain op_le op_le pe_int (pe_callB call_len_seq (by rfl) Z.T.len PySem.boot_len (pa_cons (pv 0) pa_nil)) (pe_glob (v := .int 16) (by rfl) eM ⟨_, rfl⟩))))).pt
        (pss_one ps_never) pss_nil)
      (pss_cons (ps_for PassesOwn.never rfl (pi_enumT (by rfl) Z.en (pa_cons (pv 0) pa_nil)) (pg_tup rfl (pgs_cons (pg_name (i := 1) scNeedF.nd rfl (Or.inl rfl)) (pgs_cons (pg_name (i := 2) scNeedF.nd rfl (Or.inl rfl)) pgs_nil)))
        (pss_one (ps_if (pw_or (pt_not (pt_val (pe_call GS hr (by rfl) Z.mS Z.S.kp Z.bS .nil pass0 (pa_cons (pv 2) pa_nil))))
          (pw_or1 (pw_and (pt_cmpR op_gt (pv 1) pe_int (nomark _)) (pw_and1 (pt_cmpR (op_le3 hu0) (pv 2) (pe_ix ix_tup (pv 0) (pe_op op_sub (pv 1) pe_int) (fun _ _ => rfl)) (nomark _)))).pt)).pt
          (pss_one ps_never) pss_nil)))
      (pss_cons (ps_if (pt_not (pt_val (pe_call GJ hr (by rfl) Z.mJ Z.J.kp Z.bJ .nil pass0 (pa_cons (pv 0) pa_nil)))) (pss_one ps_never) pss_nil)
      (pss_one (ps_ret (pv 0))))), ?_⟩
    obtain ⟨ts, hf, hl, ht⟩ := id fa
    have l0 := fm.l0
    have l1 := fm.l1
    refine ⟨_, rfl, .ref f, .ty "tuple", .type "tuple", .type "tuple", true, rfl, .ty "tuple", .base (.tup hf), kit_ty (by decide +kernel), true, rfl, iteF ?_⟩
    refine ⟨_, rfl, f, _, rfl, .inr (SqT.of hf), 1, _, rfl, rfl, _, rfl, iteT' (decide_eq_true (by simp; omega)) ⟨_, 16, rfl, rfl, _, rfl, ?_⟩⟩
    refine iteF' (by rw [decide_eq_true (by simp; omega)]; rfl) ?_
    refine ⟨_, rfl, f, _, rfl, SqT.of hf, for_it (walk_enumT (xs := ts.map V.ref)) (fun i σ H' => ∃ v1 v2 : Option V, σ = [some (.ref f), v1, v2] ∧ Same H H')
      ⟨none, none, rfl, fun _ _ e => e⟩ (fun i σ H' _ ⟨_, _, _, z⟩ => SqT.of (z _ _ hf)) ?_ ?_⟩
    · rintro i x σ H1 H2 hi ⟨v1, v2, rfl, s1⟩ ⟨T, xi, xo, rfl, nT, rfl, h1, h2⟩
      cases h1
      obtain ⟨t, y, hy, rfl, e4⟩ := at_step (i := i) hl ht h2
      have s2 := s1.trans (same_upd (o := HO.tup [V.int (i : Nat), V.ref t]) nT)
      refine ⟨T, _, rfl, SqT.of upd_same, rfl, _, _, rfl, _, _, rfl, rfl, ?_⟩
      refine ⟨_, rfl, t, y, rfl, s2 _ _ e4, fm.stp y (List.mem_of_getElem? hy), fun H3 s3 => ⟨_, rfl, iteF ?_⟩⟩
      refine ⟨_, rfl, (i : Int), 0, rfl, rfl, _, rfl, ?_⟩
      refine ite2 (fun z => ?_) (fun z => ?_)
      · have z1 : (0 : Int) < i := of_decide_eq_true z
        obtain ⟨j, rfl⟩ : ∃ j, i = j + 1 := ⟨i - 1, by omega⟩
        have jl : j < fr.length := by
          have := (List.getElem?_eq_some_iff.mp hy).1
          omega
        have jt : j < ts.length := by omega
        have e5 := ht j ts[j] fr[j] (List.getElem?_eq_getElem jt) (List.getElem?_eq_getElem jl)
        have lt : lt3 fr[j] y = true := by
          have h3 := List.pairwise_iff_getElem.mp fm.srt j (j + 1) jl (List.getElem?_eq_some_iff.mp hy).1 (by omega)
          rw [(List.getElem?_eq_some_iff.mp hy).2] at h3
          exact h3
        refine ⟨_, rfl, _, rfl, _, rfl, _, _, rfl, rfl, f, _, (j : Int), V.ref ts[j], rfl, ?_, SqT.of (s3 _ _ (s2 _ _ hf)), atI_nat ?_, t, ts[j], y, fr[j], rfl, rfl, s3 _ _ (s2 _ _ e4), s3 _ _ (s2 _ _ e5), _, rfl, ?_⟩
        · show V.int (((j + 1 : Nat) : Int) - 1) = V.int (j : Int)
          congr 1
          omega
        · rw [List.getElem?_map, List.getElem?_eq_getElem jt]
          rfl
        · refine iteF' (by rw [lt]; rfl) ?_
          exact ⟨_, _, rfl, s2.trans s3⟩
      · refine iteF ?_
        exact ⟨_, _, rfl, s2.trans s3⟩
    · rintro σ H1 ⟨v1, v2, rfl, s1⟩
      refine ⟨_, rfl, f, fr, last, rfl, fa.same s1, fm, fun H2 s2 => ⟨_, rfl, iteF ⟨_, rfl, q H2 (s1.trans s2)⟩⟩⟩
end
end K39

set_option Elab.async false
set_option linter.all false
set_option maxRecDepth 100000
set_option maxHeartbeats 4000000
/-! is_entry, first_wrong, need_weaving. -/
namespace K39
open PySem L2 L2.EV
abbrev sEntry : Stmt := top 22
abbrev sWrong : Stmt := top 23
abbrev sNeedW : Stmt := top 24
abbrev E2 : Type := Int × Int
abbrev A2 (H : Hp) (t : Addr) (e : E2) : Prop := H t = some (.tup [.int e.1, .int e.2])
/-- a weaving at w -/
def WvA (H : Hp) (w : Addr) (es : List E2) : Prop := ∃ ts : List Addr, H w = some (.tup (ts.map V.ref)) ∧ ts.length = es.length ∧ ∀ (i : Nat) t e, ts[i]? = some t → es[i]? = some e → A2 H t e
theorem WvA.same {H H' : Hp} {f : Addr} {es : List E2} (h : WvA H f es) (s : Same H H') : WvA H' f es := by
  obtain ⟨ts, e, l, c⟩ := h
  exact ⟨ts, s _ _ e, l, fun i t x h1 h2 => s _ _ (c i t x h1 h2)⟩
theorem at_ent {H : Hp} {ts : List Addr} {es : List E2} {i : Nat} {x : V} (hl : ts.length = es.length) (ht : ∀ (i : Nat) t e, ts[i]? = some t → es[i]? = some e → A2 H t e) (hx : (ts.map V.ref)[i]? = some x) :
    ∃ t e, es[i]? = some e ∧ ts[i]? = some t ∧ x = .ref t ∧ A2 H t e := by
  rw [List.getElem?_map] at hx
  cases e : ts[i]? with
  | none =>
    rw [e] at hx
    cases hx
  | some t =>
    rw [e] at hx
    have il : i < es.length := by
      have := (List.getElem?_eq_some_iff.mp e).1
      omega
    exact ⟨t, es[i], List.getElem?_eq_getElem il, rfl, (Option.some.inj hx).symm, ht i t _ e (List.getElem?_eq_getElem il)⟩
/-- a step by its number -/
def stt (fr : List T3) (n : Int) : T3 := fr.getD n.toNat (0, "", 0)
/-- the standings behind some entries -/
def plc (fr : List T3) (es : List E2) : List Int := es.foldl (fun pl e => pl.set e.1.toNat (stt fr e.2).2.2) (List.replicate 8 0)
/-- an entry by itself -/
def Ent (fr : List T3) (e : E2) : Prop := 0 ≤ e.1 ∧ e.1 < 8 ∧ 0 ≤ e.2 ∧ e.2 < fr.length
structure Wv (fr : List T3) (es : List E2) : Prop where
  l : es.length ≤ 60
  ent : ∀ e ∈ es, Ent fr e
  go : ∀ (i : Nat) e, es[i]? = some e → (plc fr (es.take i))[e.1.toNat]? = some (stt fr e.2).1
theorem plc_snoc {fr : List T3} {es : List E2} {e : E2} : plc fr (es ++ [e]) = (plc fr es).set e.1.toNat (stt fr e.2).2.2 := by
  unfold plc
  rw [List.foldl_append]
  rfl
theorem plc_len {fr : List T3} : ∀ {es : List E2}, (plc fr es).length = 8 := by
  have z : ∀ (es : List E2) (pl : List Int), (es.foldl (fun pl e => pl.set e.1.toNat (stt fr e.2).2.2) pl).length = pl.length := by
    intro es
    induction es with
    | nil => exact fun pl => rfl
    | cons e es ih =>
      intro pl
      rw [List.foldl_cons, ih, List.length_set]
  intro es
  unfold plc
  rw [z, List.length_replicate]
theorem take_one {α : Type} {es : List α} {i : Nat} {e : α} (h : es[i]? = some e) : es.take (i + 1) = es.take i ++ [e] := by
  have il := (List.getElem?_eq_some_iff.mp h).1
  rw [List.take_succ, h]
  rfl
/-- framing[n] -/
theorem stt_at {H : Hp} {f : Addr} {fr : List T3} {n : Int} (fa : FrA H f fr) (h0 : 0 ≤ n) (h1 : n < fr.length) : ∃ (ts : List Addr) (t : Addr), H f = some (.tup (ts.map V.ref)) ∧ atI (ts.map V.ref) n = some (.ref t) ∧ S3 H t (stt fr n) ∧ stt fr n ∈ fr := by
  obtain ⟨ts, hf, hl, ht⟩ := fa
  obtain ⟨k, rfl⟩ := Int.eq_ofNat_of_zero_le h0
  have kl : k < fr.length := by omega
  have kt : k < ts.length := by omega
  have e : stt fr (k : Int) = fr[k] := by
    unfold stt
    rw [List.getD_eq_getElem?_getD]
    simp [kl]
  refine ⟨ts, ts[k], hf, atI_nat ?_, ?_, ?_⟩
  · rw [List.getElem?_map, List.getElem?_eq_getElem kt]
    rfl
  · rw [e]
    exact ht k _ _ (List.getElem?_eq_getElem kt) (List.getElem?_eq_getElem kl)
  · rw [e]
    exact List.getElem_mem kl
def spEntry : Sp := fun vs H Q _ => ∃ (f t : Addr) (fr : List T3) (e : E2), vs = [.ref f, .ref t, .int 8] ∧ FrA H f fr ∧ A2 H t e ∧ Ent fr e ∧ Q (.bl true) H
def spWrong : Sp := fun vs H Q _ => ∃ (f w : Addr) (fr : List T3) (es : List E2), vs = [.ref f, .ref w, .int 0] ∧ FrA H f fr ∧ WvA H w es ∧ Wv fr es ∧ ∀ H', Same H H' → Q .non H'
def spNeedW : Sp := fun vs H Q _ => ∃ (f w : Addr) (fr : List T3) (last : Nat) (es : List E2), vs = [.ref f, .ref w] ∧ FrA H f fr ∧ Frm fr last ∧ WvA H w es ∧ Wv fr es ∧ ∀ H', Same H H' → Q (.ref w) H'
structure Ws (K : PySem.W.Frag) (mg : Str → Option Value) where
  Z : Fs K mg
  fE : Addr
  fR : Addr
  fW : Addr
  dE : FuncData
  dR : FuncData
  dW : FuncData
  E : Fun K "is_entry" "is_entry" sEntry fE dE
  R : Fun K "first_wrong" "first_wrong" sWrong fR dR
  W : Fun K "need_weaving" "need_weaving" sNeedW fW dW
  bE : Binds K dE ["framing", "thing", "many"] []
  bR : Binds K dR ["framing", "things", "begin"] []
  bW : Binds K dW ["framing", "thing"] []
  mE : mg "is_entry" = some (.ref fE)
  mR : mg "first_wrong" = some (.ref fR)
  mW : mg "need_weaving" = some (.ref fW)
  marks : ∃ t, mg "MARKS" = some (.str "ABCDEFGH" t)
  most : ∃ t, mg "MOST_ENTRIES" = some (.int 200 t)
section
variable {P : Program} {w : World} {K : PySem.W.Frag} {mg : Str → Option Value} {base : Heap}
theorem scEntry : FnScope ["framing", "thing", "many"] ["framing", "thing", "many"] (defScope sEntry) := ⟨rfl, rfl, rfl, by decide +kernel, rfl, by decide +kernel, by decide +kernel⟩
theorem ok_entry (Y : Ws K mg) : FnOk P w K mg base CX0 2 Y.fE Y.dE ["framing", "thing", "many"] spEntry := by
  have GN : FnOk P w K mg base CX0 1 Y.Z.fN Y.Z.dN ["thing", "many"] spNum := ok_num Y.Z.N Y.Z.T
  refine Y.E.ok scEntry (fun vs H Q E h => ?_) (fun cdv A outer s H vs Q E hr h => ?_)
  · obtain ⟨f, t, fr, e, rfl, _⟩ := h
    rfl
  · obtain ⟨f, t, fr, e, rfl, fa, ha, ⟨e0, e1, e2, e3⟩, q⟩ := h
    obtain ⟨tm, eM⟩ := Y.marks
    refine ⟨_, pss_cons (ps_if (pw_or (pt_not (pt_val (pe_callB call_isi (by rfl) Y.Z.T.isi PyProof.Rows.boot_isinstance (pa_cons (pv 1) (pa_cons (pe_bltn (v := .ty "tuple") (by rfl) Y.Z.T.tuple (by decide +kernel) rfl) pa_nil)))))
        (pw_or1 (pt_cmpR op_ne (pe_callB call_len_seq (by rfl) Y.Z.T.len PySem.boot_len (pa_cons (pv 1) pa_nil)) pe_int (nomark _)))).pt
        (pss_one (ps_ret pe_bl)) pss_nil)
      (pss_one (ps_ret (pe_and (pe_call GN hr (by rfl) Y.Z.mN Y.Z.N.kp Y.Z.bN .nil pass0 (pa_cons (pe_ix ix_tup (pv 1) pe_int (fun _ _ => rfl)) (pa_cons (pv 2) pa_nil)))
        (pe_one (pe_call GN hr (by rfl) Y.Z.mN Y.Z.N.kp Y.Z.bN .nil pass0 (pa_cons (pe_ix ix_tup (pv 1) pe_int (fun _ _ => rfl)) (pa_cons (pe_callB call_len_seq (by rfl) Y.Z.T.len PySem.boot_len (pa_cons (pv 0) pa_nil)) pa_nil))))))), ?_⟩
    obtain ⟨ts, hf, hl, ht⟩ := id fa
    refine ⟨_, rfl, .ref t, .ty "tuple", .type "tuple", .type "tuple", true, rfl, .ty "tuple", .base (.tup ha), kit_ty (by decide +kernel), true, rfl, iteF ?_⟩
    refine ⟨_, rfl, t, _, rfl, .inr (SqT.of ha), rfl, _, rfl, iteF ?_⟩
    refine ⟨_, rfl, t, _, 0, _, rfl, rfl, SqT.of ha, atI_nat (j := 0) rfl, _, rfl, e.1, 8, rfl, true, ?_, iteT ?_⟩
    · rw [decide_eq_true e0, decide_eq_true e1]
      rfl
    refine ⟨_, rfl, t, _, 1, _, rfl, rfl, SqT.of ha, atI_nat (j := 1) rfl, _, rfl, f, _, rfl, .inr (SqT.of hf), e.2, _, rfl, ?_⟩
    rw [decide_eq_true e2, decide_eq_true (by simp [hl]; omega)]
    exact q
theorem scWrong : FnScope ["framing", "things", "begin", "mark", "places", "number", "thing", "writer", "step", "start", "piece", "goal"] ["framing", "things", "begin"] (defScope sWrong) := ⟨rfl, rfl, rfl, by decide +kernel, rfl, by decide +kernel, by decide +kernel⟩
theorem ok_wrong (Y : Ws K mg) : FnOk P w K mg base CX0 3 Y.fR Y.dR ["framing", "things", "begin"] spWrong := by
  have GE : FnOk P w K mg base CX0 2 Y.fE Y.dE ["framing", "thing", "many"] spEntry := ok_entry Y
  refine Y.R.ok scWrong (fun vs H Q E h => ?_) (fun cdv A outer s H vs Q E hr h => ?_)
  · obtain ⟨f, t, fr, e, rfl, _⟩ := h
    rfl
  · obtain ⟨f, wv, fr, es, rfl, fa, wa, wo, q⟩ := h
    obtain ⟨tm, eM⟩ := Y.marks
    refine ⟨_, pss_cons (ps_setLc (i := 4) (y := "places") (own := [("mark", 3)]) (g := gName 3) (te := tVar 2) rfl scWrong.nd rfl rfl (by rfl) (pi_str (pe_glob (v := .str "ABCDEFGH") (by rfl) eM ⟨_, rfl⟩))
        (blkOk_by (N := ["framing", "things", "begin", "mark", "places", "number", "thing", "writer", "step", "start", "piece", "goal"]) (sc := defScope sWrong) (by decide +kernel))
        (fun _ _ _ _ _ => pg_name (i := 3) scWrong.nd rfl (Or.inl rfl)) (fun _ _ _ _ _ => pts_nil) (fun _ _ _ _ _ => pv 2))
      (pss_cons (ps_for PassesOwn.never rfl (pi_enumT (by rfl) Y.Z.en (pa_cons (pv 1) pa_nil)) (pg_tup rfl (pgs_cons (pg_name (i := 5) scWrong.nd rfl (Or.inl rfl)) (pgs_cons (pg_name (i := 6) scWrong.nd rfl (Or.inl rfl)) pgs_nil)))
        (pss_cons (ps_if (pt_not (pt_val (pe_call GE hr (by rfl) Y.mE Y.E.kp Y.bE .nil pass0 (pa_cons (pv 0) (pa_cons (pv 6) (pa_cons (pe_callB call_len_str (by rfl) Y.Z.T.len PySem.boot_len (pa_cons (pe_glob (v := .str "ABCDEFGH") (by rfl) eM ⟨_, rfl⟩) pa_nil)) pa_nil)))))) (pss_one (ps_ret (pv 5))) pss_nil)
        (pss_cons (ps_asg (pv 6) (pg_tup rfl (pgs_cons (pg_name (i := 7) scWrong.nd rfl (Or.inl rfl)) (pgs_cons (pg_name (i := 8) scWrong.nd rfl (Or.inl rfl)) pgs_nil))))
        (pss_cons (ps_asg (pe_ix ix_tup (pv 0) (pv 8) (fun _ _ => rfl)) (pg_tup rfl (pgs_cons (pg_name (i := 9) scWrong.nd rfl (Or.inl rfl)) (pgs_cons (pg_name (i := 10) scWrong.nd rfl (Or.inl rfl)) (pgs_cons (pg_name (i := 11) scWrong.nd rfl (Or.inl rfl)) pgs_nil)))))
        (pss_cons (ps_if (pw_and (pt_cmpR op_notN (pe_ix ix_list (pv 4) (pv 7) (fun _ _ => rfl)) pe_non (nomark _)) (pw_and1 (pt_cmpR op_ne (pe_ix ix_list (pv 4) (pv 7) (fun _ _ => rfl)) (pv 9) (nomark _)))).pt (pss_one (ps_ret (pv 5))) pss_nil)
        (pss_one (ps_asg (pv 11) (pg_sub (pv 4) (pv 7) set_list))))))))
      (pss_one (ps_ret pe_non))), ?_⟩
    obtain ⟨tw, hw, wl, wt⟩ := id wa
    refine ⟨_, rfl, fun D hD => ?_⟩
    refine lc_it walk_str (fun i H' => H' D = some (.lst ((List.replicate i (0 : Int)).map V.int)) ∧ ∀ b o, H b = some o → H' b = some o) ⟨upd_same, fun b o z => same_upd hD b o z⟩ (fun _ _ _ _ => trivial) ?_ ?_
    · rintro i x H1 H2 hi ⟨hl, kp⟩ ⟨rfl, c, hc, rfl⟩
      refine ⟨rfl, ⟨_, rfl, _, hl, ?_, ?_, fun b o z => ?_⟩⟩
      · have h8 : i < 8 := hi
        rw [List.length_map, List.length_replicate, sizeLine_eq]
        omega
      · rw [List.replicate_succ', List.map_append]
        exact upd_same
      · rw [upd_ne (ne_of_none z hD)]
        exact kp b o z
    · rintro H1 ⟨hl, kp⟩
      refine ⟨_, rfl, wv, _, rfl, SqT.of (kp _ _ hw), for_it (walk_enumT (xs := tw.map V.ref)) (fun i σ H' => ∃ v5 v6 v7 v8 v9 v10 v11 : Option V, σ = [some (.ref f), some (.ref wv), some (.int 0), none, some (.ref D), v5, v6, v7, v8, v9, v10, v11] ∧ Same H H' ∧ H' D = some (.lst ((plc fr (es.take i)).map V.int)))
        ⟨none, none, none, none, none, none, none, rfl, kp, hl⟩ (fun i σ H' _ ⟨_, _, _, _, _, _, _, _, z, _⟩ => SqT.of (z _ _ hw)) ?_ ?_⟩
      · rintro i x σ H2 H3 hi ⟨v5, v6, v7, v8, v9, v10, v11, rfl, s2, d2⟩ ⟨T, xi, xo, rfl, nT, rfl, h1, h2⟩
        cases h1
        obtain ⟨t, e, he, _, rfl, e4⟩ := at_ent (i := i) wl wt h2
        have uT := same_upd (o := HO.tup [V.int (i : Nat), V.ref t]) nT
        have s3 := s2.trans uT
        have d3 := uT _ _ d2
        have ent := wo.ent e (List.mem_of_getElem? he)
        obtain ⟨e0, e1, n0, n1⟩ := id ent
        obtain ⟨ts, t2, hf, ha, h3, _⟩ := stt_at (fa.same s3) n0 n1
        have pw : atI ((plc fr (es.take i)).map V.int) e.1 = some (V.int (stt fr e.2).1) := by
          obtain ⟨k, hk⟩ := Int.eq_ofNat_of_zero_le e0
          have g := wo.go i e he
          rw [hk] at g ⊢
          refine atI_nat ?_
          rw [List.getElem?_map]
          have g' : (plc fr (es.take i))[k]? = some (stt fr e.2).1 := g
          rw [g']
          rfl
        refine ⟨T, _, rfl, SqT.of upd_same, rfl, _, _, rfl, _, _, rfl, rfl, ?_⟩
        refine ⟨_, rfl, _, rfl, _, rfl, (by decide +kernel), f, t, fr, e, rfl, fa.same s3, s3 _ _ e4, ent, _, rfl, iteF ?_⟩
        refine ⟨_, rfl, t, _, rfl, SqT.of (s3 _ _ e4), rfl, _, _, rfl, _, _, rfl, rfl, ?_⟩
        refine ⟨_, rfl, _, rfl, f, _, e.2, .ref t2, rfl, rfl, SqT.of hf, ha, t2, _, rfl, SqT.of h3, rfl, _, _, rfl, _, _, rfl, _, _, rfl, rfl, ?_⟩
        refine ⟨_, rfl, _, rfl, D, _, e.1, _, rfl, rfl, SqL.of d3, pw, rfl, _, rfl, iteT' (by simp) ?_⟩
        refine ⟨_, rfl, _, rfl, D, _, e.1, _, rfl, rfl, SqL.of d3, pw, _, rfl, rfl, _, rfl, iteF' (by simp) ?_⟩
        refine ⟨_, rfl, _, rfl, _, rfl, D, _, e.1, e.1.toNat, rfl, rfl, d3, ?_, ?_⟩
        · rw [List.length_map, plc_len]
          unfold ixN
          rw [if_pos e0, if_pos (by omega)]
        · refine ⟨_, _, _, _, _, _, _, rfl, same_set hD s3, ?_⟩
          rw [take_one he, plc_snoc, List.map_set]
          exact upd_same
      · rintro σ H2 ⟨v5, v6, v7, v8, v9, v10, v11, rfl, s2, d2⟩
        exact q H2 s2
theorem scNeedW : FnScope ["framing", "thing", "number"] ["framing", "thing"] (defScope sNeedW) := ⟨rfl, rfl, rfl, by decide +kernel, rfl, by decide +kernel, by decide +kernel⟩
theorem ok_needW (Y : Ws K mg) : FnOk P w K mg base CX0 4 Y.fW Y.dW ["framing", "thing"] spNeedW := by
  have GF : FnOk P w K mg base CX0 3 Y.Z.fF Y.Z.dF ["thing"] spNeedF := ok_needF Y.Z
  have GR : FnOk P w K mg base CX0 3 Y.fR Y.dR ["framing", "things", "begin"] spWrong := ok_wrong Y
  refine Y.W.ok scNeedW (fun vs H Q E h => ?_) (fun cdv A outer s H vs Q E hr h => ?_)
  · obtain ⟨f, t, fr, l, e, rfl, _⟩ := h
    rfl
  · obtain ⟨f, wv, fr, last, es, rfl, fa, fm, wa, wo, q⟩ := h
    obtain ⟨tm, eM⟩ := Y.most
    refine ⟨_, pss_cons (ps_expr (pe_call GF hr (by rfl) Y.Z.mF Y.Z.F.kp Y.Z.bF .nil pass0 (pa_cons (pv 0) pa_nil)))
      (pss_cons (ps_if (pw_or (pt_not (pt_val (pe_callB call_isi (by rfl) Y.Z.T.isi PyProof.Rows.boot_isinstance (pa_cons (pv 1) (pa_cons (pe_bltn (v := .ty "tuple") (by rfl) Y.Z.T.tuple (by decide +kernel) rfl) pa_nil)))))
        (pw_or1 (pt_cmpR op_gt (pe_callB call_len_seq (by rfl) Y.Z.T.len PySem.boot_len (pa_cons (pv 1) pa_nil)) (pe_glob (v := .int 200) (by rfl) eM ⟨_, rfl⟩) (nomark _)))).pt
        (pss_one ps_never) pss_nil)
      (pss_cons (ps_set (i := 2) scNeedW.nd rfl (Or.inl rfl) (pe_call GR hr (by rfl) Y.mR Y.R.kp Y.bR .nil pass0 (pa_cons (pv 0) (pa_cons (pv 1) (pa_cons pe_int pa_nil)))))
      (pss_cons (ps_if (pt_cmpR op_notN (pv 2) pe_non (nomark _)) (pss_one ps_never) pss_nil)
      (pss_one (ps_ret (pv 1)))))), ?_⟩
    obtain ⟨tw, hw, wl, wt⟩ := id wa
    have l60 := wo.l
    refine ⟨_, rfl, f, fr, last, rfl, fa, fm, fun H1 s1 => ?_⟩
    refine ⟨_, rfl, .ref wv, .ty "tuple", .type "tuple", .type "tuple", true, rfl, .ty "tuple", .base (.tup (s1 _ _ hw)), kit_ty (by decide +kernel), true, rfl, iteF ?_⟩
    refine ⟨_, rfl, wv, _, rfl, .inr (SqT.of (s1 _ _ hw)), _, 200, rfl, rfl, _, rfl, iteF' (decide_eq_false (by simp; omega)) ?_⟩
    refine ⟨_, rfl, _, rfl, f, wv, fr, es, rfl, fa.same s1, wa.same s1, wo, fun H2 s2 => ?_⟩
    refine ⟨_, rfl, rfl, _, rfl, iteF' (by simp) ⟨_, rfl, q H2 (s1.trans s2)⟩⟩
end
end K39

set_option Elab.async false
set_option linter.all false
set_option maxRecDepth 100000
set_option maxHeartbeats 4000000
/-! Drawn pieces. -/
namespace K39
open PySem L2 L2.EV
abbrev sPiece : Stmt := top 46
/-- the draws have gone on from H0, where they were at k0 with the list l0: all other things are as they were -/
structure Dr (H0 H : Hp) (m c l0 l : Addr) (k : Int) : Prop where
  at_ : MAt H m c l k
  hl : l = l0 ∨ H0 l = none
  kp : ∀ b o, H0 b = some o → b ≠ m → b ≠ l0 → H b = some o
theorem Dr.refl {H : Hp} {m c l : Addr} {k : Int} (M : MAt H m c l k) : Dr H H m c l l k := ⟨M, .inl rfl, fun b o e _ _ => e⟩
theorem Dr.same {H0 H H' : Hp} {m c l0 l : Addr} {k : Int} (d : Dr H0 H m c l0 l k) (s : Same H H') : Dr H0 H' m c l0 l k :=
  ⟨d.at_.same s, d.hl, fun b o e h1 h2 => s _ _ (d.kp b o e h1 h2)⟩
/-- one part behind another -/
theorem Dr.trans {H0 H H' : Hp} {m c l0 l l' : Addr} {k k' : Int} (d : Dr H0 H m c l0 l k) (e : Dr H H' m c l l' k') : Dr H0 H' m c l0 l' k' := by
  refine ⟨e.at_, ?_, fun b o e1 h1 h2 => e.kp b o (d.kp b o e1 h1 h2) h1 ?_⟩
  · rcases e.hl with h | h
    · rw [h]
      exact d.hl
    · by_cases z : l' = l0
      · exact .inl z
      · refine .inr ?_
        cases q : H0 l' with
        | none => rfl
        | some o =>
          have ne : l' ≠ m := (ne_of_none d.at_.hm h).symm
          rw [d.kp l' o q ne z] at h
          cases h
  · rcases d.hl with hl | hl
    · rw [hl]
      exact h2
    · exact ne_of_none e1 hl
/-- a thing of another kind than the draws' own stays -/
theorem Dr.tup {H0 H : Hp} {m c l0 l : Addr} {k k0 : Int} {a : Addr} {xs : List V} (d : Dr H0 H m c l0 l k) (M : MAt H0 m c l0 k0) (e : H0 a = some (.tup xs)) : H a = some (.tup xs) := by
  obtain ⟨ls, hl, _⟩ := M.hl
  exact d.kp a _ e (ne_of e M.hm (fun z => by cases z)) (ne_of e hl (fun z => by cases z))
theorem Dr.fr {H0 H : Hp} {m c l0 l : Addr} {k k0 : Int} {f : Addr} {fr : List T3} (d : Dr H0 H m c l0 l k) (M : MAt H0 m c l0 k0) (h : FrA H0 f fr) : FrA H f fr := by
  obtain ⟨ts, e, l, cc⟩ := h
  exact ⟨ts, d.tup M e, l, fun i t x h1 h2 => d.tup M (cc i t x h1 h2)⟩
/-- another list stays, and is none of the draws' own -/
theorem Dr.lst {H H' : Hp} {m c l l' : Addr} {k k0 : Int} {a : Addr} {xs : List V} (d : Dr H H' m c l l' k) (M : MAt H m c l k0) (e : H a = some (.lst xs)) (ne : a ≠ l) : H' a = some (.lst xs) ∧ a ≠ l' := by
  refine ⟨d.kp a _ e (ne_of e M.hm (fun z => by cases z)) ne, ?_⟩
  rcases d.hl with z | z
  · rw [z]
    exact ne
  · exact ne_of_none e z
/-- a draw, as spNext wants it -/
theorem dr_next {H : Hp} {m c l : Addr} {k n : Int} {Q : VK} {E : XK} (M : MAt H m c l k) (hn : 0 < n) (hn1 : n < 1606938044258990275541962092341162602522202993782792835301376) (hk : k < 900000)
    (q : ∀ (r : Int) (H' : Hp) (l' : Addr) (k' : Int), 0 ≤ r → r < n → k' ≤ k + 1 → Dr H H' m c l l' k' → Q (.int r) H') : spNext [.ref m, .int n] H Q E :=
  ⟨m, c, l, k, n, rfl, M, hn, hn1, by omega, fun r H' l' k' r0 r1 kk M' fl kp => q r H' l' k' r0 r1 kk ⟨M', fl, kp⟩⟩
theorem MAt.l_some {H : Hp} {m c l : Addr} {k : Int} (M : MAt H m c l k) {a : Addr} (h : H a = none) : a ≠ l := by
  obtain ⟨ls, hl, _⟩ := M.hl
  exact (ne_of_none hl h).symm
theorem sl_app (a b : Str) : sl (a ++ b) = sl a ++ sl b := by
  show (Str.append a b).cps.toList = _
  simp [Str.append]
theorem sl_empty : sl ("" : Str) = [] := by decide +kernel
theorem sl_join : ∀ ys : List Str, sl (Str.join "" ys) = (ys.map sl).flatten
  | [] => rfl
  | [x] => by
    show sl x = _
    simp
  | x :: y :: r => by
    show sl (x ++ "" ++ Str.join "" (y :: r)) = _
    rw [sl_app, sl_app, sl_empty, sl_join (y :: r)]
    simp
theorem txt_join (ys : List Str) : sl (Txt.join "" ys) = (ys.map sl).flatten := by
  have z := PyProof.Rows.join_plain_closes "" ys
  rw [eq_of_beq z, sl_join]
theorem flat_one {ys : List Str} (h : ∀ y ∈ ys, ∃ c, y = ⟨#[c]⟩ ∧ c ∈ sgs) : (∀ c, c ∈ (ys.map sl).flatten → c ∈ sgs) ∧ ((ys.map sl).flatten).length = ys.length := by
  induction ys with
  | nil => exact ⟨fun c h => (by cases h), rfl⟩
  | cons y ys ih =>
    obtain ⟨c, e, hc⟩ := h y (List.mem_cons_self ..)
    have e2 : sl y = [c] := by rw [e]
    obtain ⟨h1, h2⟩ := ih fun y hy => h y (List.mem_cons_of_mem _ hy)
    rw [List.map_cons, List.flatten_cons, e2]
    refine ⟨fun d hd => ?_, ?_⟩
    · rcases List.mem_append.mp hd with hd | hd
      · have e : d = c := by simpa using hd
        rw [e]
        exact hc
      · exact h1 d hd
    · rw [List.length_append, h2, List.length_cons, List.length_cons, List.length_nil]
      omega
/-- the five lists of signs -/
def fives : List Str := ["ab", "ab", "abc@", "@", "xyz019@"]
theorem five_ok : ∀ x ∈ fives, 1 ≤ x.length ∧ x.length ≤ 7 ∧ ∀ c ∈ sl x, c ∈ sgs := by decide +kernel
theorem MAt.upd {H : Hp} {m c l D : Addr} {k : Int} {o : HO} (M : MAt H m c l k) (hm : D ≠ m) (hc : D ≠ c) (hl : D ≠ l) : MAt (L2.upd H D o) m c l k := by
  obtain ⟨h1, ⟨cs, h2, h3⟩, ⟨ls0, h4, h5⟩, h6, h7, h8⟩ := M
  exact ⟨by rw [upd_ne hm.symm]; exact h1, ⟨cs, by rw [upd_ne hc.symm]; exact h2, h3⟩, ⟨ls0, by rw [upd_ne hl.symm]; exact h4, h5⟩, h6, h7, h8⟩
theorem MAt.c_some {H : Hp} {m c l : Addr} {k : Int} (M : MAt H m c l k) {a : Addr} (h : H a = none) : a ≠ c := by
  obtain ⟨ls, hl, _⟩ := M.hc
  exact (ne_of_none hl h).symm
def spPiece : Sp := fun vs H Q _ => ∃ (m c l : Addr) (k : Int) (last : Bool), vs = [.ref m, .bl last] ∧ MAt H m c l k ∧ k < 800000 ∧
  ∀ (p : Str) (H' : Hp) (l' : Addr) (k' : Int), Pc p last → k' ≤ k + 20 → Dr H H' m c l l' k' → Q (.str p) H'
section
variable {P : Program} {w : World} {K : PySem.W.Frag} {mg : Str → Option Value} {base : Heap}
structure Ls (K : PySem.W.Frag) (mg : Str → Option Value) where
  f1 : Addr
  d1 : FuncData
  N : Fun K "_law_next" "_law_next" sNext f1 d1
  bN : Binds K d1 ["m", "total"] []
  mN : mg "_law_next" = some (.ref f1)
  T : TxtD mg
  ra : mg "range" = none
  f2 : Addr
  d2 : FuncData
  P : Fun K "_law_piece" "_law_piece" sPiece f2 d2
  bP : Binds K d2 ["m", "last"] []
  mP : mg "_law_piece" = some (.ref f2)
theorem scPiece : FnScope ["m", "last", "total", "signs", "k", "body"] ["m", "last"] (defScope sPiece) := ⟨rfl, rfl, rfl, by decide +kernel, rfl, by decide +kernel, by decide +kernel⟩
theorem ok_piece (L : Ls K mg) : FnOk P w K mg base CX0 2 L.f2 L.d2 ["m", "last"] spPiece := by
  have GX : FnOk P w K mg base CX0 1 L.f1 L.d1 ["m", "total"] spNext := ok_next L.N L.T
  refine L.P.ok scPiece (fun vs H Q E h => ?_) (fun cdv A outer s H vs Q E hr h => ?_)
  · obtain ⟨m, c, l, k, last, rfl, _⟩ := h
    rfl
  · obtain ⟨m, c, l, k, last, rfl, M, hk, q⟩ := h
    refine ⟨_, pss_cons (ps_set (i := 2) scPiece.nd rfl (Or.inl rfl) (pe_ix ix_list (pe_lst (pa_cons pe_int (pa_cons pe_int (pa_cons pe_int (pa_cons pe_int (pa_cons pe_int (pa_cons (pe_op op_add pe_int (pe_call GX hr (by rfl) L.mN L.N.kp L.bN .nil pass0 (pa_cons (pv 0) (pa_cons pe_int pa_nil)))) pa_nil)))))))
        (pe_call GX hr (by rfl) L.mN L.N.kp L.bN .nil pass0 (pa_cons (pv 0) (pa_cons pe_int pa_nil))) (fun _ _ => rfl)))
      (pss_cons (ps_set (i := 3) scPiece.nd rfl (Or.inr rfl) (pe_ix ix_list (pe_lst (pa_cons pe_str (pa_cons pe_str (pa_cons pe_str (pa_cons pe_str (pa_cons pe_str pa_nil)))))) (pe_call GX hr (by rfl) L.mN L.N.kp L.bN .nil pass0 (pa_cons (pv 0) (pa_cons pe_int pa_nil))) (fun _ _ => rfl)))
      (pss_cons (ps_set (i := 5) scPiece.nd rfl (Or.inl rfl) (pe_m1 PySem.F.slot_str_join PySem.F.type_str_join mt_join pe_str (pe_lc (own := [("k", 4)]) (g := gName 4) rfl scPiece.nd (pi_range1 (by rfl) L.ra (pa_cons (pv 2) pa_nil))
        (blkOk_by (N := ["m", "last", "total", "signs", "k", "body"]) (sc := defScope sPiece) (by decide +kernel))
        (fun _ _ _ _ _ => pg_name (i := 4) scPiece.nd rfl (Or.inl rfl)) (fun _ _ _ _ _ => pts_nil)
        (fun _ _ _ _ _ => pe_ix ix_str (pv 3) (pe_call GX hr (by rfl) L.mN L.N.kp L.bN .nil pass0 (pa_cons (pv 0) (pa_cons (pe_callB call_len_str (by rfl) L.T.len PySem.boot_len (pa_cons (pv 3) pa_nil)) pa_nil))) (fun _ _ => rfl)))))
      (pss_cons (ps_if (pt_val (pv 1)) (pss_one (ps_ret (pe_op op_add_str (pe_ix ix_list (pe_lst (pa_cons (pv 5) (pa_cons (pv 5) (pa_cons pe_str pa_nil)))) (pe_call GX hr (by rfl) L.mN L.N.kp L.bN .nil pass0 (pa_cons (pv 0) (pa_cons pe_int pa_nil))) (fun _ _ => rfl)) pe_str))) pss_nil)
      (pss_one (ps_ret (pv 5)))))), ?_⟩
    refine ⟨_, rfl, m, c, l, k, 7, rfl, M, by decide, by decide, by omega, fun r1 H1 l1 k1 a1 b1 g1 N1 f1 q1 => ?_⟩
    have d1 : Dr H H1 m c l l1 k1 := ⟨N1, f1, q1⟩
    refine ⟨1, r1, rfl, rfl, (by show 6 ≤ sizeLine; decide), fun p1 hp1 => ?_⟩
    have M1 := d1.at_.same (same_upd (o := HO.lst [V.int 1, V.int 1, V.int 1, V.int 2, V.int 2, V.int (1 + r1)]) hp1)
    have D1 := d1.same (same_upd (o := HO.lst [V.int 1, V.int 1, V.int 1, V.int 2, V.int 2, V.int (1 + r1)]) hp1)
    refine ⟨_, rfl, m, c, l1, k1, 6, rfl, M1, by decide, by decide, by omega, fun r2 H2 l2 k2 a2 b2 g2 N2 f2 q2 => ?_⟩
    have d2 : Dr _ H2 m c l1 l2 k2 := ⟨N2, f2, q2⟩
    obtain ⟨e2, _⟩ := d2.lst M1 upd_same (d1.at_.l_some hp1)
    have D2 := D1.trans d2
    obtain ⟨T, hT, t1, t7⟩ : ∃ T : Int, atI [V.int 1, V.int 1, V.int 1, V.int 2, V.int 2, V.int (1 + r1)] r2 = some (.int T) ∧ 1 ≤ T ∧ T ≤ 7 := by
      obtain ⟨j, rfl⟩ := Int.eq_ofNat_of_zero_le a2
      have hj : j < 6 := by omega
      match j, hj with
      | 0, _ => exact ⟨1, atI_nat (j := 0) rfl, by decide, by decide⟩
      | 1, _ => exact ⟨1, atI_nat (j := 1) rfl, by decide, by decide⟩
      | 2, _ => exact ⟨1, atI_nat (j := 2) rfl, by decide, by decide⟩
      | 3, _ => exact ⟨2, atI_nat (j := 3) rfl, by decide, by decide⟩
      | 4, _ => exact ⟨2, atI_nat (j := 4) rfl, by decide, by decide⟩
      | 5, _ => exact ⟨1 + r1, atI_nat (j := 5) rfl, by omega, by omega⟩
    refine ⟨p1, _, r2, .int T, rfl, rfl, SqL.of e2, hT, ?_⟩
    refine ⟨(by show 5 ≤ sizeLine; decide), fun p3 hp3 => ?_⟩
    have u3 := same_upd (o := HO.lst (fives.map V.str)) hp3
    have M3 := d2.at_.same u3
    refine ⟨_, rfl, m, c, l2, k2, 5, rfl, M3, by decide, by decide, by omega, fun r3 H3 l3 k3 a3 b3 g3 N3 f3 q3 => ?_⟩
    have d3 : Dr _ H3 m c l2 l3 k3 := ⟨N3, f3, q3⟩
    obtain ⟨e3, _⟩ := d3.lst M3 upd_same (d2.at_.l_some hp3)
    have D3 := (D2.same u3).trans d3
    obtain ⟨sg, hsg, hm⟩ : ∃ sg : Str, atI (fives.map V.str) r3 = some (.str sg) ∧ sg ∈ fives := by
      obtain ⟨j, rfl⟩ := Int.eq_ofNat_of_zero_le a3
      have hj : j < fives.length := by show j < 5; omega
      refine ⟨fives[j], atI_nat ?_, List.getElem_mem hj⟩
      rw [List.getElem?_map, List.getElem?_eq_getElem hj]
      rfl
    obtain ⟨z1, z7, zs⟩ := five_ok sg hm
    refine ⟨p3, _, r3, .str sg, rfl, rfl, SqL.of e3, hsg, ?_⟩
    refine ⟨⟨_, rfl⟩, _, rfl, T, rfl, by omega, by omega, fun D hD => ?_⟩
    have D4 := D3.same (same_upd (o := HO.lst []) hD)
    have nD := D3.at_.l_some hD
    have hD0 : H D = none ∨ True := .inr trivial
    refine lc_it walk_range (fun i H' => ∃ (ys : List Str) (l' : Addr) (k' : Int), H' D = some (.lst (ys.map V.str)) ∧ D ≠ l' ∧ ys.length = i ∧ (∀ y ∈ ys, ∃ c, y = ⟨#[c]⟩ ∧ c ∈ sgs) ∧ k' ≤ k3 + i ∧ MAt H' m c l' k' ∧ (l' = l ∨ H l' = none) ∧ ∀ b o, H b = some o → b ≠ m → b ≠ l → H' b = some o)
      ⟨[], l3, k3, upd_same, nD, rfl, (fun y h => by cases h), by omega, D4.at_, D4.hl, D4.kp⟩ (fun _ _ _ _ => trivial) ?_ ?_
    · rintro i x H4 H5 hi ⟨ys, l4, k4, hl, nl, ly, hy, kk, M4, f4, q4⟩ ⟨rfl, rfl⟩
      have d0 : Dr H H5 m c l l4 k4 := ⟨M4, f4, q4⟩
      have hi7 : i < 7 := by omega
      refine ⟨rfl, _, rfl, _, rfl, _, rfl, sg, rfl, by rw [sizeLine_eq]; omega, m, c, l4, k4, _, rfl, M4, by omega, by omega, by omega, fun r5 H6 l6 k6 a6 b6 g6 N6 f6 q6 => ?_⟩
      have d6 : Dr H5 H6 m c l4 l6 k6 := ⟨N6, f6, q6⟩
      obtain ⟨e6, n6⟩ := d6.lst M4 hl nl
      obtain ⟨j, rfl⟩ := Int.eq_ofNat_of_zero_le a6
      have js : j < (sl sg).length := by rw [← len_sl]; omega
      refine ⟨sg, (j : Int), (sl sg)[j], rfl, rfl, by rw [sizeLine_eq]; omega, atI_nat (List.getElem?_eq_getElem js), _, e6, ?_, ?_⟩
      · rw [List.length_map, ly, sizeLine_eq]
        omega
      · have dk := d0.trans d6
        have hDm : D ≠ m := ne_of e6 N6.hm (fun z => by cases z)
        refine ⟨ys ++ [⟨#[(sl sg)[j]]⟩], l6, k6, ?_, n6, by rw [List.length_append, ly]; rfl, fun y h => ?_, by omega, ?_, dk.hl, fun b o z h1 h2 => ?_⟩
        · rw [List.map_append]
          exact upd_same
        · rcases List.mem_append.mp h with h | h
          · exact hy y h
          · exact ⟨_, by simpa using h, zs _ (List.getElem_mem js)⟩
        · exact N6.upd hDm (D3.at_.c_some hD) n6
        · rw [upd_ne (ne_of_none (D3.kp b o z h1 h2) hD)]
          exact dk.kp b o z h1 h2
    · rintro H4 ⟨ys, l4, k4, hl, nl, ly, hy, kk, M4, f4, q4⟩
      have d4 : Dr H H4 m c l l4 k4 := ⟨M4, f4, q4⟩
      obtain ⟨w1, w2⟩ := flat_one hy
      rw [← txt_join] at w1 w2
      have le : ∀ zs : List Str, (∀ y ∈ zs, ∃ c, y = ⟨#[c]⟩ ∧ c ∈ sgs) → (zs.map (·.length)).sum = zs.length := by
        intro zs
        induction zs with
        | nil => exact fun _ => rfl
        | cons y zs ih =>
          intro h
          obtain ⟨c, e, _⟩ := h y (List.mem_cons_self ..)
          have e2 : y.length = 1 := by rw [e]; rfl
          rw [List.map_cons, List.sum_cons, e2, ih fun y hy => h y (List.mem_cons_of_mem _ hy), List.length_cons]
          omega
      have z0 : ("" : Str).length = 0 := by decide +kernel
      refine ⟨"", D, ys, rfl, rfl, .inl (SqL.of hl), by rw [le ys hy, z0]; omega, ?_⟩
      generalize hbd : Txt.join "" ys = body at w1 w2 ⊢
      have pc0 : Pc body false := ⟨sl body, by rw [if_neg (by simp), List.append_nil], by rw [w2]; omega, w1, fun _ e => by rw [e] at w2; simp at w2; omega⟩
      have pc1 : ∀ b2 : Str, (b2 = body ∨ b2 = "") → Pc (b2 ++ ";") true := fun b2 h => by
        refine ⟨sl b2, by rw [sl_app, semi, if_pos rfl], ?_, ?_, fun e => by cases e⟩
        · rcases h with h | h
          · rw [h, w2]
            omega
          · rw [h, sl_empty]
            exact Nat.zero_le _
        · rcases h with h | h
          · rw [h]
            exact w1
          · rw [h, sl_empty]
            exact fun c h => by cases h
      refine ⟨_, rfl, _, rfl, ?_⟩
      cases last with
      | false =>
        refine iteF ⟨_, rfl, ?_⟩
        exact q body H4 l4 k4 pc0 (by omega) d4
      | true =>
        refine iteT ?_
        refine ⟨_, rfl, _, rfl, (by show 3 ≤ sizeLine; decide), fun p5 hp5 => ?_⟩
        have u5 := same_upd (o := HO.lst [V.str body, V.str body, V.str ""]) hp5
        have M5 := M4.same u5
        refine ⟨_, rfl, m, c, l4, k4, 3, rfl, M5, by decide, by decide, by omega, fun r7 H7 l7 k7 a7 b7 g7 N7 f7 q7 => ?_⟩
        have d7 : Dr _ H7 m c l4 l7 k7 := ⟨N7, f7, q7⟩
        obtain ⟨e7, _⟩ := d7.lst M5 upd_same (M4.l_some hp5)
        obtain ⟨b2, hb2, hor⟩ : ∃ b2 : Str, atI [V.str body, V.str body, V.str ""] r7 = some (.str b2) ∧ (b2 = body ∨ b2 = "") := by
          obtain ⟨j, rfl⟩ := Int.eq_ofNat_of_zero_le a7
          have hj : j < 3 := by omega
          match j, hj with
          | 0, _ => exact ⟨body, atI_nat (j := 0) rfl, .inl rfl⟩
          | 1, _ => exact ⟨body, atI_nat (j := 1) rfl, .inl rfl⟩
          | 2, _ => exact ⟨"", atI_nat (j := 2) rfl, .inr rfl⟩
        have pcz := pc1 b2 hor
        have lz := (pc_len pcz).2
        refine ⟨p5, _, r7, .str b2, rfl, rfl, SqL.of e7, hb2, b2, ";", rfl, rfl, ?_, ?_⟩
        · rw [semi1, sizeLine_eq, len_sl]
          rw [len_sl, sl_app, List.length_append] at lz
          omega
        · exact q (b2 ++ ";") H7 l7 k7 pcz (by omega) ((d4.same u5).trans d7)
end
end K39

set_option Elab.async false
set_option linter.all false
set_option maxRecDepth 100000
set_option maxHeartbeats 4000000
/-! Drawn framings. -/
namespace K39
open PySem L2 L2.EV
abbrev sFraming : Stmt := top 47
def d3 (x : T3) : PyData := .tuple [.int x.1, .str x.2.1, .int x.2.2]
theorem d3_eq (x y : T3) : PyData.eqv (d3 x) (d3 y) = decide (x = y) := by
  unfold d3
  simp only [PyData.eqv, PyData.eqvAll, Bool.and_true]
  by_cases e : x = y
  · subst e
    simp
  · rw [decide_eq_false e]
    cases h1 : (x.1 == y.1) with
    | false => rfl
    | true =>
      cases h2 : (x.2.1 == y.2.1) with
      | false => rfl
      | true =>
        cases h3 : (x.2.2 == y.2.2) with
        | false => rfl
        | true => exact absurd (Prod.ext (eq_of_beq h1) (Prod.ext (eq_of_beq h2) (eq_of_beq h3))) e
theorem sgs_low : ∀ c ∈ sgs, c < 0x110000 := by decide +kernel
theorem pc_ok {p : Str} {l : Bool} (h : Pc p l) : PyData.strOk p = true := by
  obtain ⟨b, e, _, hb, _⟩ := h
  unfold PyData.strOk
  rw [← Array.all_toList, show p.cps.toList = sl p from rfl, e, List.all_eq_true]
  intro c hc
  refine decide_eq_true ?_
  rcases List.mem_append.mp hc with hc | hc
  · exact sgs_low c (hb c hc)
  · cases l with
    | false => cases hc
    | true =>
      have z : c = 59 := by simpa using hc
      omega
theorem d3_lay {x : T3} (h : PyData.strOk x.2.1 = true) : PyData.canLay0 (d3 x) = true := by
  unfold d3
  simp only [PyData.canLay0, PyData.canLayAll0, Bool.and_true, Bool.and_self, h]
theorem d3_depth (x : T3) : (d3 x).depth ≤ 1 := by
  unfold d3
  simp only [PyData.depth, PyData.depthAll]
  omega
theorem d3_shaped {x : T3} (h : PyData.strOk x.2.1 = true) : SeqAt.shaped (d3 x) = true := by
  show (PyData.canLay0 (d3 x) && decide (PyData.depth (d3 x) ≤ 64)) = true
  rw [d3_lay h, decide_eq_true (Nat.le_trans (d3_depth x) (by decide))]
  rfl
theorem d3s_lay : ∀ xs : List T3, (∀ x ∈ xs, PyData.strOk x.2.1 = true) → PyData.canLayAll0 (xs.map d3) = true
  | [], _ => by simp [PyData.canLayAll0]
  | x :: xs, h => by
    rw [List.map_cons]
    simp only [PyData.canLayAll0, d3_lay (h x (List.mem_cons_self ..)), d3s_lay xs (fun y hy => h y (List.mem_cons_of_mem _ hy)), Bool.and_self]
theorem d3s_depth : ∀ xs : List T3, PyData.depthAll (xs.map d3) ≤ 1
  | [] => by simp [PyData.depthAll]
  | x :: xs => by
    rw [List.map_cons]
    simp only [PyData.depthAll]
    have h1 := d3_depth x
    have h2 := d3s_depth xs
    omega
theorem d3s_shaped {xs : List T3} (hx : ∀ x ∈ xs, PyData.strOk x.2.1 = true) : SeqAt.shaped (.list (xs.map d3)) = true := by
  show (PyData.canLay0 (.list (xs.map d3)) && decide (PyData.depth (.list (xs.map d3)) ≤ 64)) = true
  have h := d3s_depth xs
  have h1 : PyData.canLay0 (.list (xs.map d3)) = true := by simp only [PyData.canLay0]; exact d3s_lay xs hx
  have h2 : PyData.depth (.list (xs.map d3)) ≤ 64 := by simp only [PyData.depth]; omega
  rw [h1, decide_eq_true h2]
  rfl
/-- steps at ts -/
def At3 (H : Hp) (ts : List Addr) (xs : List T3) : Prop := ts.length = xs.length ∧ ∀ (i : Nat) t x, ts[i]? = some t → xs[i]? = some x → S3 H t x
theorem dp3 {K : PySem.W.Frag} {H : Hp} {t : Addr} {x : T3} (h : S3 H t x) : Dp K H (.ref t) (d3 x) := .tup (SqT.of h) (.cons (.int _) (.cons (.str _) (.cons (.int _) .nil)))
theorem dp3s {K : PySem.W.Frag} {H : Hp} : ∀ {ts : List Addr} {xs : List T3}, At3 H ts xs → DpAll K H (ts.map V.ref) (xs.map d3)
  | [], [], _ => .nil
  | [], _ :: _, h => by cases h.1
  | _ :: _, [], h => by cases h.1
  | t :: ts, x :: xs, h => .cons (dp3 (h.2 0 t x rfl rfl)) (dp3s ⟨by have := h.1; simpa using this, fun i t x h1 h2 => h.2 (i + 1) t x (by simpa using h1) (by simpa using h2)⟩)
theorem At3.same {H H' : Hp} {ts : List Addr} {xs : List T3} (h : At3 H ts xs) (s : KeepT H H') : At3 H' ts xs := ⟨h.1, fun i t x h1 h2 => s _ _ (h.2 i t x h1 h2)⟩
theorem At3.snoc {H : Hp} {ts : List Addr} {xs : List T3} {t : Addr} {x : T3} (h : At3 H ts xs) (hx : S3 H t x) : At3 H (ts ++ [t]) (xs ++ [x]) := by
  refine ⟨by rw [List.length_append, List.length_append, h.1]; rfl, fun i u y h1 h2 => ?_⟩
  by_cases e : i < ts.length
  · rw [List.getElem?_append_left e] at h1
    rw [List.getElem?_append_left (by rw [← h.1]; exact e)] at h2
    exact h.2 i u y h1 h2
  · have i1 := (List.getElem?_eq_some_iff.mp h1).1
    rw [List.length_append] at i1
    have e2 : i = ts.length := by simp only [List.length_cons, List.length_nil] at i1; omega
    subst e2
    rw [List.getElem?_append_right (Nat.le_refl _), Nat.sub_self] at h1
    rw [h.1, List.getElem?_append_right (Nat.le_refl _), Nat.sub_self] at h2
    have e3 : t = u := Option.some.inj h1
    have e4 : x = y := Option.some.inj h2
    rw [← e3, ← e4]
    exact hx
theorem At3.take {H : Hp} {ts : List Addr} {xs : List T3} (h : At3 H ts xs) (n : Nat) : At3 H (ts.take n) (xs.take n) := by
  refine ⟨by rw [List.length_take, List.length_take, h.1], fun i t x h1 h2 => ?_⟩
  rw [List.getElem?_take] at h1 h2
  by_cases e : i < n
  · rw [if_pos e] at h1 h2
    exact h.2 i t x h1 h2
  · rw [if_neg e] at h1
    cases h1
theorem lt3_tri {x y : T3} (h1 : lt3 x y = false) (h2 : lt3 y x = false) : x = y := by
  have a := lt3_no.mp h1
  have b := lt3_no.mp h2
  have e1 : x.1 = y.1 := by
    have a1 : ¬ x.1 < y.1 := fun q => a (.inl q)
    have b1 : ¬ y.1 < x.1 := fun q => b (.inl q)
    omega
  have a2 : ¬ sl x.2.1 < sl y.2.1 := fun q => a (.inr ⟨e1, .inl q⟩)
  have b2 : ¬ sl y.2.1 < sl x.2.1 := fun q => b (.inr ⟨e1.symm, .inl q⟩)
  have e2 : x.2.1 = y.2.1 := sl_inj (List.le_antisymm (List.not_lt.mp b2) (List.not_lt.mp a2))
  have a3 : ¬ x.2.2 < y.2.2 := fun q => a (.inr ⟨e1, .inr ⟨e2, q⟩⟩)
  have b3 : ¬ y.2.2 < x.2.2 := fun q => b (.inr ⟨e1.symm, .inr ⟨e2.symm, q⟩⟩)
  exact Prod.ext e1 (Prod.ext e2 (by omega))
def spFraming : Sp := fun vs H Q _ => ∃ (m c l : Addr) (k : Int) (b : Nat), vs = [.ref m, .int (b : Int)] ∧ b ≤ 5 ∧ MAt H m c l k ∧ k < 700000 ∧
  ∀ (f : Addr) (fr : List T3) (last : Nat) (H' : Hp) (l' : Addr) (k' : Int), FrA H' f fr → Frm fr last → last ≤ b → k' ≤ k + 400 → Dr H H' m c l l' k' → Q (.ref f) H'
/-- the found steps at F -/
structure FS (H H' : Hp) (m c l F : Addr) (kb : Int) (last : Nat) (xs : List T3) : Prop where
  ex : ∃ (ts : List Addr) (l' : Addr) (k' : Int), H' F = some (.lst (ts.map V.ref)) ∧ At3 H' ts xs ∧ F ≠ l' ∧ F ≠ m ∧ F ≠ c ∧ k' ≤ kb ∧ Dr H H' m c l l' k'
  ok : ∀ x ∈ xs, Stp x ∧ x.1 ≤ last ∧ x.2.2 ≤ last
  hF : ∀ b o, H b = some o → b ≠ m → b ≠ l → b ≠ F
theorem bl_eq (t : Int) : decide (V.int t = V.int 0) = decide (t = 0) := by
  rw [dec_int]
  by_cases z : t = 0
  · rw [z]
    rfl
  · rw [decide_eq_false z]
    exact beq_eq_false_iff_ne.mpr z
theorem Dr.keepT {H0 H : Hp} {m c l0 l : Addr} {k k0 : Int} (d : Dr H0 H m c l0 l k) (M : MAt H0 m c l0 k0) : KeepT H0 H := fun a xs e => d.tup M e
/-- one step more -/
theorem FS.push {H H1 H2 H3 : Hp} {m c l F l1 l2 t : Addr} {k1 k2 kb : Int} {last : Nat} {xs : List T3} {ts : List Addr} {x : T3} (hF : H1 F = some (.lst (ts.map V.ref))) (ha : At3 H1 ts xs) (n1 : F ≠ l1) (n2 : F ≠ m) (n3 : F ≠ c) (d1 : Dr H H1 m c l l1 k1)
    (d2 : Dr H1 H2 m c l1 l2 k2) (ht : H2 t = none) (e3 : H3 = upd (upd H2 t (.tup [.int x.1, .str x.2.1, .int x.2.2])) F (.lst (ts.map V.ref ++ [.ref t]))) (hk : k2 ≤ kb)
    (ok : ∀ y ∈ xs, Stp y ∧ y.1 ≤ last ∧ y.2.2 ≤ last) (okx : Stp x ∧ x.1 ≤ last ∧ x.2.2 ≤ last) (hF0 : ∀ b o, H b = some o → b ≠ m → b ≠ l → b ≠ F) : FS H H3 m c l F kb last (xs ++ [x]) := by
  obtain ⟨hF2, n4⟩ := d2.lst d1.at_ hF n1
  have u := same_upd (o := HO.tup [.int x.1, .str x.2.1, .int x.2.2]) ht
  have hF2' := u _ _ hF2
  have kt := keepT_upd (o := .lst (ts.map V.ref ++ [.ref t])) hF2' (fun xs z => by cases z)
  have D2 := (d1.trans d2).same u
  subst e3
  refine ⟨⟨ts ++ [t], l2, k2, by rw [List.map_append]; exact upd_same, ?_, n4, n2, n3, hk, ⟨D2.at_.upd n2 n3 n4, D2.hl, fun b o z h1 h2 => ?_⟩⟩, fun y hy => ?_, hF0⟩
  · refine At3.snoc (ha.same ?_) (kt _ _ upd_same)
    exact ((d2.keepT d1.at_).trans (Same.keepT u)).trans kt
  · rw [upd_ne (hF0 b o z h1 h2)]
    exact D2.kp b o z h1 h2
  · rcases List.mem_append.mp hy with h | h
    · exact ok y h
    · have e : y = x := by simpa using h
      rw [e]
      exact okx
def dd (xs : List T3) : List T3 := xs.foldl (fun acc x => if x ∈ acc then acc else acc ++ [x]) []
theorem dd_snoc (xs : List T3) (x : T3) : dd (xs ++ [x]) = if x ∈ dd xs then dd xs else dd xs ++ [x] := by
  unfold dd
  rw [List.foldl_append]
  rfl
theorem snoc_ind {α : Type} {p : List α → Prop} (h0 : p []) (h1 : ∀ l x, p l → p (l ++ [x])) (l : List α) : p l := by
  have z : ∀ n (l : List α), l.length = n → p l := by
    intro n
    induction n with
    | zero => exact fun l h => by rw [List.length_eq_zero_iff.mp h]; exact h0
    | succ n ih =>
      intro l h
      obtain ⟨M, y, rfl⟩ := SrtO.snoc_of (l := l) (by omega)
      exact h1 M y (ih M (by rw [List.length_append] at h; simp only [List.length_cons, List.length_nil] at h; omega))
  exact z _ l rfl
theorem dd_mem (y : T3) (xs : List T3) : y ∈ dd xs ↔ y ∈ xs := by
  refine snoc_ind (p := fun xs => y ∈ dd xs ↔ y ∈ xs) Iff.rfl (fun l x ih => ?_) xs
  rw [dd_snoc]
  by_cases e : x ∈ dd l
  · rw [if_pos e, ih, List.mem_append, List.mem_singleton]
    refine ⟨.inl, fun h => h.elim id fun z => ?_⟩
    rw [z]
    rw [z] at ih
    exact ih.mp e
  · rw [if_neg e, List.mem_append, ih, List.mem_append]
theorem dd_nodup (xs : List T3) : (dd xs).Nodup := by
  refine snoc_ind (p := fun xs => (dd xs).Nodup) List.nodup_nil (fun l x ih => ?_) xs
  rw [dd_snoc]
  by_cases e : x ∈ dd l
  · rw [if_pos e]
    exact ih
  · rw [if_neg e]
    refine List.nodup_append.mpr ⟨ih, by simp, fun a ha b hb => ?_⟩
    have e2 : b = x := by simpa using hb
    rw [e2]
    exact fun z => e (z ▸ ha)
theorem dd_len (xs : List T3) : (dd xs).length ≤ xs.length := by
  refine snoc_ind (p := fun xs => (dd xs).length ≤ xs.length) (Nat.le_refl _) (fun l x ih => ?_) xs
  rw [dd_snoc, List.length_append]
  split
  · omega
  · rw [List.length_append]
    omega
/-- the step that stands at an address -/
def stepAt (H : Hp) : V → T3
  | .ref t => match H t with
    | some (.tup [.int a, .str b, .int c]) => (a, b, c)
    | _ => (0, "", 0)
  | _ => (0, "", 0)
theorem stepAt_of {H : Hp} {t : Addr} {x : T3} (h : S3 H t x) : stepAt H (.ref t) = x := by
  unfold stepAt
  dsimp only
  rw [h]
theorem map_stepAt {H : Hp} {ts : List Addr} {xs : List T3} (h : At3 H ts xs) : (ts.map V.ref).map (stepAt H) = xs := by
  refine List.ext_getElem? fun i => ?_
  rw [List.getElem?_map, List.getElem?_map]
  by_cases hi : i < ts.length
  · have hx : i < xs.length := by rw [← h.1]; exact hi
    rw [List.getElem?_eq_getElem hi, List.getElem?_eq_getElem hx]
    show some (stepAt H (.ref ts[i])) = _
    rw [stepAt_of (h.2 i _ _ (List.getElem?_eq_getElem hi) (List.getElem?_eq_getElem hx))]
  · rw [List.getElem?_eq_none (by omega), List.getElem?_eq_none (by rw [← h.1]; omega)]
    rfl
/-- sorted: a framing -/
theorem frm_of {H : Hp} {ts : List Addr} {xs ys : List T3} {vs : List V} {last : Nat} (h : At3 H ts ys) (hy : ys = dd xs) (sr : SrtO.Srtd (fun x y => lt3 (stepAt H x) (stepAt H y)) vs) (pm : vs.Perm (ts.map V.ref)) (l1 : xs.length ≤ 16) (l5 : last ≤ 5)
    (ok : ∀ x ∈ xs, Stp x ∧ x.1 ≤ last ∧ x.2.2 ≤ last) (ring : ∀ k : Nat, k ≤ last → ∃ x ∈ xs, x.1 = (k : Int) ∧ x.2.2 = (if k < last then (k : Int) + 1 else 0)) : Frm (vs.map (stepAt H)) last ∧ ∃ us : List Addr, vs = us.map V.ref ∧ At3 H us (vs.map (stepAt H)) := by
  have pm2 : (vs.map (stepAt H)).Perm ys := by
    have z := pm.map (stepAt H)
    rw [map_stepAt h] at z
    exact z
  have mem : ∀ x, x ∈ vs.map (stepAt H) ↔ x ∈ xs := fun x => by rw [pm2.mem_iff, hy, dd_mem]
  have nd : (vs.map (stepAt H)).Nodup := by
    rw [pm2.nodup_iff, hy]
    exact dd_nodup xs
  have len : (vs.map (stepAt H)).length ≤ 16 := by
    rw [pm2.length_eq, hy]
    exact Nat.le_trans (dd_len xs) l1
  refine ⟨⟨?_, len, fun x hx => (ok x ((mem x).mp hx)).1, ?_, fun k hk => ?_, fun x hx => (ok x ((mem x).mp hx)).2, l5⟩, ?_⟩
  · obtain ⟨x, hx, _⟩ := ring 0 (Nat.zero_le _)
    have := (mem x).mpr hx
    exact List.length_pos_of_mem this
  · have s2 : (vs.map (stepAt H)).Pairwise fun x y => lt3 y x = false := List.pairwise_map.mpr sr
    refine (s2.and nd).imp fun {x y} z => ?_
    cases e : lt3 x y with
    | true => rfl
    | false => exact absurd (lt3_tri e z.1) z.2
  · obtain ⟨x, hx, e⟩ := ring k hk
    exact ⟨x, (mem x).mpr hx, e⟩
  · have rf : ∀ v ∈ vs, ∃ t x, v = V.ref t ∧ S3 H t x := fun v hv => by
      obtain ⟨t, ht, rfl⟩ := List.mem_map.mp (pm.mem_iff.mp hv)
      obtain ⟨i, hi, e⟩ := List.getElem_of_mem ht
      have hx : i < ys.length := by rw [← h.1]; exact hi
      exact ⟨t, ys[i], rfl, h.2 i t _ (by rw [List.getElem?_eq_getElem hi, e]) (List.getElem?_eq_getElem hx)⟩
    have go : ∀ ws : List V, (∀ v ∈ ws, ∃ t x, v = V.ref t ∧ S3 H t x) → ∃ us : List Addr, ws = us.map V.ref ∧ At3 H us (ws.map (stepAt H)) := by
      intro ws
      induction ws with
      | nil => exact fun _ => ⟨[], rfl, rfl, fun i t x h => by cases h⟩
      | cons v ws ih =>
        intro hw
        obtain ⟨t, x, rfl, hx⟩ := hw v (List.mem_cons_self ..)
        obtain ⟨us, e1, e2⟩ := ih fun v hv => hw v (List.mem_cons_of_mem _ hv)
        refine ⟨t :: us, by rw [e1]; rfl, by rw [List.length_cons, e2.1]; rfl, fun i u y h1 h2 => ?_⟩
        cases i with
        | zero =>
          have e3 : t = u := Option.some.inj h1
          have e4 : stepAt H (.ref t) = y := Option.some.inj h2
          rw [← e3, ← e4, stepAt_of hx]
          exact hx
        | succ i => exact e2.2 i u y (by simpa using h1) (by simpa using h2)
    exact go vs rf
end K39

set_option Elab.async false
set_option linter.all false
set_option maxRecDepth 100000
set_option maxHeartbeats 4000000
/-! Drawn framings: the def. -/
namespace K39
open PySem L2 L2.EV
theorem cut_to {ts : List Addr} {i : Nat} : cutV (ts.map V.ref) none (some (i : Int)) = (ts.take i).map V.ref := by
  unfold cutV
  rw [HT.sIx_nat, HT.sIx_none, List.length_map, List.drop_zero, Nat.sub_zero, ← List.map_take]
  congr 1
  by_cases h : i ≤ ts.length
  · rw [Nat.min_eq_left h]
  · rw [Nat.min_eq_right (by omega), List.take_length, List.take_of_length_le (by omega)]
theorem any_d3 (y : T3) : ∀ xs : List T3, ((xs.map d3).any fun z => PyData.eqv z (d3 y)) = decide (y ∈ xs)
  | [] => by simp
  | x :: xs => by
    rw [List.map_cons, List.any_cons, any_d3 y xs, d3_eq]
    by_cases e : x = y
    · subst e
      simp
    · have e' : ¬ y = x := fun z => e z.symm
      rw [decide_eq_false e, Bool.false_or]
      by_cases m : y ∈ xs
      · rw [decide_eq_true m, decide_eq_true (List.mem_cons_of_mem _ m)]
      · rw [decide_eq_false m, decide_eq_false (fun z => (List.mem_cons.mp z).elim e' m)]
section
variable {P : Program} {w : World} {K : PySem.W.Frag} {mg : Str → Option Value} {base : Heap}
structure Lf (K : PySem.W.Frag) (mg : Str → Option Value) where
  L : Ls K mg
  f : Addr
  d : FuncData
  F : Fun K "_law_framing" "_law_framing" sFraming f d
  b : Binds K d ["m", "most"] []
  g : mg "_law_framing" = some (.ref f)
  so : mg "sorted" = none
  tu : mg "tuple" = none
  en : mg "enumerate" = none
theorem scFraming : FnScope ["m", "most", "last", "found", "here", "to", "again", "k", "step"] ["m", "most"] (defScope sFraming) := ⟨rfl, rfl, rfl, by decide +kernel, rfl, by decide +kernel, by decide +kernel⟩
theorem ok_framing (G : Lf K mg) : FnOk P w K mg base CX0 3 G.f G.d ["m", "most"] spFraming := by
  have GX : FnOk P w K mg base CX0 1 G.L.f1 G.L.d1 ["m", "total"] spNext := ok_next G.L.N G.L.T
  have GP : FnOk P w K mg base CX0 2 G.L.f2 G.L.d2 ["m", "last"] spPiece := ok_piece G.L
  refine G.F.ok scFraming (fun vs H Q E h => ?_) (fun cdv A outer s H vs Q E hr h => ?_)
  · obtain ⟨m, c, l, k, b, rfl, _⟩ := h
    rfl
  · obtain ⟨m, c, l, k, bm, rfl, hbm, M, hk, q⟩ := h
    have hr1 := hr.mono (j := 1) (by omega)
    have hu65 : (A.deeper (PyProof.Rows.envOfC "_law_framing" (defScope sFraming) s.heap.objs.size G.f cdv)).units + 65 < cLine := by have := hr.un; omega
    refine ⟨_, pss_cons (ps_asg (pe_tup (pa_cons (pe_call GX hr1 (by rfl) G.L.mN G.L.N.kp G.L.bN .nil pass0 (pa_cons (pv 0) (pa_cons (pe_op op_add (pv 1) pe_int) pa_nil))) (pa_cons (pe_lst pa_nil) pa_nil))) (pg_tup rfl (pgs_cons (pg_name (i := 2) scFraming.nd rfl (Or.inl rfl)) (pgs_cons (pg_name (i := 3) scFraming.nd rfl (Or.inr rfl)) pgs_nil))))
      (pss_cons (ps_for PassesOwn.never rfl (pi_range1 (by rfl) G.L.ra (pa_cons (pe_op op_add (pv 2) pe_int) pa_nil)) (pg_name (i := 4) scFraming.nd rfl (Or.inl rfl))
        (pss_cons (ps_set (i := 5) scFraming.nd rfl (Or.inl rfl) (pe_ifExp (pt_cmpR op_lt (pv 4) (pv 2) (nomark _)) (pe_op op_add (pv 4) pe_int) pe_int))
        (pss_one (ps_expr (pe_bm PySem.F.plainAttrs_list PySem.F.slot_list_append PySem.F.type_list_append mt_append (pv 3) (pa_cons (pe_tup (pa_cons (pv 4) (pa_cons (pe_call GP hr (by rfl) G.L.mP G.L.P.kp G.L.bP .nil pass0 (pa_cons (pv 0) (pa_cons (pe_cmpR op_eq (pv 5) pe_int (nomark _)) pa_nil))) (pa_cons (pv 5) pa_nil)))) pa_nil))))))
      (pss_cons (ps_for PassesOwn.never rfl (pi_range1 (by rfl) G.L.ra (pa_cons (pe_call GX hr1 (by rfl) G.L.mN G.L.N.kp G.L.bN .nil pass0 (pa_cons (pv 0) (pa_cons pe_int pa_nil))) pa_nil)) (pg_name (i := 6) scFraming.nd rfl (Or.inl rfl))
        (pss_cons (ps_par (i := 4) (j := 5) (x := "here") (y := "to") rfl scFraming.nd rfl rfl (by decide) rfl rfl (pa_cons (pe_call GX hr1 (by rfl) G.L.mN G.L.N.kp G.L.bN .nil pass0 (pa_cons (pv 0) (pa_cons (pe_op op_add (pv 2) pe_int) pa_nil))) (pa_cons (pe_call GX hr1 (by rfl) G.L.mN G.L.N.kp G.L.bN .nil pass0 (pa_cons (pv 0) (pa_cons (pe_op op_add (pv 2) pe_int) pa_nil))) pa_nil)) (by rfl))
        (pss_one (ps_expr (pe_bm PySem.F.plainAttrs_list PySem.F.slot_list_append PySem.F.type_list_append mt_append (pv 3) (pa_cons (pe_tup (pa_cons (pv 4) (pa_cons (pe_call GP hr (by rfl) G.L.mP G.L.P.kp G.L.bP .nil pass0 (pa_cons (pv 0) (pa_cons (pe_cmpR op_eq (pv 5) pe_int (nomark _)) pa_nil))) (pa_cons (pv 5) pa_nil)))) pa_nil))))))
      (pss_one (ps_ret (pe_callTy call_tuple_of (by rfl) G.tu (by decide +kernel) (pa_cons (pe_callB cr_sorted3 (by rfl) G.so (by decide +kernel) (pa_cons (pe_lc (own := [("k", 7), ("step", 8)]) (g := gTup K 2 (gCons (gName 7) (gCons (gName 8) gNil))) (tt := tTest (tOp (rNotInD K) (tVar 8) (tSl (rSlL K) (tVar 3) tNoPart (tPart (tVar 7))))) (te := tVar 8) rfl scFraming.nd
        (pi_enum (by rfl) G.en (pa_cons (pv 3) pa_nil)) (blkOk_by (N := ["m", "most", "last", "found", "here", "to", "again", "k", "step"]) (sc := defScope sFraming) (by decide +kernel))
        (fun _ _ _ _ _ => pg_tup rfl (pgs_cons (pg_name (i := 7) scFraming.nd rfl (Or.inl rfl)) (pgs_cons (pg_name (i := 8) scFraming.nd rfl (Or.inl rfl)) pgs_nil)))
        (fun _ _ _ _ _ => pts_one (pt_cmpR (op_notInD hu65) (pv 8) (pe_slice sl_list (pv 3) po_none (po_some (pv 7))) (by rfl))) (fun _ _ _ _ _ => pv 8)) pa_nil)) pa_nil)))))), ?_⟩
    refine ⟨_, rfl, _, rfl, bm, 1, rfl, rfl, m, c, l, k, _, rfl, M, by omega, by omega, by omega, fun r0 H1 l1 k1 a1 b1 g1 N1 f1 q1 => ?_⟩
    have d1 : Dr H H1 m c l l1 k1 := ⟨N1, f1, q1⟩
    obtain ⟨last, rfl⟩ := Int.eq_ofNat_of_zero_le a1
    have lbm : last ≤ bm := by omega
    have l5 : last ≤ 5 := by omega
    refine ⟨by decide, fun F hF => ⟨(by show 2 ≤ sizeLine; decide), fun p hp => ?_⟩⟩
    have u1 := same_upd (o := HO.lst []) hF
    have u2 := same_upd (o := HO.tup [V.int (last : Int), V.ref F]) hp
    refine ⟨p, _, rfl, SqT.of upd_same, rfl, _, _, rfl, _, _, rfl, rfl, ?_⟩
    have D1 := d1.same (u1.trans u2)
    have fs0 : FS H _ m c l F k1 last [] := ⟨⟨[], l1, k1, u2 _ _ upd_same, ⟨rfl, fun i t x h => by cases h⟩, N1.l_some hF, (ne_of_none N1.hm hF).symm, N1.c_some hF, Int.le_refl _, D1⟩, (fun x h => by cases h), fun b o z h1 h2 => ne_of_none (d1.kp b o z h1 h2) hF⟩
    have hn : ((last : Int) + 1).toNat = last + 1 := by omega
    refine ⟨_, rfl, last, 1, rfl, rfl, _, rfl, by omega, by omega, for_it walk_range (fun i σ H' => ∃ (v4 v5 : Option V) (xs : List T3), σ = [some (.ref m), some (.int (bm : Int)), some (.int (last : Int)), some (.ref F), v4, v5, none, none, none] ∧
      FS H H' m c l F (k1 + 21 * i) last xs ∧ xs.length = i ∧ ∀ j : Nat, j < i → ∃ x ∈ xs, x.1 = (j : Int) ∧ x.2.2 = (if j < last then (j : Int) + 1 else 0))
      ⟨none, none, [], rfl, by simpa using fs0, rfl, fun j h => absurd h (by omega)⟩ (fun _ _ _ _ _ => trivial) ?_ ?_⟩
    · rintro i x σ H2 H3 hi ⟨v4, v5, xs, rfl, fs, lx, rg⟩ ⟨rfl, rfl⟩
      have hil : i ≤ last := by omega
      obtain ⟨ts, l3, k3, hF3, ha3, n3, nm, nc, kk3, D3⟩ := fs.ex
      have M3 := D3.at_
      refine ⟨_, rfl, _, rfl, _, _, rfl, rfl, _, rfl, ?_⟩
      have fin : ∀ (t : Int) (pp : Str) (H' : Hp), t = (if i < last then (i : Int) + 1 else 0) → FS H H' m c l F (k1 + 21 * ((i + 1 : Nat) : Int)) last (xs ++ [(0 + (i : Int), pp, t)]) → (xs ++ [(0 + (i : Int), pp, t)]).length = i + 1 ∧ ∀ j : Nat, j < i + 1 → ∃ x ∈ xs ++ [(0 + (i : Int), pp, t)], x.1 = (j : Int) ∧ x.2.2 = (if j < last then (j : Int) + 1 else 0) := fun t pp H' et _ => by
        refine ⟨by rw [List.length_append, lx]; rfl, fun j hj => ?_⟩
        by_cases e : j = i
        · subst e
          exact ⟨_, List.mem_append_right _ (List.mem_singleton.mpr rfl), Int.zero_add _, et⟩
        · obtain ⟨x, hx, e2⟩ := rg j (by omega)
          exact ⟨x, List.mem_append_left _ hx, e2⟩
      refine ite2 (fun z => ?_) (fun z => ?_)
      · have z1 : 0 + (i : Int) < last := of_decide_eq_true z
        refine ⟨_, rfl, _, 1, rfl, rfl, ?_⟩
        refine ⟨_, rfl, .inl ⟨rfl, _, SqL.of hF3⟩, _, rfl, _, rfl, _, rfl, rfl, m, c, l3, k3, decide (V.int (0 + (i : Int) + 1) = V.int 0), rfl, M3, by omega, fun pp H4 l4 k4 hp kk4 d4 => ?_⟩
        rw [bl_eq] at hp
        refine ⟨_, rfl, (by show 3 ≤ sizeLine; decide), fun tp htp => ?_⟩
        obtain ⟨hF4, n4⟩ := d4.lst M3 hF3 n3
        refine ⟨F, ts.map V.ref, _, rfl, rfl, same_upd htp _ _ hF4, by rw [List.length_map, ha3.1, sizeLine_eq]; omega, ?_⟩
        have okx : Stp ((0 + (i : Int), pp, 0 + (i : Int) + 1) : T3) ∧ (0 + (i : Int) : Int) ≤ last ∧ (0 + (i : Int) + 1 : Int) ≤ last := ⟨⟨by show (0 : Int) ≤ 0 + i; omega, by show (0 + (i : Int)) < 6; omega, hp, by show (0 : Int) ≤ 0 + i + 1; omega, by show (0 + (i : Int) + 1) < 6; omega⟩, by omega, by omega⟩
        have fs' := FS.push (x := (0 + (i : Int), pp, 0 + (i : Int) + 1)) hF3 ha3 n3 nm nc D3 d4 htp rfl (kb := k1 + 21 * ((i + 1 : Nat) : Int)) (by omega) fs.ok okx fs.hF
        
        have et : 0 + (i : Int) + 1 = (if i < last then (i : Int) + 1 else 0) := by rw [if_pos (by omega)]; omega
        obtain ⟨w1, w2⟩ := fin _ pp _ et fs'
        exact ⟨_, _, _, rfl, fs', w1, w2⟩
      · have z1 : ¬ 0 + (i : Int) < last := fun y => z (decide_eq_true y)
        refine ⟨_, rfl, .inl ⟨rfl, _, SqL.of hF3⟩, _, rfl, _, rfl, _, rfl, rfl, m, c, l3, k3, decide (V.int (0) = V.int 0), rfl, M3, by omega, fun pp H4 l4 k4 hp kk4 d4 => ?_⟩
        rw [bl_eq] at hp
        refine ⟨_, rfl, (by show 3 ≤ sizeLine; decide), fun tp htp => ?_⟩
        obtain ⟨hF4, n4⟩ := d4.lst M3 hF3 n3
        refine ⟨F, ts.map V.ref, _, rfl, rfl, same_upd htp _ _ hF4, by rw [List.length_map, ha3.1, sizeLine_eq]; omega, ?_⟩
        have okx : Stp ((0 + (i : Int), pp, 0) : T3) ∧ (0 + (i : Int) : Int) ≤ last ∧ (0 : Int) ≤ last := ⟨⟨by show (0 : Int) ≤ 0 + i; omega, by show (0 + (i : Int)) < 6; omega, hp, Int.le_refl _, (by show (0 : Int) < 6; decide)⟩, by omega, by omega⟩
        have fs' := FS.push (x := (0 + (i : Int), pp, 0)) hF3 ha3 n3 nm nc D3 d4 htp rfl (kb := k1 + 21 * ((i + 1 : Nat) : Int)) (by omega) fs.ok okx fs.hF
        
        have et : (0 : Int) = (if i < last then (i : Int) + 1 else 0) := by rw [if_neg (by omega)]
        obtain ⟨w1, w2⟩ := fin _ pp _ et fs'
        exact ⟨_, _, _, rfl, fs', w1, w2⟩
    · rintro σ H2 ⟨v4, v5, xs, rfl, fs, lx, rg⟩
      rw [hn] at fs lx rg
      obtain ⟨ts, l3, k3, hF3, ha3, n3, nm, nc, kk3, D3⟩ := fs.ex
      refine ⟨_, rfl, m, c, l3, k3, 7, rfl, D3.at_, by decide, by decide, by omega, fun r2 H3 l4 k4 a4 b4 g4 N4 f4 q4 => ?_⟩
      have d4 : Dr H2 H3 m c l3 l4 k4 := ⟨N4, f4, q4⟩
      obtain ⟨hF4, n4⟩ := d4.lst D3.at_ hF3 n3
      have fs4 : FS H H3 m c l F (k1 + 127) last xs := ⟨⟨ts, l4, k4, hF4, ha3.same (d4.keepT D3.at_), n4, nm, nc, by omega, D3.trans d4⟩, fs.ok, fs.hF⟩
      refine ⟨r2, rfl, by omega, by omega, for_it walk_range (fun i σ H' => ∃ (v4 v5 v6 : Option V) (xs : List T3), σ = [some (.ref m), some (.int (bm : Int)), some (.int (last : Int)), some (.ref F), v4, v5, v6, none, none] ∧
        FS H H' m c l F (k1 + 127 + 23 * i) last xs ∧ xs.length = last + 1 + i ∧ ∀ j : Nat, j < last + 1 → ∃ x ∈ xs, x.1 = (j : Int) ∧ x.2.2 = (if j < last then (j : Int) + 1 else 0))
        ⟨v4, v5, none, xs, rfl, by simpa using fs4, lx, rg⟩ (fun _ _ _ _ _ => trivial) ?_ ?_⟩
      · rintro i x σ H5 H6 hi ⟨v4, v5, v6, xs, rfl, fs, lx, rg⟩ ⟨rfl, rfl⟩
        have hi6 : i < 7 := by omega
        obtain ⟨ts, l5', k5, hF5, ha5, n5, nm, nc, kk5, D5⟩ := fs.ex
        refine ⟨_, rfl, _, rfl, last, 1, rfl, rfl, m, c, l5', k5, _, rfl, D5.at_, by omega, by omega, by omega, fun rh H7 l7 k7 a7 b7 g7 N7 f7 q7 => ?_⟩
        have d7 : Dr _ H7 m c l5' l7 k7 := ⟨N7, f7, q7⟩
        refine ⟨_, rfl, _, rfl, last, 1, rfl, rfl, m, c, l7, k7, _, rfl, N7, by omega, by omega, by omega, fun rt H8 l8 k8 a8 b8 g8 N8 f8 q8 => ?_⟩
        have d8 : Dr _ H8 m c l7 l8 k8 := ⟨N8, f8, q8⟩
        have D3 := D5.trans (d7.trans d8)
        have M3 := D3.at_
        obtain ⟨hF3, n3⟩ := (d7.trans d8).lst D5.at_ hF5 n5
        have ha3 := ha5.same ((d7.trans d8).keepT D5.at_)
        refine ⟨_, _, rfl, ?_⟩
        refine ⟨_, rfl, .inl ⟨rfl, _, SqL.of hF3⟩, _, rfl, _, rfl, _, rfl, rfl, m, c, l8, k8, decide (V.int (rt) = V.int 0), rfl, M3, by omega, fun pp H4 l4 k4 hp kk4 d4 => ?_⟩
        rw [bl_eq] at hp
        refine ⟨_, rfl, (by show 3 ≤ sizeLine; decide), fun tp htp => ?_⟩
        obtain ⟨hF4, n4⟩ := d4.lst M3 hF3 n3
        refine ⟨F, ts.map V.ref, _, rfl, rfl, same_upd htp _ _ hF4, by rw [List.length_map, ha3.1, sizeLine_eq]; omega, ?_⟩
        have okx : Stp ((rh, pp, rt) : T3) ∧ (rh : Int) ≤ last ∧ (rt : Int) ≤ last := ⟨⟨a7, by show rh < 6; omega, hp, a8, by show rt < 6; omega⟩, by omega, by omega⟩
        have fs' := FS.push (x := (rh, pp, rt)) hF3 ha3 n3 nm nc D3 d4 htp rfl (kb := k1 + 127 + 23 * ((i + 1 : Nat) : Int)) (by omega) fs.ok okx fs.hF
        
        exact ⟨_, _, _, _, rfl, fs', by rw [List.length_append, lx]; rfl, fun j hj => by
          obtain ⟨x, hx, e2⟩ := rg j hj
          exact ⟨x, List.mem_append_left _ hx, e2⟩⟩
      · rintro σ H5 ⟨v4, v5, v6, xs, rfl, fs, lx, rg⟩
        obtain ⟨ts, l6, k6, hF6, ha6, n6, nm, nc, kk6, D6⟩ := fs.ex
        have hr2 : r2.toNat ≤ 6 := by omega
        have l16 : xs.length ≤ 16 := by omega
        have sok : ∀ x ∈ xs, PyData.strOk x.2.1 = true := fun x hx => pc_ok (fs.ok x hx).1.2.2.1
        refine ⟨_, rfl, F, _, rfl, SqL.of hF6, fun D hD => ?_⟩
        have nFD : F ≠ D := ne_of_none hF6 hD
        refine lc_it (walk_enum (xs := ts.map V.ref)) (fun i H' => ∃ ks : List Addr, H' D = some (.lst (ks.map V.ref)) ∧ At3 H' ks (dd (xs.take i)) ∧ ∀ b o, H5 b = some o → H' b = some o)
          ⟨[], upd_same, ⟨rfl, fun i t x h => by cases h⟩, fun b o z => same_upd hD b o z⟩ (fun i H' _ ⟨_, _, _, z⟩ => SqL.of (z _ _ hF6)) ?_ ?_
        · rintro i x H6 H7 hi ⟨ks, hk, hka, kp⟩ ⟨T, xi, xo, rfl, nT, rfl, h1, h2⟩
          cases h1
          obtain ⟨t, y, hy, rfl, e4⟩ := at_step (i := i) ha6.1 ha6.2 h2
          have uT := same_upd (o := HO.tup [V.int (i : Nat), V.ref t]) nT
          have il : i < xs.length := (List.getElem?_eq_some_iff.mp hy).1
          refine ⟨T, _, rfl, SqT.of upd_same, rfl, _, _, rfl, _, _, rfl, rfl, rfl, ?_⟩
          refine ⟨_, rfl, _, rfl, _, rfl, _, rfl, F, _, rfl, SqL.of (uT _ _ (kp _ _ hF6)), fun p5 hp5 => ?_⟩
          have u5 := same_upd (o := HO.lst (cutV (ts.map V.ref) none (some ((i : Nat) : Int)))) hp5
          have s5 : Same H5 _ := (show Same H5 H6 from kp).trans (uT.trans u5)
          have t5 := s5 _ _ e4
          refine ⟨d3 y, (xs.take i).map d3, dp3 t5, .lst (SqL.of upd_same) ?_, d3_shaped (sok y (List.mem_of_getElem? hy)), d3s_shaped (fun x hx => sok x (List.mem_of_mem_take hx)), _, rfl, ?_⟩
          · rw [cut_to] at s5 ⊢
            exact dp3s ((ha6.take i).same (Same.keepT s5))
          · rw [any_d3]
            have kk := uT.trans u5
            refine ite2 (fun z => ?_) (fun z => ?_)
            · have nm2 : ¬ y ∈ dd (xs.take i) := fun w => by
                rw [decide_eq_true ((dd_mem _ _).mp w)] at z
                cases z
              have hk5 := kk _ _ hk
              have kt := keepT_upd (o := .lst (ks.map V.ref ++ [.ref t])) hk5 (fun xs z => by cases z)
              refine ⟨_, rfl, _, hk5, ?_, ks ++ [t], ?_, ?_, fun b o w => ?_⟩
              · have := dd_len (xs.take i)
                rw [List.length_take] at this
                rw [List.length_map, hka.1, sizeLine_eq]
                omega
              · rw [List.map_append]
                exact upd_same
              · rw [take_one hy, dd_snoc, if_neg nm2]
                exact (hka.same ((Same.keepT kk).trans kt)).snoc (kt _ _ t5)
              · rw [upd_ne (ne_of_none w hD)]
                exact s5 _ _ w
            · have nm2 : y ∈ dd (xs.take i) := (dd_mem _ _).mpr (by
                by_cases w : y ∈ xs.take i
                · exact w
                · rw [decide_eq_false w] at z
                  exact absurd rfl z)
              refine ⟨ks, kk _ _ hk, ?_, fun b o w => s5 _ _ w⟩
              rw [take_one hy, dd_snoc, if_pos nm2]
              exact hka.same (Same.keepT kk)
        · rintro H6 ⟨ks, hk, hka, kp⟩
          rw [List.length_map, ha6.1, List.take_length] at hka
          have hkm := map_stepAt hka
          refine ⟨D, _, stepAt H6, rfl, SqL.of hk, fun x hx => ?_, fun ys p5 sr pm hp5 => ?_⟩
          · obtain ⟨t, ht, rfl⟩ := List.mem_map.mp hx
            obtain ⟨j, hj, e⟩ := List.getElem_of_mem ht
            have hx2 : j < (dd xs).length := by rw [← hka.1]; exact hj
            have s3 := hka.2 j t _ (by rw [List.getElem?_eq_getElem hj, e]) (List.getElem?_eq_getElem hx2)
            refine ⟨t, rfl, ?_⟩
            rw [stepAt_of s3]
            exact s3
          · obtain ⟨fm, us, eu, hu⟩ := frm_of hka rfl sr pm l16 l5 fs.ok (fun k hk => rg k (by omega))
            have u5 := same_upd (o := HO.lst ys) hp5
            refine ⟨p5, _, rfl, .inl ⟨SqL.of upd_same, fun p6 hp6 => ?_⟩⟩
            have u6 := same_upd (o := HO.tup ys) hp6
            have k5 : Same H5 _ := (show Same H5 H6 from kp).trans (u5.trans u6)
            refine q p6 (ys.map (stepAt H6)) last _ l6 k6 ⟨us, by rw [← eu]; exact upd_same, hu.1, fun i t x h1 h2 => (u5.trans u6) _ _ (hu.2 i t x h1 h2)⟩ fm lbm (by omega) (D6.same k5)
end
end K39

set_option Elab.async false
set_option linter.all false
set_option maxRecDepth 100000
set_option maxHeartbeats 4000000
/-! Drawn weavings. -/
namespace K39
open PySem L2 L2.EV
abbrev sFrom : Stmt := top 48
def spFrom : Sp := fun vs H Q _ => ∃ (f : Addr) (fr : List T3) (last : Nat) (h : Int), vs = [.ref f, .int h] ∧ FrA H f fr ∧ Frm fr last ∧
  ∀ (H' : Hp) (p : Addr) (ns : List Int), Same H H' → H p = none → H' p = some (.lst (ns.map V.int)) → ns.length ≤ 16 → (∀ n ∈ ns, 0 ≤ n ∧ n < fr.length ∧ (stt fr n).1 = h) → ((∃ x ∈ fr, x.1 = h) → ns ≠ []) → Q (.ref p) H'
def At2 (H : Hp) (ts : List Addr) (es : List E2) : Prop := ts.length = es.length ∧ ∀ (i : Nat) t e, ts[i]? = some t → es[i]? = some e → A2 H t e
theorem At2.same {H H' : Hp} {ts : List Addr} {xs : List E2} (h : At2 H ts xs) (s : KeepT H H') : At2 H' ts xs := ⟨h.1, fun i t x h1 h2 => s _ _ (h.2 i t x h1 h2)⟩
theorem At2.snoc {H : Hp} {ts : List Addr} {xs : List E2} {t : Addr} {x : E2} (h : At2 H ts xs) (hx : A2 H t x) : At2 H (ts ++ [t]) (xs ++ [x]) := by
  refine ⟨by rw [List.length_append, List.length_append, h.1]; rfl, fun i u y h1 h2 => ?_⟩
  by_cases e : i < ts.length
  · rw [List.getElem?_append_left e] at h1
    rw [List.getElem?_append_left (by rw [← h.1]; exact e)] at h2
    exact h.2 i u y h1 h2
  · have i1 := (List.getElem?_eq_some_iff.mp h1).1
    rw [List.length_append] at i1
    have e2 : i = ts.length := by simp only [List.length_cons, List.length_nil] at i1; omega
    subst e2
    rw [List.getElem?_append_right (Nat.le_refl _), Nat.sub_self] at h1
    rw [h.1, List.getElem?_append_right (Nat.le_refl _), Nat.sub_self] at h2
    have e3 : t = u := Option.some.inj h1
    have e4 : x = y := Option.some.inj h2
    rw [← e3, ← e4]
    exact hx
def spWeave : Sp := fun vs H Q _ => ∃ (m c l f : Addr) (k : Int) (fr : List T3) (last nw tot : Nat), vs = [.ref m, .ref f, .int nw, .int tot] ∧ MAt H m c l k ∧ k < 600000 ∧ FrA H f fr ∧ Frm fr last ∧ 1 ≤ nw ∧ nw ≤ 8 ∧ tot ≤ 60 ∧
  ∀ (w : Addr) (es : List E2) (H' : Hp) (l' : Addr) (k' : Int), WvA H' w es → Wv fr es → es.length ≤ tot → k' ≤ k + 200 → Dr H H' m c l l' k' → Q (.ref w) H'
theorem wv_snoc {fr : List T3} {es : List E2} {e : E2} (W : Wv fr es) (hl : es.length < 60) (he : Ent fr e) (g : (plc fr es)[e.1.toNat]? = some (stt fr e.2).1) : Wv fr (es ++ [e]) := by
  refine ⟨by rw [List.length_append]; simp only [List.length_cons, List.length_nil]; omega, fun x hx => ?_, fun i x hx => ?_⟩
  · rcases List.mem_append.mp hx with h | h
    · exact W.ent x h
    · have e2 : x = e := by simpa using h
      rw [e2]
      exact he
  · by_cases hi : i < es.length
    · rw [List.getElem?_append_left hi] at hx
      rw [List.take_append_of_le_length (by omega)]
      exact W.go i x hx
    · have i1 := (List.getElem?_eq_some_iff.mp hx).1
      rw [List.length_append] at i1
      have e2 : i = es.length := by simp only [List.length_cons, List.length_nil] at i1; omega
      subst e2
      rw [List.getElem?_append_right (Nat.le_refl _), Nat.sub_self] at hx
      have e3 : e = x := Option.some.inj hx
      rw [List.take_left' rfl, ← e3]
      exact g
theorem rep_flat : ∀ n : Nat, (List.replicate n [V.int 0]).flatten = (List.replicate n (0 : Int)).map V.int
  | 0 => rfl
  | n + 1 => by
    rw [List.replicate_succ, List.flatten_cons, rep_flat n, List.replicate_succ]
    rfl
structure WS (H H' : Hp) (m c l F W : Addr) (kb : Int) (fr : List T3) (nw : Nat) (es : List E2) : Prop where
  ex : ∃ (ts : List Addr) (l' : Addr) (k' : Int), H' F = some (.lst (ts.map V.ref)) ∧ At2 H' ts es ∧ H' W = some (.lst (((plc fr es).take nw).map V.int)) ∧ F ≠ l' ∧ F ≠ m ∧ F ≠ c ∧ W ≠ l' ∧ W ≠ m ∧ W ≠ c ∧ k' ≤ kb ∧ Dr H H' m c l l' k'
  hF : H F = none
  hW : H W = none
  fw : F ≠ W
theorem WS.push {H H1 : Hp} {m c l F W l1 tp : Addr} {k1 kb : Int} {fr : List T3} {nw : Nat} {es : List E2} {ts : List Addr} {e : E2} (hF1 : H1 F = some (.lst (ts.map V.ref))) (ha : At2 H1 ts es) (hW1 : H1 W = some (.lst (((plc fr es).take nw).map V.int)))
    (n1 : F ≠ l1) (n2 : F ≠ m) (n3 : F ≠ c) (n4 : W ≠ l1) (n5 : W ≠ m) (n6 : W ≠ c) (hk : k1 ≤ kb) (d : Dr H H1 m c l l1 k1) (ht : H1 tp = none) (hF : H F = none) (hW : H W = none) (fw : F ≠ W) :
    WS H (upd (upd (upd H1 tp (.tup [.int e.1, .int e.2])) F (.lst (ts.map V.ref ++ [.ref tp]))) W (.lst ((((plc fr es).take nw).map V.int).set e.1.toNat (.int (stt fr e.2).2.2)))) m c l F W kb fr nw (es ++ [e]) := by
  have u := same_upd (o := HO.tup [V.int e.1, V.int e.2]) ht
  have kF := keepT_upd (o := .lst (ts.map V.ref ++ [.ref tp])) (u _ _ hF1) (fun xs z => by cases z)
  have hW2 : upd (upd H1 tp (.tup [.int e.1, .int e.2])) F (.lst (ts.map V.ref ++ [.ref tp])) W = some (.lst (((plc fr es).take nw).map V.int)) := by
    rw [upd_ne fw.symm]
    exact u _ _ hW1
  have kW := keepT_upd (o := .lst ((((plc fr es).take nw).map V.int).set e.1.toNat (.int (stt fr e.2).2.2))) hW2 (fun xs z => by cases z)
  have kk := (Same.keepT u).trans (kF.trans kW)
  have D := d.same u
  refine ⟨⟨ts ++ [tp], l1, k1, by rw [List.map_append, upd_ne fw]; exact upd_same, (ha.same kk).snoc (kW _ _ (kF _ _ upd_same)), ?_, n1, n2, n3, n4, n5, n6, hk, ⟨(D.at_.upd n2 n3 n1).upd n5 n6 n4, D.hl, fun b o z h1 h2 => ?_⟩⟩, hF, hW, fw⟩
  · rw [upd_same, plc_snoc, List.take_set, List.map_set]
  · rw [upd_ne (ne_of_none z hW), upd_ne (ne_of_none z hF)]
    exact D.kp b o z h1 h2
/-- the standings of the writers -/
theorem plc_ok {fr : List T3} {last : Nat} (fm : Frm fr last) {es : List E2} (h : ∀ e ∈ es, Ent fr e) : ∀ g ∈ plc fr es, 0 ≤ g ∧ g ≤ last := by
  refine snoc_ind (p := fun es => (∀ e ∈ es, Ent fr e) → ∀ g ∈ plc fr es, 0 ≤ g ∧ g ≤ last) (fun _ g hg => ?_) (fun l e ih h g hg => ?_) es h
  · have z : g = 0 := by
      have := List.eq_of_mem_replicate (show g ∈ List.replicate 8 (0 : Int) from hg)
      exact this
    subst z
    omega
  · rw [plc_snoc] at hg
    rcases List.mem_or_eq_of_mem_set hg with z | z
    · exact ih (fun e he => h e (List.mem_append_left _ he)) g z
    · obtain ⟨_, _, n0, n1⟩ := h e (List.mem_append_right _ (List.mem_singleton.mpr rfl))
      have hm : stt fr e.2 ∈ fr := by
        obtain ⟨k, hk⟩ := Int.eq_ofNat_of_zero_le n0
        unfold stt
        rw [hk] at n1 ⊢
        have kl : k < fr.length := by omega
        rw [List.getD_eq_getElem?_getD, Int.toNat_natCast, List.getElem?_eq_getElem kl]
        exact List.getElem_mem kl
      rw [z]
      exact ⟨(fm.stp _ hm).2.2.2.1, (fm.lo _ hm).2⟩
section
variable {P : Program} {w : World} {K : PySem.W.Frag} {mg : Str → Option Value} {base : Heap}
structure Lw (K : PySem.W.Frag) (mg : Str → Option Value) where
  G : Lf K mg
  f1 : Addr
  d1 : FuncData
  F : Fun K "_law_from" "_law_from" sFrom f1 d1
  bF : Binds K d1 ["framing", "here"] []
  gF : mg "_law_from" = some (.ref f1)
theorem scFrom : FnScope ["framing", "here", "number", "step"] ["framing", "here"] (defScope sFrom) := ⟨rfl, rfl, rfl, by decide +kernel, rfl, by decide +kernel, by decide +kernel⟩
theorem ok_from (G : Lw K mg) : FnOk P w K mg base CX0 1 G.f1 G.d1 ["framing", "here"] spFrom := by
  refine G.F.ok scFrom (fun vs H Q E h => ?_) (fun cdv A outer s H vs Q E hr h => ?_)
  · obtain ⟨f, fr, last, h, rfl, _⟩ := h
    rfl
  · obtain ⟨f, fr, last, h, rfl, fa, fm, q⟩ := h
    refine ⟨_, pss_one (ps_ret (pe_lc (own := [("number", 2), ("step", 3)]) (g := gTup K 2 (gCons (gName 2) (gCons (gName 3) gNil))) (tt := tTest (tOp rEq (tOp (rIxT K) (tVar 3) (tC (.int 0))) (tVar 1))) (te := tVar 2) rfl scFrom.nd (pi_enumT (by rfl) G.G.en (pa_cons (pv 0) pa_nil))
      (blkOk_by (N := ["framing", "here", "number", "step"]) (sc := defScope sFrom) (by decide +kernel))
      (fun _ _ _ _ _ => pg_tup rfl (pgs_cons (pg_name (i := 2) scFrom.nd rfl (Or.inl rfl)) (pgs_cons (pg_name (i := 3) scFrom.nd rfl (Or.inl rfl)) pgs_nil)))
      (fun _ _ _ _ _ => pts_one (pt_cmpR op_eq (pe_ix ix_tup (pv 3) pe_int (fun _ _ => rfl)) (pv 1) (nomark _))) (fun _ _ _ _ _ => pv 2))), ?_⟩
    obtain ⟨ts, hf, hl, ht⟩ := id fa
    have l1 := fm.l1
    refine ⟨_, rfl, f, _, rfl, SqT.of hf, fun D hD => ?_⟩
    refine lc_it (walk_enumT (xs := ts.map V.ref)) (fun i H' => ∃ ns : List Int, H' D = some (.lst (ns.map V.int)) ∧ ns.length ≤ i ∧ (∀ n ∈ ns, 0 ≤ n ∧ n < fr.length ∧ (stt fr n).1 = h) ∧ (∀ (j : Nat) x, j < i → fr[j]? = some x → x.1 = h → ns ≠ []) ∧ ∀ b o, H b = some o → H' b = some o)
      ⟨[], upd_same, Nat.le_refl _, (fun n h => by cases h), (fun j x hj => absurd hj (by omega)), fun b o z => same_upd hD b o z⟩ (fun i H' _ ⟨_, _, _, _, _, z⟩ => SqT.of (z _ _ hf)) ?_ ?_
    · rintro i x H1 H2 hi ⟨ns, hn, nl, nk, nz, kp⟩ ⟨T, xi, xo, rfl, nT, rfl, h1, h2⟩
      cases h1
      obtain ⟨t, y, hy, rfl, e4⟩ := at_step (i := i) hl ht h2
      have uT := same_upd (o := HO.tup [V.int (i : Nat), V.ref t]) nT
      have s3 : Same H _ := (show Same H H1 from kp).trans uT
      have il : i < fr.length := (List.getElem?_eq_some_iff.mp hy).1
      have es : stt fr (i : Int) = y := by
        unfold stt
        rw [List.getD_eq_getElem?_getD, Int.toNat_natCast, hy]
        rfl
      refine ⟨T, _, rfl, SqT.of upd_same, rfl, _, _, rfl, _, _, rfl, rfl, rfl, ?_⟩
      refine ⟨_, rfl, t, _, 0, _, rfl, rfl, SqT.of (s3 _ _ e4), atI_nat (j := 0) rfl, _, rfl, rfl, _, rfl, ?_⟩
      refine ite2 (fun z => ?_) (fun z => ?_)
      · have z1 : y.1 = h := V.int.inj (of_decide_eq_true z)
        refine ⟨_, rfl, _, uT _ _ hn, ?_, ns ++ [(i : Int)], ?_, ?_, fun n hn2 => ?_, fun j x _ _ _ => by simp, fun b o w => ?_⟩
        · rw [List.length_map, sizeLine_eq]
          omega
        · rw [List.map_append]
          exact upd_same
        · rw [List.length_append]
          simp only [List.length_cons, List.length_nil]
          omega
        · rcases List.mem_append.mp hn2 with h3 | h3
          · exact nk n h3
          · have e2 : n = (i : Int) := by simpa using h3
            subst e2
            rw [es]
            exact ⟨by omega, by omega, z1⟩
        · rw [upd_ne (ne_of_none w hD)]
          exact s3 _ _ w
      · have z1 : ¬ y.1 = h := fun e => z (decide_eq_true (congrArg V.int e))
        refine ⟨ns, uT _ _ hn, by omega, nk, fun j x hj hx he => ?_, fun b o w => s3 _ _ w⟩
        by_cases e : j = i
        · subst e
          rw [hy] at hx
          exact absurd he (by rw [← Option.some.inj hx]; exact z1)
        · exact nz j x (by omega) hx he
    · rintro H1 ⟨ns, hn, nl, nk, nz, kp⟩
      rw [List.length_map, hl] at nl nz
      refine q H1 D ns kp hD hn (by omega) nk (fun ⟨x, hx, he⟩ => ?_)
      obtain ⟨j, hj, e⟩ := List.getElem_of_mem hx
      exact nz j x hj (by rw [List.getElem?_eq_getElem hj, e]) he
end
end K39

set_option Elab.async false
set_option linter.all false
set_option maxRecDepth 100000
set_option maxHeartbeats 4000000
/-! try: .. except (A, B, ..) as e: the caught error is kept as a value behind the suite. Raising an own exception that was made by its own __init__. -/
namespace L2
namespace EV
open PySem PySem.Spec PyProof.Rows _root_.EV
/-- an exception that was caught, at a -/
def exh (cls : Value) (d : Option Addr) (a : Addr) : HO := .ext fun h => ∃ (oe : Obj) (vs : Array Value), h.get? a = some oe ∧ Zc cls d oe ∧ oe.data = .fields vs
theorem exh_ok {P : Program} {w : World} {H : Hp} {h : Heap} {a : Addr} {cls : Value} {d : Option Addr} {oe : Obj} {vs : Array Value} (e : h.get? a = some oe) (z : Zc cls d oe) (hd : oe.data = .fields vs) : ObjOk P w H h a (exh cls d a) :=
  ⟨⟨oe, vs, e, z, hd⟩, ⟨oe, e⟩, fun _ _ ⟨o, v, q, r⟩ k => ⟨o, v, k o q, r⟩⟩
theorem exh_at {P : Program} {w : World} {H : Hp} {h : Heap} {a : Addr} {cls : Value} {d : Option Addr} (hok : HOk P w H h) (e : H a = some (exh cls d a)) : ∃ (oe : Obj) (vs : Array Value), h.get? a = some oe ∧ Zc cls d oe ∧ oe.data = .fields vs := by
  have q : ObjOk P w H h a (.ext fun h => ∃ (oe : Obj) (vs : Array Value), h.get? a = some oe ∧ Zc cls d oe ∧ oe.data = .fields vs) := hok a _ e
  exact q.1
theorem flies_keeps {B : Heap} {l : List Env} {a : Addr} {Z : Obj → Prop} {h h' : Heap} (f : HandSPX.FlyingZ B l a Z h) (k : ∀ b o, h.get? b = some o → h'.get? b = some o) : HandSPX.FlyingZ B l a Z h' := by
  obtain ⟨f1, f2, f3, oe, vs, T, oT, ts, e1, e2, e3, e4, e5, e6, e7, e8, e9⟩ := f
  exact ⟨fun b o q => k b o (f1 b o q), f2, f3.of_keeps fun b o q _ => ⟨o, k b o q, rfl⟩, oe, vs, T, oT, ts, k _ _ e1, e2, e3, e4, e5, e6, k _ _ e7, e8, e9⟩
/-! ### does one of several classes match -/
section
variable {M : Model} {K : PySem.W.Frag} {h : Heap} {cls : Value}
theorem all_cls : ∀ {cs : List Value} {b : Bool}, PySem.W.exmAny K cls cs = some b → ∀ c ∈ cs, ∃ v, PySem.W.exmOne K cls c = some v
  | c :: r, b, e, x, hx => by
    obtain ⟨b1, d1, h1, h2, _⟩ := PySem.W.exmAny_cons e
    rcases List.mem_cons.mp hx with rfl | hx
    · exact ⟨_, h1⟩
    · exact all_cls h2 x hx
section
variable {A : Around} {E : Value → Shared → Prop} {s : Shared}
theorem loop_exc (X : K.In h) (k0 : ∀ b o, h.get? b = some o → s.heap.get? b = some o) {R : PUnit → Shared → Prop} (r : R ⟨⟩ s) : ∀ l : List Value, (∀ c ∈ l, ∃ v, PySem.W.exmOne K cls c = some v) →
    wpAny M A (forIn l PUnit.unit fun c _ => do
        if (!(← isExcClass c)) = true then do
          rule "try.except-non-exception-class"
          raiseErrorWords "TypeError" "catching classes that do not inherit from BaseException is not allowed"
          pure (ForInStep.yield PUnit.unit)
        else pure (ForInStep.yield PUnit.unit)) R E s := by
  intro l
  induction l with
  | nil => exact fun _ => wpAny_pure r
  | cons c l ih =>
    intro hl
    obtain ⟨v, hv⟩ := hl c (List.mem_cons_self ..)
    obtain ⟨i1, _⟩ := PySem.W.exm_cls (M := M) X hv
    rw [List.forIn_cons]
    refine wpAny_bind (wpAny_bind ((i1.keeps k0).here ?_))
    simp only [Bool.not_true, Bool.false_eq_true, if_false]
    exact wpAny_pure (ih fun x hx => hl x (List.mem_cons_of_mem _ hx))
theorem loop_sub (X : K.In h) (k0 : ∀ b o, h.get? b = some o → s.heap.get? b = some o) {R : Option Bool × Unit → Shared → Prop} : ∀ (l : List Value) (b : Bool), PySem.W.exmAny K cls l = some b → R (if b = true then (some true, ()) else (none, ())) s →
    wpAny M A (forIn l ((none, ()) : Option Bool × Unit) fun c _ => do
        if (← isSubtype cls c) = true then pure (ForInStep.done (some true, ())) else pure (ForInStep.yield (none, ()))) R E s := by
  intro l
  induction l with
  | nil =>
    intro b e r
    have : some false = some b := e
    cases this
    exact wpAny_pure r
  | cons c l ih =>
    intro b e r
    obtain ⟨b1, d1, h1, h2, rfl⟩ := PySem.W.exmAny_cons e
    obtain ⟨_, S1⟩ := PySem.W.exm_cls (M := M) X h1
    rw [List.forIn_cons]
    refine wpAny_bind (wpAny_bind ((S1.keeps k0).here ?_))
    cases b1 with
    | true =>
      rw [Bool.true_or] at r
      simp only [if_true]
      exact wpAny_pure (wpAny_pure r)
    | false =>
      rw [Bool.false_or] at r
      simp only [Bool.false_eq_true, if_false]
      exact wpAny_pure (ih _ h2 r)
end
theorem match_list {cs : List Value} {b : Bool} {tp e : Addr} (X : K.In h) (LT : PySem.W.Looks M h (typeOf (.ref e)) cls) (hp : h.get? tp = some { cls := .type "tuple", data := .seq cs.toArray }) (hx : PySem.W.exmAny K cls cs = some b) :
    PySem.W.Looks M h (excMatches (.ref e) (.ref tp)) b := by
  intro A Q E s k0 q
  have L0 : PySem.W.Looks M h (isInstance (.ref tp) (.type "tuple")) true := ((PySem.W.Looks.ld hp).andThen .now).andThen (PySem.W.Looks.of_pure isSubtype_tuple_tuple)
  have hp' := k0 _ _ hp
  unfold excMatches
  refine wpAny_bind ((L0.keeps k0).here ?_)
  rw [if_pos rfl]
  have ec : ((some cs.toArray).getD #[]).toList = cs := by simp
  refine wpAny_bind ?_
  refine wpAny_seqItems hp' rfl ?_
  refine wpAny_bind (wpAny_pure ?_)
  show wpAny _ _ (do
      forIn ((some cs.toArray).getD #[]).toList PUnit.unit _
      _) _ _ _
  rw [ec]
  refine wpAny_bind (loop_exc X k0 ?_ cs (all_cls hx))
  refine wpAny_bind ((LT.keeps k0).here ?_)
  refine wpAny_bind (loop_sub X k0 cs b hx ?_)
  cases b with
  | true => exact wpAny_pure q
  | false => exact wpAny_pure q
end
/-! ### the rule -/
/-- classes by their names -/
inductive ClsL (X : Cx) : List Expr → List Value → Prop
  | nil : ClsL X [] []
  | cons {x : Str} {c : Value} {p : Pos} {es : List Expr} {cs : List Value} : Names X x c → ClsL X es cs → ClsL X (.Name x p :: es) (c :: cs)
theorem ClsL.suite {X : Cx} {a : Addr} {pn : List (Addr × Obj)} : ∀ {es : List Expr} {cs : List Value}, ClsL X es cs → ClsL (X.suite a pn) es cs
  | _, _, .nil => .nil
  | _, _, .cons hc r => .cons (X := X.suite a pn) hc r.suite
theorem cls_read {Y : Cx} {pins : List (Addr × Obj)} {σ : St} {H : Hp} {s : Shared} (I : Inv Y pins σ H s) {pos : Pos} {E : Value → Shared → Prop} : ∀ {es : List Expr} {cs : List Value} {Q : List Value → Shared → Prop}, ClsL Y es cs → Q cs s →
    wpAny (model Y.prog Y.w) Y.A (spliced (backTo pos (starEach es Y.env))) Q E s
  | _, _, _, .nil, q => wpAny_items_nil q
  | _, _, Q, .cons (c := c) (es := es) (cs := cs) hc r, q => wpAny_items_cons (by
      have rest : wpAny (model Y.prog Y.w) Y.A (spliced (backTo pos (starEach es Y.env))) (fun vs s2 => Q (c :: vs) s2) E s := cls_read I r q
      obtain ⟨hg, hd, hm | ⟨hm, hv, hn⟩⟩ := hc
      · exact ld_glob I hg hm rest hd
      · exact ld_blt I hg hm hv rest hn hd)
theorem ClsL.len {X : Cx} : ∀ {es : List Expr} {cs : List Value}, ClsL X es cs → cs.length = es.length
  | _, _, .nil => rfl
  | _, _, .cons _ r => by rw [List.length_cons, List.length_cons, r.len]
/-- what is pinned is tracked from now on -/
theorem inv_hold {X : Cx} {pins : List (Addr × Obj)} {σ : St} {H : Hp} {s : Shared} {a : Addr} {oe : Obj} {vs : Array Value} {cls : Value} {d : Option Addr} (I : Inv X ((a, oe) :: pins) σ H s) (hm : ∀ p, p ∈ (a, oe) :: (X.pn ++ pins) → p ∈ X.pn ++ ((a, oe) :: pins)) (z : Zc cls d oe) (hd : oe.data = .fields vs)
    (n0 : X.s_0.heap.get? a = none) (np : ∀ p ∈ X.pn ++ pins, p.1 ≠ a) : Inv X pins σ (upd H a (exh cls d a)) s := by
  obtain ⟨e, n, ne, nf, dc⟩ := I.pin (a, oe) (hm _ (List.mem_cons_self ..))
  have ne : a ≠ X.env.locals := ne
  have n : H a = none := n
  have old : ∀ b o, X.s_0.heap.get? b = some o → b ≠ a := fun b o q z => by
    rw [z, n0] at q
    cases q
  refine ⟨I.ok, I.os, I.bare, ⟨I.base.keep, I.base.slot, fun b o q m hx => ?_, I.base.there, fun b xs q => ?_, fun b o u q => ?_, fun b ps q => ?_⟩, I.loc, I.cell, ?_, fun x c q => ?_, fun p hp => ?_, ?_, I.len⟩
  · rw [upd_ne (old b o q)]
    exact I.base.free b o q m hx
  · have z := I.base.tups b xs q
    rw [upd_ne (ne_of_none z n)]
    exact z
  · have z := I.base.frzs b o u q
    rw [upd_ne (ne_of_none z n)]
    exact z
  · obtain ⟨m, z⟩ := I.base.tbls b ps q
    exact ⟨m, by rw [upd_ne (ne_of_none z n)]; exact z⟩
  · rw [upd_ne ne.symm]
    exact I.free
  · have nc : c ≠ a := fun z => by
      obtain ⟨v, o, q1, q2⟩ := I.cell x c q
      rw [z] at q1
      have e' : s.heap.get? a = some oe := e
      rw [e'] at q1
      cases q1
      rw [hd] at q2
      cases q2
    rw [upd_ne nc]
    exact I.freeC x c q
  · obtain ⟨e1, e2, e3, e4, e5⟩ := I.pin p (hm p (List.mem_cons_of_mem _ hp))
    exact ⟨e1, by rw [upd_ne (np p hp)]; exact e2, e3, e4, e5⟩
  · exact I.hok.laidN (fun _ _ q => q) n (exh_ok e z hd)
/-- what the clause wishes of an exception of the body: it is of one of the classes; behind the suite it stands at a -/
def wKeep (K : PySem.W.Frag) (n : Nat) (cs : List Value) (i : Nat) (ts : Addr → Value → Option Addr → TS) (D : Ends) : WX := fun cls d σ H => σ.length = n → PySem.W.exmAny K cls cs = some true ∧
  ∀ a, H a = none → ts a cls d { nx := fun σ' H' => D.nx (σ'.set i none) (upd H' a (exh cls d a)), rt := fun _ _ => False } (σ.set i (some (.ref a))) H
section
variable {X : Cx} {n : Str} {cs : List Value} {es : List Expr} {kx i : Nat} {body suite : List Stmt} {b0 : Stmt} {tpos pos hpos : Pos} {tb : WX → TS} {ts : Addr → Value → Option Addr → TS}
theorem ps_try_keep (hs : X.stack = X.env :: X.outer) (hf : X.env.frame = some X.env.locals) (hex : X.ex = []) (hN : X.N.Nodup) (hi : X.N[i]? = some n) (hln : X.env.kindOf n = some .local) (hc : ClsL X es cs) (hl : es.length ≤ 1000)
    (hb : ∀ (W : WX) (pn : List (Addr × Obj)) (xe : Value → Shared → Prop), Takes (X.tr pn xe) W → PassesOwn (model X.prog X.w) X.A X.env xe → PSs (X.tr pn xe) body (tb W))
    (hsu : ∀ (a : Addr) (oe : Obj) (cls : Value) (d : Option Addr) (pn : List (Addr × Obj)), Zc cls d oe → (∃ vs, oe.data = .fields vs) → PSs (X.suite a ((a, oe) :: pn)) (b0 :: suite) (ts a cls d)) :
    PS X (.Try body [.ExceptHandler (some (.Tuple es kx tpos)) (some n) (b0 :: suite) hpos] [] [] pos) (fun D σ H => tb (wKeep X.K X.N.length cs i ts D) D σ H) := by
  refine ⟨fun pins s σ H D I h => ?_⟩
  have ok := I.ok
  have hfr : X.A.frames = some (X.env :: X.outer) := by rw [ok.frames, hs]
  have loc : Loc X.env.scope n := .inl hln
  have B0 := hb (wKeep X.K X.N.length cs i ts D) (X.pn ++ pins) (fun e s1 => wpAny (model X.prog X.w) X.A (noteFrame e X.env) (fun _ s2 => wpAny (model X.prog X.w) X.A (setFlight e none) (fun _ s3 =>
    wpAny (model X.prog X.w) X.A (handleBy e X.env [.ExceptHandler (some (.Tuple es kx tpos)) (some n) (b0 :: suite) hpos]) (SP X pins D) X.xe s3) X.xe s2) X.xe s1)
  refine wpAny_Try_except (wpAny_mono ((B0 (fun u s' caught => ?_) PassesOwn.looking).run [] s σ H D (I.toTry _) h) (fun f s1 went => ?_) fun _ _ z => z)
  · obtain ⟨a, B, sI, pins', σ', H', cls, d, rfl, J', nb, up, sky, na, os, ag, hW⟩ := caught
    obtain ⟨hit, hyes⟩ := hW J'.len
    have J : Inv X pins σ' H' sI := J'.ofTry ok
    show wpAny (model X.prog X.w) X.A (noteFrame (.ref a) X.env) _ _ _
    refine Sky.land Zc.steady hfr hf (by rw [← hs]; exact sky) fun h3 fl3 up3 => ?_
    have J3 : Inv X pins σ' H' { s' with heap := h3 } := J.landed nb fl3.1 (up.trans up3) os ag
    obtain ⟨oe3, vs3, he3, hz3, hd3⟩ := fl3.there
    have nfr : a ∉ frs (X.env :: X.outer) := fun hm => by
      obtain ⟨_, o, q, nd⟩ := fl3.2.2.1.mem hm
      rw [he3] at q
      cases q
      exact nd _ hd3
    have nL : a ≠ X.env.locals := fun z => nfr (List.mem_filterMap.mpr ⟨X.env, List.mem_cons_self, by rw [hf, z]⟩)
    have nF : a ∉ X.fs := fun hm => by
      obtain ⟨e, he, q⟩ := List.mem_filterMap.mp hm
      exact nfr (List.mem_filterMap.mpr ⟨e, List.mem_cons_of_mem _ he, q⟩)
    have nI : sI.heap.get? a = none := by
      cases q : sI.heap.get? a with
      | none => rfl
      | some o =>
        have z := nb a o q (by rw [hs]; exact nfr)
        rw [fl3.2.1] at z
        cases z
    have n0 : X.s_0.heap.get? a = none := by
      cases q : X.s_0.heap.get? a with
      | none => rfl
      | some o =>
        obtain ⟨o', z⟩ := J.base.there a o q (by rw [hex]; exact fun z => nomatch z)
        rw [nI] at z
        cases z
    have np : ∀ p ∈ X.pn ++ pins, p.1 ≠ a := fun p hp z => by
      have q := (J.pin p hp).1
      rw [z, nI] at q
      cases q
    have S3 := J3.suite he3 hd3 na nL nF
    refine wpAny_handleBy_cons (codeAny_handlers_test ?_) (by intro q; cases q)
    refine wpAny_Tuple (cls_read S3 hc.suite ⟨by rw [hc.len, sizeLine_eq]; omega, ?_⟩)
    have k5 : ∀ b o, h3.get? b = some o → (h3.push { cls := .type "tuple", data := .seq cs.toArray }).get? b = some o := fun _ _ z => Heap.get?_push_of_some _ z
    have LT : PySem.W.Looks (model X.prog X.w) (h3.push { cls := .type "tuple", data := .seq cs.toArray }) (typeOf (.ref a)) cls := fun A Q E s k q => wpAny_typeOf_ref (k _ _ (k5 _ _ he3)) (by rw [hz3.1]; exact q)
    refine (match_list (M := model X.prog X.w) (J3.kIn.keeps k5) LT (Heap.get?_push_size h3 rfl) hit).here ?_
    refine codeAny_handlers_suite_as ?_
    refine HandSPX.lands_againZ (flies_keeps fl3 k5) fun h4 fl4 up4 => ?_
    have J4 : Inv X pins σ' H' { s' with heap := h4 } := J.landed nb fl4.1 (((up.trans up3).trans (Heap.UpToSlots.of_keeps k5)).trans up4) os ag
    obtain ⟨oe4, vs4, he4, hz4, hd4⟩ := fl4.there
    have S4 := J4.suite he4 hd4 na nL nF
    refine store_ok (X := X.suite a ((a, oe4) :: (X.pn ++ pins))) (v := .ref a) S4 hN hi loc rfl (fun s5 S5 => ?_) (.inr hln)
    refine wpAny_mono ((hsu a oe4 cls d (X.pn ++ pins) hz4 ⟨_, hd4⟩).run [] s5 _ H' _ S5 (hyes a na)) (fun f s6 hsp => ?_) (fun _ _ z => False.elim z)
    cases f with
    | next =>
      obtain ⟨σ6, H6, S6, q6⟩ := hsp
      have K6 : Inv X ((a, oe4) :: pins) σ6 H6 s6 := ⟨ok, S6.os, S6.bare, S6.base, S6.loc, S6.cell, S6.free, S6.freeC, fun p hp => S6.pin p (by
        show p ∈ ((a, oe4) :: (X.pn ++ pins)) ++ []
        rw [List.append_nil]
        rcases List.mem_append.mp hp with z | z
        · exact List.mem_cons_of_mem _ (List.mem_append_left _ z)
        · rcases List.mem_cons.mp z with z | z
          · rw [z]
            exact List.mem_cons_self ..
          · exact List.mem_cons_of_mem _ (List.mem_append_right _ z)), S6.hok, S6.len⟩
      refine gone_ok K6 hN hi hln fun s7 J7 => ⟨_, _, inv_hold J7 (fun p hp => ?_) hz4 hd4 n0 np, q6⟩
      rcases List.mem_cons.mp hp with z | z
      · rw [z]
        exact List.mem_append_right _ (List.mem_cons_self ..)
      · rcases List.mem_append.mp z with z | z
        · exact List.mem_append_left _ z
        · exact List.mem_append_right _ (List.mem_cons_of_mem _ z)
    | brk =>
      obtain ⟨_, _, _, z⟩ := hsp
      exact False.elim z
    | cont =>
      obtain ⟨_, _, _, z⟩ := hsp
      exact False.elim z
    | ret u =>
      obtain ⟨_, _, _, _, _, z⟩ := hsp
      exact False.elim z
  · cases f with
    | next =>
      obtain ⟨σ', H', J', q⟩ := went
      exact wpAny_execs_nil ⟨σ', H', J'.ofTry ok, q⟩
    | brk =>
      obtain ⟨σ', H', J', q⟩ := went
      exact ⟨σ', H', J'.ofTry ok, q⟩
    | cont =>
      obtain ⟨σ', H', J', q⟩ := went
      exact ⟨σ', H', J'.ofTry ok, q⟩
    | ret u =>
      obtain ⟨v, σ', H', J', r, q⟩ := went
      exact ⟨v, σ', H', J'.ofTry ok, r, q⟩
end
/-! ### raise C(..), C with its own __init__ -/
theorem pmk_own2 {X : Cx} {e : Expr} {te : TE} (hx : X.ex = []) (he : PE X e te) :
    PMk X e (fun σ H Q => te σ H fun x H1 => ∃ (a C : Addr) (od : Option Addr), x = .ref a ∧ H1 a = some (exo a C od) ∧ Fr0 X.H_0 a ∧ Raises X (.ref C) ∧ Q (.ref C) od (delH H1 a)) := by
  intro pins s σ H Q I h
  refine wpAny_mono (he.run pins s σ H _ I h) (fun u s1 hu => ?_) fun _ _ x => x
  obtain ⟨v, H1, I1, r1, a, C, od, rfl, ha, h0, hr, q⟩ := hu
  cases r1
  obtain ⟨t1, ho⟩ := exo_at I1.hok ha
  obtain ⟨G, gs, ga, J⟩ := I1.untrack ha h0 hx
  exact ⟨a, _, _, { s1 with heap := G }, delH H1 a, .ref C, od, rfl, J, gs, ga, ho, ⟨rfl, rfl⟩, rfl, rfl, delH_same, rfl, I1.bare, hr, q⟩
/-! ### isinstance of a caught one -/
def rIsC (K : PySem.W.Frag) : List V → Hp → VK → Prop := fun xs H Q => ∃ (a C : Addr) (B newId initId : String) (bm : List Value) (c : V) (u : Value) (b : Bool),
  xs = [.ref a, c] ∧ ClsV c u ∧ OxC K C B newId initId bm ∧ H a = some (exh (.ref C) none a) ∧ PySem.W.kitOne K (.ref C) u = some b ∧ Q (.bl b) H
theorem call_isC {X : Cx} : CallR X (.builtin "isinstance") (rIsC X.K) := by
  intro pins s σ H xs us Q I r h
  obtain ⟨a, C, B, newId, initId, bm, c, u, b, rfl, k, T, ea, e, q⟩ := h
  obtain ⟨u1, u2, rfl, r1, r2⟩ := vals2 r
  have e2 := k.eq r2
  subst e2
  obtain rfl : u1 = Value.ref a := r1
  obtain ⟨oe, vs, ho, hz, hd⟩ := exh_at I.hok ea
  obtain ⟨cd, hcl, _⟩ := T.data
  have some_ : (PySem.W.clsIn X.K C).isSome = true := by rw [hcl]; rfl
  have J : PySem.W.InstAt s.heap a oe C none := ⟨ho, hz.1, by unfold PySem.W.notCls; rw [hd], by rw [hz.2]; exact trivial⟩
  exact PySem.W.kia_one (PySem.W.kitx_exc some_ T.ga T.gg T.exC T.ca T.cn T.ct T.om) I.kIn J e (fun z => nomatch z) fun tk => ⟨.bl b, H, I.tok tk, rfl, q⟩
end EV
end L2

set_option Elab.async false
set_option linter.all false
set_option maxRecDepth 100000
set_option maxHeartbeats 4000000
/-! The nine classes: their __init__, message. -/
namespace K39
open PySem L2 L2.EV
/-! ### the arguments -/
mutual
theorem dp_same {K : PySem.W.Frag} {H H' : Hp} (s : Same H H') : ∀ (d : PyData) (v : V), Dp K H v d → Dp K H' v d
  | .none, _, h => by cases h; exact .non
  | .bool b, _, h => by cases h; exact .bl b
  | .int i, _, h => by cases h; exact .int i
  | .str x, _, h => by cases h; exact .str x
  | .list ds, _, h => by
    cases h with
    | lst hs ha => exact .lst (s.seq hs) (dpall_same s ds _ ha)
  | .tuple ds, _, h => by
    cases h with
    | tup hs ha =>
      refine .tup ?_ (dpall_same s ds _ ha)
      rcases hs with (q | ⟨o, q⟩) | q
      · exact .inl (.inl (s _ _ q))
      · exact .inl (.inr ⟨o, s _ _ q⟩)
      · exact .inr q
  | .dict _, _, h => by cases h
theorem dpall_same {K : PySem.W.Frag} {H H' : Hp} (s : Same H H') : ∀ (ds : List PyData) (vs : List V), DpAll K H vs ds → DpAll K H' vs ds
  | [], _, h => by cases h; exact .nil
  | d :: ds, _, h => by
    cases h with
    | cons h1 h2 => exact .cons (dp_same s d _ h1) (dpall_same s ds _ h2)
end
/-- what may be handed to an error, and the data that it is -/
inductive Arg (K : PySem.W.Frag) (H : Hp) : V → PyData → Prop
  | non : Arg K H .non .none
  | bl (b : Bool) : Arg K H (.bl b) (.bool b)
  | int (i : Int) : Arg K H (.int i) (.int i)
  | str (x : Str) : Arg K H (.str x) (.str x)
  | lst {a : Addr} {xs : List V} {ds : List PyData} : H a = some (.lst xs) → DpAll K H xs ds → PyData.hasDict (.list ds) = false → Arg K H (.ref a) (.list ds)
  | tup {a : Addr} {xs : List V} {ds : List PyData} : H a = some (.tup xs) → DpAll K H xs ds → PyData.hasDict (.tuple ds) = false → Arg K H (.ref a) (.tuple ds)
  | dct {a : Addr} : H a = some (.dK [(Sum.inr "a", V.int 1)]) → Arg K H (.ref a) (.dict [(.str "a", .int 1)])
theorem Arg.same {K : PySem.W.Frag} {H H' : Hp} {v : V} {d : PyData} (h : Arg K H v d) (s : Same H H') : Arg K H' v d := by
  cases h with
  | non => exact .non
  | bl b => exact .bl b
  | int i => exact .int i
  | str x => exact .str x
  | lst e ha no => exact .lst (s _ _ e) (dpall_same s _ _ ha) no
  | tup e ha no => exact .tup (s _ _ e) (dpall_same s _ _ ha) no
  | dct e => exact .dct (s _ _ e)
theorem Arg.ty {K : PySem.W.Frag} {H : Hp} {v : V} {d : PyData} (h : Arg K H v d) : ∃ (t : Value) (b : Bool), TyX K H v t ∧ PySem.W.kitOne K t (.type "str") = some b := by
  cases h with
  | non => exact ⟨_, _, .base .non, kit_ty (r := false) (by decide +kernel)⟩
  | bl b => exact ⟨_, _, .base (.bl b), kit_ty (r := false) (by decide +kernel)⟩
  | int i => exact ⟨_, _, .base (.int i), kit_ty (r := false) (by decide +kernel)⟩
  | str x => exact ⟨_, _, .base (.str x), kit_ty (r := true) (by decide +kernel)⟩
  | lst e _ _ => exact ⟨_, _, .base (.lst e), kit_ty (r := false) (by decide +kernel)⟩
  | tup e _ _ => exact ⟨_, _, .base (.tup e), kit_ty (r := false) (by decide +kernel)⟩
  | dct e => exact ⟨_, _, .base (.dK e), kit_ty (r := false) (by decide +kernel)⟩
theorem Arg.sh {K : PySem.W.Frag} {H : Hp} {v : V} {d : PyData} (h : Arg K H v d) : Sh K H v d := by
  cases h with
  | non => exact .plain .non rfl
  | bl b => exact .plain (.bl b) rfl
  | int i => exact .plain (.int i) rfl
  | str x => exact .plain (.str x) rfl
  | lst e ha no => exact .plain (.lst (SqL.of e) ha) no
  | tup e ha no => exact .plain (.tup (SqT.of e) ha) no
  | dct e => exact .one e
/-! ### promises -/
def spOne (C : Addr) (f : Str) : Sp := fun vs H Q _ => ∃ (a : Addr) (x : V), vs = [.ref a, x] ∧ H a = some (exo a C none) ∧
  ∀ dx, H dx = none → dx ≠ a → Q .non (upd (upd H dx (exd dx [(f, x)])) a (exo a C (some dx)))
def spTwo (C : Addr) (f g : Str) : Sp := fun vs H Q _ => ∃ (a : Addr) (x y : V), vs = [.ref a, x, y] ∧ H a = some (exo a C none) ∧
  ∀ dx, H dx = none → dx ≠ a → Q .non (upd (upd (upd H dx (exd dx [(f, x)])) a (exo a C (some dx))) dx (exd dx [(g, y), (f, x)]))
def spNo (K : PySem.W.Frag) (C : Addr) : Sp := fun vs H Q _ => ∃ (a : Addr) (x : V) (d : PyData), vs = [.ref a, x] ∧ H a = some (exo a C none) ∧ Arg K H x d ∧ Q .non H
def spMsg (K : PySem.W.Frag) : Sp := fun vs H Q _ => ∃ (x : V) (d : PyData), vs = [x] ∧ Arg K H x d ∧ ∀ v, Q v H
/-- what is asked of a built-in base, for B.__init__(self, ..) -/
structure BI (K : PySem.W.Frag) (mg : Str → Option Value) (nB : Str) (B initId : String) : Prop where
  mg : mg nB = none
  bt : bootBuiltins nB = some (.type B)
  ty : typeOf (.type B) = pure (.type "type")
  vV : PySem.W.findCls K (.type B) (.type "type") "__init__" = some (.val (.builtin initId))
  st : Manifest.isStub B = false
abbrev sMsg : Stmt := top 1
structure TxtM (mg : Str → Option Value) : Prop where
  isi : mg "isinstance" = none
  str : mg "str" = none
section
variable {P : Program} {w : World} {K : PySem.W.Frag} {mg : Str → Option Value} {base : Heap}
theorem scM : FnScope ["text"] ["text"] (defScope sMsg) := ⟨rfl, rfl, rfl, by decide +kernel, rfl, by decide +kernel, by decide +kernel⟩
theorem ok_msg {f : Addr} {fd : FuncData} (F : Fun K "message" "message" sMsg f fd) (T : TxtM mg) : FnOk P w K mg base CX0 1 f fd ["text"] (spMsg K) := by
  refine F.ok scM (fun vs H Q E h => ?_) (fun cdv A outer s H vs Q E hr h => ?_)
  · obtain ⟨x, d, rfl, _⟩ := h
    rfl
  · obtain ⟨x, d, rfl, ar, q⟩ := h
    refine ⟨_, pss_cons (ps_if (pt_val (pe_callB call_isi (by rfl) T.isi PyProof.Rows.boot_isinstance (pa_cons (pv 0) (pa_cons (pe_bltn (v := .ty "str") (by rfl) T.str (by decide +kernel) rfl) pa_nil)))) (pss_one (ps_ret (pv 0))) pss_nil) (pss_one (ps_ret pe_str)), ?_⟩
    obtain ⟨t, b, ty, kt⟩ := ar.ty
    refine ⟨_, rfl, x, .ty "str", t, .type "str", b, rfl, .ty "str", ty, kt, b, rfl, ?_⟩
    cases b with
    | true => exact iteT ⟨_, rfl, q _⟩
    | false => exact iteF (q _)
abbrev sOutOfPlace : Stmt := inClass (top 4) 0
theorem scOutOfPlace : FnScope ["self", "text"] ["self", "text"] (defScope sOutOfPlace) := ⟨rfl, rfl, rfl, by decide +kernel, rfl, by decide +kernel, by decide +kernel⟩
theorem ok_OutOfPlace {f C fM : Addr} {fd fdM : FuncData} (F : Fun K "__init__" "OutOfPlace.__init__" sOutOfPlace f fd) (T : OxC K C "ValueError" "ValueError.__new__" "ValueError.__init__" [.type "ValueError", .type "Exception", .type "BaseException", .type "object"]) (I : BI K mg "ValueError" "ValueError" "ValueError.__init__")
    (FM : Fun K "message" "message" sMsg fM fdM) (bM : Binds K fdM ["text"] []) (mM : mg "message" = some (.ref fM)) (TM : TxtM mg) : FnOk P w K mg base CX0 2 f fd ["self", "text"] (spNo K C) := by
  have GM : FnOk P w K mg base CX0 1 fM fdM ["text"] (spMsg K) := ok_msg FM TM
  refine F.ok scOutOfPlace (fun vs H Q E h => ?_) (fun cdv A outer s H vs Q E hr h => ?_)
  · obtain ⟨a, x, d, rfl, _⟩ := h
    rfl
  · obtain ⟨a, x, d, rfl, e, ar, q⟩ := h
    refine ⟨_, pss_one (ps_expr (pe_bin (newId := "ValueError.__new__") (bm := [.type "ValueError", .type "Exception", .type "BaseException", .type "object"]) (by rfl) I.mg I.bt I.ty I.vV I.st (pa_cons (pv 0) (pa_cons (pe_call GM hr rfl mM FM.kp bM .nil pass0 (pa_cons (pv 1) pa_nil)) pa_nil)) rfl)), ?_⟩
    exact ⟨_, rfl, _, rfl, x, d, rfl, ar, fun v => ⟨a, C, _, rfl, by show 1 ≤ 1000; decide, T, e, q⟩⟩
end
end K39

set_option Elab.async false
set_option linter.all false
set_option maxRecDepth 100000
set_option maxHeartbeats 4000000
/-! t[::-1] of a tuple. -/
namespace L2
namespace EV
open PySem PySem.Spec PyProof.Rows _root_.EV PySem.Builtin
theorem rev_adjust (n : Nat) : Slice.sliceAdjust none none (-1) (n : Int) = ((n : Int) - 1, -1) := by
  unfold Slice.sliceAdjust
  simp
theorem rev_places (n : Nat) : Slice.slicePlaces ((n : Int) - 1) (-1) (-1) = n := by
  unfold Slice.slicePlaces
  rw [if_neg (by decide)]
  by_cases h : 0 < n
  · rw [if_pos (by omega)]
    simp only [Int.neg_neg, Int.ediv_one]
    omega
  · rw [if_neg (by omega)]
    omega
theorem fm_congr {α β : Type} {f g : α → Option β} : ∀ {l : List α}, (∀ x ∈ l, f x = g x) → l.filterMap f = l.filterMap g
  | [], _ => rfl
  | x :: l, h => by
    rw [List.filterMap_cons, List.filterMap_cons, h x (List.mem_cons_self ..), fm_congr fun y hy => h y (List.mem_cons_of_mem _ hy)]
theorem rev_pick (xs : Array Value) : ((List.range xs.size).filterMap fun (k : Nat) => xs[((xs.size : Int) - 1 + (k : Int) * -1).toNat]?) = xs.toList.reverse := by
  have e : ∀ k ∈ List.range xs.size, xs[((xs.size : Int) - 1 + (k : Int) * -1).toNat]? = xs.toList.reverse[k]? := fun k hk => by
    have hk := List.mem_range.mp hk
    have z : ((xs.size : Int) - 1 + (k : Int) * -1).toNat = xs.size - 1 - k := by omega
    rw [z, List.getElem?_reverse (by simpa using hk)]
    simp
  rw [fm_congr e]
  have g : ∀ l : List Value, (List.range l.length).filterMap (fun k => l[k]?) = l := fun l => by
    have z := PySem.W.krv_all l.toArray
    simpa using z
  have z := g xs.toList.reverse
  simpa using z
section
variable {prog : Program} {w : World} {A : Around} {E : Value → Shared → Prop} {s : Shared}
theorem rev_applied {sl : Addr} {vk : Value} {n : Nat} {Q : Int × Int × Nat → Shared → Prop} (hs : s.heap.IsSliceOf sl .none .none vk) (pk : IsPart vk (some (-1))) (h : Q ((n : Int) - 1, -1, n) s) :
    wpAny (model prog w) A (Slice.sliceApplied (.ref sl) (pure (n : Int))) Q E s := by
  obtain ⟨os, hos, _, hds⟩ := id hs
  unfold Slice.sliceApplied Slice.sliceFields
  refine wpAny_bind (wpAny_bind (wpAny_field hos hds (x := .none) rfl (wpAny_bind (wpAny_field hos hds (x := .none) rfl (wpAny_bind (wpAny_field hos hds (x := vk) rfl (wpAny_pure ?_)))))))
  refine wpAny_bind (HT.slicePart_ pk ?_)
  show wpAny _ _ (if ((-1 : Int) == 0) = true then _ else _) _ _ s
  rw [if_neg (by decide)]
  refine wpAny_bind (slicePart_none (wpAny_bind (slicePart_none (wpAny_bind (wpAny_pure ?_)))))
  show wpAny _ _ (match Slice.sliceAdjust none none (-1) (n : Int) with | (lo, hi) => pure (lo, (-1 : Int), Slice.slicePlaces lo hi (-1))) _ _ s
  rw [rev_adjust]
  show wpAny _ _ (pure ((n : Int) - 1, (-1 : Int), Slice.slicePlaces ((n : Int) - 1) (-1) (-1))) _ _ s
  rw [rev_places]
  exact wpAny_pure h
theorem rev_item {t sl : Addr} {items : Array Value} {vk : Value} {Q : Value → Shared → Prop} (ht : IsTup s.heap t items) (hs : s.heap.IsSliceOf sl .none .none vk) (pk : IsPart vk (some (-1))) (hz : items.size ≤ sizeLine)
    (h : Q (.ref s.heap.objs.size) { s with heap := s.heap.push { cls := .type "tuple", data := .seq items.toList.reverse.toArray } }) : wpAny (model prog w) A (getItem (.ref t) (.ref sl)) Q E s := by
  have ok : sizeOk (.seq items.toList.reverse.toArray) := by
    show items.toList.reverse.toArray.size ≤ sizeLine
    rw [List.size_toArray, List.length_reverse, Array.length_toList]
    exact hz
  obtain ⟨os, hos, hcs, _⟩ := id hs
  have hTs : s.TypeIs (.ref sl) "slice" := ⟨os, hos, hcs⟩
  unfold getItem
  try with_reducible refine wpAny_holding ?_
  first | refine wpAny_bind (wpAny_pure ?_) | skip
  refine wpAny_bind (wpAny_sequenceKey ht.typeIs (by decide) ?_)
  refine wpAny_bind (wpAny_callSpecial?_slot (name := Str.ofString "__getitem__") ht.typeIs PyProof.Rows.slot_tuple_getitem (wpAny_call_entry PyProof.Rows.slot_tuple_getitem ht.typeIs entry_tuple_getitem ?_ (args_tuple_getitem _ _)))
  show wpAny _ _ (Tuple.tupleItemsOf (.ref t) >>= _) _ _ s
  refine wpAny_bind (tupleItemsOf_ ht (wpAny_bind (wpAny_typeOf hTs ?_)))
  rw [if_pos (by decide)]
  refine wpAny_bind (rev_applied hs pk ?_)
  show wpAny _ _ (if ((((items.size : Nat) : Int) - 1) == 0 && (-1 : Int) == 1 && items.size == items.size) = true then _ else _) _ _ s
  rw [if_neg (by simp), rev_pick]
  first
    | exact wpAny_bind (m := Tuple.tupleExact _) (wpAny_newObj_type (wpAny_pure ⟨_, rfl, wpAny_pure h⟩) ok)
    | exact wpAny_bind (m := Tuple.tupleExact _) (wpAny_newObj_type (wpAny_bind (wpAny_pure (wpAny_pure ⟨_, rfl, wpAny_pure h⟩))) ok)
    | exact wpAny_bind (wpAny_bind (m := Tuple.tupleExact _) (wpAny_newObj_type (wpAny_pure (wpAny_pure ⟨_, rfl, wpAny_pure h⟩)) ok))
    | exact wpAny_bind (wpAny_bind (m := Tuple.tupleExact _) (wpAny_newObj_type (wpAny_pure ⟨_, rfl, wpAny_pure h⟩) ok))
end
def tRevT (K : PySem.W.Frag) (te tk : TE) : TE := fun σ H Q => te σ H fun x H1 => tPart tk σ H1 fun o H2 => o = some (-1) ∧ ∃ a xs, x = .ref a ∧ H2 a = some (.tup xs) ∧ ∀ p, H2 p = none → Q (.ref p) (upd H2 p (.tup xs.reverse))
theorem vals_revs : ∀ {zs : List V} {ws : List Value}, Vals zs ws → Vals zs.reverse ws.reverse
  | _, _, .nil => .nil
  | _, _, .cons r t => by
    rw [List.reverse_cons, List.reverse_cons]
    exact (vals_revs t).append (.cons r .nil)
section
variable {X : Cx} {e k : Expr} {te tk : TE} {pos p2 : Pos}
theorem pe_revT {ops : Value → Value → List Value} (he : PE X e te) (hk : PE X k tk) (hs : ∀ o i : Value, subscripted (.Slice none none (some k) p2) false o i = operate (ops o i) (getItem o i)) : PE X (.Subscript e (.Slice none none (some k) p2) pos) (tRevT X.K te tk) := by
  refine ⟨fun pins s σ H Q I h => ?_⟩
  refine Subscript_ (thn (he.run pins s σ H _ I h) fun v s1 ⟨x, H1, I1, r1, q1⟩ => ?_)
  refine wpAny_Slice (thn (po_none.run pins s1 σ H1 (fun o H' => o = none ∧ H' = H1) I1 ⟨rfl, rfl⟩) fun vl s2 ⟨l, H2, I2, pl, q2⟩ => thn (po_none.run pins s2 σ H2 (fun o H' => o = none ∧ H' = H2) I2 ⟨rfl, rfl⟩) fun vu s3 ⟨u, H3, I3, pu, q3⟩ => ?_)
  obtain ⟨rfl, rfl⟩ := q2
  obtain ⟨rfl, rfl⟩ := q3
  cases pl
  cases pu
  refine thn ((po_some hk).run pins s3 σ _ _ I3 q1) fun vk s4 ⟨o, H4, I4, pk, ho, a, xs, ex, ea, q4⟩ => ?_
  subst ex ho
  obtain rfl : v = Value.ref a := r1
  have I5 : Inv X pins σ H4 { s4 with heap := s4.heap.push { cls := .type "slice", data := .fields #[.none, .none, vk] } } := I4.kept (t' := s4.toks) fun b ob q => Heap.get?_push_of_some _ q
  obtain ⟨its, r, ht, hz⟩ := I5.tuple (SqT.of ea)
  have hg := rev_item (prog := X.prog) (w := X.w) (A := X.A) (E := X.xe) (Q := EP X pins σ Q) (s := { s4 with heap := s4.heap.push { cls := .type "slice", data := .fields #[.none, .none, vk] } }) ht (Heap.IsSliceOf.new ..) pk (by rw [List.size_toArray, ← r.length]; exact hz) ?_
  · exact tail_any ht.typeIs PyProof.Rows.slot_tuple_getitem.lookup hg (hs _ _)
  · rw [List.toList_toArray]
    have fr : H4 (s4.heap.push { cls := .type "slice", data := .fields #[.none, .none, vk] }).objs.size = none := I5.hok.fresh (Nat.le_refl _)
    refine ⟨.ref (s4.heap.push { cls := .type "slice", data := .fields #[.none, .none, vk] }).objs.size, _, I5.laid (t' := s4.toks) (a := (s4.heap.push { cls := .type "slice", data := .fields #[.none, .none, vk] }).objs.size) (o := .tup xs.reverse)
      (h' := (s4.heap.push { cls := .type "slice", data := .fields #[.none, .none, vk] }).push { cls := .type "tuple", data := .seq its.reverse.toArray }) (fun b o q => Heap.get?_push_of_some _ q) (Nat.le_refl _) ?_, rfl, q4 _ fr⟩
    exact ⟨by rw [List.length_reverse]; exact hz, its.reverse, vals_revs r, ⟨_, Heap.get?_push_size _ rfl, rfl, 0, rfl⟩⟩
end
end EV
end L2

set_option Elab.async false
set_option linter.all false
set_option maxRecDepth 100000
set_option maxHeartbeats 4000000
/-! repr of data, of any size. -/
namespace L2
namespace EV
open PySem PySem.Spec PyProof.Rows _root_.EV
/-- repr of data -/
def rShowV (K : PySem.W.Frag) : List V → Hp → VK → Prop := fun xs H Q => ∃ (v : V) (d : PyData), xs = [v] ∧ Dp K H v d ∧ d.showable = true ∧ d.hasDict = false ∧ d.shown.length ≤ sizeLine ∧ d.depth ≤ 5 ∧ Q (.str d.shown) H
theorem call_showV {X : Cx} (hgd : X.A.guards = some []) (hu : X.A.units + 64 < cLine) : CallR X (.builtin "repr") (rShowV X.K) := by
  intro pins s σ H xs us Q I r h
  obtain ⟨v, d, rfl, hd, sh, nd, sz, dp, q⟩ := h
  obtain ⟨u, rfl, ru⟩ := vals1 r
  obtain ⟨as, rd⟩ := Dp.reads I d v u hd ru
  have at_ : ∀ a : Addr, u = .ref a → wpAny (model X.prog X.w) X.A (call (.builtin "repr") [u]) (EP X pins σ Q) X.xe s := fun a e => by
    subst e
    exact repr_of_reads' rd sh (fun z => by rw [nd] at z; cases z) hgd (by omega) (fun _ _ e => e) (fun h' t tk hk => ⟨.str _, H, I.kept (t' := tk) hk, ⟨_, rfl⟩, q⟩) sz
  cases hd with
  | non =>
    obtain rfl : u = Value.none := ru
    simp only [PyData.shown] at q
    exact PySem.P.repr_of_none ⟨.str _, H, I.tok _, ⟨_, rfl⟩, q⟩
  | bl b =>
    obtain rfl : u = Value.bool b := ru
    simp only [PyData.shown] at q
    exact PySem.P.repr_of_bool ⟨.str _, H, I.tok _, ⟨_, rfl⟩, q⟩
  | int i =>
    obtain ⟨t, rfl⟩ := (show ∃ t, u = Value.int i t from ru)
    simp only [PyData.shown] at q
    simp only [PyData.showable, decide_eq_true_eq] at sh
    exact PySem.P.repr_of_int sh ⟨.str _, H, I.tok _, ⟨_, rfl⟩, q⟩
  | str x =>
    obtain ⟨t, rfl⟩ := (show ∃ t, u = Value.str x t from ru)
    simp only [PyData.shown] at q sz
    exact PySem.P.repr_of_str ⟨.str _, H, I.tok _, ⟨_, rfl⟩, q⟩ sz
  | @lst a xs ds h1 h2 => exact at_ a ru
  | @tup a xs ds h1 h2 => exact at_ a ru
end EV
end L2
namespace K39
open PySem L2 L2.EV
structure Okd (d : PyData) (n dp : Nat) : Prop where
  sh : d.showable = true
  nd : d.hasDict = false
  sz : d.shown.length ≤ n
  dp : d.depth ≤ dp
  lay : d.canLay0 = true
theorem Okd.le {d : PyData} {n m dp dq : Nat} (h : Okd d n dp) (a : n ≤ m) (b : dp ≤ dq) : Okd d m dq := ⟨h.sh, h.nd, Nat.le_trans h.sz a, Nat.le_trans h.dp b, h.lay⟩
theorem okd_int {i : Int} (h0 : 0 ≤ i) (h1 : i < 64) : Okd (.int i) 10 0 := by
  obtain ⟨k, rfl⟩ := Int.eq_ofNat_of_zero_le h0
  have hk : k < 64 := by omega
  have z : ∀ k : Fin 64, (PyData.int ((k.val : Nat) : Int)).showable = true ∧ (PyData.int ((k.val : Nat) : Int)).shown.length ≤ 10 := by decide +kernel
  obtain ⟨z1, z2⟩ := z ⟨k, hk⟩
  exact ⟨z1, by simp only [PyData.hasDict], z2, by simp only [PyData.depth]; omega, by simp only [PyData.canLay0]⟩
theorem okd_str {x : Str} {m : Nat} (hs : PyData.strOk x = true) (hl : x.length ≤ m) : Okd (.str x) (10 * m + 2) 0 := by
  refine ⟨by simp only [PyData.showable], by simp only [PyData.hasDict], ?_, by simp only [PyData.depth]; omega, by simp only [PyData.canLay0]; exact hs⟩
  simp only [PyData.shown]
  have z := PySem.StrLaws.reprText_len x (fun c hc => by
    unfold PyData.strOk at hs
    rw [← Array.all_toList, List.all_eq_true] at hs
    have := of_decide_eq_true (hs c hc)
    exact Nat.lt_trans this (by decide))
  omega
theorem okd_all {n dp : Nat} : ∀ {ds : List PyData}, (∀ d ∈ ds, Okd d n dp) → PyData.showableAll ds = true ∧ PyData.hasDictAll ds = false ∧ ((PyData.shownAll ds).map (·.length)).sum ≤ n * ds.length ∧ (PyData.shownAll ds).length = ds.length ∧ PyData.depthAll ds ≤ dp ∧ PyData.canLayAll0 ds = true
  | [], _ => ⟨by simp [PyData.showableAll], by simp [PyData.hasDictAll], by simp [PyData.shownAll], by simp [PyData.shownAll], by simp [PyData.depthAll], by simp [PyData.canLayAll0]⟩
  | d :: ds, h => by
    have h1 := h d (List.mem_cons_self ..)
    obtain ⟨a, b, c, e, f, g⟩ := okd_all (ds := ds) fun d hd => h d (List.mem_cons_of_mem _ hd)
    have h2 := h1.sz
    have h3 := h1.dp
    refine ⟨by simp only [PyData.showableAll, h1.sh, a, Bool.and_self], by simp only [PyData.hasDictAll, h1.nd, b, Bool.or_self], ?_, by simp only [PyData.shownAll, List.length_cons, e], by simp only [PyData.depthAll]; omega, by simp only [PyData.canLayAll0, h1.lay, g, Bool.and_self]⟩
    simp only [PyData.shownAll, List.map_cons, List.sum_cons, List.length_cons, Nat.mul_add, Nat.mul_one]
    omega
theorem okd_list {n dp m : Nat} {ds : List PyData} (h : ∀ d ∈ ds, Okd d n dp) (hl : ds.length ≤ m) : Okd (.list ds) (m * (n + 2) + 3) (dp + 1) := by
  obtain ⟨a, b, c, e, f, g⟩ := okd_all h
  refine ⟨by simp only [PyData.showable, a], by simp only [PyData.hasDict, b], ?_, by simp only [PyData.depth]; omega, by simp only [PyData.canLay0, g]⟩
  simp only [PyData.shown]
  have z := listText_len_le (PyData.shownAll ds)
  rw [e] at z
  have y : n * ds.length ≤ n * m := Nat.mul_le_mul_left _ hl
  rw [Nat.mul_add, Nat.mul_comm m n]
  omega
theorem okd_tuple {n dp m : Nat} {ds : List PyData} (h : ∀ d ∈ ds, Okd d n dp) (hl : ds.length ≤ m) : Okd (.tuple ds) (m * (n + 2) + 3) (dp + 1) := by
  obtain ⟨a, b, c, e, f, g⟩ := okd_all h
  refine ⟨by simp only [PyData.showable, a], by simp only [PyData.hasDict, b], ?_, by simp only [PyData.depth]; omega, by simp only [PyData.canLay0, g]⟩
  simp only [PyData.shown]
  have z := tupleText_len_le (PyData.shownAll ds)
  rw [e] at z
  have y : n * ds.length ≤ n * m := Nat.mul_le_mul_left _ hl
  rw [Nat.mul_add, Nat.mul_comm m n]
  omega
end K39

set_option Elab.async false
set_option linter.all false
set_option maxRecDepth 100000
set_option maxHeartbeats 4000000
/-! Data of any form; is_number and is_entry of it. -/
namespace K39
open PySem L2 L2.EV
mutual
/-- v stands for d, all of its lists and tuples tracked -/
inductive Da (H : Hp) : V → PyData → Prop
  | non : Da H .non .none
  | bl (b : Bool) : Da H (.bl b) (.bool b)
  | int (i : Int) : Da H (.int i) (.int i)
  | str (x : Str) : Da H (.str x) (.str x)
  | lst {a : Addr} {xs : List V} {ds : List PyData} : H a = some (.lst xs) → DaAll H xs ds → Da H (.ref a) (.list ds)
  | tup {a : Addr} {xs : List V} {ds : List PyData} : H a = some (.tup xs) → DaAll H xs ds → Da H (.ref a) (.tuple ds)
inductive DaAll (H : Hp) : List V → List PyData → Prop
  | nil : DaAll H [] []
  | cons {v : V} {vs : List V} {d : PyData} {ds : List PyData} : Da H v d → DaAll H vs ds → DaAll H (v :: vs) (d :: ds)
end
mutual
theorem Da.same {H H' : Hp} (s : Same H H') : ∀ (d : PyData) (v : V), Da H v d → Da H' v d
  | .none, _, h => by cases h; exact .non
  | .bool b, _, h => by cases h; exact .bl b
  | .int i, _, h => by cases h; exact .int i
  | .str x, _, h => by cases h; exact .str x
  | .list ds, _, h => by
    cases h with
    | lst e ha => exact .lst (s _ _ e) (DaAll.same s ds _ ha)
  | .tuple ds, _, h => by
    cases h with
    | tup e ha => exact .tup (s _ _ e) (DaAll.same s ds _ ha)
  | .dict _, _, h => by cases h
theorem DaAll.same {H H' : Hp} (s : Same H H') : ∀ (ds : List PyData) (vs : List V), DaAll H vs ds → DaAll H' vs ds
  | [], _, h => by cases h; exact .nil
  | d :: ds, _, h => by
    cases h with
    | cons h1 h2 => exact .cons (Da.same s d _ h1) (DaAll.same s ds _ h2)
end
mutual
theorem Da.dp {K : PySem.W.Frag} {H : Hp} : ∀ (d : PyData) (v : V), Da H v d → Dp K H v d
  | .none, _, h => by cases h; exact .non
  | .bool b, _, h => by cases h; exact .bl b
  | .int i, _, h => by cases h; exact .int i
  | .str x, _, h => by cases h; exact .str x
  | .list ds, _, h => by
    cases h with
    | lst e ha => exact .lst (SqL.of e) (DaAll.dp ds _ ha)
  | .tuple ds, _, h => by
    cases h with
    | tup e ha => exact .tup (SqT.of e) (DaAll.dp ds _ ha)
  | .dict _, _, h => by cases h
theorem DaAll.dp {K : PySem.W.Frag} {H : Hp} : ∀ (ds : List PyData) (vs : List V), DaAll H vs ds → DpAll K H vs ds
  | [], _, h => by cases h; exact .nil
  | d :: ds, _, h => by
    cases h with
    | cons h1 h2 => exact .cons (Da.dp d _ h1) (DaAll.dp ds _ h2)
end
theorem DaAll.len {H : Hp} : ∀ {vs : List V} {ds : List PyData}, DaAll H vs ds → vs.length = ds.length
  | _, _, .nil => rfl
  | _, _, .cons _ t => by rw [List.length_cons, List.length_cons, t.len]
theorem DaAll.at_ {H : Hp} : ∀ {vs : List V} {ds : List PyData} {i : Nat} {v : V}, DaAll H vs ds → vs[i]? = some v → ∃ d, ds[i]? = some d ∧ Da H v d
  | _, _, 0, _, .cons h _, e => by
    cases e
    exact ⟨_, rfl, h⟩
  | _, _, i + 1, _, .cons _ t, e => t.at_ (i := i) (by simpa using e)
  | _, _, _, _, .nil, e => by simp at e
theorem DaAll.at' {H : Hp} : ∀ {vs : List V} {ds : List PyData} {i : Nat} {d : PyData}, DaAll H vs ds → ds[i]? = some d → ∃ v, vs[i]? = some v ∧ Da H v d
  | _, _, 0, _, .cons h _, e => by
    cases e
    exact ⟨_, rfl, h⟩
  | _, _, i + 1, _, .cons _ t, e => t.at' (i := i) (by simpa using e)
  | _, _, _, _, .nil, e => by simp at e
theorem DaAll.app {H : Hp} : ∀ {vs ws : List V} {ds es : List PyData}, DaAll H vs ds → DaAll H ws es → DaAll H (vs ++ ws) (ds ++ es)
  | _, _, _, _, .nil, q => q
  | _, _, _, _, .cons h t, q => .cons h (t.app q)
theorem DaAll.drop {H : Hp} : ∀ {vs : List V} {ds : List PyData} (n : Nat), DaAll H vs ds → DaAll H (vs.drop n) (ds.drop n)
  | _, _, 0, h => h
  | _, _, n + 1, .nil => .nil
  | _, _, n + 1, .cons _ t => t.drop n
theorem DaAll.take {H : Hp} : ∀ {vs : List V} {ds : List PyData} (n : Nat), DaAll H vs ds → DaAll H (vs.take n) (ds.take n)
  | _, _, 0, h => .nil
  | _, _, n + 1, .nil => .nil
  | _, _, n + 1, .cons h t => .cons h (t.take n)
theorem DaAll.rev {H : Hp} : ∀ {vs : List V} {ds : List PyData}, DaAll H vs ds → DaAll H vs.reverse ds.reverse
  | _, _, .nil => .nil
  | _, _, .cons h t => by
    rw [List.reverse_cons, List.reverse_cons]
    exact t.rev.app (.cons h .nil)
/-! ### of which type -/
def isTup : PyData → Bool
  | .tuple _ => true
  | _ => false
def isInt : PyData → Bool
  | .int _ => true
  | .bool _ => true
  | _ => false
def isBl : PyData → Bool
  | .bool _ => true
  | _ => false
theorem Da.ty {K : PySem.W.Frag} {H : Hp} {v : V} {d : PyData} (h : Da H v d) : ∃ t : Value, TyX K H v t ∧ PySem.W.kitOne K t (.type "tuple") = some (isTup d) ∧ PySem.W.kitOne K t (.type "int") = some (isInt d) ∧ PySem.W.kitOne K t (.type "bool") = some (isBl d) := by
  cases h with
  | non => exact ⟨_, .base .non, kit_ty (r := false) (by decide +kernel), kit_ty (r := false) (by decide +kernel), kit_ty (r := false) (by decide +kernel)⟩
  | bl b => exact ⟨_, .base (.bl b), kit_ty (r := false) (by decide +kernel), kit_ty (r := true) (by decide +kernel), kit_ty (r := true) (by decide +kernel)⟩
  | int i => exact ⟨_, .base (.int i), kit_ty (r := false) (by decide +kernel), kit_ty (r := true) (by decide +kernel), kit_ty (r := false) (by decide +kernel)⟩
  | str x => exact ⟨_, .base (.str x), kit_ty (r := false) (by decide +kernel), kit_ty (r := false) (by decide +kernel), kit_ty (r := false) (by decide +kernel)⟩
  | lst e _ => exact ⟨_, .base (.lst e), kit_ty (r := false) (by decide +kernel), kit_ty (r := false) (by decide +kernel), kit_ty (r := false) (by decide +kernel)⟩
  | tup e _ => exact ⟨_, .base (.tup e), kit_ty (r := true) (by decide +kernel), kit_ty (r := false) (by decide +kernel), kit_ty (r := false) (by decide +kernel)⟩
/-! ### numbers, entries -/
def numD (m : Int) : PyData → Option Int
  | .int i => if 0 ≤ i ∧ i < m then some i else none
  | _ => none
def entD (n m : Int) : PyData → Option E2
  | .tuple [a, b] => match numD m a, numD n b with
    | some x, some y => some (x, y)
    | _, _ => none
  | _ => none
theorem numD_some {m i : Int} {d : PyData} (h : numD m d = some i) : d = .int i ∧ 0 ≤ i ∧ i < m := by
  cases d with
  | int j =>
    have h : (if 0 ≤ j ∧ j < m then some j else none) = some i := h
    by_cases c : 0 ≤ j ∧ j < m
    · rw [if_pos c] at h
      cases h
      exact ⟨rfl, c⟩
    · rw [if_neg c] at h
      cases h
  | _ => cases h
theorem entD_some {n m : Int} {d : PyData} {e : E2} (h : entD n m d = some e) : d = .tuple [.int e.1, .int e.2] ∧ 0 ≤ e.1 ∧ e.1 < m ∧ 0 ≤ e.2 ∧ e.2 < n := by
  match d, h with
  | .tuple [a, b], h =>
    have h : (match numD m a, numD n b with
      | some x, some y => some (x, y)
      | _, _ => none) = some e := h
    cases ha : numD m a with
    | none =>
      rw [ha] at h
      cases h
    | some x =>
      cases hb : numD n b with
      | none =>
        rw [ha, hb] at h
        cases h
      | some y =>
        rw [ha, hb] at h
        cases h
        obtain ⟨rfl, a1, a2⟩ := numD_some ha
        obtain ⟨rfl, b1, b2⟩ := numD_some hb
        exact ⟨rfl, a1, a2, b1, b2⟩
def spNumD : Sp := fun vs H Q _ => ∃ (v : V) (d : PyData) (m : Int), vs = [v, .int m] ∧ Da H v d ∧ Q (.bl (numD m d).isSome) H
def spEntryD : Sp := fun vs H Q _ => ∃ (f : Addr) (v : V) (d : PyData) (fr : List T3) (m : Int), vs = [.ref f, v, .int m] ∧ FrA H f fr ∧ Da H v d ∧ Q (.bl (entD fr.length m d).isSome) H
section
variable {P : Program} {w : World} {K : PySem.W.Frag} {mg : Str → Option Value} {base : Heap}
theorem ok_numD {f : Addr} {fd : FuncData} (F : Fun K "is_number" "is_number" sNum f fd) (T : TxtF mg) : FnOk P w K mg base CX0 1 f fd ["thing", "many"] spNumD := by
  refine F.ok scNum (fun vs H Q E h => ?_) (fun cdv A outer s H vs Q E hr h => ?_)
  · obtain ⟨v, d, m, rfl, _⟩ := h
    rfl
  · obtain ⟨v, d, m, rfl, da, q⟩ := h
    refine ⟨_, pss_one (ps_ret (pe_and (pe_callB call_isi (by rfl) T.isi PyProof.Rows.boot_isinstance (pa_cons (pv 0) (pa_cons (pe_bltn (v := .ty "int") (by rfl) T.int (by decide +kernel) rfl) pa_nil)))
      (pe_and (pe_not (pe_callB call_isi (by rfl) T.isi PyProof.Rows.boot_isinstance (pa_cons (pv 0) (pa_cons (pe_bltn (v := .ty "bool") (by rfl) T.bool (by decide +kernel) rfl) pa_nil))))
        (pe_one (pe_chain op_le op_lt pe_int (pv 0) (pv 1)))))), ?_⟩
    obtain ⟨t, ty, _, ki, kb⟩ := da.ty (K := K)
    refine ⟨_, rfl, v, .ty "int", t, .type "int", isInt d, rfl, .ty "int", ty, ki, isInt d, rfl, ?_⟩
    cases da with
    | int n =>
      refine iteT ?_
      refine ⟨_, rfl, .int n, .ty "bool", t, .type "bool", false, rfl, .ty "bool", ty, kb, false, rfl, true, rfl, iteT ?_⟩
      refine ⟨_, rfl, 0, n, rfl, rfl, _, rfl, ?_⟩
      have q : Q (.bl (if 0 ≤ n ∧ n < m then some n else none).isSome) H := q
      refine ite2 (fun z => ?_) (fun z => ?_)
      · have z1 : 0 ≤ n := of_decide_eq_true z
        refine ⟨_, rfl, n, m, rfl, rfl, ?_⟩
        by_cases c : n < m
        · rw [if_pos ⟨z1, c⟩] at q
          show Q (.bl (decide (n < m))) H
          rw [decide_eq_true c]
          exact q
        · rw [if_neg (fun k => c k.2)] at q
          show Q (.bl (decide (n < m))) H
          rw [decide_eq_false c]
          exact q
      · have z1 : ¬ 0 ≤ n := fun k => z (decide_eq_true k)
        rw [if_neg (fun k => z1 k.1)] at q
        exact q
    | bl b =>
      refine iteT ?_
      exact ⟨_, rfl, .bl b, .ty "bool", t, .type "bool", true, rfl, .ty "bool", ty, kb, true, rfl, false, rfl, iteF q⟩
    | non => exact iteF q
    | str x => exact iteF q
    | lst e h => exact iteF q
    | tup e h => exact iteF q
theorem ok_entryD (Y : Ws K mg) : FnOk P w K mg base CX0 2 Y.fE Y.dE ["framing", "thing", "many"] spEntryD := by
  have GN : FnOk P w K mg base CX0 1 Y.Z.fN Y.Z.dN ["thing", "many"] spNumD := ok_numD Y.Z.N Y.Z.T
  refine Y.E.ok scEntry (fun vs H Q E h => ?_) (fun cdv A outer s H vs Q E hr h => ?_)
  · obtain ⟨f, v, d, fr, m, rfl, _⟩ := h
    rfl
  · obtain ⟨f, v, d, fr, m, rfl, fa, da, q⟩ := h
    refine ⟨_, pss_cons (ps_if (pw_or (pt_not (pt_val (pe_callB call_isi (by rfl) Y.Z.T.isi PyProof.Rows.boot_isinstance (pa_cons (pv 1) (pa_cons (pe_bltn (v := .ty "tuple") (by rfl) Y.Z.T.tuple (by decide +kernel) rfl) pa_nil)))))
        (pw_or1 (pt_cmpR op_ne (pe_callB call_len_seq (by rfl) Y.Z.T.len PySem.boot_len (pa_cons (pv 1) pa_nil)) pe_int (nomark _)))).pt
        (pss_one (ps_ret pe_bl)) pss_nil)
      (pss_one (ps_ret (pe_and (pe_call GN hr (by rfl) Y.Z.mN Y.Z.N.kp Y.Z.bN .nil pass0 (pa_cons (pe_ix ix_tup (pv 1) pe_int (fun _ _ => rfl)) (pa_cons (pv 2) pa_nil)))
        (pe_one (pe_call GN hr (by rfl) Y.Z.mN Y.Z.N.kp Y.Z.bN .nil pass0 (pa_cons (pe_ix ix_tup (pv 1) pe_int (fun _ _ => rfl)) (pa_cons (pe_callB call_len_seq (by rfl) Y.Z.T.len PySem.boot_len (pa_cons (pv 0) pa_nil)) pa_nil))))))), ?_⟩
    obtain ⟨ts, hf, hl, ht⟩ := id fa
    obtain ⟨t, ty, kt, _, _⟩ := da.ty (K := K)
    refine ⟨_, rfl, v, .ty "tuple", t, .type "tuple", isTup d, rfl, .ty "tuple", ty, kt, isTup d, rfl, ?_⟩
    cases da with
    | @tup a xs ds e all =>
      refine iteF ?_
      refine ⟨_, rfl, a, _, rfl, .inr (SqT.of e), rfl, _, rfl, ?_⟩
      have ln := all.len
      by_cases h2 : xs.length = 2
      · refine iteF' (by simp [h2]) ?_
        match xs, ds, all, h2 with
        | [x, y], [dx, dy], .cons h1 (.cons h3 .nil), _ =>
          refine ⟨_, rfl, a, _, 0, x, rfl, rfl, SqT.of e, atI_nat (j := 0) rfl, _, rfl, x, dx, m, rfl, h1, _, rfl, ?_⟩
          have q : Q (.bl (match numD m dx, numD fr.length dy with
            | some x, some y => some (x, y)
            | _, _ => none).isSome) H := q
          cases ea : numD m dx with
          | none =>
            rw [ea] at q
            exact iteF q
          | some i =>
            refine iteT ?_
            refine ⟨_, rfl, a, _, 1, y, rfl, rfl, SqT.of e, atI_nat (j := 1) rfl, _, rfl, f, _, rfl, .inr (SqT.of hf), y, dy, _, rfl, h3, ?_⟩
            rw [List.length_map, hl]
            cases eb : numD fr.length dy with
            | none =>
              rw [ea, eb] at q
              exact q
            | some j =>
              rw [ea, eb] at q
              exact q
      · refine iteT' (by simp; omega) ?_
        have z : entD fr.length m (.tuple ds) = none := by
          match ds, ln with
          | [], _ => rfl
          | [_], _ => rfl
          | [_, _], l => exact absurd l h2
          | _ :: _ :: _ :: _, _ => rfl
        rw [z] at q
        exact q
    | bl b => exact iteT q
    | non => exact iteT q
    | int i => exact iteT q
    | str x => exact iteT q
    | lst e h => exact iteT q
end
end K39

set_option Elab.async false
set_option linter.all false
set_option maxRecDepth 100000
set_option maxHeartbeats 4000000
/-! first_wrong of any things, the writers standing anywhere at first. -/
namespace K39
open PySem L2 L2.EV
def ov : Option Int → V
  | none => .non
  | some i => .int i
/-- the number of the first thing that can't stand there -/
def wrongF (fr : List T3) : List PyData → List (Option Int) → Nat → Option Nat
  | [], _, _ => none
  | d :: ds, pl, i => match entD fr.length 8 d with
    | none => some i
    | some e => match pl.getD e.1.toNat none with
      | none => wrongF fr ds (pl.set e.1.toNat (some (stt fr e.2).2.2)) (i + 1)
      | some x => if x = (stt fr e.2).1 then wrongF fr ds (pl.set e.1.toNat (some (stt fr e.2).2.2)) (i + 1) else some i
def wv : Option Nat → V
  | none => .non
  | some i => .int (i : Int)
abbrev none8 : List (Option Int) := List.replicate 8 none
abbrev all8 (bg : Option Int) : List (Option Int) := List.replicate 8 bg
def spWrongD : Sp := fun vs H Q _ => ∃ (f w : Addr) (fr : List T3) (ds : List PyData) (bg : Option Int), vs = [.ref f, .ref w, ov bg] ∧ FrA H f fr ∧ Da H (.ref w) (.tuple ds) ∧ ∀ H', Same H H' → Q (wv (wrongF fr ds (all8 bg) 0)) H'
theorem ov_at {pl : List (Option Int)} {i : Int} (h0 : 0 ≤ i) (h1 : i < 8) (hl : pl.length = 8) : atI (pl.map ov) i = some (ov (pl.getD i.toNat none)) := by
  obtain ⟨k, rfl⟩ := Int.eq_ofNat_of_zero_le h0
  have hk : k < pl.length := by omega
  refine atI_nat ?_
  rw [List.getElem?_map, List.getElem?_eq_getElem hk, List.getD_eq_getElem?_getD, Int.toNat_natCast, List.getElem?_eq_getElem hk]
  rfl
theorem drop_at {α : Type} {l : List α} {i : Nat} {x : α} (h : l[i]? = some x) : l.drop i = x :: l.drop (i + 1) := by
  obtain ⟨hi, e⟩ := List.getElem?_eq_some_iff.mp h
  rw [List.drop_eq_getElem_cons hi, e]
section
variable {P : Program} {w : World} {K : PySem.W.Frag} {mg : Str → Option Value} {base : Heap}
theorem ok_wrongD (Y : Ws K mg) : FnOk P w K mg base CX0 3 Y.fR Y.dR ["framing", "things", "begin"] spWrongD := by
  have GE : FnOk P w K mg base CX0 2 Y.fE Y.dE ["framing", "thing", "many"] spEntryD := ok_entryD Y
  refine Y.R.ok scWrong (fun vs H Q E h => ?_) (fun cdv A outer s H vs Q E hr h => ?_)
  · obtain ⟨f, w, fr, ds, bg, rfl, _⟩ := h
    rfl
  · obtain ⟨f, w, fr, ds, bg, rfl, fa, da, q⟩ := h
    obtain ⟨tm, eM⟩ := Y.marks
    refine ⟨_, pss_cons (ps_setLc (i := 4) (y := "places") (own := [("mark", 3)]) (g := gName 3) (te := tVar 2) rfl scWrong.nd rfl rfl (by rfl) (pi_str (pe_glob (v := .str "ABCDEFGH") (by rfl) eM ⟨_, rfl⟩))
        (blkOk_by (N := ["framing", "things", "begin", "mark", "places", "number", "thing", "writer", "step", "start", "piece", "goal"]) (sc := defScope sWrong) (by decide +kernel))
        (fun _ _ _ _ _ => pg_name (i := 3) scWrong.nd rfl (Or.inl rfl)) (fun _ _ _ _ _ => pts_nil) (fun _ _ _ _ _ => pv 2))
      (pss_cons (ps_for PassesOwn.never rfl (pi_enumT (by rfl) Y.Z.en (pa_cons (pv 1) pa_nil)) (pg_tup rfl (pgs_cons (pg_name (i := 5) scWrong.nd rfl (Or.inl rfl)) (pgs_cons (pg_name (i := 6) scWrong.nd rfl (Or.inl rfl)) pgs_nil)))
        (pss_cons (ps_if (pt_not (pt_val (pe_call GE hr (by rfl) Y.mE Y.E.kp Y.bE .nil pass0 (pa_cons (pv 0) (pa_cons (pv 6) (pa_cons (pe_callB call_len_str (by rfl) Y.Z.T.len PySem.boot_len (pa_cons (pe_glob (v := .str "ABCDEFGH") (by rfl) eM ⟨_, rfl⟩) pa_nil)) pa_nil)))))) (pss_one (ps_ret (pv 5))) pss_nil)
        (pss_cons (ps_asg (pv 6) (pg_tup rfl (pgs_cons (pg_name (i := 7) scWrong.nd rfl (Or.inl rfl)) (pgs_cons (pg_name (i := 8) scWrong.nd rfl (Or.inl rfl)) pgs_nil))))
        (pss_cons (ps_asg (pe_ix ix_tup (pv 0) (pv 8) (fun _ _ => rfl)) (pg_tup rfl (pgs_cons (pg_name (i := 9) scWrong.nd rfl (Or.inl rfl)) (pgs_cons (pg_name (i := 10) scWrong.nd rfl (Or.inl rfl)) (pgs_cons (pg_name (i := 11) scWrong.nd rfl (Or.inl rfl)) pgs_nil)))))
        (pss_cons (ps_if (pw_and (pt_cmpR op_notN (pe_ix ix_list (pv 4) (pv 7) (fun _ _ => rfl)) pe_non (nomark _)) (pw_and1 (pt_cmpR op_ne (pe_ix ix_list (pv 4) (pv 7) (fun _ _ => rfl)) (pv 9) (nomark _)))).pt (pss_one (ps_ret (pv 5))) pss_nil)
        (pss_one (ps_asg (pv 11) (pg_sub (pv 4) (pv 7) set_list))))))))
      (pss_one (ps_ret pe_non))), ?_⟩
    obtain ⟨tw, hw, wall⟩ : ∃ tw : List V, H w = some (.tup tw) ∧ DaAll H tw ds := by
      cases da with
      | tup e h => exact ⟨_, e, h⟩
    refine ⟨_, rfl, fun D hD => ?_⟩
    refine lc_it walk_str (fun i H' => H' D = some (.lst ((List.replicate i bg).map ov)) ∧ ∀ b o, H b = some o → H' b = some o) ⟨upd_same, fun b o z => same_upd hD b o z⟩ (fun _ _ _ _ => trivial) ?_ ?_
    · rintro i x H1 H2 hi ⟨hl, kp⟩ ⟨rfl, c, hc, rfl⟩
      refine ⟨rfl, ⟨_, rfl, _, hl, ?_, ?_, fun b o z => ?_⟩⟩
      · have h8 : i < 8 := hi
        rw [List.length_map, List.length_replicate, sizeLine_eq]
        omega
      · rw [List.replicate_succ', List.map_append]
        exact upd_same
      · rw [upd_ne (ne_of_none z hD)]
        exact kp b o z
    · rintro H1 ⟨hl, kp⟩
      refine ⟨_, rfl, w, _, rfl, SqT.of (kp _ _ hw), for_it (walk_enumT (xs := tw)) (fun i σ H' => ∃ (v5 v6 v7 v8 v9 v10 v11 : Option V) (pl : List (Option Int)), σ = [some (.ref f), some (.ref w), some (ov bg), none, some (.ref D), v5, v6, v7, v8, v9, v10, v11] ∧ Same H H' ∧ H' D = some (.lst (pl.map ov)) ∧ pl.length = 8 ∧
          wrongF fr ds (all8 bg) 0 = wrongF fr (ds.drop i) pl i)
        ⟨none, none, none, none, none, none, none, (all8 bg), rfl, kp, hl, rfl, rfl⟩ (fun i σ H' _ ⟨_, _, _, _, _, _, _, _, _, z, _⟩ => SqT.of (z _ _ hw)) ?_ ?_⟩
      · rintro i x σ H2 H3 hi ⟨v5, v6, v7, v8, v9, v10, v11, pl, rfl, s2, d2, l8, inv⟩ ⟨T, xi, xo, rfl, nT, rfl, h1, h2⟩
        cases h1
        obtain ⟨d, hd, dv⟩ := wall.at_ h2
        rw [drop_at hd] at inv
        have uT := same_upd (o := HO.tup [V.int (i : Nat), xo]) nT
        have s3 := s2.trans uT
        have d3 := uT _ _ d2
        refine ⟨T, _, rfl, SqT.of upd_same, rfl, _, _, rfl, _, _, rfl, rfl, ?_⟩
        have dv3 := Da.same s3 _ _ dv
        refine ⟨_, rfl, _, rfl, _, rfl, (by decide +kernel), f, xo, d, fr, 8, rfl, fa.same s3, dv3, _, rfl, ?_⟩
        cases ed : entD fr.length 8 d with
        | none =>
          refine iteT ⟨_, rfl, ?_⟩
          have inv : wrongF fr ds (all8 bg) 0 = (match entD fr.length 8 d with
            | none => some i
            | some e => match pl.getD e.1.toNat none with
              | none => wrongF fr (ds.drop (i + 1)) (pl.set e.1.toNat (some (stt fr e.2).2.2)) (i + 1)
              | some x => if x = (stt fr e.2).1 then wrongF fr (ds.drop (i + 1)) (pl.set e.1.toNat (some (stt fr e.2).2.2)) (i + 1) else some i) := inv
          rw [ed] at inv
          have z := q _ s3
          rw [inv] at z
          exact z
        | some e =>
          have inv : wrongF fr ds (all8 bg) 0 = (match entD fr.length 8 d with
            | none => some i
            | some e => match pl.getD e.1.toNat none with
              | none => wrongF fr (ds.drop (i + 1)) (pl.set e.1.toNat (some (stt fr e.2).2.2)) (i + 1)
              | some x => if x = (stt fr e.2).1 then wrongF fr (ds.drop (i + 1)) (pl.set e.1.toNat (some (stt fr e.2).2.2)) (i + 1) else some i) := inv
          rw [ed] at inv
          have inw : wrongF fr ds (all8 bg) 0 = (match pl.getD e.1.toNat none with
              | none => wrongF fr (ds.drop (i + 1)) (pl.set e.1.toNat (some (stt fr e.2).2.2)) (i + 1)
              | some x => if x = (stt fr e.2).1 then wrongF fr (ds.drop (i + 1)) (pl.set e.1.toNat (some (stt fr e.2).2.2)) (i + 1) else some i) := inv
          clear inv
          obtain ⟨rfl, e0, e1, n0, n1⟩ := entD_some ed
          refine iteF ?_
          obtain ⟨a, ea⟩ : ∃ a, xo = .ref a ∧ upd H2 T (.tup [V.int (i : Nat), xo]) a = some (.tup [.int e.1, .int e.2]) := by
            cases dv3 with
            | tup e h =>
              match h with
              | .cons (.int _) (.cons (.int _) .nil) => exact ⟨_, rfl, e⟩
          obtain ⟨rfl, e4⟩ := ea
          obtain ⟨ts, t2, hf, ha, h3, _⟩ := stt_at (fa.same s3) n0 n1
          have pw := ov_at (pl := pl) e0 e1 l8
          refine ⟨_, rfl, a, _, rfl, SqT.of e4, rfl, _, _, rfl, _, _, rfl, rfl, ?_⟩
          refine ⟨_, rfl, _, rfl, f, _, e.2, .ref t2, rfl, rfl, SqT.of hf, ha, t2, _, rfl, SqT.of h3, rfl, _, _, rfl, _, _, rfl, _, _, rfl, rfl, ?_⟩
          refine ⟨_, rfl, _, rfl, D, _, e.1, _, rfl, rfl, SqL.of d3, pw, rfl, _, rfl, ?_⟩
          -- the store behind
          have store : ∀ v5 v6 v7 v8 v9 v10 : Option V, wrongF fr ds (all8 bg) 0 = wrongF fr (ds.drop (i + 1)) (pl.set e.1.toNat (some (stt fr e.2).2.2)) (i + 1) →
              ∃ (v5' v6' v7' v8' v9' v10' v11' : Option V) (pl' : List (Option Int)), [some (V.ref f), some (.ref w), some (ov bg), none, some (.ref D), v5, v6, v7, v8, v9, v10, some (V.int (stt fr e.2).2.2)] = [some (.ref f), some (.ref w), some (ov bg), none, some (.ref D), v5', v6', v7', v8', v9', v10', v11'] ∧
                Same H (upd (upd H2 T (.tup [V.int (i : Nat), .ref a])) D (.lst ((pl.map ov).set e.1.toNat (.int (stt fr e.2).2.2)))) ∧ upd (upd H2 T (.tup [V.int (i : Nat), .ref a])) D (.lst ((pl.map ov).set e.1.toNat (.int (stt fr e.2).2.2))) D = some (.lst (pl'.map ov)) ∧ pl'.length = 8 ∧
                wrongF fr ds (all8 bg) 0 = wrongF fr (ds.drop (i + 1)) pl' (i + 1) := fun _ _ _ _ _ _ hw => ⟨_, _, _, _, _, _, _, pl.set e.1.toNat (some (stt fr e.2).2.2), rfl, same_set hD s3, by rw [List.map_set]; exact upd_same, by rw [List.length_set]; exact l8, hw⟩
          have ix : ixN (pl.map ov).length e.1 = some e.1.toNat := by
            rw [List.length_map, l8]
            unfold ixN
            rw [if_pos e0, if_pos (by omega)]
          cases ep : pl.getD e.1.toNat none with
          | none =>
            rw [ep] at inw
            refine iteF' (by simp [ov]) ?_
            exact ⟨_, rfl, _, rfl, _, rfl, D, _, e.1, e.1.toNat, rfl, rfl, d3, ix, store _ _ _ _ _ _ inw⟩
          | some x =>
            rw [ep] at inw pw
            refine iteT' (by simp [ov]) ?_
            refine ⟨_, rfl, _, rfl, D, _, e.1, _, rfl, rfl, SqL.of d3, pw, _, rfl, rfl, _, rfl, ?_⟩
            by_cases hx : x = (stt fr e.2).1
            · have inw : wrongF fr ds (all8 bg) 0 = if x = (stt fr e.2).1 then wrongF fr (ds.drop (i + 1)) (pl.set e.1.toNat (some (stt fr e.2).2.2)) (i + 1) else some i := inw
              rw [if_pos hx] at inw
              refine iteF' (by simp [ov, hx]) ?_
              exact ⟨_, rfl, _, rfl, _, rfl, D, _, e.1, e.1.toNat, rfl, rfl, d3, ix, store _ _ _ _ _ _ inw⟩
            · have inw : wrongF fr ds (all8 bg) 0 = if x = (stt fr e.2).1 then wrongF fr (ds.drop (i + 1)) (pl.set e.1.toNat (some (stt fr e.2).2.2)) (i + 1) else some i := inw
              rw [if_neg hx] at inw
              refine iteT' (by simp [ov, hx]) ?_
              refine ⟨_, rfl, ?_⟩
              have z := q _ s3
              rw [inw] at z
              exact z
      · rintro σ H2 ⟨v5, v6, v7, v8, v9, v10, v11, pl, rfl, s2, d2, l8, inv⟩
        have e0 : ds.drop tw.length = [] := by
          rw [wall.len]
          exact List.drop_length
        rw [e0] at inv
        have z := q H2 s2
        rw [inv] at z
        exact z
end
end K39

set_option Elab.async false
set_option linter.all false
set_option maxRecDepth 100000
set_option maxHeartbeats 4000000
/-! OutOfPlace. -/
namespace K39
open PySem L2 L2.EV
def gP : List Value → List Value → List Value := fun us _ => us
def vP : List V → List V → List V := fun vs _ => vs
theorem kb_pos {K : PySem.W.Frag} {fd : FuncData} {ps : List Str} {n : Nat} (b : Binds K fd ps []) (hn : ps.length = n) : KBn K fd ps n [] gP vP := by
  refine ⟨fun s us ws X l1 l2 => ?_, fun r _ => r⟩
  have z := b s us X (by rw [List.append_nil, l1, hn])
  rw [List.append_nil] at z
  exact z
abbrev bmVE : List Value := [.type "ValueError", .type "Exception", .type "BaseException", .type "object"]
/-- what is known of OutOfPlace -/
structure Oop (K : PySem.W.Frag) (mg : Str → Option Value) where
  C : Addr
  f : Addr
  d : FuncData
  fM : Addr
  dM : FuncData
  T : OxC K C "ValueError" "ValueError.__new__" "ValueError.__init__" bmVE
  I : BI K mg "ValueError" "ValueError" "ValueError.__init__"
  F : Fun K "__init__" "OutOfPlace.__init__" sOutOfPlace f d
  b : Binds K d ["self", "text"] []
  FM : Fun K "message" "message" sMsg fM dM
  bM : Binds K dM ["text"] []
  mM : mg "message" = some (.ref fM)
  TM : TxtM mg
  m : mg "OutOfPlace" = some (.ref C)
  iC : PySem.W.findIn K (.ref C) "__init__" = some (some (.ref f))
  tI : PySem.W.typeIn K (.ref f) = some (.type "function")
  su : PySem.W.subIn K (.ref C) (.type "BaseException") = some true
  ty : PySem.W.typeIn K (.ref C) = some (.type "type")
theorem same_none {H H' : Hp} {a : Addr} (s : Same H H') (n : H' a = none) : H a = none := by
  cases e : H a with
  | none => rfl
  | some o =>
    rw [s _ _ e] at n
    cases n
def d2 (e : E2) : PyData := .tuple [.int e.1, .int e.2]
def szD : PyData → Nat
  | .tuple ds => ds.length
  | _ => 0
end K39

set_option Elab.async false
set_option linter.all false
set_option maxRecDepth 100000
set_option maxHeartbeats 4000000
/-! Weavings of data. -/
namespace K39
open PySem L2 L2.EV
/-- each writer goes on from where it stands -/
def goF (fr : List T3) : List Int → List E2 → Prop
  | _, [] => True
  | ql, e :: es => ql[e.1.toNat]? = some (stt fr e.2).1 ∧ goF fr (ql.set e.1.toNat (stt fr e.2).2.2) es
theorem goF_drop {fr : List T3} : ∀ {es : List E2} {ql : List Int} (n : Nat), goF fr ql es → ∃ q2, q2.length = ql.length ∧ goF fr q2 (es.drop n)
  | _, ql, 0, h => ⟨ql, rfl, h⟩
  | [], ql, n + 1, _ => ⟨ql, rfl, True.intro⟩
  | e :: es, ql, n + 1, h => by
    obtain ⟨q2, l, g⟩ := goF_drop n h.2
    exact ⟨q2, by rw [l, List.length_set], g⟩
theorem goF_take {fr : List T3} : ∀ {es : List E2} {ql : List Int} (n : Nat), goF fr ql es → goF fr ql (es.take n)
  | _, _, 0, _ => True.intro
  | [], _, n + 1, _ => True.intro
  | e :: es, _, n + 1, h => ⟨h.1, goF_take n h.2⟩
theorem goF_at {fr : List T3} : ∀ {es : List E2} {ql : List Int}, goF fr ql es → ∀ (i : Nat) (e : E2), es[i]? = some e → ((es.take i).foldl (fun pl e => pl.set e.1.toNat (stt fr e.2).2.2) ql)[e.1.toNat]? = some (stt fr e.2).1
  | [], _, _, i, e, h => by cases h
  | x :: es, ql, g, 0, e, h => by
    cases h
    exact g.1
  | x :: es, ql, g, i + 1, e, h => by
    rw [List.take_succ_cons, List.foldl_cons]
    exact goF_at g.2 i e (by simpa using h)
theorem go_wv {fr : List T3} {es : List E2} (g : goF fr (List.replicate 8 0) es) (ent : ∀ e ∈ es, Ent fr e) (l : es.length ≤ 60) : Wv fr es := ⟨l, ent, fun i e h => goF_at g i e h⟩
theorem wrongF_step {fr : List T3} {d : PyData} {ds : List PyData} {pl : List (Option Int)} {i : Nat} : wrongF fr (d :: ds) pl i = (match entD fr.length 8 d with
    | none => some i
    | some e => match pl.getD e.1.toNat none with
      | none => wrongF fr ds (pl.set e.1.toNat (some (stt fr e.2).2.2)) (i + 1)
      | some x => if x = (stt fr e.2).1 then wrongF fr ds (pl.set e.1.toNat (some (stt fr e.2).2.2)) (i + 1) else some i) := rfl
theorem map_getD {ql : List Int} {n : Nat} (h : n < ql.length) : (ql.map some).getD n none = ql[n]? := by
  rw [List.getD_eq_getElem?_getD, List.getElem?_map, List.getElem?_eq_getElem h]
  rfl
theorem wrong_go {fr : List T3} : ∀ {ds : List PyData} {ql : List Int} {i : Nat}, ql.length = 8 → wrongF fr ds (ql.map some) i = none → ∃ es : List E2, ds = es.map d2 ∧ (∀ e ∈ es, Ent fr e) ∧ goF fr ql es
  | [], _, _, _, _ => ⟨[], rfl, (fun e h => by cases h), True.intro⟩
  | d :: ds, ql, i, l8, h => by
    rw [wrongF_step] at h
    cases ed : entD fr.length 8 d with
    | none =>
      rw [ed] at h
      cases h
    | some e =>
      rw [ed] at h
      obtain ⟨rfl, e0, e1, n0, n1⟩ := entD_some ed
      have hl : e.1.toNat < ql.length := by omega
      have h : (match (ql.map some).getD e.1.toNat none with
        | none => wrongF fr ds ((ql.map some).set e.1.toNat (some (stt fr e.2).2.2)) (i + 1)
        | some x => if x = (stt fr e.2).1 then wrongF fr ds ((ql.map some).set e.1.toNat (some (stt fr e.2).2.2)) (i + 1) else some i) = none := h
      rw [map_getD hl, List.getElem?_eq_getElem hl] at h
      have h : (if ql[e.1.toNat] = (stt fr e.2).1 then wrongF fr ds ((ql.map some).set e.1.toNat (some (stt fr e.2).2.2)) (i + 1) else some i) = none := h
      by_cases c : ql[e.1.toNat] = (stt fr e.2).1
      · rw [if_pos c, ← List.map_set] at h
        obtain ⟨es, rfl, ent, g⟩ := wrong_go (ql := ql.set e.1.toNat (stt fr e.2).2.2) (by rw [List.length_set]; exact l8) h
        refine ⟨e :: es, rfl, fun x hx => ?_, ⟨by rw [List.getElem?_eq_getElem hl, c], g⟩⟩
        rcases List.mem_cons.mp hx with rfl | hx
        · exact ⟨e0, e1, n0, n1⟩
        · exact ent x hx
      · rw [if_neg c] at h
        cases h
theorem ent_d2 {fr : List T3} {e : E2} (h : Ent fr e) : entD fr.length 8 (d2 e) = some e := by
  obtain ⟨e0, e1, n0, n1⟩ := h
  have a : numD 8 (.int e.1) = some e.1 := if_pos ⟨e0, e1⟩
  have b : numD (fr.length : Int) (.int e.2) = some e.2 := if_pos ⟨n0, n1⟩
  show (match numD 8 (.int e.1), numD fr.length (.int e.2) with
    | some x, some y => some (x, y)
    | _, _ => none) = some e
  rw [a, b]
/-- what is known of the standings is right -/
def Kn (pl : List (Option Int)) (ql : List Int) : Prop := ∀ n x, pl.getD n none = some x → ql[n]? = some x
theorem go_none {fr : List T3} : ∀ {es : List E2} {pl : List (Option Int)} {ql : List Int} {i : Nat}, pl.length = 8 → ql.length = 8 → Kn pl ql → (∀ e ∈ es, Ent fr e) → goF fr ql es → wrongF fr (es.map d2) pl i = none
  | [], _, _, _, _, _, _, _, _ => rfl
  | e :: es, pl, ql, i, p8, q8, kn, ent, g => by
    obtain ⟨e0, e1, n0, n1⟩ := ent e (List.mem_cons_self ..)
    have rest : wrongF fr (es.map d2) (pl.set e.1.toNat (some (stt fr e.2).2.2)) (i + 1) = none := by
      refine go_none (ql := ql.set e.1.toNat (stt fr e.2).2.2) (by rw [List.length_set]; exact p8) (by rw [List.length_set]; exact q8) (fun n x h => ?_) (fun x hx => ent x (List.mem_cons_of_mem _ hx)) g.2
      rw [List.getD_eq_getElem?_getD] at h
      by_cases c : e.1.toNat = n
      · subst c
        rw [List.getElem?_set_self (by omega)] at h
        rw [List.getElem?_set_self (by omega)]
        exact h
      · rw [List.getElem?_set_ne c] at h
        rw [List.getElem?_set_ne c]
        exact kn n x (by rw [List.getD_eq_getElem?_getD]; exact h)
    rw [List.map_cons, wrongF_step, ent_d2 (ent e (List.mem_cons_self ..))]
    show (match pl.getD e.1.toNat none with
      | none => wrongF fr (es.map d2) (pl.set e.1.toNat (some (stt fr e.2).2.2)) (i + 1)
      | some x => if x = (stt fr e.2).1 then wrongF fr (es.map d2) (pl.set e.1.toNat (some (stt fr e.2).2.2)) (i + 1) else some i) = none
    cases ep : pl.getD e.1.toNat none with
    | none => exact rest
    | some x =>
      have z := kn _ _ ep
      rw [g.1] at z
      have z2 : (stt fr e.2).1 = x := Option.some.inj z
      show (if x = (stt fr e.2).1 then _ else some i) = none
      rw [if_pos z2.symm]
      exact rest
end K39

set_option Elab.async false
set_option linter.all false
set_option maxRecDepth 100000
set_option maxHeartbeats 4000000
/-! A caught error that has fields: isinstance, its fields. -/
namespace L2
namespace EV
open PySem PySem.Spec PyProof.Rows _root_.EV
/-- isinstance of a caught one with fields -/
def rIsF (K : PySem.W.Frag) : List V → Hp → VK → Prop := fun xs H Q => ∃ (a C d : Addr) (fs : List (Str × V)) (B newId initId : String) (bm : List Value) (c : V) (u : Value) (b : Bool),
  xs = [.ref a, c] ∧ ClsV c u ∧ OxC K C B newId initId bm ∧ H a = some (exh (.ref C) (some d) a) ∧ H d = some (.xd fs) ∧ PySem.W.kitOne K (.ref C) u = some b ∧ Q (.bl b) H
theorem call_isF {X : Cx} : CallR X (.builtin "isinstance") (rIsF X.K) := by
  intro pins s σ H xs us Q I r h
  obtain ⟨a, C, d, fs, B, newId, initId, bm, c, u, b, rfl, k, T, ea, ed, e, q⟩ := h
  obtain ⟨u1, u2, rfl, r1, r2⟩ := vals2 r
  have e2 := k.eq r2
  subst e2
  obtain rfl : u1 = Value.ref a := r1
  obtain ⟨oe, vs, ho, hz, hd⟩ := exh_at I.hok ea
  have hx : ObjOk X.prog X.w H s.heap d (.xd fs) := I.hok d _ ed
  obtain ⟨mA, hns, hr⟩ := hx
  obtain ⟨od, hod, hl⟩ := lookIn_ns hns
  obtain ⟨cd, hcl, _⟩ := T.data
  have some_ : (PySem.W.clsIn X.K C).isSome = true := by rw [hcl]; rfl
  have J : PySem.W.InstAt s.heap a oe C (some od) := ⟨ho, hz.1, by unfold PySem.W.notCls; rw [hd], by rw [hz.2]; exact hod⟩
  exact PySem.W.kia_one (PySem.W.kitx_exc some_ T.ga T.gg T.exC T.ca T.cn T.ct T.om) I.kIn J e (fun z => nomatch z) fun tk => ⟨.bl b, H, I.tok tk, rfl, q⟩
/-- a caught one's field -/
def tXg (K : PySem.W.Frag) (f : Str) (te : TE) : TE := fun σ H Q => te σ H fun x H1 => ∃ (a C d : Addr) (fs : List (Str × V)) (v : V), x = .ref a ∧ XfC K C ∧ PySem.W.findIn K (.ref C) f = some none ∧ H1 a = some (exh (.ref C) (some d) a) ∧ H1 d = some (.xd fs) ∧ fs.lookup f = some v ∧ Q v H1
theorem pe_xg {X : Cx} {e : Expr} {te : TE} {pos : Pos} {n : Str} (he : PE X e te) (hb : attributeBase e n X.env (eval e X.env) = eval e X.env := by rfl) : PE X (.Attribute e n pos) (tXg X.K n te) := by
  refine ⟨fun pins s σ H Q I h => ?_⟩
  refine attr_of hb (thn (he.run pins s σ H _ I h) fun u s1 hh => ?_)
  obtain ⟨x, H1, I1, rx, a, C, d, fs, v, ex, T, hno, ea, ed, l, q⟩ := hh
  subst ex
  obtain rfl : u = Value.ref a := rx
  obtain ⟨oe, vs, ho, hz, hd⟩ := exh_at I1.hok ea
  have hx : ObjOk X.prog X.w H1 s1.heap d (.xd fs) := I1.hok d _ ed
  obtain ⟨mA, hns, hr⟩ := hx
  obtain ⟨od, hod, hl⟩ := lookIn_ns hns
  obtain ⟨u, hu, ru⟩ := RelO.some_of (v := v) (o := mA n) (by rw [← l]; exact hr n)
  have J : PySem.W.InstAt s1.heap a oe C (some od) := ⟨ho, hz.1, by unfold PySem.W.notCls; rw [hd], by rw [hz.2]; exact hod⟩
  exact HandSPX.exc_get I1.kIn J T.ga T.gg T.exC (PySem.W.findObj_own T.hdC hno rfl (by rw [hl, hu])) (handed_of ru) ⟨v, H1, I1.tok _, ru, q⟩
end EV
end L2

set_option Elab.async false
set_option linter.all false
set_option maxRecDepth 100000
set_option maxHeartbeats 4000000
/-! Pairs of an int and a text: <, <=. Raising an own exception whose __init__ has put fields. -/
namespace L2
open PySem PySem.Spec PyProof.Rows
abbrev IS : Type := Int × Str
def ltIS (a b : IS) : Bool := if a.1 = b.1 then decide (sl a.2 < sl b.2) else decide (a.1 < b.1)
def tIS (a : IS) : HO := .tup [.int a.1, .str a.2]
def rLtIS : R2 := fun x y H Q => ∃ (a b : Addr) (m n : IS), x = .ref a ∧ y = .ref b ∧ H a = some (tIS m) ∧ H b = some (tIS n) ∧ Q (.bl (ltIS m n)) H
def rLeIS : R2 := fun x y H Q => ∃ (a b : Addr) (m n : IS), x = .ref a ∧ y = .ref b ∧ H a = some (tIS m) ∧ H b = some (tIS n) ∧ Q (.bl (!ltIS n m)) H
theorem lexP_lt (m n : IS) : Ob.lexAt (fun j => if j = 0 then m.1 == n.1 else m.2 == n.2) (fun j => if j = 0 then decide (m.1 < n.1) else decide (sl m.2 < sl n.2)) false 0 2 = ltIS m n := by
  obtain ⟨m1, m2⟩ := m
  obtain ⟨n1, n2⟩ := n
  simp only [Ob.lexAt, ltIS]
  by_cases e1 : m1 = n1
  · subst e1
    by_cases e2 : m2 = n2
    · subst e2
      have z : ¬ sl m2 < sl m2 := List.lt_irrefl _
      simp
    · simp [e2]
  · simp [e1]
theorem lexP_le (m n : IS) : Ob.lexAt (fun j => if j = 0 then m.1 == n.1 else m.2 == n.2) (fun j => if j = 0 then decide (m.1 ≤ n.1) else decide (sl m.2 ≤ sl n.2)) true 0 2 = !ltIS n m := by
  obtain ⟨m1, m2⟩ := m
  obtain ⟨n1, n2⟩ := n
  simp only [Ob.lexAt, ltIS]
  by_cases e1 : m1 = n1
  · subst e1
    by_cases e2 : m2 = n2
    · subst e2
      have z : ¬ sl m2 < sl m2 := List.lt_irrefl _
      simp
    · have e2' : ¬ n2 = m2 := fun z => e2 z.symm
      simp only [beq_self_eq_true, if_true, Nat.zero_add, Nat.one_ne_zero, if_false, beq_iff_eq, e2]
      by_cases z : sl m2 ≤ sl n2
      · rw [decide_eq_true z, decide_eq_false (List.not_lt.mpr z)]
        rfl
      · rw [decide_eq_false z, decide_eq_true (List.not_le.mp z)]
        rfl
  · have e1' : ¬ n1 = m1 := fun z => e1 z.symm
    simp only [if_true, beq_iff_eq, e1, e1', if_false]
    by_cases z : m1 ≤ n1
    · rw [decide_eq_true z, decide_eq_false (by omega)]
      rfl
    · rw [decide_eq_false z, decide_eq_true (by omega)]
      rfl
theorem lt_strR {A : Around} {s : Shared} (a b : Str) (t u : Tok) : Ob.RcOp .Lt A s (.str a t) (.str b u) (decide (sl a < sl b)) := fun _ _ _ _ h => PyProof.Rows.lt_str h
section
variable {X : Cx}
theorem vals_2 {x y : V} {us : List Value} (r : Vals [x, y] us) : ∃ u w', us = [u, w'] ∧ RelV x u ∧ RelV y w' := by
  cases r with
  | cons r1 r =>
    cases r with
    | cons r2 r =>
      cases r
      exact ⟨_, _, rfl, r1, r2⟩
theorem op_ltIS (hu : X.A.units < cLine) : OpR X (compareOp .Lt) rLtIS := by
  intro pins s σ H x y v u Q I rx ry h
  obtain ⟨a, b, m, n, rfl, rfl, ha, hb, q⟩ := h
  cases rx
  cases ry
  obtain ⟨its, r1, p1, _⟩ := I.tuple (SqT.of ha)
  obtain ⟨its2, r2, p2, _⟩ := I.tuple (SqT.of hb)
  obtain ⟨u1, u2, rfl, ⟨t1, rfl⟩, ⟨t2, rfl⟩⟩ := vals_2 r1
  obtain ⟨v1, v2, rfl, ⟨w1, rfl⟩, ⟨w2, rfl⟩⟩ := vals_2 r2
  have R := Ob.RcOp.tuples_lt (A := X.A) (s := s) (e := fun j => if j = 0 then m.1 == n.1 else m.2 == n.2) (r := fun j => if j = 0 then decide (m.1 < n.1) else decide (sl m.2 < sl n.2)) p1 p2 hu
    (fun j h1 h2 => by
      match j, h1 with
      | 0, _ => exact SeqAt.EqAt.int_int _ _ _ _
      | 1, _ => exact SeqAt.EqAt.str_str _ _ _ _)
    (fun j h1 h2 _ => by
      match j, h1 with
      | 0, _ => exact Ob.RcOp.lt_int _ _ _ _
      | 1, _ => exact lt_strR _ _ _ _)
  have e3 : Ob.lexAt (fun j => if j = 0 then m.1 == n.1 else m.2 == n.2) (fun j => if j = 0 then decide (m.1 < n.1) else decide (sl m.2 < sl n.2)) (decide (2 < 2)) 0 (min 2 2) = ltIS m n := lexP_lt m n
  have z : wpAny (model X.prog X.w) X.A (compareOp .Lt (.ref a) (.ref b)) (EP X pins σ Q) X.xe s := R X.prog X.w X.xe (EP X pins σ Q) ⟨.bl _, H, I, rfl, by
    rw [← e3] at q
    exact q⟩
  exact z
theorem op_leIS (hu : X.A.units < cLine) : OpR X (compareOp .LtE) rLeIS := by
  intro pins s σ H x y v u Q I rx ry h
  obtain ⟨a, b, m, n, rfl, rfl, ha, hb, q⟩ := h
  cases rx
  cases ry
  obtain ⟨its, r1, p1, _⟩ := I.tuple (SqT.of ha)
  obtain ⟨its2, r2, p2, _⟩ := I.tuple (SqT.of hb)
  obtain ⟨u1, u2, rfl, ⟨t1, rfl⟩, ⟨t2, rfl⟩⟩ := vals_2 r1
  obtain ⟨v1, v2, rfl, ⟨w1, rfl⟩, ⟨w2, rfl⟩⟩ := vals_2 r2
  have R := Ob.RcOp.tuples_le (A := X.A) (s := s) (e := fun j => if j = 0 then m.1 == n.1 else m.2 == n.2) (r := fun j => if j = 0 then decide (m.1 ≤ n.1) else decide (sl m.2 ≤ sl n.2)) p1 p2 hu
    (fun j h1 h2 => by
      match j, h1 with
      | 0, _ => exact SeqAt.EqAt.int_int _ _ _ _
      | 1, _ => exact SeqAt.EqAt.str_str _ _ _ _)
    (fun j h1 h2 _ => by
      match j, h1 with
      | 0, _ => exact Ob.RcOp.le_int _ _ _ _
      | 1, _ => exact RcOp.le_str _ _ _ _)
  have e3 : Ob.lexAt (fun j => if j = 0 then m.1 == n.1 else m.2 == n.2) (fun j => if j = 0 then decide (m.1 ≤ n.1) else decide (sl m.2 ≤ sl n.2)) (decide (2 ≤ 2)) 0 (min 2 2) = !ltIS n m := lexP_le m n
  have z : wpAny (model X.prog X.w) X.A (compareOp .LtE (.ref a) (.ref b)) (EP X pins σ Q) X.xe s := R X.prog X.w X.xe (EP X pins σ Q) ⟨.bl _, H, I, rfl, by
    rw [← e3] at q
    exact q⟩
  exact z
end
namespace EV
/-- an exception's fields, told as those of one that flies -/
theorem exd_told {X : Cx} {pins : List (Addr × Obj)} {σ : L2.St} {H : Hp} {s : Shared} {d : Addr} {fs : List (Str × V)} (I : Inv X pins σ H s) (e : H d = some (exd d fs)) : Inv X pins σ (upd H d (.xd fs)) s := by
  obtain ⟨mA, hns, rel⟩ := exd_at I.hok e
  obtain ⟨od, ho, _⟩ := lookIn_ns hns
  exact I.write (h' := s.heap) (t' := s.toks) (x := d) (e := d) (o := .xd fs) (by rw [e]; exact True.intro) (.inl rfl) (fun b u _ q => q) (by
    obtain ⟨o, es, ep, e1, _⟩ := hns
    exact ⟨_, e1⟩) ⟨mA, hns, rel⟩
theorem pmk_own3 {X : Cx} {e : Expr} {te : TE} (hx : X.ex = []) (he : PE X e te) :
    PMk X e (fun σ H Q => te σ H fun x H1 => ∃ (a C d : Addr) (fs : List (Str × V)), x = .ref a ∧ H1 a = some (exo a C (some d)) ∧ d ≠ a ∧ H1 d = some (exd d fs) ∧ Fr0 X.H_0 a ∧ Raises X (.ref C) ∧ Q (.ref C) (some d) (upd (delH H1 a) d (.xd fs))) := by
  intro pins s σ H Q I h
  refine wpAny_mono (he.run pins s σ H _ I h) (fun u s1 hu => ?_) fun _ _ x => x
  obtain ⟨v, H1, I1, r1, a, C, d, fs, rfl, ha, nda, hd, h0, hr, q⟩ := hu
  cases r1
  obtain ⟨t1, ho⟩ := exo_at I1.hok ha
  obtain ⟨G, gs, ga, J⟩ := I1.untrack ha h0 hx
  have hd' : delH H1 a d = some (exd d fs) := by
    rw [delH_ne nda]
    exact hd
  have J2 := exd_told J hd'
  have na : upd (delH H1 a) d (.xd fs) a = none := by
    rw [upd_ne nda.symm]
    exact delH_same
  exact ⟨a, _, _, { s1 with heap := G }, _, .ref C, some d, rfl, J2, gs, ga, ho, ⟨rfl, rfl⟩, rfl, rfl, na, rfl, I1.bare, hr, q⟩
end EV
end L2

set_option Elab.async false
set_option linter.all false
set_option maxRecDepth 100000
set_option maxHeartbeats 4000000
/-! BadWeaving; need_weaving of any data. -/
namespace K39
open PySem L2 L2.EV
abbrev sBadWeaving : Stmt := inClass (top 3) 0
section
variable {P : Program} {w : World} {K : PySem.W.Frag} {mg : Str → Option Value} {base : Heap}
theorem scBadWeaving : FnScope ["self", "number"] ["self", "number"] (defScope sBadWeaving) := ⟨rfl, rfl, rfl, by decide +kernel, rfl, by decide +kernel, by decide +kernel⟩
theorem ok_BadWeaving {f C : Addr} {fd : FuncData} (F : Fun K "__init__" "BadWeaving.__init__" sBadWeaving f fd) (T : OxC K C "ValueError" "ValueError.__new__" "ValueError.__init__" [.type "ValueError", .type "Exception", .type "BaseException", .type "object"]) (I : BI K mg "ValueError" "ValueError" "ValueError.__init__")
    (n0 : PySem.W.findIn K (.ref C) "number" = some none) : FnOk P w K mg base CX0 1 f fd ["self", "number"] (spOne C "number") := by
  refine F.ok scBadWeaving (fun vs H Q E h => ?_) (fun cdv A outer s H vs Q E hr h => ?_)
  · obtain ⟨a, x, rfl, _⟩ := h
    rfl
  · obtain ⟨a, x, rfl, e, q⟩ := h
    refine ⟨_, pss_cons (ps_expr (pe_bin (newId := "ValueError.__new__") (bm := [.type "ValueError", .type "Exception", .type "BaseException", .type "object"]) (by rfl) I.mg I.bt I.ty I.vV I.st (pa_cons (pv 0) (pa_cons pe_str pa_nil)) rfl)) (pss_one (ps_put (B := "ValueError") (newId := "ValueError.__new__") (initId := "ValueError.__init__") (bm := [.type "ValueError", .type "Exception", .type "BaseException", .type "object"]) (pv 0) (pv 1) rfl)), ?_⟩
    exact ⟨_, rfl, a, C, _, rfl, by show 1 ≤ 1000; decide, T, e, _, rfl, _, rfl, a, C, rfl, T, n0, .inl ⟨e, fun dx hn ne => q dx hn ne⟩⟩
end
/-- what is known of BadWeaving -/
structure Bwv (K : PySem.W.Frag) (mg : Str → Option Value) where
  C : Addr
  f : Addr
  d : FuncData
  T : OxC K C "ValueError" "ValueError.__new__" "ValueError.__init__" bmVE
  I : BI K mg "ValueError" "ValueError" "ValueError.__init__"
  F : Fun K "__init__" "BadWeaving.__init__" sBadWeaving f d
  b : Binds K d ["self", "number"] []
  m : mg "BadWeaving" = some (.ref C)
  iC : PySem.W.findIn K (.ref C) "__init__" = some (some (.ref f))
  tI : PySem.W.typeIn K (.ref f) = some (.type "function")
  n0 : PySem.W.findIn K (.ref C) "number" = some none
  su : PySem.W.subIn K (.ref C) (.type "BaseException") = some true
  ty : PySem.W.typeIn K (.ref C) = some (.type "type")
theorem bad_heap {H : Hp} {C a dx : Addr} {x : V} (na : H a = none) (hn : upd H a (exo a C none) dx = none) (ne : dx ≠ a) :
    (upd (upd (upd H a (exo a C none)) dx (exd dx [("number", x)])) a (exo a C (some dx))) a = some (exo a C (some dx)) ∧
    (upd (upd (upd H a (exo a C none)) dx (exd dx [("number", x)])) a (exo a C (some dx))) dx = some (exd dx [("number", x)]) ∧
    Same H (upd (delH (upd (upd (upd H a (exo a C none)) dx (exd dx [("number", x)])) a (exo a C (some dx))) a) dx (.xd [("number", x)])) := by
  have hd : H dx = none := by
    rw [upd_ne ne] at hn
    exact hn
  refine ⟨upd_same, by rw [upd_ne ne]; exact upd_same, fun b o e => ?_⟩
  have h1 := ne_of_none e na
  have h2 := ne_of_none e hd
  rw [upd_ne h2, delH_ne h1, upd_ne h1, upd_ne h2, upd_ne h1]
  exact e
/-- the error is told with this field -/
def Eb (C : Addr) (E : XK) (H : Hp) (r : V) : Prop := ∀ (H' : Hp) (dx : Addr), Same H H' → H' dx = some (.xd [("number", r)]) → E (.ref C) (some dx) H'
theorem Eb.same {C : Addr} {E : XK} {H H' : Hp} {r : V} (h : Eb C E H r) (s : Same H H') : Eb C E H' r := fun H2 dx s2 e => h H2 dx (s.trans s2) e
/-- by which number data are refused as a weaving -/
def weavR (fr : List T3) : PyData → Option V
  | .tuple ds => if 200 < ds.length then some .non else match wrongF fr ds (all8 (some 0)) 0 with
    | some i => some (.int (i : Int))
    | none => none
  | _ => some .non
def spNeedWG (C : Addr) : Sp := fun vs H Q E => ∃ (f : Addr) (v : V) (fr : List T3) (last : Nat) (d : PyData), vs = [.ref f, v] ∧ FrA H f fr ∧ Frm fr last ∧ Da H v d ∧ match weavR fr d with
  | none => ∀ H', Same H H' → Q v H'
  | some r => Eb C E H r
theorem weav_none {fr : List T3} {d : PyData} (h : weavR fr d = none) : ∃ es : List E2, d = .tuple (es.map d2) ∧ es.length ≤ 200 ∧ (∀ e ∈ es, Ent fr e) ∧ goF fr (List.replicate 8 0) es := by
  cases d with
  | tuple ds =>
    have h : (if 200 < ds.length then some V.non else match wrongF fr ds (all8 (some 0)) 0 with
      | some i => some (.int (i : Int))
      | none => none) = none := h
    by_cases c : 200 < ds.length
    · rw [if_pos c] at h
      cases h
    · rw [if_neg c] at h
      cases ew : wrongF fr ds (all8 (some 0)) 0 with
      | some i =>
        rw [ew] at h
        cases h
      | none =>
        have e8 : all8 (some 0) = (List.replicate 8 (0 : Int)).map some := rfl
        rw [e8] at ew
        obtain ⟨es, rfl, ent, g⟩ := wrong_go rfl ew
        exact ⟨es, rfl, by rw [List.length_map] at c; omega, ent, g⟩
  | _ => cases h
structure Wg (K : PySem.W.Frag) (mg : Str → Option Value) where
  Y : Ws K mg
  B : Bwv K mg
section
variable {P : Program} {w : World} {K : PySem.W.Frag} {mg : Str → Option Value} {base : Heap}
theorem ok_needWG (W : Wg K mg) : FnOk P w K mg base (L2.CX P w) 4 W.Y.fW W.Y.dW ["framing", "thing"] (spNeedWG W.B.C) := by
  have GF : FnOk P w K mg base CX0 3 W.Y.Z.fF W.Y.Z.dF ["thing"] spNeedF := ok_needF W.Y.Z
  have GR : FnOk P w K mg base CX0 3 W.Y.fR W.Y.dR ["framing", "things", "begin"] spWrongD := ok_wrongD W.Y
  have GB : FnOk P w K mg base CX0 1 W.B.f W.B.d ["self", "number"] (spOne W.B.C "number") := ok_BadWeaving W.B.F W.B.T W.B.I W.B.n0
  refine W.Y.W.okX scNeedW (fun vs H Q E h => ?_) (fun cdv A outer s H vs Q E hr h => ?_)
  · obtain ⟨f, v, fr, last, d, rfl, _⟩ := h
    rfl
  · obtain ⟨f, v, fr, last, d, rfl, fa, fm, da, q⟩ := h
    obtain ⟨tm, eM⟩ := W.Y.most
    refine ⟨_, pss_cons (ps_expr (pe_call GF hr (by rfl) W.Y.Z.mF W.Y.Z.F.kp W.Y.Z.bF .nil pass0 (pa_cons (pv 0) pa_nil)))
      (pss_cons (ps_if (pw_or (pt_not (pt_val (pe_callB call_isi (by rfl) W.Y.Z.T.isi PyProof.Rows.boot_isinstance (pa_cons (pv 1) (pa_cons (pe_bltn (v := .ty "tuple") (by rfl) W.Y.Z.T.tuple (by decide +kernel) rfl) pa_nil)))))
        (pw_or1 (pt_cmpR op_gt (pe_callB call_len_seq (by rfl) W.Y.Z.T.len PySem.boot_len (pa_cons (pv 1) pa_nil)) (pe_glob (v := .int 200) (by rfl) eM ⟨_, rfl⟩) (nomark _)))).pt
        (pss_one (ps_raise rfl (takes_of rfl rfl rfl rfl) (pmk_own3 rfl (pe_new W.B.T W.B.iC W.B.tI GB (hr.mono (by omega)) (kb_pos W.B.b rfl) pass0 (by rfl) W.B.m (pa_cons pe_non pa_nil))))) pss_nil)
      (pss_cons (ps_set (i := 2) scNeedW.nd rfl (Or.inl rfl) (pe_call GR hr (by rfl) W.Y.mR W.Y.R.kp W.Y.bR .nil pass0 (pa_cons (pv 0) (pa_cons (pv 1) (pa_cons pe_int pa_nil)))))
      (pss_cons (ps_if (pt_cmpR op_notN (pv 2) pe_non (nomark _)) (pss_one (ps_raise rfl (takes_of rfl rfl rfl rfl) (pmk_own3 rfl (pe_new W.B.T W.B.iC W.B.tI GB (hr.mono (by omega)) (kb_pos W.B.b rfl) pass0 (by rfl) W.B.m (pa_cons (pv 2) pa_nil))))) pss_nil)
      (pss_one (ps_ret (pv 1)))))), ?_⟩
    have fin : ∀ {H1 : Hp} {a : Addr} {r : V} (s1 : Same H H1) (na : H1 a = none) (qe : Eb W.B.C E H r) (dx : Addr), upd H1 a (exo a W.B.C none) dx = none → dx ≠ a →
        ∃ (a0 C d : Addr) (fs : List (Str × V)), V.ref a = .ref a0 ∧ (upd (upd (upd H1 a (exo a W.B.C none)) dx (exd dx [("number", r)])) a (exo a W.B.C (some dx))) a0 = some (exo a0 C (some d)) ∧ d ≠ a0 ∧
          (upd (upd (upd H1 a (exo a W.B.C none)) dx (exd dx [("number", r)])) a (exo a W.B.C (some dx))) d = some (exd d fs) ∧ Fr0 H a0 ∧
          Raises (cxOf (L2.CX P w) P w K mg base ["framing", "thing", "number"] "need_weaving" (defScope sNeedW) W.Y.fW cdv A outer s H E) (.ref C) ∧
          E (.ref C) (some d) (upd (delH (upd (upd (upd H1 a (exo a W.B.C none)) dx (exd dx [("number", r)])) a (exo a W.B.C (some dx))) a0) d (.xd fs)) := by
      intro H1 a r s1 na qe dx hn ne
      obtain ⟨b1, b2, b3⟩ := bad_heap (x := r) na hn ne
      exact ⟨a, W.B.C, dx, _, rfl, b1, ne, b2, fr0_none (same_none s1 na), raises_own W.B.su W.B.ty, qe _ dx (s1.trans b3) upd_same⟩
    refine ⟨_, rfl, f, fr, last, rfl, fa, fm, fun H1 s1 => ?_⟩
    have da1 := Da.same s1 _ _ da
    obtain ⟨t, ty, kt, _, _⟩ := da1.ty (K := K)
    refine ⟨_, rfl, v, .ty "tuple", t, .type "tuple", isTup d, rfl, .ty "tuple", ty, kt, isTup d, rfl, ?_⟩
    have bad0 : weavR fr d = some .non → Eb W.B.C E H .non := fun e => by
      rw [e] at q
      exact q
    cases da1 with
    | @tup a xs ds e all =>
      refine iteF ?_
      have da2 : Da H1 (.ref a) (.tuple ds) := .tup e all
      have ln := all.len
      refine ⟨_, rfl, a, _, rfl, .inr (SqT.of e), _, 200, rfl, rfl, _, rfl, ?_⟩
      by_cases c : 200 < ds.length
      · refine iteT' (decide_eq_true (by omega)) ?_
        exact ⟨rfl, rfl, (by decide), fun a na => ⟨a, .non, rfl, upd_same, fun dx hn ne => ⟨rfl, fin s1 na (bad0 (if_pos c)) dx hn ne⟩⟩⟩
      · refine iteF' (decide_eq_false (by omega)) ?_
        refine ⟨_, rfl, _, rfl, f, a, fr, ds, some 0, rfl, fa.same s1, da2, fun H2 s2 => ?_⟩
        have s12 := s1.trans s2
        have ew : weavR fr (.tuple ds) = match wrongF fr ds (all8 (some 0)) 0 with
          | some i => some (.int (i : Int))
          | none => none := if_neg c
        rw [ew] at q
        cases ef : wrongF fr ds (all8 (some 0)) 0 with
        | some i =>
          rw [ef] at q
          refine ⟨_, rfl, rfl, _, rfl, iteT' (by simp [wv]) ?_⟩
          exact ⟨_, rfl, rfl, rfl, (by show 1 ≤ 1000; decide), fun a na => ⟨a, .int (i : Nat), rfl, upd_same, fun dx hn ne => ⟨rfl, fin s12 na q dx hn ne⟩⟩⟩
        | none =>
          rw [ef] at q
          refine ⟨_, rfl, rfl, _, rfl, iteF' (by simp [wv]) ⟨_, rfl, q H2 s12⟩⟩
    | bl b => exact iteT ⟨rfl, rfl, (by decide), fun a na => ⟨a, .non, rfl, upd_same, fun dx hn ne => ⟨rfl, fin s1 na (bad0 rfl) dx hn ne⟩⟩⟩
    | non => exact iteT ⟨rfl, rfl, (by decide), fun a na => ⟨a, .non, rfl, upd_same, fun dx hn ne => ⟨rfl, fin s1 na (bad0 rfl) dx hn ne⟩⟩⟩
    | int i => exact iteT ⟨rfl, rfl, (by decide), fun a na => ⟨a, .non, rfl, upd_same, fun dx hn ne => ⟨rfl, fin s1 na (bad0 rfl) dx hn ne⟩⟩⟩
    | str x => exact iteT ⟨rfl, rfl, (by decide), fun a na => ⟨a, .non, rfl, upd_same, fun dx hn ne => ⟨rfl, fin s1 na (bad0 rfl) dx hn ne⟩⟩⟩
    | lst e h => exact iteT ⟨rfl, rfl, (by decide), fun a na => ⟨a, .non, rfl, upd_same, fun dx hn ne => ⟨rfl, fin s1 na (bad0 rfl) dx hn ne⟩⟩⟩
end
end K39

set_option Elab.async false
set_option linter.all false
set_option maxRecDepth 100000
set_option maxHeartbeats 4000000
/-! follows_as_line, is_line of any data. -/
namespace K39
open PySem L2 L2.EV
abbrev sFol : Stmt := top 17
abbrev sLine : Stmt := top 18
/-- steps that lead from a standing to the end of a line, and no further -/
def folF (fr : List T3) : List Int → Int → Nat → Bool
  | [], st, _ => decide (st = 0)
  | n :: ns, st, k => decide ((stt fr n).1 = st) && (!(decide (0 < k) && decide ((stt fr n).1 = 0)) && folF fr ns (stt fr n).2.2 (k + 1))
def numsD (m : Int) : List PyData → Option (List Int)
  | [] => some []
  | d :: ds => match numD m d, numsD m ds with
    | some n, some ns => some (n :: ns)
    | _, _ => none
def lineD (fr : List T3) : PyData → Option (List Int)
  | .tuple [] => none
  | .tuple (d :: ds) => match numsD fr.length (d :: ds) with
    | some ns => if folF fr ns 0 0 = true then some ns else none
    | none => none
  | _ => none
def Ins (fr : List T3) (n : Int) : Prop := 0 ≤ n ∧ n < fr.length
theorem numsD_some {m : Int} : ∀ {ds : List PyData} {ns : List Int}, numsD m ds = some ns → ds = ns.map PyData.int ∧ ∀ n ∈ ns, 0 ≤ n ∧ n < m
  | [], ns, h => by
    cases h
    exact ⟨rfl, fun n z => by cases z⟩
  | d :: ds, ns, h => by
    have h : (match numD m d, numsD m ds with
      | some n, some ns => some (n :: ns)
      | _, _ => none) = some ns := h
    cases ha : numD m d with
    | none =>
      rw [ha] at h
      cases h
    | some n =>
      cases hb : numsD m ds with
      | none =>
        rw [ha, hb] at h
        cases h
      | some ms =>
        rw [ha, hb] at h
        cases h
        obtain ⟨rfl, a1, a2⟩ := numD_some ha
        obtain ⟨rfl, b⟩ := numsD_some hb
        refine ⟨rfl, fun x hx => ?_⟩
        rcases List.mem_cons.mp hx with rfl | hx
        · exact ⟨a1, a2⟩
        · exact b x hx
theorem numsD_is {m : Int} : ∀ {ds : List PyData}, (numsD m ds).isSome = (ds.map fun d => (numD m d).isSome).all id
  | [] => rfl
  | d :: ds => by
    show (match numD m d, numsD m ds with
      | some n, some ns => some (n :: ns)
      | _, _ => none).isSome = ((numD m d).isSome && (ds.map fun d => (numD m d).isSome).all id)
    rw [← numsD_is (ds := ds)]
    cases numD m d <;> cases numsD m ds <;> rfl
theorem da_ints {H : Hp} : ∀ {ns : List Int} {vs : List V}, DaAll H vs (ns.map PyData.int) → vs = ns.map V.int
  | [], _, h => by cases h; rfl
  | n :: ns, _, h => by
    cases h with
    | cons h1 h2 =>
      cases h1
      rw [da_ints h2]
      rfl
theorem ints_da {H : Hp} : ∀ {ns : List Int}, DaAll H (ns.map V.int) (ns.map PyData.int)
  | [] => .nil
  | n :: ns => .cons (.int n) ints_da
def spFol : Sp := fun vs H Q _ => ∃ (f w : Addr) (fr : List T3) (ns : List Int), vs = [.ref f, .ref w] ∧ FrA H f fr ∧ H w = some (.tup (ns.map V.int)) ∧ (∀ n ∈ ns, Ins fr n) ∧ ∀ H', Same H H' → Q (.bl (folF fr ns 0 0)) H'
def spLineD : Sp := fun vs H Q _ => ∃ (f : Addr) (v : V) (fr : List T3) (last : Nat) (d : PyData), vs = [.ref f, v] ∧ FrA H f fr ∧ Frm fr last ∧ Da H v d ∧ ∀ H', Same H H' → Q (.bl (lineD fr d).isSome) H'
structure Ln (K : PySem.W.Frag) (mg : Str → Option Value) where
  W : Wg K mg
  fO : Addr
  fL : Addr
  dO : FuncData
  dL : FuncData
  O : Fun K "follows_as_line" "follows_as_line" sFol fO dO
  L : Fun K "is_line" "is_line" sLine fL dL
  bO : Binds K dO ["framing", "numbers"] []
  bL : Binds K dL ["framing", "thing"] []
  mO : mg "follows_as_line" = some (.ref fO)
  mL : mg "is_line" = some (.ref fL)
section
variable {P : Program} {w : World} {K : PySem.W.Frag} {mg : Str → Option Value} {base : Heap}
theorem scFol : FnScope ["framing", "numbers", "standing", "at", "number", "start", "piece", "goal"] ["framing", "numbers"] (defScope sFol) := ⟨rfl, rfl, rfl, by decide +kernel, rfl, by decide +kernel, by decide +kernel⟩
theorem ok_fol (Z : Ln K mg) : FnOk P w K mg base CX0 1 Z.fO Z.dO ["framing", "numbers"] spFol := by
  refine Z.O.ok scFol (fun vs H Q E h => ?_) (fun cdv A outer s H vs Q E hr h => ?_)
  · obtain ⟨f, w, fr, ns, rfl, _⟩ := h
    rfl
  · obtain ⟨f, w, fr, ns, rfl, fa, hw, hn, q⟩ := h
    refine ⟨_, pss_cons (ps_set (i := 2) scFol.nd rfl (Or.inl rfl) pe_int)
      (pss_cons (ps_for PassesOwn.never rfl (pi_enumT (by rfl) Z.W.Y.Z.en (pa_cons (pv 1) pa_nil)) (pg_tup rfl (pgs_cons (pg_name (i := 3) scFol.nd rfl (Or.inl rfl)) (pgs_cons (pg_name (i := 4) scFol.nd rfl (Or.inl rfl)) pgs_nil)))
        (pss_cons (ps_asg (pe_ix ix_tup (pv 0) (pv 4) (fun _ _ => rfl)) (pg_tup rfl (pgs_cons (pg_name (i := 5) scFol.nd rfl (Or.inl rfl)) (pgs_cons (pg_name (i := 6) scFol.nd rfl (Or.inl rfl)) (pgs_cons (pg_name (i := 7) scFol.nd rfl (Or.inl rfl)) pgs_nil)))))
        (pss_cons (ps_if (pw_or (pt_cmpR op_ne (pv 5) (pv 2) (nomark _)) (pw_or1 (pw_and (pt_cmpR op_gt (pv 3) pe_int (nomark _)) (pw_and1 (pt_cmpR op_eq (pv 5) pe_int (nomark _)))).pt)).pt (pss_one (ps_ret pe_bl)) pss_nil)
        (pss_one (ps_set (i := 2) scFol.nd rfl (Or.inl rfl) (pv 7))))))
      (pss_one (ps_ret (pe_cmpR op_eq (pv 2) pe_int (nomark _))))), ?_⟩
    refine ⟨_, rfl, w, _, rfl, SqT.of hw, for_it (walk_enumT (xs := ns.map V.int)) (fun i σ H' => ∃ (st : Int) (v3 v4 v5 v6 v7 : Option V), σ = [some (.ref f), some (.ref w), some (.int st), v3, v4, v5, v6, v7] ∧ Same H H' ∧ folF fr ns 0 0 = folF fr (ns.drop i) st i)
      ⟨0, none, none, none, none, none, rfl, Same.refl H, rfl⟩ (fun i σ H' _ ⟨_, _, _, _, _, _, _, z, _⟩ => SqT.of (z _ _ hw)) ?_ ?_⟩
    · rintro i x σ H1 H2 hi ⟨st, v3, v4, v5, v6, v7, rfl, s1, inv⟩ ⟨T, xi, xo, rfl, nT, rfl, h1, h2⟩
      cases h1
      have h2 : (ns.map V.int)[i]? = some xo := h2
      obtain ⟨n, en, rfl⟩ : ∃ n, ns[i]? = some n ∧ xo = .int n := by
        rw [List.getElem?_map] at h2
        cases e : ns[i]? with
        | none =>
          rw [e] at h2
          cases h2
        | some n =>
          rw [e] at h2
          exact ⟨n, rfl, (Option.some.inj h2).symm⟩
      obtain ⟨n0, n1⟩ := hn n (List.mem_of_getElem? en)
      rw [drop_at en] at inv
      have inv : folF fr ns 0 0 = (decide ((stt fr n).1 = st) && (!(decide (0 < i) && decide ((stt fr n).1 = 0)) && folF fr (ns.drop (i + 1)) (stt fr n).2.2 (i + 1))) := inv
      have s2 := s1.trans (same_upd (o := HO.tup [V.int (i : Nat), V.int n]) nT)
      obtain ⟨ts, t2, hf, ha, h3, _⟩ := stt_at (fa.same s2) n0 n1
      refine ⟨T, _, rfl, SqT.of upd_same, rfl, _, _, rfl, _, _, rfl, rfl, ?_⟩
      refine ⟨_, rfl, _, rfl, f, _, n, .ref t2, rfl, rfl, SqT.of hf, ha, t2, _, rfl, SqT.of h3, rfl, _, _, rfl, _, _, rfl, _, _, rfl, rfl, ?_⟩
      refine ⟨_, rfl, _, rfl, rfl, _, rfl, ?_⟩
      by_cases c1 : (stt fr n).1 = st
      · refine iteF' (by simp [c1]) ?_
        rw [decide_eq_true c1, Bool.true_and] at inv
        refine ⟨_, rfl, (i : Int), 0, rfl, rfl, _, rfl, ?_⟩
        have done : folF fr ns 0 0 = folF fr (ns.drop (i + 1)) (stt fr n).2.2 (i + 1) → ∃ (st' : Int) (v3 v4 v5 v6 v7 : Option V), [some (V.ref f), some (.ref w), some (V.int (stt fr n).2.2), some (V.int (i : Nat)), some (V.int n), some (V.int (stt fr n).1), some (V.str (stt fr n).2.1), some (V.int (stt fr n).2.2)] = [some (.ref f), some (.ref w), some (.int st'), v3, v4, v5, v6, v7] ∧ Same H (upd H1 T (HO.tup [V.int (i : Nat), V.int n])) ∧ folF fr ns 0 0 = folF fr (ns.drop (i + 1)) st' (i + 1) := fun e => ⟨_, _, _, _, _, _, rfl, s2, e⟩
        by_cases c2 : 0 < i
        · refine iteT' (by simp; omega) ?_
          rw [decide_eq_true c2, Bool.true_and] at inv
          refine ⟨_, rfl, rfl, _, rfl, ?_⟩
          by_cases c3 : (stt fr n).1 = 0
          · refine iteT' (by simp [c3]) ?_
            rw [decide_eq_true c3] at inv
            have z := q _ s2
            rw [inv] at z
            exact z
          · refine iteF' (by simp [c3]) ?_
            rw [decide_eq_false c3] at inv
            exact ⟨_, rfl, done (by rw [inv]; rfl)⟩
        · refine iteF' (by simp; omega) ?_
          rw [decide_eq_false c2] at inv
          exact ⟨_, rfl, done (by rw [inv]; rfl)⟩
      · refine iteT' (by simp [c1]) ?_
        rw [decide_eq_false c1] at inv
        have z := q _ s2
        rw [inv] at z
        exact z
    · rintro σ H1 ⟨st, v3, v4, v5, v6, v7, rfl, s1, inv⟩
      have inv : folF fr ns 0 0 = decide (st = 0) := by
        rw [inv, show (ns.map V.int).length = ns.length from List.length_map .., List.drop_length]
        rfl
      have z := q H1 s1
      rw [inv] at z
      have e1 : decide (V.int st = V.int 0) = decide (st = 0) := by
        rw [dec_int]
        by_cases z : st = 0
        · rw [z]
          rfl
        · rw [decide_eq_false z]
          exact beq_eq_false_iff_ne.mpr z
      rw [← e1] at z
      exact ⟨_, rfl, rfl, z⟩
end
end K39

set_option Elab.async false
set_option linter.all false
set_option maxRecDepth 100000
set_option maxHeartbeats 4000000
/-! is_line, is_score of any data. -/
namespace K39
open PySem L2 L2.EV
abbrev sScore : Stmt := top 31
/-- what len gives of a list or a tuple -/
abbrev rLn (K : PySem.W.Frag) : List V → Hp → (V → Hp → Prop) → Prop := fun xs H Q => ∃ p ys, xs = [.ref p] ∧ (SqL K H p ys ∨ SqT K H p ys) ∧ Q (.int ys.length) H
def items : PyData → List PyData
  | .tuple ds => ds
  | _ => []
/-- lines that are read one by one, with the steps so far -/
def lineR (fr : List T3) : List PyData → Int → Option Int
  | [], st => some st
  | d :: ds, st => match lineD fr d with
    | some ns => if 40 < st + (ns.length : Int) then none else lineR fr ds (st + (ns.length : Int))
    | none => none
def restS (fr : List T3) : List PyData → Int → Bool
  | [], _ => true
  | d :: ds, st => match d with
    | .tuple ls => match lineR fr ls st with
      | some st' => restS fr ds st'
      | none => false
    | _ => false
/-- a right score -/
def goodS (fr : List T3) : PyData → Bool
  | .tuple ds => decide (1 ≤ ds.length) && (decide (ds.length ≤ 8) && restS fr ds 0)
  | _ => false
/-- its lines are not too long to look at -/
def Lm (d : PyData) : Prop := ∀ e ∈ items d, ∀ g ∈ items e, (items g).length ≤ 10000
def spLineL : Sp := fun vs H Q _ => ∃ (f : Addr) (v : V) (fr : List T3) (last : Nat) (d : PyData), vs = [.ref f, v] ∧ FrA H f fr ∧ Frm fr last ∧ Da H v d ∧ (items d).length ≤ 10000 ∧ ∀ H', Same H H' → Q (.bl (lineD fr d).isSome) H'
def spScoreD : Sp := fun vs H Q _ => ∃ (f : Addr) (v : V) (fr : List T3) (last : Nat) (d : PyData), vs = [.ref f, v] ∧ FrA H f fr ∧ Frm fr last ∧ Da H v d ∧ Lm d ∧ ∀ H', Same H H' → Q (.bl (goodS fr d)) H'
structure Sr (K : PySem.W.Frag) (mg : Str → Option Value) where
  L : Ln K mg
  f : Addr
  d : FuncData
  F : Fun K "is_score" "is_score" sScore f d
  b : Binds K d ["framing", "thing"] []
  m : mg "is_score" = some (.ref f)
  marks : ∃ t, mg "MARKS" = some (.str "ABCDEFGH" t)
  most : ∃ t, mg "MOST_SCORED" = some (.int 40 t)
section
variable {P : Program} {w : World} {K : PySem.W.Frag} {mg : Str → Option Value} {base : Heap}
theorem scLine : FnScope ["framing", "thing", "number"] ["framing", "thing"] (defScope sLine) := ⟨rfl, rfl, rfl, by decide +kernel, rfl, by decide +kernel, by decide +kernel⟩
theorem ok_line (Z : Ln K mg) : FnOk P w K mg base CX0 4 Z.fL Z.dL ["framing", "thing"] spLineL := by
  have GF : FnOk P w K mg base CX0 3 Z.W.Y.Z.fF Z.W.Y.Z.dF ["thing"] spNeedF := ok_needF Z.W.Y.Z
  have GN : FnOk P w K mg base CX0 1 Z.W.Y.Z.fN Z.W.Y.Z.dN ["thing", "many"] spNumD := ok_numD Z.W.Y.Z.N Z.W.Y.Z.T
  have GO : FnOk P w K mg base CX0 1 Z.fO Z.dO ["framing", "numbers"] spFol := ok_fol Z
  have T := Z.W.Y.Z.T
  refine Z.L.ok scLine (fun vs H Q E h => ?_) (fun cdv A outer s H vs Q E hr h => ?_)
  · obtain ⟨f, v, fr, last, d, rfl, _⟩ := h
    rfl
  · obtain ⟨f, v, fr, last, d, rfl, fa, fm, da, l, q⟩ := h
    have r1 := hr.mono (j := 1) (by omega)
    refine ⟨_, pss_cons (ps_expr (pe_call GF hr (by rfl) Z.W.Y.Z.mF Z.W.Y.Z.F.kp Z.W.Y.Z.bF .nil pass0 (pa_cons (pv 0) pa_nil)))
      (pss_cons (ps_if (pw_or (pt_not (pt_val (pe_callB call_isi (by rfl) T.isi PyProof.Rows.boot_isinstance (pa_cons (pv 1) (pa_cons (pe_bltn (v := .ty "tuple") (by rfl) T.tuple (by decide +kernel) rfl) pa_nil)))))
        (pw_or1 (pt_cmpR op_eq (pe_callB call_len_seq (by rfl) T.len PySem.boot_len (pa_cons (pv 1) pa_nil)) pe_int (nomark _)))).pt
        (pss_one (ps_ret pe_bl)) pss_nil)
      (pss_cons (ps_if (pt_not (pt_val (pe_callB (cr_all rfl) (by rfl) T.all (by decide +kernel) (pa_cons (pe_lc (own := [("number", 2)]) (g := gName 2) (te := tCall spNumD [] E0 (tCons (tVar 2) (tCons (tCB (rLn K) (tCons (tVar 0) tNil)) tNil))) rfl scLine.nd (pi_tup (pv 1)) (blkOk_by (N := ["framing", "thing", "number"]) (sc := defScope sLine) (by decide +kernel))
          (fun _ _ _ _ _ => pg_name (i := 2) scLine.nd rfl (Or.inl rfl)) (fun _ _ _ _ _ => pts_nil) (fun _ _ _ _ _ => pe_call GN r1 (by rfl) Z.W.Y.Z.mN Z.W.Y.Z.N.kp Z.W.Y.Z.bN .nil pass0 (pa_cons (pv 2) (pa_cons (pe_callB call_len_seq (by rfl) T.len PySem.boot_len (pa_cons (pv 0) pa_nil)) pa_nil)))) pa_nil))))
        (pss_one (ps_ret pe_bl)) pss_nil)
      (pss_one (ps_ret (pe_call GO r1 (by rfl) Z.mO Z.O.kp Z.bO .nil pass0 (pa_cons (pv 0) (pa_cons (pv 1) pa_nil))))))), ?_⟩
    refine ⟨_, rfl, f, fr, last, rfl, fa, fm, fun H1 s1 => ?_⟩
    have da1 := Da.same s1 _ _ da
    obtain ⟨t, ty, kt, _, _⟩ := da1.ty (K := K)
    refine ⟨_, rfl, v, .ty "tuple", t, .type "tuple", isTup d, rfl, .ty "tuple", ty, kt, isTup d, rfl, ?_⟩
    cases da1 with
    | @tup a xs ds e all =>
      refine iteF ?_
      have ln := all.len
      refine ⟨_, rfl, a, _, rfl, .inr (SqT.of e), rfl, _, rfl, ?_⟩
      match ds, xs, ln, all, l, q with
      | [], [], _, _, _, q => exact iteT' (by simp) (q H1 s1)
      | d0 :: ds0, x0 :: xs0, ln, all, l, q =>
        refine iteF' (by simp; omega) ?_
        refine ⟨_, rfl, a, rfl, ⟨_, SqT.of e⟩, fun D hD => ?_⟩
        refine lc_it (walk_tup (xs := x0 :: xs0)) (fun i H' => H' D = some (.lst ((((d0 :: ds0).take i).map fun d => (numD fr.length d).isSome).map V.bl)) ∧ ∀ b o, H1 b = some o → H' b = some o) ⟨upd_same, fun b o z => same_upd hD b o z⟩ (fun i H' _ z => SqT.of (z.2 _ _ e)) ?_ ?_
        · rintro i x H2 H3 hi ⟨hl, kp⟩ ⟨rfl, hx⟩
          obtain ⟨d1, h1, dx⟩ := all.at_ hx
          obtain ⟨ts, hf, hfl, ht⟩ := fa.same (s1.trans kp)
          have dx2 := Da.same kp _ _ dx
          refine ⟨rfl, ⟨_, rfl, _, rfl, f, _, rfl, .inr (SqT.of hf), x, d1, _, rfl, dx2, _, hl, ?_, ?_, fun b o z => ?_⟩⟩
          · have l : ((d0 :: ds0).length) ≤ 10000 := l
            rw [List.length_map, List.length_map, List.length_take, sizeLine_eq]
            omega
          · rw [take_one h1, List.map_append, List.map_append, List.length_map, hfl]
            exact upd_same
          · rw [upd_ne (ne_of_none z hD)]
            exact kp b o z
        · rintro H2 ⟨hl, kp⟩
          rw [ln, List.take_length] at hl
          refine ⟨D, _, rfl, SqL.of hl, _, rfl, ?_⟩
          have ev : (((d0 :: ds0).map fun d => (numD fr.length d).isSome).all id) = (numsD fr.length (d0 :: ds0)).isSome := numsD_is.symm
          have q : ∀ H', Same H H' → Q (.bl (match numsD fr.length (d0 :: ds0) with
            | some ns => if folF fr ns 0 0 = true then some ns else none
            | none => none).isSome) H' := q
          rw [ev]
          cases en : numsD fr.length (d0 :: ds0) with
          | none =>
            rw [en] at q
            exact iteT (q _ (s1.trans kp))
          | some ns =>
            rw [en] at q
            refine iteF ?_
            obtain ⟨ed, hns⟩ := numsD_some en
            have ex : x0 :: xs0 = ns.map V.int := by
              rw [ed] at all
              exact da_ints all
            refine ⟨_, rfl, _, rfl, f, a, fr, ns, rfl, fa.same (s1.trans kp), by rw [← ex]; exact kp _ _ e, hns, fun H3 s3 => ?_⟩
            have z : Q (.bl (if folF fr ns 0 0 = true then some ns else none).isSome) H3 := q H3 ((s1.trans kp).trans s3)
            cases ef : folF fr ns 0 0 with
            | true =>
              rw [ef] at z
              exact z
            | false =>
              rw [ef] at z
              exact z
    | bl b => exact iteT (q H1 s1)
    | non => exact iteT (q H1 s1)
    | int i => exact iteT (q H1 s1)
    | str x => exact iteT (q H1 s1)
    | lst e h => exact iteT (q H1 s1)
theorem scScore : FnScope ["framing", "thing", "steps", "lines", "line"] ["framing", "thing"] (defScope sScore) := ⟨rfl, rfl, rfl, by decide +kernel, rfl, by decide +kernel, by decide +kernel⟩
theorem ok_score (Z : Sr K mg) : FnOk P w K mg base CX0 5 Z.f Z.d ["framing", "thing"] spScoreD := by
  have GL : FnOk P w K mg base CX0 4 Z.L.fL Z.L.dL ["framing", "thing"] spLineL := ok_line Z.L
  have T := Z.L.W.Y.Z.T
  refine Z.F.ok scScore (fun vs H Q E h => ?_) (fun cdv A outer s H vs Q E hr h => ?_)
  · obtain ⟨f, v, fr, last, d, rfl, _⟩ := h
    rfl
  · obtain ⟨f, v, fr, last, d, rfl, fa, fm, da, lm, q⟩ := h
    have hu := hu_of hr
    obtain ⟨tm, eM⟩ := Z.marks
    obtain ⟨t4, e4⟩ := Z.most
    refine ⟨_, pss_cons (ps_if (pw_or (pt_not (pt_val (pe_callB call_isi (by rfl) T.isi PyProof.Rows.boot_isinstance (pa_cons (pv 1) (pa_cons (pe_bltn (v := .ty "tuple") (by rfl) T.tuple (by decide +kernel) rfl) pa_nil)))))
        (pw_or1 (pt_not (pt_chain op_le op_le pe_int (pe_callB call_len_seq (by rfl) T.len PySem.boot_len (pa_cons (pv 1) pa_nil)) (pe_callB call_len_str (by rfl) T.len PySem.boot_len (pa_cons (pe_glob (v := .str "ABCDEFGH") (by rfl) eM ⟨_, rfl⟩) pa_nil)))))).pt
        (pss_one (ps_ret pe_bl)) pss_nil)
      (pss_cons (ps_set (i := 2) scScore.nd rfl (Or.inl rfl) pe_int)
      (pss_cons (ps_for PassesOwn.never rfl (pi_tup (pv 1)) (pg_name (i := 3) scScore.nd rfl (Or.inl rfl))
        (pss_cons (ps_if (pt_not (pt_val (pe_callB call_isi (by rfl) T.isi PyProof.Rows.boot_isinstance (pa_cons (pv 3) (pa_cons (pe_bltn (v := .ty "tuple") (by rfl) T.tuple (by decide +kernel) rfl) pa_nil))))) (pss_one (ps_ret pe_bl)) pss_nil)
        (pss_one (ps_for PassesOwn.never rfl (pi_tup (pv 3)) (pg_name (i := 4) scScore.nd rfl (Or.inl rfl))
          (pss_cons (ps_if (pt_not (pt_val (pe_call GL hr (by rfl) Z.L.mL Z.L.L.kp Z.L.bL .nil pass0 (pa_cons (pv 0) (pa_cons (pv 4) pa_nil))))) (pss_one (ps_ret pe_bl)) pss_nil)
          (pss_cons (ps_aug (i := 2) scScore.nd rfl (Or.inl rfl) (pe_callB call_len_seq (by rfl) T.len PySem.boot_len (pa_cons (pv 4) pa_nil)) ip_add)
          (pss_one (ps_if (pt_cmpR op_gt (pv 2) (pe_glob (v := .int 40) (by rfl) e4 ⟨_, rfl⟩) (nomark _)) (pss_one (ps_ret pe_bl)) pss_nil))))))))
      (pss_one (ps_ret pe_bl)))), ?_⟩
    obtain ⟨t, ty, kt, _, _⟩ := da.ty (K := K)
    refine ⟨_, rfl, v, .ty "tuple", t, .type "tuple", isTup d, rfl, .ty "tuple", ty, kt, isTup d, rfl, ?_⟩
    cases da with
    | @tup a xs ds e all =>
      refine iteF ?_
      have ln := all.len
      refine ⟨_, rfl, a, _, rfl, .inr (SqT.of e), 1, _, rfl, rfl, _, rfl, ?_⟩
      have q : ∀ H', Same H H' → Q (.bl (decide (1 ≤ ds.length) && (decide (ds.length ≤ 8) && restS fr ds 0))) H' := q
      by_cases c1 : 1 ≤ ds.length
      · refine iteT' (decide_eq_true (by omega)) ⟨_, rfl, by decide +kernel, _, 8, rfl, rfl, _, rfl, ?_⟩
        rw [decide_eq_true c1, Bool.true_and] at q
        by_cases c2 : ds.length ≤ 8
        · rw [decide_eq_true c2, Bool.true_and] at q
          refine iteF' (by rw [decide_eq_true (by omega)]; rfl) ?_
          refine ⟨_, rfl, a, rfl, ⟨_, SqT.of e⟩, for_it (walk_tup (xs := xs)) (fun i σ H' => ∃ (st : Int) (v3 v4 : Option V), σ = [some (.ref f), some (.ref a), some (.int st), v3, v4] ∧ Same H H' ∧ restS fr ds 0 = restS fr (ds.drop i) st)
            ⟨0, none, none, rfl, Same.refl H, rfl⟩ (fun i σ H' _ ⟨_, _, _, _, z, _⟩ => SqT.of (z _ _ e)) ?_ ?_⟩
          · rintro i x σ H1 H2 hi ⟨st, v3, v4, rfl, s1, inv⟩ ⟨rfl, hx⟩
            obtain ⟨d1, h1, dx⟩ := all.at_ hx
            rw [drop_at h1] at inv
            have dx1 := Da.same s1 _ _ dx
            obtain ⟨t1, ty1, kt1, _, _⟩ := dx1.ty (K := K)
            refine ⟨_, rfl, x, .ty "tuple", t1, .type "tuple", isTup d1, rfl, .ty "tuple", ty1, kt1, isTup d1, rfl, ?_⟩
            have no : restS fr ds 0 = false → Q (.bl false) H2 := fun z => by
              have z2 := q H2 s1
              rw [z] at z2
              exact z2
            cases dx1 with
            | @tup a1 ys ls e1 all1 =>
              refine iteF ?_
              have ln1 := all1.len
              have inv : restS fr ds 0 = (match lineR fr ls st with
                | some st' => restS fr (ds.drop (i + 1)) st'
                | none => false) := inv
              refine ⟨_, rfl, a1, rfl, ⟨_, SqT.of e1⟩, for_it (walk_tup (xs := ys)) (fun j σ H' => ∃ (st1 : Int) (v4 : Option V), σ = [some (.ref f), some (.ref a), some (.int st1), some (.ref a1), v4] ∧ Same H2 H' ∧ lineR fr ls st = lineR fr (ls.drop j) st1)
                ⟨st, v4, rfl, Same.refl H2, rfl⟩ (fun j σ H' _ ⟨_, _, _, z, _⟩ => SqT.of (z _ _ e1)) ?_ ?_⟩
              · rintro j y σ H3 H4 hj ⟨st1, v4, rfl, s3, inw⟩ ⟨rfl, hy⟩
                obtain ⟨d2, h2, dy⟩ := all1.at_ hy
                rw [drop_at h2] at inw
                have inw2 : lineR fr ls st = (match lineD fr d2 with
                  | some ns => if 40 < st1 + (ns.length : Int) then none else lineR fr (ls.drop (j + 1)) (st1 + (ns.length : Int))
                  | none => none) := inw
                clear inw
                have dy3 := Da.same s3 _ _ dy
                have l2 : (items d2).length ≤ 10000 := lm (.tuple ls) (List.mem_of_getElem? h1) d2 (List.mem_of_getElem? h2)
                refine ⟨_, rfl, _, rfl, f, y, fr, last, d2, rfl, (fa.same s1).same s3, fm, dy3, l2, fun H5 s5 => ?_⟩
                have s15 := s1.trans (s3.trans s5)
                have no5 : restS fr ds 0 = false → Q (.bl false) H5 := fun z => by
                  have z2 := q H5 s15
                  rw [z] at z2
                  exact z2
                cases el : lineD fr d2 with
                | none =>
                  rw [el] at inw2
                  refine ⟨_, rfl, iteT (no5 ?_)⟩
                  rw [inv, inw2]
                | some ns =>
                  rw [el] at inw2
                  refine ⟨_, rfl, iteF ?_⟩
                  obtain ⟨ls2, rfl, len⟩ : ∃ ls2, d2 = .tuple ls2 ∧ ls2.length = ns.length := by
                    cases d2 with
                    | tuple ls2 =>
                      refine ⟨ls2, rfl, ?_⟩
                      cases ls2 with
                      | nil => cases el
                      | cons d0 ds0 =>
                        have el : (match numsD fr.length (d0 :: ds0) with
                          | some ns => if folF fr ns 0 0 = true then some ns else none
                          | none => none) = some ns := el
                        cases en : numsD fr.length (d0 :: ds0) with
                        | none =>
                          rw [en] at el
                          cases el
                        | some ms =>
                          rw [en] at el
                          obtain ⟨ed, _⟩ := numsD_some en
                          have el : (if folF fr ms 0 0 = true then some ms else none) = some ns := el
                          by_cases c : folF fr ms 0 0 = true
                          · rw [if_pos c] at el
                            cases el
                            rw [ed, List.length_map]
                          · rw [if_neg c] at el
                            cases el
                    | _ => cases el
                  have dy5 := Da.same s5 _ _ dy3
                  cases dy5 with
                  | @tup a2 zs _ e2 all2 =>
                    have ln2 := all2.len
                    refine ⟨_, rfl, _, rfl, a2, _, rfl, .inr (SqT.of e2), _, _, rfl, rfl, ?_⟩
                    refine ⟨_, rfl, _, _, rfl, rfl, _, rfl, ?_⟩
                    rw [ln2, len]
                    by_cases c4 : 40 < st1 + (ns.length : Int)
                    · refine iteT' (decide_eq_true (by simpa using c4)) (no5 ?_)
                      rw [inv, inw2]
                      show (match (if 40 < st1 + (ns.length : Int) then none else lineR fr (ls.drop (j + 1)) (st1 + (ns.length : Int))) with
                        | some st' => restS fr (ds.drop (i + 1)) st'
                        | none => false) = false
                      rw [if_pos c4]
                    · refine iteF' (decide_eq_false (by simpa using c4)) ?_
                      refine ⟨_, _, rfl, s3.trans s5, ?_⟩
                      rw [inw2]
                      show (if 40 < st1 + (ns.length : Int) then none else lineR fr (ls.drop (j + 1)) (st1 + (ns.length : Int))) = _
                      rw [if_neg c4]
              · rintro σ H3 ⟨st1, v4, rfl, s3, inw⟩
                have inw : lineR fr ls st = some st1 := by
                  rw [inw, ln1, List.drop_length]
                  rfl
                rw [inw] at inv
                exact ⟨_, _, _, rfl, s1.trans s3, inv⟩
            | bl b => exact iteT (no inv)
            | non => exact iteT (no inv)
            | int i => exact iteT (no inv)
            | str x => exact iteT (no inv)
            | lst e h => exact iteT (no inv)
          · rintro σ H1 ⟨st, v3, v4, rfl, s1, inv⟩
            have inv : restS fr ds 0 = true := by
              rw [inv, ln, List.drop_length]
              rfl
            rw [inv] at q
            exact q H1 s1
        · rw [decide_eq_false c2] at q
          refine iteT' (by rw [decide_eq_false (by omega)]; rfl) (q H (Same.refl H))
      · rw [decide_eq_false c1] at q
        exact iteF' (decide_eq_false (by omega)) ⟨false, rfl, iteT (q H (Same.refl H))⟩
    | bl b => exact iteT (q H (Same.refl H))
    | non => exact iteT (q H (Same.refl H))
    | int i => exact iteT (q H (Same.refl H))
    | str x => exact iteT (q H (Same.refl H))
    | lst e h => exact iteT (q H (Same.refl H))
end
end K39

set_option Elab.async false
set_option linter.all false
set_option maxRecDepth 100000
set_option maxHeartbeats 4000000
/-! need_score of any data; orders. -/
namespace K39
open PySem L2 L2.EV
abbrev sNeedS : Stmt := top 32
abbrev sOrd : Stmt := top 33
/-- the error is told -/
def Eo (C : Addr) (E : XK) (H : Hp) : Prop := ∀ H', Same H H' → E (.ref C) none H'
theorem Eo.same {C : Addr} {E : XK} {H H' : Hp} (h : Eo C E H) (s : Same H H') : Eo C E H' := fun H2 s2 => h H2 (s.trans s2)
def spNeedS (CO : Addr) : Sp := fun vs H Q E => ∃ (f : Addr) (v : V) (fr : List T3) (last : Nat) (d : PyData), vs = [.ref f, v] ∧ FrA H f fr ∧ Frm fr last ∧ Da H v d ∧ Lm d ∧ if goodS fr d = true then ∀ H', Same H H' → Q v H' else Eo CO E H
/-- one step of the count of orders -/
def ordOne (s : Nat × Nat) (k : Nat) : Nat × Nat := (s.1 * (s.2 + 1) / (k + 1), s.2 + 1)
def ordGo (s : Nat × Nat) (n : Nat) : Nat × Nat := (List.range n).foldl ordOne s
def ordN (ns : List Nat) : Nat := (ns.foldl ordGo (1, 0)).1
abbrev LsA (H : Hp) (a : Addr) (ns : List Nat) : Prop := H a = some (.lst (ns.map fun n : Nat => V.int (n : Int)))
def spOrd : Sp := fun vs H Q _ => ∃ (a : Addr) (ns : List Nat), vs = [.ref a] ∧ LsA H a ns ∧ ns.sum ≤ 1000 ∧ ∀ H', Same H H' → Q (.int (ordN ns : Nat)) H'
theorem ordOne_2 {s : Nat × Nat} {k : Nat} : (ordOne s k).2 = s.2 + 1 := rfl
theorem ordGo_2 {n : Nat} : ∀ {s : Nat × Nat}, (ordGo s n).2 = s.2 + n := by
  unfold ordGo
  induction n with
  | zero => exact fun {s} => rfl
  | succ n ih =>
    intro s
    rw [List.range_succ, List.foldl_append]
    show (ordOne _ n).2 = _
    rw [ordOne_2, ih]
    omega
theorem ordGo_succ {n : Nat} {s : Nat × Nat} : ordGo s (n + 1) = ordOne (ordGo s n) n := by
  unfold ordGo
  rw [List.range_succ, List.foldl_append]
  rfl
theorem ord_2 : ∀ {ns : List Nat} {s : Nat × Nat}, (ns.foldl ordGo s).2 = s.2 + ns.sum
  | [], s => rfl
  | n :: ns, s => by
    rw [List.foldl_cons, ord_2, ordGo_2, List.sum_cons]
    omega
theorem ord_int {a b j : Nat} : ((a : Int) * ((b : Int) + 1)) / (1 + (j : Int)) = ((a * (b + 1) / (j + 1) : Nat) : Int) := by
  rw [Int.natCast_ediv, Int.natCast_mul, Int.add_comm 1]
  rfl
theorem sum_mem : ∀ {ns : List Nat} {n : Nat}, n ∈ ns → n ≤ ns.sum
  | m :: ms, n, h => by
    rw [List.sum_cons]
    rcases List.mem_cons.mp h with rfl | h
    · omega
    · have := sum_mem h
      omega
theorem sum_take : ∀ {ns : List Nat} (i : Nat), (ns.take i).sum ≤ ns.sum
  | _, 0 => Nat.zero_le _
  | [], i + 1 => Nat.le_refl _
  | n :: ns, i + 1 => by
    rw [List.take_succ_cons, List.sum_cons, List.sum_cons]
    have := sum_take (ns := ns) i
    omega
structure Od (K : PySem.W.Frag) (mg : Str → Option Value) where
  f : Addr
  d : FuncData
  F : Fun K "orders" "orders" sOrd f d
  b : Binds K d ["sizes"] []
  m : mg "orders" = some (.ref f)
  ra : mg "range" = none
structure Ns (K : PySem.W.Frag) (mg : Str → Option Value) where
  S : Sr K mg
  O : Oop K mg
  f : Addr
  d : FuncData
  F : Fun K "need_score" "need_score" sNeedS f d
  b : Binds K d ["framing", "thing"] []
  m : mg "need_score" = some (.ref f)
section
variable {P : Program} {w : World} {K : PySem.W.Frag} {mg : Str → Option Value} {base : Heap}
theorem scNeedS : FnScope ["framing", "thing"] ["framing", "thing"] (defScope sNeedS) := ⟨rfl, rfl, rfl, by decide +kernel, rfl, by decide +kernel, by decide +kernel⟩
theorem ok_needS (Z : Ns K mg) : FnOk P w K mg base (L2.CX P w) 6 Z.f Z.d ["framing", "thing"] (spNeedS Z.O.C) := by
  have GF : FnOk P w K mg base CX0 3 Z.S.L.W.Y.Z.fF Z.S.L.W.Y.Z.dF ["thing"] spNeedF := ok_needF Z.S.L.W.Y.Z
  have GS : FnOk P w K mg base CX0 5 Z.S.f Z.S.d ["framing", "thing"] spScoreD := ok_score Z.S
  have GO : FnOk P w K mg base CX0 2 Z.O.f Z.O.d ["self", "text"] (spNo K Z.O.C) := ok_OutOfPlace Z.O.F Z.O.T Z.O.I Z.O.FM Z.O.bM Z.O.mM Z.O.TM
  refine Z.F.okX scNeedS (fun vs H Q E h => ?_) (fun cdv A outer s H vs Q E hr h => ?_)
  · obtain ⟨f, v, fr, last, d, rfl, _⟩ := h
    rfl
  · obtain ⟨f, v, fr, last, d, rfl, fa, fm, da, lm, q⟩ := h
    have r3 := hr.mono (j := 3) (by omega)
    have r2 := hr.mono (j := 2) (by omega)
    refine ⟨_, pss_cons (ps_expr (pe_call GF r3 (by rfl) Z.S.L.W.Y.Z.mF Z.S.L.W.Y.Z.F.kp Z.S.L.W.Y.Z.bF .nil pass0 (pa_cons (pv 0) pa_nil)))
      (pss_cons (ps_if (pt_not (pt_val (pe_call GS hr (by rfl) Z.S.m Z.S.F.kp Z.S.b .nil pass0 (pa_cons (pv 0) (pa_cons (pv 1) pa_nil)))))
        (pss_one (ps_raise rfl (takes_of rfl rfl rfl rfl) (pmk_own2 rfl (pe_new Z.O.T Z.O.iC Z.O.tI GO r3 (kb_pos Z.O.b rfl) pass0 (by rfl) Z.O.m (pa_cons pe_str pa_nil))))) pss_nil)
      (pss_one (ps_ret (pv 1)))), ?_⟩
    refine ⟨_, rfl, f, fr, last, rfl, fa, fm, fun H1 s1 => ?_⟩
    refine ⟨_, rfl, _, rfl, f, v, fr, last, d, rfl, fa.same s1, fm, Da.same s1 _ _ da, lm, fun H2 s2 => ⟨_, rfl, ?_⟩⟩
    have s12 := s1.trans s2
    cases c : goodS fr d with
    | true =>
      rw [c] at q
      exact iteF ⟨_, rfl, q H2 s12⟩
    | false =>
      rw [c] at q
      refine iteT ?_
      refine ⟨rfl, rfl, (by decide), fun a na => ⟨a, .str _, .str _, rfl, upd_same, .str _, rfl, a, Z.O.C, none, rfl, upd_same, fr0_none (same_none s12 na), raises_own Z.O.su Z.O.ty, ?_⟩⟩
      rw [delH_new na]
      exact q H2 s12
theorem scOrd : FnScope ["sizes", "many", "place", "size", "number"] ["sizes"] (defScope sOrd) := ⟨rfl, rfl, rfl, by decide +kernel, rfl, by decide +kernel, by decide +kernel⟩
theorem ok_ord (Z : Od K mg) : FnOk P w K mg base CX0 1 Z.f Z.d ["sizes"] spOrd := by
  refine Z.F.ok scOrd (fun vs H Q E h => ?_) (fun cdv A outer s H vs Q E hr h => ?_)
  · obtain ⟨a, ns, rfl, _⟩ := h
    rfl
  · obtain ⟨a, ns, rfl, la, l, q⟩ := h
    refine ⟨_, pss_cons (ps_set (i := 1) scOrd.nd rfl (Or.inl rfl) pe_int)
      (pss_cons (ps_set (i := 2) scOrd.nd rfl (Or.inl rfl) pe_int)
      (pss_cons (ps_for PassesOwn.never rfl (pi_list (pv 0)) (pg_name (i := 3) scOrd.nd rfl (Or.inl rfl))
        (pss_one (ps_for PassesOwn.never rfl (pi_range2 (by rfl) Z.ra (pa_cons pe_int (pa_cons (pe_op op_add (pv 3) pe_int) pa_nil))) (pg_name (i := 4) scOrd.nd rfl (Or.inl rfl))
          (pss_cons (ps_aug (i := 2) scOrd.nd rfl (Or.inl rfl) pe_int ip_add)
          (pss_one (ps_set (i := 1) scOrd.nd rfl (Or.inl rfl) (pe_op op_fdiv (pe_op op_mul (pv 1) (pv 2)) (pv 4))))))))
      (pss_one (ps_ret (pv 1))))), ?_⟩
    refine ⟨_, rfl, a, rfl, ⟨_, SqL.of la⟩, for_it (walk_list (xs := ns.map fun n : Nat => V.int (n : Int))) (fun i σ H' => ∃ (v3 v4 : Option V), σ = [some (.ref a), some (.int (((ns.take i).foldl ordGo (1, 0)).1 : Nat)), some (.int (((ns.take i).foldl ordGo (1, 0)).2 : Nat)), v3, v4] ∧ Same H H')
      ⟨none, none, rfl, Same.refl H⟩ (fun i σ H' _ ⟨_, _, _, z⟩ => SqL.of (z _ _ la)) ?_ ?_⟩
    · rintro i x σ H1 H2 hi ⟨v3, v4, rfl, s1⟩ ⟨rfl, hx⟩
      obtain ⟨n, en, rfl⟩ : ∃ n, ns[i]? = some n ∧ x = .int (n : Int) := by
        rw [List.getElem?_map] at hx
        cases e : ns[i]? with
        | none =>
          rw [e] at hx
          cases hx
        | some n =>
          rw [e] at hx
          exact ⟨n, rfl, (Option.some.inj hx).symm⟩
      have n1 : n ≤ 1000 := Nat.le_trans (sum_mem (List.mem_of_getElem? en)) l
      have b1 : ((ns.take i).foldl ordGo (1, 0)).2 ≤ 1000 := by
        rw [ord_2]
        have := sum_take (ns := ns) i
        omega
      rw [take_one en, List.foldl_append]
      show gName 3 _ _ _ _
      generalize hs0 : (ns.take i).foldl ordGo (1, 0) = s0 at b1 ⊢
      refine ⟨_, rfl, _, _, rfl, rfl, 1, _, rfl, ⟨by decide, by decide, by omega, by omega⟩, for_it walk_range (fun j σ H' => ∃ (v4 : Option V), σ = [some (.ref a), some (.int ((ordGo s0 j).1 : Nat)), some (.int ((ordGo s0 j).2 : Nat)), some (.int (n : Int)), v4] ∧ Same H2 H')
        ⟨v4, rfl, Same.refl H2⟩ (fun _ _ _ _ _ => trivial) ?_ ?_⟩
      · rintro j y σ H3 H4 hj ⟨v4, rfl, s3⟩ ⟨rfl, rfl⟩
        have hj : j < n := by omega
        have b2 : (ordGo s0 j).2 ≤ 2000 := by
          rw [ordGo_2]
          omega
        refine ⟨_, rfl, _, _, rfl, rfl, _, rfl, _, rfl, _, _, rfl, rfl, .inr (show -(2 ^ 64) < ((ordGo s0 j).2 : Int) + 1 ∧ ((ordGo s0 j).2 : Int) + 1 < 2 ^ 64 from ⟨by omega, by omega⟩), _, rfl, _, _, rfl, rfl, ⟨by omega, by omega⟩, ?_⟩
        refine ⟨some (.int (1 + (j : Int))), ?_, s3⟩
        rw [ordGo_succ]
        show [some (V.ref a), some (V.int ((((ordGo s0 j).1 : Nat) : Int) * ((((ordGo s0 j).2 : Nat) : Int) + 1) / (1 + (j : Int)))), some (V.int ((((ordGo s0 j).2 : Nat) : Int) + 1)), some (V.int (n : Int)), some (V.int (1 + (j : Int)))] = [_, some (V.int (((ordGo s0 j).1 * ((ordGo s0 j).2 + 1) / (j + 1) : Nat) : Int)), some (V.int (((ordGo s0 j).2 + 1 : Nat) : Int)), _, _]
        rw [ord_int]
        rfl
      · rintro σ H3 ⟨v4, rfl, s3⟩
        have z : ((n : Int) + 1 - 1).toNat = n := by omega
        rw [z]
        exact ⟨_, _, rfl, s1.trans s3⟩
    · rintro σ H1 ⟨v3, v4, rfl, s1⟩
      rw [show (ns.map fun n : Nat => V.int (n : Int)).length = ns.length from List.length_map .., List.take_length]
      exact ⟨_, rfl, q H1 s1⟩
end
end K39

set_option Elab.async false
set_option linter.all false
set_option maxRecDepth 100000
set_option maxHeartbeats 4000000
/-! fate. -/
namespace L2
open PySem PySem.Spec PyProof.Rows
section
variable {J : It} {n : Nat} {G : Hp → Prop} {Y : Nat → Hp → V → Hp → Prop}
/-- the inner walk of a comprehension with two -/
theorem lc_in (w : Walk J n G Y) {g : TG} {tt : TT} {te : TE} {vs : List Nat} {σ : St} {H1 : Hp} {D : Addr} {Qd : Hp → Prop} (Pv : Nat → Hp → Prop) (h0 : Pv 0 H1) (hG : ∀ i H, i ≤ n → Pv i H → G H)
    (hs : ∀ i x H H', i < n → Pv i H → Y i H x H' → g x (wipe σ vs) H' fun σ2 H2 => wipe σ2 vs = wipe σ vs ∧ tt σ2 H2 fun b H3 =>
      if b = true then te σ2 H3 fun y H4 => ∃ acc, H4 D = some (.lst acc) ∧ acc.length < sizeLine ∧ Pv (i + 1) (upd H4 D (.lst (acc ++ [y]))) else Pv (i + 1) H3) (hd : ∀ H, Pv n H → Qd H) :
    ∃ W : Nat → Nat → Hp → Prop, (∃ m, W 0 m H1) ∧ ∀ i m H, W i m H →
      (J.stop i H ∧ Qd H) ∨ (J.go i H ∧ ∃ Nx : Hp → Prop, (∀ H', Nx H' → ∃ m', m' < m ∧ W (i + 1) m' H') ∧ ∀ x H', J.yld i H x H' → g x (wipe σ vs) H' fun σ2 H2 => wipe σ2 vs = wipe σ vs ∧ tt σ2 H2 fun b H3 =>
        if b = true then te σ2 H3 fun y H4 => ∃ acc, H4 D = some (.lst acc) ∧ acc.length < sizeLine ∧ Nx (upd H4 D (.lst (acc ++ [y]))) else Nx H3) := by
  refine ⟨fun i m H => m = n - i ∧ i ≤ n ∧ Pv i H, ⟨n, by simp, Nat.zero_le _, h0⟩, ?_⟩
  rintro i m H ⟨rfl, hi, p⟩
  have q := hG i H hi p
  by_cases hlt : i < n
  · refine .inr ⟨w.goes i H hlt q, Pv (i + 1), fun H' p' => ⟨n - (i + 1), by omega, rfl, hlt, p'⟩, fun x H' y => hs i x H H' hlt p (w.yields i H x H' hlt q y)⟩
  · have e : i = n := by omega
    subst e
    exact .inl ⟨w.stops H q, hd H p⟩
/-- a walk's turns, each with an own promise R -/
theorem lc2_it (w : Walk J n G Y) {g : TG} {tt : TT} {R : St → Hp → (Hp → Prop) → Prop} {vs : List Nat} {σ : St} {H1 : Hp} {D : Addr} {Qd : Hp → Prop} (Pv : Nat → Hp → Prop) (h0 : Pv 0 (upd H1 D (.lst []))) (hG : ∀ i H, i ≤ n → Pv i H → G H)
    (hs : ∀ i x H H', i < n → Pv i H → Y i H x H' → g x (wipe σ vs) H' fun σ2 H2 => wipe σ2 vs = wipe σ vs ∧ tt σ2 H2 fun b H3 => if b = true then R σ2 H3 (Pv (i + 1)) else Pv (i + 1) H3) (hd : ∀ H, Pv n H → Qd H) :
    ∃ W : Nat → Nat → Hp → Prop, (∃ m, W 0 m (upd H1 D (.lst []))) ∧ ∀ i m H, W i m H →
      (J.stop i H ∧ Qd H) ∨ (J.go i H ∧ ∃ Nx : Hp → Prop, (∀ H', Nx H' → ∃ m', m' < m ∧ W (i + 1) m' H') ∧ ∀ x H', J.yld i H x H' → g x (wipe σ vs) H' fun σ2 H2 => wipe σ2 vs = wipe σ vs ∧ tt σ2 H2 fun b H3 =>
        if b = true then R σ2 H3 Nx else Nx H3) := by
  refine ⟨fun i m H => m = n - i ∧ i ≤ n ∧ Pv i H, ⟨n, by simp, Nat.zero_le _, h0⟩, ?_⟩
  rintro i m H ⟨rfl, hi, p⟩
  have q := hG i H hi p
  by_cases hlt : i < n
  · refine .inr ⟨w.goes i H hlt q, Pv (i + 1), fun H' p' => ⟨n - (i + 1), by omega, rfl, hlt, p'⟩, fun x H' y => hs i x H H' hlt p (w.yields i H x H' hlt q y)⟩
  · have e : i = n := by omega
    subst e
    exact .inl ⟨w.stops H q, hd H p⟩
end
end L2


set_option Elab.async false
set_option linter.all false
set_option maxRecDepth 100000
set_option maxHeartbeats 4000000
/-! Scores: what right ones are; steps_of. -/
namespace K39
open PySem L2 L2.EV
abbrev sSteps : Stmt := top 34
abbrev Lin : Type := List Int
def dL (l : Lin) : PyData := .tuple (l.map PyData.int)
def dP (p : List Lin) : PyData := .tuple (p.map dL)
def dS (ps : List (List Lin)) : PyData := .tuple (ps.map dP)
def sz1 (p : List Lin) : Nat := (p.map List.length).sum
def szS (ps : List (List Lin)) : Nat := (ps.map sz1).sum
structure Gl (fr : List T3) (l : Lin) : Prop where
  ne : l ≠ []
  ins : ∀ n ∈ l, Ins fr n
  fol : folF fr l 0 0 = true
structure Gs (fr : List T3) (ps : List (List Lin)) : Prop where
  l1 : 1 ≤ ps.length
  l8 : ps.length ≤ 8
  ln : ∀ p ∈ ps, ∀ l ∈ p, Gl fr l
  sz : szS ps ≤ 40
theorem lineD_gl {fr : List T3} {d : PyData} {l : Lin} (h : lineD fr d = some l) : d = dL l ∧ Gl fr l := by
  cases d with
  | tuple ds =>
    cases ds with
    | nil => cases h
    | cons d0 ds0 =>
      have h : (match numsD fr.length (d0 :: ds0) with
        | some ns => if folF fr ns 0 0 = true then some ns else none
        | none => none) = some l := h
      cases en : numsD fr.length (d0 :: ds0) with
      | none =>
        rw [en] at h
        cases h
      | some ns =>
        rw [en] at h
        obtain ⟨ed, hn⟩ := numsD_some en
        have h : (if folF fr ns 0 0 = true then some ns else none) = some l := h
        by_cases c : folF fr ns 0 0 = true
        · rw [if_pos c] at h
          cases h
          refine ⟨by rw [ed]; rfl, ?_, hn, c⟩
          rintro rfl
          cases ed
        · rw [if_neg c] at h
          cases h
  | _ => cases h
theorem lineR_gl {fr : List T3} : ∀ {ds : List PyData} {st st' : Int}, lineR fr ds st = some st' → st ≤ 40 → ∃ p : List Lin, ds = p.map dL ∧ (∀ l ∈ p, Gl fr l) ∧ st' = st + (sz1 p : Nat) ∧ st' ≤ 40
  | [], st, st', h, l => by
    cases h
    refine ⟨[], rfl, (fun l z => by cases z), ?_, l⟩
    show st = st + ((0 : Nat) : Int)
    omega
  | d :: ds, st, st', h, l => by
    have h : (match lineD fr d with
      | some ns => if 40 < st + (ns.length : Int) then none else lineR fr ds (st + (ns.length : Int))
      | none => none) = some st' := h
    cases ed : lineD fr d with
    | none =>
      rw [ed] at h
      cases h
    | some ns =>
      rw [ed] at h
      have h : (if 40 < st + (ns.length : Int) then none else lineR fr ds (st + (ns.length : Int))) = some st' := h
      by_cases c : 40 < st + (ns.length : Int)
      · rw [if_pos c] at h
        cases h
      · rw [if_neg c] at h
        obtain ⟨p, rfl, g, e, l2⟩ := lineR_gl h (by omega)
        obtain ⟨rfl, g1⟩ := lineD_gl ed
        refine ⟨ns :: p, rfl, fun x hx => ?_, ?_, l2⟩
        · rcases List.mem_cons.mp hx with rfl | hx
          · exact g1
          · exact g x hx
        · have : sz1 (ns :: p) = ns.length + sz1 p := rfl
          omega
theorem restS_gl {fr : List T3} : ∀ {ds : List PyData} {st : Int}, restS fr ds st = true → st ≤ 40 → ∃ ps : List (List Lin), ds = ps.map dP ∧ (∀ p ∈ ps, ∀ l ∈ p, Gl fr l) ∧ st + (szS ps : Nat) ≤ 40
  | [], st, h, l => ⟨[], rfl, (fun p z => by cases z), by show st + ((0 : Nat) : Int) ≤ 40; omega⟩
  | d :: ds, st, h, l => by
    cases d with
    | tuple ls =>
      have h2 : (match lineR fr ls st with
        | some st' => restS fr ds st'
        | none => false) = true := h
      clear h
      cases el : lineR fr ls st with
      | none =>
        rw [el] at h2
        cases h2
      | some st' =>
        rw [el] at h2
        have h2 : restS fr ds st' = true := h2
        obtain ⟨p, rfl, g1, e1, l1⟩ := lineR_gl el l
        obtain ⟨ps, rfl, g2, l2⟩ := restS_gl h2 l1
        refine ⟨p :: ps, rfl, fun x hx => ?_, ?_⟩
        · rcases List.mem_cons.mp hx with rfl | hx
          · exact g1
          · exact g2 x hx
        · have : szS (p :: ps) = sz1 p + szS ps := rfl
          omega
    | _ => cases h
theorem goodS_gs {fr : List T3} {d : PyData} (h : goodS fr d = true) : ∃ ps, d = dS ps ∧ Gs fr ps := by
  cases d with
  | tuple ds =>
    have h : (decide (1 ≤ ds.length) && (decide (ds.length ≤ 8) && restS fr ds 0)) = true := h
    rw [Bool.and_eq_true, Bool.and_eq_true] at h
    obtain ⟨h1, h2, h3⟩ := h
    obtain ⟨ps, rfl, g, l⟩ := restS_gl h3 (by decide)
    rw [List.length_map] at h1 h2
    exact ⟨ps, rfl, of_decide_eq_true h1, of_decide_eq_true h2, g, by omega⟩
  | _ => cases h
theorem same_push {H H' : Hp} {D : Addr} {o : HO} (hD : H D = none) (s : Same H H') : Same H (upd H' D o) := fun b x z => by
  rw [upd_ne (ne_of_none z hD)]
  exact s _ _ z
/-- lists of whole numbers -/
def RwL (H : Hp) (ads : List Addr) (rows : List Lin) : Prop := ads.length = rows.length ∧ ∀ (i : Nat) b r, ads[i]? = some b → rows[i]? = some r → H b = some (.lst (r.map V.int))
def RwA (H : Hp) (a : Addr) (rows : List Lin) : Prop := ∃ ads : List Addr, H a = some (.lst (ads.map V.ref)) ∧ RwL H ads rows
theorem RwL.same {H H' : Hp} {ads : List Addr} {rows : List Lin} (h : RwL H ads rows) (s : Same H H') : RwL H' ads rows := ⟨h.1, fun i b r h1 h2 => s _ _ (h.2 i b r h1 h2)⟩
theorem RwA.same {H H' : Hp} {a : Addr} {rows : List Lin} (h : RwA H a rows) (s : Same H H') : RwA H' a rows := by
  obtain ⟨ads, e, l⟩ := h
  exact ⟨ads, s _ _ e, l.same s⟩
theorem RwL.snoc {H : Hp} {ads : List Addr} {rows : List Lin} {b : Addr} {r : Lin} (h : RwL H ads rows) (e : H b = some (.lst (r.map V.int))) : RwL H (ads ++ [b]) (rows ++ [r]) := by
  obtain ⟨l, c⟩ := h
  refine ⟨by rw [List.length_append, List.length_append, l]; rfl, fun i b' r' h1 h2 => ?_⟩
  by_cases k : i < ads.length
  · rw [List.getElem?_append_left k] at h1
    rw [List.getElem?_append_left (by omega)] at h2
    exact c i b' r' h1 h2
  · have z := (List.getElem?_eq_some_iff.mp h1).1
    rw [List.length_append] at z
    simp only [List.length_cons, List.length_nil] at z
    have : i = ads.length := by omega
    subst this
    rw [List.getElem?_append_right (Nat.le_refl _), Nat.sub_self] at h1
    rw [List.getElem?_append_right (by omega), l, Nat.sub_self] at h2
    cases h1
    cases h2
    exact e
theorem RwL.push {H : Hp} {ads : List Addr} {rows : List Lin} {D : Addr} {o : HO} (h : RwL H ads rows) (n : ∀ b ∈ ads, b ≠ D) : RwL (upd H D o) ads rows :=
  ⟨h.1, fun i b r h1 h2 => by rw [upd_ne (n b (List.mem_of_getElem? h1))]; exact h.2 i b r h1 h2⟩
theorem take_flat : ∀ {p : List Lin} (j : Nat), (p.take j).flatten.length ≤ sz1 p
  | _, 0 => Nat.zero_le _
  | [], j + 1 => Nat.le_refl _
  | l :: p, j + 1 => by
    have e : sz1 (l :: p) = l.length + sz1 p := rfl
    rw [List.take_succ_cons, List.flatten_cons, List.length_append]
    have := take_flat (p := p) j
    omega
theorem at_map {α : Type} {f : α → PyData} {l : List α} {i : Nat} {d : PyData} (h : (l.map f)[i]? = some d) : ∃ x, l[i]? = some x ∧ d = f x := by
  rw [List.getElem?_map] at h
  cases e : l[i]? with
  | none =>
    rw [e] at h
    cases h
  | some x =>
    rw [e] at h
    exact ⟨x, rfl, (Option.some.inj h).symm⟩
theorem szS_mem : ∀ {ps : List (List Lin)} {p : List Lin}, p ∈ ps → sz1 p ≤ szS ps
  | q :: qs, p, h => by
    have e : szS (q :: qs) = sz1 q + szS qs := rfl
    rcases List.mem_cons.mp h with rfl | h
    · omega
    · have := szS_mem h
      omega
theorem sz1_mem : ∀ {p : List Lin} {l : Lin}, l ∈ p → l.length ≤ sz1 p
  | q :: qs, l, h => by
    have e : sz1 (q :: qs) = q.length + sz1 qs := rfl
    rcases List.mem_cons.mp h with rfl | h
    · omega
    · have := sz1_mem h
      omega
theorem sz1_flat : ∀ {p : List Lin}, p.flatten.length = sz1 p
  | [] => rfl
  | l :: p => by
    rw [List.flatten_cons, List.length_append, sz1_flat]
    rfl
def spSteps : Sp := fun vs H Q _ => ∃ (v : V) (ps : List (List Lin)), vs = [v] ∧ Da H v (dS ps) ∧ ps.length ≤ 8 ∧ szS ps ≤ 40 ∧ ∀ H' p, Same H H' → H p = none → RwA H' p (ps.map List.flatten) → Q (.ref p) H'
structure St5 (K : PySem.W.Frag) (mg : Str → Option Value) where
  f : Addr
  d : FuncData
  F : Fun K "steps_of" "steps_of" sSteps f d
  b : Binds K d ["score"] []
  m : mg "steps_of" = some (.ref f)
abbrev NSt : List Str := ["score", "lines", "line", "step"]
abbrev scOut : Scope := { kind := .function, names := [(".0", .local), ("lines", .local)], isGenerator := false, isCoroutine := false }
section
variable {P : Program} {w : World} {K : PySem.W.Frag} {mg : Str → Option Value} {base : Heap}
theorem scSteps : FnScope NSt ["score"] (defScope sSteps) := ⟨rfl, rfl, rfl, by decide +kernel, rfl, by decide +kernel, by decide +kernel⟩
theorem ok_steps (Z : St5 K mg) : FnOk P w K mg base CX0 1 Z.f Z.d ["score"] spSteps := by
  refine Z.F.ok scSteps (fun vs H Q E h => ?_) (fun cdv A outer s H vs Q E hr h => ?_)
  · obtain ⟨v, ps, rfl, _⟩ := h
    rfl
  · obtain ⟨v, ps, rfl, da, l8, lz, q⟩ := h
    refine ⟨_, pss_one (ps_ret (pe_lc (own := [("lines", 1)]) (g := gName 1) (te := tLc2 (iTup K (tVar 1)) (gName 2) tYes (iTup K (tVar 2)) (gName 3) tYes (tVar 3) [2, 3] [3]) rfl scSteps.nd (pi_tup (pv 0))
        (blkOk_by (N := NSt) (sc := defScope sSteps) (by decide +kernel))
        (fun _ _ _ _ _ => pg_name (i := 1) scSteps.nd rfl (Or.inl rfl)) (fun _ _ _ _ _ => pts_nil)
        (fun _ _ _ _ _ => pe_lc2 (own := [("line", 2), ("step", 3)]) (vs1 := [3]) (wi1 := iTup K (tVar 2)) (g := gName 2) (g1 := gName 3) (te := tVar 3) rfl scSteps.nd (pi_tup (pv 1))
          (blkOk_by (N := NSt) (sc := scOut) (by decide +kernel)) (by decide)
          (fun _ _ _ _ _ => pg_name (i := 2) scSteps.nd rfl (Or.inl rfl)) (fun _ _ _ _ _ => pts_nil) (fun _ _ _ _ _ => pi_tup (pv 2)) (fun _ _ _ _ _ => pg_name (i := 3) scSteps.nd rfl (Or.inl rfl)) (fun _ _ _ _ _ => pts_nil) (fun _ _ _ _ _ => pv 3)))), ?_⟩
    obtain ⟨a, xs, rfl, e, all⟩ : ∃ a xs, v = .ref a ∧ H a = some (.tup xs) ∧ DaAll H xs (ps.map dP) := by
      cases da with
      | tup e all => exact ⟨_, _, rfl, e, all⟩
    have ln := all.len
    rw [List.length_map] at ln
    refine ⟨_, rfl, a, rfl, ⟨_, SqT.of e⟩, fun D hD => ?_⟩
    refine lc_it (walk_tup (xs := xs)) (fun i H' => ∃ ads : List Addr, H' D = some (.lst (ads.map V.ref)) ∧ RwL H' ads ((ps.take i).map List.flatten) ∧ (∀ b ∈ ads, b ≠ D) ∧ Same H H') ⟨[], upd_same, ⟨rfl, fun i b r z => by cases z⟩, (fun b z => by cases z), same_upd hD⟩ (fun i H' _ ⟨_, _, _, _, z⟩ => SqT.of (z _ _ e)) ?_ ?_
    · rintro i x H4z H4 hi ⟨ads, hd, rl, nD, s4⟩ ⟨rfl, hx⟩
      obtain ⟨d1, h1, dx⟩ := all.at_ hx
      obtain ⟨p, hp, rfl⟩ := at_map h1
      have pz := szS_mem (List.mem_of_getElem? hp)
      obtain ⟨a1, ys, rfl, e1, all1⟩ : ∃ a1 ys, x = .ref a1 ∧ H a1 = some (.tup ys) ∧ DaAll H ys (p.map dL) := by
        cases dx with
        | tup e all => exact ⟨_, _, rfl, e, all⟩
      have ln1 := all1.len
      rw [List.length_map] at ln1
      refine ⟨rfl, _, rfl, a1, rfl, ⟨_, SqT.of (s4 _ _ e1)⟩, fun D2 hD2 => ?_⟩
      refine lc2_it (walk_tup (xs := ys)) (fun j H' => H' D2 = some (.lst ((p.take j).flatten.map V.int)) ∧ Same H4 H') ⟨upd_same, same_upd hD2⟩ (fun j H' _ z => SqT.of (z.2 _ _ (s4 _ _ e1))) ?_ ?_
      · rintro j y H5z H5 hj ⟨hd5, s5⟩ ⟨rfl, hy⟩
        obtain ⟨d2, h2, dy⟩ := all1.at_ hy
        obtain ⟨l, hl, rfl⟩ := at_map h2
        obtain ⟨b1, rfl, eb⟩ : ∃ b1, y = .ref b1 ∧ H b1 = some (.tup (l.map V.int)) := by
          cases dy with
          | tup e all =>
            rw [da_ints all] at e
            exact ⟨_, rfl, e⟩
        have lz1 := sz1_mem (List.mem_of_getElem? hl)
        have tz : (p.take j).flatten.length ≤ sz1 p := take_flat j
        refine ⟨rfl, ?_⟩
        refine ⟨_, rfl, b1, rfl, ⟨_, SqT.of (s5 _ _ (s4 _ _ eb))⟩, ?_⟩
        refine lc_in (walk_tup (xs := l.map V.int)) (fun k H' => H' D2 = some (.lst (((p.take j).flatten ++ l.take k).map V.int)) ∧ Same H4 H') ⟨by rw [List.take_zero, List.append_nil]; exact hd5, s5⟩ (fun k H' _ z => SqT.of (z.2 _ _ (s4 _ _ eb))) ?_ ?_
        · rintro k z H6z H6 hk ⟨hd6, s6⟩ ⟨rfl, hz⟩
          obtain ⟨n, hn, rfl⟩ : ∃ n, l[k]? = some n ∧ z = .int n := by
            rw [List.getElem?_map] at hz
            cases e : l[k]? with
            | none =>
              rw [e] at hz
              cases hz
            | some n =>
              rw [e] at hz
              exact ⟨n, rfl, (Option.some.inj hz).symm⟩
          refine ⟨rfl, _, rfl, _, hd6, ?_, ?_, same_push hD2 s6⟩
          · rw [List.length_map, List.length_append, List.length_take, sizeLine_eq]
            omega
          · rw [take_one hn, ← List.append_assoc, List.map_append (l₁ := _ ++ _)]
            exact upd_same
        · rintro H6 ⟨hd6, s6⟩
          rw [List.length_map, List.take_length] at hd6
          refine ⟨?_, s6⟩
          rw [take_one hl, List.flatten_append, hd6]
          simp
      · rintro H5 ⟨hd5, s5⟩
        rw [ln1, List.take_length] at hd5
        have hne : D2 ≠ D := fun z => by
          rw [z, hd] at hD2
          cases hD2
        have nD' : ∀ b ∈ ads ++ [D2], b ≠ D := fun b hb => by
          rcases List.mem_append.mp hb with hb | hb
          · exact nD b hb
          · cases List.mem_singleton.mp hb
            exact hne
        refine ⟨_, s5 _ _ hd, ?_, ads ++ [D2], by rw [List.map_append]; exact upd_same, ?_, nD', same_push hD (s4.trans s5)⟩
        · have : ads.length = ((ps.take i).map List.flatten).length := rl.1
          rw [List.length_map, List.length_take] at this
          rw [List.length_map, sizeLine_eq]
          omega
        · rw [take_one hp, List.map_append]
          exact ((rl.same s5).snoc hd5).push nD'
    · rintro H1 ⟨ads, hd, rl, nD, s1⟩
      rw [ln, List.take_length] at rl
      exact q H1 D s1 hD ⟨ads, hd, rl⟩
end
end K39

set_option Elab.async false
set_option linter.all false
set_option maxRecDepth 100000
set_option maxHeartbeats 4000000
/-! file_of, read_lines, rest_of, stands. -/
namespace L2
open PySem PySem.Spec PyProof.Rows
/-- t[lo:hi]: somewhere, all else stays -/
def rSlW (K : PySem.W.Frag) : V → Option Int → Option Int → Hp → VK → Prop := fun x lo hi H Q => ∃ a xs, x = .ref a ∧ H a = some (.tup xs) ∧ ∀ p H', Same H H' → H' p = some (.tup (cutV xs lo hi)) → Q (.ref p) H'
theorem sl_tupS {X : Cx} : SlR X (rSlW X.K) := by
  intro pins s σ H x v vl vu lo hi sl Q I rx hs pl pu h
  obtain ⟨a, xs, rfl, ha, q⟩ := h
  refine sl_tupA pins s σ H _ v vl vu lo hi sl Q I rx hs pl pu ⟨a, xs, rfl, SqT.of ha, fun z => ?_, fun _ p hp => q p _ (K39.same_upd hp) upd_same⟩
  refine q a H (fun _ _ e => e) ?_
  rw [ha]
  unfold cutV
  rw [z.1, z.2]
  simp
end L2

set_option Elab.async false
set_option linter.all false
set_option maxRecDepth 100000
set_option maxHeartbeats 4000000
/-! less_one, orders_with, count, count_clean. -/
namespace K39
open PySem L2 L2.EV
theorem cutTo {xs : List V} {n : Nat} : cutV xs none (some (n : Int)) = xs.take n := by
  unfold cutV
  rw [HT.sIx_nat, HT.sIx_none, List.drop_zero, Nat.sub_zero]
  by_cases h : n ≤ xs.length
  · rw [Nat.min_eq_left h]
  · rw [Nat.min_eq_right (by omega), List.take_of_length_le (Nat.le_refl _), List.take_of_length_le (by omega)]
theorem cutFrom {xs : List V} {n : Nat} : cutV xs (some (n : Int)) none = xs.drop n := by
  unfold cutV
  rw [HT.sIx_nat, HT.sIx_none]
  by_cases h : n ≤ xs.length
  · rw [Nat.min_eq_left h]
    exact List.take_of_length_le (by rw [List.length_drop]; omega)
  · rw [Nat.min_eq_right (by omega), List.drop_of_length_le (Nat.le_refl _), List.drop_of_length_le (by omega)]
    simp
abbrev sCount : Stmt := top 35
abbrev sClean : Stmt := top 36
abbrev sLess : Stmt := top 37
abbrev sOW : Stmt := top 38
def vN (ns : List Nat) : List V := ns.map fun n : Nat => V.int (n : Int)
def lessN (ns : List Nat) (w : Nat) : List Nat := ns.set w (ns.getD w 0 - 1)
def owN (ns : List Nat) (w : Nat) : Nat := if ns.getD w 0 = 0 then 0 else ordN (lessN ns w)
def cntN (ps : List (List Lin)) : Nat := ordN (ps.map sz1)
def clnN (ps : List (List Lin)) : Nat := ordN (ps.map List.length)
theorem set_cut {α : Type} {l : List α} {w : Nat} {x : α} (h : w < l.length) : l.take w ++ [x] ++ l.drop (w + 1) = l.set w x := by
  rw [List.set_eq_take_append_cons_drop, if_pos h, List.append_assoc]
  rfl
def spLess : Sp := fun vs H Q _ => ∃ (a : Addr) (ns : List Nat) (w : Nat), vs = [.ref a, .int (w : Int)] ∧ LsA H a ns ∧ w < ns.length ∧ ns.length ≤ 1000 ∧ 1 ≤ ns.getD w 0 ∧ ∀ H' p, Same H H' → H p = none → LsA H' p (lessN ns w) → Q (.ref p) H'
def spOW : Sp := fun vs H Q _ => ∃ (a : Addr) (ns : List Nat) (w : Nat), vs = [.ref a, .int (w : Int)] ∧ LsA H a ns ∧ w < ns.length ∧ ns.length ≤ 1000 ∧ ns.sum ≤ 1000 ∧ ∀ H', Same H H' → Q (.int (owN ns w : Nat)) H'
def spCnt (CO : Addr) (val : List (List Lin) → Nat) : Sp := fun vs H Q E => ∃ (f : Addr) (v : V) (fr : List T3) (last : Nat) (d : PyData), vs = [.ref f, v] ∧ FrA H f fr ∧ Frm fr last ∧ Da H v d ∧ Lm d ∧ if goodS fr d = true then ∀ ps, d = dS ps → Gs fr ps → ∀ H', Same H H' → Q (.int (val ps : Nat)) H' else Eo CO E H
structure Ct (K : PySem.W.Frag) (mg : Str → Option Value) where
  N : Ns K mg
  O : Od K mg
  S : St5 K mg
  f1 : Addr
  f2 : Addr
  f3 : Addr
  f4 : Addr
  d1 : FuncData
  d2 : FuncData
  d3 : FuncData
  d4 : FuncData
  C : Fun K "count" "count" sCount f1 d1
  D : Fun K "count_clean" "count_clean" sClean f2 d2
  L : Fun K "less_one" "less_one" sLess f3 d3
  W : Fun K "orders_with" "orders_with" sOW f4 d4
  b1 : Binds K d1 ["framing", "score"] []
  b2 : Binds K d2 ["framing", "score"] []
  b3 : Binds K d3 ["sizes", "writer"] []
  b4 : Binds K d4 ["sizes", "writer"] []
  m1 : mg "count" = some (.ref f1)
  m2 : mg "count_clean" = some (.ref f2)
  m3 : mg "less_one" = some (.ref f3)
  m4 : mg "orders_with" = some (.ref f4)
section
variable {P : Program} {w : World} {K : PySem.W.Frag} {mg : Str → Option Value} {base : Heap}
theorem scLess : FnScope ["sizes", "writer"] ["sizes", "writer"] (defScope sLess) := ⟨rfl, rfl, rfl, by decide +kernel, rfl, by decide +kernel, by decide +kernel⟩
theorem ok_less (Z : Ct K mg) : FnOk P w K mg base CX0 1 Z.f3 Z.d3 ["sizes", "writer"] spLess := by
  refine Z.L.ok scLess (fun vs H Q E h => ?_) (fun cdv A outer s H vs Q E hr h => ?_)
  · obtain ⟨a, ns, w, rfl, _⟩ := h
    rfl
  · obtain ⟨a, ns, w, rfl, la, hw, l, h1, q⟩ := h
    refine ⟨_, pss_one (ps_ret (pe_op op_cat (pe_op op_cat (pe_slice sl_list (pv 0) po_none (po_some (pv 1))) (pe_lst (pa_cons (pe_op op_sub (pe_ix ix_list (pv 0) (pv 1) (fun _ _ => rfl)) pe_int) pa_nil))) (pe_slice sl_list (pv 0) (po_some (pe_op op_add (pv 1) pe_int)) po_none))), ?_⟩
    have lv : (ns.map fun n : Nat => V.int (n : Int)).length = ns.length := List.length_map ..
    have gw : ns.getD w 0 = ns[w] := by
      rw [List.getD_eq_getElem?_getD, List.getElem?_eq_getElem hw]
      rfl
    refine ⟨_, rfl, _, rfl, _, rfl, a, _, rfl, SqL.of la, fun p1 np1 => ?_⟩
    have s1 := same_upd (o := HO.lst (cutV (ns.map fun n : Nat => V.int (n : Int)) none (some (w : Int)))) np1
    refine ⟨_, rfl, _, rfl, a, _, (w : Int), .int (ns[w] : Nat), rfl, rfl, SqL.of (s1 _ _ la), atI_nat (by rw [List.getElem?_map, List.getElem?_eq_getElem hw]; rfl), _, _, rfl, rfl, ?_⟩
    refine ⟨by show 1 ≤ sizeLine; decide, fun p2 np2 => ?_⟩
    have s2 := s1.trans (same_upd (o := HO.lst [V.int ((ns[w] : Nat) - 1 : Int)]) np2)
    have n12 : p2 ≠ p1 := fun z => by
      rw [z, upd_same] at np2
      cases np2
    refine ⟨p1, p2, _, _, rfl, rfl, by rw [upd_ne n12.symm]; exact upd_same, upd_same, ?_, fun p3 np3 => ?_⟩
    · have := cutV_length (ns.map fun n : Nat => V.int (n : Int)) none (some (w : Int))
      rw [sizeLine_eq]
      show _ + 1 ≤ _
      omega
    · have s3 := s2.trans (same_upd (o := HO.lst (cutV (ns.map fun n : Nat => V.int (n : Int)) none (some (w : Int)) ++ [V.int ((ns[w] : Nat) - 1 : Int)])) np3)
      refine ⟨_, rfl, _, rfl, _, _, rfl, rfl, _, rfl, a, _, rfl, SqL.of (s3 _ _ la), fun p4 np4 => ?_⟩
      have s4 := s3.trans (same_upd (o := HO.lst (cutV (ns.map fun n : Nat => V.int (n : Int)) (some ((w : Int) + 1)) none)) np4)
      have n34 : p4 ≠ p3 := fun z => by
        rw [z, upd_same] at np4
        cases np4
      refine ⟨p3, p4, _, _, rfl, rfl, by rw [upd_ne n34.symm]; exact upd_same, upd_same, ?_, fun p5 np5 => ?_⟩
      · have := cutV_length (ns.map fun n : Nat => V.int (n : Int)) none (some (w : Int))
        have := cutV_length (ns.map fun n : Nat => V.int (n : Int)) (some ((w : Int) + 1)) none
        rw [List.length_append, sizeLine_eq]
        show _ + 1 + _ ≤ _
        omega
      · refine q _ p5 (s4.trans (same_upd np5)) (same_none s4 np5) ?_
        show upd _ p5 _ p5 = _
        rw [upd_same]
        have e1 : (w : Int) + 1 = ((w + 1 : Nat) : Int) := by omega
        rw [e1, cutTo, cutFrom]
        have e2 : ((ns[w] : Nat) - 1 : Int) = ((ns.getD w 0 - 1 : Nat) : Int) := by omega
        show some (HO.lst (_ ++ [V.int ((ns[w] : Nat) - 1 : Int)] ++ _)) = _
        rw [e2, set_cut (by rw [lv]; exact hw)]
        show some (HO.lst _) = some (HO.lst ((lessN ns w).map fun n : Nat => V.int (n : Int)))
        unfold lessN
        rw [List.map_set]
theorem set_sum {x : Nat} : ∀ {ns : List Nat} {w : Nat}, x ≤ ns.getD w 0 → w < ns.length → (ns.set w x).sum ≤ ns.sum
  | [], w, _, h => by cases h
  | n :: ns, 0, hx, _ => by
    rw [List.set_cons_zero, List.sum_cons, List.sum_cons]
    have : x ≤ n := hx
    omega
  | n :: ns, w + 1, hx, h => by
    rw [List.set_cons_succ, List.sum_cons, List.sum_cons]
    have := set_sum (x := x) (ns := ns) (w := w) (by simpa using hx) (by simpa using h)
    omega
theorem less_sum {ns : List Nat} {w : Nat} (h : w < ns.length) : (lessN ns w).sum ≤ ns.sum := set_sum (by omega) h
theorem scOW : FnScope ["sizes", "writer"] ["sizes", "writer"] (defScope sOW) := ⟨rfl, rfl, rfl, by decide +kernel, rfl, by decide +kernel, by decide +kernel⟩
theorem ok_ow (Z : Ct K mg) : FnOk P w K mg base CX0 2 Z.f4 Z.d4 ["sizes", "writer"] spOW := by
  have GL : FnOk P w K mg base CX0 1 Z.f3 Z.d3 ["sizes", "writer"] spLess := ok_less Z
  have GO : FnOk P w K mg base CX0 1 Z.O.f Z.O.d ["sizes"] spOrd := ok_ord Z.O
  refine Z.W.ok scOW (fun vs H Q E h => ?_) (fun cdv A outer s H vs Q E hr h => ?_)
  · obtain ⟨a, ns, w, rfl, _⟩ := h
    rfl
  · obtain ⟨a, ns, w, rfl, la, hw, l, lz, q⟩ := h
    refine ⟨_, pss_cons (ps_if (pt_cmpR op_eq (pe_ix ix_list (pv 0) (pv 1) (fun _ _ => rfl)) pe_int (nomark _)) (pss_one (ps_ret pe_int)) pss_nil)
      (pss_one (ps_ret (pe_call GO hr (by rfl) Z.O.m Z.O.F.kp Z.O.b .nil pass0 (pa_cons (pe_call GL hr (by rfl) Z.m3 Z.L.kp Z.b3 .nil pass0 (pa_cons (pv 0) (pa_cons (pv 1) pa_nil))) pa_nil)))), ?_⟩
    have gw : ns.getD w 0 = ns[w] := by
      rw [List.getD_eq_getElem?_getD, List.getElem?_eq_getElem hw]
      rfl
    refine ⟨_, rfl, _, rfl, a, _, (w : Int), .int (ns[w] : Nat), rfl, rfl, SqL.of la, atI_nat (by rw [List.getElem?_map, List.getElem?_eq_getElem hw]; rfl), rfl, _, rfl, ?_⟩
    by_cases c : ns[w] = 0
    · have q1 := q H (Same.refl H)
      unfold owN at q1
      rw [gw, if_pos c] at q1
      exact iteT' (by simp [c]) q1
    · have eo : owN ns w = ordN (lessN ns w) := by
        unfold owN
        rw [gw, if_neg c]
      refine iteF' (by simp [c]) ?_
      refine ⟨_, rfl, _, rfl, a, ns, w, rfl, la, hw, l, by omega, fun H1 p s1 np lp => ?_⟩
      refine ⟨p, _, rfl, lp, Nat.le_trans (less_sum hw) lz, fun H2 s2 => ?_⟩
      rw [← eo]
      exact q H2 (s1.trans s2)
theorem scCount : FnScope ["framing", "score", "steps"] ["framing", "score"] (defScope sCount) := ⟨rfl, rfl, rfl, by decide +kernel, rfl, by decide +kernel, by decide +kernel⟩
theorem ok_count (Z : Ct K mg) : FnOk P w K mg base (L2.CX P w) 7 Z.f1 Z.d1 ["framing", "score"] (spCnt Z.N.O.C cntN) := by
  have GN : FnOk P w K mg base (L2.CX P w) 6 Z.N.f Z.N.d ["framing", "thing"] (spNeedS Z.N.O.C) := ok_needS Z.N
  have GO : FnOk P w K mg base CX0 1 Z.O.f Z.O.d ["sizes"] spOrd := ok_ord Z.O
  have GS : FnOk P w K mg base CX0 1 Z.S.f Z.S.d ["score"] spSteps := ok_steps Z.S
  refine Z.C.okX scCount (fun vs H Q E h => ?_) (fun cdv A outer s H vs Q E hr h => ?_)
  · obtain ⟨f, v, fr, last, d, rfl, _⟩ := h
    rfl
  · obtain ⟨f, v, fr, last, d, rfl, fa, fm, da, lm, q⟩ := h
    have r1 := hr.mono (j := 1) (by omega)
    refine ⟨_, pss_cons (ps_expr (pe_call GN hr (by rfl) Z.N.m Z.N.F.kp Z.N.b .nil (passes_call (E := E) (takes_of rfl rfl rfl rfl) fun _ _ _ _ h => h) (pa_cons (pv 0) (pa_cons (pv 1) pa_nil))))
      (pss_one (ps_ret (pe_call GO r1 (by rfl) Z.O.m Z.O.F.kp Z.O.b .nil pass0 (pa_cons (pe_lc (own := [("steps", 2)]) (g := gName 2) (te := tCB (rLn K) (tCons (tVar 2) tNil)) rfl scCount.nd (pi_list (pe_call GS r1 (by rfl) Z.S.m Z.S.F.kp Z.S.b .nil pass0 (pa_cons (pv 1) pa_nil)))
        (blkOk_by (N := ["framing", "score", "steps"]) (sc := defScope sCount) (by decide +kernel))
        (fun _ _ _ _ _ => pg_name (i := 2) scCount.nd rfl (Or.inl rfl)) (fun _ _ _ _ _ => pts_nil) (fun _ _ _ _ _ => pe_callB call_len_seq (by rfl) Z.N.S.L.W.Y.Z.T.len PySem.boot_len (pa_cons (pv 2) pa_nil))) pa_nil)))), ?_⟩
    refine ⟨_, rfl, _, rfl, f, v, fr, last, d, rfl, fa, fm, da, lm, ?_⟩
    cases c : goodS fr d with
    | false =>
      rw [c] at q
      exact q
    | true =>
      rw [c] at q
      obtain ⟨ps, rfl, gs⟩ := goodS_gs c
      have q := q ps rfl gs
      intro H1 s1
      refine ⟨_, rfl, v, ps, rfl, Da.same s1 _ _ da, gs.l8, gs.sz, fun H2 p s2 np rw2 => ?_⟩
      obtain ⟨ads, hp, al, ac⟩ := rw2
      rw [List.length_map] at al
      refine ⟨p, rfl, ⟨_, SqL.of hp⟩, fun D hD => ?_⟩
      refine lc_it (walk_list (xs := ads.map V.ref)) (fun i H' => LsA H' D ((ps.take i).map sz1) ∧ Same H2 H') ⟨upd_same, same_upd hD⟩ (fun i H' _ z => SqL.of (z.2 _ _ hp)) ?_ ?_
      · rintro i x H4z H4 hi ⟨hd, s4⟩ ⟨rfl, hx⟩
        rw [List.length_map] at hi
        have ha : ads[i]? = some ads[i] := List.getElem?_eq_getElem hi
        rw [List.getElem?_map, ha] at hx
        obtain rfl : V.ref ads[i] = x := Option.some.inj hx
        have ip : ps[i]? = some ps[i] := List.getElem?_eq_getElem (by omega)
        have hc := ac i _ _ ha (by rw [List.getElem?_map, ip]; rfl)
        refine ⟨rfl, _, rfl, ads[i], _, rfl, .inl (SqL.of (s4 _ _ hc)), _, hd, ?_, ?_, same_push hD s4⟩
        · rw [List.length_map, List.length_map, List.length_take, sizeLine_eq]
          have := gs.l8
          omega
        · show upd _ D _ D = _
          rw [upd_same, take_one ip, List.map_append, List.map_append, List.length_map, sz1_flat]
          rfl
      · rintro H3 ⟨hd, s3⟩
        rw [List.length_map, al, List.take_length] at hd
        refine ⟨D, _, rfl, hd, ?_, fun H4 s4 => q H4 (s1.trans (s2.trans (s3.trans s4)))⟩
        have := gs.sz
        unfold szS at this
        omega
theorem len_le : ∀ {p : List Lin}, (∀ l ∈ p, l ≠ []) → p.length ≤ sz1 p
  | [], _ => Nat.le_refl _
  | l :: p, h => by
    have e : sz1 (l :: p) = l.length + sz1 p := rfl
    have := len_le (p := p) fun x hx => h x (List.mem_cons_of_mem _ hx)
    have : 1 ≤ l.length := by
      cases l with
      | nil => exact absurd rfl (h _ (List.mem_cons_self ..))
      | cons _ _ => simp
    rw [List.length_cons]
    omega
theorem lens_le : ∀ {ps : List (List Lin)}, (∀ p ∈ ps, ∀ l ∈ p, l ≠ []) → (ps.map List.length).sum ≤ szS ps
  | [], _ => Nat.le_refl _
  | p :: ps, h => by
    have e : szS (p :: ps) = sz1 p + szS ps := rfl
    have := lens_le (ps := ps) fun x hx => h x (List.mem_cons_of_mem _ hx)
    have := len_le (h p (List.mem_cons_self ..))
    rw [List.map_cons, List.sum_cons]
    omega
theorem scClean : FnScope ["framing", "score", "lines"] ["framing", "score"] (defScope sClean) := ⟨rfl, rfl, rfl, by decide +kernel, rfl, by decide +kernel, by decide +kernel⟩
theorem ok_clean (Z : Ct K mg) : FnOk P w K mg base (L2.CX P w) 7 Z.f2 Z.d2 ["framing", "score"] (spCnt Z.N.O.C clnN) := by
  have GN : FnOk P w K mg base (L2.CX P w) 6 Z.N.f Z.N.d ["framing", "thing"] (spNeedS Z.N.O.C) := ok_needS Z.N
  have GO : FnOk P w K mg base CX0 1 Z.O.f Z.O.d ["sizes"] spOrd := ok_ord Z.O
  refine Z.D.okX scClean (fun vs H Q E h => ?_) (fun cdv A outer s H vs Q E hr h => ?_)
  · obtain ⟨f, v, fr, last, d, rfl, _⟩ := h
    rfl
  · obtain ⟨f, v, fr, last, d, rfl, fa, fm, da, lm, q⟩ := h
    have r1 := hr.mono (j := 1) (by omega)
    refine ⟨_, pss_cons (ps_expr (pe_call GN hr (by rfl) Z.N.m Z.N.F.kp Z.N.b .nil (passes_call (E := E) (takes_of rfl rfl rfl rfl) fun _ _ _ _ h => h) (pa_cons (pv 0) (pa_cons (pv 1) pa_nil))))
      (pss_one (ps_ret (pe_call GO r1 (by rfl) Z.O.m Z.O.F.kp Z.O.b .nil pass0 (pa_cons (pe_lc (own := [("lines", 2)]) (g := gName 2) (te := tCB (rLn K) (tCons (tVar 2) tNil)) rfl scClean.nd (pi_tup (pv 1))
        (blkOk_by (N := ["framing", "score", "lines"]) (sc := defScope sClean) (by decide +kernel))
        (fun _ _ _ _ _ => pg_name (i := 2) scClean.nd rfl (Or.inl rfl)) (fun _ _ _ _ _ => pts_nil) (fun _ _ _ _ _ => pe_callB call_len_seq (by rfl) Z.N.S.L.W.Y.Z.T.len PySem.boot_len (pa_cons (pv 2) pa_nil))) pa_nil)))), ?_⟩
    refine ⟨_, rfl, _, rfl, f, v, fr, last, d, rfl, fa, fm, da, lm, ?_⟩
    cases c : goodS fr d with
    | false =>
      rw [c] at q
      exact q
    | true =>
      rw [c] at q
      obtain ⟨ps, rfl, gs⟩ := goodS_gs c
      have q := q ps rfl gs
      intro H1 s1
      have da1 := Da.same s1 _ _ da
      obtain ⟨a, xs, rfl, e, all⟩ : ∃ a xs, v = .ref a ∧ H1 a = some (.tup xs) ∧ DaAll H1 xs (ps.map dP) := by
        cases da1 with
        | tup e all => exact ⟨_, _, rfl, e, all⟩
      have ln := all.len
      rw [List.length_map] at ln
      refine ⟨_, rfl, a, rfl, ⟨_, SqT.of e⟩, fun D hD => ?_⟩
      refine lc_it (walk_tup (xs := xs)) (fun i H' => LsA H' D ((ps.take i).map List.length) ∧ Same H1 H') ⟨upd_same, same_upd hD⟩ (fun i H' _ z => SqT.of (z.2 _ _ e)) ?_ ?_
      · rintro i x H4z H4 hi ⟨hd, s4⟩ ⟨rfl, hx⟩
        obtain ⟨d1, h1, dx⟩ := all.at_ hx
        obtain ⟨p, hp, rfl⟩ := at_map h1
        obtain ⟨a1, ys, rfl, e1, ly⟩ : ∃ a1 ys, x = .ref a1 ∧ H1 a1 = some (.tup ys) ∧ ys.length = p.length := by
          cases dx with
          | tup e all =>
            have := all.len
            rw [List.length_map] at this
            exact ⟨_, _, rfl, e, this⟩
        refine ⟨rfl, _, rfl, a1, _, rfl, .inr (SqT.of (s4 _ _ e1)), _, hd, ?_, ?_, same_push hD s4⟩
        · rw [List.length_map, List.length_map, List.length_take, sizeLine_eq]
          have := gs.l8
          omega
        · show upd _ D _ D = _
          rw [upd_same, take_one hp, List.map_append, List.map_append, ly]
          rfl
      · rintro H3 ⟨hd, s3⟩
        rw [ln, List.take_length] at hd
        refine ⟨D, _, rfl, hd, ?_, fun H4 s4 => q H4 (s1.trans (s3.trans s4))⟩
        have := gs.sz
        have := lens_le (ps := ps) fun p hp l hl => (gs.ln p hp l hl).ne
        omega
end
end K39

set_option Elab.async false
set_option linter.all false
set_option maxRecDepth 100000
set_option maxHeartbeats 4000000
/-! How many orders: what the divisions give; the orders that begin with each writer are all. -/
namespace K39
def fct : Nat → Nat
  | 0 => 1
  | n + 1 => (n + 1) * fct n
def ch : Nat → Nat → Nat
  | _, 0 => 1
  | 0, _ + 1 => 0
  | n + 1, k + 1 => ch n k + ch n (k + 1)
theorem fct_pos : ∀ n, 0 < fct n
  | 0 => Nat.one_pos
  | n + 1 => Nat.mul_pos (Nat.succ_pos n) (fct_pos n)
theorem ch_zero : ∀ n, ch n 0 = 1
  | 0 => rfl
  | _ + 1 => rfl
theorem ch_lt : ∀ {n k : Nat}, n < k → ch n k = 0
  | 0, k + 1, _ => rfl
  | n + 1, k + 1, h => by
    show ch n k + ch n (k + 1) = 0
    rw [ch_lt (by omega), ch_lt (by omega)]
theorem ch_succ : ∀ {n k : Nat}, (n + 1) * ch n k = ch (n + 1) (k + 1) * (k + 1)
  | 0, 0 => rfl
  | 0, k + 1 => by
    rw [ch_lt (by omega : 0 < k + 1), ch_lt (by omega : 0 + 1 < k + 1 + 1)]
    omega
  | n + 1, 0 => by
    have h : (n + 1) * ch n 0 = ch (n + 1) 1 * 1 := ch_succ
    have e : ch (n + 1 + 1) 1 = ch (n + 1) 0 + ch (n + 1) 1 := rfl
    show (n + 1 + 1) * ch (n + 1) 0 = ch (n + 1 + 1) 1 * 1
    rw [ch_zero] at h
    rw [e, ch_zero]
    omega
  | n + 1, k + 1 => by
    have h1 := ch_succ (n := n) (k := k)
    have h2 := ch_succ (n := n) (k := k + 1)
    have e : ch (n + 1 + 1) (k + 1 + 1) = ch (n + 1) (k + 1) + ch (n + 1) (k + 1 + 1) := rfl
    have e2 : ch (n + 1) (k + 1) = ch n k + ch n (k + 1) := rfl
    have g : (n + 1) * ch (n + 1) (k + 1) = ch (n + 1) (k + 1) * (k + 1) + ch (n + 1) (k + 1 + 1) * (k + 1 + 1) := by
      rw [← h1, ← h2, ← Nat.mul_add, ← e2]
    rw [e]
    generalize ch (n + 1) (k + 1) = A at g ⊢
    generalize ch (n + 1) (k + 1 + 1) = B at g ⊢
    have i1 : (n + 1 + 1) * A = (n + 1) * A + A := Nat.succ_mul ..
    have i2 : (A + B) * (k + 1 + 1) = A * (k + 1 + 1) + B * (k + 1 + 1) := Nat.add_mul ..
    have i3 : A * (k + 1 + 1) = A * (k + 1) + A := Nat.mul_succ ..
    omega
theorem go_ch {m p : Nat} : ∀ n, ordGo (m, p) n = (m * ch (p + n) n, p + n)
  | 0 => by
    show (m, p) = (m * ch p 0, p)
    rw [ch_zero, Nat.mul_one]
  | n + 1 => by
    rw [ordGo_succ, go_ch n]
    show (m * ch (p + n) n * (p + n + 1) / (n + 1), p + n + 1) = (m * ch (p + n + 1) (n + 1), p + n + 1)
    rw [Nat.mul_assoc, Nat.mul_comm (ch (p + n) n), ch_succ, ← Nat.mul_assoc, Nat.mul_div_cancel _ (Nat.succ_pos n)]
def mul (p : Nat) : List Nat → Nat
  | [] => 1
  | n :: ns => ch (p + n) n * mul (p + n) ns
theorem fold_mul : ∀ {ns : List Nat} {m p : Nat}, ns.foldl ordGo (m, p) = (m * mul p ns, p + ns.sum)
  | [], m, p => by
    show (m, p) = (m * 1, p + 0)
    rw [Nat.mul_one, Nat.add_zero]
  | n :: ns, m, p => by
    rw [List.foldl_cons, go_ch, fold_mul, List.sum_cons]
    show _ = (m * (ch (p + n) n * mul (p + n) ns), _)
    rw [Nat.mul_assoc, Nat.add_assoc]
theorem ord_mul {ns : List Nat} : ordN ns = mul 0 ns := by
  unfold ordN
  rw [fold_mul, Nat.one_mul]
theorem ch_fct {p : Nat} : ∀ n, ch (p + n) n * fct n * fct p = fct (p + n)
  | 0 => by
    show ch p 0 * 1 * fct p = fct p
    rw [ch_zero, Nat.one_mul]
  | n + 1 => by
    show ch (p + n + 1) (n + 1) * ((n + 1) * fct n) * fct p = (p + n + 1) * fct (p + n)
    rw [← Nat.mul_assoc, ← ch_succ, Nat.mul_assoc, Nat.mul_assoc, ← Nat.mul_assoc (ch (p + n) n), ch_fct n]
def prd : List Nat → Nat
  | [] => 1
  | n :: ns => fct n * prd ns
theorem prd_pos : ∀ ns, 0 < prd ns
  | [] => Nat.one_pos
  | n :: ns => Nat.mul_pos (fct_pos n) (prd_pos ns)
theorem mul_fct : ∀ {ns : List Nat} {p : Nat}, mul p ns * prd ns * fct p = fct (p + ns.sum)
  | [], p => by
    show 1 * 1 * fct p = fct (p + 0)
    rw [Nat.one_mul, Nat.add_zero]
  | n :: ns, p => by
    have h := mul_fct (ns := ns) (p := p + n)
    rw [List.sum_cons, ← Nat.add_assoc, ← h, ← ch_fct n]
    show ch (p + n) n * mul (p + n) ns * (fct n * prd ns) * fct p = mul (p + n) ns * prd ns * (ch (p + n) n * fct n * fct p)
    generalize ch (p + n) n = a
    generalize mul (p + n) ns = b
    generalize fct n = c
    generalize prd ns = d
    generalize fct p = e
    simp only [Nat.mul_comm, Nat.mul_left_comm]
theorem ord_fct {ns : List Nat} : ordN ns * prd ns = fct ns.sum := by
  have h := mul_fct (ns := ns) (p := 0)
  rw [Nat.zero_add] at h
  rw [ord_mul, ← h]
  show _ = _ * 1
  rw [Nat.mul_one]
theorem prd_set : ∀ {ns : List Nat} {w : Nat}, w < ns.length → ns.getD w 0 ≠ 0 → prd ns = ns.getD w 0 * prd (ns.set w (ns.getD w 0 - 1))
  | [], _, h, _ => by cases h
  | n :: ns, 0, _, h => by
    show fct n * prd ns = n * (fct (n - 1) * prd ns)
    have h : n ≠ 0 := h
    obtain ⟨k, rfl⟩ : ∃ k, n = k + 1 := ⟨n - 1, by omega⟩
    show (k + 1) * fct k * prd ns = (k + 1) * (fct k * prd ns)
    rw [Nat.mul_assoc]
  | n :: ns, w + 1, h, z => by
    have i := prd_set (ns := ns) (w := w) (by simpa using h) (by simpa using z)
    have g : (n :: ns).getD (w + 1) 0 = ns.getD w 0 := by simp
    rw [g]
    show fct n * prd ns = ns.getD w 0 * (fct n * prd (ns.set w (ns.getD w 0 - 1)))
    rw [Nat.mul_left_comm, ← i]
theorem set_sum1 : ∀ {ns : List Nat} {w : Nat}, w < ns.length → ns.getD w 0 ≠ 0 → (ns.set w (ns.getD w 0 - 1)).sum + 1 = ns.sum
  | [], _, h, _ => by cases h
  | n :: ns, 0, _, h => by
    have h : n ≠ 0 := h
    rw [List.set_cons_zero, List.sum_cons, List.sum_cons]
    show n - 1 + ns.sum + 1 = _
    omega
  | n :: ns, w + 1, h, z => by
    have i := set_sum1 (ns := ns) (w := w) (by simpa using h) (by simpa using z)
    have g : (n :: ns).getD (w + 1) 0 = ns.getD w 0 := by simp
    rw [g, List.set_cons_succ, List.sum_cons, List.sum_cons]
    omega
theorem ow_prd {ns : List Nat} {w : Nat} (h : w < ns.length) : owN ns w * prd ns = ns.getD w 0 * fct (ns.sum - 1) := by
  unfold owN
  by_cases c : ns.getD w 0 = 0
  · rw [if_pos c, c, Nat.zero_mul, Nat.zero_mul]
  · rw [if_neg c, prd_set h c]
    have z := ord_fct (ns := lessN ns w)
    have e := set_sum1 h c
    have e2 : (lessN ns w).sum = ns.sum - 1 := by
      unfold lessN
      omega
    rw [e2] at z
    show ordN (lessN ns w) * (ns.getD w 0 * prd (lessN ns w)) = _
    rw [Nat.mul_left_comm, z]
/-- the orders that begin with a writer from w on -/
def fromW (ns : List Nat) (w : Nat) : Nat := ((List.range (ns.length - w)).map fun k => owN ns (w + k)).sum
theorem sum_mulR {α : Type} {f : α → Nat} {c : Nat} : ∀ {l : List α}, (l.map f).sum * c = (l.map fun x => f x * c).sum
  | [] => Nat.zero_mul c
  | x :: l => by
    rw [List.map_cons, List.sum_cons, List.map_cons, List.sum_cons, Nat.add_mul, sum_mulR]
theorem map_range {ns : List Nat} : (List.range ns.length).map (fun k => ns.getD k 0) = ns := by
  refine List.ext_getElem (by simp) fun i h1 h2 => ?_
  simp [List.getD_eq_getElem?_getD, h2]
theorem all_ow {ns : List Nat} (h : 0 < ns.sum) : fromW ns 0 = ordN ns := by
  refine Nat.eq_of_mul_eq_mul_right (prd_pos ns) ?_
  rw [ord_fct]
  unfold fromW
  rw [sum_mulR, Nat.sub_zero]
  have e : (List.range ns.length).map (fun k => owN ns (0 + k) * prd ns) = (List.range ns.length).map (fun k => ns.getD k 0 * fct (ns.sum - 1)) := by
    refine List.map_congr_left fun k hk => ?_
    rw [Nat.zero_add, ow_prd (List.mem_range.mp hk)]
  rw [e, ← sum_mulR, map_range]
  obtain ⟨k, hk⟩ : ∃ k, ns.sum = k + 1 := ⟨ns.sum - 1, by omega⟩
  rw [hk]
  rfl
theorem from_step {ns : List Nat} {w : Nat} (h : w < ns.length) : fromW ns w = owN ns w + fromW ns (w + 1) := by
  unfold fromW
  obtain ⟨k, hk⟩ : ∃ k, ns.length - w = k + 1 := ⟨ns.length - w - 1, by omega⟩
  have e : ns.length - (w + 1) = k := by omega
  rw [hk, e, List.range_succ_eq_map, List.map_cons, List.sum_cons, List.map_map]
  congr 2
  refine List.map_congr_left fun x _ => ?_
  show owN ns (w + (x + 1)) = owN ns (w + 1 + x)
  congr 1
  omega
theorem from_end {ns : List Nat} {w : Nat} (h : ns.length ≤ w) : fromW ns w = 0 := by
  unfold fromW
  rw [Nat.sub_eq_zero_of_le h]
  rfl
theorem ord_pos {ns : List Nat} : 0 < ordN ns := by
  have h := ord_fct (ns := ns)
  have := fct_pos ns.sum
  rcases Nat.eq_zero_or_pos (ordN ns) with z | z
  · rw [z, Nat.zero_mul] at h
    omega
  · exact z
end K39

set_option Elab.async false
set_option linter.all false
set_option maxRecDepth 100000
set_option maxHeartbeats 4000000
/-! weaving_at. -/
namespace K39
open PySem L2 L2.EV
abbrev sAt : Stmt := top 39
abbrev NAt : List Str := ["framing", "score", "number", "steps", "row", "sizes", "entries", "rest", "writer"]
/-- the writer that a number asks for, and what is left of the number -/
def pickW (ns : List Nat) : Nat → Nat → Nat → Nat × Nat
  | 0, w, r => (w, r)
  | k + 1, w, r => if owN ns w ≤ r then pickW ns k (w + 1) (r - owN ns w) else (w, r)
/-- the step that a writer puts next -/
def stepR (rows : List (List Int)) (ns : List Nat) (w : Nat) : Int := (rows.getD w []).getD ((rows.getD w []).length - ns.getD w 0) 0
/-- the weaving that has a number -/
def atF (rows : List (List Int)) : Nat → List Nat → Nat → List E2
  | 0, _, _ => []
  | k + 1, ns, r => (((pickW ns ns.length 0 r).1 : Int), stepR rows ns (pickW ns ns.length 0 r).1) :: atF rows k (lessN ns (pickW ns ns.length 0 r).1) (pickW ns ns.length 0 r).2
def atP (ps : List (List Lin)) (k : Nat) : List E2 := atF (ps.map List.flatten) (szS ps) (ps.map sz1) k
theorem pick_go {ns : List Nat} {w r : Nat} (h : w < ns.length) (y : owN ns w ≤ r) : pickW ns (ns.length - w) w r = pickW ns (ns.length - (w + 1)) (w + 1) (r - owN ns w) := by
  obtain ⟨k, hk⟩ : ∃ k, ns.length - w = k + 1 := ⟨ns.length - w - 1, by omega⟩
  have e : ns.length - (w + 1) = k := by omega
  rw [hk, e]
  exact if_pos y
theorem pick_no {ns : List Nat} {w r : Nat} (h : w < ns.length) (y : r < owN ns w) : pickW ns (ns.length - w) w r = (w, r) := by
  obtain ⟨k, hk⟩ : ∃ k, ns.length - w = k + 1 := ⟨ns.length - w - 1, by omega⟩
  rw [hk]
  exact if_neg (by omega)
theorem atF_one {rows : List (List Int)} {ns : List Nat} {w r r' m : Nat} (h : pickW ns ns.length 0 r = (w, r')) (e : m + 1 = ns.sum) : atF rows ns.sum ns r = ((w : Int), stepR rows ns w) :: atF rows m (lessN ns w) r' := by
  rw [← e]
  show (((pickW ns ns.length 0 r).1 : Int), stepR rows ns (pickW ns ns.length 0 r).1) :: atF rows m (lessN ns (pickW ns ns.length 0 r).1) (pickW ns ns.length 0 r).2 = _
  rw [h]
def spAt (CO : Addr) : Sp := fun vs H Q E => ∃ (f : Addr) (v u : V) (fr : List T3) (last : Nat) (d e : PyData), vs = [.ref f, v, u] ∧ FrA H f fr ∧ Frm fr last ∧ Da H v d ∧ Lm d ∧ Da H u e ∧
  if goodS fr d = true then ∀ ps, d = dS ps → Gs fr ps → match numD (cntN ps : Nat) e with
    | none => Eo CO E H
    | some k => ∀ H' p es, Same H H' → WvA H' p es → es.length = szS ps → (∀ x ∈ es, Ent fr x) → es = atP ps k.toNat → Q (.ref p) H'
  else Eo CO E H
structure At4 (K : PySem.W.Frag) (mg : Str → Option Value) where
  C : Ct K mg
  f : Addr
  d : FuncData
  F : Fun K "weaving_at" "weaving_at" sAt f d
  b : Binds K d ["framing", "score", "number"] []
  m : mg "weaving_at" = some (.ref f)
  su : mg "sum" = none
  tu : mg "tuple" = none
theorem vN_int {ns : List Nat} : (ns.map fun n : Nat => V.int (n : Int)) = (ns.map fun n : Nat => (n : Int)).map V.int := by
  rw [List.map_map]
  rfl
theorem sum_int : ∀ {ns : List Nat}, (ns.map fun n : Nat => (n : Int)).sum = ((ns.sum : Nat) : Int)
  | [] => rfl
  | n :: ns => by
    rw [List.map_cons, List.sum_cons, List.sum_cons, sum_int, Int.natCast_add]
theorem less_getD {ns : List Nat} {w k : Nat} : (lessN ns w).getD k 0 ≤ ns.getD k 0 := by
  unfold lessN
  rw [List.getD_eq_getElem?_getD, List.getD_eq_getElem?_getD, List.getD_eq_getElem?_getD, List.getElem?_set]
  by_cases c : w = k
  · subst c
    rw [if_pos rfl]
    by_cases l : w < ns.length
    · rw [if_pos l]
      exact Nat.sub_le _ _
    · rw [if_neg l]
      exact Nat.zero_le _
  · rw [if_neg c]
    exact Nat.le_refl _
section
variable {P : Program} {w : World} {K : PySem.W.Frag} {mg : Str → Option Value} {base : Heap}
theorem scAt : FnScope NAt ["framing", "score", "number"] (defScope sAt) := ⟨rfl, rfl, rfl, by decide +kernel, rfl, by decide +kernel, by decide +kernel⟩
theorem ok_at (Z : At4 K mg) : FnOk P w K mg base (L2.CX P w) 7 Z.f Z.d ["framing", "score", "number"] (spAt Z.C.N.O.C) := by
  have GN : FnOk P w K mg base (L2.CX P w) 6 Z.C.N.f Z.C.N.d ["framing", "thing"] (spNeedS Z.C.N.O.C) := ok_needS Z.C.N
  have GO : FnOk P w K mg base CX0 1 Z.C.O.f Z.C.O.d ["sizes"] spOrd := ok_ord Z.C.O
  have GS : FnOk P w K mg base CX0 1 Z.C.S.f Z.C.S.d ["score"] spSteps := ok_steps Z.C.S
  have GM : FnOk P w K mg base CX0 1 Z.C.N.S.L.W.Y.Z.fN Z.C.N.S.L.W.Y.Z.dN ["thing", "many"] spNumD := ok_numD Z.C.N.S.L.W.Y.Z.N Z.C.N.S.L.W.Y.Z.T
  have GP : FnOk P w K mg base CX0 2 Z.C.N.O.f Z.C.N.O.d ["self", "text"] (spNo K Z.C.N.O.C) := ok_OutOfPlace Z.C.N.O.F Z.C.N.O.T Z.C.N.O.I Z.C.N.O.FM Z.C.N.O.bM Z.C.N.O.mM Z.C.N.O.TM
  have GW : FnOk P w K mg base CX0 2 Z.C.f4 Z.C.d4 ["sizes", "writer"] spOW := ok_ow Z.C
  have GL : FnOk P w K mg base CX0 1 Z.C.f3 Z.C.d3 ["sizes", "writer"] spLess := ok_less Z.C
  have len := Z.C.N.S.L.W.Y.Z.T.len
  refine Z.F.okX scAt (fun vs H Q E h => ?_) (fun cdv A outer s H vs Q E hr h => ?_)
  · obtain ⟨f, v, u, fr, last, d, e, rfl, _⟩ := h
    rfl
  · obtain ⟨f, v, u, fr, last, d, e, rfl, fa, fm, da, lm, de, q⟩ := h
    have r1 := hr.mono (j := 1) (by omega)
    have r2 := hr.mono (j := 2) (by omega)
    have r3 := hr.mono (j := 3) (by omega)
    refine ⟨_, pss_cons (ps_expr (pe_call GN hr (by rfl) Z.C.N.m Z.C.N.F.kp Z.C.N.b .nil (passes_call (E := E) (takes_of rfl rfl rfl rfl) fun _ _ _ _ h => h) (pa_cons (pv 0) (pa_cons (pv 1) pa_nil))))
      (pss_cons (ps_set (i := 3) scAt.nd rfl (Or.inl rfl) (pe_call GS r1 (by rfl) Z.C.S.m Z.C.S.F.kp Z.C.S.b .nil pass0 (pa_cons (pv 1) pa_nil)))
      (pss_cons (ps_setLc (i := 5) (y := "sizes") (own := [("row", 4)]) (g := gName 4) (te := tCB (rLn K) (tCons (tVar 4) tNil)) rfl scAt.nd rfl rfl (by rfl) (pi_list (pv 3))
        (blkOk_by (N := NAt) (sc := defScope sAt) (by decide +kernel))
        (fun _ _ _ _ _ => pg_name (i := 4) scAt.nd rfl (Or.inl rfl)) (fun _ _ _ _ _ => pts_nil) (fun _ _ _ _ _ => pe_callB call_len_seq (by rfl) len PySem.boot_len (pa_cons (pv 4) pa_nil)))
      (pss_cons (ps_if (pt_not (pt_val (pe_call GM r1 (by rfl) Z.C.N.S.L.W.Y.Z.mN Z.C.N.S.L.W.Y.Z.N.kp Z.C.N.S.L.W.Y.Z.bN .nil pass0 (pa_cons (pv 2) (pa_cons (pe_call GO r1 (by rfl) Z.C.O.m Z.C.O.F.kp Z.C.O.b .nil pass0 (pa_cons (pv 5) pa_nil)) pa_nil)))))
        (pss_one (ps_raise rfl (takes_of rfl rfl rfl rfl) (pmk_own2 rfl (pe_new Z.C.N.O.T Z.C.N.O.iC Z.C.N.O.tI GP r3 (kb_pos Z.C.N.O.b rfl) pass0 (by rfl) Z.C.N.O.m (pa_cons pe_str pa_nil))))) pss_nil)
      (pss_cons (ps_set (i := 6) scAt.nd rfl (Or.inl rfl) (pe_lst pa_nil))
      (pss_cons (ps_set (i := 7) scAt.nd rfl (Or.inl rfl) (pv 2))
      (pss_cons (ps_while (passes_of rfl) (pt_cmpR op_gt (pe_callB (cr_sum rfl) (by rfl) Z.su (by decide +kernel) (pa_cons (pv 5) pa_nil)) pe_int (nomark _))
        (pss_cons (ps_set (i := 8) scAt.nd rfl (Or.inl rfl) pe_int)
        (pss_cons (ps_while (passes_of rfl) (pt_cmpR op_ge (pv 7) (pe_call GW r2 (by rfl) Z.C.m4 Z.C.W.kp Z.C.b4 .nil pass0 (pa_cons (pv 5) (pa_cons (pv 8) pa_nil))) (nomark _))
          (pss_cons (ps_aug (i := 7) scAt.nd rfl (Or.inl rfl) (pe_call GW r2 (by rfl) Z.C.m4 Z.C.W.kp Z.C.b4 .nil pass0 (pa_cons (pv 5) (pa_cons (pv 8) pa_nil))) ip_sub)
          (pss_one (ps_aug (i := 8) scAt.nd rfl (Or.inl rfl) pe_int ip_add))))
        (pss_cons (ps_expr (pe_bm PySem.F.plainAttrs_list PySem.F.slot_list_append PySem.F.type_list_append mt_append (pv 6) (pa_cons (pe_tup (pa_cons (pv 8) (pa_cons (pe_ix ix_list (pe_ix ix_list (pv 3) (pv 8) (fun _ _ => rfl)) (pe_op op_sub (pe_callB call_len_seq (by rfl) len PySem.boot_len (pa_cons (pe_ix ix_list (pv 3) (pv 8) (fun _ _ => rfl)) pa_nil)) (pe_ix ix_list (pv 5) (pv 8) (fun _ _ => rfl))) (fun _ _ => rfl)) pa_nil))) pa_nil)))
        (pss_one (ps_set (i := 5) scAt.nd rfl (Or.inl rfl) (pe_call GL r1 (by rfl) Z.C.m3 Z.C.L.kp Z.C.b3 .nil pass0 (pa_cons (pv 5) (pa_cons (pv 8) pa_nil)))))))))
      (pss_one (ps_ret (pe_callTy call_tuple_of (by rfl) Z.tu (by decide +kernel) (pa_cons (pv 6) pa_nil)))))))))), ?_⟩
    refine ⟨_, rfl, _, rfl, f, v, fr, last, d, rfl, fa, fm, da, lm, ?_⟩
    cases c : goodS fr d with
    | false =>
      rw [c] at q
      exact q
    | true =>
      rw [c] at q
      obtain ⟨ps, rfl, gs⟩ := goodS_gs c
      have q := q ps rfl gs
      intro H1 s1
      refine ⟨_, rfl, v, ps, rfl, Da.same s1 _ _ da, gs.l8, gs.sz, fun H2 S s2 nS rwS => ?_⟩
      obtain ⟨ads, hS, al, ac⟩ := id rwS
      rw [List.length_map] at al
      have s12 := s1.trans s2
      have sz8 : ∀ k, (ps.map sz1).getD k 0 = ((ps.map List.flatten).getD k []).length := fun k => by
        rw [List.getD_eq_getElem?_getD, List.getD_eq_getElem?_getD, List.getElem?_map, List.getElem?_map]
        cases ps[k]? with
        | none => rfl
        | some p => exact sz1_flat.symm
      refine ⟨_, rfl, S, rfl, ⟨_, SqL.of hS⟩, fun L0 hL0 => ?_⟩
      refine lc_it (walk_list (xs := ads.map V.ref)) (fun i H' => LsA H' L0 ((ps.take i).map sz1) ∧ Same H2 H') ⟨upd_same, same_upd hL0⟩ (fun i H' _ z => SqL.of (z.2 _ _ hS)) ?_ ?_
      · rintro i x H4z H4 hi ⟨hd, s4⟩ ⟨rfl, hx⟩
        rw [List.length_map] at hi
        have ha : ads[i]? = some ads[i] := List.getElem?_eq_getElem hi
        rw [List.getElem?_map, ha] at hx
        obtain rfl : V.ref ads[i] = x := Option.some.inj hx
        have ip : ps[i]? = some ps[i] := List.getElem?_eq_getElem (by omega)
        have hc := ac i _ _ ha (by rw [List.getElem?_map, ip]; rfl)
        refine ⟨rfl, _, rfl, ads[i], _, rfl, .inl (SqL.of (s4 _ _ hc)), _, hd, ?_, ?_, same_push hL0 s4⟩
        · rw [List.length_map, List.length_map, List.length_take, sizeLine_eq]
          have := gs.l8
          omega
        · show upd _ L0 _ L0 = _
          rw [upd_same, take_one ip, List.map_append, List.map_append, List.length_map, sz1_flat]
          rfl
      · rintro H3 ⟨hd, s3⟩
        rw [List.length_map, al, List.take_length] at hd
        have s13 := s12.trans s3
        have tot : (ps.map sz1).sum = szS ps := rfl
        have z40 := gs.sz
        refine ⟨_, rfl, _, rfl, L0, ps.map sz1, rfl, hd, by rw [tot]; omega, fun H4 s4 => ⟨u, e, _, rfl, Da.same (s13.trans s4) _ _ de, _, rfl, ?_⟩⟩
        have s14 := s13.trans s4
        have q2 : match numD (ordN (ps.map sz1) : Nat) e with
          | none => Eo Z.C.N.O.C E H
          | some k => ∀ H' p es, Same H H' → WvA H' p es → es.length = szS ps → (∀ x ∈ es, Ent fr x) → es = atP ps k.toNat → Q (.ref p) H' := q
        clear q
        cases en : numD (ordN (ps.map sz1) : Nat) e with
        | none =>
          rw [en] at q2
          refine iteT ?_
          refine ⟨rfl, rfl, (by decide), fun a na => ⟨a, .str _, .str _, rfl, upd_same, .str _, rfl, a, Z.C.N.O.C, none, rfl, upd_same, fr0_none (same_none s14 na), raises_own Z.C.N.O.su Z.C.N.O.ty, ?_⟩⟩
          rw [delH_new na]
          exact q2 H4 s14
        | some k0 =>
          rw [en] at q2
          have q2 : ∀ H' p es, Same H H' → WvA H' p es → es.length = szS ps → (∀ x ∈ es, Ent fr x) → es = atP ps k0.toNat → Q (.ref p) H' := q2
          refine iteF ?_
          obtain ⟨rfl, k1, k2⟩ := numD_some en
          cases de
          obtain ⟨r0, rfl⟩ := Int.eq_ofNat_of_zero_le k1
          have hD4 : LsA H4 L0 (ps.map sz1) := s4 _ _ hd
          refine ⟨by decide, fun D nD => ?_⟩
          have nDL : L0 ≠ D := fun z => by
            rw [← z] at nD
            rw [show H4 L0 = _ from hD4] at nD
            cases nD
          have hS4 := s4 _ _ (s3 _ _ hS)
          refine ⟨_, rfl, ?_⟩
          refine ⟨fun m σ H' => ∃ (L : Addr) (ns : List Nat) (ts : List Addr) (es : List E2) (r : Nat) (v8 : Option V), σ = [some (.ref f), some v, some (.int (r0 : Int)), some (.ref S), none, some (.ref L), some (.ref D), some (.int (r : Int)), v8] ∧
              Same H4 H' ∧ LsA H' L ns ∧ L ≠ D ∧ H' D = some (.lst (ts.map V.ref)) ∧ At2 H' ts es ∧ (∀ x ∈ es, Ent fr x) ∧ es.length + ns.sum = szS ps ∧ ns.length = ps.length ∧ (∀ w, ns.getD w 0 ≤ ((ps.map List.flatten).getD w []).length) ∧ r < ordN ns ∧ es ++ atF (ps.map List.flatten) ns.sum ns r = atP ps r0 ∧ m = ns.sum,
            ⟨_, L0, ps.map sz1, [], [], r0, none, rfl, same_upd nD, by show upd _ _ _ _ = _; rw [upd_ne nDL]; exact hD4, nDL, upd_same, ⟨rfl, fun i t e z => by cases z⟩, (fun x z => by cases z), by rw [tot]; exact Nat.zero_add _, List.length_map .., fun w => Nat.le_of_eq (sz8 w), by omega, rfl, rfl⟩, ?_⟩
          rintro m σ H5 ⟨L, ns, ts, es, r, v8, rfl, s5, hL, nLD, hD, hA, hE, hz, hn, hw, hr0, hat, rfl⟩
          refine ⟨_, rfl, L, ns.map fun n : Nat => (n : Int), rfl, SqL.of (by rw [← vN_int]; exact hL), _, _, rfl, rfl, _, rfl, ?_⟩
          rw [sum_int]
          refine ite2 (fun y => ?_) (fun y => ?_)
          · have ps0 : 0 < ns.sum := by
              have : (0 : Int) < ((ns.sum : Nat) : Int) := of_decide_eq_true y
              omega
            refine ⟨fun σ' H' => ∃ (L : Addr) (ns' : List Nat) (ts : List Addr) (es : List E2) (r : Nat) (v8 : Option V), σ' = [some (.ref f), some v, some (.int (r0 : Int)), some (.ref S), none, some (.ref L), some (.ref D), some (.int (r : Int)), v8] ∧
              Same H4 H' ∧ LsA H' L ns' ∧ L ≠ D ∧ H' D = some (.lst (ts.map V.ref)) ∧ At2 H' ts es ∧ (∀ x ∈ es, Ent fr x) ∧ es.length + ns'.sum = szS ps ∧ ns'.length = ps.length ∧ (∀ w, ns'.getD w 0 ≤ ((ps.map List.flatten).getD w []).length) ∧ r < ordN ns' ∧ es ++ atF (ps.map List.flatten) ns'.sum ns' r = atP ps r0 ∧ ns'.sum < ns.sum,
              fun σ' H' ⟨L, ns', ts, es, r, v8, h1, h2, h3, h4, h5, h6, h7, h8, h9, h10, h11, ha, h12⟩ => ⟨ns'.sum, h12, L, ns', ts, es, r, v8, h1, h2, h3, h4, h5, h6, h7, h8, h9, h10, h11, ha, rfl⟩, ?_⟩
            refine ⟨fun m σ H' => ∃ (w r' : Nat), σ = [some (.ref f), some v, some (.int (r0 : Int)), some (.ref S), none, some (.ref L), some (.ref D), some (.int (r' : Int)), some (.int (w : Int))] ∧ Same H5 H' ∧ r' < fromW ns w ∧ pickW ns ns.length 0 r = pickW ns (ns.length - w) w r' ∧ m = ns.length - w,
              ⟨_, 0, r, rfl, Same.refl H5, by rw [all_ow ps0]; exact hr0, rfl, rfl⟩, ?_⟩
            rintro m σ H6 ⟨w, r', rfl, s6, hrw, hpk, rfl⟩
            have wl : w < ns.length := by
              rcases Nat.lt_or_ge w ns.length with z | z
              · exact z
              · rw [from_end z] at hrw
                omega
            have l8 := gs.l8
            rw [from_step wl] at hrw
            refine ⟨_, rfl, _, rfl, _, rfl, L, ns, w, rfl, s6 _ _ hL, wl, by omega, by omega, fun H7 s7 => ?_⟩
            refine ⟨_, _, rfl, rfl, _, rfl, ?_⟩
            refine ite2 (fun y2 => ?_) (fun y2 => ?_)
            · have y3 : owN ns w ≤ r' := by
                have : ((owN ns w : Nat) : Int) ≤ (r' : Int) := of_decide_eq_true y2
                omega
              refine ⟨fun σ' H' => ∃ (r'' : Nat), σ' = [some (.ref f), some v, some (.int (r0 : Int)), some (.ref S), none, some (.ref L), some (.ref D), some (.int (r'' : Int)), some (.int ((w + 1 : Nat) : Int))] ∧ Same H5 H' ∧ r'' < fromW ns (w + 1) ∧ pickW ns ns.length 0 r = pickW ns (ns.length - (w + 1)) (w + 1) r'',
                fun σ' H' ⟨r'', h1, h2, h3, h4⟩ => ⟨ns.length - (w + 1), by omega, w + 1, r'', h1, h2, h3, h4, rfl⟩, ?_⟩
              refine ⟨_, rfl, _, rfl, _, rfl, L, ns, w, rfl, s7 _ _ (s6 _ _ hL), wl, by omega, by omega, fun H8 s8 => ?_⟩
              refine ⟨_, _, rfl, rfl, _, rfl, _, _, rfl, rfl, ?_⟩
              refine ⟨r' - owN ns w, ?_, s6.trans (s7.trans s8), by omega, by rw [hpk]; exact pick_go wl y3⟩
              have e1 : (r' : Int) - ((owN ns w : Nat) : Int) = ((r' - owN ns w : Nat) : Int) := by omega
              show [some (V.ref f), some v, some (.int (r0 : Int)), some (.ref S), none, some (.ref L), some (.ref D), some (.int ((r' : Int) - ((owN ns w : Nat) : Int))), some (.int ((w : Int) + 1))] = _
              rw [e1]
              rfl
            · have y3 : r' < owN ns w := by
                have : ¬ ((owN ns w : Nat) : Int) ≤ (r' : Int) := fun z => y2 (decide_eq_true z)
                omega
              have nz : ns.getD w 0 ≠ 0 := fun z => by
                unfold owN at y3
                rw [if_pos z] at y3
                omega
              have eow : owN ns w = ordN (lessN ns w) := if_neg nz
              have gw : ns.getD w 0 = ns[w] := by
                rw [List.getD_eq_getElem?_getD, List.getElem?_eq_getElem wl]
                rfl
              have s57 := s6.trans s7
              have s47 := s5.trans s57
              have wa : w < ads.length := by omega
              have wp : w < ps.length := by omega
              have hrow : (ps.map List.flatten)[w]? = some ps[w].flatten := by
                rw [List.getElem?_map, List.getElem?_eq_getElem wp]
                rfl
              have hRw := ac w ads[w] ps[w].flatten (List.getElem?_eq_getElem wa) hrow
              have hw1 := hw w
              rw [gw, List.getD_eq_getElem?_getD, hrow] at hw1
              have hw1 : ns[w] ≤ ps[w].flatten.length := hw1
              rw [gw] at nz
              have hS7 := s47 _ _ hS4
              have hR7 := s47 _ _ (s4 _ _ (s3 _ _ hRw))
              have hL7 : LsA H7 L ns := s57 _ _ hL
              have hD7 := s57 _ _ hD
              have kx : ps[w].flatten.length - ns[w] < ps[w].flatten.length := by omega
              have kI : ((ps[w].flatten.length : Nat) : Int) - ((ns[w] : Nat) : Int) = ((ps[w].flatten.length - ns[w] : Nat) : Int) := by omega
              have hx : ps[w].flatten[ps[w].flatten.length - ns[w]]? = some ps[w].flatten[ps[w].flatten.length - ns[w]] := List.getElem?_eq_getElem kx
              generalize hn0 : ps[w].flatten[ps[w].flatten.length - ns[w]] = n0 at hx
              have n0m : n0 ∈ ps[w].flatten := List.mem_of_getElem? hx
              obtain ⟨ln, lm2, nm⟩ := List.mem_flatten.mp n0m
              have n0i := (gs.ln _ (List.getElem_mem wp) ln lm2).ins n0 nm
              have atS : atI (ads.map V.ref) (w : Int) = some (.ref ads[w]) := atI_nat (by rw [List.getElem?_map, List.getElem?_eq_getElem wa]; rfl)
              have atR : atI (ps[w].flatten.map V.int) (((ps[w].flatten.map V.int).length : Nat) - ((ns[w] : Nat) : Int)) = some (.int n0) := by
                rw [List.length_map, kI]
                exact atI_nat (by rw [List.getElem?_map, hx]; rfl)
              refine ⟨_, rfl, .inl ⟨rfl, _, SqL.of hD7⟩, _, rfl, ?_⟩
              refine ⟨_, rfl, _, rfl, S, _, (w : Int), .ref ads[w], rfl, rfl, SqL.of hS7, atS, ?_⟩
              refine ⟨_, rfl, _, rfl, S, _, (w : Int), .ref ads[w], rfl, rfl, SqL.of hS7, atS, ads[w], _, rfl, .inl (SqL.of hR7), ?_⟩
              refine ⟨_, rfl, _, rfl, L, _, (w : Int), .int (ns[w] : Nat), rfl, rfl, SqL.of hL7, atI_nat (by rw [List.getElem?_map, List.getElem?_eq_getElem wl]; rfl), _, _, rfl, rfl, ?_⟩
              refine ⟨ads[w], _, _, .int n0, rfl, rfl, SqL.of hR7, atR, ?_⟩
              refine ⟨(by show 2 ≤ sizeLine; decide), fun tp htp => ?_⟩
              have u6 := same_upd (o := HO.tup [V.int (w : Int), V.int n0]) htp
              have s46 := s47.trans u6
              have tl : ts.length = es.length := hA.1
              refine ⟨D, ts.map V.ref, _, rfl, rfl, u6 _ _ hD7, by rw [List.length_map, tl, sizeLine_eq]; omega, ?_⟩
              have k6 := keepT_upd (o := .lst (ts.map V.ref ++ [.ref tp])) (u6 _ _ hD7) (fun xs z => by cases z)
              have kk := (Same.keepT s57).trans ((Same.keepT u6).trans k6)
              have hL9 : LsA (upd (upd H7 tp (.tup [V.int (w : Int), V.int n0])) D (.lst (ts.map V.ref ++ [.ref tp]))) L ns := by
                show upd _ D _ L = _
                rw [upd_ne nLD]
                exact u6 _ _ hL7
              refine ⟨_, rfl, _, rfl, L, ns, w, rfl, hL9, wl, by omega, by omega, fun H8 p s8 np lp => ?_⟩
              have ss := set_sum1 wl (by rw [gw]; exact nz)
              have ss2 : (lessN ns w).sum + 1 = ns.sum := ss
              refine ⟨p, lessN ns w, ts ++ [tp], es ++ [((w : Int), n0)], r', _, rfl, (same_push nD s46).trans s8, lp, fun z => ?_, s8 _ _ (by rw [List.map_append]; exact upd_same), ?_, fun x hx => ?_, ?_, ?_, fun k => Nat.le_trans less_getD (hw k), by rw [← eow]; exact y3, ?_, by omega⟩
              · rw [z, upd_same] at np
                cases np
              · exact ((hA.same kk).snoc (k6 _ _ upd_same)).same (Same.keepT s8)
              · rcases List.mem_append.mp hx with hx | hx
                · exact hE x hx
                · cases List.mem_singleton.mp hx
                  exact ⟨Int.natCast_nonneg _, by show (w : Int) < 8; omega, n0i.1, n0i.2⟩
              · rw [List.length_append]
                show es.length + 1 + _ = _
                omega
              · unfold lessN
                rw [List.length_set]
                exact hn
              · rw [← hat, atF_one (hpk.trans (pick_no wl y3)) ss2, List.append_assoc]
                have e0 : stepR (ps.map List.flatten) ns w = n0 := by
                  unfold stepR
                  have er : (ps.map List.flatten).getD w [] = ps[w].flatten := by
                    rw [List.getD_eq_getElem?_getD, hrow]
                    rfl
                  rw [er, gw]
                  show ps[w].flatten.getD (ps[w].flatten.length - ns[w]) 0 = n0
                  rw [List.getD_eq_getElem?_getD, hx]
                  rfl
                rw [e0]
                rfl
          · have ps0 : ns.sum = 0 := by
              have : ¬ (0 : Int) < ((ns.sum : Nat) : Int) := fun z => y (decide_eq_true z)
              omega
            refine ⟨_, rfl, D, _, rfl, .inl ⟨SqL.of hD, fun p np => ?_⟩⟩
            refine q2 _ p es (s14.trans (s5.trans (same_upd np))) ⟨ts, upd_same, hA.1, fun i t x h1 h2 => same_upd np _ _ (hA.2 i t x h1 h2)⟩ (by omega) hE ?_
            show es = atP ps r0
            rw [← hat, ps0]
            exact (List.append_nil es).symm
end
end K39

set_option Elab.async false
set_option linter.all false
set_option maxRecDepth 100000
set_option maxHeartbeats 4000000
/-! is_of_score. -/
namespace K39
open PySem L2 L2.EV
abbrev sOf : Stmt := top 40
abbrev NOf : List Str := ["score", "weaving", "writer", "step", "steps", "other"]
/-- what a writer puts -/
def byW (es : List E2) (w : Nat) : List Int := (es.filter fun e => decide (e.1 = (w : Int))).map (·.2)
def restO (es : List E2) : List Lin → Nat → Bool
  | [], _ => true
  | r :: rs, w => decide (byW es w = r) && restO es rs (w + 1)
def ofF (ps : List (List Lin)) (es : List E2) : Bool := (es.all fun e => decide (e.1 < (ps.length : Int))) && restO es (ps.map List.flatten) 0
def dI (l : List Int) : PyData := .list (l.map PyData.int)
theorem eqv_dI : ∀ {a b : List Int}, PyData.eqv (dI a) (dI b) = decide (a = b)
  | [], [] => by simp [dI, PyData.eqv, PyData.eqvAll]
  | [], _ :: _ => by simp [dI, PyData.eqv, PyData.eqvAll]
  | _ :: _, [] => by simp [dI, PyData.eqv, PyData.eqvAll]
  | x :: a, y :: b => by
    have ih : PyData.eqvAll (a.map PyData.int) (b.map PyData.int) = decide (a = b) := by
      have z := eqv_dI (a := a) (b := b)
      unfold dI at z
      rw [PyData.eqv] at z
      exact z
    unfold dI
    rw [List.map_cons, List.map_cons, PyData.eqv, PyData.eqvAll, ih, PyData.eqv]
    by_cases h : x = y
    · subst h
      by_cases k : a = b <;> simp [k]
    · simp [h]
def spOf : Sp := fun vs H Q _ => ∃ (v : V) (a : Addr) (ps : List (List Lin)) (es : List E2), vs = [v, .ref a] ∧ Da H v (dS ps) ∧ ps.length ≤ 8 ∧ szS ps ≤ 40 ∧ WvA H a es ∧ es.length ≤ 200 ∧ ∀ H', Same H H' → Q (.bl (ofF ps es)) H'
structure Of4 (K : PySem.W.Frag) (mg : Str → Option Value) where
  S : St5 K mg
  T : TxtF mg
  en : mg "enumerate" = none
  f : Addr
  d : FuncData
  F : Fun K "is_of_score" "is_of_score" sOf f d
  b : Binds K d ["score", "weaving"] []
  m : mg "is_of_score" = some (.ref f)
section
variable {P : Program} {w : World} {K : PySem.W.Frag} {mg : Str → Option Value} {base : Heap}
theorem scOf : FnScope NOf ["score", "weaving"] (defScope sOf) := ⟨rfl, rfl, rfl, by decide +kernel, rfl, by decide +kernel, by decide +kernel⟩
theorem ok_of (Z : Of4 K mg) : FnOk P w K mg base CX0 2 Z.f Z.d ["score", "weaving"] spOf := by
  have GS : FnOk P w K mg base CX0 1 Z.S.f Z.S.d ["score"] spSteps := ok_steps Z.S
  refine Z.F.ok scOf (fun vs H Q E h => ?_) (fun cdv A outer s H vs Q E hr h => ?_)
  · obtain ⟨v, a, ps, es, rfl, _⟩ := h
    rfl
  · obtain ⟨v, a, ps, es, rfl, da, l8, lz, wa, le, q⟩ := h
    have hu64 : (A.deeper (PyProof.Rows.envOfC "is_of_score" (defScope sOf) s.heap.objs.size Z.f cdv)).units + 64 < cLine := by
      have := hr.un
      omega
    refine ⟨_, pss_cons (ps_if (pt_not (pt_val (pe_callB (cr_all rfl) (by rfl) Z.T.all (by decide +kernel) (pa_cons (pe_lc (own := [("writer", 2), ("step", 3)]) (g := gTup K 2 (gCons (gName 2) (gCons (gName 3) gNil))) (te := tOp (rI0 fun i j => .bl (decide (i < j))) (tVar 2) (tCB (rLn K) (tCons (tVar 0) tNil))) rfl scOf.nd (pi_tup (pv 1))
          (blkOk_by (N := NOf) (sc := defScope sOf) (by decide +kernel))
          (fun _ _ _ _ _ => pg_tup rfl (pgs_cons (pg_name (i := 2) scOf.nd rfl (Or.inl rfl)) (pgs_cons (pg_name (i := 3) scOf.nd rfl (Or.inl rfl)) pgs_nil))) (fun _ _ _ _ _ => pts_nil)
          (fun _ _ _ _ _ => pe_cmpR op_lt (pv 2) (pe_callB call_len_seq (by rfl) Z.T.len PySem.boot_len (pa_cons (pv 0) pa_nil)) (nomark _))) pa_nil))))
        (pss_one (ps_ret pe_bl)) pss_nil)
      (pss_cons (ps_for PassesOwn.never rfl (pi_enum (by rfl) Z.en (pa_cons (pe_call GS hr (by rfl) Z.S.m Z.S.F.kp Z.S.b .nil pass0 (pa_cons (pv 0) pa_nil)) pa_nil)) (pg_tup rfl (pgs_cons (pg_name (i := 2) scOf.nd rfl (Or.inr rfl)) (pgs_cons (pg_name (i := 4) scOf.nd rfl (Or.inl rfl)) pgs_nil)))
        (pss_one (ps_if (pt_cmpR (op_neD hu64) (pe_lc (own := [("step", 3), ("other", 5)]) (g := gTup K 2 (gCons (gName 5) (gCons (gName 3) gNil))) (tt := tTest (tOp rEq (tVar 5) (tVar 2))) (te := tVar 3) rfl scOf.nd (pi_tup (pv 1))
            (blkOk_by (N := NOf) (sc := defScope sOf) (by decide +kernel))
            (fun _ _ _ _ _ => pg_tup rfl (pgs_cons (pg_name (i := 5) scOf.nd rfl (Or.inl rfl)) (pgs_cons (pg_name (i := 3) scOf.nd rfl (Or.inl rfl)) pgs_nil)))
            (fun _ _ _ _ _ => pts_one (pt_cmpR op_eq (pv 5) (pv 2) (nomark _))) (fun _ _ _ _ _ => pv 3)) (pv 4) (nomark _)) (pss_one (ps_ret pe_bl)) pss_nil)))
      (pss_one (ps_ret pe_bl))), ?_⟩
    obtain ⟨tw, hw, wl, wc⟩ := id wa
    have at2 : ∀ {H' : Hp} {i : Nat} {x : V}, Same H H' → (tw.map V.ref)[i]? = some x → ∃ t e, es[i]? = some e ∧ x = .ref t ∧ H' t = some (.tup [.int e.1, .int e.2]) := fun s hx => by
      obtain ⟨t, e, h1, h2, h3, h4⟩ := at_ent wl wc hx
      exact ⟨t, e, h1, h3, s _ _ h4⟩
    obtain ⟨p0, xs0, rfl, e0, ln0⟩ : ∃ p0 xs0, v = .ref p0 ∧ H p0 = some (.tup xs0) ∧ xs0.length = ps.length := by
      cases da with
      | tup e all =>
        have := all.len
        rw [List.length_map] at this
        exact ⟨_, _, rfl, e, this⟩
    refine ⟨_, rfl, a, rfl, ⟨_, SqT.of hw⟩, fun D hD => ?_⟩
    refine lc_it (walk_tup (xs := tw.map V.ref)) (fun i H' => H' D = some (.lst (((es.take i).map fun e => decide (e.1 < (ps.length : Int))).map V.bl)) ∧ Same H H') ⟨upd_same, same_upd hD⟩ (fun i H' _ z => SqT.of (z.2 _ _ hw)) ?_ ?_
    · rintro i x H1z H1 hi ⟨hd, s1⟩ ⟨rfl, hx⟩
      obtain ⟨t, e, he, rfl, ht⟩ := at2 s1 hx
      refine ⟨t, _, rfl, SqT.of ht, rfl, _, _, rfl, _, _, rfl, rfl, ?_⟩
      refine ⟨rfl, _, rfl, _, rfl, p0, _, rfl, .inr (SqT.of (s1 _ _ e0)), _, _, rfl, rfl, _, hd, ?_, ?_, same_push hD s1⟩
      · rw [List.length_map, List.length_map, List.length_take, sizeLine_eq]
        omega
      · rw [take_one he, List.map_append, List.map_append, ln0]
        exact upd_same
    · rintro H1 ⟨hd, s1⟩
      rw [List.length_map, wl, List.take_length] at hd
      refine ⟨D, _, rfl, SqL.of hd, _, rfl, ?_⟩
      have ea : ((es.map fun e => decide (e.1 < (ps.length : Int))).all id) = es.all fun e => decide (e.1 < (ps.length : Int)) := by
        rw [List.all_map]
        rfl
      rw [ea]
      have q1 : ∀ H', Same H H' → Q (.bl ((es.all fun e => decide (e.1 < (ps.length : Int))) && restO es (ps.map List.flatten) 0)) H' := q
      cases eb : es.all fun e => decide (e.1 < (ps.length : Int)) with
      | false =>
        rw [eb] at q1
        exact iteT (q1 H1 s1)
      | true =>
        rw [eb, Bool.true_and] at q1
        refine iteF ?_
        refine ⟨_, rfl, .ref p0, ps, rfl, Da.same s1 _ _ da, l8, lz, fun H2 S s2 nS rwS => ?_⟩
        obtain ⟨ads, hS, al, ac⟩ := id rwS
        have s12 := s1.trans s2
        refine ⟨S, _, rfl, SqL.of hS, for_it (walk_enum (xs := ads.map V.ref)) (fun i σ H' => ∃ (v2 v4 : Option V), σ = [some (.ref p0), some (.ref a), v2, none, v4, none] ∧ Same H2 H' ∧ restO es (ps.map List.flatten) 0 = restO es ((ps.map List.flatten).drop i) i)
          ⟨none, none, rfl, Same.refl H2, rfl⟩ (fun i σ H' _ ⟨_, _, _, z, _⟩ => SqL.of (z _ _ hS)) ?_ ?_⟩
        · rintro i x σ H3 H4 hi ⟨v2, v4, rfl, s3, inv⟩ ⟨T, xi, xo, rfl, nT, rfl, h1, h2⟩
          cases h1
          have h2 : (ads.map V.ref)[i]? = some xo := h2
          rw [List.length_map] at hi
          have ha : ads[i]? = some ads[i] := List.getElem?_eq_getElem hi
          rw [List.getElem?_map, ha] at h2
          obtain rfl : V.ref ads[i] = xo := Option.some.inj h2
          have ir : i < (ps.map List.flatten).length := by omega
          have hr2 : (ps.map List.flatten)[i]? = some (ps.map List.flatten)[i] := List.getElem?_eq_getElem ir
          rw [drop_at hr2] at inv
          have hc := ac i _ _ ha hr2
          generalize (ps.map List.flatten)[i] = row at inv hr2 hc
          have inv : restO es (ps.map List.flatten) 0 = (decide (byW es i = row) && restO es ((ps.map List.flatten).drop (i + 1)) (i + 1)) := inv
          have s4 := s3.trans (same_upd (o := HO.tup [V.int (i : Nat), V.ref ads[i]]) nT)
          have s14 := s12.trans s4
          refine ⟨T, _, rfl, SqT.of upd_same, rfl, _, _, rfl, _, _, rfl, rfl, ?_⟩
          refine ⟨_, rfl, a, rfl, ⟨_, SqT.of (s14 _ _ hw)⟩, fun D2 hD2 => ?_⟩
          refine lc_it (walk_tup (xs := tw.map V.ref)) (fun j H' => H' D2 = some (.lst ((byW (es.take j) i).map V.int)) ∧ Same (upd H3 T (HO.tup [V.int (i : Nat), V.ref ads[i]])) H') ⟨upd_same, same_upd hD2⟩ (fun j H' _ z => SqT.of (z.2 _ _ (s14 _ _ hw))) ?_ ?_
          · rintro j x H5z H5 hj ⟨hd5, s5⟩ ⟨rfl, hx⟩
            obtain ⟨t, e, he, rfl, ht⟩ := at2 (s14.trans s5) hx
            refine ⟨t, _, rfl, SqT.of ht, rfl, _, _, rfl, _, _, rfl, rfl, ?_⟩
            have bl : (byW (es.take j) i).length ≤ 200 := by
              unfold byW
              rw [List.length_map]
              refine Nat.le_trans (List.length_filter_le _ _) ?_
              rw [List.length_take]
              omega
            refine ⟨rfl, _, rfl, _, rfl, rfl, _, rfl, ite2 (fun y => ?_) (fun y => ?_)⟩
            · have y1 : e.1 = (i : Int) := V.int.inj (of_decide_eq_true y)
              refine ⟨_, rfl, _, hd5, by rw [List.length_map, sizeLine_eq]; omega, ?_, same_push hD2 s5⟩
              have : byW (es.take (j + 1)) i = byW (es.take j) i ++ [e.2] := by
                unfold byW
                rw [take_one he, List.filter_append, List.map_append, List.filter_cons, if_pos (decide_eq_true y1)]
                rfl
              rw [this, List.map_append]
              exact upd_same
            · have y1 : ¬ e.1 = (i : Int) := fun z => y (decide_eq_true (congrArg V.int z))
              refine ⟨?_, s5⟩
              have : byW (es.take (j + 1)) i = byW (es.take j) i := by
                unfold byW
                rw [take_one he, List.filter_append, List.map_append, List.filter_cons, if_neg (fun z => y1 (of_decide_eq_true z))]
                simp
              rw [this]
              exact hd5
          · rintro H5 ⟨hd5, s5⟩
            rw [List.length_map, wl, List.take_length] at hd5
            have s15 := s14.trans s5
            have hc5 := s5 _ _ (s4 _ _ hc)
            refine ⟨_, rfl, dI (byW es i), dI row, dp_list hd5, dp_list hc5, shaped_ints _, shaped_ints _, _, rfl, ?_⟩
            rw [eqv_dI]
            by_cases c : byW es i = row
            · refine iteF' (by simp [c]) ?_
              rw [decide_eq_true c, Bool.true_and] at inv
              exact ⟨_, _, rfl, s4.trans s5, inv⟩
            · refine iteT' (by simp [c]) ?_
              rw [decide_eq_false c] at inv
              have z := q1 H5 s15
              rw [inv] at z
              exact z
        · rintro σ H3 ⟨v2, v4, rfl, s3, inv⟩
          have inv : restO es (ps.map List.flatten) 0 = true := by
            rw [inv, List.length_map, al, List.drop_length]
            rfl
          have z := q1 H3 (s12.trans s3)
          rw [inv] at z
          exact z
end
end K39

set_option Elab.async false
set_option linter.all false
set_option maxRecDepth 100000
set_option maxHeartbeats 4000000
/-! weaving_number. -/
namespace K39
open PySem L2 L2.EV
abbrev sNr : Stmt := top 41
abbrev NNr : List Str := ["framing", "score", "weaving", "steps", "sizes", "number", "writer", "step", "lesser"]
def belowW (ns : List Nat) (w : Nat) : Nat := ((List.range w).map fun k => owN ns k).sum
/-- the number of a weaving, step by step -/
def nwF : List Nat → List E2 → Nat → Nat
  | _, [], acc => acc
  | ns, e :: es, acc => nwF (lessN ns e.1.toNat) es (acc + belowW ns e.1.toNat)
def spNr (CB CO : Addr) : Sp := fun vs H Q E => ∃ (f : Addr) (v u : V) (fr : List T3) (last : Nat) (d e : PyData), vs = [.ref f, v, u] ∧ FrA H f fr ∧ Frm fr last ∧ Da H v d ∧ Lm d ∧ Da H u e ∧
  if goodS fr d = true then ∀ ps, d = dS ps → Gs fr ps → match weavR fr e with
    | some r => Eb CB E H r
    | none => ∀ es : List E2, e = .tuple (es.map d2) → (∀ x ∈ es, Ent fr x) → if ofF ps es = true then ∀ H', Same H H' → Q (.int (nwF (ps.map sz1) es 0 : Nat)) H' else Eo CO E H
  else Eo CO E H
structure Nr (K : PySem.W.Frag) (mg : Str → Option Value) where
  A : At4 K mg
  O : Of4 K mg
  f : Addr
  d : FuncData
  F : Fun K "weaving_number" "weaving_number" sNr f d
  b : Binds K d ["framing", "score", "weaving"] []
  m : mg "weaving_number" = some (.ref f)
  ra : mg "range" = none
theorem wv_of {H : Hp} {a : Addr} {es : List E2} (h : Da H (.ref a) (.tuple (es.map d2))) : WvA H a es := by
  cases h with
  | tup e all =>
    have z : ∀ (es : List E2) (xs : List V), DaAll H xs (es.map d2) → ∃ ts : List Addr, xs = ts.map V.ref ∧ ts.length = es.length ∧ ∀ (i : Nat) t e, ts[i]? = some t → es[i]? = some e → A2 H t e := by
      intro es
      induction es with
      | nil =>
        intro xs h
        cases h
        exact ⟨[], rfl, rfl, fun i t e z => by cases z⟩
      | cons e es ih =>
        intro xs h
        cases h with
        | cons h1 h2 =>
          obtain ⟨ts, rfl, l, c⟩ := ih _ h2
          cases h1 with
          | @tup a ys _ ea h3 =>
            match ys, h3 with
            | _, .cons (.int _) (.cons (.int _) .nil) =>
              refine ⟨a :: ts, rfl, by rw [List.length_cons, List.length_cons, l], fun i t x h4 h5 => ?_⟩
              cases i with
              | zero =>
                cases h4
                cases h5
                exact ea
              | succ i => exact c i t x (by simpa using h4) (by simpa using h5)
    obtain ⟨ts, rfl, l, c⟩ := z es _ all
    exact ⟨ts, e, l, c⟩
theorem restO_at {es : List E2} : ∀ {rows : List Lin} {w k : Nat} {r : Lin}, restO es rows w = true → rows[k]? = some r → byW es (w + k) = r
  | [], w, k, r, _, h => by cases h
  | x :: rs, w, 0, r, h, e => by
    have h : (decide (byW es w = x) && restO es rs (w + 1)) = true := h
    rw [Bool.and_eq_true] at h
    cases e
    exact of_decide_eq_true h.1
  | x :: rs, w, k + 1, r, h, e => by
    have h : (decide (byW es w = x) && restO es rs (w + 1)) = true := h
    rw [Bool.and_eq_true] at h
    have := restO_at (k := k) h.2 (by simpa using e)
    rw [← this]
    congr 1
    omega
section
variable {P : Program} {w : World} {K : PySem.W.Frag} {mg : Str → Option Value} {base : Heap}
theorem scNr : FnScope NNr ["framing", "score", "weaving"] (defScope sNr) := ⟨rfl, rfl, rfl, by decide +kernel, rfl, by decide +kernel, by decide +kernel⟩
theorem ok_nr (Z : Nr K mg) : FnOk P w K mg base (L2.CX P w) 7 Z.f Z.d ["framing", "score", "weaving"] (spNr Z.A.C.N.S.L.W.B.C Z.A.C.N.O.C) := by
  have GN : FnOk P w K mg base (L2.CX P w) 6 Z.A.C.N.f Z.A.C.N.d ["framing", "thing"] (spNeedS Z.A.C.N.O.C) := ok_needS Z.A.C.N
  have GV : FnOk P w K mg base (L2.CX P w) 4 Z.A.C.N.S.L.W.Y.fW Z.A.C.N.S.L.W.Y.dW ["framing", "thing"] (spNeedWG Z.A.C.N.S.L.W.B.C) := ok_needWG Z.A.C.N.S.L.W
  have GI : FnOk P w K mg base CX0 2 Z.O.f Z.O.d ["score", "weaving"] spOf := ok_of Z.O
  have GS : FnOk P w K mg base CX0 1 Z.A.C.S.f Z.A.C.S.d ["score"] spSteps := ok_steps Z.A.C.S
  have GP : FnOk P w K mg base CX0 2 Z.A.C.N.O.f Z.A.C.N.O.d ["self", "text"] (spNo K Z.A.C.N.O.C) := ok_OutOfPlace Z.A.C.N.O.F Z.A.C.N.O.T Z.A.C.N.O.I Z.A.C.N.O.FM Z.A.C.N.O.bM Z.A.C.N.O.mM Z.A.C.N.O.TM
  have GW : FnOk P w K mg base CX0 2 Z.A.C.f4 Z.A.C.d4 ["sizes", "writer"] spOW := ok_ow Z.A.C
  have GL : FnOk P w K mg base CX0 1 Z.A.C.f3 Z.A.C.d3 ["sizes", "writer"] spLess := ok_less Z.A.C
  have len := Z.A.C.N.S.L.W.Y.Z.T.len
  refine Z.F.okX scNr (fun vs H Q E h => ?_) (fun cdv A outer s H vs Q E hr h => ?_)
  · obtain ⟨f, v, u, fr, last, d, e, rfl, _⟩ := h
    rfl
  · obtain ⟨f, v, u, fr, last, d, e, rfl, fa, fm, da, lm, de, q⟩ := h
    have r1 := hr.mono (j := 1) (by omega)
    have r2 := hr.mono (j := 2) (by omega)
    have r3 := hr.mono (j := 3) (by omega)
    have r4 := hr.mono (j := 4) (by omega)
    refine ⟨_, pss_cons (ps_expr (pe_call GN hr (by rfl) Z.A.C.N.m Z.A.C.N.F.kp Z.A.C.N.b .nil (passes_call (E := E) (takes_of rfl rfl rfl rfl) fun _ _ _ _ h => h) (pa_cons (pv 0) (pa_cons (pv 1) pa_nil))))
      (pss_cons (ps_expr (pe_call GV r4 (by rfl) Z.A.C.N.S.L.W.Y.mW Z.A.C.N.S.L.W.Y.W.kp Z.A.C.N.S.L.W.Y.bW .nil (passes_call (E := E) (takes_of rfl rfl rfl rfl) fun _ _ _ _ h => h) (pa_cons (pv 0) (pa_cons (pv 2) pa_nil))))
      (pss_cons (ps_if (pt_not (pt_val (pe_call GI r2 (by rfl) Z.O.m Z.O.F.kp Z.O.b .nil pass0 (pa_cons (pv 1) (pa_cons (pv 2) pa_nil)))))
        (pss_one (ps_raise rfl (takes_of rfl rfl rfl rfl) (pmk_own2 rfl (pe_new Z.A.C.N.O.T Z.A.C.N.O.iC Z.A.C.N.O.tI GP r3 (kb_pos Z.A.C.N.O.b rfl) pass0 (by rfl) Z.A.C.N.O.m (pa_cons pe_str pa_nil))))) pss_nil)
      (pss_cons (ps_set (i := 4) scNr.nd rfl (Or.inr rfl) (pe_lc (own := [("steps", 3)]) (g := gName 3) (te := tCB (rLn K) (tCons (tVar 3) tNil)) rfl scNr.nd (pi_list (pe_call GS r1 (by rfl) Z.A.C.S.m Z.A.C.S.F.kp Z.A.C.S.b .nil pass0 (pa_cons (pv 1) pa_nil)))
        (blkOk_by (N := NNr) (sc := defScope sNr) (by decide +kernel))
        (fun _ _ _ _ _ => pg_name (i := 3) scNr.nd rfl (Or.inl rfl)) (fun _ _ _ _ _ => pts_nil) (fun _ _ _ _ _ => pe_callB call_len_seq (by rfl) len PySem.boot_len (pa_cons (pv 3) pa_nil))))
      (pss_cons (ps_set (i := 5) scNr.nd rfl (Or.inl rfl) pe_int)
      (pss_cons (ps_for (passes_of rfl) rfl (pi_tup (pv 2)) (pg_tup rfl (pgs_cons (pg_name (i := 6) scNr.nd rfl (Or.inl rfl)) (pgs_cons (pg_name (i := 7) scNr.nd rfl (Or.inl rfl)) pgs_nil)))
        (pss_cons (ps_aug (i := 5) scNr.nd rfl (Or.inl rfl) (pe_callB (cr_sum rfl) (by rfl) Z.A.su (by decide +kernel) (pa_cons (pe_lc (own := [("lesser", 8)]) (g := gName 8) (te := tCall spOW [] E0 (tCons (tVar 4) (tCons (tVar 8) tNil))) rfl scNr.nd (pi_range1 (by rfl) Z.ra (pa_cons (pv 6) pa_nil))
            (blkOk_by (N := NNr) (sc := defScope sNr) (by decide +kernel))
            (fun _ _ _ _ _ => pg_name (i := 8) scNr.nd rfl (Or.inl rfl)) (fun _ _ _ _ _ => pts_nil) (fun _ _ _ _ _ => pe_call GW r2 (by rfl) Z.A.C.m4 Z.A.C.W.kp Z.A.C.b4 .nil pass0 (pa_cons (pv 4) (pa_cons (pv 8) pa_nil)))) pa_nil)) ip_add)
        (pss_one (ps_set (i := 4) scNr.nd rfl (Or.inr rfl) (pe_call GL r1 (by rfl) Z.A.C.m3 Z.A.C.L.kp Z.A.C.b3 .nil pass0 (pa_cons (pv 4) (pa_cons (pv 6) pa_nil)))))))
      (pss_one (ps_ret (pv 5)))))))), ?_⟩
    refine ⟨_, rfl, _, rfl, f, v, fr, last, d, rfl, fa, fm, da, lm, ?_⟩
    cases c : goodS fr d with
    | false =>
      rw [c] at q
      exact q
    | true =>
      rw [c] at q
      obtain ⟨ps, rfl, gs⟩ := goodS_gs c
      have q := q ps rfl gs
      intro H1 s1
      refine ⟨_, rfl, _, rfl, f, u, fr, last, e, rfl, fa.same s1, fm, Da.same s1 _ _ de, ?_⟩
      cases ew : weavR fr e with
      | some r =>
        rw [ew] at q
        exact q.same s1
      | none =>
        rw [ew] at q
        intro H2 s2
        obtain ⟨es, rfl, l200, ent, go⟩ := weav_none ew
        have q2 := q es rfl ent
        clear q
        have s12 := s1.trans s2
        obtain ⟨a, rfl⟩ : ∃ a, u = .ref a := by
          cases de with
          | tup e all => exact ⟨_, rfl⟩
        have wa := wv_of (Da.same s12 _ _ de)
        refine ⟨_, rfl, _, rfl, v, a, ps, es, rfl, Da.same s12 _ _ da, gs.l8, gs.sz, wa, l200, fun H3 s3 => ⟨_, rfl, ?_⟩⟩
        have s13 := s12.trans s3
        cases eo : ofF ps es with
        | false =>
          rw [eo] at q2
          refine iteT ?_
          refine ⟨rfl, rfl, (by decide), fun a na => ⟨a, .str _, .str _, rfl, upd_same, .str _, rfl, a, Z.A.C.N.O.C, none, rfl, upd_same, fr0_none (same_none s13 na), raises_own Z.A.C.N.O.su Z.A.C.N.O.ty, ?_⟩⟩
          rw [delH_new na]
          exact q2 H3 s13
        | true =>
          rw [eo] at q2
          refine iteF ?_
          have q2 : ∀ H', Same H H' → Q (.int (nwF (ps.map sz1) es 0 : Nat)) H' := q2
          have eo : ((es.all fun e => decide (e.1 < (ps.length : Int))) && restO es (ps.map List.flatten) 0) = true := eo
          rw [Bool.and_eq_true] at eo
          obtain ⟨eo1, eo2⟩ := eo
          have l8 := gs.l8
          have z40 := gs.sz
          refine ⟨_, rfl, v, ps, rfl, Da.same s13 _ _ da, gs.l8, gs.sz, fun H4 S s4 nS rwS => ?_⟩
          obtain ⟨ads, hS, al, ac⟩ := id rwS
          rw [List.length_map] at al
          refine ⟨S, rfl, ⟨_, SqL.of hS⟩, fun L0 hL0 => ?_⟩
          refine lc_it (walk_list (xs := ads.map V.ref)) (fun i H' => LsA H' L0 ((ps.take i).map sz1) ∧ Same H4 H') ⟨upd_same, same_upd hL0⟩ (fun i H' _ z => SqL.of (z.2 _ _ hS)) ?_ ?_
          · rintro i x H5z H5 hi ⟨hd, s5⟩ ⟨rfl, hx⟩
            rw [List.length_map] at hi
            have ha : ads[i]? = some ads[i] := List.getElem?_eq_getElem hi
            rw [List.getElem?_map, ha] at hx
            obtain rfl : V.ref ads[i] = x := Option.some.inj hx
            have ip : ps[i]? = some ps[i] := List.getElem?_eq_getElem (by omega)
            have hc := ac i _ _ ha (by rw [List.getElem?_map, ip]; rfl)
            refine ⟨rfl, _, rfl, ads[i], _, rfl, .inl (SqL.of (s5 _ _ hc)), _, hd, ?_, ?_, same_push hL0 s5⟩
            · rw [List.length_map, List.length_map, List.length_take, sizeLine_eq]
              omega
            · show upd _ L0 _ L0 = _
              rw [upd_same, take_one ip, List.map_append, List.map_append, List.length_map, sz1_flat]
              rfl
          · rintro H5 ⟨hd, s5⟩
            rw [List.length_map, al, List.take_length] at hd
            have s35 := s4.trans s5
            have s15 := s13.trans s35
            obtain ⟨tw, hw, wl, wc⟩ := id (wa.same (s3.trans s35))
            refine ⟨_, rfl, a, rfl, ⟨_, SqT.of hw⟩, for_it (walk_tup (xs := tw.map V.ref)) (fun i σ H' => ∃ (L : Addr) (ns : List Nat) (acc : Nat) (v6 v7 : Option V), σ = [some (.ref f), some v, some (.ref a), none, some (.ref L), some (.int (acc : Int)), v6, v7, none] ∧ Same H5 H' ∧ LsA H' L ns ∧ ns.length = ps.length ∧ ns.sum ≤ 1000 ∧ (∀ k, k < ps.length → ns.getD k 0 = (byW (es.drop i) k).length) ∧ nwF (ps.map sz1) es 0 = nwF ns (es.drop i) acc)
              ⟨L0, ps.map sz1, 0, none, none, rfl, Same.refl H5, hd, List.length_map .., by show szS ps ≤ 1000; omega, fun k hk => ?_, rfl⟩ (fun i σ H' _ ⟨_, _, _, _, _, _, z, _⟩ => SqT.of (z _ _ hw)) ?_ ?_⟩
            · have z := restO_at (k := k) eo2 (show (ps.map List.flatten)[k]? = some ps[k].flatten by rw [List.getElem?_map, List.getElem?_eq_getElem hk]; rfl)
              rw [Nat.zero_add] at z
              rw [List.drop_zero, z, sz1_flat, List.getD_eq_getElem?_getD, List.getElem?_map, List.getElem?_eq_getElem hk]
              rfl
            · rintro i x σ H6 H7 hi ⟨L, ns, acc, v6, v7, rfl, s6, hL, ln, lz, hk, inv⟩ ⟨rfl, hx⟩
              obtain ⟨t, e, he, _, rfl, ht⟩ := at_ent wl wc hx
              obtain ⟨e0, e8, n0, n1⟩ := ent e (List.mem_of_getElem? he)
              have em := List.all_eq_true.mp eo1 e (List.mem_of_getElem? he)
              have em : e.1 < (ps.length : Int) := of_decide_eq_true em
              obtain ⟨k, ek⟩ := Int.eq_ofNat_of_zero_le e0
              have kl : k < ns.length := by omega
              have ekn : e.1.toNat = k := by omega
              rw [drop_at he] at inv hk
              have inv : nwF (ps.map sz1) es 0 = nwF (lessN ns e.1.toNat) (es.drop (i + 1)) (acc + belowW ns e.1.toNat) := inv
              rw [ekn] at inv
              have by1 : ∀ q : Nat, (byW (e :: es.drop (i + 1)) q).length = (byW (es.drop (i + 1)) q).length + (if k = q then 1 else 0) := fun q => by
                unfold byW
                rw [List.filter_cons]
                by_cases c : k = q
                · subst c
                  rw [if_pos (decide_eq_true ek), if_pos rfl]
                  simp
                · rw [if_neg (fun z => c (by have := of_decide_eq_true z; omega)), if_neg c]
                  rfl
              have pos : 1 ≤ ns.getD k 0 := by
                rw [hk k (by omega), by1, if_pos rfl]
                omega
              refine ⟨t, _, rfl, SqT.of (s6 _ _ ht), rfl, _, _, rfl, _, _, rfl, rfl, ?_⟩
              rw [ek]
              refine ⟨_, rfl, _, rfl, k, rfl, by omega, by omega, fun D hD => ?_⟩
              refine lc_it walk_range (fun j H' => LsA H' D ((List.range j).map fun q => owN ns q) ∧ Same H7 H') ⟨upd_same, same_upd hD⟩ (fun _ _ _ _ => trivial) ?_ ?_
              · rintro j y H8z H8 hj ⟨hd8, s8⟩ ⟨rfl, rfl⟩
                have e1 : (0 : Int) + (j : Int) = (j : Int) := Int.zero_add _
                refine ⟨rfl, _, rfl, _, rfl, L, ns, j, by show [_, V.int (0 + (j : Int))] = _; rw [e1], s8 _ _ hL, by omega, by omega, lz, fun H9 s9 => ?_⟩
                refine ⟨_, s9 _ _ hd8, by rw [List.length_map, List.length_map, List.length_range, sizeLine_eq]; omega, ?_, same_push hD (s8.trans s9)⟩
                show upd _ D _ D = _
                rw [upd_same, List.range_succ, List.map_append, List.map_append]
                rfl
              · rintro H8 ⟨hd8, s8⟩
                refine ⟨D, _, rfl, SqL.of (by rw [← vN_int]; exact hd8), acc, _, rfl, rfl, ?_⟩
                rw [sum_int]
                have kj : (List.range ((k : Int)).toNat).map (fun q => owN ns q) = (List.range k).map fun q => owN ns q := rfl
                refine ⟨_, rfl, _, rfl, L, ns, k, rfl, s8 _ _ hL, kl, by omega, pos, fun H9 p s9 np lp => ?_⟩
                refine ⟨p, lessN ns k, acc + belowW ns k, _, _, rfl, s6.trans (s8.trans s9), lp, ?_, Nat.le_trans (less_sum kl) lz, fun q hq => ?_, inv⟩
                · unfold lessN
                  rw [List.length_set]
                  exact ln
                · have h1 := hk q hq
                  rw [by1] at h1
                  unfold lessN
                  rw [List.getD_eq_getElem?_getD, List.getElem?_set]
                  by_cases c : k = q
                  · subst c
                    rw [if_pos rfl] at h1
                    rw [if_pos rfl, if_pos kl]
                    show ns.getD k 0 - 1 = _
                    omega
                  · rw [if_neg c] at h1
                    rw [if_neg c, ← List.getD_eq_getElem?_getD]
                    omega
            · rintro σ H6 ⟨L, ns, acc, v6, v7, rfl, s6, hL, ln, lz, hk, inv⟩
              rw [List.length_map, wl, List.drop_length] at inv
              have inv : nwF (ps.map sz1) es 0 = acc := inv
              refine ⟨_, rfl, ?_⟩
              rw [← inv]
              exact q2 H6 (s15.trans s6)
end
end K39

set_option Elab.async false
set_option linter.all false
set_option maxRecDepth 100000
set_option maxHeartbeats 4000000
/-! All orders, ascending; which one has which number. -/
namespace K39
/-- all orders of so many steps of each writer, ascending -/
def rowsL : Nat → List Nat → List (List Nat)
  | 0, _ => [[]]
  | k + 1, ns => (List.range ns.length).flatMap fun w => if ns.getD w 0 = 0 then [] else (rowsL k (lessN ns w)).map (w :: ·)
theorem less_len {ns : List Nat} {w : Nat} : (lessN ns w).length = ns.length := by
  unfold lessN
  rw [List.length_set]
theorem less_sum1 {ns : List Nat} {w : Nat} (h : w < ns.length) (z : ns.getD w 0 ≠ 0) : (lessN ns w).sum + 1 = ns.sum := set_sum1 h z
theorem pos_lt {ns : List Nat} {w : Nat} (z : ns.getD w 0 ≠ 0) : w < ns.length := by
  rcases Nat.lt_or_ge w ns.length with h | h
  · exact h
  · rw [List.getD_eq_getElem?_getD, List.getElem?_eq_none h] at z
    exact absurd rfl z
def blockL (k : Nat) (ns : List Nat) (w : Nat) : List (List Nat) := if ns.getD w 0 = 0 then [] else (rowsL k (lessN ns w)).map (w :: ·)
theorem rowsL_succ {k : Nat} {ns : List Nat} : rowsL (k + 1) ns = (List.range ns.length).flatMap (blockL k ns) := rfl
theorem ord_zero : ∀ {ns : List Nat}, ns.sum = 0 → ordN ns = 1 := by
  intro ns h
  have e := ord_fct (ns := ns)
  have p : ∀ {ns : List Nat}, ns.sum = 0 → prd ns = 1 := by
    intro ns
    induction ns with
    | nil => exact fun _ => rfl
    | cons n ns ih =>
      intro h
      rw [List.sum_cons] at h
      have h0 : n = 0 := by omega
      subst h0
      show 1 * prd ns = 1
      rw [ih (by omega)]
  rw [p h, h, Nat.mul_one] at e
  exact e
theorem rowsL_len : ∀ {k : Nat} {ns : List Nat}, ns.sum = k → (rowsL k ns).length = ordN ns
  | 0, ns, h => by
    rw [ord_zero h]
    rfl
  | k + 1, ns, h => by
    have bl : ∀ w, (blockL k ns w).length = owN ns w := fun w => by
      unfold blockL owN
      by_cases c : ns.getD w 0 = 0
      · rw [if_pos c, if_pos c]
        rfl
      · rw [if_neg c, if_neg c, List.length_map]
        exact rowsL_len (by have := less_sum1 (pos_lt c) c; omega)
    rw [rowsL_succ, List.length_flatMap, ← all_ow (by omega)]
    unfold fromW
    rw [Nat.sub_zero]
    congr 1
    refine List.map_congr_left fun w _ => ?_
    rw [bl, Nat.zero_add]
theorem block_len {k : Nat} {ns : List Nat} (h : ns.sum = k + 1) (w : Nat) : (blockL k ns w).length = owN ns w := by
  unfold blockL owN
  by_cases c : ns.getD w 0 = 0
  · rw [if_pos c, if_pos c]
    rfl
  · rw [if_neg c, if_neg c, List.length_map]
    exact rowsL_len (by have := less_sum1 (pos_lt c) c; omega)
/-- what a number asks for, from a writer on -/
theorem pick_at {k : Nat} {ns : List Nat} (h : ns.sum = k + 1) : ∀ (m w r : Nat), ns.length - w = m → r < fromW ns w →
    w ≤ (pickW ns m w r).1 ∧ (pickW ns m w r).1 < ns.length ∧ (pickW ns m w r).2 < owN ns (pickW ns m w r).1 ∧ ((List.range' w m).flatMap (blockL k ns))[r]? = (blockL k ns (pickW ns m w r).1)[(pickW ns m w r).2]?
      ∧ belowW ns w + r = belowW ns (pickW ns m w r).1 + (pickW ns m w r).2
  | 0, w, r, hm, hr => by
    rw [from_end (by omega)] at hr
    omega
  | m + 1, w, r, hm, hr => by
    have wl : w < ns.length := by omega
    rw [from_step wl] at hr
    rw [List.range'_succ, List.flatMap_cons]
    show w ≤ (if owN ns w ≤ r then pickW ns m (w + 1) (r - owN ns w) else (w, r)).1 ∧ _
    by_cases c : owN ns w ≤ r
    · have e : pickW ns (m + 1) w r = pickW ns m (w + 1) (r - owN ns w) := if_pos c
      rw [e, if_pos c]
      obtain ⟨a1, a2, a3, a4, a5⟩ := pick_at h m (w + 1) (r - owN ns w) (by omega) (by omega)
      refine ⟨by omega, a2, a3, ?_, ?_⟩
      · rw [List.getElem?_append_right (by rw [block_len h]; exact c), block_len h]
        exact a4
      · rw [← a5]
        have : belowW ns (w + 1) = belowW ns w + owN ns w := by
          unfold belowW
          rw [List.range_succ, List.map_append, List.sum_append]
          simp
        omega
    · have e : pickW ns (m + 1) w r = (w, r) := if_neg c
      rw [e, if_neg c]
      refine ⟨Nat.le_refl _, wl, by show r < owN ns w; omega, ?_, rfl⟩
      rw [List.getElem?_append_left (by rw [block_len h]; omega)]
theorem pick_all {k : Nat} {ns : List Nat} (h : ns.sum = k + 1) {r : Nat} (hr : r < ordN ns) :
    (pickW ns ns.length 0 r).1 < ns.length ∧ ns.getD (pickW ns ns.length 0 r).1 0 ≠ 0 ∧ (pickW ns ns.length 0 r).2 < ordN (lessN ns (pickW ns ns.length 0 r).1) ∧
      (rowsL (k + 1) ns)[r]? = ((rowsL k (lessN ns (pickW ns ns.length 0 r).1))[(pickW ns ns.length 0 r).2]?).map ((pickW ns ns.length 0 r).1 :: ·) ∧ r = belowW ns (pickW ns ns.length 0 r).1 + (pickW ns ns.length 0 r).2 := by
  obtain ⟨a1, a2, a3, a4, a5⟩ := pick_at h ns.length 0 r rfl (by rw [all_ow (by omega)]; exact hr)
  generalize (pickW ns ns.length 0 r).1 = w at *
  generalize (pickW ns ns.length 0 r).2 = s at *
  have nz : ns.getD w 0 ≠ 0 := fun z => by
    unfold owN at a3
    rw [if_pos z] at a3
    omega
  have eo : owN ns w = ordN (lessN ns w) := if_neg nz
  refine ⟨a2, nz, by rw [← eo]; exact a3, ?_, ?_⟩
  · rw [rowsL_succ, List.range_eq_range', a4]
    unfold blockL
    rw [if_neg nz, List.getElem?_map]
  · have : belowW ns 0 = 0 := rfl
    omega
/-- a weaving's number is its number -/
theorem nw_at {rows : List (List Int)} : ∀ {k : Nat} {ns : List Nat} {r acc : Nat}, ns.sum = k → r < ordN ns → nwF ns (atF rows k ns r) acc = acc + r
  | 0, ns, r, acc, h, hr => by
    rw [ord_zero h] at hr
    show acc = acc + r
    omega
  | k + 1, ns, r, acc, h, hr => by
    obtain ⟨a1, a2, a3, a4, a5⟩ := pick_all h hr
    show nwF (lessN ns (((pickW ns ns.length 0 r).1 : Nat) : Int).toNat) (atF rows k (lessN ns (pickW ns ns.length 0 r).1) (pickW ns ns.length 0 r).2) (acc + belowW ns (((pickW ns ns.length 0 r).1 : Nat) : Int).toNat) = acc + r
    rw [Int.toNat_natCast, nw_at (by have := less_sum1 a1 a2; omega) a3]
    omega
/-- the weaving in which the writers come in an order -/
def byF : List (List Int) → List Nat → List E2
  | _, [] => []
  | rows, w :: ws => ((w : Int), (rows.getD w []).headD 0) :: byF (rows.set w (rows.getD w []).tail) ws
/-- what is left of the rows -/
def leftR (rows : List (List Int)) (ns : List Nat) : List (List Int) := (List.range rows.length).map fun w => (rows.getD w []).drop ((rows.getD w []).length - ns.getD w 0)
theorem leftR_at {rows : List (List Int)} {ns : List Nat} {w : Nat} (h : w < rows.length) : (leftR rows ns).getD w [] = (rows.getD w []).drop ((rows.getD w []).length - ns.getD w 0) := by
  unfold leftR
  rw [List.getD_eq_getElem?_getD, List.getElem?_map, List.getElem?_range h]
  rfl
theorem less_at {ns : List Nat} {w k : Nat} : (lessN ns w).getD k 0 = if w = k then ns.getD w 0 - 1 else ns.getD k 0 := by
  unfold lessN
  rw [List.getD_eq_getElem?_getD, List.getElem?_set]
  by_cases c : w = k
  · subst c
    rw [if_pos rfl, if_pos rfl]
    by_cases d : w < ns.length
    · rw [if_pos d]
      rfl
    · rw [if_neg d]
      rw [List.getD_eq_getElem?_getD, List.getElem?_eq_none (by omega)]
      rfl
  · rw [if_neg c, if_neg c, ← List.getD_eq_getElem?_getD]
theorem leftR_less {rows : List (List Int)} {ns : List Nat} {w : Nat} (h : w < rows.length) (z : ns.getD w 0 ≠ 0) (l : ns.getD w 0 ≤ (rows.getD w []).length) :
    leftR rows (lessN ns w) = (leftR rows ns).set w ((leftR rows ns).getD w []).tail := by
  rw [leftR_at h]
  unfold leftR
  refine List.ext_getElem (by simp) fun i h1 h2 => ?_
  rw [List.length_map, List.length_range] at h1
  rw [List.getElem_map, List.getElem_range, List.getElem_set]
  rw [less_at]
  by_cases c : w = i
  · subst c
    rw [if_pos rfl, if_pos rfl, List.tail_drop]
    congr 1
    omega
  · rw [if_neg c, if_neg c, List.getElem_map, List.getElem_range]
theorem by_at {rows : List (List Int)} : ∀ {k : Nat} {ns : List Nat} {r : Nat}, ns.sum = k → ns.length = rows.length → (∀ w, ns.getD w 0 ≤ (rows.getD w []).length) → r < ordN ns →
    ∃ row, (rowsL k ns)[r]? = some row ∧ atF rows k ns r = byF (leftR rows ns) row
  | 0, ns, r, h, hl, hb, hr => by
    rw [ord_zero h] at hr
    have : r = 0 := by omega
    subst this
    exact ⟨[], rfl, rfl⟩
  | k + 1, ns, r, h, hl, hb, hr => by
    obtain ⟨a1, a2, a3, a4, a5⟩ := pick_all h hr
    have e : atF rows (k + 1) ns r = (((pickW ns ns.length 0 r).1 : Int), stepR rows ns (pickW ns ns.length 0 r).1) :: atF rows k (lessN ns (pickW ns ns.length 0 r).1) (pickW ns ns.length 0 r).2 := rfl
    rw [e]
    generalize (pickW ns ns.length 0 r).1 = w at *
    generalize (pickW ns ns.length 0 r).2 = s at *
    obtain ⟨row, h1, h2⟩ := by_at (rows := rows) (k := k) (ns := lessN ns w) (r := s) (by have := less_sum1 a1 a2; omega) (by rw [less_len, hl]) (fun v => Nat.le_trans less_getD (hb v)) a3
    refine ⟨w :: row, by rw [a4, h1]; rfl, ?_⟩
    rw [h2, leftR_less (by omega) a2 (hb w)]
    show (_, _) :: _ = (_, _) :: _
    congr 2
    unfold stepR
    rw [leftR_at (by omega), List.headD_eq_head?_getD, List.head?_drop, List.getD_eq_getElem?_getD]
theorem leftR_full {rows : List (List Int)} : leftR rows (rows.map List.length) = rows := by
  unfold leftR
  refine List.ext_getElem (by simp) fun i h1 h2 => ?_
  rw [List.getElem_map, List.getElem_range]
  have e1 : rows.getD i [] = rows[i] := by
    rw [List.getD_eq_getElem?_getD, List.getElem?_eq_getElem h2]
    rfl
  have e2 : (rows.map List.length).getD i 0 = rows[i].length := by
    rw [List.getD_eq_getElem?_getD, List.getElem?_map, List.getElem?_eq_getElem h2]
    rfl
  rw [e1, e2, Nat.sub_self, List.drop_zero]
end K39

set_option Elab.async false
set_option linter.all false
set_option maxRecDepth 100000
set_option maxHeartbeats 4000000
/-! text_put, line_places. -/
namespace K39
open PySem L2 L2.EV
abbrev sPlaces : Stmt := top 25
/-- an entry that ends a line -/
def ends (fr : List T3) (e : E2) : Bool := decide ((stt fr e.2).2.2 = 0)
def cuts (fr : List T3) (es : List E2) (i : Nat) : List Int := ((List.range i).filter fun k => ends fr (es.getD k (0, 0))).map fun k : Nat => (k : Int) + 1
def lp (fr : List T3) (es : List E2) : List Int := 0 :: cuts fr es es.length
def spPlaces : Sp := fun vs H Q _ => ∃ (f w : Addr) (fr : List T3) (last : Nat) (es : List E2), vs = [.ref f, .ref w] ∧ FrA H f fr ∧ Frm fr last ∧ WvA H w es ∧ (∀ e ∈ es, Ent fr e) ∧ es.length ≤ 60 ∧ ∀ H' p, Same H H' → H p = none → H' p = some (.lst ((lp fr es).map V.int)) → Q (.ref p) H'
structure Ps (K : PySem.W.Frag) (mg : Str → Option Value) where
  Y : Ws K mg
  fL : Addr
  dL : FuncData
  L : Fun K "line_places" "line_places" sPlaces fL dL
  bL : Binds K dL ["framing", "entries"] []
  mL : mg "line_places" = some (.ref fL)
section
variable {P : Program} {w : World} {K : PySem.W.Frag} {mg : Str → Option Value} {base : Heap}
theorem scPlaces : FnScope ["framing", "entries", "at", "writer", "step"] ["framing", "entries"] (defScope sPlaces) := ⟨rfl, rfl, rfl, by decide +kernel, rfl, by decide +kernel, by decide +kernel⟩
theorem ok_places (U : Ps K mg) : FnOk P w K mg base CX0 1 U.fL U.dL ["framing", "entries"] spPlaces := by
  refine U.L.ok scPlaces (fun vs H Q E h => ?_) (fun cdv A outer s H vs Q E hr h => ?_)
  · obtain ⟨f, t, fr, l, e, rfl, _⟩ := h
    rfl
  · obtain ⟨f, wv, fr, last, es, rfl, fa, fm, wa, ent, l60, q⟩ := h
    refine ⟨_, pss_one (ps_ret (pe_op op_cat (pe_lst (pa_cons pe_int pa_nil)) (pe_lc (own := [("at", 2), ("writer", 3), ("step", 4)]) (g := gTup K 2 (gCons (gName 2) (gCons (gTup K 2 (gCons (gName 3) (gCons (gName 4) gNil))) gNil))) (tt := tTest (tOp rEq (tOp (rIxT K) (tOp (rIxT K) (tVar 0) (tVar 4)) (tC (.int 2))) (tC (.int 0)))) (te := tOp (rI0 fun i j => .int (i + j)) (tVar 2) (tC (.int 1))) rfl scPlaces.nd (pi_enumT (by rfl) U.Y.Z.en (pa_cons (pv 1) pa_nil))
      (blkOk_by (N := ["framing", "entries", "at", "writer", "step"]) (sc := defScope sPlaces) (by decide +kernel))
      (fun _ _ _ _ _ => pg_tup rfl (pgs_cons (pg_name (i := 2) scPlaces.nd rfl (Or.inl rfl)) (pgs_cons (pg_tup rfl (pgs_cons (pg_name (i := 3) scPlaces.nd rfl (Or.inl rfl)) (pgs_cons (pg_name (i := 4) scPlaces.nd rfl (Or.inl rfl)) pgs_nil))) pgs_nil)))
      (fun _ _ _ _ _ => pts_one (pt_cmpR op_eq (pe_ix ix_tup (pe_ix ix_tup (pv 0) (pv 4) (fun _ _ => rfl)) pe_int (fun _ _ => rfl)) pe_int (nomark _)))
      (fun _ _ _ _ _ => pe_op op_add (pv 2) pe_int)))), ?_⟩
    obtain ⟨tw, hw, wl, wt⟩ := id wa
    refine ⟨(by show 1 ≤ sizeLine; decide), fun z hz => ?_⟩
    have sz := same_upd (o := HO.lst [V.int 0]) hz
    refine ⟨_, rfl, wv, _, rfl, SqT.of (sz _ _ hw), fun D hD => ?_⟩
    have cl : ∀ i, i ≤ es.length → (cuts fr es i).length ≤ 60 := fun i hi => by
      have := List.length_filter_le (fun k => ends fr (es.getD k (0, 0))) (List.range i)
      unfold cuts
      rw [List.length_map]
      rw [List.length_range] at this
      omega
    refine lc_it (walk_enumT (xs := tw.map V.ref)) (fun i H' => H' D = some (.lst ((cuts fr es i).map V.int)) ∧ ∀ b o, upd H z (.lst [V.int 0]) b = some o → H' b = some o) ⟨upd_same, fun b o e => same_upd hD b o e⟩ (fun i H' _ y => SqT.of (y.2 _ _ (sz _ _ hw))) ?_ ?_
    · rintro i x H1 H2 hi ⟨hl, kp⟩ ⟨T, xi, xo, rfl, nT, rfl, h1, h2⟩
      cases h1
      obtain ⟨t, e, he, _, rfl, e4⟩ := at_ent (i := i) wl wt h2
      have hm := List.mem_of_getElem? he
      have uT := same_upd (o := HO.tup [V.int (i : Nat), V.ref t]) nT
      have s3 : Same H _ := (sz.trans kp).trans uT
      have hl3 := uT _ _ hl
      obtain ⟨e0, e1, n0, n1⟩ := ent e hm
      obtain ⟨ts, t2, hf, ha, h3, _⟩ := stt_at (fa.same s3) n0 n1
      have ie : i < es.length := (List.getElem?_eq_some_iff.mp he).1
      have eg : es.getD i (0, 0) = e := by rw [List.getD_eq_getElem?_getD, he]; rfl
      have cs : cuts fr es (i + 1) = cuts fr es i ++ (if ends fr e = true then [(i : Int) + 1] else []) := by
        unfold cuts
        rw [List.range_succ, List.filter_append, List.map_append, List.filter_cons, eg]
        split <;> rfl
      refine ⟨T, _, rfl, SqT.of upd_same, rfl, _, _, rfl, _, _, rfl, ⟨t, _, rfl, SqT.of (s3 _ _ e4), rfl, _, _, rfl, _, _, rfl, rfl, rfl, rfl, ?_⟩⟩
      refine ⟨_, rfl, _, rfl, f, _, e.2, .ref t2, rfl, rfl, SqT.of hf, ha, t2, _, 2, _, rfl, rfl, SqT.of h3, atI_nat (j := 2) rfl, rfl, _, rfl, ?_⟩
      refine ite2 (fun y => ?_) (fun y => ?_)
      · have y1 : (stt fr e.2).2.2 = 0 := V.int.inj (of_decide_eq_true y)
        have en : ends fr e = true := decide_eq_true y1
        refine ⟨_, rfl, _, _, rfl, rfl, _, hl3, ?_, ?_, fun b o q => ?_⟩
        · have := cl i (by omega)
          rw [List.length_map, sizeLine_eq]
          omega
        · rw [cs, if_pos en, List.map_append]
          exact upd_same
        · rw [upd_ne (ne_of_none q hD)]
          exact uT _ _ (kp b o q)
      · have en : ¬ ends fr e = true := fun q => y (decide_eq_true (congrArg V.int (of_decide_eq_true q)))
        refine ⟨?_, fun b o q => uT _ _ (kp b o q)⟩
        rw [cs, if_neg en, List.append_nil]
        exact hl3
    · rintro H1 ⟨hl, kp⟩
      rw [List.length_map, wl] at hl
      have := cl es.length (Nat.le_refl _)
      have z2 := kp _ _ (upd_same (a := z))
      refine ⟨z, D, _, _, rfl, rfl, z2, hl, ?_, fun p hp => ?_⟩
      · rw [List.length_map, sizeLine_eq]
        simp only [List.length_cons, List.length_nil]
        omega
      · refine q _ p (fun b o e => same_upd hp _ _ (kp _ _ (sz _ _ e))) ((sz.trans kp).free hp) ?_
        exact upd_same
end
end K39

set_option Elab.async false
set_option linter.all false
set_option maxRecDepth 100000
set_option maxHeartbeats 4000000
/-! file_of, read_lines, rest_of, stands. -/
namespace K39
open PySem L2 L2.EV
abbrev sRead : Stmt := top 26
def cutsN (fr : List T3) (es : List E2) (i : Nat) : List Nat := ((List.range i).filter fun k => ends fr (es.getD k (0, 0))).map fun k : Nat => k + 1
def lpN (fr : List T3) (es : List E2) : List Nat := 0 :: cutsN fr es es.length
theorem lp_nat {fr : List T3} {es : List E2} : lp fr es = (lpN fr es).map fun k : Nat => (k : Int) := by
  unfold lp lpN cuts cutsN
  rw [List.map_cons, List.map_map]
  congr 1
def cutE {α : Type} (es : List α) (lo hi : Nat) : List α := (es.drop (min lo es.length)).take (min hi es.length - min lo es.length)
def linesE (fr : List T3) (es : List E2) : List (List E2) := ((lpN fr es).zip (lpN fr es).tail).map fun q => cutE es q.1 q.2
def restE (fr : List T3) (es : List E2) : List E2 := es.drop (min ((lpN fr es).getLastD 0) es.length)
/-- a tuple of lines -/
def LnA (H : Hp) (p : Addr) (ls : List (List E2)) : Prop := ∃ qs : List Addr, H p = some (.tup (qs.map V.ref)) ∧ qs.length = ls.length ∧ ∀ (i : Nat) q l, qs[i]? = some q → ls[i]? = some l → WvA H q l
theorem cutV_map {ts : List Addr} {lo hi : Nat} : cutV (ts.map V.ref) (some (lo : Int)) (some (hi : Int)) = (cutE ts lo hi).map V.ref := by
  unfold cutV cutE
  rw [HT.sIx_nat, HT.sIx_nat, List.length_map, List.map_take, List.map_drop]
theorem cutV_rest {ts : List Addr} {lo : Nat} : cutV (ts.map V.ref) (some (lo : Int)) none = (ts.drop (min lo ts.length)).map V.ref := by
  unfold cutV
  rw [HT.sIx_nat, HT.sIx_none, List.length_map, List.map_drop]
  exact List.take_of_length_le (by simp)
theorem wv_part {H H' : Hp} {tw : List Addr} {es : List E2} {p : Addr} {a b : Nat} (hl : tw.length = es.length) (ht : ∀ (i : Nat) t e, tw[i]? = some t → es[i]? = some e → A2 H t e) (s : Same H H') (hp : H' p = some (.tup (((tw.drop a).take b).map V.ref))) :
    WvA H' p ((es.drop a).take b) := by
  refine ⟨_, hp, by simp [hl], fun i t e h1 h2 => s _ _ ?_⟩
  rw [List.getElem?_take] at h1 h2
  by_cases hi : i < b
  · rw [if_pos hi, List.getElem?_drop] at h1 h2
    exact ht _ t e h1 h2
  · rw [if_neg hi] at h1
    cases h1
theorem int_at {l : List Nat} {i : Nat} {x : V} (h : ((l.map (fun k : Nat => (k : Int))).map V.int)[i]? = some x) : ∃ k : Nat, l[i]? = some k ∧ x = .int (k : Int) := by
  rw [List.getElem?_map, List.getElem?_map] at h
  cases e : l[i]? with
  | none =>
    rw [e] at h
    cases h
  | some k =>
    rw [e] at h
    exact ⟨k, rfl, (Option.some.inj h).symm⟩
theorem cut_tail {l : List Nat} : cutV ((l.map (fun k : Nat => (k : Int))).map V.int) (some 1) none = ((l.tail).map (fun k : Nat => (k : Int))).map V.int := by
  rw [cut_one]
  cases l <;> rfl
theorem lpN_len {fr : List T3} {es : List E2} (h : es.length ≤ 60) : (lpN fr es).length ≤ 61 := by
  have := List.length_filter_le (fun k => ends fr (es.getD k (0, 0))) (List.range es.length)
  unfold lpN cutsN
  rw [List.length_cons, List.length_map]
  rw [List.length_range] at this
  omega
def spRead : Sp := fun vs H Q _ => ∃ (f w : Addr) (fr : List T3) (last : Nat) (es : List E2), vs = [.ref f, .ref w] ∧ FrA H f fr ∧ Frm fr last ∧ WvA H w es ∧ Wv fr es ∧ ∀ H' p, Same H H' → LnA H' p (linesE fr es) → Q (.ref p) H'
structure Qs (K : PySem.W.Frag) (mg : Str → Option Value) where
  U : Ps K mg
  fR : Addr
  dR : FuncData
  R : Fun K "read_lines" "read_lines" sRead fR dR
  bR : Binds K dR ["framing", "weaving"] []
  mR : mg "read_lines" = some (.ref fR)
  zip : mg "zip" = none
section
variable {P : Program} {w : World} {K : PySem.W.Frag} {mg : Str → Option Value} {base : Heap}
theorem scRead : FnScope ["framing", "weaving", "places", "low", "high"] ["framing", "weaving"] (defScope sRead) := ⟨rfl, rfl, rfl, by decide +kernel, rfl, by decide +kernel, by decide +kernel⟩
theorem ok_read (G : Qs K mg) (ht : mg "tuple" = none) : FnOk P w K mg base CX0 5 G.fR G.dR ["framing", "weaving"] spRead := by
  have GW : FnOk P w K mg base CX0 4 G.U.Y.fW G.U.Y.dW ["framing", "thing"] spNeedW := ok_needW G.U.Y
  have GL : FnOk P w K mg base CX0 1 G.U.fL G.U.dL ["framing", "entries"] spPlaces := ok_places G.U
  refine G.R.ok scRead (fun vs H Q E h => ?_) (fun cdv A outer s H vs Q E hr h => ?_)
  · obtain ⟨f, t, fr, l, e, rfl, _⟩ := h
    rfl
  · obtain ⟨f, wv, fr, last, es, rfl, fa, fm, wa, wo, q⟩ := h
    refine ⟨_, pss_cons (ps_expr (pe_call GW hr (by rfl) G.U.Y.mW G.U.Y.W.kp G.U.Y.bW .nil pass0 (pa_cons (pv 0) (pa_cons (pv 1) pa_nil))))
      (pss_cons (ps_set (i := 2) scRead.nd rfl (Or.inl rfl) (pe_call GL (hr.mono (by omega)) (by rfl) G.U.mL G.U.L.kp G.U.bL .nil pass0 (pa_cons (pv 0) (pa_cons (pv 1) pa_nil))))
      (pss_one (ps_ret (pe_callTy call_tuple_of (by rfl) ht (by decide +kernel) (pa_cons (pe_lc (own := [("low", 3), ("high", 4)]) (g := gTup K 2 (gCons (gName 3) (gCons (gName 4) gNil))) (te := tSl (rSlW K) (tVar 1) (tPart (tVar 3)) (tPart (tVar 4))) rfl scRead.nd
        (pi_zip (by rfl) G.zip (pa_cons (pv 2) (pa_cons (pe_slice sl_list (pv 2) (po_some pe_int) po_none) pa_nil)))
        (blkOk_by (N := ["framing", "weaving", "places", "low", "high"]) (sc := defScope sRead) (by decide +kernel))
        (fun _ _ _ _ _ => pg_tup rfl (pgs_cons (pg_name (i := 3) scRead.nd rfl (Or.inl rfl)) (pgs_cons (pg_name (i := 4) scRead.nd rfl (Or.inl rfl)) pgs_nil))) (fun _ _ _ _ _ => pts_nil)
        (fun _ _ _ _ _ => pe_slice sl_tupS (pv 1) (po_some (pv 3)) (po_some (pv 4)))) pa_nil))))), ?_⟩
    obtain ⟨tw, hw, wl, wt⟩ := id wa
    have l60 := wo.l
    refine ⟨_, rfl, _, rfl, f, wv, fr, last, es, rfl, fa, fm, wa, wo, fun H1 s1 => ?_⟩
    refine ⟨_, rfl, _, rfl, f, wv, fr, last, es, rfl, fa.same s1, fm, wa.same s1, wo.ent, wo.l, fun H2 p s2 np ep => ?_⟩
    rw [lp_nat] at ep
    refine ⟨_, rfl, _, rfl, 1, rfl, p, _, rfl, SqL.of ep, fun p2 hp2 => ⟨p, p2, _, _, rfl, SqL.of (same_upd hp2 _ _ ep), SqL.of upd_same, fun D hD => ?_⟩⟩
    have u2 := same_upd (o := HO.lst (cutV ((List.map (fun k : Nat => (k : Int)) (lpN fr es)).map V.int) (some 1) none)) hp2
    rw [cut_tail] at hD u2 ⊢
    have sA := (s1.trans s2).trans u2
    have el : (linesE fr es).length = min (((lpN fr es).map (fun k : Nat => (k : Int))).map V.int).length ((((lpN fr es).tail).map (fun k : Nat => (k : Int))).map V.int).length := by
      unfold linesE
      simp
    refine lc_it (walk_zip el) (fun i H' => (∃ qs : List Addr, H' D = some (.lst (qs.map V.ref)) ∧ qs.length = i ∧ ∀ (k : Nat) q l, qs[k]? = some q → (linesE fr es)[k]? = some l → WvA H' q l) ∧ ∀ b o, upd H2 p2 (.lst ((((lpN fr es).tail).map (fun k : Nat => (k : Int))).map V.int)) b = some o → H' b = some o)
      ⟨⟨[], upd_same, rfl, fun k q l z => by cases z⟩, fun b o z => same_upd hD b o z⟩ (fun i H' _ z => ⟨SqL.of (z.2 _ _ (u2 _ _ ep)), SqL.of (z.2 _ _ upd_same)⟩) ?_ ?_
    · rintro i x H3 H4 hi ⟨⟨qs, hl, ql, hq⟩, kp⟩ ⟨T, x1, x2, rfl, nT, rfl, h1, h2⟩
      obtain ⟨lo, hlo, rfl⟩ := int_at h1
      obtain ⟨hi2, hhi, rfl⟩ := int_at h2
      have uT := same_upd (o := HO.tup [V.int (lo : Int), V.int (hi2 : Int)]) nT
      have s3 : Same H _ := (sA.trans kp).trans uT
      refine ⟨T, _, rfl, SqT.of upd_same, rfl, _, _, rfl, _, _, rfl, rfl, rfl, ?_⟩
      refine ⟨_, rfl, _, rfl, _, rfl, _, rfl, _, rfl, wv, _, rfl, s3 _ _ hw, fun nq H5 s5 e5 => ?_⟩
      rw [cutV_map] at e5
      have le : (linesE fr es)[i]? = some (cutE es lo hi2) := by
        unfold linesE
        rw [List.getElem?_map, List.getElem?_zip_eq_some.mpr (show (lpN fr es)[i]? = some ((lo, hi2) : Nat × Nat).1 ∧ (lpN fr es).tail[i]? = some ((lo, hi2) : Nat × Nat).2 from ⟨hlo, hhi⟩)]
        rfl
      have d5 := s5 _ _ (uT _ _ hl)
      refine ⟨_, d5, ?_, ⟨⟨qs ++ [nq], ?_, by rw [List.length_append, ql]; rfl, fun k q l hk hl2 => ?_⟩, fun b o z => ?_⟩⟩
      · have : (lpN fr es).length ≤ 61 := lpN_len wo.l
        rw [el] at hi
        simp only [List.length_map] at hi
        rw [List.length_map, ql, sizeLine_eq]
        omega
      · rw [List.map_append]
        exact upd_same
      · have sD : ∀ {q : Addr} {l : List E2}, WvA H5 q l → WvA (upd H5 D (.lst (qs.map V.ref ++ [.ref nq]))) q l := fun {q l} ⟨ts, e, a, b⟩ => by
          have kt := keepT_upd (o := .lst (qs.map V.ref ++ [.ref nq])) d5 (fun xs z => by cases z)
          exact ⟨ts, kt _ _ e, a, fun i t e h1 h2 => kt _ _ (b i t e h1 h2)⟩
        refine sD ?_
        by_cases hk2 : k < i
        · rw [List.getElem?_append_left (by omega)] at hk
          exact (hq k q l hk hl2).same (uT.trans s5)
        · have hk3 : k = i := by
            have := (List.getElem?_eq_some_iff.mp hk).1
            rw [List.length_append, ql] at this
            simp only [List.length_cons, List.length_nil] at this
            omega
          subst hk3
          rw [List.getElem?_append_right (by omega), ql, Nat.sub_self] at hk
          have e6 : nq = q := Option.some.inj hk
          subst e6
          rw [le] at hl2
          have e7 := Option.some.inj hl2
          subst e7
          unfold cutE
          refine wv_part wl wt (s3.trans s5) ?_
          unfold cutE at e5
          rw [wl] at e5
          exact e5
      · rw [upd_ne (ne_of_none z hD)]
        exact s5 _ _ (uT _ _ (kp b o z))
    · rintro H3 ⟨⟨qs, hl, ql, hq⟩, kp⟩
      refine ⟨D, _, rfl, .inl ⟨SqL.of hl, fun p3 hp3 => ?_⟩⟩
      have u3 := same_upd (o := HO.tup (qs.map V.ref)) hp3
      exact q _ p3 ((sA.trans kp).trans u3) ⟨qs, upd_same, ql, fun k q l h1 h2 => (hq k q l h1 h2).same u3⟩
end
end K39

set_option Elab.async false
set_option linter.all false
set_option maxRecDepth 100000
set_option maxHeartbeats 4000000
/-! is_read_line, is_whole_line. -/
namespace K39
open PySem L2 L2.EV
abbrev sIsRead : Stmt := top 27
abbrev sIsWhole : Stmt := top 28
theorem tup_inj {es : List E2} {ds : List PyData} {fr : List T3} : ∀ {pl : List (Option Int)} {i : Nat}, wrongF fr ds pl i = none → ∀ d ∈ ds, ∃ e : E2, entD fr.length 8 d = some e := by
  induction ds with
  | nil => exact fun _ d h => by cases h
  | cons d ds ih =>
    intro pl i h x hx
    have h : (match entD fr.length 8 d with
      | none => some i
      | some e => match pl.getD e.1.toNat none with
        | none => wrongF fr ds (pl.set e.1.toNat (some (stt fr e.2).2.2)) (i + 1)
        | some x => if x = (stt fr e.2).1 then wrongF fr ds (pl.set e.1.toNat (some (stt fr e.2).2.2)) (i + 1) else some i) = none := h
    cases ed : entD fr.length 8 d with
    | none =>
      rw [ed] at h
      cases h
    | some e =>
      rw [ed] at h
      rcases List.mem_cons.mp hx with rfl | hx
      · exact ⟨e, ed⟩
      have h : (match pl.getD e.1.toNat none with
        | none => wrongF fr ds (pl.set e.1.toNat (some (stt fr e.2).2.2)) (i + 1)
        | some x => if x = (stt fr e.2).1 then wrongF fr ds (pl.set e.1.toNat (some (stt fr e.2).2.2)) (i + 1) else some i) = none := h
      cases ep : pl.getD e.1.toNat none with
      | none =>
        rw [ep] at h
        exact ih h x hx
      | some y =>
        rw [ep] at h
        have h : (if y = (stt fr e.2).1 then wrongF fr ds (pl.set e.1.toNat (some (stt fr e.2).2.2)) (i + 1) else some i) = none := h
        by_cases c : y = (stt fr e.2).1
        · rw [if_pos c] at h
          exact ih h x hx
        · rw [if_neg c] at h
          cases h
/-- the entries of data -/
def esOf (fr : List T3) (ds : List PyData) : List E2 := ds.filterMap (entD fr.length 8)
theorem esOf_all {fr : List T3} : ∀ {ds : List PyData}, (∀ d ∈ ds, ∃ e : E2, entD fr.length 8 d = some e) → ds = (esOf fr ds).map d2 ∧ ∀ e ∈ esOf fr ds, Ent fr e
  | [], _ => ⟨rfl, fun e h => by cases h⟩
  | d :: ds, h => by
    obtain ⟨e, he⟩ := h d (List.mem_cons_self ..)
    obtain ⟨h1, h2⟩ := esOf_all (ds := ds) fun x hx => h x (List.mem_cons_of_mem _ hx)
    obtain ⟨rfl, e0, e1, n0, n1⟩ := entD_some he
    have z : esOf fr (.tuple [.int e.1, .int e.2] :: ds) = e :: esOf fr ds := by
      unfold esOf
      rw [List.filterMap_cons, he]
    rw [z]
    refine ⟨by rw [List.map_cons, ← h1]; rfl, fun x hx => ?_⟩
    rcases List.mem_cons.mp hx with rfl | hx
    · exact ⟨e0, e1, n0, n1⟩
    · exact h2 x hx
/-- the entries of a read line, if it is one -/
def lineOf (fr : List T3) : PyData → Option (List E2)
  | .tuple ds => if wrongF fr ds (all8 none) 0 = none ∧ lp fr (esOf fr ds) = [0, (ds.length : Int)] then some (esOf fr ds) else none
  | _ => none
def wholeE (fr : List T3) (es : List E2) : Bool := decide ((stt fr (es.headD (0, 0)).2).1 = 0) && es.all fun e => decide (e.1 = (es.headD (0, 0)).1)
theorem wv_ofR {H : Hp} {w : Addr} {ds : List PyData} {es : List E2} (h : Da H (.ref w) (.tuple ds)) (e : ds = es.map d2) : WvA H w es := by
  subst e
  cases h with
  | @tup _ xs _ e all =>
    have key : ∀ {es : List E2} {xs : List V}, DaAll H xs (es.map d2) → ∃ ts : List Addr, xs = ts.map V.ref ∧ ts.length = es.length ∧ ∀ (i : Nat) t e, ts[i]? = some t → es[i]? = some e → A2 H t e := by
      intro es
      induction es with
      | nil =>
        intro xs h
        cases h
        exact ⟨[], rfl, rfl, fun i t e h => by cases h⟩
      | cons x es ih =>
        intro xs h
        cases h with
        | cons h1 h2 =>
          obtain ⟨ts, rfl, l, c⟩ := ih h2
          cases h1 with
          | @tup t _ _ e1 a1 =>
            match a1 with
            | .cons (.int _) (.cons (.int _) .nil) =>
              refine ⟨t :: ts, rfl, by rw [List.length_cons, List.length_cons, l], fun i t' e' h3 h4 => ?_⟩
              cases i with
              | zero =>
                cases h3
                cases h4
                exact e1
              | succ i => exact c i t' e' (by simpa using h3) (by simpa using h4)
    obtain ⟨ts, rfl, l, c⟩ := key all
    exact ⟨ts, e, l, c⟩
theorem eqv_intsd : ∀ a b : List Int, PyData.eqvAll (a.map PyData.int) (b.map PyData.int) = decide (a = b)
  | [], [] => by simp [PyData.eqvAll]
  | [], _ :: _ => by simp [PyData.eqvAll]
  | _ :: _, [] => by simp [PyData.eqvAll]
  | x :: a, y :: b => by
    simp only [List.map_cons, PyData.eqvAll, eqv_intsd a b, PyData.eqv]
    by_cases h : x = y
    · subst h
      simp
    · simp [h]
def spIsRead : Sp := fun vs H Q _ => ∃ (f : Addr) (v : V) (fr : List T3) (last : Nat) (d : PyData), vs = [.ref f, v] ∧ FrA H f fr ∧ Frm fr last ∧ Da H v d ∧ szD d ≤ 60 ∧ ∀ H', Same H H' → Q (.bl (lineOf fr d).isSome) H'
def spIsWhole (C : Addr) : Sp := fun vs H Q E => ∃ (f : Addr) (v : V) (fr : List T3) (last : Nat) (d : PyData), vs = [.ref f, v] ∧ FrA H f fr ∧ Frm fr last ∧ Da H v d ∧ szD d ≤ 60 ∧
  ∀ H', Same H H' → match lineOf fr d with
    | none => E (.ref C) none H'
    | some es => Q (.bl (wholeE fr es)) H'
structure Hs (K : PySem.W.Frag) (mg : Str → Option Value) where
  G : Qs K mg
  O : Oop K mg
  f1 : Addr
  d1 : FuncData
  f2 : Addr
  d2 : FuncData
  R : Fun K "is_read_line" "is_read_line" sIsRead f1 d1
  W : Fun K "is_whole_line" "is_whole_line" sIsWhole f2 d2
  bR : Binds K d1 ["framing", "thing"] []
  bW : Binds K d2 ["framing", "entries"] []
  mR : mg "is_read_line" = some (.ref f1)
  mW : mg "is_whole_line" = some (.ref f2)
section
variable {P : Program} {w : World} {K : PySem.W.Frag} {mg : Str → Option Value} {base : Heap}
theorem scIsRead : FnScope ["framing", "thing"] ["framing", "thing"] (defScope sIsRead) := ⟨rfl, rfl, rfl, by decide +kernel, rfl, by decide +kernel, by decide +kernel⟩
theorem ok_isRead (S : Hs K mg) : FnOk P w K mg base CX0 4 S.f1 S.d1 ["framing", "thing"] spIsRead := by
  have GR : FnOk P w K mg base CX0 3 S.G.U.Y.fR S.G.U.Y.dR ["framing", "things", "begin"] spWrongD := ok_wrongD S.G.U.Y
  have GL : FnOk P w K mg base CX0 1 S.G.U.fL S.G.U.dL ["framing", "entries"] spPlaces := ok_places S.G.U
  refine S.R.ok scIsRead (fun vs H Q E h => ?_) (fun cdv A outer s H vs Q E hr h => ?_)
  · obtain ⟨f, v, fr, last, d, rfl, _⟩ := h
    rfl
  · obtain ⟨f, v, fr, last, d, rfl, fa, fm, da, l60, q⟩ := h
    have hu2 := hr.units
    refine ⟨_, pss_cons (ps_if (pw_or (pt_not (pt_val (pe_callB call_isi (by rfl) S.G.U.Y.Z.T.isi PyProof.Rows.boot_isinstance (pa_cons (pv 1) (pa_cons (pe_bltn (v := .ty "tuple") (by rfl) S.G.U.Y.Z.T.tuple (by decide +kernel) rfl) pa_nil)))))
        (pw_or1 (pt_cmpR op_notN (pe_call GR hr (by rfl) S.G.U.Y.mR S.G.U.Y.R.kp S.G.U.Y.bR .nil pass0 (pa_cons (pv 0) (pa_cons (pv 1) (pa_cons pe_non pa_nil)))) pe_non (nomark _)))).pt
        (pss_one (ps_ret pe_bl)) pss_nil)
      (pss_one (ps_ret (pe_cmpR (op_eqD hu2) (pe_call GL (hr.mono (by omega)) (by rfl) S.G.U.mL S.G.U.L.kp S.G.U.bL .nil pass0 (pa_cons (pv 0) (pa_cons (pv 1) pa_nil))) (pe_lst (pa_cons pe_int (pa_cons (pe_callB call_len_seq (by rfl) S.G.U.Y.Z.T.len PySem.boot_len (pa_cons (pv 1) pa_nil)) pa_nil))) (nomark _)))), ?_⟩
    obtain ⟨t, ty, kt, _, _⟩ := da.ty (K := K)
    refine ⟨_, rfl, v, .ty "tuple", t, .type "tuple", isTup d, rfl, .ty "tuple", ty, kt, isTup d, rfl, ?_⟩
    have zero := q H (Same.refl H)
    cases da with
    | @tup a xs ds e all =>
      refine iteF ?_
      have da2 : Da H (.ref a) (.tuple ds) := .tup e all
      refine ⟨_, rfl, _, rfl, f, a, fr, ds, none, rfl, fa, da2, fun H1 s1 => ?_⟩
      have q : ∀ H', Same H H' → Q (.bl (if wrongF fr ds (all8 none) 0 = none ∧ lp fr (esOf fr ds) = [0, (ds.length : Int)] then some (esOf fr ds) else none).isSome) H' := q
      cases ew : wrongF fr ds (all8 none) 0 with
      | some n =>
        refine ⟨rfl, _, rfl, iteT' (by simp [wv]) ?_⟩
        have z := q H1 s1
        rw [ew, if_neg (fun k => nomatch k.1)] at z
        exact z
      | none =>
        refine ⟨rfl, _, rfl, iteF' (by simp [wv]) ?_⟩
        obtain ⟨ee, ent⟩ := esOf_all (tup_inj (es := []) ew)
        have wa := wv_ofR (Da.same s1 _ _ da2) ee
        have ll : (esOf fr ds).length = ds.length := by
          have z := congrArg List.length ee
          rw [List.length_map] at z
          exact z.symm
        have l60 : ds.length ≤ 60 := l60
        refine ⟨_, rfl, _, rfl, f, a, fr, last, esOf fr ds, rfl, fa.same s1, fm, wa, ent, by omega, fun H2 p s2 np ep => ?_⟩
        refine ⟨_, rfl, a, _, rfl, .inr (SqT.of (s2 _ _ (s1 _ _ e))), (by show 2 ≤ sizeLine; decide), fun p3 hp3 => ?_⟩
        have u3 := same_upd (o := HO.lst ([0, (xs.length : Int)].map V.int)) hp3
        refine ⟨_, _, dp_list (u3 _ _ ep), dp_list (ns := [0, (xs.length : Int)]) upd_same, shaped_ints _, shaped_ints _, ?_⟩
        have z := q _ ((s1.trans s2).trans u3)
        have ev : PyData.eqv (.list ((lp fr (esOf fr ds)).map PyData.int)) (.list ([0, (xs.length : Int)].map PyData.int)) = decide (lp fr (esOf fr ds) = [0, (xs.length : Int)]) := by
          simp only [PyData.eqv]
          exact eqv_intsd _ _
        rw [ev]
        rw [all.len]
        by_cases c : lp fr (esOf fr ds) = [0, (ds.length : Int)]
        · rw [if_pos ⟨ew, c⟩] at z
          rw [decide_eq_true c]
          rw [all.len] at z
          exact z
        · rw [if_neg (fun k => c k.2)] at z
          rw [decide_eq_false c]
          rw [all.len] at z
          exact z
    | bl b => exact iteT zero
    | non => exact iteT zero
    | int i => exact iteT zero
    | str x => exact iteT zero
    | lst e h => exact iteT zero
end
end K39

set_option Elab.async false
set_option linter.all false
set_option maxRecDepth 100000
set_option maxHeartbeats 4000000
/-! is_whole_line. -/
namespace K39
open PySem L2 L2.EV
theorem line_some {fr : List T3} {d : PyData} {es : List E2} (h : lineOf fr d = some es) : ∃ ds, d = .tuple ds ∧ ds = es.map d2 ∧ (∀ e ∈ es, Ent fr e) ∧ wrongF fr ds (all8 none) 0 = none ∧ lp fr es = [0, (es.length : Int)] ∧ es ≠ [] := by
  cases d with
  | tuple ds =>
    have h : (if wrongF fr ds (all8 none) 0 = none ∧ lp fr (esOf fr ds) = [0, (ds.length : Int)] then some (esOf fr ds) else none) = some es := h
    by_cases c : wrongF fr ds (all8 none) 0 = none ∧ lp fr (esOf fr ds) = [0, (ds.length : Int)]
    · rw [if_pos c] at h
      cases h
      obtain ⟨c1, c2⟩ := c
      obtain ⟨ee, ent⟩ := esOf_all (tup_inj (es := []) c1)
      have ll : (esOf fr ds).length = ds.length := by
        have z := congrArg List.length ee
        rw [List.length_map] at z
        exact z.symm
      refine ⟨ds, rfl, ee, ent, c1, by rw [ll]; exact c2, fun z => ?_⟩
      rw [z] at c2
      have : lp fr [] = [0] := rfl
      rw [this] at c2
      simp at c2
    · rw [if_neg c] at h
      cases h
  | _ => cases h
theorem bmap {H : Hp} {D : Addr} {bs : List Bool} {b : Bool} : (bs.map V.bl) ++ [V.bl b] = (bs ++ [b]).map V.bl := by
  rw [List.map_append]
  rfl
section
variable {P : Program} {w : World} {K : PySem.W.Frag} {mg : Str → Option Value} {base : Heap}
theorem scIsWhole : FnScope ["framing", "entries", "first", "step", "writer", "further"] ["framing", "entries"] (defScope sIsWhole) := ⟨rfl, rfl, rfl, by decide +kernel, rfl, by decide +kernel, by decide +kernel⟩
theorem ok_isWhole (S : Hs K mg) : FnOk P w K mg base (L2.CX P w) 5 S.f2 S.d2 ["framing", "entries"] (spIsWhole S.O.C) := by
  have GF : FnOk P w K mg base CX0 3 S.G.U.Y.Z.fF S.G.U.Y.Z.dF ["thing"] spNeedF := ok_needF S.G.U.Y.Z
  have GR : FnOk P w K mg base CX0 4 S.f1 S.d1 ["framing", "thing"] spIsRead := ok_isRead S
  have GO : FnOk P w K mg base CX0 2 S.O.f S.O.d ["self", "text"] (spNo K S.O.C) := ok_OutOfPlace S.O.F S.O.T S.O.I S.O.FM S.O.bM S.O.mM S.O.TM
  refine S.W.okX scIsWhole (fun vs H Q E h => ?_) (fun cdv A outer s H vs Q E hr h => ?_)
  · obtain ⟨f, v, fr, last, d, rfl, _⟩ := h
    rfl
  · obtain ⟨f, v, fr, last, d, rfl, fa, fm, da, l60, q⟩ := h
    have r3 := hr.mono (j := 3) (by omega)
    refine ⟨_, pss_cons (ps_expr (pe_call GF r3 (by rfl) S.G.U.Y.Z.mF S.G.U.Y.Z.F.kp S.G.U.Y.Z.bF .nil pass0 (pa_cons (pv 0) pa_nil)))
      (pss_cons (ps_if (pt_not (pt_val (pe_call GR hr (by rfl) S.mR S.R.kp S.bR .nil pass0 (pa_cons (pv 0) (pa_cons (pv 1) pa_nil)))))
        (pss_one (ps_raise rfl (takes_of rfl rfl rfl rfl) (pmk_own2 rfl (pe_new S.O.T S.O.iC S.O.tI GO r3 (kb_pos S.O.b rfl) pass0 (by rfl) S.O.m (pa_cons pe_str pa_nil))))) pss_nil)
      (pss_cons (ps_asg (pe_ix ix_tup (pv 1) pe_int (fun _ _ => rfl)) (pg_tup rfl (pgs_cons (pg_name (i := 2) scIsWhole.nd rfl (Or.inr rfl)) (pgs_cons (pg_name (i := 3) scIsWhole.nd rfl (Or.inl rfl)) pgs_nil))))
      (pss_one (ps_ret (pe_and (pe_cmpR op_eq (pe_ix ix_tup (pe_ix ix_tup (pv 0) (pv 3) (fun _ _ => rfl)) pe_int (fun _ _ => rfl)) pe_int (nomark _))
        (pe_one (pe_callB (cr_all rfl) (by rfl) S.G.U.Y.Z.T.all (by decide +kernel) (pa_cons (pe_lc (own := [("writer", 4), ("further", 5)]) (g := gTup K 2 (gCons (gName 4) (gCons (gName 5) gNil))) (te := tOp rEq (tVar 4) (tVar 2)) rfl scIsWhole.nd (pi_tup (pv 1))
          (blkOk_by (N := ["framing", "entries", "first", "step", "writer", "further"]) (sc := defScope sIsWhole) (by decide +kernel))
          (fun _ _ _ _ _ => pg_tup rfl (pgs_cons (pg_name (i := 4) scIsWhole.nd rfl (Or.inl rfl)) (pgs_cons (pg_name (i := 5) scIsWhole.nd rfl (Or.inl rfl)) pgs_nil))) (fun _ _ _ _ _ => pts_nil)
          (fun _ _ _ _ _ => pe_cmpR op_eq (pv 4) (pv 2) (by rfl))) pa_nil)))))))), ?_⟩
    refine ⟨_, rfl, f, fr, last, rfl, fa, fm, fun H1 s1 => ?_⟩
    refine ⟨_, rfl, _, rfl, f, v, fr, last, d, rfl, fa.same s1, fm, Da.same s1 _ _ da, l60, fun H2 s2 => ?_⟩
    have s12 := s1.trans s2
    cases el : lineOf fr d with
    | none =>
      refine ⟨_, rfl, iteT ?_⟩
      refine ⟨rfl, rfl, (by decide), fun a na => ⟨a, .str _, .str _, rfl, upd_same, .str _, rfl, a, S.O.C, none, rfl, upd_same, fr0_none (same_none s12 na), raises_own S.O.su S.O.ty, ?_⟩⟩
      have z := q H2 s12
      rw [el] at z
      rw [delH_new na]
      exact z
    | some es =>
      refine ⟨_, rfl, iteF ?_⟩
      obtain ⟨ds, rfl, ee, ent, _, _, ne⟩ := line_some el
      have z := q
      rw [el] at z
      obtain ⟨a, rfl⟩ : ∃ a, v = .ref a := by
        cases da with
        | tup e h => exact ⟨_, rfl⟩
      have wa := wv_ofR (Da.same s12 _ _ da) ee
      match es, ne with
      | e0 :: rest, _ =>
        obtain ⟨tw, hw, wl, wt⟩ := id wa
        obtain ⟨t0, ht0⟩ : ∃ t0, tw[0]? = some t0 := by
          refine ⟨tw[0]'(by rw [wl]; simp), List.getElem?_eq_getElem _⟩
        have h0 := wt 0 t0 e0 ht0 rfl
        obtain ⟨e1, e2, n0, n1⟩ := ent e0 (List.mem_cons_self ..)
        obtain ⟨ts, t2, hf, ha, h3, _⟩ := stt_at (fa.same s12) n0 n1
        refine ⟨_, rfl, a, _, 0, .ref t0, rfl, rfl, SqT.of hw, atI_nat (j := 0) (by rw [List.getElem?_map, ht0]; rfl), t0, _, rfl, SqT.of h0, rfl, _, _, rfl, _, _, rfl, rfl, ?_⟩
        refine ⟨_, rfl, _, rfl, f, _, e0.2, .ref t2, rfl, rfl, SqT.of hf, ha, t2, _, 0, _, rfl, rfl, SqT.of h3, atI_nat (j := 0) rfl, rfl, _, rfl, ?_⟩
        have l60 : (e0 :: rest).length ≤ 60 := by
          have z : szD (.tuple ds) ≤ 60 := l60
          rw [ee] at z
          have z : ((e0 :: rest).map d2).length ≤ 60 := z
          rw [List.length_map] at z
          exact z
        refine ite2 (fun y => ?_) (fun y => ?_)
        · have y1 : (stt fr e0.2).1 = 0 := V.int.inj (of_decide_eq_true y)
          refine ⟨_, rfl, a, rfl, ⟨_, SqT.of hw⟩, fun D hD => ?_⟩
          refine lc_it (walk_tup (xs := tw.map V.ref)) (fun i H' => H' D = some (.lst ((((e0 :: rest).take i).map fun e => decide (e.1 = e0.1)).map V.bl)) ∧ ∀ b o, H2 b = some o → H' b = some o) ⟨upd_same, fun b o z => same_upd hD b o z⟩ (fun i H' _ z => SqT.of (z.2 _ _ hw)) ?_ ?_
          · rintro i x H3 H4 hi ⟨hl, kp⟩ ⟨rfl, hx⟩
            obtain ⟨t, e, he, _, rfl, e4⟩ := at_ent (i := i) wl wt hx
            refine ⟨t, _, rfl, SqT.of (kp _ _ e4), rfl, _, _, rfl, _, _, rfl, rfl, rfl, ?_⟩
            refine ⟨_, rfl, _, rfl, rfl, _, hl, ?_, ?_, fun b o z => ?_⟩
            · rw [List.length_map, List.length_map, List.length_take, sizeLine_eq]
              omega
            · rw [take_one he, List.map_append, List.map_append]
              have eb : decide (V.int e.1 = V.int e0.1) = decide (e.1 = e0.1) := by
                by_cases c : e.1 = e0.1
                · rw [decide_eq_true c, decide_eq_true (congrArg V.int c)]
                · rw [decide_eq_false c, decide_eq_false (fun k => c (V.int.inj k))]
              show upd H4 D (.lst (_ ++ [V.bl (decide (V.int e.1 = V.int e0.1))])) D = some (.lst (_ ++ [V.bl (decide (e.1 = e0.1))]))
              rw [eb]
              exact upd_same
            · rw [upd_ne (ne_of_none z hD)]
              exact kp b o z
          · rintro H3 ⟨hl, kp⟩
            have e9 : (e0 :: rest).take (tw.map V.ref).length = e0 :: rest := by
              rw [List.length_map, wl, List.take_length]
            rw [e9] at hl
            refine ⟨D, _, rfl, SqL.of hl, ?_⟩
            have z := q H3 (s12.trans kp)
            rw [el] at z
            have ew : wholeE fr (e0 :: rest) = ((e0 :: rest).map fun e => decide (e.1 = e0.1)).all id := by
              show (decide ((stt fr e0.2).1 = 0) && (e0 :: rest).all fun e => decide (e.1 = e0.1)) = _
              rw [decide_eq_true y1, Bool.true_and, List.all_map]
              rfl
            rw [← ew]
            exact z
        · have y1 : ¬ (stt fr e0.2).1 = 0 := fun k => y (decide_eq_true (congrArg V.int k))
          have z := q H2 s12
          rw [el] at z
          have ew : wholeE fr (e0 :: rest) = false := by
            show (decide ((stt fr e0.2).1 = 0) && (e0 :: rest).all fun e => decide (e.1 = e0.1)) = _
            rw [decide_eq_false y1, Bool.false_and]
          have z : Q (.bl (wholeE fr (e0 :: rest))) H2 := z
          rw [ew] at z
          exact z
end
end K39

set_option Elab.async false
set_option linter.all false
set_option maxRecDepth 100000
set_option maxHeartbeats 4000000
/-! The law's own text and lines. -/
namespace K39
open PySem L2 L2.EV
def spl (fr : List T3) (es : List E2) : List (List E2) × List E2 := es.foldl (fun a e => if ends fr e = true then (a.1 ++ [a.2 ++ [e]], []) else (a.1, a.2 ++ [e])) ([], [])
theorem spl_snoc (fr : List T3) (es : List E2) (e : E2) : spl fr (es ++ [e]) = if ends fr e = true then ((spl fr es).1 ++ [(spl fr es).2 ++ [e]], []) else ((spl fr es).1, (spl fr es).2 ++ [e]) := by
  unfold spl
  rw [List.foldl_append]
  rfl
end K39

set_option Elab.async false
set_option linter.all false
set_option maxRecDepth 100000
set_option maxHeartbeats 4000000
/-! The lines by places are the lines entry by entry. -/
namespace K39
open PySem L2 L2.EV
theorem cutsN_snoc (fr : List T3) (es : List E2) (e : E2) : cutsN fr (es ++ [e]) (es ++ [e]).length = cutsN fr es es.length ++ (if ends fr e = true then [es.length + 1] else []) := by
  unfold cutsN
  have h1 : ((List.range es.length).filter fun k => ends fr ((es ++ [e]).getD k (0, 0))) = ((List.range es.length).filter fun k => ends fr (es.getD k (0, 0))) := by
    refine List.filter_congr fun k hk => ?_
    have hk2 : k < es.length := List.mem_range.mp hk
    rw [List.getD_eq_getElem?_getD, List.getD_eq_getElem?_getD, List.getElem?_append_left hk2]
  have h2 : (es ++ [e]).getD es.length (0, 0) = e := by
    rw [List.getD_eq_getElem?_getD, List.getElem?_append_right (Nat.le_refl _), Nat.sub_self]
    rfl
  rw [List.length_append, List.length_cons, List.length_nil, Nat.zero_add, List.range_succ, List.filter_append, List.map_append, h1, List.filter_cons, h2]
  split <;> rfl
theorem lpN_snoc (fr : List T3) (es : List E2) (e : E2) : lpN fr (es ++ [e]) = lpN fr es ++ (if ends fr e = true then [es.length + 1] else []) := by
  unfold lpN
  rw [cutsN_snoc]
  rfl
theorem lpN_le {fr : List T3} {es : List E2} : ∀ x ∈ lpN fr es, x ≤ es.length := by
  intro x hx
  unfold lpN cutsN at hx
  rcases List.mem_cons.mp hx with h | h
  · omega
  · obtain ⟨k, hk, rfl⟩ := List.mem_map.mp h
    have := List.mem_range.mp (List.mem_filter.mp hk).1
    omega
theorem zip_snoc (l : List Nat) (M : List Nat) (y x : Nat) (h : l = M ++ [y]) : (l ++ [x]).zip (l ++ [x]).tail = l.zip l.tail ++ [(y, x)] := by
  subst h
  induction M with
  | nil => rfl
  | cons a M ih =>
    cases M with
    | nil => rfl
    | cons b M =>
      have ih' := ih
      simp only [List.cons_append, List.tail_cons, List.zip_cons_cons] at ih' ⊢
      rw [ih']
theorem cutE_snoc {es : List E2} {e : E2} {lo hi : Nat} (h1 : lo ≤ es.length) (h2 : hi ≤ es.length) : cutE (es ++ [e]) lo hi = cutE es lo hi := by
  unfold cutE
  rw [List.length_append, List.length_cons, List.length_nil, Nat.min_eq_left (by omega), Nat.min_eq_left (by omega), Nat.min_eq_left h1, Nat.min_eq_left h2, List.drop_append_of_le_length h1, List.take_append_of_le_length (by rw [List.length_drop]; omega)]
theorem spl_is (fr : List T3) (es : List E2) : linesE fr es = (spl fr es).1 ∧ restE fr es = (spl fr es).2 := by
  refine snoc_ind (p := fun es => linesE fr es = (spl fr es).1 ∧ restE fr es = (spl fr es).2) ⟨rfl, rfl⟩ (fun es e ih => ?_) es
  obtain ⟨i1, i2⟩ := ih
  obtain ⟨M, y, hM⟩ := SrtO.snoc_of (l := lpN fr es) (by unfold lpN; simp)
  have hy : y ≤ es.length := lpN_le y (by rw [hM]; simp)
  have hr : restE fr es = es.drop y := by
    unfold restE
    rw [hM]
    simp [Nat.min_eq_left hy]
  have old : ((lpN fr es).zip (lpN fr es).tail).map (fun q => cutE (es ++ [e]) q.1 q.2) = linesE fr es := by
    unfold linesE
    refine List.map_congr_left fun q hq => ?_
    have h1 := lpN_le q.1 (List.of_mem_zip (show (q.1, q.2) ∈ (lpN fr es).zip (lpN fr es).tail from hq)).1
    have h2 := lpN_le q.2 (List.mem_of_mem_tail (List.of_mem_zip (show (q.1, q.2) ∈ (lpN fr es).zip (lpN fr es).tail from hq)).2)
    exact cutE_snoc h1 h2
  rw [spl_snoc]
  by_cases en : ends fr e = true
  · rw [if_pos en]
    refine ⟨?_, ?_⟩
    · show ((lpN fr (es ++ [e])).zip (lpN fr (es ++ [e])).tail).map (fun q => cutE (es ++ [e]) q.1 q.2) = _
      rw [lpN_snoc, if_pos en, zip_snoc _ M y _ hM, List.map_append, old, i1, ← i2, hr]
      show _ ++ [cutE (es ++ [e]) y (es.length + 1)] = _
      have z : cutE (es ++ [e]) y (es.length + 1) = es.drop y ++ [e] := by
        unfold cutE
        rw [List.length_append, List.length_cons, List.length_nil, Nat.min_eq_left (by omega), Nat.min_eq_left (by omega), List.drop_append_of_le_length hy]
        exact List.take_of_length_le (by rw [List.length_append, List.length_drop]; simp only [List.length_cons, List.length_nil]; omega)
      rw [z]
    · show (es ++ [e]).drop (min ((lpN fr (es ++ [e])).getLastD 0) (es ++ [e]).length) = []
      rw [lpN_snoc, if_pos en]
      have z : (lpN fr es ++ [es.length + 1]).getLastD 0 = es.length + 1 := by simp
      rw [z, List.length_append, List.length_cons, List.length_nil, Nat.zero_add, Nat.min_self]
      exact List.drop_of_length_le (by rw [List.length_append]; simp)
  · rw [if_neg en]
    refine ⟨?_, ?_⟩
    · show ((lpN fr (es ++ [e])).zip (lpN fr (es ++ [e])).tail).map (fun q => cutE (es ++ [e]) q.1 q.2) = _
      rw [lpN_snoc, if_neg en, List.append_nil, old, i1]
    · show (es ++ [e]).drop (min ((lpN fr (es ++ [e])).getLastD 0) (es ++ [e]).length) = _ ++ [e]
      rw [lpN_snoc, if_neg en, List.append_nil, ← i2, hr, hM]
      have z : (M ++ [y]).getLastD 0 = y := by simp
      rw [z, List.length_append, List.length_cons, List.length_nil, Nat.min_eq_left (by omega), List.drop_append_of_le_length hy]
end K39

set_option Elab.async false
set_option linter.all false
set_option maxRecDepth 100000
set_option maxHeartbeats 4000000
/-! A read line of data. -/
namespace K39
open PySem L2 L2.EV
theorem range_last (n : Nat) (p : Nat → Bool) : (List.range (n + 1)).filter p = [n] ↔ ∀ j < n + 1, p j = decide (j = n) := by
  constructor
  · intro h j hj
    by_cases c : j = n
    · have : n ∈ (List.range (n + 1)).filter p := by rw [h]; exact List.mem_cons_self ..
      rw [c, decide_eq_true rfl]
      exact (List.mem_filter.mp this).2
    · rw [decide_eq_false c]
      cases q : p j with
      | false => rfl
      | true =>
        have : j ∈ (List.range (n + 1)).filter p := List.mem_filter.mpr ⟨List.mem_range.mpr hj, q⟩
        rw [h] at this
        exact absurd (by simpa using this) c
  · intro h
    rw [List.range_succ, List.filter_append]
    have e1 : (List.range n).filter p = [] := by
      rw [List.filter_eq_nil_iff]
      intro j hj
      have hj := List.mem_range.mp hj
      rw [h j (by omega), decide_eq_false (by omega)]
      decide
    have e2 : [n].filter p = [n] := by
      rw [List.filter_cons, h n (by omega), decide_eq_true rfl]
      rfl
    rw [e1, e2]
    rfl
theorem lp_iff {fr : List T3} {es : List E2} : lp fr es = [0, (es.length : Int)] ↔ es ≠ [] ∧ ∀ j < es.length, ends fr (es.getD j (0, 0)) = decide (j + 1 = es.length) := by
  cases h : es.length with
  | zero =>
    have e : es = [] := List.length_eq_zero_iff.mp h
    subst e
    constructor
    · intro z
      have : lp fr [] = [0] := rfl
      rw [this] at z
      simp at z
    · exact fun z => absurd rfl z.1
  | succ n =>
    have ne : es ≠ [] := fun z => by rw [z] at h; cases h
    have key : lp fr es = [0, ((n + 1 : Nat) : Int)] ↔ (List.range (n + 1)).filter (fun k => ends fr (es.getD k (0, 0))) = [n] := by
      unfold lp cuts
      rw [h]
      constructor
      · intro z
        have z1 : ((List.range (n + 1)).filter (fun k => ends fr (es.getD k (0, 0)))).map (fun k : Nat => (k : Int) + 1) = [((n + 1 : Nat) : Int)] := by
          injection z
        cases q : (List.range (n + 1)).filter (fun k => ends fr (es.getD k (0, 0))) with
        | nil =>
          rw [q] at z1
          cases z1
        | cons a l =>
          rw [q] at z1
          rw [List.map_cons] at z1
          injection z1 with z2 z3
          have : l = [] := List.map_eq_nil_iff.mp z3
          rw [this]
          have : a = n := by push_cast at z2; omega
          rw [this]
      · intro z
        rw [z]
        simp
    rw [key, range_last]
    constructor
    · intro z
      refine ⟨ne, fun j hj => ?_⟩
      rw [z j hj]
      by_cases c : j = n
      · rw [decide_eq_true c, decide_eq_true (by omega)]
      · rw [decide_eq_false c, decide_eq_false (by omega)]
    · intro z j hj
      rw [z.2 j hj]
      by_cases c : j = n
      · rw [decide_eq_true c, decide_eq_true (by omega)]
      · rw [decide_eq_false c, decide_eq_false (by omega)]
/-- an entry of a right line -/
theorem line_at {fr : List T3} {ds : List PyData} {es : List E2} (h : lineOf fr (.tuple ds) = some es) {i : Nat} {e : E2} (hd : ds[i]? = some (.tuple [.int e.1, .int e.2])) : ends fr e = decide (i + 1 = ds.length) := by
  obtain ⟨ds2, e1, ee, ent, _, hl, ne⟩ := line_some h
  cases e1
  have ll : ds.length = es.length := by rw [ee, List.length_map]
  have he : es[i]? = some e := by
    rw [ee, List.getElem?_map] at hd
    cases q : es[i]? with
    | none =>
      rw [q] at hd
      cases hd
    | some x =>
      rw [q] at hd
      have z : d2 x = .tuple [.int e.1, .int e.2] := Option.some.inj hd
      unfold d2 at z
      injection z with z
      injection z with z1 z2
      injection z1 with z1
      injection z2 with z2 _
      injection z2 with z2
      have : x = e := Prod.ext z1 z2
      rw [this]
  have z := (lp_iff.mp hl).2 i (List.getElem?_eq_some_iff.mp he).1
  rw [List.getD_eq_getElem?_getD, he] at z
  rw [ll]
  exact z
theorem line_done {fr : List T3} {ds : List PyData} (h1 : wrongF fr ds (all8 none) 0 = none) (ne : ds ≠ []) (h : ∀ j < ds.length, ∃ e : E2, ds[j]? = some (.tuple [.int e.1, .int e.2]) ∧ ends fr e = decide (j + 1 = ds.length)) : ∃ es, lineOf fr (.tuple ds) = some es := by
  obtain ⟨ee, ent⟩ := esOf_all (tup_inj (es := []) h1)
  have ll : (esOf fr ds).length = ds.length := by
    have z := congrArg List.length ee
    rw [List.length_map] at z
    exact z.symm
  have hl : lp fr (esOf fr ds) = [0, ((esOf fr ds).length : Int)] := by
    refine lp_iff.mpr ⟨fun z => ne ?_, fun j hj => ?_⟩
    · rw [z] at ll
      exact List.length_eq_zero_iff.mp ll.symm
    · obtain ⟨e, h2, h3⟩ := h j (by rw [← ll]; exact hj)
      have he : (esOf fr ds)[j]? = some e := by
        rw [ee, List.getElem?_map] at h2
        cases q : (esOf fr ds)[j]? with
        | none =>
          rw [q] at h2
          cases h2
        | some x =>
          rw [q] at h2
          have z : d2 x = .tuple [.int e.1, .int e.2] := Option.some.inj h2
          unfold d2 at z
          injection z with z
          injection z with z1 z2
          injection z1 with z1
          injection z2 with z2 _
          injection z2 with z2
          have : x = e := Prod.ext z1 z2
          rw [this]
      rw [List.getD_eq_getElem?_getD, he, ll]
      exact h3
  refine ⟨esOf fr ds, ?_⟩
  show (if wrongF fr ds (all8 none) 0 = none ∧ lp fr (esOf fr ds) = [0, (ds.length : Int)] then some (esOf fr ds) else none) = _
  rw [if_pos ⟨h1, by rw [hl, ll]⟩]
end K39

set_option Elab.async false
set_option linter.all false
set_option maxRecDepth 100000
set_option maxHeartbeats 4000000
/-! What the read lines of a right weaving are. -/
namespace K39
open PySem L2 L2.EV
theorem wv_go {fr : List T3} {es : List E2} (h : Wv fr es) : goF fr (List.replicate 8 0) es := by
  have go : ∀ (es : List E2) (ql : List Int), (∀ (i : Nat) e, es[i]? = some e → ((es.take i).foldl (fun pl e => pl.set e.1.toNat (stt fr e.2).2.2) ql)[e.1.toNat]? = some (stt fr e.2).1) → goF fr ql es := by
    intro es
    induction es with
    | nil => exact fun _ _ => True.intro
    | cons e es ih => exact fun ql h => ⟨h 0 e rfl, ih _ fun i x hx => by simpa using h (i + 1) x (by simpa using hx)⟩
  exact go es _ h.go
theorem wv_take {fr : List T3} {es : List E2} (h : Wv fr es) (n : Nat) : Wv fr (es.take n) :=
  go_wv (goF_take n (wv_go h)) (fun e he => h.ent e (List.mem_of_mem_take he)) (by have := h.l; rw [List.length_take]; omega)
/-- a line that ends at its end alone -/
def Lne (fr : List T3) (l : List E2) : Prop := l ≠ [] ∧ ∀ j < l.length, ends fr (l.getD j (0, 0)) = decide (j + 1 = l.length)
theorem spl_lne {fr : List T3} (es : List E2) : (∀ l ∈ (spl fr es).1, Lne fr l ∧ ∃ a b, l = (es.drop a).take b) ∧ (∃ a, a ≤ es.length ∧ (spl fr es).2 = es.drop a) ∧ ∀ e ∈ (spl fr es).2, ends fr e = false := by
  refine snoc_ind (p := fun es => (∀ l ∈ (spl fr es).1, Lne fr l ∧ ∃ a b, l = (es.drop a).take b) ∧ (∃ a, a ≤ es.length ∧ (spl fr es).2 = es.drop a) ∧ ∀ e ∈ (spl fr es).2, ends fr e = false) ⟨(fun l h => by cases h), ⟨0, Nat.le_refl _, rfl⟩, (fun e h => by cases h)⟩ (fun es e ih => ?_) es
  obtain ⟨i1, ⟨a, al, ia⟩, i3⟩ := ih
  have old : ∀ l ∈ (spl fr es).1, Lne fr l ∧ ∃ a b, l = ((es ++ [e]).drop a).take b := fun l hl => by
    obtain ⟨h1, a, b, rfl⟩ := i1 l hl
    refine ⟨h1, min a es.length, min b (es.length - a), ?_⟩
    rw [List.drop_append_of_le_length (by omega), List.take_append_of_le_length (by rw [List.length_drop]; omega)]
    by_cases c : a ≤ es.length
    · rw [Nat.min_eq_left c]
      by_cases d : b ≤ es.length - a
      · rw [Nat.min_eq_left d]
      · rw [Nat.min_eq_right (by omega), List.take_of_length_le (by rw [List.length_drop]; omega), List.take_of_length_le (by rw [List.length_drop]; omega)]
    · rw [List.drop_of_length_le (by omega), List.drop_of_length_le (by omega)]
      simp
  rw [spl_snoc]
  have ea : (spl fr es).2 ++ [e] = (es ++ [e]).drop a := by rw [List.drop_append_of_le_length al, ia]
  by_cases en : ends fr e = true
  · rw [if_pos en]
    refine ⟨fun l hl => ?_, ⟨(es ++ [e]).length, Nat.le_refl _, by rw [List.drop_length]⟩, fun x hx => by cases hx⟩
    rcases List.mem_append.mp hl with hl | hl
    · exact old l hl
    · cases List.mem_singleton.mp hl
      refine ⟨⟨by simp, fun j hj => ?_⟩, a, ((es ++ [e]).drop a).length, by rw [ea, List.take_length]⟩
      rw [List.length_append, List.length_singleton] at hj ⊢
      rw [List.getD_eq_getElem?_getD]
      by_cases c : j = (spl fr es).2.length
      · rw [List.getElem?_append_right (by omega), c, Nat.sub_self, decide_eq_true rfl]
        exact en
      · rw [List.getElem?_append_left (by omega), List.getElem?_eq_getElem (by omega), decide_eq_false (by omega)]
        exact i3 _ (List.getElem_mem _)
  · rw [if_neg en]
    refine ⟨old, ⟨a, by rw [List.length_append]; omega, ea⟩, fun x hx => ?_⟩
    rcases List.mem_append.mp hx with hx | hx
    · exact i3 x hx
    · cases List.mem_singleton.mp hx
      exact Bool.eq_false_iff.mpr en
theorem esOf_d2 {fr : List T3} : ∀ {es : List E2}, (∀ e ∈ es, Ent fr e) → esOf fr (es.map d2) = es
  | [], _ => rfl
  | e :: es, h => by
    have i := esOf_d2 (es := es) fun x hx => h x (List.mem_cons_of_mem _ hx)
    unfold esOf at i ⊢
    rw [List.map_cons, List.filterMap_cons, ent_d2 (h e (List.mem_cons_self ..))]
    show e :: _ = _
    rw [i]
theorem kn_none {ql : List Int} : Kn (all8 none) ql := fun n x h => by
  have : (all8 none).getD n none = none := by
    rw [List.getD_eq_getElem?_getD]
    unfold all8
    rw [List.getElem?_replicate]
    split <;> rfl
  rw [this] at h
  cases h
/-- each read line of a right weaving can be one -/
theorem line_is {fr : List T3} {es : List E2} (h : Wv fr es) {l : List E2} (hl : l ∈ (spl fr es).1) : lineOf fr (.tuple (l.map d2)) = some l ∧ (∀ e ∈ l, Ent fr e) ∧ l.length ≤ 60 ∧ Lne fr l := by
  obtain ⟨h1, a, b, e⟩ := (spl_lne es).1 l hl
  have ent : ∀ x ∈ l, Ent fr x := fun x hx => by
    rw [e] at hx
    exact h.ent x (List.mem_of_mem_drop (List.mem_of_mem_take hx))
  have l60 : l.length ≤ 60 := by
    have := h.l
    rw [e, List.length_take, List.length_drop]
    omega
  obtain ⟨q2, q8, g⟩ := goF_drop a (wv_go h)
  have g2 := goF_take b g
  rw [← e] at g2
  have w : wrongF fr (l.map d2) (all8 none) 0 = none := go_none (ql := q2) rfl (by rw [q8]; rfl) kn_none ent g2
  refine ⟨?_, ent, l60, h1⟩
  have hp : lp fr l = [0, (l.length : Int)] := lp_iff.mpr h1
  show (if wrongF fr (l.map d2) (all8 none) 0 = none ∧ lp fr (esOf fr (l.map d2)) = [0, ((l.map d2).length : Int)] then some (esOf fr (l.map d2)) else none) = some l
  rw [esOf_d2 ent, List.length_map, if_pos ⟨w, hp⟩]
/-- whether all lines are whole -/
def clE (fr : List T3) (es : List E2) : Bool := (spl fr es).1.all (wholeE fr)
end K39

set_option Elab.async false
set_option linter.all false
set_option maxRecDepth 100000
set_option maxHeartbeats 4000000
/-! The weaving that has a number is a right one of the score. -/
namespace K39
open PySem L2 L2.EV
theorem byW_cons {e : E2} {es : List E2} {w : Nat} : byW (e :: es) w = if e.1 = (w : Int) then e.2 :: byW es w else byW es w := by
  unfold byW
  rw [List.filter_cons]
  by_cases c : e.1 = (w : Int)
  · rw [if_pos (decide_eq_true c), if_pos c]
    rfl
  · rw [if_neg (fun z => c (of_decide_eq_true z)), if_neg c]
theorem sum_getD : ∀ {ns : List Nat} {w : Nat}, ns.sum = 0 → ns.getD w 0 = 0
  | [], w, _ => by simp
  | n :: ns, 0, h => by
    rw [List.sum_cons] at h
    show n = 0
    omega
  | n :: ns, w + 1, h => by
    rw [List.sum_cons] at h
    have := sum_getD (ns := ns) (w := w) (by omega)
    simpa using this
/-- what each writer puts -/
theorem at_own {rows : List (List Int)} : ∀ {k : Nat} {ns : List Nat} {r : Nat}, ns.sum = k → ns.length = rows.length → (∀ w, ns.getD w 0 ≤ (rows.getD w []).length) → r < ordN ns →
    (∀ w, byW (atF rows k ns r) w = (rows.getD w []).drop ((rows.getD w []).length - ns.getD w 0)) ∧ (∀ e ∈ atF rows k ns r, ∃ w : Nat, w < rows.length ∧ e.1 = (w : Int)) ∧ (atF rows k ns r).length = k
  | 0, ns, r, h, hl, hb, hr => by
    refine ⟨fun w => ?_, (fun e he => by cases he), rfl⟩
    rw [sum_getD h, Nat.sub_zero, List.drop_length]
    rfl
  | k + 1, ns, r, h, hl, hb, hr => by
    obtain ⟨a1, a2, a3, a4, a5⟩ := pick_all h hr
    have e : atF rows (k + 1) ns r = (((pickW ns ns.length 0 r).1 : Int), stepR rows ns (pickW ns ns.length 0 r).1) :: atF rows k (lessN ns (pickW ns ns.length 0 r).1) (pickW ns ns.length 0 r).2 := rfl
    rw [e]
    generalize (pickW ns ns.length 0 r).1 = v at *
    generalize (pickW ns ns.length 0 r).2 = s at *
    obtain ⟨h1, h2, h3⟩ := at_own (rows := rows) (k := k) (ns := lessN ns v) (r := s) (by have := less_sum1 a1 a2; omega) (by rw [less_len, hl]) (fun w => Nat.le_trans less_getD (hb w)) a3
    refine ⟨fun w => ?_, fun x hx => ?_, by rw [List.length_cons, h3]⟩
    · rw [byW_cons, h1, less_at]
      by_cases c : v = w
      · subst c
        rw [if_pos rfl, if_pos rfl]
        have hv := hb v
        have i : (rows.getD v []).length - ns.getD v 0 < (rows.getD v []).length := by omega
        have e1 : (rows.getD v []).length - (ns.getD v 0 - 1) = (rows.getD v []).length - ns.getD v 0 + 1 := by omega
        rw [e1, List.drop_eq_getElem_cons i]
        congr 1
        unfold stepR
        rw [List.getD_eq_getElem?_getD, List.getElem?_eq_getElem i]
        rfl
      · rw [if_neg (show ¬ ((v : Int) = (w : Int)) by omega), if_neg c]
    · rcases List.mem_cons.mp hx with rfl | hx
      · exact ⟨v, by omega, rfl⟩
      · exact h2 x hx
/-- steps that follow one another from a standing -/
def chnF (fr : List T3) : Int → List Int → Prop
  | _, [] => True
  | st, n :: ns => (stt fr n).1 = st ∧ chnF fr (stt fr n).2.2 ns
theorem at_go {fr : List T3} {rows : List (List Int)} : ∀ {k : Nat} {ns : List Nat} {r : Nat} {ql : List Int}, ns.sum = k → ns.length = rows.length → (∀ w, ns.getD w 0 ≤ (rows.getD w []).length) → r < ordN ns →
    (∀ w, w < rows.length → ∃ st, ql[w]? = some st ∧ chnF fr st ((rows.getD w []).drop ((rows.getD w []).length - ns.getD w 0))) → goF fr ql (atF rows k ns r)
  | 0, ns, r, ql, h, hl, hb, hr, hc => True.intro
  | k + 1, ns, r, ql, h, hl, hb, hr, hc => by
    obtain ⟨a1, a2, a3, a4, a5⟩ := pick_all h hr
    have e : atF rows (k + 1) ns r = (((pickW ns ns.length 0 r).1 : Int), stepR rows ns (pickW ns ns.length 0 r).1) :: atF rows k (lessN ns (pickW ns ns.length 0 r).1) (pickW ns ns.length 0 r).2 := rfl
    rw [e]
    generalize (pickW ns ns.length 0 r).1 = v at *
    generalize (pickW ns ns.length 0 r).2 = s at *
    obtain ⟨st, q1, q2⟩ := hc v (by omega)
    have hv := hb v
    have i : (rows.getD v []).length - ns.getD v 0 < (rows.getD v []).length := by omega
    have e1 : (rows.getD v []).length - (ns.getD v 0 - 1) = (rows.getD v []).length - ns.getD v 0 + 1 := by omega
    have es : stepR rows ns v = (rows.getD v [])[(rows.getD v []).length - ns.getD v 0] := by
      unfold stepR
      rw [List.getD_eq_getElem?_getD, List.getElem?_eq_getElem i]
      rfl
    rw [List.drop_eq_getElem_cons i, ← es] at q2
    obtain ⟨q2, q3⟩ := q2
    refine ⟨?_, ?_⟩
    · show ql[((v : Nat) : Int).toNat]? = some (stt fr (stepR rows ns v)).1
      rw [Int.toNat_natCast, q1, q2]
    · refine at_go (by have := less_sum1 a1 a2; omega) (by rw [less_len, hl]) (fun w => Nat.le_trans less_getD (hb w)) a3 fun w hw => ?_
      rw [less_at]
      show ∃ st, (ql.set ((v : Nat) : Int).toNat _)[w]? = some st ∧ _
      rw [Int.toNat_natCast]
      by_cases c : v = w
      · subst c
        have ql1 : v < ql.length := (List.getElem?_eq_some_iff.mp q1).1
        rw [if_pos rfl, List.getElem?_set_self ql1]
        exact ⟨_, rfl, by rw [e1]; exact q3⟩
      · rw [if_neg c, List.getElem?_set_ne c]
        exact hc w hw
theorem fol_chn {fr : List T3} : ∀ {ns ms : List Int} {st : Int} {i : Nat}, folF fr ns st i = true → chnF fr 0 ms → chnF fr st (ns ++ ms)
  | [], ms, st, i, h, hm => by
    have h : decide (st = 0) = true := h
    rw [of_decide_eq_true h]
    exact hm
  | n :: ns, ms, st, i, h, hm => by
    have h : (decide ((stt fr n).1 = st) && (!(decide (0 < i) && decide ((stt fr n).1 = 0)) && folF fr ns (stt fr n).2.2 (i + 1))) = true := h
    rw [Bool.and_eq_true, Bool.and_eq_true] at h
    exact ⟨of_decide_eq_true h.1, fol_chn h.2.2 hm⟩
theorem gl_chn {fr : List T3} : ∀ {p : List Lin}, (∀ l ∈ p, Gl fr l) → chnF fr 0 p.flatten
  | [], _ => True.intro
  | l :: p, h => by
    rw [List.flatten_cons]
    exact fol_chn (h l (List.mem_cons_self ..)).fol (gl_chn fun x hx => h x (List.mem_cons_of_mem _ hx))
theorem flat_getD {ps : List (List Lin)} {w : Nat} (h : w < ps.length) : (ps.map List.flatten).getD w [] = ps[w].flatten := by
  rw [List.getD_eq_getElem?_getD, List.getElem?_map, List.getElem?_eq_getElem h]
  rfl
theorem sz_getD {ps : List (List Lin)} (w : Nat) : (ps.map sz1).getD w 0 = ((ps.map List.flatten).getD w []).length := by
  rw [List.getD_eq_getElem?_getD, List.getD_eq_getElem?_getD, List.getElem?_map, List.getElem?_map]
  cases ps[w]? with
  | none => rfl
  | some p => exact sz1_flat.symm
theorem atP_ok {fr : List T3} {ps : List (List Lin)} (gs : Gs fr ps) {r : Nat} (hr : r < cntN ps) : Wv fr (atP ps r) ∧ ofF ps (atP ps r) = true ∧ (atP ps r).length = szS ps := by
  have l8 := gs.l8
  have z40 := gs.sz
  obtain ⟨h1, h2, h3⟩ := at_own (rows := ps.map List.flatten) (k := szS ps) (ns := ps.map sz1) (r := r) rfl (by simp) (fun w => Nat.le_of_eq (sz_getD w)) hr
  have own : ∀ w, byW (atP ps r) w = (ps.map List.flatten).getD w [] := fun w => by
    have := h1 w
    rw [sz_getD, Nat.sub_self, List.drop_zero] at this
    exact this
  have ent : ∀ e ∈ atP ps r, Ent fr e := fun e he => by
    obtain ⟨w, hw, ew⟩ := h2 e he
    rw [List.length_map] at hw
    have m : e.2 ∈ byW (atP ps r) w := List.mem_map.mpr ⟨e, List.mem_filter.mpr ⟨he, decide_eq_true ew⟩, rfl⟩
    rw [own, flat_getD hw] at m
    obtain ⟨l, lm, nm⟩ := List.mem_flatten.mp m
    have n0 := (gs.ln _ (List.getElem_mem hw) l lm).ins _ nm
    exact ⟨by omega, by omega, n0.1, n0.2⟩
  refine ⟨go_wv ?_ ent (by show (atF _ _ _ _).length ≤ 60; rw [h3]; omega), ?_, h3⟩
  · refine at_go rfl (by simp) (fun w => Nat.le_of_eq (sz_getD w)) hr fun w hw => ?_
    rw [List.length_map] at hw
    refine ⟨0, ?_, ?_⟩
    · rw [List.getElem?_replicate, if_pos (by omega)]
    · rw [sz_getD, Nat.sub_self, List.drop_zero, flat_getD hw]
      exact gl_chn (gs.ln _ (List.getElem_mem hw))
  · unfold ofF
    rw [Bool.and_eq_true]
    refine ⟨List.all_eq_true.mpr fun e he => ?_, ?_⟩
    · obtain ⟨w, hw, ew⟩ := h2 e he
      rw [List.length_map] at hw
      exact decide_eq_true (by omega)
    · have ro : ∀ {rows : List Lin} {w : Nat}, (∀ k r', rows[k]? = some r' → byW (atP ps r) (w + k) = r') → restO (atP ps r) rows w = true := by
        intro rows
        induction rows with
        | nil => exact fun _ => rfl
        | cons x rs ih =>
          intro w h
          show (decide (byW (atP ps r) w = x) && restO (atP ps r) rs (w + 1)) = true
          have h0 : byW (atP ps r) w = x := h 0 x rfl
          rw [decide_eq_true h0, ih fun k r' hr' => by
            rw [← h (k + 1) r' (by simpa using hr')]
            congr 1
            omega]
          rfl
      refine ro fun k r' hr' => ?_
      rw [Nat.zero_add, own, List.getD_eq_getElem?_getD, hr']
      rfl
theorem wv_weav {fr : List T3} {es : List E2} (h : Wv fr es) : weavR fr (.tuple (es.map d2)) = none := by
  have g := wv_go h
  have w : wrongF fr (es.map d2) (all8 (some 0)) 0 = none := go_none (ql := List.replicate 8 0) rfl rfl (fun n x e => by
    by_cases c : n < 8
    · rw [List.getD_eq_getElem?_getD] at e
      unfold all8 at e
      rw [List.getElem?_replicate, if_pos c] at e
      rw [List.getElem?_replicate, if_pos c]
      exact e
    · rw [List.getD_eq_getElem?_getD] at e
      unfold all8 at e
      rw [List.getElem?_replicate, if_neg c] at e
      cases e) h.ent g
  have hl := h.l
  show (if 200 < (es.map d2).length then some V.non else match wrongF fr (es.map d2) (all8 (some 0)) 0 with
    | some i => some (.int (i : Int))
    | none => none) = none
  rw [List.length_map, if_neg (by omega), w]
end K39

set_option Elab.async false
set_option linter.all false
set_option maxRecDepth 100000
set_option maxHeartbeats 4000000
/-! is_whole_line of a read line; is_clean. -/
namespace K39
open PySem L2 L2.EV
abbrev sIsClean : Stmt := top 42
theorem pss_never {X : Cx} {ss : List Stmt} : PSs X ss tNever := ⟨fun _ _ _ _ _ _ h => h.elim⟩
theorem da_wv {H : Hp} {w : Addr} {es : List E2} (h : WvA H w es) : Da H (.ref w) (.tuple (es.map d2)) := by
  obtain ⟨ts, e, l, c⟩ := h
  refine .tup e ?_
  have key : ∀ {es : List E2} {ts : List Addr}, ts.length = es.length → (∀ (i : Nat) t e, ts[i]? = some t → es[i]? = some e → A2 H t e) → DaAll H (ts.map V.ref) (es.map d2) := by
    intro es
    induction es with
    | nil =>
      intro ts l c
      cases ts with
      | nil => exact .nil
      | cons t ts => cases l
    | cons x es ih =>
      intro ts l c
      cases ts with
      | nil => cases l
      | cons t ts => exact .cons (.tup (c 0 t x rfl rfl) (.cons (.int _) (.cons (.int _) .nil))) (ih (by simpa using l) fun i t e h1 h2 => c (i + 1) t e (by simpa using h1) (by simpa using h2))
  exact key l c
theorem spl_len {fr : List T3} {es : List E2} (h : Wv fr es) : (spl fr es).1.length ≤ 61 := by
  have := lpN_len (fr := fr) h.l
  rw [← (spl_is fr es).1]
  unfold linesE
  rw [List.length_map, List.length_zip]
  omega
def spWholeR : Sp := fun vs H Q _ => ∃ (f a : Addr) (fr : List T3) (last : Nat) (es : List E2), vs = [.ref f, .ref a] ∧ FrA H f fr ∧ Frm fr last ∧ WvA H a es ∧ es.length ≤ 60 ∧ lineOf fr (.tuple (es.map d2)) = some es ∧ (∀ e ∈ es, Ent fr e) ∧ es ≠ [] ∧ ∀ H', Same H H' → Q (.bl (wholeE fr es)) H'
def spIsClean : Sp := fun vs H Q _ => ∃ (f a : Addr) (fr : List T3) (last : Nat) (es : List E2), vs = [.ref f, .ref a] ∧ FrA H f fr ∧ Frm fr last ∧ WvA H a es ∧ Wv fr es ∧ ∀ H', Same H H' → Q (.bl (clE fr es)) H'
structure Ic (K : PySem.W.Frag) (mg : Str → Option Value) where
  S : Hs K mg
  f : Addr
  d : FuncData
  F : Fun K "is_clean" "is_clean" sIsClean f d
  b : Binds K d ["framing", "weaving"] []
  m : mg "is_clean" = some (.ref f)
  tu : mg "tuple" = none
section
variable {P : Program} {w : World} {K : PySem.W.Frag} {mg : Str → Option Value} {base : Heap}
theorem ok_wholeR (S : Hs K mg) : FnOk P w K mg base CX0 5 S.f2 S.d2 ["framing", "entries"] spWholeR := by
  have GF : FnOk P w K mg base CX0 3 S.G.U.Y.Z.fF S.G.U.Y.Z.dF ["thing"] spNeedF := ok_needF S.G.U.Y.Z
  have GR : FnOk P w K mg base CX0 4 S.f1 S.d1 ["framing", "thing"] spIsRead := ok_isRead S
  have GO : FnOk P w K mg base CX0 2 S.O.f S.O.d ["self", "text"] (spNo K S.O.C) := ok_OutOfPlace S.O.F S.O.T S.O.I S.O.FM S.O.bM S.O.mM S.O.TM
  refine S.W.ok scIsWhole (fun vs H Q E h => ?_) (fun cdv A outer s H vs Q E hr h => ?_)
  · obtain ⟨f, a, fr, last, es, rfl, _⟩ := h
    rfl
  · obtain ⟨f, a, fr, last, es, rfl, fa, fm, wa, l60, el, ent, ne, q⟩ := h
    have da := da_wv wa
    have r3 := hr.mono (j := 3) (by omega)
    refine ⟨_, pss_cons (ps_expr (pe_call GF r3 (by rfl) S.G.U.Y.Z.mF S.G.U.Y.Z.F.kp S.G.U.Y.Z.bF .nil pass0 (pa_cons (pv 0) pa_nil)))
      (pss_cons (ps_if (pt_not (pt_val (pe_call GR hr (by rfl) S.mR S.R.kp S.bR .nil pass0 (pa_cons (pv 0) (pa_cons (pv 1) pa_nil)))))
        pss_never pss_nil)
      (pss_cons (ps_asg (pe_ix ix_tup (pv 1) pe_int (fun _ _ => rfl)) (pg_tup rfl (pgs_cons (pg_name (i := 2) scIsWhole.nd rfl (Or.inr rfl)) (pgs_cons (pg_name (i := 3) scIsWhole.nd rfl (Or.inl rfl)) pgs_nil))))
      (pss_one (ps_ret (pe_and (pe_cmpR op_eq (pe_ix ix_tup (pe_ix ix_tup (pv 0) (pv 3) (fun _ _ => rfl)) pe_int (fun _ _ => rfl)) pe_int (nomark _))
        (pe_one (pe_callB (cr_all rfl) (by rfl) S.G.U.Y.Z.T.all (by decide +kernel) (pa_cons (pe_lc (own := [("writer", 4), ("further", 5)]) (g := gTup K 2 (gCons (gName 4) (gCons (gName 5) gNil))) (te := tOp rEq (tVar 4) (tVar 2)) rfl scIsWhole.nd (pi_tup (pv 1))
          (blkOk_by (N := ["framing", "entries", "first", "step", "writer", "further"]) (sc := defScope sIsWhole) (by decide +kernel))
          (fun _ _ _ _ _ => pg_tup rfl (pgs_cons (pg_name (i := 4) scIsWhole.nd rfl (Or.inl rfl)) (pgs_cons (pg_name (i := 5) scIsWhole.nd rfl (Or.inl rfl)) pgs_nil))) (fun _ _ _ _ _ => pts_nil)
          (fun _ _ _ _ _ => pe_cmpR op_eq (pv 4) (pv 2) (by rfl))) pa_nil)))))))), ?_⟩
    refine ⟨_, rfl, f, fr, last, rfl, fa, fm, fun H1 s1 => ?_⟩
    refine ⟨_, rfl, _, rfl, f, .ref a, fr, last, .tuple (es.map d2), rfl, fa.same s1, fm, Da.same s1 _ _ da, by show (es.map d2).length ≤ 60; rw [List.length_map]; exact l60, fun H2 s2 => ?_⟩
    have s12 := s1.trans s2
    rw [el]
    refine ⟨_, rfl, iteF ?_⟩
    have wa := wa.same s12
    match es, ne with
    | e0 :: rest, _ =>
      obtain ⟨tw, hw, wl, wt⟩ := id wa
      obtain ⟨t0, ht0⟩ : ∃ t0, tw[0]? = some t0 := by
        refine ⟨tw[0]'(by rw [wl]; simp), List.getElem?_eq_getElem _⟩
      have h0 := wt 0 t0 e0 ht0 rfl
      obtain ⟨e1, e2, n0, n1⟩ := ent e0 (List.mem_cons_self ..)
      obtain ⟨ts, t2, hf, ha, h3, _⟩ := stt_at (fa.same s12) n0 n1
      refine ⟨_, rfl, a, _, 0, .ref t0, rfl, rfl, SqT.of hw, atI_nat (j := 0) (by rw [List.getElem?_map, ht0]; rfl), t0, _, rfl, SqT.of h0, rfl, _, _, rfl, _, _, rfl, rfl, ?_⟩
      refine ⟨_, rfl, _, rfl, f, _, e0.2, .ref t2, rfl, rfl, SqT.of hf, ha, t2, _, 0, _, rfl, rfl, SqT.of h3, atI_nat (j := 0) rfl, rfl, _, rfl, ?_⟩
      refine ite2 (fun y => ?_) (fun y => ?_)
      · have y1 : (stt fr e0.2).1 = 0 := V.int.inj (of_decide_eq_true y)
        refine ⟨_, rfl, a, rfl, ⟨_, SqT.of hw⟩, fun D hD => ?_⟩
        refine lc_it (walk_tup (xs := tw.map V.ref)) (fun i H' => H' D = some (.lst ((((e0 :: rest).take i).map fun e => decide (e.1 = e0.1)).map V.bl)) ∧ ∀ b o, H2 b = some o → H' b = some o) ⟨upd_same, fun b o z => same_upd hD b o z⟩ (fun i H' _ z => SqT.of (z.2 _ _ hw)) ?_ ?_
        · rintro i x H3 H4 hi ⟨hl, kp⟩ ⟨rfl, hx⟩
          obtain ⟨t, e, he, _, rfl, e4⟩ := at_ent (i := i) wl wt hx
          refine ⟨t, _, rfl, SqT.of (kp _ _ e4), rfl, _, _, rfl, _, _, rfl, rfl, rfl, ?_⟩
          refine ⟨_, rfl, _, rfl, rfl, _, hl, ?_, ?_, fun b o z => ?_⟩
          · rw [List.length_map, List.length_map, List.length_take, sizeLine_eq]
            omega
          · rw [take_one he, List.map_append, List.map_append]
            have eb : decide (V.int e.1 = V.int e0.1) = decide (e.1 = e0.1) := by
              by_cases c : e.1 = e0.1
              · rw [decide_eq_true c, decide_eq_true (congrArg V.int c)]
              · rw [decide_eq_false c, decide_eq_false (fun k => c (V.int.inj k))]
            show upd H4 D (.lst (_ ++ [V.bl (decide (V.int e.1 = V.int e0.1))])) D = some (.lst (_ ++ [V.bl (decide (e.1 = e0.1))]))
            rw [eb]
            exact upd_same
          · rw [upd_ne (ne_of_none z hD)]
            exact kp b o z
        · rintro H3 ⟨hl, kp⟩
          have e9 : (e0 :: rest).take (tw.map V.ref).length = e0 :: rest := by
            rw [List.length_map, wl, List.take_length]
          rw [e9] at hl
          refine ⟨D, _, rfl, SqL.of hl, ?_⟩
          have z := q H3 (s12.trans kp)
          have ew : wholeE fr (e0 :: rest) = ((e0 :: rest).map fun e => decide (e.1 = e0.1)).all id := by
            show (decide ((stt fr e0.2).1 = 0) && (e0 :: rest).all fun e => decide (e.1 = e0.1)) = _
            rw [decide_eq_true y1, Bool.true_and, List.all_map]
            rfl
          rw [← ew]
          exact z
      · have y1 : ¬ (stt fr e0.2).1 = 0 := fun k => y (decide_eq_true (congrArg V.int k))
        have z := q H2 s12
        have ew : wholeE fr (e0 :: rest) = false := by
          show (decide ((stt fr e0.2).1 = 0) && (e0 :: rest).all fun e => decide (e.1 = e0.1)) = _
          rw [decide_eq_false y1, Bool.false_and]
        have z : Q (.bl (wholeE fr (e0 :: rest))) H2 := z
        rw [ew] at z
        exact z
theorem scIsClean : FnScope ["framing", "weaving", "lines", "line"] ["framing", "weaving"] (defScope sIsClean) := ⟨rfl, rfl, rfl, by decide +kernel, rfl, by decide +kernel, by decide +kernel⟩
theorem ok_isClean (Z : Ic K mg) : FnOk P w K mg base CX0 6 Z.f Z.d ["framing", "weaving"] spIsClean := by
  have GR : FnOk P w K mg base CX0 5 Z.S.G.fR Z.S.G.dR ["framing", "weaving"] spRead := ok_read Z.S.G Z.tu
  have GW : FnOk P w K mg base CX0 5 Z.S.f2 Z.S.d2 ["framing", "entries"] spWholeR := ok_wholeR Z.S
  refine Z.F.ok scIsClean (fun vs H Q E h => ?_) (fun cdv A outer s H vs Q E hr h => ?_)
  · obtain ⟨f, a, fr, last, es, rfl, _⟩ := h
    rfl
  · obtain ⟨f, a, fr, last, es, rfl, fa, fm, wa, wo, q⟩ := h
    refine ⟨_, pss_cons (ps_set (i := 2) scIsClean.nd rfl (Or.inl rfl) (pe_call GR hr (by rfl) Z.S.G.mR Z.S.G.R.kp Z.S.G.bR .nil pass0 (pa_cons (pv 0) (pa_cons (pv 1) pa_nil))))
      (pss_one (ps_ret (pe_callB (cr_all rfl) (by rfl) Z.S.G.U.Y.Z.T.all (by decide +kernel) (pa_cons (pe_lc (own := [("line", 3)]) (g := gName 3) (te := tCall spWholeR [] E0 (tCons (tVar 0) (tCons (tVar 3) tNil))) rfl scIsClean.nd (pi_tup (pv 2))
          (blkOk_by (N := ["framing", "weaving", "lines", "line"]) (sc := defScope sIsClean) (by decide +kernel))
          (fun _ _ _ _ _ => pg_name (i := 3) scIsClean.nd rfl (Or.inl rfl)) (fun _ _ _ _ _ => pts_nil)
          (fun _ _ _ _ _ => pe_call GW hr (by rfl) Z.S.mW Z.S.W.kp Z.S.bW .nil pass0 (pa_cons (pv 0) (pa_cons (pv 3) pa_nil)))) pa_nil)))), ?_⟩
    refine ⟨_, rfl, _, rfl, f, a, fr, last, es, rfl, fa, fm, wa, wo, fun H1 p s1 ln => ?_⟩
    have l61 := spl_len wo
    obtain ⟨qs, hp, ql, qa⟩ := id ln
    rw [(spl_is fr es).1] at ql qa
    refine ⟨_, rfl, p, rfl, ⟨_, SqT.of hp⟩, fun D hD => ?_⟩
    refine lc_it (walk_tup (xs := qs.map V.ref)) (fun i H' => H' D = some (.lst ((((spl fr es).1.take i).map (wholeE fr)).map V.bl)) ∧ Same H1 H') ⟨upd_same, same_upd hD⟩ (fun i H' _ z => SqT.of (z.2 _ _ hp)) ?_ ?_
    · rintro i x H2 H3 hi ⟨hl, s2⟩ ⟨rfl, hx⟩
      rw [List.length_map] at hi
      have iq : qs[i]? = some qs[i] := List.getElem?_eq_getElem hi
      rw [List.getElem?_map, iq] at hx
      obtain rfl : V.ref qs[i] = x := Option.some.inj hx
      have il : (spl fr es).1[i]? = some (spl fr es).1[i] := List.getElem?_eq_getElem (by omega)
      have lm := List.getElem_mem (l := (spl fr es).1) (n := i) (by omega)
      have wl := (qa i _ _ iq il).same s2
      generalize (spl fr es).1[i] = l at *
      obtain ⟨l1, l2, l3, l4⟩ := line_is wo lm
      refine ⟨rfl, _, rfl, _, rfl, f, qs[i], fr, last, l, rfl, (fa.same s1).same s2, fm, wl, l3, l1, l2, l4.1, fun H4 s4 => ?_⟩
      refine ⟨_, s4 _ _ hl, ?_, ?_, same_push hD (s2.trans s4)⟩
      · rw [List.length_map, List.length_map, List.length_take, sizeLine_eq]
        omega
      · rw [take_one il, List.map_append, List.map_append]
        exact upd_same
    · rintro H2 ⟨hl, s2⟩
      rw [List.length_map, ql, List.take_length] at hl
      refine ⟨D, _, rfl, SqL.of hl, ?_⟩
      have z := q H2 (s1.trans s2)
      have ew : clE fr es = ((spl fr es).1.map (wholeE fr)).all id := by
        unfold clE
        rw [List.all_map]
        rfl
      rw [← ew]
      exact z
end
end K39

set_option Elab.async false
set_option linter.all false
set_option maxRecDepth 100000
set_option maxHeartbeats 4000000
/-! How many weavings are clean. -/
namespace K39
open PySem L2 L2.EV
theorem sum_zero : ∀ {l : List Nat}, (∀ x ∈ l, x = 0) → l.sum = 0
  | [], _ => rfl
  | x :: l, h => by
    rw [List.sum_cons, h x (List.mem_cons_self ..), sum_zero fun y hy => h y (List.mem_cons_of_mem _ hy)]
/-- whether all lines are whole, entry by entry -/
def clG (fr : List T3) : List E2 → List E2 → Bool
  | _, [] => true
  | r, e :: es => if ends fr e = true then wholeE fr (r ++ [e]) && clG fr [] es else clG fr (r ++ [e]) es
theorem clE_G {fr : List T3} {es : List E2} : clE fr es = clG fr [] es := by
  have g : ∀ (es : List E2) (ls : List (List E2)) (r : List E2), ((es.foldl (fun a e => if ends fr e = true then (a.1 ++ [a.2 ++ [e]], []) else (a.1, a.2 ++ [e])) (ls, r)).1).all (wholeE fr) = (ls.all (wholeE fr) && clG fr r es) := by
    intro es
    induction es with
    | nil => exact fun ls r => (Bool.and_true _).symm
    | cons e es ih =>
      intro ls r
      rw [List.foldl_cons]
      show _ = (ls.all (wholeE fr) && (if ends fr e = true then wholeE fr (r ++ [e]) && clG fr [] es else clG fr (r ++ [e]) es))
      by_cases c : ends fr e = true
      · rw [if_pos c, if_pos c, ih, List.all_append, Bool.and_assoc]
        simp
      · rw [if_neg c, if_neg c, ih]
  have z := g es [] []
  unfold clE spl
  rw [z]
  rfl
/-- how many orders of what is left are clean -/
def cn (fr : List T3) (k : Nat) (R : List (List Int)) (r : List E2) : Nat := (rowsL k (R.map List.length)).countP fun row => clG fr r (byF R row)
/-- those that begin with a writer -/
def cb (fr : List T3) (k : Nat) (R : List (List Int)) (r : List E2) (w : Nat) : Nat :=
  match R.getD w [] with
  | [] => 0
  | s :: t => if ends fr ((w : Int), s) = true then (if wholeE fr (r ++ [((w : Int), s)]) = true then cn fr k (R.set w t) [] else 0) else cn fr k (R.set w t) (r ++ [((w : Int), s)])
theorem len_getD {R : List (List Int)} {w : Nat} : (R.map List.length).getD w 0 = (R.getD w []).length := by
  rw [List.getD_eq_getElem?_getD, List.getD_eq_getElem?_getD, List.getElem?_map]
  cases R[w]? <;> rfl
theorem less_map {R : List (List Int)} {w : Nat} {s : Int} {t : List Int} (h : R.getD w [] = s :: t) : lessN (R.map List.length) w = (R.set w t).map List.length := by
  unfold lessN
  rw [List.map_set, len_getD, h]
  rfl
theorem cn_succ {fr : List T3} {k : Nat} {R : List (List Int)} {r : List E2} : cn fr (k + 1) R r = ((List.range R.length).map (cb fr k R r)).sum := by
  unfold cn
  rw [rowsL_succ, List.countP_flatMap, List.length_map]
  congr 1
  refine List.map_congr_left fun w hw => ?_
  show (blockL k (R.map List.length) w).countP _ = _
  unfold blockL cb
  rw [len_getD]
  cases h : R.getD w [] with
  | nil => rfl
  | cons s t =>
    rw [if_neg (by simp), List.countP_map, less_map h]
    show List.countP (fun row => clG fr r (byF R (w :: row))) _ = _
    have e : ∀ row, byF R (w :: row) = ((w : Int), s) :: byF (R.set w t) row := fun row => by
      show ((w : Int), (R.getD w []).headD 0) :: byF (R.set w (R.getD w []).tail) row = _
      rw [h]
      rfl
    have g : ∀ row, clG fr r (byF R (w :: row)) = (if ends fr ((w : Int), s) = true then wholeE fr (r ++ [((w : Int), s)]) && clG fr [] (byF (R.set w t) row) else clG fr (r ++ [((w : Int), s)]) (byF (R.set w t) row)) := fun row => by
      rw [e]
      rfl
    by_cases c : ends fr ((w : Int), s) = true
    · show _ = if ends fr ((w : Int), s) = true then (if wholeE fr (r ++ [((w : Int), s)]) = true then cn fr k (R.set w t) [] else 0) else _
      rw [if_pos c]
      cases d : wholeE fr (r ++ [((w : Int), s)]) with
      | true =>
        rw [if_pos rfl]
        refine List.countP_congr fun row _ => ?_
        rw [g, if_pos c, d]
        simp
      | false =>
        rw [if_neg (by simp), List.countP_eq_zero]
        intro row _
        rw [g, if_pos c, d]
        simp
    · show _ = if ends fr ((w : Int), s) = true then _ else cn fr k (R.set w t) (r ++ [((w : Int), s)])
      rw [if_neg c]
      refine List.countP_congr fun row _ => ?_
      rw [g, if_neg c]
/-- what a writer has still to put -/
theorem set_len_sum {R : List (List Int)} {w k : Nat} {s : Int} {t : List Int} (h : R.getD w [] = s :: t) (hs : (R.map List.length).sum = k + 1) : ((R.set w t).map List.length).sum = k := by
  rw [← less_map h]
  have nz : (R.map List.length).getD w 0 ≠ 0 := by
    rw [len_getD, h]
    simp
  have := less_sum1 (pos_lt nz) nz
  omega
theorem lt_of_getD {R : List (List Int)} {w : Nat} {s : Int} {t : List Int} (h : R.getD w [] = s :: t) : w < R.length := by
  rcases Nat.lt_or_ge w R.length with l | l
  · exact l
  · rw [List.getD_eq_getElem?_getD, List.getElem?_eq_none l] at h
    cases h
theorem set_getD {R : List (List Int)} {w v : Nat} {t : List Int} (h : w < R.length) : (R.set w t).getD v [] = if w = v then t else R.getD v [] := by
  rw [List.getD_eq_getElem?_getD, List.getElem?_set]
  by_cases c : w = v
  · rw [if_pos c, if_pos c, if_pos (by omega)]
    rfl
  · rw [if_neg c, if_neg c, List.getD_eq_getElem?_getD]
/-- two writers in one line -/
def Mixed (r : List E2) : Prop := ∃ a ∈ r, ∃ b ∈ r, a.1 ≠ b.1
theorem mixed_not {fr : List T3} {r : List E2} (h : Mixed r) : wholeE fr r = false := by
  obtain ⟨a, ha, b, hb, ne⟩ := h
  cases c : wholeE fr r with
  | false => rfl
  | true =>
    unfold wholeE at c
    rw [Bool.and_eq_true, List.all_eq_true] at c
    have h1 := of_decide_eq_true (c.2 a ha)
    have h2 := of_decide_eq_true (c.2 b hb)
    exact absurd (h1.trans h2.symm) ne
theorem mixed_app {r : List E2} {e : E2} (h : Mixed r) : Mixed (r ++ [e]) := by
  obtain ⟨a, ha, b, hb, ne⟩ := h
  exact ⟨a, List.mem_append_left _ ha, b, List.mem_append_left _ hb, ne⟩
/-- a step that ends a line -/
def enS (fr : List T3) (s : Int) : Bool := decide ((stt fr s).2.2 = 0)
theorem ends_S {fr : List T3} {w s : Int} : ends fr (w, s) = enS fr s := rfl
theorem cn_mixed {fr : List T3} : ∀ {k : Nat} {R : List (List Int)} {r : List E2}, (R.map List.length).sum = k → Mixed r → (∃ w, ∃ s ∈ R.getD w [], enS fr s = true) → cn fr k R r = 0
  | 0, R, r, h, m, ⟨w, s, hs, _⟩ => by
    have z := sum_getD (w := w) h
    rw [len_getD] at z
    rw [List.length_eq_zero_iff.mp z] at hs
    cases hs
  | k + 1, R, r, h, m, ⟨w, s, hs, he⟩ => by
    rw [cn_succ]
    refine sum_zero fun x hx => ?_
    obtain ⟨v, hv, rfl⟩ := List.mem_map.mp hx
    unfold cb
    cases q : R.getD v [] with
    | nil => rfl
    | cons a t =>
      show (if ends fr ((v : Int), a) = true then (if wholeE fr (r ++ [((v : Int), a)]) = true then _ else 0) else cn fr k (R.set v t) (r ++ [((v : Int), a)])) = 0
      by_cases c : ends fr ((v : Int), a) = true
      · rw [if_pos c, mixed_not (mixed_app m)]
        rfl
      · rw [if_neg c]
        refine cn_mixed (set_len_sum q h) (mixed_app m) ⟨w, s, ?_, he⟩
        rw [set_getD (lt_of_getD q)]
        by_cases d : v = w
        · subst d
          rw [if_pos rfl]
          rw [q] at hs
          rcases List.mem_cons.mp hs with rfl | hs
          · exact absurd he c
          · exact hs
        · rw [if_neg d]
          exact hs
/-- a line's rest: it ends at its end alone -/
def tlF (fr : List T3) : List Int → Prop
  | [] => False
  | [s] => enS fr s = true
  | s :: t :: l => enS fr s = false ∧ tlF fr (t :: l)
theorem tl_end {fr : List T3} : ∀ {l : List Int}, tlF fr l → ∃ s ∈ l, enS fr s = true
  | [s], h => ⟨s, List.mem_cons_self .., h⟩
  | s :: t :: l, h => by
    obtain ⟨x, hx, hy⟩ := tl_end h.2
    exact ⟨x, List.mem_cons_of_mem _ hx, hy⟩
theorem fol_tl {fr : List T3} : ∀ {l : List Int} {st : Int} {i : Nat}, l ≠ [] → folF fr l st i = true → tlF fr l
  | [], _, _, h, _ => absurd rfl h
  | [s], st, i, _, h => by
    have h : (decide ((stt fr s).1 = st) && (!(decide (0 < i) && decide ((stt fr s).1 = 0)) && decide ((stt fr s).2.2 = 0))) = true := h
    rw [Bool.and_eq_true, Bool.and_eq_true] at h
    exact h.2.2
  | s :: t :: l, st, i, _, h => by
    have h : (decide ((stt fr s).1 = st) && (!(decide (0 < i) && decide ((stt fr s).1 = 0)) && folF fr (t :: l) (stt fr s).2.2 (i + 1))) = true := h
    rw [Bool.and_eq_true, Bool.and_eq_true] at h
    have h2 := h.2.2
    have g : (decide ((stt fr t).1 = (stt fr s).2.2) && (!(decide (0 < i + 1) && decide ((stt fr t).1 = 0)) && folF fr l (stt fr t).2.2 (i + 1 + 1))) = true := h2
    rw [Bool.and_eq_true, Bool.and_eq_true] at g
    refine ⟨?_, fol_tl (by simp) h2⟩
    have g1 := of_decide_eq_true g.1
    have g2 := g.2.1
    rw [decide_eq_true (by omega), Bool.true_and, g1] at g2
    simpa [enS] using g2
/-- a line by its steps -/
structure Lg (fr : List T3) (l : List Int) : Prop where
  tl : tlF fr l
  st : (stt fr (l.headD 0)).1 = 0
theorem gl_lg {fr : List T3} {l : Lin} (h : Gl fr l) : Lg fr l := by
  refine ⟨fol_tl h.ne h.fol, ?_⟩
  cases l with
  | nil => exact absurd rfl h.ne
  | cons s t =>
    have f := h.fol
    have f : (decide ((stt fr s).1 = 0) && (!(decide (0 < 0) && decide ((stt fr s).1 = 0)) && folF fr t (stt fr s).2.2 1)) = true := f
    rw [Bool.and_eq_true] at f
    exact of_decide_eq_true f.1
/-- lines of all writers, one of them within a line -/
def RB (L : List (List Lin)) (v : Nat) (t : List Int) : List (List Int) := (L.map List.flatten).set v (t ++ (L.getD v []).flatten)
theorem flat_getD2 {L : List (List Lin)} (w : Nat) : (L.map List.flatten).getD w [] = (L.getD w []).flatten := by
  rw [List.getD_eq_getElem?_getD, List.getD_eq_getElem?_getD, List.getElem?_map]
  cases L[w]? <;> rfl
theorem one_sum {f : Nat → Nat} {n v : Nat} (hv : v < n) (h : ∀ w, w < n → w ≠ v → f w = 0) : ((List.range n).map f).sum = f v := by
  induction n with
  | zero => omega
  | succ n ih =>
    rw [List.range_succ, List.map_append, List.sum_append]
    by_cases c : v = n
    · subst c
      have z : ((List.range v).map f).sum = 0 := sum_zero fun x hx => by
        obtain ⟨w, hw, rfl⟩ := List.mem_map.mp hx
        have := List.mem_range.mp hw
        exact h w (by omega) (by omega)
      rw [z]
      simp
    · rw [ih (by omega) fun w hw hn => h w (by omega) hn]
      have := h n (by omega) (fun z => c z.symm)
      simp [this]
/-- all of one writer, the first one from standing 0 -/
structure Pure (fr : List T3) (v : Nat) (r : List E2) : Prop where
  ne : r ≠ []
  one : ∀ e ∈ r, e.1 = (v : Int)
  st : (stt fr (r.headD (0, 0)).2).1 = 0
theorem pure_app {fr : List T3} {v : Nat} {r : List E2} {s : Int} (h : Pure fr v r) : Pure fr v (r ++ [((v : Int), s)]) := by
  refine ⟨by simp, fun e he => ?_, ?_⟩
  · rcases List.mem_append.mp he with he | he
    · exact h.one e he
    · cases List.mem_singleton.mp he
      rfl
  · cases r with
    | nil => exact absurd rfl h.ne
    | cons a r => exact h.st
theorem pure_whole {fr : List T3} {v : Nat} {r : List E2} (h : Pure fr v r) : wholeE fr r = true := by
  unfold wholeE
  rw [decide_eq_true h.st, Bool.true_and, List.all_eq_true]
  intro e he
  cases r with
  | nil => exact absurd rfl h.ne
  | cons a r => exact decide_eq_true ((h.one e he).trans (h.one a (List.mem_cons_self ..)).symm)
theorem pure_mix {fr : List T3} {v w : Nat} {r : List E2} {s : Int} (h : Pure fr v r) (n : w ≠ v) : Mixed (r ++ [((w : Int), s)]) := by
  cases r with
  | nil => exact absurd rfl h.ne
  | cons a r => exact ⟨a, by simp, ((w : Int), s), by simp, by rw [h.one a (List.mem_cons_self ..)]; show (v : Int) ≠ (w : Int); omega⟩
theorem setset {L : List (List Lin)} {v : Nat} {t : List Int} (x : List Int) : (RB L v t).set v x = (L.map List.flatten).set v x := by
  unfold RB
  rw [List.set_set]
theorem set_same {L : List (List Lin)} {v : Nat} : (L.map List.flatten).set v (L.getD v []).flatten = L.map List.flatten := by
  refine List.ext_getElem (by simp) fun i h1 h2 => ?_
  rw [List.getElem_set]
  by_cases c : v = i
  · subst c
    rw [List.length_map] at h2
    rw [if_pos rfl, List.getElem_map, List.getD_eq_getElem?_getD, List.getElem?_eq_getElem h2]
    rfl
  · rw [if_neg c]
theorem lens_less {L : List (List Lin)} {w : Nat} {l : Lin} {ls : List Lin} (h : L.getD w [] = l :: ls) : (L.set w ls).map List.length = lessN (L.map List.length) w := by
  unfold lessN
  rw [List.map_set]
  congr 1
  rw [List.getD_eq_getElem?_getD, List.getElem?_map]
  rw [List.getD_eq_getElem?_getD] at h
  cases q : L[w]? with
  | none =>
    rw [q] at h
    cases h
  | some p =>
    rw [q] at h
    have h : p = l :: ls := h
    rw [h]
    rfl
theorem mem_getD {L : List (List Lin)} {w : Nat} {l : Lin} (h : l ∈ L.getD w []) : ∃ p ∈ L, l ∈ p := by
  rw [List.getD_eq_getElem?_getD] at h
  cases q : L[w]? with
  | none =>
    rw [q] at h
    cases h
  | some p =>
    rw [q] at h
    exact ⟨p, List.mem_of_getElem? q, h⟩
theorem mem_setL {L : List (List Lin)} {w : Nat} {l : Lin} {ls : List Lin} (h : L.getD w [] = l :: ls) : ∀ p ∈ L.set w ls, ∀ x ∈ p, ∃ p2 ∈ L, x ∈ p2 := by
  intro p hp x hx
  rcases List.mem_or_eq_of_mem_set hp with hp | rfl
  · exact ⟨p, hp, hx⟩
  · exact mem_getD (w := w) (by rw [h]; exact List.mem_cons_of_mem _ hx)
theorem cn_both {fr : List T3} : ∀ (k : Nat), (∀ L : List (List Lin), ((L.map List.flatten).map List.length).sum = k → (∀ p ∈ L, ∀ l ∈ p, Lg fr l) → cn fr k (L.map List.flatten) [] = ordN (L.map List.length)) ∧
    ∀ (L : List (List Lin)) (v : Nat) (t : List Int) (r : List E2), v < L.length → ((RB L v t).map List.length).sum = k → (∀ p ∈ L, ∀ l ∈ p, Lg fr l) → tlF fr t → Pure fr v r → cn fr k (RB L v t) r = ordN (L.map List.length) := by
  intro k
  induction k with
  | zero =>
    refine ⟨fun L h g => ?_, fun L v t r hv h g ht pr => ?_⟩
    · have em : ∀ p ∈ L, p = [] := fun p hp => by
        obtain ⟨i, hi, rfl⟩ := List.getElem_of_mem hp
        have z := sum_getD (w := i) h
        rw [len_getD, flat_getD2] at z
        rw [List.getD_eq_getElem?_getD, List.getElem?_eq_getElem hi] at z
        have z : L[i].flatten = [] := List.length_eq_zero_iff.mp z
        cases q : L[i] with
        | nil => rfl
        | cons l ls =>
          rw [q, List.flatten_cons, List.append_eq_nil_iff] at z
          have := (g _ hp l (by rw [q]; exact List.mem_cons_self ..)).tl
          rw [z.1] at this
          exact this.elim
      have s0 : (L.map List.length).sum = 0 := sum_zero fun x hx => by
        obtain ⟨p, hp, rfl⟩ := List.mem_map.mp hx
        rw [em p hp]
        rfl
      rw [ord_zero s0]
      rfl
    · have z := sum_getD (w := v) h
      rw [len_getD] at z
      unfold RB at z
      rw [set_getD (by rw [List.length_map]; exact hv), if_pos rfl, List.length_append] at z
      have : t = [] := List.length_eq_zero_iff.mp (by omega)
      rw [this] at ht
      exact ht.elim
  | succ k ih =>
    obtain ⟨ihA, ihB⟩ := ih
    refine ⟨fun L h g => ?_, fun L v t r hv h g ht pr => ?_⟩
    · rw [cn_succ, List.length_map]
      have pos : 0 < (L.map List.length).sum := by
        rcases Nat.eq_zero_or_pos (L.map List.length).sum with z | z
        · exfalso
          have em : ∀ w, L.getD w [] = [] := fun w => by
            have q := sum_getD (w := w) z
            rw [List.getD_eq_getElem?_getD, List.getElem?_map] at q
            rw [List.getD_eq_getElem?_getD]
            cases e : L[w]? with
            | none => rfl
            | some p =>
              rw [e] at q
              exact List.length_eq_zero_iff.mp q
          have : ((L.map List.flatten).map List.length).sum = 0 := sum_zero fun x hx => by
            obtain ⟨y, hy, rfl⟩ := List.mem_map.mp hx
            obtain ⟨p, hp, rfl⟩ := List.mem_map.mp hy
            obtain ⟨i, hi, rfl⟩ := List.getElem_of_mem hp
            have := em i
            rw [List.getD_eq_getElem?_getD, List.getElem?_eq_getElem hi] at this
            have this : L[i] = [] := this
            rw [this]
            rfl
          omega
        · exact z
      rw [← all_ow pos]
      unfold fromW
      rw [Nat.sub_zero, List.length_map]
      congr 1
      refine List.map_congr_left fun w hw => ?_
      have hw := List.mem_range.mp hw
      rw [Nat.zero_add]
      unfold cb owN
      rw [flat_getD2]
      have lz : (L.map List.length).getD w 0 = (L.getD w []).length := by
        rw [List.getD_eq_getElem?_getD, List.getD_eq_getElem?_getD, List.getElem?_map]
        cases L[w]? <;> rfl
      rw [lz]
      cases q : L.getD w [] with
      | nil => rfl
      | cons l ls =>
        have gl := (fun z : ∃ p ∈ L, l ∈ p => g _ z.choose_spec.1 l z.choose_spec.2) (mem_getD (w := w) (by rw [q]; exact List.mem_cons_self ..))
        have g2 : ∀ p ∈ L.set w ls, ∀ x ∈ p, Lg fr x := fun p hp x hx => by
          obtain ⟨p2, h1, h2⟩ := mem_setL q p hp x hx
          exact g p2 h1 x h2
        rw [if_neg (by simp), List.flatten_cons, ← lens_less q]
        have fq : (L.map List.flatten).getD w [] = l ++ ls.flatten := by
          rw [flat_getD2, q, List.flatten_cons]
        match l, gl with
        | [], gl => exact gl.tl.elim
        | [s], gl =>
          have e1 : ends fr ((w : Int), s) = true := gl.tl
          show (if ends fr ((w : Int), s) = true then (if wholeE fr ([] ++ [((w : Int), s)]) = true then cn fr k ((L.map List.flatten).set w ls.flatten) [] else 0) else _) = _
          have pw : wholeE fr ([] ++ [((w : Int), s)]) = true := pure_whole (v := w) ⟨by simp, fun e he => by cases List.mem_singleton.mp he; rfl, gl.st⟩
          rw [if_pos e1, if_pos pw, ← List.map_set]
          refine ihA (L.set w ls) ?_ g2
          rw [List.map_set]
          exact set_len_sum fq h
        | s :: s2 :: l2, gl =>
          have e1 : ¬ ends fr ((w : Int), s) = true := fun z => by
            have := gl.tl.1
            rw [← ends_S (w := (w : Int)), z] at this
            cases this
          show (if ends fr ((w : Int), s) = true then _ else cn fr k ((L.map List.flatten).set w ((s2 :: l2) ++ ls.flatten)) ([] ++ [((w : Int), s)])) = _
          rw [if_neg e1]
          have er : (L.map List.flatten).set w ((s2 :: l2) ++ ls.flatten) = RB (L.set w ls) w (s2 :: l2) := by
            unfold RB
            rw [List.map_set, List.set_set]
            congr 2
            rw [List.getD_eq_getElem?_getD, List.getElem?_set_self (by omega)]
            rfl
          rw [er]
          refine ihB (L.set w ls) w (s2 :: l2) _ (by rw [List.length_set]; omega) ?_ g2 gl.tl.2 ⟨by simp, fun e he => by cases List.mem_singleton.mp he; rfl, gl.st⟩
          rw [← er]
          exact set_len_sum fq h
    · have RBv : (RB L v t).getD v [] = t ++ (L.getD v []).flatten := by
        unfold RB
        rw [set_getD (by rw [List.length_map]; exact hv), if_pos rfl]
      have RBl : (RB L v t).length = L.length := by
        unfold RB
        rw [List.length_set, List.length_map]
      rw [cn_succ, RBl, one_sum hv fun w hw hn => ?_]
      · unfold cb
        rw [RBv]
        match t, ht with
        | [s], ht =>
          have e1 : ends fr ((v : Int), s) = true := ht
          show (if ends fr ((v : Int), s) = true then (if wholeE fr (r ++ [((v : Int), s)]) = true then cn fr k ((RB L v [s]).set v (L.getD v []).flatten) [] else 0) else _) = _
          rw [if_pos e1, if_pos (pure_whole (pure_app pr)), setset, set_same]
          refine ihA L ?_ g
          have z : (((RB L v [s]).set v (L.getD v []).flatten).map List.length).sum = k := set_len_sum RBv h
          rw [setset, set_same] at z
          exact z
        | s :: s2 :: l2, ht =>
          have e1 : ¬ ends fr ((v : Int), s) = true := fun z => by
            have := ht.1
            rw [← ends_S (w := (v : Int)), z] at this
            cases this
          show (if ends fr ((v : Int), s) = true then _ else cn fr k ((RB L v (s :: s2 :: l2)).set v ((s2 :: l2) ++ (L.getD v []).flatten)) (r ++ [((v : Int), s)])) = _
          rw [if_neg e1, setset]
          refine ihB L v (s2 :: l2) _ hv ?_ g ht.2 (pure_app pr)
          have z := set_len_sum RBv h
          rw [setset] at z
          exact z
      · unfold cb
        cases q : (RB L v t).getD w [] with
        | nil => rfl
        | cons a l =>
          show (if ends fr ((w : Int), a) = true then (if wholeE fr (r ++ [((w : Int), a)]) = true then _ else 0) else cn fr k ((RB L v t).set w l) (r ++ [((w : Int), a)])) = 0
          by_cases c : ends fr ((w : Int), a) = true
          · rw [if_pos c, mixed_not (pure_mix pr hn)]
            rfl
          · rw [if_neg c]
            refine cn_mixed (set_len_sum q h) (pure_mix pr hn) ?_
            obtain ⟨s, hs, he⟩ := tl_end ht
            refine ⟨v, s, ?_, he⟩
            rw [set_getD (lt_of_getD q), if_neg hn, RBv]
            exact List.mem_append_left _ hs
/-- how many weavings of a score are clean -/
theorem clean_count {fr : List T3} {ps : List (List Lin)} (gs : Gs fr ps) : (rowsL (szS ps) (ps.map sz1)).countP (fun row => clE fr (byF (ps.map List.flatten) row)) = clnN ps := by
  have e : ps.map sz1 = (ps.map List.flatten).map List.length := by
    rw [List.map_map]
    exact List.map_congr_left fun p _ => sz1_flat.symm
  have z := (cn_both (fr := fr) (szS ps)).1 ps (by rw [← e]; rfl) (fun p hp l hl => gl_lg (gs.ln p hp l hl))
  unfold clnN
  rw [← z]
  unfold cn
  rw [e]
  exact List.countP_congr fun row _ => by rw [clE_G]
end K39

set_option Elab.async false
set_option linter.all false
set_option maxRecDepth 100000
set_option maxHeartbeats 4000000
/-! sorted(list of tuples of ints), any number of them. -/
namespace SX
open PySem PySem.Spec PyProof.Rows L2
def ltR (a b : List Int) : Bool := decide (a < b)
theorem swoR : SrtO.Swo ltR := by
  refine ⟨fun x y h => ?_, fun x y z h1 h2 => ?_⟩
  · exact decide_eq_false fun q => List.lt_asymm (of_decide_eq_true h) q
  · have a : ¬ y < x := of_decide_eq_false h1
    have b : ¬ z < y := of_decide_eq_false h2
    exact decide_eq_false fun q => absurd q (List.not_lt.mpr (List.le_trans (List.not_lt.mp a) (List.not_lt.mp b)))
theorem swoRk {α : Type} (k : α → List Int) : SrtO.Swo fun v u : α => ltR (k v) (k u) := ⟨fun x y => swoR.asym (k x) (k y), fun x y z => swoR.tr (k x) (k y) (k z)⟩
def IsInts : List Value → List Int → Prop
  | [], [] => True
  | u :: us, i :: is => (∃ t, u = .int i t) ∧ IsInts us is
  | [], _ :: _ => False
  | _ :: _, [] => False
theorem IsInts.len : ∀ {us : List Value} {is : List Int}, IsInts us is → us.length = is.length
  | [], [], _ => rfl
  | [], _ :: _, h => h.elim
  | _ :: _, [], h => h.elim
  | _ :: us, _ :: is, h => by rw [List.length_cons, List.length_cons, IsInts.len h.2]
/-- v is a tuple of these ints -/
def IsRow (h : Heap) (v : Value) (x : List Int) : Prop := ∃ (a : Addr) (o : Obj) (us : Array Value) (n : Nat), v = .ref a ∧ h.get? a = some o ∧ o.cls = .type "tuple" ∧ o.data = .seq us n ∧ IsInts us.toList x
theorem IsRow.keeps {h h' : Heap} {v : Value} {x : List Int} (p : IsRow h v x) (k : ∀ b o, h.get? b = some o → o.cls = .type "tuple" → h'.get? b = some o) : IsRow h' v x := by
  obtain ⟨a, o, us, n, e, ho, hc, hd, hi⟩ := p
  exact ⟨a, o, us, n, e, k _ _ ho hc, hc, hd, hi⟩
theorem firstsR {h : Heap} : ∀ {vs : List Value}, (∀ v ∈ vs, ∃ x, x ≠ [] ∧ IsRow h v x) → ∃ fs : List Value, PySem.W.KatTups h vs fs ∧ fs.length = vs.length ∧ ∀ f ∈ fs, ∃ x t, f = Value.int x t
  | [], _ => ⟨[], PySem.W.KatTups.nil, rfl, fun _ hm => by simp at hm⟩
  | v :: vs, hp => by
    obtain ⟨fs, h1, h2, h3⟩ := firstsR (vs := vs) fun v' hm => hp v' (List.mem_cons_of_mem _ hm)
    obtain ⟨x, nx, a, o, us, n, e, ho, hc, hd, hi⟩ := hp v (List.mem_cons_self ..)
    subst e
    obtain ⟨ul⟩ := us
    match ul, x, hi, nx with
    | [], [], _, nx => exact absurd rfl nx
    | [], _ :: _, hi, _ => exact hi.elim
    | _ :: _, [], hi, _ => exact hi.elim
    | u :: ul, i :: is, ⟨⟨t, e⟩, _⟩, _ =>
      subst e
      refine ⟨.int i t :: fs, PySem.W.KatTups.cons ho hc hd rfl h1, by rw [List.length_cons, List.length_cons, h2], fun f hm => ?_⟩
      rcases List.mem_cons.mp hm with rfl | hm
      · exact ⟨i, t, rfl⟩
      · exact h3 f hm
section
variable {prog : Program} {w : World} {A : Around} {E : Value → Shared → Prop} {s : Shared}
theorem kat_ints {b : Bool} {Q : Bool → Shared → Prop} : ∀ {us vs : List Value} {xs ys : List Int} {i : Nat} {fin : Bool}, IsInts us xs → IsInts vs ys → fin = decide (xs.length < ys.length) → Q (ltR xs ys) s → PySem.W.KatLex prog w A b fin Q (us.zip vs) i s
  | [], [], [], [], i, fin, _, _, e, q => by
    subst e
    exact PySem.W.kat_nil (by simpa [ltR] using q)
  | [], v :: vs, [], y :: ys, i, fin, _, _, e, q => by
    subst e
    exact PySem.W.kat_nil (by simpa [ltR] using q)
  | u :: us, [], x :: xs, [], i, fin, _, _, e, q => by
    subst e
    exact PySem.W.kat_nil (by simpa [ltR] using q)
  | u :: us, v :: vs, x :: xs, y :: ys, i, fin, ⟨⟨t, e1⟩, h1⟩, ⟨⟨t', e2⟩, h2⟩, e, q => by
    subst e1
    subst e2
    refine PySem.W.kat_cons (SeqAt.EqAt.int_int x t y t' prog w _ _ ?_)
    refine PySem.W.kat_go (fun e1 => ?_) (fun e1 => ?_)
    · have ex : x = y := by simpa using e1
      subst ex
      refine PySem.W.kat_yes (kat_ints h1 h2 (by rw [e, List.length_cons, List.length_cons]; simp) ?_)
      have z : ltR (x :: xs) (x :: ys) = ltR xs ys := by simp [ltR, List.cons_lt_cons_iff]
      rw [← z]
      exact q
    · have ex : ¬ x = y := by simpa using e1
      have z : ltR (x :: xs) (y :: ys) = decide (x < y) := by simp [ltR, List.cons_lt_cons_iff, ex]
      rw [z] at q
      refine PySem.W.kat_no ?_
      cases c : (b && i == 0) with
      | true => exact oneLt_int q
      | false => exact PySem.W.kat_one _ _ (PyProof.Rows.lt_int q)
  | [], _, _ :: _, _, _, _, h, _, _, _ => h.elim
  | _ :: _, _, [], _, _, _, h, _, _, _ => h.elim
  | _, [], _, _ :: _, _, _, _, h, _, _ => h.elim
  | _, _ :: _, _, [], _, _, _, h, _, _ => h.elim
theorem row_cmp {vs : List Value} {k : Value → List Int} (hp : ∀ v ∈ vs, IsRow s.heap v (k v)) : SrtO.Cmp prog w A s (tuples' true) (fun p => p.1 ∈ vs) (SrtO.lt2 fun v u => ltR (k v) (k u)) := by
  intro p q hm hm'
  have h1 := hp _ hm
  have h2 := hp _ hm'
  show wpAny (model prog w) A (keyLt' (tuples' true) p.1 q.1) (fun r s' => s' = s ∧ r = ltR (k p.1) (k q.1)) (fun _ _ => False) s
  generalize k p.1 = x at h1 ⊢
  generalize k q.1 = y at h2 ⊢
  obtain ⟨a, o, us, n, e, ho, hc, hd, hi⟩ := h1
  obtain ⟨a', o', us', n', e', ho', hc', hd', hi'⟩ := h2
  rw [e, e']
  refine PySem.W.kat_lt ho hd ho' hd' ?_
  refine kat_ints hi hi' ?_ ⟨rfl, rfl⟩
  rw [← hi.len, ← hi'.len]
  simp
theorem rows_sortable {a : Addr} {vs : List Value} {k : Value → List Int} (h0 : 0 < vs.length) (hp : ∀ v ∈ vs, k v ≠ [] ∧ IsRow s.heap v (k v)) (ha : ∀ o, s.heap.get? a = some o → o.cls ≠ .type "tuple") : SrtO.SortableO prog w A s a vs fun v u => ltR (k v) (k u) := by
  intro h' keep
  have hp' : ∀ v ∈ vs, IsRow h' v (k v) := fun v hm => (hp v hm).2.keeps fun b o e c => keep b o (fun z => by subst z; exact ha o e c) e
  obtain ⟨fs, h1, h2, h3⟩ := firstsR fun v hm => ⟨_, (hp v hm).1, hp' v hm⟩
  refine ⟨tuples' true, fun Q E hq => ?_, row_cmp hp'⟩
  refine PySem.W.kat_kind (T := .type "int") h1 (by omega) (fun f hm => ?_) (by rfl) ?_
  · obtain ⟨x, t, rfl⟩ := h3 f hm
    exact PySem.W.Looks.now
  · have e : (Value.type "int" != Value.type "tuple") = true := by first | decide +kernel | rfl | decide
    rw [e]
    exact hq
theorem sorted_rows {l : Addr} {vs : List Value} {k : Value → List Int} {Q : Value → Shared → Prop} (hl : s.heap.IsList l vs.toArray) (hz : vs.length ≤ sizeLine) (hp : 2 ≤ vs.length → ∀ v ∈ vs, k v ≠ [] ∧ IsRow s.heap v (k v))
    (h : ∀ (h' : Heap) (d : Addr) (out : List Value), SrtO.Srtd (fun v u => ltR (k v) (k u)) out → SrtO.Stb (fun v u => ltR (k v) (k u)) out vs → (∀ b o, s.heap.get? b = some o → h'.get? b = some o) → s.heap.objs.size ≤ d → (∃ n, h'.get? d = some (seqObj "list" out.toArray n)) → Q (.ref d) { s with heap := h' }) :
    wpAny (model prog w) A (call (.builtin "sorted") [.ref l]) Q E s := by
  refine SrtO.sorted_ord (swoRk k) hl hz (fun h2 h₁ a ha kk => ?_) fun out hs hb => ?_
  · refine rows_sortable (s := { s with heap := h₁ }) (by omega) (fun v hm => ⟨(hp h2 v hm).1, (hp h2 v hm).2.keeps fun b o e _ => (kk b o e).2⟩) fun o e => ?_
    have e' : some o = some (seqObj "list" vs.toArray 0) := e.symm.trans ha
    cases e'
    intro c
    exact absurd (Value.type.inj c) (by decide)
  · exact h _ _ out hs hb (fun b o e => sortedAll_old e) (Nat.le_succ _) (sortedAll_at s.heap vs out.toArray)
end
/-- sorted(xs), xs a list of tuples of ints: a new list of the same ones -/
def rSortedR (K : PySem.W.Frag) : List V → Hp → VK → Prop := fun vs H Q => ∃ (a : Addr) (xs : List V) (k : V → List Int), vs = [V.ref a] ∧ SqL K H a xs ∧ (∀ x ∈ xs, ∃ t, x = V.ref t) ∧ (2 ≤ xs.length → ∀ x ∈ xs, k x ≠ [] ∧ ∃ t, x = V.ref t ∧ H t = some (.tup ((k x).map V.int))) ∧
  ∀ ys p, SrtO.Srtd (fun x y => ltR (k x) (k y)) ys → ys.Perm xs → H p = none → Q (.ref p) (upd H p (.lst ys))
theorem vals_ints : ∀ {is : List Int} {us : List Value}, Vals (is.map V.int) us → IsInts us is
  | [], us, r => by
    cases r
    exact True.intro
  | i :: is, us, r => by
    cases r with
    | cons r1 r2 =>
      obtain ⟨t, rfl⟩ := r1
      exact ⟨⟨t, rfl⟩, vals_ints r2⟩
section
variable {X : Cx}
theorem cr_sortedR : CallR X (.builtin "sorted") (rSortedR X.K) := by
  intro pins s σ H vs us Q I r h
  obtain ⟨a, xs, k, rfl, hs, hf, hx, q⟩ := h
  obtain ⟨its, rv, hl, hz⟩ := I.list hs
  obtain ⟨u, rfl, ru⟩ := vals1 r
  obtain rfl : u = Value.ref a := ru
  obtain ⟨e1, e2⟩ := refs_back rv hf
  refine sorted_rows (k := fun u => k (backV u)) hl.isList (by rw [← rv.length]; exact hz) (fun h2 v hv => ?_) fun h' d out h1 h2 kp hd hn => ?_
  · obtain ⟨t, rfl⟩ := e2 v hv
    have hm : V.ref t ∈ xs := by rw [e1]; exact List.mem_map.mpr ⟨_, hv, rfl⟩
    obtain ⟨nz, t', e, ht⟩ := hx (by rw [rv.length]; exact h2) _ hm
    cases e
    obtain ⟨_, its2, r2, o, ho, hc, n, hd⟩ := I.hok _ _ ht
    exact ⟨nz, t, o, _, n, rfl, ho, hc, hd, by show IsInts _ (k (V.ref t)); simpa using vals_ints r2⟩
  · have h3 : ∀ u ∈ out, ∃ a, u = Value.ref a := fun u hu => e2 u (h2.perm.mem_iff.mp hu)
    obtain ⟨n, hn⟩ := hn
    have hb : SrtO.Stb (fun x y => ltR (k x) (k y)) (out.map backV) xs := by
      rw [e1]
      exact SrtO.Stb.map (swoRk k) backV h2
    refine ⟨.ref d, upd H d (.lst (out.map backV)), I.laid (t' := s.toks) kp hd ⟨?_, out, n, vals_back h3, hn⟩, rfl, q _ d (SrtO.srtd_map h1) hb.perm (I.hok.fresh hd)⟩
    rw [hb.len]
    exact hz
end
end SX

set_option Elab.async false
set_option linter.all false
set_option maxRecDepth 100000
set_option maxHeartbeats 4000000
/-! All orders are ascending; rows of writers. -/
namespace K39
open SX
abbrev castL (r : List Nat) : List Int := r.map fun n : Nat => (n : Int)
theorem rowsL_mem : ∀ {k : Nat} {ns r : List Nat}, r ∈ rowsL k ns → r.length = k ∧ ∀ w ∈ r, w < ns.length
  | 0, ns, r, h => by
    have h : r ∈ [[]] := h
    cases List.mem_singleton.mp h
    exact ⟨rfl, fun w hw => by cases hw⟩
  | k + 1, ns, r, h => by
    rw [rowsL_succ] at h
    obtain ⟨w, hw, h⟩ := List.mem_flatMap.mp h
    unfold blockL at h
    split at h
    · cases h
    · obtain ⟨t, ht, rfl⟩ := List.mem_map.mp h
      obtain ⟨a, b⟩ := rowsL_mem ht
      refine ⟨by rw [List.length_cons, a], fun v hv => ?_⟩
      rcases List.mem_cons.mp hv with rfl | hv
      · exact List.mem_range.mp hw
      · have := b v hv
        rwa [less_len] at this
theorem rowsL_asc : ∀ {k : Nat} {ns : List Nat}, (rowsL k ns).Pairwise fun a b => ltR (castL a) (castL b) = true
  | 0, ns => List.pairwise_singleton _ _
  | k + 1, ns => by
    rw [rowsL_succ, List.pairwise_flatMap]
    refine ⟨fun w _ => ?_, ?_⟩
    · unfold blockL
      split
      · exact List.Pairwise.nil
      · rw [List.pairwise_map]
        refine (rowsL_asc (k := k) (ns := lessN ns w)).imp fun {a b} h => ?_
        have h := of_decide_eq_true h
        refine decide_eq_true ?_
        show (w : Int) :: castL a < (w : Int) :: castL b
        rw [List.cons_lt_cons_iff]
        exact .inr ⟨rfl, h⟩
    · have r : (List.range ns.length).Pairwise (· < ·) := List.pairwise_lt_range
      refine r.imp fun {v w} hvw => ?_
      intro x hx y hy
      unfold blockL at hx hy
      split at hx
      · cases hx
      · split at hy
        · cases hy
        · obtain ⟨a, _, rfl⟩ := List.mem_map.mp hx
          obtain ⟨b, _, rfl⟩ := List.mem_map.mp hy
          refine decide_eq_true ?_
          show (v : Int) :: castL a < (w : Int) :: castL b
          rw [List.cons_lt_cons_iff]
          exact .inl (by omega)
theorem castL_inj {a b : List Nat} (h : castL a = castL b) : a = b := by
  induction a generalizing b with
  | nil =>
    cases b with
    | nil => rfl
    | cons _ _ => cases h
  | cons x a ih =>
    cases b with
    | nil => cases h
    | cons y b =>
      have h : (x : Int) :: castL a = (y : Int) :: castL b := h
      injection h with h1 h2
      rw [Int.ofNat.inj h1, ih h2]
end K39
namespace K39
open PySem L2 L2.EV
/-- a row of writers -/
def RwT (H : Hp) (a : Addr) (r : List Nat) : Prop := H a = some (.tup ((castL r).map V.int))
theorem RwT.keep {H H' : Hp} (k : KeepT H H') {a : Addr} {r : List Nat} (h : RwT H a r) : RwT H' a r := k _ _ h
end K39

set_option Elab.async false
set_option linter.all false
set_option maxRecDepth 100000
set_option maxHeartbeats 4000000
/-! The first order and the last one; the first one is clean. -/
namespace K39
open PySem L2 L2.EV
theorem byF_fst : ∀ {row : List Nat} {R : List (List Int)}, (byF R row).map (·.1) = castL row
  | [], _ => rfl
  | w :: ws, R => by
    show (w : Int) :: (byF _ ws).map (·.1) = (w : Int) :: castL ws
    rw [byF_fst]
/-- the writers one behind the other -/
def firstN (ns : List Nat) : List Nat := (List.range ns.length).flatMap fun w => List.replicate (ns.getD w 0) w
theorem low_ex : ∀ {ns : List Nat}, ns.sum ≠ 0 → ∃ w, w < ns.length ∧ ns.getD w 0 ≠ 0 ∧ ∀ v, v < w → ns.getD v 0 = 0
  | [], h => absurd rfl h
  | n :: ns, h => by
    by_cases c : n = 0
    · subst c
      rw [List.sum_cons] at h
      obtain ⟨w, h1, h2, h3⟩ := low_ex (ns := ns) (by omega)
      refine ⟨w + 1, by rw [List.length_cons]; omega, by simpa using h2, fun v hv => ?_⟩
      cases v with
      | zero => rfl
      | succ v =>
        have := h3 v (by omega)
        simpa using this
    · exact ⟨0, by simp, c, fun v hv => by omega⟩
theorem high_ex : ∀ {ns : List Nat}, ns.sum ≠ 0 → ∃ w, w < ns.length ∧ ns.getD w 0 ≠ 0 ∧ ∀ v, w < v → ns.getD v 0 = 0
  | [], h => absurd rfl h
  | n :: ns, h => by
    by_cases c : ns.sum = 0
    · rw [List.sum_cons] at h
      refine ⟨0, by simp, by show n ≠ 0; omega, fun v hv => ?_⟩
      cases v with
      | zero => omega
      | succ v =>
        have := sum_getD (w := v) c
        simpa using this
    · obtain ⟨w, h1, h2, h3⟩ := high_ex c
      refine ⟨w + 1, by rw [List.length_cons]; omega, by simpa using h2, fun v hv => ?_⟩
      cases v with
      | zero => omega
      | succ v =>
        have := h3 v (by omega)
        simpa using this
theorem flatM_congr {α β : Type} {f g : α → List β} : ∀ {l : List α}, (∀ x ∈ l, f x = g x) → l.flatMap f = l.flatMap g
  | [], _ => rfl
  | x :: l, h => by
    rw [List.flatMap_cons, List.flatMap_cons, h x (List.mem_cons_self ..), flatM_congr fun y hy => h y (List.mem_cons_of_mem _ hy)]
theorem flat_nil {α β : Type} {f : α → List β} : ∀ {l : List α}, (∀ x ∈ l, f x = []) → l.flatMap f = []
  | [], _ => rfl
  | x :: l, h => by
    rw [List.flatMap_cons, h x (List.mem_cons_self ..), flat_nil fun y hy => h y (List.mem_cons_of_mem _ hy)]
    rfl
/-- a range cut at a writer -/
theorem range_cut {n w : Nat} (h : w < n) : List.range n = List.range w ++ w :: List.range' (w + 1) (n - w - 1) := by
  have e : n = w + (n - w) := by omega
  have e2 : n - w = (n - w - 1) + 1 := by omega
  rw [List.range_eq_range', List.range_eq_range']
  conv => lhs; rw [e]
  rw [← List.range'_append_1, Nat.zero_add]
  congr 1
  conv => lhs; rw [e2]
  rw [List.range'_succ]
theorem flat_low {β : Type} {f : Nat → List β} {n w : Nat} (h : w < n) (z : ∀ v, v < w → f v = []) : (List.range n).flatMap f = f w ++ (List.range' (w + 1) (n - w - 1)).flatMap f := by
  rw [range_cut h, List.flatMap_append, List.flatMap_cons, flat_nil fun x hx => z x (List.mem_range.mp hx)]
  rfl
theorem flat_high {β : Type} {f : Nat → List β} {n w : Nat} (h : w < n) (z : ∀ v, w < v → f v = []) : (List.range n).flatMap f = (List.range w).flatMap f ++ f w := by
  rw [range_cut h, List.flatMap_append, List.flatMap_cons, flat_nil (l := List.range' (w + 1) (n - w - 1)) fun x hx => z x (by have := (List.mem_range'_1.mp hx).1; omega), List.append_nil]
theorem first_low {ns : List Nat} {w : Nat} (h : w < ns.length) (nz : ns.getD w 0 ≠ 0) (z : ∀ v, v < w → ns.getD v 0 = 0) : firstN ns = w :: firstN (lessN ns w) := by
  unfold firstN
  rw [less_len, flat_low h fun v hv => by rw [z v hv]; rfl, flat_low h fun v hv => by rw [less_at, if_neg (by omega), z v hv]; rfl]
  rw [less_at, if_pos rfl]
  obtain ⟨k, hk⟩ : ∃ k, ns.getD w 0 = k + 1 := ⟨ns.getD w 0 - 1, by omega⟩
  rw [hk, List.replicate_succ]
  show w :: (List.replicate k w ++ _) = w :: (List.replicate (k + 1 - 1) w ++ _)
  congr 2
  refine flatM_congr fun v hv => ?_
  have := (List.mem_range'_1.mp hv).1
  rw [less_at, if_neg (by omega)]
theorem first_high {ns : List Nat} {w : Nat} (h : w < ns.length) (nz : ns.getD w 0 ≠ 0) (z : ∀ v, w < v → ns.getD v 0 = 0) : firstN ns = firstN (lessN ns w) ++ [w] := by
  unfold firstN
  rw [less_len, flat_high h fun v hv => by rw [z v hv]; rfl, flat_high h fun v hv => by rw [less_at, if_neg (by omega), z v hv]; rfl]
  rw [less_at, if_pos rfl]
  obtain ⟨k, hk⟩ : ∃ k, ns.getD w 0 = k + 1 := ⟨ns.getD w 0 - 1, by omega⟩
  rw [hk, List.append_assoc]
  have e1 : List.replicate (k + 1 - 1) w ++ [w] = List.replicate (k + 1) w := by
    show List.replicate k w ++ [w] = _
    rw [List.replicate_succ']
  rw [e1]
  congr 1
  refine flatM_congr fun v hv => ?_
  have := List.mem_range.mp hv
  rw [less_at, if_neg (by omega)]
theorem rows_ne {k : Nat} {ns : List Nat} (h : ns.sum = k) : rowsL k ns ≠ [] := fun z => by
  have := rowsL_len h
  rw [z] at this
  have p := ord_pos (ns := ns)
  rw [← this] at p
  exact absurd p (Nat.lt_irrefl 0)
theorem rows_first : ∀ {k : Nat} {ns : List Nat}, ns.sum = k → (rowsL k ns).head? = some (firstN ns)
  | 0, ns, h => by
    have e : firstN ns = [] := flat_nil fun w _ => by rw [sum_getD h]; rfl
    rw [e]
    rfl
  | k + 1, ns, h => by
    obtain ⟨w, h1, h2, h3⟩ := low_ex (ns := ns) (by omega)
    have s := less_sum1 h1 h2
    rw [rowsL_succ, flat_low h1 fun v hv => by unfold blockL; rw [if_pos (h3 v hv)]]
    unfold blockL
    rw [if_neg h2, List.head?_append, List.head?_map, rows_first (k := k) (ns := lessN ns w) (by omega), first_low h1 h2 h3]
    rfl
theorem rows_last : ∀ {k : Nat} {ns : List Nat}, ns.sum = k → (rowsL k ns).getLast? = some (firstN ns).reverse
  | 0, ns, h => by
    have e : firstN ns = [] := flat_nil fun w _ => by rw [sum_getD h]; rfl
    rw [e]
    rfl
  | k + 1, ns, h => by
    obtain ⟨w, h1, h2, h3⟩ := high_ex (ns := ns) (by omega)
    have s := less_sum1 h1 h2
    rw [rowsL_succ, flat_high h1 fun v hv => by unfold blockL; rw [if_pos (h3 v hv)]]
    unfold blockL
    rw [if_neg h2, List.getLast?_append, List.getLast?_map, rows_last (k := k) (ns := lessN ns w) (by omega), first_high h1 h2 h3, List.reverse_append]
    rfl
/-! the first one is clean -/
theorem clG_rest {fr : List T3} {v : Nat} : ∀ {t : List Int} {r es : List E2}, tlF fr t → Pure fr v r → clG fr r (t.map (fun s => ((v : Int), s)) ++ es) = clG fr [] es
  | [s], r, es, h, p => by
    show (if ends fr ((v : Int), s) = true then wholeE fr (r ++ [((v : Int), s)]) && clG fr [] es else clG fr (r ++ [((v : Int), s)]) es) = _
    have e1 : ends fr ((v : Int), s) = true := h
    rw [if_pos e1, pure_whole (pure_app p)]
    rfl
  | s :: t :: l, r, es, h, p => by
    have e1 : ¬ ends fr ((v : Int), s) = true := fun z => by
      have := h.1
      rw [← ends_S (w := (v : Int)), z] at this
      cases this
    show (if ends fr ((v : Int), s) = true then _ else clG fr (r ++ [((v : Int), s)]) ((t :: l).map (fun s => ((v : Int), s)) ++ es)) = _
    rw [if_neg e1]
    exact clG_rest h.2 (pure_app p)
theorem clG_line {fr : List T3} {v : Nat} {l : List Int} {es : List E2} (h : Lg fr l) : clG fr [] (l.map (fun s => ((v : Int), s)) ++ es) = clG fr [] es := by
  have ht := h.tl
  have hs := h.st
  match l, ht, hs with
  | [s], ht, hs =>
    show (if ends fr ((v : Int), s) = true then wholeE fr ([] ++ [((v : Int), s)]) && clG fr [] es else _) = _
    have e1 : ends fr ((v : Int), s) = true := ht
    rw [if_pos e1, pure_whole (v := v) ⟨by simp, fun e he => by cases List.mem_singleton.mp he; rfl, hs⟩]
    rfl
  | s :: t :: l, ht, hs =>
    have e1 : ¬ ends fr ((v : Int), s) = true := fun z => by
      have := ht.1
      rw [← ends_S (w := (v : Int)), z] at this
      cases this
    show (if ends fr ((v : Int), s) = true then _ else clG fr ([] ++ [((v : Int), s)]) ((t :: l).map (fun s => ((v : Int), s)) ++ es)) = _
    rw [if_neg e1]
    exact clG_rest ht.2 ⟨by simp, fun e he => by cases List.mem_singleton.mp he; rfl, hs⟩
theorem clG_lines {fr : List T3} {v : Nat} {es : List E2} : ∀ {p : List Lin}, (∀ l ∈ p, Lg fr l) → clG fr [] (p.flatten.map (fun s => ((v : Int), s)) ++ es) = clG fr [] es
  | [], _ => rfl
  | l :: p, h => by
    rw [List.flatten_cons, List.map_append, List.append_assoc, clG_line (h l (List.mem_cons_self ..)), clG_lines fun x hx => h x (List.mem_cons_of_mem _ hx)]
theorem byF_rep {w : Nat} {row : List Nat} : ∀ {l : List Int} {R : List (List Int)}, R.getD w [] = l → w < R.length → byF R (List.replicate l.length w ++ row) = l.map (fun s => ((w : Int), s)) ++ byF (R.set w []) row
  | [], R, h, hw => by
    have e : R.set w [] = R := by
      refine List.ext_getElem (by simp) fun i h1 h2 => ?_
      rw [List.getElem_set]
      by_cases c : w = i
      · subst c
        rw [if_pos rfl]
        rw [List.getD_eq_getElem?_getD, List.getElem?_eq_getElem hw] at h
        exact h.symm
      · rw [if_neg c]
    rw [e]
    rfl
  | s :: l, R, h, hw => by
    rw [List.length_cons, List.replicate_succ]
    show ((w : Int), (R.getD w []).headD 0) :: byF (R.set w (R.getD w []).tail) (List.replicate l.length w ++ row) = _
    rw [h]
    have g : (R.set w l).getD w [] = l := by
      rw [set_getD hw, if_pos rfl]
    show ((w : Int), s) :: byF (R.set w l) (List.replicate l.length w ++ row) = _
    rw [byF_rep g (by rw [List.length_set]; exact hw), List.set_set]
    rfl
theorem clean_ws {fr : List T3} : ∀ {ws : List Nat} {R : List (List Int)}, ws.Nodup → (∀ w ∈ ws, w < R.length ∧ ∃ p : List Lin, R.getD w [] = p.flatten ∧ ∀ l ∈ p, Lg fr l) → clG fr [] (byF R (ws.flatMap fun w => List.replicate (R.getD w []).length w)) = true
  | [], _, _, _ => rfl
  | w :: ws, R, nd, h => by
    obtain ⟨hw, p, e, hp⟩ := h w (List.mem_cons_self ..)
    rw [List.nodup_cons] at nd
    rw [List.flatMap_cons, byF_rep rfl hw, e, clG_lines hp]
    have g : (ws.flatMap fun v => List.replicate (R.getD v []).length v) = ws.flatMap fun v => List.replicate ((R.set w []).getD v []).length v := by
      refine flatM_congr fun v hv => ?_
      rw [set_getD hw, if_neg (fun z : w = v => nd.1 (by rw [z]; exact hv))]
    rw [g]
    refine clean_ws nd.2 fun v hv => ?_
    rw [List.length_set, set_getD hw, if_neg (fun z : w = v => nd.1 (by rw [z]; exact hv))]
    exact h v (List.mem_cons_of_mem _ hv)
theorem first_clean {fr : List T3} {ps : List (List Lin)} (gs : Gs fr ps) : clE fr (byF (ps.map List.flatten) (firstN (ps.map sz1))) = true := by
  rw [clE_G]
  have e : firstN (ps.map sz1) = (List.range (ps.map sz1).length).flatMap fun w => List.replicate ((ps.map List.flatten).getD w []).length w := by
    unfold firstN
    refine flatM_congr fun w _ => ?_
    rw [sz_getD]
  rw [e]
  refine clean_ws List.nodup_range fun w hw => ?_
  have hw := List.mem_range.mp hw
  rw [List.length_map] at hw
  refine ⟨by rw [List.length_map]; exact hw, ps[w], flat_getD hw, fun l hl => gl_lg (gs.ln _ (List.getElem_mem hw) l hl)⟩
/-- the weaving that has a number, by its order -/
theorem at_row {ps : List (List Lin)} {k : Nat} (h : k < cntN ps) : ∃ row, (rowsL (szS ps) (ps.map sz1))[k]? = some row ∧ atP ps k = byF (ps.map List.flatten) row := by
  obtain ⟨row, h1, h2⟩ := by_at (rows := ps.map List.flatten) (k := szS ps) (ns := ps.map sz1) (r := k) rfl (by simp) (fun w => Nat.le_of_eq (sz_getD w)) h
  have esz : ps.map sz1 = (ps.map List.flatten).map List.length := by
    rw [List.map_map]
    exact List.map_congr_left fun p _ => sz1_flat.symm
  have e1 : leftR (ps.map List.flatten) (ps.map sz1) = ps.map List.flatten := by
    rw [esz]
    exact leftR_full
  rw [e1] at h2
  exact ⟨row, h1, h2⟩
theorem at_first {ps : List (List Lin)} : atP ps 0 = byF (ps.map List.flatten) (firstN (ps.map sz1)) := by
  obtain ⟨row, h1, h2⟩ := at_row (ps := ps) (k := 0) ord_pos
  have z := rows_first (ns := ps.map sz1) (k := szS ps) rfl
  rw [List.head?_eq_getElem?, h1] at z
  rw [h2, Option.some.inj z]
theorem at_last {ps : List (List Lin)} : atP ps (cntN ps - 1) = byF (ps.map List.flatten) (firstN (ps.map sz1)).reverse := by
  have p : 0 < cntN ps := ord_pos
  obtain ⟨row, h1, h2⟩ := at_row (ps := ps) (k := cntN ps - 1) (by omega)
  have z := rows_last (ns := ps.map sz1) (k := szS ps) rfl
  have l : (rowsL (szS ps) (ps.map sz1)).length = cntN ps := rowsL_len rfl
  rw [List.getLast?_eq_getElem?, l, h1] at z
  rw [h2, Option.some.inj z]
theorem row_okr {ps : List (List Lin)} {row : List Nat} (h : row ∈ rowsL (szS ps) (ps.map sz1)) : row.length = szS ps ∧ ∀ w ∈ row, w < ps.length := by
  obtain ⟨a, b⟩ := rowsL_mem h
  rw [List.length_map] at b
  exact ⟨a, b⟩
theorem rows_lt {ps : List (List Lin)} {i j : Nat} {a b : List Nat} (ha : (rowsL (szS ps) (ps.map sz1))[i]? = some a) (hb : (rowsL (szS ps) (ps.map sz1))[j]? = some b) (h : i < j) : castL a < castL b := by
  obtain ⟨h1, e1⟩ := List.getElem?_eq_some_iff.mp ha
  obtain ⟨h2, e2⟩ := List.getElem?_eq_some_iff.mp hb
  have z := List.pairwise_iff_getElem.mp (rowsL_asc (k := szS ps) (ns := ps.map sz1)) i j h1 h2 h
  rw [e1, e2] at z
  exact of_decide_eq_true z
end K39

set_option Elab.async false
set_option linter.all false
set_option maxRecDepth 100000
set_option maxHeartbeats 4000000
/-! _law_many. -/
namespace K39
open PySem L2 L2.EV
abbrev sMany : Stmt := top 53
abbrev NMany : List Str := ["counts", "found", "k", "one"]
theorem fct_small : ∀ i, i ≤ 40 → fct i < 2 ^ 200 := by
  have z : ∀ i : Fin 41, fct i.val < 2 ^ 200 := by decide +kernel
  intro i h
  exact z ⟨i, by omega⟩
theorem prd_app {a b : List Nat} : prd (a ++ b) = prd a * prd b := by
  induction a with
  | nil => exact (Nat.one_mul _).symm
  | cons n a ih =>
    show fct n * prd (a ++ b) = fct n * prd a * prd b
    rw [ih, Nat.mul_assoc]
theorem ord_div {ns : List Nat} : fct ns.sum / prd ns = ordN ns := by
  rw [← ord_fct, Nat.mul_div_cancel _ (prd_pos ns)]
theorem div_int {a j : Nat} : (a : Int) / (1 + (j : Int)) = ((a / (j + 1) : Nat) : Int) := by
  rw [Int.natCast_ediv, Int.add_comm 1]
  rfl
def spMany : Sp := fun vs H Q _ => ∃ (a : Addr) (ns : List Nat), vs = [.ref a] ∧ LsA H a ns ∧ ns.sum ≤ 40 ∧ ∀ H', Same H H' → Q (.int (ordN ns : Nat)) H'
structure Mn (K : PySem.W.Frag) (mg : Str → Option Value) where
  su : mg "sum" = none
  ra : mg "range" = none
  f : Addr
  d : FuncData
  F : Fun K "_law_many" "_law_many" sMany f d
  b : Binds K d ["counts"] []
  m : mg "_law_many" = some (.ref f)
section
variable {P : Program} {w : World} {K : PySem.W.Frag} {mg : Str → Option Value} {base : Heap}
theorem scMany : FnScope NMany ["counts"] (defScope sMany) := ⟨rfl, rfl, rfl, by decide +kernel, rfl, by decide +kernel, by decide +kernel⟩
theorem ok_many (Z : Mn K mg) : FnOk P w K mg base CX0 1 Z.f Z.d ["counts"] spMany := by
  refine Z.F.ok scMany (fun vs H Q E h => ?_) (fun cdv A outer s H vs Q E hr h => ?_)
  · obtain ⟨a, ns, rfl, _⟩ := h
    rfl
  · obtain ⟨a, ns, rfl, la, l40, q⟩ := h
    refine ⟨_, pss_cons (ps_set (i := 1) scMany.nd rfl (Or.inl rfl) pe_int)
      (pss_cons (ps_for PassesOwn.never rfl (pi_range2 (by rfl) Z.ra (pa_cons pe_int (pa_cons (pe_op op_add (pe_callB (cr_sum rfl) (by rfl) Z.su (by decide +kernel) (pa_cons (pv 0) pa_nil)) pe_int) pa_nil))) (pg_name (i := 2) scMany.nd rfl (Or.inl rfl))
        (pss_one (ps_set (i := 1) scMany.nd rfl (Or.inl rfl) (pe_op op_mulW (pv 1) (pv 2)))))
      (pss_cons (ps_for PassesOwn.never rfl (pi_list (pv 0)) (pg_name (i := 3) scMany.nd rfl (Or.inl rfl))
        (pss_one (ps_for PassesOwn.never rfl (pi_range2 (by rfl) Z.ra (pa_cons pe_int (pa_cons (pe_op op_add (pv 3) pe_int) pa_nil))) (pg_name (i := 2) scMany.nd rfl (Or.inl rfl))
          (pss_one (ps_set (i := 1) scMany.nd rfl (Or.inl rfl) (pe_op op_fdiv (pv 1) (pv 2)))))))
      (pss_one (ps_ret (pv 1))))), ?_⟩
    refine ⟨_, rfl, a, ns.map fun n : Nat => (n : Int), rfl, SqL.of (by rw [← vN_int]; exact la), _, _, rfl, rfl, 1, _, rfl, ?_⟩
    rw [sum_int]
    refine ⟨⟨by decide, by decide, by omega, by omega⟩, for_it walk_range (fun i σ H' => ∃ (v2 : Option V), σ = [some (.ref a), some (.int ((fct i : Nat) : Int)), v2, none] ∧ Same H H')
      ⟨none, rfl, Same.refl H⟩ (fun _ _ _ _ _ => trivial) ?_ ?_⟩
    · rintro i x σ H1 H2 hi ⟨v2, rfl, s1⟩ ⟨rfl, rfl⟩
      have hi : i < 40 := by omega
      have f1 := fct_small i (by omega)
      refine ⟨_, rfl, _, rfl, _, _, rfl, rfl, wide_mul (a := 200) (b := 100) (by omega) (by omega) (by decide) (by decide) (by decide), some (.int (1 + (i : Int))), ?_, s1⟩
      have e : ((fct i : Nat) : Int) * (1 + (i : Int)) = ((fct (i + 1) : Nat) : Int) := by
        show _ = (((i + 1) * fct i : Nat) : Int)
        rw [Int.natCast_mul, Int.mul_comm, Int.add_comm 1]
        rfl
      show [some (V.ref a), some (V.int (((fct i : Nat) : Int) * (1 + (i : Int)))), some (V.int (1 + (i : Int))), none] = _
      rw [e]
    · rintro σ H1 ⟨v2, rfl, s1⟩
      have z : ((((ns.sum : Nat) : Int) + 1 - 1).toNat) = ns.sum := by omega
      rw [z]
      refine ⟨_, rfl, a, rfl, ⟨_, SqL.of (s1 _ _ la)⟩, for_it (walk_list (xs := ns.map fun n : Nat => V.int (n : Int))) (fun i σ H' => ∃ (v2 v3 : Option V), σ = [some (.ref a), some (.int ((fct ns.sum / prd (ns.take i) : Nat) : Int)), v2, v3] ∧ Same H H')
        ⟨v2, none, by rw [show prd (ns.take 0) = 1 from rfl, Nat.div_one], s1⟩ (fun i σ H' _ ⟨_, _, _, z⟩ => SqL.of (z _ _ la)) ?_ ?_⟩
      · rintro i x σ H2 H3 hi ⟨v2, v3, rfl, s2⟩ ⟨rfl, hx⟩
        rw [List.length_map] at hi
        have en : ns[i]? = some ns[i] := List.getElem?_eq_getElem hi
        rw [List.getElem?_map, en] at hx
        obtain rfl : V.int (ns[i] : Nat) = x := Option.some.inj hx
        have n40 : ns[i] ≤ 40 := Nat.le_trans (sum_mem (List.getElem_mem hi)) l40
        generalize ns[i] = n at *
        refine ⟨_, rfl, _, _, rfl, rfl, 1, _, rfl, ⟨by decide, by decide, by omega, by omega⟩, for_it walk_range (fun j σ H' => ∃ (v2 : Option V), σ = [some (.ref a), some (.int ((fct ns.sum / prd (ns.take i) / fct j : Nat) : Int)), v2, some (.int (n : Int))] ∧ Same H H')
          ⟨v2, by rw [show fct 0 = 1 from rfl, Nat.div_one]; rfl, s2⟩ (fun _ _ _ _ _ => trivial) ?_ ?_⟩
        · rintro j y σ H4 H5 hj ⟨v2, rfl, s4⟩ ⟨rfl, rfl⟩
          have hj : j < n := by omega
          refine ⟨_, rfl, _, rfl, _, _, rfl, rfl, ⟨by omega, by omega⟩, some (.int (1 + (j : Int))), ?_, s4⟩
          show [some (V.ref a), some (V.int (((fct ns.sum / prd (ns.take i) / fct j : Nat) : Int) / (1 + (j : Int)))), some (V.int (1 + (j : Int))), some (V.int (n : Int))] = _
          rw [div_int, Nat.div_div_eq_div_mul _ (fct j)]
          have e : fct j * (j + 1) = fct (j + 1) := Nat.mul_comm ..
          rw [e]
        · rintro σ H4 ⟨v2, rfl, s4⟩
          have z : (((n : Int) + 1 - 1).toNat) = n := by omega
          rw [z]
          refine ⟨v2, some (.int (n : Int)), ?_, s4⟩
          rw [take_one en, prd_app, Nat.div_div_eq_div_mul]
          show _ = [_, some (V.int ((fct ns.sum / (prd (ns.take i) * (fct n * 1)) : Nat) : Int)), _, _]
          rw [Nat.mul_one]
      · rintro σ H2 ⟨v2, v3, rfl, s2⟩
        refine ⟨_, rfl, ?_⟩
        rw [List.length_map, List.take_length, ord_div]
        exact q H2 s2
end
end K39

set_option Elab.async false
set_option linter.all false
set_option maxRecDepth 100000
set_option maxHeartbeats 4000000
/-! _law_homeward. -/
namespace K39
open PySem L2 L2.EV
abbrev sHome : Stmt := top 52
def spHome : Sp := fun vs H Q _ => ∃ (f : Addr) (fr : List T3) (last : Nat) (h : Int), vs = [.ref f, .int h] ∧ FrA H f fr ∧ Frm fr last ∧ 0 ≤ h ∧ h ≤ last ∧
  ∀ (H' : Hp) (n : Int), Same H H' → 0 ≤ n → n < fr.length → (stt fr n).1 = h → ((stt fr n).2.2 = 0 ∨ (stt fr n).2.2 = h + 1) → Q (.int n) H'
structure Hm (K : PySem.W.Frag) (mg : Str → Option Value) where
  G : Lw K mg
  f : Addr
  d : FuncData
  F : Fun K "_law_homeward" "_law_homeward" sHome f d
  b : Binds K d ["framing", "here"] []
  m : mg "_law_homeward" = some (.ref f)
section
variable {P : Program} {w : World} {K : PySem.W.Frag} {mg : Str → Option Value} {base : Heap}
theorem scHome : FnScope ["framing", "here", "number", "step"] ["framing", "here"] (defScope sHome) := ⟨rfl, rfl, rfl, by decide +kernel, rfl, by decide +kernel, by decide +kernel⟩
theorem ok_home (Z : Hm K mg) : FnOk P w K mg base CX0 1 Z.f Z.d ["framing", "here"] spHome := by
  refine Z.F.ok scHome (fun vs H Q E h => ?_) (fun cdv A outer s H vs Q E hr h => ?_)
  · obtain ⟨f, fr, last, h, rfl, _⟩ := h
    rfl
  · obtain ⟨f, fr, last, h, rfl, fa, fm, h0, hl5, q⟩ := h
    refine ⟨_, pss_one (ps_ret (pe_ix ix_list (pe_lc (own := [("number", 2), ("step", 3)]) (g := gTup K 2 (gCons (gName 2) (gCons (gName 3) gNil))) (tt := tAnd (tTest (tOp rEq (tOp (rIxT K) (tVar 3) (tC (.int 0))) (tVar 1))) (tTest (tOp (rIn K false) (tOp (rIxT K) (tVar 3) (tC (.int 2))) (tTup (tCons (tC (.int 0)) (tCons (tOp (rI0 fun i j => .int (i + j)) (tVar 1) (tC (.int 1))) tNil)))))) (te := tVar 2) rfl scHome.nd (pi_enumT (by rfl) Z.G.G.en (pa_cons (pv 0) pa_nil))
      (blkOk_by (N := ["framing", "here", "number", "step"]) (sc := defScope sHome) (by decide +kernel))
      (fun _ _ _ _ _ => pg_tup rfl (pgs_cons (pg_name (i := 2) scHome.nd rfl (Or.inl rfl)) (pgs_cons (pg_name (i := 3) scHome.nd rfl (Or.inl rfl)) pgs_nil)))
      (fun _ _ _ _ _ => pts_one (pw_and (pt_cmpR op_eq (pe_ix ix_tup (pv 3) pe_int (fun _ _ => rfl)) (pv 1) (nomark _)) (pw_and1 (pt_cmpR op_in_seq (pe_ix ix_tup (pv 3) pe_int (fun _ _ => rfl)) (pe_tup (pa_cons pe_int (pa_cons (pe_op op_add (pv 1) pe_int) pa_nil))) (by rfl)))).pt) (fun _ _ _ _ _ => pv 2)) pe_int (fun _ _ => rfl))), ?_⟩
    obtain ⟨ts, hf, hl, ht⟩ := id fa
    have l1 := fm.l1
    refine ⟨_, rfl, f, _, rfl, SqT.of hf, fun D hD => ?_⟩
    refine lc_it (walk_enumT (xs := ts.map V.ref)) (fun i H' => ∃ ns : List Int, H' D = some (.lst (ns.map V.int)) ∧ ns.length ≤ i ∧ (∀ n ∈ ns, 0 ≤ n ∧ n < fr.length ∧ (stt fr n).1 = h ∧ ((stt fr n).2.2 = 0 ∨ (stt fr n).2.2 = h + 1)) ∧ (∀ (j : Nat) x, j < i → fr[j]? = some x → x.1 = h → (x.2.2 = 0 ∨ x.2.2 = h + 1) → ns ≠ []) ∧ ∀ b o, H b = some o → H' b = some o)
      ⟨[], upd_same, Nat.le_refl _, (fun n h => by cases h), (fun j x hj => absurd hj (by omega)), fun b o z => same_upd hD b o z⟩ (fun i H' _ ⟨_, _, _, _, _, z⟩ => SqT.of (z _ _ hf)) ?_ ?_
    · rintro i x H1 H2 hi ⟨ns, hn, nl, nk, nz, kp⟩ ⟨T, xi, xo, rfl, nT, rfl, h1, h2⟩
      cases h1
      obtain ⟨t, y, hy, rfl, e4⟩ := at_step (i := i) hl ht h2
      have uT := same_upd (o := HO.tup [V.int (i : Nat), V.ref t]) nT
      have s3 : Same H _ := (show Same H H1 from kp).trans uT
      have il : i < fr.length := (List.getElem?_eq_some_iff.mp hy).1
      have es : stt fr (i : Int) = y := by
        unfold stt
        rw [List.getD_eq_getElem?_getD, Int.toNat_natCast, hy]
        rfl
      have skip : ∀ H3 : Hp, Same (upd H1 T (HO.tup [V.int (i : Nat), V.ref t])) H3 → ¬ (y.1 = h ∧ (y.2.2 = 0 ∨ y.2.2 = h + 1)) → ∃ ns : List Int, H3 D = some (.lst (ns.map V.int)) ∧ ns.length ≤ i + 1 ∧ (∀ n ∈ ns, 0 ≤ n ∧ n < fr.length ∧ (stt fr n).1 = h ∧ ((stt fr n).2.2 = 0 ∨ (stt fr n).2.2 = h + 1)) ∧ (∀ (j : Nat) x, j < i + 1 → fr[j]? = some x → x.1 = h → (x.2.2 = 0 ∨ x.2.2 = h + 1) → ns ≠ []) ∧ ∀ b o, H b = some o → H3 b = some o := fun H3 s z1 => by
        refine ⟨ns, s _ _ (uT _ _ hn), by omega, nk, fun j x hj hx he hg => ?_, fun b o w => s _ _ (s3 _ _ w)⟩
        by_cases e : j = i
        · subst e
          rw [hy] at hx
          cases hx
          exact absurd ⟨he, hg⟩ z1
        · exact nz j x (by omega) hx he hg
      refine ⟨T, _, rfl, SqT.of upd_same, rfl, _, _, rfl, _, _, rfl, rfl, rfl, ?_⟩
      have e5 := s3 _ _ e4
      refine ⟨_, rfl, t, _, 0, _, rfl, rfl, SqT.of e5, atI_nat (j := 0) rfl, _, rfl, rfl, _, rfl, ite2 (fun z => ?_) (fun z => ?_)⟩
      · have z1 : y.1 = h := V.int.inj (of_decide_eq_true z)
        refine ⟨_, rfl, t, _, 2, _, rfl, rfl, SqT.of e5, atI_nat (j := 2) rfl, _, rfl, _, _, rfl, rfl, (by show 2 ≤ sizeLine; decide), fun p np => ?_⟩
        have up := same_upd (o := HO.tup [V.int 0, V.int (h + 1)]) np
        refine ⟨p, _, rfl, .inr (SqT.of upd_same), rfl, rfl, _, rfl, ?_⟩
        have ein : inV (V.int y.2.2) [V.int 0, V.int (h + 1)] = true ↔ (y.2.2 = 0 ∨ y.2.2 = h + 1) := by
          unfold inV
          simp [eqV]
          exact ⟨fun k => k.imp Eq.symm Eq.symm, fun k => k.imp Eq.symm Eq.symm⟩
        refine ite2 (fun y2 => ?_) (fun y2 => ?_)
        · have z2 := ein.mp y2
          refine ⟨_, rfl, _, up _ _ (uT _ _ hn), by rw [List.length_map, sizeLine_eq]; omega, ns ++ [(i : Int)], by rw [List.map_append]; exact upd_same, by rw [List.length_append]; simp; omega, fun n hm => ?_, fun j x _ _ _ _ => by simp, fun b o w => ?_⟩
          · rcases List.mem_append.mp hm with hm | hm
            · exact nk n hm
            · cases List.mem_singleton.mp hm
              rw [es]
              exact ⟨Int.natCast_nonneg _, by omega, z1, z2⟩
          · rw [upd_ne (ne_of_none w hD)]
            exact up _ _ (s3 _ _ w)
        · exact skip _ up fun k => y2 (ein.mpr k.2)
      · exact skip _ (Same.refl _) fun k => z (decide_eq_true (congrArg V.int k.1))
    · rintro H1 ⟨ns, hn, nl, nk, nz, kp⟩
      rw [List.length_map, hl] at nl nz
      obtain ⟨k, rfl⟩ := Int.eq_ofNat_of_zero_le h0
      obtain ⟨x, hx, x1, x2⟩ := fm.ring k (by omega)
      obtain ⟨j, hj, ej⟩ := List.getElem_of_mem hx
      have ne := nz j x hj (by rw [List.getElem?_eq_getElem hj, ej]) x1 (by
        rw [x2]
        by_cases c : k < last
        · rw [if_pos c]
          exact .inr rfl
        · rw [if_neg c]
          exact .inl rfl)
      cases ns with
      | nil => exact absurd rfl ne
      | cons n ns =>
        obtain ⟨n0, n1, n2, n3⟩ := nk n (List.mem_cons_self ..)
        refine ⟨D, _, 0, .int n, rfl, rfl, SqL.of hn, atI_nat (j := 0) rfl, ?_⟩
        exact q H1 n kp n0 n1 n2 n3
end
end K39

set_option Elab.async false
set_option linter.all false
set_option maxRecDepth 100000
set_option maxHeartbeats 4000000
/-! _law_flat; _law_is_score. -/
namespace K39
open PySem L2 L2.EV
abbrev sFlat : Stmt := top 49
def spFlat : Sp := fun vs H Q _ => ∃ (v : V) (p : List Lin), vs = [v] ∧ Da H v (dP p) ∧ sz1 p ≤ 1000000 ∧ ∀ H' q, Same H H' → H q = none → H' q = some (.lst (p.flatten.map V.int)) → Q (.ref q) H'
/-- how many steps all lines have together -/
def totP (d : PyData) : Nat := ((items d).map fun l => (items l).length).sum
def totD (d : PyData) : Nat := ((items d).map totP).sum
structure Bd (d : PyData) : Prop where
  tot : totD d ≤ 1000000
  sh : ∀ e ∈ items d, ∀ g ∈ items e, SeqAt.shaped g = true
  shp : ∀ e ∈ items d, ∀ ls, (∀ g ∈ ls, g ∈ items e) → ls.length ≤ (items e).length → SeqAt.shaped (.list ls) = true
  ln : ∀ e ∈ items d, (items e).length ≤ 10000
def spLIS : Sp := fun vs H Q _ => ∃ (f : Addr) (v : V) (fr : List T3) (last : Nat) (d : PyData), vs = [.ref f, v] ∧ FrA H f fr ∧ Frm fr last ∧ Da H v d ∧ Bd d ∧ ∀ H', Same H H' → Q (.bl (goodS fr d)) H'
structure Lk (K : PySem.W.Frag) (mg : Str → Option Value) where
  su : mg "sum" = none
  li : mg "list" = none
  f1 : Addr
  d1 : FuncData
  F : Fun K "_law_flat" "_law_flat" sFlat f1 d1
  b1 : Binds K d1 ["part"] []
  m1 : mg "_law_flat" = some (.ref f1)
theorem flat_succ {p : List Lin} {i : Nat} {l : Lin} (h : p[i]? = some l) : (p.take (i + 1)).flatten = (p.take i).flatten ++ l := by
  rw [take_one h, List.flatten_append]
  simp
theorem numsD_map {m : Int} : ∀ {ns : List Int}, (∀ n ∈ ns, 0 ≤ n ∧ n < m) → numsD m (ns.map PyData.int) = some ns
  | [], _ => rfl
  | n :: ns, h => by
    have a : numD m (.int n) = some n := if_pos (h n (List.mem_cons_self ..))
    have b := numsD_map (ns := ns) fun x hx => h x (List.mem_cons_of_mem _ hx)
    show (match numD m (.int n), numsD m (ns.map PyData.int) with
      | some n, some ns => some (n :: ns)
      | _, _ => none) = _
    rw [a, b]
theorem gl_line {fr : List T3} {l : Lin} (g : Gl fr l) : lineD fr (dL l) = some l := by
  cases l with
  | nil => exact absurd rfl g.ne
  | cons n ns =>
    show (match numsD fr.length ((n :: ns).map PyData.int) with
      | some ns => if folF fr ns 0 0 = true then some ns else none
      | none => none) = _
    rw [numsD_map g.ins]
    exact if_pos g.fol
theorem gl_lineR {fr : List T3} : ∀ {p : List Lin} {st : Int}, (∀ l ∈ p, Gl fr l) → st + (sz1 p : Nat) ≤ 40 → lineR fr (p.map dL) st = some (st + (sz1 p : Nat))
  | [], st, _, _ => by
    show some st = some (st + ((0 : Nat) : Int))
    rw [show st + ((0 : Nat) : Int) = st by omega]
  | l :: p, st, g, h => by
    have e : sz1 (l :: p) = l.length + sz1 p := rfl
    show (match lineD fr (dL l) with
      | some ns => if 40 < st + (ns.length : Int) then none else lineR fr (p.map dL) (st + (ns.length : Int))
      | none => none) = _
    rw [gl_line (g l (List.mem_cons_self ..))]
    show (if 40 < st + (l.length : Int) then none else lineR fr (p.map dL) (st + (l.length : Int))) = _
    rw [if_neg (by omega), gl_lineR (fun x hx => g x (List.mem_cons_of_mem _ hx)) (by omega)]
    congr 1
    omega
theorem gl_restS {fr : List T3} : ∀ {ps : List (List Lin)} {st : Int}, (∀ p ∈ ps, ∀ l ∈ p, Gl fr l) → st + (szS ps : Nat) ≤ 40 → restS fr (ps.map dP) st = true
  | [], _, _, _ => rfl
  | p :: ps, st, g, h => by
    have e : szS (p :: ps) = sz1 p + szS ps := rfl
    show (match lineR fr (p.map dL) st with
      | some st' => restS fr (ps.map dP) st'
      | none => false) = true
    rw [gl_lineR (g p (List.mem_cons_self ..)) (by omega)]
    exact gl_restS (fun x hx => g x (List.mem_cons_of_mem _ hx)) (by omega)
theorem gs_good {fr : List T3} {ps : List (List Lin)} (g : Gs fr ps) : goodS fr (dS ps) = true := by
  show (decide (1 ≤ (ps.map dP).length) && (decide ((ps.map dP).length ≤ 8) && restS fr (ps.map dP) 0)) = true
  rw [List.length_map, decide_eq_true g.l1, decide_eq_true g.l8, gl_restS g.ln (by have := g.sz; omega)]
  rfl
theorem lines_gl {fr : List T3} : ∀ {ls : List PyData}, (∀ g ∈ ls, (lineD fr g).isSome = true) → ∃ p : List Lin, ls = p.map dL ∧ ∀ l ∈ p, Gl fr l
  | [], _ => ⟨[], rfl, fun l z => by cases z⟩
  | g :: ls, h => by
    obtain ⟨p, rfl, gp⟩ := lines_gl (ls := ls) fun x hx => h x (List.mem_cons_of_mem _ hx)
    obtain ⟨l, hl⟩ := Option.isSome_iff_exists.mp (h g (List.mem_cons_self ..))
    obtain ⟨rfl, g1⟩ := lineD_gl hl
    refine ⟨l :: p, rfl, fun x hx => ?_⟩
    rcases List.mem_cons.mp hx with rfl | hx
    · exact g1
    · exact gp x hx
theorem totP_dP (p : List Lin) : totP (dP p) = sz1 p := by
  show ((p.map dL).map fun l => (items l).length).sum = (p.map List.length).sum
  rw [List.map_map]
  congr 1
  refine List.map_congr_left fun l _ => ?_
  show (l.map PyData.int).length = l.length
  rw [List.length_map]
theorem totD_dS (ps : List (List Lin)) : totD (dS ps) = szS ps := by
  show ((ps.map dP).map totP).sum = (ps.map sz1).sum
  rw [List.map_map]
  congr 1
  exact List.map_congr_left fun p _ => totP_dP p
section
variable {P : Program} {w : World} {K : PySem.W.Frag} {mg : Str → Option Value} {base : Heap}
theorem scFlat : FnScope ["part", "found", "line"] ["part"] (defScope sFlat) := ⟨rfl, rfl, rfl, by decide +kernel, rfl, by decide +kernel, by decide +kernel⟩
theorem ok_flat (Z : Lk K mg) : FnOk P w K mg base CX0 1 Z.f1 Z.d1 ["part"] spFlat := by
  refine Z.F.ok scFlat (fun vs H Q E h => ?_) (fun cdv A outer s H vs Q E hr h => ?_)
  · obtain ⟨v, p, rfl, _⟩ := h
    rfl
  · obtain ⟨v, p, rfl, da, lz, q⟩ := h
    refine ⟨_, pss_cons (ps_set (i := 1) scFlat.nd rfl (Or.inl rfl) (pe_lst pa_nil))
      (pss_cons (ps_for PassesOwn.never rfl (pi_tup (pv 0)) (pg_name (i := 2) scFlat.nd rfl (Or.inl rfl))
        (pss_one (ps_set (i := 1) scFlat.nd rfl (Or.inl rfl) (pe_op op_cat (pv 1) (pe_callTy call_list_of (by rfl) Z.li (by decide +kernel) (pa_cons (pv 2) pa_nil))))))
      (pss_one (ps_ret (pv 1)))), ?_⟩
    obtain ⟨a, xs, rfl, e, all⟩ : ∃ a xs, v = .ref a ∧ H a = some (.tup xs) ∧ DaAll H xs (p.map dL) := by
      cases da with
      | tup e all => exact ⟨_, _, rfl, e, all⟩
    have ln := all.len
    rw [List.length_map] at ln
    refine ⟨by decide, fun F0 nF0 => ?_⟩
    refine ⟨_, rfl, a, rfl, ⟨_, SqT.of (same_upd nF0 _ _ e)⟩, for_it (walk_tup (xs := xs)) (fun i σ H' => ∃ (F : Addr) (v2 : Option V), σ = [some (.ref a), some (.ref F), v2] ∧ Same H H' ∧ H F = none ∧ H' F = some (.lst ((p.take i).flatten.map V.int)))
      ⟨F0, none, rfl, same_upd nF0, nF0, upd_same⟩ (fun i σ H' _ ⟨_, _, _, z, _⟩ => SqT.of (z _ _ e)) ?_ ?_⟩
    · rintro i x σ H1 H2 hi ⟨F, v2, rfl, s1, nF, hF⟩ ⟨rfl, hx⟩
      obtain ⟨d1, h1, dx⟩ := all.at_ hx
      obtain ⟨l, hl, rfl⟩ := at_map h1
      obtain ⟨b1, rfl, eb⟩ : ∃ b1, x = .ref b1 ∧ H b1 = some (.tup (l.map V.int)) := by
        cases dx with
        | tup e all =>
          rw [da_ints all] at e
          exact ⟨_, rfl, e⟩
      have tz := take_flat (p := p) i
      have lz1 := sz1_mem (List.mem_of_getElem? hl)
      refine ⟨_, rfl, _, rfl, b1, _, rfl, .inr (SqT.of (s1 _ _ eb)), fun q1 nq1 => ?_⟩
      have u1 := same_upd (o := HO.lst (l.map V.int)) nq1
      refine ⟨F, q1, _, _, rfl, rfl, u1 _ _ hF, upd_same, by rw [List.length_map, List.length_map, sizeLine_eq]; omega, fun q2 nq2 => ?_⟩
      have s2 := s1.trans (u1.trans (same_upd (o := HO.lst ((p.take i).flatten.map V.int ++ l.map V.int)) nq2))
      refine ⟨q2, _, rfl, s2, same_none (s1.trans u1) nq2, ?_⟩
      rw [flat_succ hl, List.map_append]
      exact upd_same
    · rintro σ H1 ⟨F, v2, rfl, s1, nF, hF⟩
      rw [ln, List.take_length] at hF
      exact ⟨_, rfl, q H1 F s1 nF hF⟩
end
end K39

set_option Elab.async false
set_option linter.all false
set_option maxRecDepth 100000
set_option maxHeartbeats 4000000
/-! The law's own look: _law_is_whole, _law_whole. -/
namespace K39
open PySem L2 L2.EV
theorem eqv_nilD (ds : List PyData) : PyData.eqv (.list ds) (.list []) = ds.isEmpty := by
  cases ds <;> simp [PyData.eqv, PyData.eqvAll]
theorem eqv_nilT (ds : List PyData) : PyData.eqv (.tuple ds) (.tuple []) = ds.isEmpty := by
  cases ds <;> simp [PyData.eqv, PyData.eqvAll]
theorem shaped_d2 (es : List E2) : PyData.canLayAll0 (es.map d2) = true ∧ PyData.depthAll (es.map d2) ≤ 1 := by
  induction es with
  | nil => exact ⟨by simp [PyData.canLayAll0], by simp [PyData.depthAll]⟩
  | cons e es ih => exact ⟨by simp [PyData.canLayAll0, d2, PyData.canLay0, ih.1], by simp only [List.map_cons, PyData.depthAll, d2, PyData.depth]; have := ih.2; omega⟩
theorem shaped_lst (es : List E2) : SeqAt.shaped (.list (es.map d2)) = true := by
  obtain ⟨a, b⟩ := shaped_d2 es
  show (PyData.canLay0 (.list (es.map d2)) && decide (PyData.depth (.list (es.map d2)) ≤ 64)) = true
  rw [Bool.and_eq_true]
  refine ⟨by simp only [PyData.canLay0]; exact a, decide_eq_true ?_⟩
  simp only [PyData.depth]
  omega
theorem shaped_nil : SeqAt.shaped (.list []) = true := by decide +kernel
theorem shaped_nilT : SeqAt.shaped (.tuple []) = true := by decide +kernel
def dE (l : List E2) : PyData := .tuple (l.map d2)
theorem dp_dE {K : PySem.W.Frag} {H : Hp} {a : Addr} {l : List E2} (h : WvA H a l) : Dp K H (.ref a) (dE l) := Da.dp _ _ (da_wv h)
end K39

set_option Elab.async false
set_option linter.all false
set_option maxRecDepth 100000
set_option maxHeartbeats 4000000
/-! _law_score. -/
namespace K39
open PySem L2 L2.EV
abbrev sSc : Stmt := top 51
abbrev NSc : List Str := ["m", "framing", "writers", "most", "found", "left", "writer", "part", "again", "line", "here", "some", "number"]
def spSc : Sp := fun vs H Q _ => ∃ (m c l f : Addr) (k : Int) (fr : List T3) (last : Nat) (nw : Nat), vs = [.ref m, .ref f, .int (nw : Int), .int 40] ∧ MAt H m c l k ∧ k < 700000 ∧ FrA H f fr ∧ Frm fr last ∧ 1 ≤ nw ∧ nw ≤ 8 ∧
  ∀ (H' : Hp) (p : Addr) (ps : List (List Lin)) (l' : Addr) (k' : Int), Da H' (.ref p) (dS ps) → ps.length = nw → Gs fr ps → szS ps ≤ 40 → k' ≤ k + 400 → Dr H H' m c l l' k' → Q (.ref p) H'
theorem dL_keep {H H' : Hp} (k : KeepT H H') {v : V} {l : Lin} (h : Da H v (dL l)) : Da H' v (dL l) := by
  cases h with
  | tup e all =>
    rw [da_ints all] at e
    exact .tup (k _ _ e) ints_da
theorem dLs_keep {H H' : Hp} (k : KeepT H H') : ∀ {p : List Lin} {vs : List V}, DaAll H vs (p.map dL) → DaAll H' vs (p.map dL)
  | [], _, h => by cases h; exact .nil
  | l :: p, _, h => by
    cases h with
    | cons h1 h2 => exact .cons (dL_keep k h1) (dLs_keep k h2)
theorem dP_keep {H H' : Hp} (k : KeepT H H') {v : V} {p : List Lin} (h : Da H v (dP p)) : Da H' v (dP p) := by
  cases h with
  | tup e all => exact .tup (k _ _ e) (dLs_keep k all)
theorem dPs_keep {H H' : Hp} (k : KeepT H H') : ∀ {ps : List (List Lin)} {vs : List V}, DaAll H vs (ps.map dP) → DaAll H' vs (ps.map dP)
  | [], _, h => by cases h; exact .nil
  | p :: ps, _, h => by
    cases h with
    | cons h1 h2 => exact .cons (dP_keep k h1) (dPs_keep k h2)
theorem dS_keep {H H' : Hp} (k : KeepT H H') {v : V} {ps : List (List Lin)} (h : Da H v (dS ps)) : Da H' v (dS ps) := by
  cases h with
  | tup e all => exact .tup (k _ _ e) (dPs_keep k all)
/-- a line so far: it leads from 0 to a standing, which is 0 behind no step but the last -/
def Way (fr : List T3) : List Int → Int → Prop
  | ns, st => (∀ n ∈ ns, Ins fr n) ∧ ∀ ms : List Int, folF fr (ns ++ ms) 0 0 = (if ns = [] then folF fr ms 0 0 else folF fr ms st ns.length)
theorem way_nil {fr : List T3} : Way fr [] 0 := ⟨(fun n h => by cases h), fun ms => by rw [if_pos rfl]; rfl⟩
theorem way_snoc {fr : List T3} {ns : List Int} {st n : Int} (w : Way fr ns st) (h0 : ns = [] → st = 0) (h1 : ns ≠ [] → st ≠ 0) (hn : Ins fr n) (e : (stt fr n).1 = st) : Way fr (ns ++ [n]) (stt fr n).2.2 := by
  refine ⟨fun x hx => ?_, fun ms => ?_⟩
  · rcases List.mem_append.mp hx with hx | hx
    · exact w.1 x hx
    · cases List.mem_singleton.mp hx
      exact hn
  · rw [if_neg (by simp), List.append_assoc, w.2, List.length_append]
    by_cases c : ns = []
    · have z := h0 c
      subst c
      rw [if_pos rfl]
      show (decide ((stt fr n).1 = 0) && (!(decide (0 < 0) && decide ((stt fr n).1 = 0)) && folF fr ms (stt fr n).2.2 (0 + 1))) = _
      rw [decide_eq_true (by rw [e, z])]
      rfl
    · have z := h1 c
      rw [if_neg c]
      show (decide ((stt fr n).1 = st) && (!(decide (0 < ns.length) && decide ((stt fr n).1 = 0)) && folF fr ms (stt fr n).2.2 (ns.length + 1))) = _
      rw [decide_eq_true e, decide_eq_false (p := (stt fr n).1 = 0) (by rw [e]; exact z), Bool.and_false]
      rfl
theorem way_gl {fr : List T3} {ns : List Int} (w : Way fr ns 0) (ne : ns ≠ []) : Gl fr ns := by
  refine ⟨ne, w.1, ?_⟩
  have h := w.2 []
  rw [List.append_nil, if_neg ne] at h
  rw [h]
  exact decide_eq_true rfl
theorem shaped_tints (ns : List Int) : SeqAt.shaped (.tuple (ns.map PyData.int)) = true := by
  have a := canLay_ints ns
  have b := depth_ints ns
  show (PyData.canLay0 (.tuple (ns.map PyData.int)) && decide (PyData.depth (.tuple (ns.map PyData.int)) ≤ 64)) = true
  rw [Bool.and_eq_true]
  refine ⟨by simp only [PyData.canLay0]; exact a, decide_eq_true ?_⟩
  simp only [PyData.depth]
  omega
/-- how far a line is from its end -/
def farW (last : Nat) (ns : List Int) (st : Int) : Nat := if ns.length < 6 then 20 + (6 - ns.length) else if st = 0 then 0 else ((last : Int) + 1 - st).toNat
theorem joinIf2 {P : Int → Hp → Prop} {ok : Int → Hp → Prop} {G : Prop} (a : (∀ n Hx, ok n Hx → P n Hx) → G) (b : ∀ n Hx, ok n Hx → P n Hx) : G := a b
theorem joinH {G C Pb : Prop} (a : (C → Pb) → G) (b : C → Pb) : G := a b
structure Sc9 (K : PySem.W.Frag) (mg : Str → Option Value) where
  M : Hm K mg
  f : Addr
  d : FuncData
  F : Fun K "_law_score" "_law_score" sSc f d
  b : Binds K d ["m", "framing", "writers", "most"] []
  m : mg "_law_score" = some (.ref f)
section
variable {P : Program} {w : World} {K : PySem.W.Frag} {mg : Str → Option Value} {base : Heap}
theorem scSc : FnScope NSc ["m", "framing", "writers", "most"] (defScope sSc) := ⟨rfl, rfl, rfl, by decide +kernel, rfl, by decide +kernel, by decide +kernel⟩
theorem ok_sc (Z : Sc9 K mg) : FnOk P w K mg base CX0 2 Z.f Z.d ["m", "framing", "writers", "most"] spSc := by
  have GX : FnOk P w K mg base CX0 1 Z.M.G.G.L.f1 Z.M.G.G.L.d1 ["m", "total"] spNext := ok_next Z.M.G.G.L.N Z.M.G.G.L.T
  have GF : FnOk P w K mg base CX0 1 Z.M.G.f1 Z.M.G.d1 ["framing", "here"] spFrom := ok_from Z.M.G
  have GH : FnOk P w K mg base CX0 1 Z.M.f Z.M.d ["framing", "here"] spHome := ok_home Z.M
  have len := Z.M.G.G.L.T.len
  refine Z.F.ok scSc (fun vs H Q E h => ?_) (fun cdv A outer s H vs Q E hr h => ?_)
  · obtain ⟨m, c, l, f, k, fr, last, nw, rfl, _⟩ := h
    rfl
  · obtain ⟨m, c, l, f, k, fr, last, nw, rfl, M, hk, fa, fm, n1, n4, q⟩ := h
    have hu64 : (A.deeper (PyProof.Rows.envOfC "_law_score" (defScope sSc) s.heap.objs.size Z.f cdv)).units + 64 < cLine := by
      have := hr.un
      omega
    refine ⟨_, pss_cons (ps_par (i := 4) (j := 5) (x := "found") (y := "left") rfl scSc.nd rfl rfl (by decide) rfl rfl (pa_cons (pe_lst pa_nil) (pa_cons (pv 3) pa_nil)) (by rfl))
      (pss_cons (ps_for PassesOwn.never rfl (pi_range1 (by rfl) Z.M.G.G.L.ra (pa_cons (pv 2) pa_nil)) (pg_name (i := 6) scSc.nd rfl (Or.inl rfl))
        (pss_cons (ps_set (i := 7) scSc.nd rfl (Or.inl rfl) (pe_tup pa_nil))
        (pss_cons (ps_for PassesOwn.never rfl (pi_range1 (by rfl) Z.M.G.G.L.ra (pa_cons (pe_call GX hr (by rfl) Z.M.G.G.L.mN Z.M.G.G.L.N.kp Z.M.G.G.L.bN .nil pass0 (pa_cons (pv 0) (pa_cons pe_int pa_nil))) pa_nil)) (pg_name (i := 8) scSc.nd rfl (Or.inl rfl))
          (pss_cons (ps_asg (pe_tup (pa_cons (pe_tup pa_nil) (pa_cons pe_int pa_nil))) (pg_tup rfl (pgs_cons (pg_name (i := 9) scSc.nd rfl (Or.inl rfl)) (pgs_cons (pg_name (i := 10) scSc.nd rfl (Or.inl rfl)) pgs_nil))))
          (pss_cons (ps_while PassesOwn.never (pw_or (pt_cmpR (op_eqD hu64) (pv 9) (pe_tup pa_nil) (nomark _)) (pw_or1 (pt_cmpR op_ne (pv 10) pe_int (nomark _)))).pt
            (pss_cons (ps_set (i := 11) scSc.nd rfl (Or.inl rfl) (pe_call GF hr (by rfl) Z.M.G.gF Z.M.G.F.kp Z.M.G.bF .nil pass0 (pa_cons (pv 1) (pa_cons (pv 10) pa_nil))))
            (pss_cons (ps_set (i := 12) scSc.nd rfl (Or.inl rfl) (pe_ifExp (pt_cmpR op_lt (pe_callB call_len_seq (by rfl) len PySem.boot_len (pa_cons (pv 9) pa_nil)) pe_int (nomark _))
              (pe_ix ix_list (pv 11) (pe_call GX hr (by rfl) Z.M.G.G.L.mN Z.M.G.G.L.N.kp Z.M.G.G.L.bN .nil pass0 (pa_cons (pv 0) (pa_cons (pe_callB call_len_seq (by rfl) len PySem.boot_len (pa_cons (pv 11) pa_nil)) pa_nil))) (fun _ _ => rfl))
              (pe_call GH hr (by rfl) Z.M.m Z.M.F.kp Z.M.b .nil pass0 (pa_cons (pv 1) (pa_cons (pv 10) pa_nil)))))
            (pss_one (ps_par (i := 9) (j := 10) (x := "line") (y := "here") rfl scSc.nd rfl rfl (by decide) rfl rfl (pa_cons (pe_op op_catS (pv 9) (pe_tup (pa_cons (pv 12) pa_nil))) (pa_cons (pe_ix ix_tup (pe_ix ix_tup (pv 1) (pv 12) (fun _ _ => rfl)) pe_int (fun _ _ => rfl)) pa_nil)) (by rfl))))))
          (pss_one (ps_if (pt_cmpR op_le (pe_callB call_len_seq (by rfl) len PySem.boot_len (pa_cons (pv 9) pa_nil)) (pv 5) (nomark _))
            (pss_one (ps_par (i := 7) (j := 5) (x := "part") (y := "left") rfl scSc.nd rfl rfl (by decide) rfl rfl (pa_cons (pe_op op_catS (pv 7) (pe_tup (pa_cons (pv 9) pa_nil))) (pa_cons (pe_op op_sub (pv 5) (pe_callB call_len_seq (by rfl) len PySem.boot_len (pa_cons (pv 9) pa_nil))) pa_nil)) (by rfl))) pss_nil)))))
        (pss_one (ps_expr (pe_bm PySem.F.plainAttrs_list PySem.F.slot_list_append PySem.F.type_list_append mt_append (pv 4) (pa_cons (pv 7) pa_nil)))))))
      (pss_one (ps_ret (pe_callTy call_tuple_of (by rfl) Z.M.G.G.tu (by decide +kernel) (pa_cons (pv 4) pa_nil))))), ?_⟩
    have l1 := fm.l1
    refine ⟨by decide, fun F hF => ⟨_, rfl, _, _, rfl, ?_⟩⟩
    have u1 := same_upd (o := HO.lst []) hF
    have MA := M.same u1
    have nFm : F ≠ m := (ne_of_none M.hm hF).symm
    have nFc := M.c_some hF
    have D0 : Dr H _ m c l l k := (Dr.refl M).same u1
    refine ⟨_, rfl, nw, rfl, by omega, by omega, for_it walk_range (fun i σ H' => ∃ (left : Nat) (vs : List V) (ps : List (List Lin)) (v6 v7 v8 v9 v10 v11 v12 : Option V) (l' : Addr) (k' : Int), σ = [some (.ref m), some (.ref f), some (.int (nw : Int)), some (.int 40), some (.ref F), some (.int (left : Int)), v6, v7, v8, v9, v10, v11, v12] ∧
        Dr H H' m c l l' k' ∧ F ≠ l' ∧ k' ≤ k + 20 * i ∧ H' F = some (.lst vs) ∧ DaAll H' vs (ps.map dP) ∧ ps.length = i ∧ left + szS ps = 40 ∧ ∀ p ∈ ps, ∀ l ∈ p, Gl fr l)
      ⟨40, [], [], none, none, none, none, none, none, none, l, k, rfl, D0, M.l_some hF, by omega, upd_same, .nil, rfl, rfl, fun p z => by cases z⟩ (fun _ _ _ _ _ => trivial) ?_ ?_⟩
    · rintro i x σ H1 H1' hi ⟨left, vs, ps, v6, v7, v8, v9, v10, v11, v12, l', k', rfl, D, nFl, kk, hF1, av, pl, lf, gl⟩ ⟨rfl, rfl⟩
      refine ⟨by decide, fun pa0 hpa => ?_⟩
      have u2 := same_upd (o := HO.tup []) hpa
      have D2 := D.same u2
      have hF2 := u2 _ _ hF1
      have M2 := D2.at_
      refine ⟨_, rfl, m, c, l', k', 4, rfl, M2, by decide, by decide, by omega, fun r H3 l3 k3 a3 b3 g3 N3 f3 q3 => ?_⟩
      have d3 : Dr _ H3 m c l' l3 k3 := ⟨N3, f3, q3⟩
      obtain ⟨hF3, n3⟩ := d3.lst M2 hF2 nFl
      have k23 := d3.keepT M2
      obtain ⟨r, rfl⟩ := Int.eq_ofNat_of_zero_le a3
      refine ⟨r, rfl, by omega, by omega, for_it walk_range (fun j σ H' => ∃ (left : Nat) (pa : Addr) (p : List Lin) (v8 v9 v10 v11 v12 : Option V) (l' : Addr) (k' : Int), σ = [some (.ref m), some (.ref f), some (.int (nw : Int)), some (.int 40), some (.ref F), some (.int (left : Int)), some (.int (0 + (i : Int))), some (.ref pa), v8, v9, v10, v11, v12] ∧
          Dr H H' m c l l' k' ∧ F ≠ l' ∧ k' ≤ k + 20 * i + 1 + 6 * j ∧ H' F = some (.lst vs) ∧ DaAll H' vs (ps.map dP) ∧ Da H' (.ref pa) (dP p) ∧ p.length ≤ j ∧ left + sz1 p + szS ps = 40 ∧ ∀ l ∈ p, Gl fr l)
        ⟨left, pa0, [], v8, v9, v10, v11, v12, l3, k3, rfl, D2.trans d3, n3, by omega, hF3, dPs_keep ((Same.keepT u2).trans k23) av, .tup (k23 _ _ upd_same) .nil, Nat.le_refl _, lf, fun l z => by cases z⟩ (fun _ _ _ _ _ => trivial) ?_ ?_⟩
      · rintro j y σ H4 H4' hj ⟨left, pa, p, v8, v9, v10, v11, v12, l4, k4, rfl, D4, n4, kk4, hF4, av4, dp4, pl4, lf4, gl4⟩ ⟨rfl, rfl⟩
        have hj3 : j < 3 := by omega
        refine ⟨by decide, fun e0 ne0 => ⟨(by show 2 ≤ sizeLine; decide), fun t0 nt0 => ?_⟩⟩
        have u5 := same_upd (o := HO.tup []) ne0
        have u6 := same_upd (o := HO.tup [V.ref e0, V.int 0]) nt0
        have u56 := u5.trans u6
        refine ⟨t0, _, rfl, SqT.of upd_same, rfl, _, _, rfl, _, _, rfl, rfl, ?_⟩
        refine ⟨fun mm σ H' => ∃ (ln : Addr) (ns : List Int) (st : Int) (v11 v12 : Option V) (l' : Addr) (k' : Int), σ = [some (.ref m), some (.ref f), some (.int (nw : Int)), some (.int 40), some (.ref F), some (.int (left : Int)), some (.int (0 + (i : Int))), some (.ref pa), some (.int (0 + (j : Int))), some (.ref ln), some (.int st), v11, v12] ∧
            Dr H H' m c l l' k' ∧ F ≠ l' ∧ k' ≤ k + 20 * i + 1 + 6 * j + (min ns.length 6 : Nat) ∧ H' F = some (.lst vs) ∧ DaAll H' vs (ps.map dP) ∧ Da H' (.ref pa) (dP p) ∧ Da H' (.ref ln) (dL ns) ∧ Way fr ns st ∧ (ns = [] → st = 0) ∧ 0 ≤ st ∧ st ≤ last ∧ ns.length ≤ 12 ∧ (st ≠ 0 → (ns.length : Int) ≤ 6 + st ∨ ns.length ≤ 6) ∧ mm = farW last ns st,
          ⟨_, e0, [], 0, v11, v12, l4, k4, rfl, D4.same u56, n4, by simpa using kk4, u56 _ _ hF4, dPs_keep (Same.keepT u56) av4, dP_keep (Same.keepT u56) dp4, .tup (u6 _ _ upd_same) .nil, way_nil, fun _ => rfl, Int.le_refl _, by omega, by decide, fun z => absurd rfl z, rfl⟩, ?_⟩
        rintro mm σ H5 ⟨ln, ns, st, v11, v12, l5, k5, rfl, D5, n5, kk5, hF5, av5, dp5, dl5, wy, w0, s0, sl, nl, nst, rfl⟩
        refine ⟨_, rfl, by decide, fun p1 np1 => ?_⟩
        have u7 := same_upd (o := HO.tup []) np1
        have D7 := D5.same u7
        have M7 := D7.at_
        have dl7 := dL_keep (Same.keepT u7) dl5
        have hF7 := u7 _ _ hF5
        have av7 := dPs_keep (Same.keepT u7) av5
        have dp7 := dP_keep (Same.keepT u7) dp5
        obtain ⟨hln⟩ : Nonempty (upd H5 p1 (HO.tup []) ln = some (.tup (ns.map V.int))) := by
          cases dl7 with
          | tup e all =>
            rw [da_ints all] at e
            exact ⟨e⟩
        refine ⟨dL ns, .tuple [], Da.dp _ _ dl7, .tup (SqT.of upd_same) .nil, shaped_tints ns, shaped_nilT, _, rfl, ?_⟩
        have ee : PyData.eqv (dL ns) (.tuple []) = (ns.map PyData.int).isEmpty := eqv_nilT _
        rw [ee]
        apply joinH (C := ns ≠ [] → st ≠ 0)
        intro fin
        by_cases en : ns = []
        · exact iteT' (by rw [en]; rfl) (fin fun z => absurd en z)
        · refine iteF' (by cases ns with | nil => exact absurd rfl en | cons _ _ => rfl) ?_
          refine ⟨_, rfl, rfl, _, rfl, ?_⟩
          by_cases z0 : st = 0
          · refine iteF' (by simp [z0]) ?_
            subst z0
            have g1 := way_gl wy en
            have lnn : (ns.map V.int).length = ns.length := List.length_map ..
            refine ⟨_, rfl, ln, _, rfl, .inr (SqT.of hln), _, rfl, _, _, rfl, rfl, _, rfl, ite2 (fun y => ?_) (fun y => ?_)⟩
            · have y1 : ns.length ≤ left := by
                have : (((ns.map V.int).length : Nat) : Int) ≤ (left : Int) := of_decide_eq_true y
                omega
              obtain ⟨xp, hpa, xal⟩ : ∃ xp, upd H5 p1 (HO.tup []) pa = some (.tup xp) ∧ DaAll (upd H5 p1 (HO.tup [])) xp (p.map dL) := by
                cases dp7 with
                | tup e all => exact ⟨_, e, all⟩
              have xl := xal.len
              rw [List.length_map] at xl
              refine ⟨_, rfl, _, rfl, (by show 1 ≤ sizeLine; decide), fun q0 nq0 => ⟨pa, q0, xp, _, rfl, rfl, SqT.of (same_upd nq0 _ _ hpa), upd_same, by simp, by rw [xl, sizeLine_eq]; show _ + 1 ≤ _; omega, fun p2 H8 s8 h8 => ?_⟩⟩
              have s78 := (same_upd (o := HO.tup [V.ref ln]) nq0).trans s8
              refine ⟨_, rfl, _, rfl, ln, _, rfl, .inr (SqT.of (s78 _ _ hln)), _, _, rfl, rfl, _, _, rfl, ?_⟩
              have sp1 : sz1 (p ++ [ns]) = sz1 p + ns.length := by
                unfold sz1
                rw [List.map_append, List.sum_append]
                simp
              have el : (left : Int) - (((ns.map V.int).length : Nat) : Int) = ((left - ns.length : Nat) : Int) := by omega
              refine ⟨left - ns.length, p2, p ++ [ns], some (.int (0 + (j : Int))), some (.ref ln), some (.int 0), v11, v12, l5, k5, ?_, D7.same s78, n5, by omega, s78 _ _ hF7, dPs_keep (Same.keepT s78) av7, ?_, by rw [List.length_append]; show _ + 1 ≤ _; omega, by omega, fun q hq => ?_⟩
              · show _ = [some (.ref m), some (.ref f), some (.int (nw : Int)), some (.int 40), some (.ref F), some (V.int ((left - ns.length : Nat) : Int)), some (.int (0 + (i : Int))), some (.ref p2), some (.int (0 + (j : Int))), some (.ref ln), some (.int 0), v11, v12]
                rw [← el]
                rfl
              · refine .tup h8 ?_
                rw [List.map_append]
                exact (dLs_keep (Same.keepT s78) xal).app (.cons (dL_keep (Same.keepT s78) dl7) .nil)
              · rcases List.mem_append.mp hq with hq | hq
                · exact gl4 q hq
                · cases List.mem_singleton.mp hq
                  exact g1
            · exact ⟨left, pa, p, _, _, _, _, _, l5, k5, rfl, D7, n5, by omega, hF7, av7, dp7, by omega, lf4, gl4⟩
          · exact iteT' (by simp [z0]) (fin fun _ => z0)
        intro hc
        refine ⟨_, fun _ _ h => h, ?_⟩
        refine ⟨_, rfl, _, rfl, f, fr, last, st, rfl, D7.fr M fa, fm, fun H8 so ns2 s8 nso hso l16 hin hne => ?_⟩
        obtain ⟨sg, rfl⟩ := Int.eq_ofNat_of_zero_le s0
        obtain ⟨x0, hx0, ex0, _⟩ := fm.ring sg (by omega)
        have nne := List.length_pos_iff.mpr (hne ⟨x0, hx0, ex0⟩)
        have hln8 := s8 _ _ hln
        have D8 := D7.same s8
        have M8 := D8.at_
        have lnn : (ns.map V.int).length = ns.length := List.length_map ..
        apply joinIf2 (ok := fun n Hx => Ins fr n ∧ (stt fr n).1 = (sg : Int) ∧ (6 ≤ ns.length → (stt fr n).2.2 = 0 ∨ (stt fr n).2.2 = (sg : Int) + 1) ∧ ∃ (l9 : Addr) (k9 : Int), Dr H8 Hx m c l5 l9 k9 ∧ k9 ≤ k5 + (if ns.length < 6 then 1 else 0))
        · intro fin
          refine ⟨_, rfl, ln, _, rfl, .inr (SqT.of hln8), _, _, rfl, rfl, _, rfl, ite2 (fun y => ?_) (fun y => ?_)⟩
          · have y6 : ns.length < 6 := by
              have : (((ns.map V.int).length : Nat) : Int) < 6 := of_decide_eq_true y
              omega
            refine ⟨_, rfl, _, rfl, _, rfl, so, _, rfl, .inl (SqL.of hso), m, c, l5, k5, _, rfl, M8, by rw [List.length_map]; omega, by rw [List.length_map]; omega, by omega, fun r9 H9 l9 k9 a9 b9 g9 N9 f9 q9 => ?_⟩
            have d9 : Dr H8 H9 m c l5 l9 k9 := ⟨N9, f9, q9⟩
            rw [List.length_map] at b9
            obtain ⟨ep9, _⟩ := d9.lst M8 hso (D7.at_.l_some nso)
            obtain ⟨jj, rfl⟩ := Int.eq_ofNat_of_zero_le a9
            have jl : jj < ns2.length := by omega
            obtain ⟨m0, m1, m2⟩ := hin ns2[jj] (List.getElem_mem jl)
            have ea : atI (ns2.map V.int) (jj : Int) = some (.int ns2[jj]) := atI_nat (by rw [List.getElem?_map, List.getElem?_eq_getElem jl]; rfl)
            generalize ns2[jj] = nn at *
            refine ⟨so, _, (jj : Int), .int nn, rfl, rfl, SqL.of ep9, ea, ?_⟩
            exact fin nn H9 ⟨⟨m0, m1⟩, m2, fun z => absurd z (by omega), l9, k9, d9, by rw [if_pos y6]; omega⟩
          · have y6 : ¬ ns.length < 6 := fun z => y (decide_eq_true (by show (((ns.map V.int).length : Nat) : Int) < 6; omega))
            refine ⟨_, rfl, _, rfl, f, fr, last, (sg : Int), rfl, D8.fr M fa, fm, by omega, by omega, fun H9 nn s9 m0 m1 m2 m3 => ?_⟩
            exact fin nn H9 ⟨⟨m0, m1⟩, m2, fun _ => m3, l5, k5, (Dr.refl M8).same s9, by rw [if_neg y6]; omega⟩
        · rintro nn H9 ⟨⟨m0, m1⟩, m2, m3, l9, k9, d9, kk9⟩
          have D9 := D8.trans d9
          obtain ⟨hF9, n9⟩ := d9.lst M8 (s8 _ _ hF7) n5
          have kp9 := (Same.keepT s8).trans (d9.keepT M8)
          have hln9 := d9.tup M8 hln8
          refine ⟨_, rfl, _, rfl, (by show 1 ≤ sizeLine; decide), fun q0 nq0 => ⟨ln, q0, ns.map V.int, _, rfl, rfl, SqT.of (same_upd nq0 _ _ hln9), upd_same, by simp, by rw [lnn, sizeLine_eq]; show _ + 1 ≤ _; omega, fun p2 H10 s10 h10 => ?_⟩⟩
          have s910 := (same_upd (o := HO.tup [V.int nn]) nq0).trans s10
          have D10 := D9.same s910
          have kp10 := kp9.trans (Same.keepT s910)
          obtain ⟨tf, t2, hf, hat, h3, smem⟩ := stt_at (D10.fr M fa) m0 m1
          refine ⟨_, rfl, _, rfl, f, _, nn, .ref t2, rfl, rfl, SqT.of hf, hat, t2, _, 2, _, rfl, rfl, SqT.of h3, atI_nat (j := 2) rfl, ?_⟩
          refine ⟨_, _, rfl, ?_⟩
          have lo := fm.lo _ smem
          have st5 := (fm.stp _ smem).2.2.2.1
          have l5 := fm.l5
          have wy2 := way_snoc wy w0 hc ⟨m0, m1⟩ m2
          have ll : (ns ++ [nn]).length = ns.length + 1 := by rw [List.length_append]; rfl
          generalize hg : (stt fr nn).2.2 = g at *
          refine ⟨farW last (ns ++ [nn]) g, ?_, p2, ns ++ [nn], g, _, _, l9, k9, rfl, D10, n9, ?_, s910 _ _ hF9, dPs_keep kp10 av7, dP_keep kp10 dp7, .tup h10 (by rw [List.map_append]; exact ints_da.app (.cons (.int nn) .nil)), wy2, fun z => absurd z (by simp), st5, lo.2, ?_, fun z => ?_, rfl⟩
          · unfold farW
            rw [ll]
            by_cases c6 : ns.length < 6
            · rw [if_pos c6]
              by_cases c7 : ns.length + 1 < 6
              · rw [if_pos c7]
                omega
              · rw [if_neg c7]
                split <;> omega
            · have z1 := hc (fun z => c6 (by rw [z]; decide))
              have z3 := m3 (by omega)
              rw [if_neg c6, if_neg (show ¬ ns.length + 1 < 6 by omega), if_neg z1]
              split <;> omega
          · rw [ll]
            by_cases c6 : ns.length < 6
            · rw [if_pos c6] at kk9
              omega
            · rw [if_neg c6] at kk9
              omega
          · rw [ll]
            by_cases c6 : ns.length < 6
            · omega
            · have z1 := hc (fun z => c6 (by rw [z]; decide))
              have z4 := nst z1
              omega
          · rw [ll]
            by_cases c6 : ns.length < 6
            · exact .inr (by omega)
            · have z1 := hc (fun z => c6 (by rw [z]; decide))
              have z4 := nst z1
              have z3 := m3 (by omega)
              exact .inl (by omega)
      · rintro σ H4 ⟨left, pa, p, v8, v9, v10, v11, v12, l4, k4, rfl, D4, n4, kk4, hF4, av4, dp4, pl4, lf4, gl4⟩
        have r3 : r ≤ 3 := by omega
        have avl := av4.len
        rw [List.length_map] at avl
        refine ⟨_, rfl, .inl ⟨rfl, _, SqL.of hF4⟩, _, rfl, F, vs, _, rfl, rfl, hF4, by rw [avl, pl, sizeLine_eq]; omega, ?_⟩
        have kF := keepT_upd (o := .lst (vs ++ [.ref pa])) hF4 (fun xs z => by cases z)
        have szp : szS (ps ++ [p]) = szS ps + sz1 p := by
          unfold szS
          rw [List.map_append, List.sum_append]
          simp
        refine ⟨left, vs ++ [.ref pa], ps ++ [p], _, _, _, _, _, _, _, l4, k4, rfl, ?_, n4, by omega, upd_same, ?_, by rw [List.length_append, pl]; rfl, by omega, fun q hq => ?_⟩
        · exact ⟨D4.at_.upd nFm nFc n4, D4.hl, fun b o z h1 h2 => by rw [upd_ne (ne_of_none z hF)]; exact D4.kp b o z h1 h2⟩
        · rw [List.map_append]
          exact (dPs_keep kF av4).app (.cons (dP_keep kF dp4) .nil)
        · rcases List.mem_append.mp hq with hq | hq
          · exact gl q hq
          · cases List.mem_singleton.mp hq
            exact gl4
    · rintro σ H1 ⟨left, vs, ps, v6, v7, v8, v9, v10, v11, v12, l', k', rfl, D, nFl, kk, hF1, av, pl, lf, gl⟩
      refine ⟨_, rfl, F, _, rfl, .inl ⟨SqL.of hF1, fun p hp => ?_⟩⟩
      have u2 := same_upd (o := HO.tup vs) hp
      refine q _ p ps l' k' (.tup upd_same (dPs_keep (Same.keepT u2) av)) (by rw [pl]; omega) ⟨by omega, by omega, gl, by omega⟩ (by omega) ?_ (D.same u2)
      omega
end
end K39

set_option Elab.async false
set_option linter.all false
set_option maxRecDepth 100000
set_option maxHeartbeats 4000000
/-! _law_by_order. -/
namespace K39
open PySem L2 L2.EV
abbrev sByO : Stmt := top 50
abbrev NByO : List Str := ["score", "row", "part", "left", "found", "writer"]
/-- each writer has a step left -/
def Okr : List (List Int) → List Nat → Prop
  | _, [] => True
  | rows, w :: ws => w < rows.length ∧ rows.getD w [] ≠ [] ∧ Okr (rows.set w (rows.getD w []).tail) ws
theorem okr_rows : ∀ {k : Nat} {R : List (List Int)} {row : List Nat}, (R.map List.length).sum = k → row ∈ rowsL k (R.map List.length) → Okr R row
  | 0, R, row, h, hm => by
    have hm : row ∈ [[]] := hm
    cases List.mem_singleton.mp hm
    exact True.intro
  | k + 1, R, row, h, hm => by
    rw [rowsL_succ] at hm
    obtain ⟨w, hw, hm⟩ := List.mem_flatMap.mp hm
    unfold blockL at hm
    rw [len_getD] at hm
    cases q : R.getD w [] with
    | nil =>
      rw [q] at hm
      cases hm
    | cons s t =>
      rw [q, if_neg (by simp), less_map q] at hm
      obtain ⟨row2, h2, rfl⟩ := List.mem_map.mp hm
      refine ⟨lt_of_getD q, by rw [q]; simp, ?_⟩
      rw [q]
      exact okr_rows (set_len_sum q h) h2
def spByO : Sp := fun vs H Q _ => ∃ (v : V) (r : Addr) (ps : List (List Lin)) (row : List Nat), vs = [v, .ref r] ∧ Da H v (dS ps) ∧ ps.length ≤ 8 ∧ szS ps ≤ 40 ∧ RwT H r row ∧ row.length ≤ 40 ∧ Okr (ps.map List.flatten) row ∧ ∀ H' p, Same H H' → WvA H' p (byF (ps.map List.flatten) row) → Q (.ref p) H'
structure Bo (K : PySem.W.Frag) (mg : Str → Option Value) where
  L : Lk K mg
  tu : mg "tuple" = none
  f : Addr
  d : FuncData
  F : Fun K "_law_by_order" "_law_by_order" sByO f d
  b : Binds K d ["score", "row"] []
  m : mg "_law_by_order" = some (.ref f)
theorem byF_len : ∀ {row : List Nat} {R : List (List Int)}, (byF R row).length = row.length
  | [], _ => rfl
  | w :: ws, R => by
    show (byF _ ws).length + 1 = ws.length + 1
    rw [byF_len]
section
variable {P : Program} {w : World} {K : PySem.W.Frag} {mg : Str → Option Value} {base : Heap}
theorem scByO : FnScope NByO ["score", "row"] (defScope sByO) := ⟨rfl, rfl, rfl, by decide +kernel, rfl, by decide +kernel, by decide +kernel⟩
theorem ok_byO (Z : Bo K mg) : FnOk P w K mg base CX0 2 Z.f Z.d ["score", "row"] spByO := by
  have GF : FnOk P w K mg base CX0 1 Z.L.f1 Z.L.d1 ["part"] spFlat := ok_flat Z.L
  refine Z.F.ok scByO (fun vs H Q E h => ?_) (fun cdv A outer s H vs Q E hr h => ?_)
  · obtain ⟨v, r, ps, row, rfl, _⟩ := h
    rfl
  · obtain ⟨v, r, ps, row, rfl, da, l8, z40, hr0, l40, okr, q⟩ := h
    refine ⟨_, pss_cons (ps_par (i := 3) (j := 4) (x := "left") (y := "found") rfl scByO.nd rfl rfl (by decide) rfl rfl (pa_cons (pe_lc (own := [("part", 2)]) (g := gName 2) (te := tCall spFlat [] E0 (tCons (tVar 2) tNil)) rfl scByO.nd (pi_tup (pv 0))
          (blkOk_by (N := NByO) (sc := defScope sByO) (by decide +kernel))
          (fun _ _ _ _ _ => pg_name (i := 2) scByO.nd rfl (Or.inl rfl)) (fun _ _ _ _ _ => pts_nil)
          (fun _ _ _ _ _ => pe_call GF hr (by rfl) Z.L.m1 Z.L.F.kp Z.L.b1 .nil pass0 (pa_cons (pv 2) pa_nil))) (pa_cons (pe_lst pa_nil) pa_nil)) (by rfl))
      (pss_cons (ps_for PassesOwn.never rfl (pi_tup (pv 1)) (pg_name (i := 5) scByO.nd rfl (Or.inl rfl))
        (pss_cons (ps_expr (pe_bm PySem.F.plainAttrs_list PySem.F.slot_list_append PySem.F.type_list_append mt_append (pv 4) (pa_cons (pe_tup (pa_cons (pv 5) (pa_cons (pe_ix ix_list (pe_ix ix_list (pv 3) (pv 5) (fun _ _ => rfl)) pe_int (fun _ _ => rfl)) pa_nil))) pa_nil)))
        (pss_one (ps_asg (pe_slice sl_list (pe_ix ix_list (pv 3) (pv 5) (fun _ _ => rfl)) (po_some pe_int) po_none) (pg_sub (pv 3) (pv 5) set_list)))))
      (pss_one (ps_ret (pe_callTy call_tuple_of (by rfl) Z.tu (by decide +kernel) (pa_cons (pv 4) pa_nil))))), ?_⟩
    obtain ⟨a, xs, rfl, e, all⟩ : ∃ a xs, v = .ref a ∧ H a = some (.tup xs) ∧ DaAll H xs (ps.map dP) := by
      cases da with
      | tup e all => exact ⟨_, _, rfl, e, all⟩
    have ln := all.len
    rw [List.length_map] at ln
    refine ⟨_, rfl, a, rfl, ⟨_, SqT.of e⟩, fun L nL => ?_⟩
    refine lc_it (walk_tup (xs := xs)) (fun i H' => ∃ ads : List Addr, H' L = some (.lst (ads.map V.ref)) ∧ RwL H' ads ((ps.take i).map List.flatten) ∧ (∀ b ∈ ads, b ≠ L) ∧ Same H H') ⟨[], upd_same, ⟨rfl, fun i b r z => by cases z⟩, (fun b z => by cases z), same_upd nL⟩ (fun i H' _ ⟨_, _, _, _, z⟩ => SqT.of (z _ _ e)) ?_ ?_
    · rintro i x H4z H4 hi ⟨ads, hd, rl, nD, s4⟩ ⟨rfl, hx⟩
      obtain ⟨d1, h1, dx⟩ := all.at_ hx
      obtain ⟨p, hp, rfl⟩ := at_map h1
      have pz := szS_mem (List.mem_of_getElem? hp)
      have al := rl.1
      rw [List.length_map, List.length_take] at al
      refine ⟨rfl, _, rfl, x, p, rfl, Da.same s4 _ _ dx, by omega, fun H5 qa s5 nq hq => ?_⟩
      have s45 := s4.trans s5
      have nqL : qa ≠ L := fun z => by
        rw [z, hd] at nq
        cases nq
      refine ⟨_, s5 _ _ hd, by rw [List.length_map, sizeLine_eq]; omega, ads ++ [qa], by rw [List.map_append]; exact upd_same, ?_, fun b hb => ?_, same_push nL s45⟩
      · rw [take_one hp, List.map_append]
        refine RwL.push ((rl.same s5).snoc hq) fun b hb => ?_
        rcases List.mem_append.mp hb with hb | hb
        · exact nD b hb
        · cases List.mem_singleton.mp hb
          exact nqL
      · rcases List.mem_append.mp hb with hb | hb
        · exact nD b hb
        · cases List.mem_singleton.mp hb
          exact nqL
    · rintro H1 ⟨ads, hL, rl, nL1, s1⟩
      rw [ln, List.take_length] at rl
      refine ⟨(by decide), fun D nD => ⟨_, _, rfl, ?_⟩⟩
      have uD := same_upd (o := HO.lst []) nD
      have nDH : H D = none := same_none s1 nD
      have LD : L ≠ D := fun z => by
        rw [← z, hL] at nD
        cases nD
      have nD1 : ∀ b ∈ ads, b ≠ D := fun b hb z => by
        obtain ⟨i, hi⟩ := List.mem_iff_getElem?.mp hb
        have il : i < (ps.map List.flatten).length := by rw [← rl.1]; exact (List.getElem?_eq_some_iff.mp hi).1
        rw [← z, rl.2 i b _ hi (List.getElem?_eq_getElem il)] at nD
        cases nD
      refine ⟨_, rfl, r, rfl, ⟨_, SqT.of (uD _ _ (s1 _ _ hr0))⟩, for_it (walk_tup (xs := (castL row).map V.int)) (fun i σ H' => ∃ (ads : List Addr) (R : List (List Int)) (ts : List Addr) (es : List E2) (v5 : Option V), σ = [some (.ref a), some (.ref r), none, some (.ref L), some (.ref D), v5] ∧ Same H H' ∧ H' L = some (.lst (ads.map V.ref)) ∧ RwL H' ads R ∧ (∀ b ∈ ads, b ≠ L ∧ b ≠ D) ∧ H' D = some (.lst (ts.map V.ref)) ∧ At2 H' ts es ∧ es.length = i ∧ ads.length ≤ 8 ∧ Okr R (row.drop i) ∧ es ++ byF R (row.drop i) = byF (ps.map List.flatten) row)
        ⟨ads, _, [], [], none, rfl, s1.trans uD, uD _ _ hL, rl.same uD, fun b hb => ⟨nL1 b hb, nD1 b hb⟩, upd_same, ⟨rfl, fun i t e z => by cases z⟩, rfl, by have := rl.1; rw [List.length_map] at this; omega, okr, rfl⟩ (fun i σ H' _ ⟨_, _, _, _, _, _, z, _⟩ => SqT.of (z _ _ hr0)) ?_ ?_⟩
      · rintro i x σ H2 H3 hi ⟨ads, R, ts, es, v5, rfl, s2, hL2, rl2, nn, hD2, a2, el, al, ok, inv⟩ ⟨rfl, hx⟩
        rw [List.length_map, List.length_map] at hi
        have hw : row[i]? = some row[i] := List.getElem?_eq_getElem hi
        rw [List.getElem?_map, List.getElem?_map, hw] at hx
        generalize row[i] = w at hw hx
        obtain rfl : V.int (w : Int) = x := Option.some.inj hx
        rw [drop_at hw] at ok inv
        obtain ⟨wR, nz, ok⟩ := ok
        have wA : w < ads.length := by rw [rl2.1]; exact wR
        have hb := rl2.2 w ads[w] R[w] (List.getElem?_eq_getElem wA) (List.getElem?_eq_getElem wR)
        have gR : R.getD w [] = R[w] := by
          rw [List.getD_eq_getElem?_getD, List.getElem?_eq_getElem wR]
          rfl
        rw [gR] at nz ok
        obtain ⟨st, tl, eR⟩ : ∃ st tl, R[w] = st :: tl := by
          cases z : R[w] with
          | nil => exact absurd z nz
          | cons st tl => exact ⟨st, tl, rfl⟩
        rw [eR] at hb ok gR
        have inv : es ++ (((w : Int), (R.getD w []).headD 0) :: byF (R.set w (R.getD w []).tail) (row.drop (i + 1))) = byF (ps.map List.flatten) row := inv
        rw [gR] at inv
        have atA : atI (ads.map V.ref) (w : Int) = some (.ref ads[w]) := atI_nat (by rw [List.getElem?_map, List.getElem?_eq_getElem wA]; rfl)
        have nnb := nn ads[w] (List.getElem_mem wA)
        have ads_set : ∀ q : Addr, (ads.map V.ref).set w (.ref q) = (ads.set w q).map V.ref := fun q => by rw [List.map_set]
        have adw : ads[w]? = some ads[w] := List.getElem?_eq_getElem wA
        generalize ads[w] = b at *
        refine ⟨_, rfl, .inl ⟨rfl, _, SqL.of hD2⟩, _, rfl, _, rfl, _, rfl, L, _, (w : Int), .ref b, rfl, rfl, SqL.of hL2, atA, b, _, 0, .int st, rfl, rfl, SqL.of hb, atI_nat (j := 0) rfl, (by show 2 ≤ sizeLine; decide), fun tp ntp => ?_⟩
        have u1 := same_upd (o := HO.tup [V.int (w : Int), V.int st]) ntp
        refine ⟨D, ts.map V.ref, _, rfl, rfl, u1 _ _ hD2, by rw [List.length_map, a2.1, sizeLine_eq]; omega, ?_⟩
        have k1 := keepT_upd (o := .lst (ts.map V.ref ++ [.ref tp])) (u1 _ _ hD2) (fun xs z => by cases z)
        have hL4 : upd (upd H3 tp (.tup [V.int (w : Int), V.int st])) D (.lst (ts.map V.ref ++ [.ref tp])) L = some (.lst (ads.map V.ref)) := by
          rw [upd_ne LD]
          exact u1 _ _ hL2
        have hb4 : upd (upd H3 tp (.tup [V.int (w : Int), V.int st])) D (.lst (ts.map V.ref ++ [.ref tp])) b = some (.lst ((st :: tl).map V.int)) := by
          rw [upd_ne nnb.2]
          exact u1 _ _ hb
        refine ⟨_, rfl, _, rfl, L, _, (w : Int), .ref b, rfl, rfl, SqL.of hL4, atA, _, rfl, b, _, rfl, SqL.of hb4, fun q1 nq1 => ?_⟩
        have u2 := same_upd (o := HO.lst (cutV ((st :: tl).map V.int) (some 1) none)) nq1
        have hL5 := u2 _ _ hL4
        have nqL : q1 ≠ L := fun z => by
          rw [z, hL4] at nq1
          cases nq1
        have nqD : q1 ≠ D := fun z => by
          rw [z, upd_same] at nq1
          cases nq1
        have ixw : ixN (ads.map V.ref).length (w : Int) = some w := by
          unfold ixN
          rw [List.length_map, if_pos (by omega), if_pos (by omega)]
          rfl
        refine ⟨_, rfl, _, rfl, L, ads.map V.ref, (w : Int), w, rfl, rfl, hL5, ixw, ?_⟩
        rw [ads_set]
        have kL := keepT_upd (o := .lst ((ads.set w q1).map V.ref)) hL5 (fun xs z => by cases z)
        have kk := ((Same.keepT u1).trans k1).trans ((Same.keepT u2).trans kL)
        have hq1 : upd (upd (upd (upd H3 tp (.tup [V.int (w : Int), V.int st])) D (.lst (ts.map V.ref ++ [.ref tp]))) q1 (HO.lst (cutV ((st :: tl).map V.int) (some 1) none))) L (.lst ((ads.set w q1).map V.ref)) q1 = some (.lst (tl.map V.int)) := by
          rw [upd_ne nqL, upd_same, cut_one]
          rfl
        have old : ∀ b2 ∈ ads, ∀ l2 : List Int, H3 b2 = some (.lst (l2.map V.int)) → upd (upd (upd (upd H3 tp (.tup [V.int (w : Int), V.int st])) D (.lst (ts.map V.ref ++ [.ref tp]))) q1 (HO.lst (cutV ((st :: tl).map V.int) (some 1) none))) L (.lst ((ads.set w q1).map V.ref)) b2 = some (.lst (l2.map V.int)) := fun b2 hb2 l2 h2 => by
          obtain ⟨n1, n2⟩ := nn b2 hb2
          rw [upd_ne n1]
          refine u2 _ _ ?_
          rw [upd_ne n2]
          exact u1 _ _ h2
        refine ⟨ads.set w q1, R.set w tl, ts ++ [tp], es ++ [((w : Int), st)], _, rfl, same_push nL ((same_push nDH (s2.trans u1)).trans u2), upd_same, ⟨by rw [List.length_set, List.length_set]; exact rl2.1, fun j b2 l2 h1 h2 => ?_⟩, fun b2 hb2 => ?_, ?_, ?_, by rw [List.length_append, el]; rfl, by rw [List.length_set]; exact al, ok, by rw [← inv, List.append_assoc]; rfl⟩
        · by_cases c : w = j
          · subst c
            rw [List.getElem?_set_self wA] at h1
            rw [List.getElem?_set_self wR] at h2
            cases h1
            cases h2
            exact hq1
          · rw [List.getElem?_set_ne c] at h1 h2
            exact old b2 (List.mem_of_getElem? h1) l2 (rl2.2 j b2 l2 h1 h2)
        · rcases List.mem_or_eq_of_mem_set hb2 with hb2 | rfl
          · exact nn b2 hb2
          · exact ⟨nqL, nqD⟩
        · rw [upd_ne LD.symm]
          refine u2 _ _ ?_
          rw [List.map_append]
          exact upd_same
        · refine At2.snoc (a2.same kk) (kL _ _ (u2 _ _ (k1 _ _ upd_same)))
      · rintro σ H2 ⟨ads, R, ts, es, v5, rfl, s2, hL2, rl2, nn, hD2, a2, el, al, ok, inv⟩
        rw [List.length_map, List.length_map, List.drop_length] at inv
        have inv : es ++ [] = byF (ps.map List.flatten) row := inv
        rw [List.append_nil] at inv
        refine ⟨_, rfl, D, _, rfl, .inl ⟨SqL.of hD2, fun p np => ?_⟩⟩
        refine q _ p (s2.trans (same_upd np)) ?_
        rw [← inv]
        exact ⟨ts, upd_same, a2.1, fun i t x h1 h2 => same_upd np _ _ (a2.2 i t x h1 h2)⟩
end
end K39

set_option Elab.async false
set_option linter.all false
set_option maxRecDepth 100000
set_option maxHeartbeats 4000000
/-! The functions of scores, asked for what is right: nothing is raised. -/
namespace L2
open PySem PySem.Spec PyProof.Rows EV
/-- a promise of a def that may raise, where it doesn't -/
theorem fnOk0 {P : Program} {w : World} {K : PySem.W.Frag} {mg : Str → Option Value} {base : Heap} {k : Nat} {f : Addr} {fd : FuncData} {ps : List Str} {sp sp2 : Sp} (F : FnOk P w K mg base (L2.CX P w) k f fd ps sp) (h : ∀ vs H Q E, sp2 vs H Q E → sp vs H Q E0) : FnOk P w K mg base CX0 k f fd ps sp2 :=
  ⟨fun vs H Q E q => F.len vs H Q E0 (h _ _ _ _ q), fun A outer s H args us vs Q E hr he hb hv hs => codeAny_mono (F.run A outer s H args us vs Q E0 hr he hb hv (h _ _ _ _ hs)) fun r s' z => by
    cases r with
    | error e =>
      obtain ⟨_, _, _, _, _, _, _, _, _, _, _, _, bad⟩ := z
      exact bad
    | ok fl => cases fl <;> exact z⟩
end L2
namespace K39
open PySem L2 L2.EV
theorem dL_inj {a b : Lin} (h : dL a = dL b) : a = b := by
  unfold dL at h
  injection h with h
  exact ints_inj h
where ints_inj : ∀ {a b : List Int}, a.map PyData.int = b.map PyData.int → a = b
  | [], [], _ => rfl
  | [], _ :: _, h => by cases h
  | _ :: _, [], h => by cases h
  | x :: a, y :: b, h => by
    rw [List.map_cons, List.map_cons] at h
    injection h with h1 h2
    injection h1 with h1
    rw [h1, ints_inj h2]
theorem map_inj {α : Type} {f : α → PyData} (hf : ∀ x y, f x = f y → x = y) : ∀ {a b : List α}, a.map f = b.map f → a = b
  | [], [], _ => rfl
  | [], _ :: _, h => by cases h
  | _ :: _, [], h => by cases h
  | x :: a, y :: b, h => by
    rw [List.map_cons, List.map_cons] at h
    injection h with h1 h2
    rw [hf x y h1, map_inj hf h2]
theorem dP_inj {a b : List Lin} (h : dP a = dP b) : a = b := by
  unfold dP at h
  injection h with h
  exact map_inj (fun _ _ => dL_inj) h
theorem dS_inj {a b : List (List Lin)} (h : dS a = dS b) : a = b := by
  unfold dS at h
  injection h with h
  exact map_inj (fun _ _ => dP_inj) h
theorem d2_inj {a b : E2} (h : d2 a = d2 b) : a = b := by
  unfold d2 at h
  injection h with h
  injection h with h1 h2
  injection h2 with h2 _
  injection h1 with h1
  injection h2 with h2
  exact Prod.ext h1 h2
theorem gs_lm {fr : List T3} {ps : List (List Lin)} (g : Gs fr ps) : Lm (dS ps) := by
  intro e he x hx
  obtain ⟨p, hp, rfl⟩ := List.mem_map.mp (show e ∈ ps.map dP from he)
  obtain ⟨l, hl, rfl⟩ := List.mem_map.mp (show x ∈ p.map dL from hx)
  have a := szS_mem hp
  have b := sz1_mem hl
  have c := g.sz
  show (l.map PyData.int).length ≤ 10000
  rw [List.length_map]
  omega
def spNeedSR : Sp := fun vs H Q _ => ∃ (f : Addr) (v : V) (fr : List T3) (last : Nat) (ps : List (List Lin)), vs = [.ref f, v] ∧ FrA H f fr ∧ Frm fr last ∧ Da H v (dS ps) ∧ Gs fr ps ∧ ∀ H', Same H H' → Q v H'
def spCntR (val : List (List Lin) → Nat) : Sp := fun vs H Q _ => ∃ (f : Addr) (v : V) (fr : List T3) (last : Nat) (ps : List (List Lin)), vs = [.ref f, v] ∧ FrA H f fr ∧ Frm fr last ∧ Da H v (dS ps) ∧ Gs fr ps ∧ ∀ H', Same H H' → Q (.int (val ps : Nat)) H'
def spAtR : Sp := fun vs H Q _ => ∃ (f : Addr) (v : V) (k : Nat) (fr : List T3) (last : Nat) (ps : List (List Lin)), vs = [.ref f, v, .int (k : Int)] ∧ FrA H f fr ∧ Frm fr last ∧ Da H v (dS ps) ∧ Gs fr ps ∧ k < cntN ps ∧ ∀ H' p, Same H H' → WvA H' p (atP ps k) → Q (.ref p) H'
def spNrR : Sp := fun vs H Q _ => ∃ (f p : Addr) (v : V) (k : Nat) (fr : List T3) (last : Nat) (ps : List (List Lin)), vs = [.ref f, v, .ref p] ∧ FrA H f fr ∧ Frm fr last ∧ Da H v (dS ps) ∧ Gs fr ps ∧ k < cntN ps ∧ WvA H p (atP ps k) ∧ ∀ H', Same H H' → Q (.int (k : Int)) H'
section
variable {P : Program} {w : World} {K : PySem.W.Frag} {mg : Str → Option Value} {base : Heap}
theorem ok_needSR (Z : Ns K mg) : FnOk P w K mg base CX0 6 Z.f Z.d ["framing", "thing"] spNeedSR :=
  fnOk0 (ok_needS Z) fun vs H Q E ⟨f, v, fr, last, ps, e, fa, fm, da, gs, q⟩ => ⟨f, v, fr, last, dS ps, e, fa, fm, da, gs_lm gs, by rw [gs_good gs]; exact q⟩
theorem ok_countR (Z : Ct K mg) : FnOk P w K mg base CX0 7 Z.f1 Z.d1 ["framing", "score"] (spCntR cntN) :=
  fnOk0 (ok_count Z) fun vs H Q E ⟨f, v, fr, last, ps, e, fa, fm, da, gs, q⟩ => ⟨f, v, fr, last, dS ps, e, fa, fm, da, gs_lm gs, by
    rw [gs_good gs]
    intro ps2 h2 _
    rw [← dS_inj h2]
    exact q⟩
theorem ok_cleanR (Z : Ct K mg) : FnOk P w K mg base CX0 7 Z.f2 Z.d2 ["framing", "score"] (spCntR clnN) :=
  fnOk0 (ok_clean Z) fun vs H Q E ⟨f, v, fr, last, ps, e, fa, fm, da, gs, q⟩ => ⟨f, v, fr, last, dS ps, e, fa, fm, da, gs_lm gs, by
    rw [gs_good gs]
    intro ps2 h2 _
    rw [← dS_inj h2]
    exact q⟩
theorem ok_atR (Z : At4 K mg) : FnOk P w K mg base CX0 7 Z.f Z.d ["framing", "score", "number"] spAtR :=
  fnOk0 (ok_at Z) fun vs H Q E ⟨f, v, k, fr, last, ps, e, fa, fm, da, gs, kl, q⟩ => ⟨f, v, _, fr, last, dS ps, .int (k : Int), e, fa, fm, da, gs_lm gs, .int _, by
    rw [gs_good gs]
    intro ps2 h2 _
    rw [← dS_inj h2]
    have z : numD (cntN ps : Nat) (.int (k : Int)) = some (k : Int) := if_pos ⟨by omega, by omega⟩
    rw [z]
    intro H' p es s wa _ _ ee
    rw [ee] at wa
    exact q H' p s wa⟩
theorem ok_nrR (Z : Nr K mg) : FnOk P w K mg base CX0 7 Z.f Z.d ["framing", "score", "weaving"] spNrR :=
  fnOk0 (ok_nr Z) fun vs H Q E ⟨f, p, v, k, fr, last, ps, e, fa, fm, da, gs, kl, wa, q⟩ => ⟨f, v, .ref p, fr, last, dS ps, .tuple ((atP ps k).map d2), e, fa, fm, da, gs_lm gs, da_wv wa, by
    rw [gs_good gs]
    intro ps2 h2 _
    rw [← dS_inj h2]
    obtain ⟨h3, h4, h5⟩ := atP_ok gs kl
    rw [wv_weav h3]
    intro es h6 _
    injection h6 with h6
    rw [← map_inj (fun _ _ => d2_inj) h6, h4]
    have z : nwF (ps.map sz1) (atP ps k) 0 = k := by
      have y := nw_at (rows := ps.map List.flatten) (k := szS ps) (ns := ps.map sz1) (r := k) (acc := 0) rfl kl
      rw [Nat.zero_add] at y
      exact y
    rw [z]
    exact q⟩
end
theorem okd_bl (b : Bool) : Okd (.bool b) 10 0 := by
  have z : ∀ b : Bool, (PyData.bool b).showable = true ∧ (PyData.bool b).hasDict = false ∧ (PyData.bool b).shown.length ≤ 10 ∧ (PyData.bool b).depth ≤ 0 ∧ (PyData.bool b).canLay0 = true := by decide +kernel
  obtain ⟨h1, h2, h3, h4, h5⟩ := z b
  exact ⟨h1, h2, h3, h4, h5⟩
theorem okd_dL {fr : List T3} {l : Lin} (h : ∀ n ∈ l, Ins fr n) (hf : fr.length ≤ 16) (hl : l.length ≤ 12) : Okd (dL l) 147 1 := by
  refine okd_tuple (n := 10) (dp := 0) (m := 12) (fun d hd => ?_) (by rw [List.length_map]; exact hl)
  obtain ⟨n, hn, rfl⟩ := List.mem_map.mp hd
  obtain ⟨a, b⟩ := h n hn
  exact okd_int a (by omega)
theorem okd_score {fr : List T3} {ps : List (List Lin)} (g : Gs fr ps) (h12 : szS ps ≤ 12) (hf : fr.length ≤ 16) : Okd (dS ps) 15000 3 := by
  refine (okd_tuple (n := 1800) (dp := 2) (m := 8) (fun x hx => ?_) (by rw [List.length_map]; exact g.l8)).le (by decide) (by decide)
  obtain ⟨p, hp, rfl⟩ := List.mem_map.mp hx
  have pz := szS_mem hp
  refine (okd_tuple (n := 147) (dp := 1) (m := 12) (fun y hy => ?_) ?_).le (by decide) (by decide)
  · obtain ⟨l, hl, rfl⟩ := List.mem_map.mp hy
    have b := sz1_mem hl
    exact okd_dL (g.ln p hp l hl).ins hf (by omega)
  · rw [List.length_map]
    have := len_le fun l hl => (g.ln p hp l hl).ne
    omega
theorem okd_dE {fr : List T3} {es : List E2} (h : ∀ e ∈ es, Ent fr e) (hf : fr.length ≤ 16) (hl : es.length ≤ 12) : Okd (dE es) 500 2 := by
  refine (okd_tuple (n := 27) (dp := 1) (m := 12) (fun d hd => ?_) (by rw [List.length_map]; exact hl)).le (by decide) (by decide)
  obtain ⟨e, he, rfl⟩ := List.mem_map.mp hd
  obtain ⟨a, b, c, d⟩ := h e he
  refine (okd_tuple (n := 10) (dp := 0) (m := 2) (fun x hx => ?_) (Nat.le_refl _)).le (by decide) (by decide)
  have cs : x = .int e.1 ∨ x = .int e.2 := by simpa using hx
  rcases cs with rfl | rfl
  · exact okd_int a (by omega)
  · exact okd_int c (by omega)
end K39

set_option Elab.async false
set_option linter.all false
set_option maxRecDepth 100000
set_option maxHeartbeats 4000000
/-! Great numbers shown; <= of rows. -/
namespace K39
open PySem L2 L2.EV
theorem shown_len {k n : Nat} (hn : 0 < n) (h : k < 10 ^ n) : (PyData.int (k : Int)).shown.length ≤ n := by
  have e := (Nat.length_repr_le_iff (n := k) hn).mpr h
  show (Str.ofString (toString (k : Int))).length ≤ n
  have e2 : (Str.ofString (toString (k : Int))).length = (toString (k : Int)).toList.length := by
    rw [Str.ofString_eq_toList]
    simp [Str.length]
  rw [e2]
  have e3 : toString (k : Int) = k.repr := rfl
  rw [e3, String.length_toList]
  exact e
theorem okd_nat {k : Nat} (h : k < 10 ^ 60) : Okd (.int (k : Int)) 60 0 := by
  refine ⟨?_, by simp only [PyData.hasDict], shown_len (by decide) h, by simp only [PyData.depth]; omega, by simp only [PyData.canLay0]⟩
  simp only [PyData.showable]
  refine decide_eq_true (PySem.Flt.log2_lt_of (by decide) ?_)
  have e : (10 : Nat) ^ 60 < 2 ^ 1920 := by decide +kernel
  omega
theorem ord_le40 {ns : List Nat} (h : ns.sum ≤ 40) : ordN ns < 10 ^ 60 := by
  have e := ord_fct (ns := ns)
  have p := prd_pos ns
  have q : ordN ns ≤ fct ns.sum := by
    rw [← e]
    exact Nat.le_mul_of_pos_right _ p
  have m : ∀ s : Fin 41, fct s.val < 10 ^ 60 := by decide +kernel
  exact Nat.lt_of_le_of_lt q (m ⟨ns.sum, by omega⟩)
/-- a row is not at most a lesser one -/
theorem lex_no : ∀ {a b : List Int} {e r : Nat → Bool} {i : Nat}, b < a → (∀ j, e (i + j) = decide (a.getD j 0 = b.getD j 0)) → (∀ j, r (i + j) = decide (a.getD j 0 ≤ b.getD j 0)) → ∀ z, z = decide (a.length ≤ b.length) → Ob.lexAt e r z i (min a.length b.length) = false
  | [], b, e, r, i, h, _, _, z, hz => by
    exact absurd h (by cases b <;> simp)
  | x :: a, [], e, r, i, h, he, hr, z, hz => by
    rw [List.length_nil, Nat.min_zero, Ob.lexAt_zero, hz]
    rfl
  | x :: a, y :: b, e, r, i, h, he, hr, z, hz => by
    have m : min (x :: a).length (y :: b).length = min a.length b.length + 1 := by
      rw [List.length_cons, List.length_cons]
      omega
    rw [m, Ob.lexAt_succ]
    have e0 := he 0
    have r0 := hr 0
    rw [List.cons_lt_cons_iff] at h
    by_cases c : x = y
    · subst c
      have h : b < a := by
        rcases h with h | h
        · omega
        · exact h.2
      rw [if_pos (by rw [show i = i + 0 from rfl, e0]; exact decide_eq_true rfl)]
      refine lex_no h (fun j => ?_) (fun j => ?_) z (by rw [hz, List.length_cons, List.length_cons]; simp)
      · have := he (j + 1)
        rw [show i + (j + 1) = i + 1 + j by omega] at this
        rw [this]
        simp
      · have := hr (j + 1)
        rw [show i + (j + 1) = i + 1 + j by omega] at this
        rw [this]
        simp
    · have h : y < x := by
        rcases h with h | h
        · exact h
        · exact absurd h.1.symm c
      rw [if_neg (by rw [show i = i + 0 from rfl, e0]; exact fun q => c (of_decide_eq_true q))]
      rw [show i = i + 0 from rfl, r0]
      refine decide_eq_false fun q => ?_
      have q : x ≤ y := q
      omega
end K39

set_option Elab.async false
set_option linter.all false
set_option maxRecDepth 100000
set_option maxHeartbeats 4000000
/-! _law_by_order of a list. -/
namespace K39
open PySem L2 L2.EV
def spByOL : Sp := fun vs H Q _ => ∃ (v : V) (r : Addr) (ps : List (List Lin)) (row : List Nat), vs = [v, .ref r] ∧ Da H v (dS ps) ∧ ps.length ≤ 8 ∧ szS ps ≤ 40 ∧ H r = some (.lst ((castL row).map V.int)) ∧ row.length ≤ 40 ∧ Okr (ps.map List.flatten) row ∧ ∀ H' p, Same H H' → WvA H' p (byF (ps.map List.flatten) row) → Q (.ref p) H'
section
variable {P : Program} {w : World} {K : PySem.W.Frag} {mg : Str → Option Value} {base : Heap}
theorem scByOL : FnScope NByO ["score", "row"] (defScope sByO) := ⟨rfl, rfl, rfl, by decide +kernel, rfl, by decide +kernel, by decide +kernel⟩
theorem ok_byOL (Z : Bo K mg) : FnOk P w K mg base CX0 2 Z.f Z.d ["score", "row"] spByOL := by
  have GF : FnOk P w K mg base CX0 1 Z.L.f1 Z.L.d1 ["part"] spFlat := ok_flat Z.L
  refine Z.F.ok scByOL (fun vs H Q E h => ?_) (fun cdv A outer s H vs Q E hr h => ?_)
  · obtain ⟨v, r, ps, row, rfl, _⟩ := h
    rfl
  · obtain ⟨v, r, ps, row, rfl, da, l8, z40, hr0, l40, okr, q⟩ := h
    refine ⟨_, pss_cons (ps_par (i := 3) (j := 4) (x := "left") (y := "found") rfl scByOL.nd rfl rfl (by decide) rfl rfl (pa_cons (pe_lc (own := [("part", 2)]) (g := gName 2) (te := tCall spFlat [] E0 (tCons (tVar 2) tNil)) rfl scByOL.nd (pi_tup (pv 0))
          (blkOk_by (N := NByO) (sc := defScope sByO) (by decide +kernel))
          (fun _ _ _ _ _ => pg_name (i := 2) scByOL.nd rfl (Or.inl rfl)) (fun _ _ _ _ _ => pts_nil)
          (fun _ _ _ _ _ => pe_call GF hr (by rfl) Z.L.m1 Z.L.F.kp Z.L.b1 .nil pass0 (pa_cons (pv 2) pa_nil))) (pa_cons (pe_lst pa_nil) pa_nil)) (by rfl))
      (pss_cons (ps_for PassesOwn.never rfl (pi_list (pv 1)) (pg_name (i := 5) scByOL.nd rfl (Or.inl rfl))
        (pss_cons (ps_expr (pe_bm PySem.F.plainAttrs_list PySem.F.slot_list_append PySem.F.type_list_append mt_append (pv 4) (pa_cons (pe_tup (pa_cons (pv 5) (pa_cons (pe_ix ix_list (pe_ix ix_list (pv 3) (pv 5) (fun _ _ => rfl)) pe_int (fun _ _ => rfl)) pa_nil))) pa_nil)))
        (pss_one (ps_asg (pe_slice sl_list (pe_ix ix_list (pv 3) (pv 5) (fun _ _ => rfl)) (po_some pe_int) po_none) (pg_sub (pv 3) (pv 5) set_list)))))
      (pss_one (ps_ret (pe_callTy call_tuple_of (by rfl) Z.tu (by decide +kernel) (pa_cons (pv 4) pa_nil))))), ?_⟩
    obtain ⟨a, xs, rfl, e, all⟩ : ∃ a xs, v = .ref a ∧ H a = some (.tup xs) ∧ DaAll H xs (ps.map dP) := by
      cases da with
      | tup e all => exact ⟨_, _, rfl, e, all⟩
    have ln := all.len
    rw [List.length_map] at ln
    refine ⟨_, rfl, a, rfl, ⟨_, SqT.of e⟩, fun L nL => ?_⟩
    refine lc_it (walk_tup (xs := xs)) (fun i H' => ∃ ads : List Addr, H' L = some (.lst (ads.map V.ref)) ∧ RwL H' ads ((ps.take i).map List.flatten) ∧ (∀ b ∈ ads, b ≠ L) ∧ Same H H') ⟨[], upd_same, ⟨rfl, fun i b r z => by cases z⟩, (fun b z => by cases z), same_upd nL⟩ (fun i H' _ ⟨_, _, _, _, z⟩ => SqT.of (z _ _ e)) ?_ ?_
    · rintro i x H4z H4 hi ⟨ads, hd, rl, nD, s4⟩ ⟨rfl, hx⟩
      obtain ⟨d1, h1, dx⟩ := all.at_ hx
      obtain ⟨p, hp, rfl⟩ := at_map h1
      have pz := szS_mem (List.mem_of_getElem? hp)
      have al := rl.1
      rw [List.length_map, List.length_take] at al
      refine ⟨rfl, _, rfl, x, p, rfl, Da.same s4 _ _ dx, by omega, fun H5 qa s5 nq hq => ?_⟩
      have s45 := s4.trans s5
      have nqL : qa ≠ L := fun z => by
        rw [z, hd] at nq
        cases nq
      refine ⟨_, s5 _ _ hd, by rw [List.length_map, sizeLine_eq]; omega, ads ++ [qa], by rw [List.map_append]; exact upd_same, ?_, fun b hb => ?_, same_push nL s45⟩
      · rw [take_one hp, List.map_append]
        refine RwL.push ((rl.same s5).snoc hq) fun b hb => ?_
        rcases List.mem_append.mp hb with hb | hb
        · exact nD b hb
        · cases List.mem_singleton.mp hb
          exact nqL
      · rcases List.mem_append.mp hb with hb | hb
        · exact nD b hb
        · cases List.mem_singleton.mp hb
          exact nqL
    · rintro H1 ⟨ads, hL, rl, nL1, s1⟩
      rw [ln, List.take_length] at rl
      refine ⟨(by decide), fun D nD => ⟨_, _, rfl, ?_⟩⟩
      have uD := same_upd (o := HO.lst []) nD
      have nDH : H D = none := same_none s1 nD
      have LD : L ≠ D := fun z => by
        rw [← z, hL] at nD
        cases nD
      have nD1 : ∀ b ∈ ads, b ≠ D := fun b hb z => by
        obtain ⟨i, hi⟩ := List.mem_iff_getElem?.mp hb
        have il : i < (ps.map List.flatten).length := by rw [← rl.1]; exact (List.getElem?_eq_some_iff.mp hi).1
        rw [← z, rl.2 i b _ hi (List.getElem?_eq_getElem il)] at nD
        cases nD
      refine ⟨_, rfl, r, rfl, ⟨_, SqL.of (uD _ _ (s1 _ _ hr0))⟩, for_it (walk_list (xs := (castL row).map V.int)) (fun i σ H' => ∃ (ads : List Addr) (R : List (List Int)) (ts : List Addr) (es : List E2) (v5 : Option V), σ = [some (.ref a), some (.ref r), none, some (.ref L), some (.ref D), v5] ∧ Same H H' ∧ H' L = some (.lst (ads.map V.ref)) ∧ RwL H' ads R ∧ (∀ b ∈ ads, b ≠ L ∧ b ≠ D) ∧ H' D = some (.lst (ts.map V.ref)) ∧ At2 H' ts es ∧ es.length = i ∧ ads.length ≤ 8 ∧ Okr R (row.drop i) ∧ es ++ byF R (row.drop i) = byF (ps.map List.flatten) row)
        ⟨ads, _, [], [], none, rfl, s1.trans uD, uD _ _ hL, rl.same uD, fun b hb => ⟨nL1 b hb, nD1 b hb⟩, upd_same, ⟨rfl, fun i t e z => by cases z⟩, rfl, by have := rl.1; rw [List.length_map] at this; omega, okr, rfl⟩ (fun i σ H' _ ⟨_, _, _, _, _, _, z, _⟩ => SqL.of (z _ _ hr0)) ?_ ?_⟩
      · rintro i x σ H2 H3 hi ⟨ads, R, ts, es, v5, rfl, s2, hL2, rl2, nn, hD2, a2, el, al, ok, inv⟩ ⟨rfl, hx⟩
        rw [List.length_map, List.length_map] at hi
        have hw : row[i]? = some row[i] := List.getElem?_eq_getElem hi
        rw [List.getElem?_map, List.getElem?_map, hw] at hx
        generalize row[i] = w at hw hx
        obtain rfl : V.int (w : Int) = x := Option.some.inj hx
        rw [drop_at hw] at ok inv
        obtain ⟨wR, nz, ok⟩ := ok
        have wA : w < ads.length := by rw [rl2.1]; exact wR
        have hb := rl2.2 w ads[w] R[w] (List.getElem?_eq_getElem wA) (List.getElem?_eq_getElem wR)
        have gR : R.getD w [] = R[w] := by
          rw [List.getD_eq_getElem?_getD, List.getElem?_eq_getElem wR]
          rfl
        rw [gR] at nz ok
        obtain ⟨st, tl, eR⟩ : ∃ st tl, R[w] = st :: tl := by
          cases z : R[w] with
          | nil => exact absurd z nz
          | cons st tl => exact ⟨st, tl, rfl⟩
        rw [eR] at hb ok gR
        have inv : es ++ (((w : Int), (R.getD w []).headD 0) :: byF (R.set w (R.getD w []).tail) (row.drop (i + 1))) = byF (ps.map List.flatten) row := inv
        rw [gR] at inv
        have atA : atI (ads.map V.ref) (w : Int) = some (.ref ads[w]) := atI_nat (by rw [List.getElem?_map, List.getElem?_eq_getElem wA]; rfl)
        have nnb := nn ads[w] (List.getElem_mem wA)
        have ads_set : ∀ q : Addr, (ads.map V.ref).set w (.ref q) = (ads.set w q).map V.ref := fun q => by rw [List.map_set]
        have adw : ads[w]? = some ads[w] := List.getElem?_eq_getElem wA
        generalize ads[w] = b at *
        refine ⟨_, rfl, .inl ⟨rfl, _, SqL.of hD2⟩, _, rfl, _, rfl, _, rfl, L, _, (w : Int), .ref b, rfl, rfl, SqL.of hL2, atA, b, _, 0, .int st, rfl, rfl, SqL.of hb, atI_nat (j := 0) rfl, (by show 2 ≤ sizeLine; decide), fun tp ntp => ?_⟩
        have u1 := same_upd (o := HO.tup [V.int (w : Int), V.int st]) ntp
        refine ⟨D, ts.map V.ref, _, rfl, rfl, u1 _ _ hD2, by rw [List.length_map, a2.1, sizeLine_eq]; omega, ?_⟩
        have k1 := keepT_upd (o := .lst (ts.map V.ref ++ [.ref tp])) (u1 _ _ hD2) (fun xs z => by cases z)
        have hL4 : upd (upd H3 tp (.tup [V.int (w : Int), V.int st])) D (.lst (ts.map V.ref ++ [.ref tp])) L = some (.lst (ads.map V.ref)) := by
          rw [upd_ne LD]
          exact u1 _ _ hL2
        have hb4 : upd (upd H3 tp (.tup [V.int (w : Int), V.int st])) D (.lst (ts.map V.ref ++ [.ref tp])) b = some (.lst ((st :: tl).map V.int)) := by
          rw [upd_ne nnb.2]
          exact u1 _ _ hb
        refine ⟨_, rfl, _, rfl, L, _, (w : Int), .ref b, rfl, rfl, SqL.of hL4, atA, _, rfl, b, _, rfl, SqL.of hb4, fun q1 nq1 => ?_⟩
        have u2 := same_upd (o := HO.lst (cutV ((st :: tl).map V.int) (some 1) none)) nq1
        have hL5 := u2 _ _ hL4
        have nqL : q1 ≠ L := fun z => by
          rw [z, hL4] at nq1
          cases nq1
        have nqD : q1 ≠ D := fun z => by
          rw [z, upd_same] at nq1
          cases nq1
        have ixw : ixN (ads.map V.ref).length (w : Int) = some w := by
          unfold ixN
          rw [List.length_map, if_pos (by omega), if_pos (by omega)]
          rfl
        refine ⟨_, rfl, _, rfl, L, ads.map V.ref, (w : Int), w, rfl, rfl, hL5, ixw, ?_⟩
        rw [ads_set]
        have kL := keepT_upd (o := .lst ((ads.set w q1).map V.ref)) hL5 (fun xs z => by cases z)
        have kk := ((Same.keepT u1).trans k1).trans ((Same.keepT u2).trans kL)
        have hq1 : upd (upd (upd (upd H3 tp (.tup [V.int (w : Int), V.int st])) D (.lst (ts.map V.ref ++ [.ref tp]))) q1 (HO.lst (cutV ((st :: tl).map V.int) (some 1) none))) L (.lst ((ads.set w q1).map V.ref)) q1 = some (.lst (tl.map V.int)) := by
          rw [upd_ne nqL, upd_same, cut_one]
          rfl
        have old : ∀ b2 ∈ ads, ∀ l2 : List Int, H3 b2 = some (.lst (l2.map V.int)) → upd (upd (upd (upd H3 tp (.tup [V.int (w : Int), V.int st])) D (.lst (ts.map V.ref ++ [.ref tp]))) q1 (HO.lst (cutV ((st :: tl).map V.int) (some 1) none))) L (.lst ((ads.set w q1).map V.ref)) b2 = some (.lst (l2.map V.int)) := fun b2 hb2 l2 h2 => by
          obtain ⟨n1, n2⟩ := nn b2 hb2
          rw [upd_ne n1]
          refine u2 _ _ ?_
          rw [upd_ne n2]
          exact u1 _ _ h2
        refine ⟨ads.set w q1, R.set w tl, ts ++ [tp], es ++ [((w : Int), st)], _, rfl, same_push nL ((same_push nDH (s2.trans u1)).trans u2), upd_same, ⟨by rw [List.length_set, List.length_set]; exact rl2.1, fun j b2 l2 h1 h2 => ?_⟩, fun b2 hb2 => ?_, ?_, ?_, by rw [List.length_append, el]; rfl, by rw [List.length_set]; exact al, ok, by rw [← inv, List.append_assoc]; rfl⟩
        · by_cases c : w = j
          · subst c
            rw [List.getElem?_set_self wA] at h1
            rw [List.getElem?_set_self wR] at h2
            cases h1
            cases h2
            exact hq1
          · rw [List.getElem?_set_ne c] at h1 h2
            exact old b2 (List.mem_of_getElem? h1) l2 (rl2.2 j b2 l2 h1 h2)
        · rcases List.mem_or_eq_of_mem_set hb2 with hb2 | rfl
          · exact nn b2 hb2
          · exact ⟨nqL, nqD⟩
        · rw [upd_ne LD.symm]
          refine u2 _ _ ?_
          rw [List.map_append]
          exact upd_same
        · refine At2.snoc (a2.same kk) (kL _ _ (u2 _ _ (k1 _ _ upd_same)))
      · rintro σ H2 ⟨ads, R, ts, es, v5, rfl, s2, hL2, rl2, nn, hD2, a2, el, al, ok, inv⟩
        rw [List.length_map, List.length_map, List.drop_length] at inv
        have inv : es ++ [] = byF (ps.map List.flatten) row := inv
        rw [List.append_nil] at inv
        refine ⟨_, rfl, D, _, rfl, .inl ⟨SqL.of hD2, fun p np => ?_⟩⟩
        refine q _ p (s2.trans (same_upd np)) ?_
        rw [← inv]
        exact ⟨ts, upd_same, a2.1, fun i t x h1 h2 => same_upd np _ _ (a2.2 i t x h1 h2)⟩
end
end K39

set_option Elab.async false
set_option linter.all false
set_option maxRecDepth 100000
set_option maxHeartbeats 8000000
/-! The law. -/
namespace K39
open PySem L2 L2.EV
abbrev sLaw : Stmt := top 54
abbrev NL : List Str := ["script", "m", "turn", "framing", "score", "part", "flat", "one", "due", "k", "spots", "ahead", "spot", "found", "entry", "row", "first", "writer"]
structure Lall (K : PySem.W.Frag) (mg : Str → Option Value) where
  R : Nr K mg
  I : Ic K mg
  M : Mn K mg
  B : Bo K mg
  S : Sc9 K mg
  fB : Addr
  dB : FuncData
  Be : Fun K "_law_begun" "_law_begun" sBegun fB dB
  bB : Binds K dB ["script"] []
  mB : mg "_law_begun" = some (.ref fB)
  mi : mg "min" = none
  re : mg "repr" = none
  so : mg "sorted" = none
def spLaw (K : PySem.W.Frag) : Sp := fun vs H Q _ => ∃ (a : Addr) (ns : List Int), vs = [.ref a] ∧ SqL K H a (ns.map V.int) ∧ ns.length ≤ 63 ∧ ∀ H', Q (.bl true) H'
/-- PRE -/
theorem sl_ok {d : PyData} {n dp : Nat} (h : Okd d n dp) (hn : n ≤ 20000) : d.shown.length ≤ sizeLine := by
  have := h.sz
  rw [sizeLine_eq]
  omega
theorem dp5 {d : PyData} {n dp : Nat} (h : Okd d n dp) (hn : dp ≤ 5) : d.depth ≤ 5 := Nat.le_trans h.dp hn
theorem WvA.keepT {H H' : Hp} (k : KeepT H H') {a : Addr} {es : List E2} (h : WvA H a es) : WvA H' a es := by
  obtain ⟨ts, e, l, c⟩ := h
  exact ⟨ts, k _ _ e, l, fun i t x h1 h2 => k _ _ (c i t x h1 h2)⟩
theorem okd_dE40 {fr : List T3} {es : List E2} (h : ∀ e ∈ es, Ent fr e) (hf : fr.length ≤ 16) (hl : es.length ≤ 40) : Okd (dE es) 2000 2 := by
  refine (okd_tuple (n := 27) (dp := 1) (m := 40) (fun d hd => ?_) (by rw [List.length_map]; exact hl)).le (by decide) (by decide)
  obtain ⟨e, he, rfl⟩ := List.mem_map.mp hd
  obtain ⟨a, b, c, d⟩ := h e he
  refine (okd_tuple (n := 10) (dp := 0) (m := 2) (fun x hx => ?_) (Nat.le_refl _)).le (by decide) (by decide)
  have cs : x = .int e.1 ∨ x = .int e.2 := by simpa using hx
  rcases cs with rfl | rfl
  · exact okd_int a (by omega)
  · exact okd_int c (by omega)
/-- what stands ahead: nothing yet, or a lesser number with its order -/
def Ahd (ps : List (List Lin)) (i : Int) (r : List Int) : Prop := (i = -1 ∧ r = []) ∨ ∃ (k : Nat) (row : List Nat), i = (k : Int) ∧ (rowsL (szS ps) (ps.map sz1))[k]? = some row ∧ r = castL row
theorem joinT {G Pb : Prop} (a : (True → Pb) → G) (b : Pb) : G := a fun _ => b
def firstU (ps : List (List Lin)) (n : Nat) : List Nat := (List.range n).flatMap fun w => List.replicate ((ps.map sz1).getD w 0) w
theorem firstU_succ {ps : List (List Lin)} {n : Nat} : firstU ps (n + 1) = firstU ps n ++ List.replicate ((ps.map sz1).getD n 0) n := by
  unfold firstU
  rw [List.range_succ, List.flatMap_append]
  simp
theorem firstU_len {ps : List (List Lin)} : ∀ n, (firstU ps n).length ≤ n * szS ps
  | 0 => Nat.zero_le _
  | n + 1 => by
    have i := firstU_len (ps := ps) n
    rw [firstU_succ, List.length_append, List.length_replicate, Nat.succ_mul]
    have : (ps.map sz1).getD n 0 ≤ szS ps := by
      rw [List.getD_eq_getElem?_getD, List.getElem?_map]
      cases e : ps[n]? with
      | none => exact Nat.zero_le _
      | some p => exact szS_mem (List.mem_of_getElem? e)
    omega
theorem firstU_all {ps : List (List Lin)} : firstU ps ps.length = firstN (ps.map sz1) := by
  unfold firstU firstN
  rw [List.length_map]
theorem flat1 {α : Type} (x : α) : ∀ n : Nat, (List.replicate n [x]).flatten = List.replicate n x
  | 0 => rfl
  | n + 1 => by
    rw [List.replicate_succ, List.flatten_cons, flat1 x n, List.replicate_succ]
    rfl
theorem shaped_dE (es : List E2) : SeqAt.shaped (dE es) = true := by
  obtain ⟨a, b⟩ := shaped_d2 es
  show (PyData.canLay0 (.tuple (es.map d2)) && decide (PyData.depth (.tuple (es.map d2)) ≤ 64)) = true
  rw [Bool.and_eq_true]
  refine ⟨by simp only [PyData.canLay0]; exact a, decide_eq_true ?_⟩
  simp only [PyData.depth]
  omega
theorem eqv_dE (es : List E2) : PyData.eqv (dE es) (dE es) = true := PySem.SeqAt.eqv_refl _ (by
  obtain ⟨a, _⟩ := shaped_d2 es
  unfold dE
  simp only [PyData.canLay0]
  exact a)
section
variable {P : Program} {w : World} {K : PySem.W.Frag} {mg : Str → Option Value} {base : Heap}
theorem scLaw : FnScope NL ["script"] (defScope sLaw) := ⟨rfl, rfl, rfl, by decide +kernel, rfl, by decide +kernel, by decide +kernel⟩
theorem ok_law (L : Lall K mg) {f : Addr} {fd : FuncData} (F : Fun K "law" "law" sLaw f fd) : FnG P w K mg base CX0 8 f fd ["script"] (spLaw K) := by
  have GG : FnOk P w K mg base CX0 1 L.fB L.dB ["script"] (spBegun K) := ok_begun L.Be L.S.M.G.G.L.T
  have GX : FnOk P w K mg base CX0 1 L.S.M.G.G.L.f1 L.S.M.G.G.L.d1 ["m", "total"] spNext := ok_next L.S.M.G.G.L.N L.S.M.G.G.L.T
  have GF : FnOk P w K mg base CX0 3 L.S.M.G.G.f L.S.M.G.G.d ["m", "most"] spFraming := ok_framing L.S.M.G.G
  have GS : FnOk P w K mg base CX0 2 L.S.f L.S.d ["m", "framing", "writers", "most"] spSc := ok_sc L.S
  have GM : FnOk P w K mg base CX0 1 L.M.f L.M.d ["counts"] spMany := ok_many L.M
  have GL : FnOk P w K mg base CX0 1 L.B.L.f1 L.B.L.d1 ["part"] spFlat := ok_flat L.B.L
  have GB : FnOk P w K mg base CX0 2 L.B.f L.B.d ["score", "row"] spByO := ok_byO L.B
  have GBL : FnOk P w K mg base CX0 2 L.B.f L.B.d ["score", "row"] spByOL := ok_byOL L.B
  have GC : FnOk P w K mg base CX0 7 L.R.A.C.f1 L.R.A.C.d1 ["framing", "score"] (spCntR cntN) := ok_countR L.R.A.C
  have GD : FnOk P w K mg base CX0 7 L.R.A.C.f2 L.R.A.C.d2 ["framing", "score"] (spCntR clnN) := ok_cleanR L.R.A.C
  have GA : FnOk P w K mg base CX0 7 L.R.A.f L.R.A.d ["framing", "score", "number"] spAtR := ok_atR L.R.A
  have GR : FnOk P w K mg base CX0 7 L.R.f L.R.d ["framing", "score", "weaving"] spNrR := ok_nrR L.R
  have GI : FnOk P w K mg base CX0 6 L.I.f L.I.d ["framing", "weaving"] spIsClean := ok_isClean L.I
  have len := L.S.M.G.G.L.T.len
  have ra := L.S.M.G.G.L.ra
  refine okG F scLaw (fun vs H Q E h => ?_) (fun cdv A outer s H vs Q E hr hgd h => ?_)
  · obtain ⟨a, ns, rfl, _⟩ := h
    rfl
  · obtain ⟨a, ns, rfl, hS, hlen, q⟩ := h
    have ggd : (A.deeper (PyProof.Rows.envOfC "law" (defScope sLaw) s.heap.objs.size f cdv)).guards = some [] := hgd
    have hu64 := hr.units
    have huL : (A.deeper (PyProof.Rows.envOfC "law" (defScope sLaw) s.heap.objs.size f cdv)).units < cLine := by omega
    have r1 := hr.mono (j := 1) (by decide)
    have r2 := hr.mono (j := 2) (by decide)
    have r3 := hr.mono (j := 3) (by decide)
    have r6 := hr.mono (j := 6) (by decide)
    refine ⟨_, pss_cons (ps_set (i := 1) scLaw.nd rfl (Or.inr rfl) (pe_call GG r1 (by rfl) L.mB L.Be.kp L.bB .nil pass0 (pa_cons (pv 0) pa_nil)))
      (pss_cons (ps_for PassesOwn.never rfl (pi_range1 (by rfl) ra (pa_cons (pe_op op_add pe_int (pe_callB (call_min2 rfl) (by rfl) L.mi (by decide +kernel) (pa_cons (pe_callB call_len_seq (by rfl) len PySem.boot_len (pa_cons (pv 0) pa_nil)) (pa_cons pe_int pa_nil)))) pa_nil)) (pg_name (i := 2) scLaw.nd rfl (Or.inl rfl))
        (pss_cons (ps_set (i := 3) scLaw.nd rfl (Or.inl rfl) (pe_call GF r3 (by rfl) L.S.M.G.G.g L.S.M.G.G.F.kp L.S.M.G.G.b .nil pass0 (pa_cons (pv 1) (pa_cons pe_int pa_nil))))
        (pss_cons (ps_set (i := 4) scLaw.nd rfl (Or.inl rfl) (pe_call GS r2 (by rfl) L.S.m L.S.F.kp L.S.b .nil pass0 (pa_cons (pv 1) (pa_cons (pv 3) (pa_cons (pe_op op_add pe_int (pe_call GX r1 (by rfl) L.S.M.G.G.L.mN L.S.M.G.G.L.N.kp L.S.M.G.G.L.bN .nil pass0 (pa_cons (pv 1) (pa_cons pe_int pa_nil)))) (pa_cons pe_int pa_nil))))))
        (pss_cons (ps_setLc (i := 6) (y := "flat") (own := [("part", 5)]) (g := gName 5) (te := tCall spFlat [] E0 (tCons (tVar 5) tNil)) rfl scLaw.nd rfl rfl (by rfl) (pi_tup (pv 4))
            (blkOk_by (N := NL) (sc := defScope sLaw) (by decide +kernel))
            (fun _ _ _ _ _ => pg_name (i := 5) scLaw.nd rfl (Or.inl rfl)) (fun _ _ _ _ _ => pts_nil)
            (fun _ _ _ _ _ => pe_call GL r1 (by rfl) L.B.L.m1 L.B.L.F.kp L.B.L.b1 .nil pass0 (pa_cons (pv 5) pa_nil)))
        (pss_cons (ps_set (i := 8) scLaw.nd rfl (Or.inr rfl) (pe_call GM r1 (by rfl) L.M.m L.M.F.kp L.M.b .nil pass0 (pa_cons (pe_lc (own := [("one", 7)]) (g := gName 7) (te := tCB (rLn K) (tCons (tVar 7) tNil)) rfl scLaw.nd (pi_list (pv 6))
            (blkOk_by (N := NL) (sc := defScope sLaw) (by decide +kernel))
            (fun _ _ _ _ _ => pg_name (i := 7) scLaw.nd rfl (Or.inl rfl)) (fun _ _ _ _ _ => pts_nil)
            (fun _ _ _ _ _ => pe_callB call_len_seq (by rfl) len PySem.boot_len (pa_cons (pv 7) pa_nil))) pa_nil)))
        (pss_cons (ps_if (pt_cmpR op_ne (pe_callB (call_showV ggd hu64) (by rfl) L.re (by decide +kernel) (pa_cons (pe_call GC hr (by rfl) L.R.A.C.m1 L.R.A.C.C.kp L.R.A.C.b1 .nil pass0 (pa_cons (pv 3) (pa_cons (pv 4) pa_nil))) pa_nil)) (pe_callB (call_showV ggd hu64) (by rfl) L.re (by decide +kernel) (pa_cons (pv 8) pa_nil)) (nomark _)) (pss_one (ps_ret pe_bl)) pss_nil)
        (pss_cons (ps_if (pt_cmpR op_ne (pe_callB (call_showV ggd hu64) (by rfl) L.re (by decide +kernel) (pa_cons (pe_call GD hr (by rfl) L.R.A.C.m2 L.R.A.C.D.kp L.R.A.C.b2 .nil pass0 (pa_cons (pv 3) (pa_cons (pv 4) pa_nil))) pa_nil)) (pe_callB (call_showV ggd hu64) (by rfl) L.re (by decide +kernel) (pa_cons (pe_call GM r1 (by rfl) L.M.m L.M.F.kp L.M.b .nil pass0 (pa_cons (pe_lc (own := [("part", 5)]) (g := gName 5) (te := tCB (rLn K) (tCons (tVar 5) tNil)) rfl scLaw.nd (pi_tup (pv 4))
            (blkOk_by (N := NL) (sc := defScope sLaw) (by decide +kernel))
            (fun _ _ _ _ _ => pg_name (i := 5) scLaw.nd rfl (Or.inl rfl)) (fun _ _ _ _ _ => pts_nil)
            (fun _ _ _ _ _ => pe_callB call_len_seq (by rfl) len PySem.boot_len (pa_cons (pv 5) pa_nil))) pa_nil)) pa_nil)) (nomark _)) (pss_one (ps_ret pe_bl)) pss_nil)
        (pss_cons (ps_par (i := 10) (j := 11) (x := "spots") (y := "ahead") rfl scLaw.nd rfl rfl (by decide) rfl rfl (pa_cons (pe_callB cr_sortedI (by rfl) L.so (by decide +kernel) (pa_cons (pe_op op_cat (pe_lst (pa_cons pe_int (pa_cons (pe_op op_sub (pv 8) pe_int) pa_nil))) (pe_lc (own := [("k", 9)]) (g := gName 9) (te := tCall spNext [] E0 (tCons (tVar 1) (tCons (tVar 8) tNil))) rfl scLaw.nd (pi_range1 (by rfl) ra (pa_cons pe_int pa_nil))
            (blkOk_by (N := NL) (sc := defScope sLaw) (by decide +kernel))
            (fun _ _ _ _ _ => pg_name (i := 9) scLaw.nd rfl (Or.inl rfl)) (fun _ _ _ _ _ => pts_nil)
            (fun _ _ _ _ _ => pe_call GX r1 (by rfl) L.S.M.G.G.L.mN L.S.M.G.G.L.N.kp L.S.M.G.G.L.bN .nil pass0 (pa_cons (pv 1) (pa_cons (pv 8) pa_nil))))) pa_nil)) (pa_cons (pe_tup (pa_cons (pe_un un_neg pe_int) (pa_cons (pe_tup pa_nil) pa_nil))) pa_nil)) (by rfl))
        (pss_cons (ps_for PassesOwn.never rfl (pi_list (pv 10)) (pg_name (i := 12) scLaw.nd rfl (Or.inl rfl))
          (pss_cons (ps_set (i := 13) scLaw.nd rfl (Or.inl rfl) (pe_call GA hr (by rfl) L.R.A.m L.R.A.F.kp L.R.A.b .nil pass0 (pa_cons (pv 3) (pa_cons (pv 4) (pa_cons (pv 12) pa_nil)))))
          (pss_cons (ps_set (i := 15) scLaw.nd rfl (Or.inl rfl) (pe_callTy call_tuple_of (by rfl) L.B.tu (by decide +kernel) (pa_cons (pe_lc (own := [("entry", 14)]) (g := gName 14) (te := tOp (rIxT K) (tVar 14) (tC (.int 0))) rfl scLaw.nd (pi_tup (pv 13))
              (blkOk_by (N := NL) (sc := defScope sLaw) (by decide +kernel))
              (fun _ _ _ _ _ => pg_name (i := 14) scLaw.nd rfl (Or.inl rfl)) (fun _ _ _ _ _ => pts_nil)
              (fun _ _ _ _ _ => pe_ix ix_tup (pv 14) pe_int (fun _ _ => rfl))) pa_nil)))
          (pss_cons (ps_if (pw_or (pt_cmpR op_ne (pe_callB (call_showV ggd hu64) (by rfl) L.re (by decide +kernel) (pa_cons (pv 13) pa_nil)) (pe_callB (call_showV ggd hu64) (by rfl) L.re (by decide +kernel) (pa_cons (pe_call GB r2 (by rfl) L.B.m L.B.F.kp L.B.b .nil pass0 (pa_cons (pv 4) (pa_cons (pv 15) pa_nil))) pa_nil)) (nomark _))
              (pw_or1 (pt_cmpR op_ne (pe_callB call_len_seq (by rfl) len PySem.boot_len (pa_cons (pv 15) pa_nil)) (pe_callB (cr_sum rfl) (by rfl) L.R.A.su (by decide +kernel) (pa_cons (pe_lc (own := [("one", 7)]) (g := gName 7) (te := tCB (rLn K) (tCons (tVar 7) tNil)) rfl scLaw.nd (pi_list (pv 6))
              (blkOk_by (N := NL) (sc := defScope sLaw) (by decide +kernel))
              (fun _ _ _ _ _ => pg_name (i := 7) scLaw.nd rfl (Or.inl rfl)) (fun _ _ _ _ _ => pts_nil)
              (fun _ _ _ _ _ => pe_callB call_len_seq (by rfl) len PySem.boot_len (pa_cons (pv 7) pa_nil))) pa_nil)) (nomark _)))).pt (pss_one (ps_ret pe_bl)) pss_nil)
          (pss_cons (ps_if (pt_cmpR op_ne (pe_callB (call_showV ggd hu64) (by rfl) L.re (by decide +kernel) (pa_cons (pe_call GR hr (by rfl) L.R.m L.R.F.kp L.R.b .nil pass0 (pa_cons (pv 3) (pa_cons (pv 4) (pa_cons (pv 13) pa_nil)))) pa_nil)) (pe_callB (call_showV ggd hu64) (by rfl) L.re (by decide +kernel) (pa_cons (pv 12) pa_nil)) (nomark _)) (pss_one (ps_ret pe_bl)) pss_nil)
          (pss_cons (ps_if (pw_and (pt_cmpR op_gt (pv 12) (pe_ix ix_tup (pv 11) pe_int (fun _ _ => rfl)) (nomark _)) (pw_and (pt_cmpR (op_leT huL) (pv 15) (pe_ix ix_tup (pv 11) pe_int (fun _ _ => rfl)) (nomark _)) (pw_and1 (pt_cmpR op_ge (pe_ix ix_tup (pv 11) pe_int (fun _ _ => rfl)) pe_int (nomark _))))).pt (pss_one (ps_ret pe_bl)) pss_nil)
          (pss_one (ps_set (i := 11) scLaw.nd rfl (Or.inl rfl) (pe_tup (pa_cons (pv 12) (pa_cons (pv 15) pa_nil)))))))))))
        (pss_cons (ps_set (i := 16) scLaw.nd rfl (Or.inl rfl) (pe_lst pa_nil))
        (pss_cons (ps_for PassesOwn.never rfl (pi_range1 (by rfl) ra (pa_cons (pe_callB call_len_seq (by rfl) len PySem.boot_len (pa_cons (pv 4) pa_nil)) pa_nil)) (pg_name (i := 17) scLaw.nd rfl (Or.inl rfl))
          (pss_one (ps_set (i := 16) scLaw.nd rfl (Or.inl rfl) (pe_op op_cat (pv 16) (pe_op op_rep (pe_lst (pa_cons (pv 17) pa_nil)) (pe_callB call_len_seq (by rfl) len PySem.boot_len (pa_cons (pe_ix ix_list (pv 6) (pv 17) (fun _ _ => rfl)) pa_nil)))))))
        (pss_cons (ps_if (pt_cmpR (op_neD hu64) (pe_call GA hr (by rfl) L.R.A.m L.R.A.F.kp L.R.A.b .nil pass0 (pa_cons (pv 3) (pa_cons (pv 4) (pa_cons pe_int pa_nil)))) (pe_call GBL r2 (by rfl) L.B.m L.B.F.kp L.B.b .nil pass0 (pa_cons (pv 4) (pa_cons (pv 16) pa_nil))) (nomark _)) (pss_one (ps_ret pe_bl)) pss_nil)
        (pss_cons (ps_if (pt_cmpR (op_neD hu64) (pe_call GA hr (by rfl) L.R.A.m L.R.A.F.kp L.R.A.b .nil pass0 (pa_cons (pv 3) (pa_cons (pv 4) (pa_cons (pe_op op_sub (pv 8) pe_int) pa_nil)))) (pe_call GBL r2 (by rfl) L.B.m L.B.F.kp L.B.b .nil pass0 (pa_cons (pv 4) (pa_cons (pe_revL (pv 16)) pa_nil))) (nomark _)) (pss_one (ps_ret pe_bl)) pss_nil)
        (pss_one (ps_if (pt_cmpR op_isnot_bl (pe_call GI r6 (by rfl) L.I.m L.I.F.kp L.I.b .nil pass0 (pa_cons (pv 3) (pa_cons (pe_call GA hr (by rfl) L.R.A.m L.R.A.F.kp L.R.A.b .nil pass0 (pa_cons (pv 3) (pa_cons (pv 4) (pa_cons pe_int pa_nil)))) pa_nil))) pe_bl (nomark _)) (pss_one (ps_ret pe_bl)) pss_nil)))))))))))))))
      (pss_one (ps_ret pe_bl))), ?_⟩
    refine ⟨_, rfl, a, ns, rfl, hS, by omega, fun m mc l0 H0 M0 hm hmc hl sm0 => ?_⟩
    have nl : (ns.map V.int).length ≤ 63 := by rw [List.length_map]; exact hlen
    refine ⟨_, rfl, a, _, rfl, .inl (sm0.seq hS), _, 4, rfl, 2, _, rfl, rfl, _, rfl, by split <;> omega, by split <;> omega, ?_⟩
    have hN : (2 + if (4 : Int) < ((ns.map V.int).length : Nat) then 4 else (((ns.map V.int).length : Nat) : Int)).toNat ≤ 7 := by split <;> omega
    generalize (2 + if (4 : Int) < ((ns.map V.int).length : Nat) then 4 else (((ns.map V.int).length : Nat) : Int)).toNat = N at hN ⊢
    refine for_it walk_range (fun i σ H' => ∃ (v2 v3 v4 v6 v8 v10 v11 v12 v13 v15 v16 v17 : Option V) (l : Addr) (k : Int), σ = [some (.ref a), some (.ref m), v2, v3, v4, none, v6, none, v8, none, v10, v11, v12, v13, none, v15, v16, v17] ∧ MAt H' m mc l k ∧ k ≤ 2000 * i)
      ⟨none, none, none, none, none, none, none, none, none, none, none, none, l0, 0, rfl, M0, by omega⟩ (fun _ _ _ _ _ => trivial) ?_ ?_
    · rintro i x σ H1z H1 hi ⟨v2, v3, v4, v6, v8, v10, v11, v12, v13, v15, v16, v17, l1, k1, rfl, M1, kk1⟩ ⟨rfl, rfl⟩
      refine ⟨_, rfl, m, mc, l1, k1, 5, rfl, by decide, M1, by omega, fun f2 fr last H2 l2 k2 fa fm lb kk2 d2 => ?_⟩
      refine ⟨_, rfl, _, rfl, _, rfl, m, mc, l2, k2, 8, rfl, d2.at_, by decide, by decide, by omega, fun r3 H3 l3 k3 a3 b3 g3 N3 f3 q3 => ⟨1, r3, rfl, rfl, ?_⟩⟩
      have d3 : Dr H2 H3 m mc l2 l3 k3 := ⟨N3, f3, q3⟩
      obtain ⟨n3, rfl⟩ := Int.eq_ofNat_of_zero_le a3
      have fa3 := d3.fr d2.at_ fa
      refine ⟨m, mc, l3, f2, k3, fr, last, 1 + n3, by rw [Int.natCast_add]; rfl, N3, by omega, fa3, fm, by omega, by omega, fun H4 pS ps l4 k4 daS pl gs s40 kk4 d4 => ?_⟩
      have M4 := d4.at_
      have fa4 := d4.fr N3 fa3
      have l8 := gs.l8
      obtain ⟨xs, eS, allS⟩ : ∃ xs, H4 pS = some (.tup xs) ∧ DaAll H4 xs (ps.map dP) := by
        cases daS with
        | tup e all => exact ⟨_, e, all⟩
      have lnS := allS.len
      rw [List.length_map] at lnS
      refine ⟨_, rfl, pS, rfl, ⟨_, SqT.of eS⟩, fun D nD => ?_⟩
      refine lc_it (walk_tup (xs := xs)) (fun i H' => ∃ ads : List Addr, H' D = some (.lst (ads.map V.ref)) ∧ RwL H' ads ((ps.take i).map List.flatten) ∧ (∀ b ∈ ads, b ≠ D ∧ H4 b = none) ∧ Same H4 H') ⟨[], upd_same, ⟨rfl, fun i b r z => by cases z⟩, (fun b z => by cases z), same_upd nD⟩ (fun i H' _ ⟨_, _, _, _, z⟩ => SqT.of (z _ _ eS)) ?_ ?_
      · rintro i x H5z H5 hi ⟨ads, hd, rl, nDa, s5⟩ ⟨rfl, hx⟩
        obtain ⟨d1, h1, dx⟩ := allS.at_ hx
        obtain ⟨p, hp, rfl⟩ := at_map h1
        have pz := szS_mem (List.mem_of_getElem? hp)
        have al := rl.1
        rw [List.length_map, List.length_take] at al
        refine ⟨rfl, _, rfl, x, p, rfl, Da.same s5 _ _ dx, by omega, fun H6 qa s6 nq hq => ?_⟩
        have s56 := s5.trans s6
        have nqD : qa ≠ D := fun z => by
          rw [z, hd] at nq
          cases nq
        refine ⟨_, s6 _ _ hd, by rw [List.length_map, sizeLine_eq]; omega, ads ++ [qa], by rw [List.map_append]; exact upd_same, ?_, fun b hb => ?_, same_push nD s56⟩
        · rw [take_one hp, List.map_append]
          refine RwL.push ((rl.same s6).snoc hq) fun b hb => ?_
          rcases List.mem_append.mp hb with hb | hb
          · exact (nDa b hb).1
          · cases List.mem_singleton.mp hb
            exact nqD
        · rcases List.mem_append.mp hb with hb | hb
          · exact nDa b hb
          · cases List.mem_singleton.mp hb
            exact ⟨nqD, same_none s5 nq⟩
      · rintro H5 ⟨ads, hF, rl, nDa, s5⟩
        rw [lnS, List.take_length] at rl
        have al := rl.1
        rw [List.length_map] at al
        refine ⟨_, rfl, D, rfl, ⟨_, SqL.of hF⟩, fun D2 nD2 => ?_⟩
        refine lc_it (walk_list (xs := ads.map V.ref)) (fun i H' => LsA H' D2 ((ps.take i).map sz1) ∧ Same H5 H') ⟨upd_same, same_upd nD2⟩ (fun i H' _ z => SqL.of (z.2 _ _ hF)) ?_ ?_
        · rintro i x H6z H6 hi ⟨hd, s6⟩ ⟨rfl, hx⟩
          rw [List.length_map] at hi
          have ha : ads[i]? = some ads[i] := List.getElem?_eq_getElem hi
          rw [List.getElem?_map, ha] at hx
          obtain rfl : V.ref ads[i] = x := Option.some.inj hx
          have ip : ps[i]? = some ps[i] := List.getElem?_eq_getElem (by omega)
          have hc := rl.2 i _ _ ha (by rw [List.getElem?_map, ip]; rfl)
          refine ⟨rfl, _, rfl, ads[i], _, rfl, .inl (SqL.of (s6 _ _ hc)), _, hd, ?_, ?_, same_push nD2 s6⟩
          · rw [List.length_map, List.length_map, List.length_take, sizeLine_eq]
            omega
          · show upd _ D2 _ D2 = _
            rw [upd_same, take_one ip, List.map_append, List.map_append, List.length_map, sz1_flat]
            rfl
        · rintro H6 ⟨hd, s6⟩
          rw [List.length_map, al, List.take_length] at hd
          have tot : (ps.map sz1).sum = szS ps := rfl
          have s46 := s5.trans s6
          refine ⟨D2, ps.map sz1, rfl, hd, by rw [tot]; exact s40, fun H7 s7 => ?_⟩
          show gName 8 (.int (cntN ps : Nat)) _ _ _
          have s47 := s46.trans s7
          have cbig : cntN ps < 10 ^ 60 := ord_le40 (ns := ps.map sz1) s40
          have okc : Okd (.int (cntN ps : Nat)) 60 0 := okd_nat cbig
          refine ⟨_, rfl, _, rfl, f2, .ref pS, fr, last, ps, rfl, fa4.same s47, fm, Da.same s47 _ _ daS, gs, fun H8 s8 => ?_⟩
          refine ⟨.int _, .int (cntN ps : Nat), rfl, .int _, okc.sh, okc.nd, sl_ok okc (by decide), dp5 okc (by decide), ?_⟩
          refine ⟨_, rfl, .int _, .int (cntN ps : Nat), rfl, .int _, okc.sh, okc.nd, sl_ok okc (by decide), dp5 okc (by decide), rfl, _, rfl, iteF' (by simp) ?_⟩
          have s48 := s47.trans s8
          have lens40 : (ps.map List.length).sum ≤ 40 := Nat.le_trans (lens_le fun p hp l hl => (gs.ln p hp l hl).ne) s40
          have okd : Okd (.int (clnN ps : Nat)) 60 0 := okd_nat (ord_le40 (ns := ps.map List.length) lens40)
          refine ⟨_, rfl, _, rfl, f2, .ref pS, fr, last, ps, rfl, fa4.same s48, fm, Da.same s48 _ _ daS, gs, fun H9 s9 => ?_⟩
          have s49 := s48.trans s9
          refine ⟨.int _, .int (clnN ps : Nat), rfl, .int _, okd.sh, okd.nd, sl_ok okd (by decide), dp5 okd (by decide), ?_⟩
          refine ⟨_, rfl, pS, rfl, ⟨_, SqT.of (s49 _ _ eS)⟩, fun D3 nD3 => ?_⟩
          refine lc_it (walk_tup (xs := xs)) (fun i H' => LsA H' D3 ((ps.take i).map List.length) ∧ Same H9 H') ⟨upd_same, same_upd nD3⟩ (fun i H' _ z => SqT.of (z.2 _ _ (s49 _ _ eS))) ?_ ?_
          · rintro i x Haz Ha hi ⟨hd3, s9a⟩ ⟨rfl, hx⟩
            obtain ⟨d1, h1, dx⟩ := allS.at_ hx
            obtain ⟨p, hp, rfl⟩ := at_map h1
            obtain ⟨a1, ys, rfl, e1, ly⟩ : ∃ a1 ys, x = .ref a1 ∧ H4 a1 = some (.tup ys) ∧ ys.length = p.length := by
              cases dx with
              | tup e all =>
                have := all.len
                rw [List.length_map] at this
                exact ⟨_, _, rfl, e, this⟩
            refine ⟨rfl, _, rfl, a1, _, rfl, .inr (SqT.of (s9a _ _ (s49 _ _ e1))), _, hd3, ?_, ?_, same_push nD3 s9a⟩
            · rw [List.length_map, List.length_map, List.length_take, sizeLine_eq]
              omega
            · show upd _ D3 _ D3 = _
              rw [upd_same, take_one hp, List.map_append, List.map_append, ly]
              rfl
          · rintro Ha ⟨hd3, s9a⟩
            rw [lnS, List.take_length] at hd3
            refine ⟨D3, ps.map List.length, rfl, hd3, lens40, fun Hb sb => ?_⟩
            refine ⟨.int _, .int (clnN ps : Nat), rfl, .int _, okd.sh, okd.nd, sl_ok okd (by decide), dp5 okd (by decide), rfl, _, rfl, iteF' (by simp) ?_⟩
            have s4b := (s49.trans s9a).trans sb
            have s5b := (s6.trans (s7.trans (s8.trans (s9.trans (s9a.trans sb)))))
            have hFb := s5b _ _ hF
            have rlb := rl.same s5b
            have Mb := M4.same s4b
            have pos : 1 ≤ cntN ps := ord_pos
            refine ⟨_, rfl, _, _, rfl, rfl, (by show 2 ≤ sizeLine; decide), fun B nB => ?_⟩
            have eN : ((cntN ps : Nat) : Int) - 1 = ((cntN ps - 1 : Nat) : Int) := by omega
            dsimp only
            rw [eN]
            have uB := same_upd (o := HO.lst [V.int 0, V.int ((cntN ps - 1 : Nat) : Int)]) nB
            have hB : upd Hb B (HO.lst [V.int 0, V.int ((cntN ps - 1 : Nat) : Int)]) B = some (.lst [V.int 0, V.int ((cntN ps - 1 : Nat) : Int)]) := upd_same
            have s4c := s4b.trans uB
            have hFc := uB _ _ hFb
            have rlc := rlb.same uB
            have nBl : B ≠ l4 := Mb.l_some nB
            have nDl : D ≠ l4 := M4.l_some nD
            generalize upd Hb B (HO.lst [V.int 0, V.int ((cntN ps - 1 : Nat) : Int)]) = Hc at uB hB s4c hFc rlc ⊢
            have Mc := M4.same s4c
            have nAl : ∀ b ∈ ads, b ≠ l4 := fun b hb => M4.l_some (nDa b hb).2
            refine ⟨5, rfl, by decide, by decide, fun D4 nD4 => ?_⟩
            have nD4l : D4 ≠ l4 := Mc.l_some nD4
            have nD4m : D4 ≠ m := (ne_of_none Mc.hm nD4).symm
            have nD4c := Mc.c_some nD4
            have e60 : (10 : Nat) ^ 60 < 1606938044258990275541962092341162602522202993782792835301376 := by decide +kernel
            refine lc_it walk_range (fun i H' => ∃ (ks : List Nat) (l' : Addr) (k' : Int), H' D4 = some (.lst (ks.map fun n : Nat => V.int (n : Int))) ∧ D4 ≠ l' ∧ ks.length = i ∧ (∀ k ∈ ks, k < cntN ps) ∧ k' ≤ k4 + i ∧ Dr Hc H' m mc l4 l' k')
              ⟨[], l4, k4, upd_same, nD4l, rfl, (fun k h => by cases h), by omega, (Dr.refl Mc).same (same_upd nD4)⟩ (fun _ _ _ _ => trivial) ?_ ?_
            · rintro i x Hdz Hd hi ⟨ks, ld, kd, hk, nkl, kl, kb, kk, dd⟩ ⟨rfl, rfl⟩
              have Md := dd.at_
              have hi5 : i < 5 := hi
              refine ⟨rfl, _, rfl, _, rfl, m, mc, ld, kd, _, rfl, Md, by omega, by omega, by omega, fun r He le ke r0 r1 kk2 Me fe qe => ?_⟩
              have de : Dr Hd He m mc ld le ke := ⟨Me, fe, qe⟩
              obtain ⟨hke, nke⟩ := de.lst Md hk nkl
              obtain ⟨j, rfl⟩ := Int.eq_ofNat_of_zero_le r0
              refine ⟨_, hke, by rw [List.length_map, sizeLine_eq]; omega, ks ++ [j], le, ke, by rw [List.map_append]; exact upd_same, nke, by rw [List.length_append, kl]; rfl, fun k hk => ?_, by omega, ?_⟩
              · rcases List.mem_append.mp hk with hk | hk
                · exact kb k hk
                · cases List.mem_singleton.mp hk
                  omega
              · have D := dd.trans de
                exact ⟨D.at_.upd nD4m nD4c nke, D.hl, fun b o z h1 h2 => by rw [upd_ne (ne_of_none z nD4)]; exact D.kp b o z h1 h2⟩
            · rintro Hd ⟨ks, ld, kd, hk, nkl, kl, kb, kk, dd⟩
              have Md := dd.at_
              obtain ⟨hBd, _⟩ := dd.lst Mc hB nBl
              obtain ⟨hFd, nFd⟩ := dd.lst Mc hFc nDl
              have rld : RwL Hd ads (ps.map List.flatten) := ⟨rlc.1, fun j b r h1 h2 => (dd.lst Mc (rlc.2 j b r h1 h2) (nAl b (List.mem_of_getElem? h1))).1⟩
              have kl5 : ks.length = 5 := kl
              refine ⟨B, D4, _, _, rfl, rfl, hBd, hk, by rw [List.length_map, sizeLine_eq]; show 2 + _ ≤ _; omega, fun pT npT => ?_⟩
              obtain ⟨sp, hsp⟩ : ∃ sp : List Nat, sp = 0 :: (cntN ps - 1) :: ks := ⟨_, rfl⟩
              have esp : ([V.int 0, V.int ((cntN ps - 1 : Nat) : Int)] ++ ks.map fun n : Nat => V.int (n : Int)) = (castL sp).map V.int := by
                rw [hsp, ← vN_int]
                rfl
              have spb : ∀ k ∈ sp, k < cntN ps := fun k hk => by
                rw [hsp] at hk
                rcases List.mem_cons.mp hk with rfl | hk
                · omega
                · rcases List.mem_cons.mp hk with rfl | hk
                  · omega
                  · exact kb k hk
              rw [esp]
              have uT := same_upd (o := HO.lst ((castL sp).map V.int)) npT
              refine ⟨pT, castL sp, rfl, SqL.of upd_same, fun zs pZ pm _ nZ => ?_⟩
              have uZ := same_upd (o := HO.lst (zs.map V.int)) nZ
              refine ⟨1, rfl, (by show 0 ≤ sizeLine; decide), fun e0 ne0 => ?_⟩
              have u0 := same_upd (o := HO.tup []) ne0
              refine ⟨(by show 2 ≤ sizeLine; decide), fun t0 nt0 => ⟨_, _, rfl, ?_⟩⟩
              have ut := same_upd (o := HO.tup [V.int (-1), V.ref e0]) nt0
              have hZe := ut _ _ (u0 _ _ (upd_same (H := upd Hd pT (.lst ((castL sp).map V.int))) (a := pZ) (o := HO.lst (zs.map V.int))))
              have het := ut _ _ (upd_same (H := upd (upd Hd pT (.lst ((castL sp).map V.int))) pZ (.lst (zs.map V.int))) (a := e0) (o := HO.tup []))
              have htt := upd_same (H := upd (upd (upd Hd pT (.lst ((castL sp).map V.int))) pZ (.lst (zs.map V.int))) e0 (HO.tup [])) (a := t0) (o := HO.tup [V.int (-1), V.ref e0])
              have sde := uT.trans (uZ.trans (u0.trans ut))
              have Me := Md.same sde
              have hFe := sde _ _ hFd
              have rle := rld.same sde
              have faE := (dd.fr Mc (fa4.same s4c)).same sde
              have kE := (dd.keepT Mc).trans (Same.keepT sde)
              have daE : Da _ (.ref pS) (dS ps) := dS_keep kE (Da.same s4c _ _ daS)
              have eSe := kE _ _ (s4c _ _ eS)
              have zn : ∀ z ∈ zs, ∃ k : Nat, z = (k : Int) ∧ k < cntN ps := fun z hz => by
                obtain ⟨k, hk2, e⟩ := List.mem_map.mp (pm.mem_iff.mp hz)
                exact ⟨k, e.symm, spb k hk2⟩
              have zl : zs.length = 7 := by
                rw [pm.length_eq, List.length_map, hsp, List.length_cons, List.length_cons, kl5]
              generalize upd (upd (upd (upd Hd pT (.lst ((castL sp).map V.int))) pZ (.lst (zs.map V.int))) e0 (HO.tup [])) t0 (HO.tup [V.int (-1), V.ref e0]) = He at sde Me hFe rle faE kE daE eSe hZe het htt ⊢
              refine ⟨_, rfl, pZ, rfl, ⟨_, SqL.of hZe⟩, for_it (walk_list (xs := zs.map V.int)) (fun j σ H' => ∃ (t r : Addr) (pi : Int) (pr : List Int) (v12 v13 v15 : Option V), σ = [some (.ref a), some (.ref m), some (.int (0 + (i : Int))), some (.ref f2), some (.ref pS), none, some (.ref D), none, some (.int (cntN ps : Nat)), none, some (.ref pZ), some (.ref t), v12, v13, none, v15, v16, v17] ∧ Same He H' ∧ H' t = some (.tup [.int pi, .ref r]) ∧ H' r = some (.tup (pr.map V.int)) ∧ Ahd ps pi pr)
                ⟨t0, e0, -1, [], v12, v13, v15, rfl, Same.refl He, htt, het, .inl ⟨rfl, rfl⟩⟩ (fun j σ H' _ ⟨_, _, _, _, _, _, _, _, z, _⟩ => SqL.of (z _ _ hZe)) ?_ ?_⟩
              · rintro j x σ Hfz Hf hj ⟨t, r, pi, pr, v12, v13, v15, rfl, sf, htf, hrf, ah⟩ ⟨rfl, hx⟩
                obtain ⟨k, kc, rfl⟩ : ∃ k, k < cntN ps ∧ x = .int (k : Int) := by
                  obtain ⟨z, hz, e⟩ := List.mem_map.mp (List.mem_of_getElem? hx)
                  obtain ⟨k, rfl, kc⟩ := zn z hz
                  exact ⟨k, kc, e.symm⟩
                obtain ⟨wvk, ofk, lk⟩ := atP_ok gs kc
                have okE : Okd (dE (atP ps k)) 2000 2 := okd_dE40 wvk.ent fm.l1 (by omega)
                have okK : Okd (.int (k : Int)) 60 0 := okd_nat (by omega)
                obtain ⟨row, hrow, hby⟩ := at_row kc
                have rmem := List.mem_of_getElem? hrow
                obtain ⟨rlen, rin⟩ := row_okr rmem
                refine ⟨_, rfl, _, rfl, _, rfl, f2, .ref pS, k, fr, last, ps, rfl, faE.same sf, fm, Da.same sf _ _ daE, gs, kc, fun Hg pw sg wg => ?_⟩
                obtain ⟨tw, hpw, wl, wt⟩ := id wg
                refine ⟨_, rfl, pw, rfl, ⟨_, SqT.of hpw⟩, fun D5 nD5 => ?_⟩
                have fst_row : (atP ps k).map (·.1) = castL row := by rw [hby, byF_fst]
                refine lc_it (walk_tup (xs := tw.map V.ref)) (fun i H' => H' D5 = some (.lst ((((atP ps k).take i).map (·.1)).map V.int)) ∧ Same Hg H') ⟨upd_same, same_upd nD5⟩ (fun i H' _ z => SqT.of (z.2 _ _ hpw)) ?_ ?_
                · rintro i x Hhz Hh hi ⟨hd5, sh⟩ ⟨rfl, hx⟩
                  obtain ⟨t5, e5, he5, _, rfl, ht5⟩ := at_ent wl wt hx
                  refine ⟨rfl, _, rfl, t5, _, 0, _, rfl, rfl, SqT.of (sh _ _ ht5), atI_nat (j := 0) rfl, _, hd5, ?_, ?_, same_push nD5 sh⟩
                  · rw [List.length_map, List.length_map, List.length_take, sizeLine_eq]
                    omega
                  · rw [take_one he5, List.map_append, List.map_append]
                    exact upd_same
                · rintro Hh ⟨hd5, sh⟩
                  rw [List.length_map, wl, List.take_length, fst_row] at hd5
                  refine ⟨D5, _, rfl, .inl ⟨SqL.of hd5, fun px npx => ?_⟩⟩
                  have ux := same_upd (o := HO.tup ((castL row).map V.int)) npx
                  have hpx : upd Hh px (HO.tup ((castL row).map V.int)) px = some (.tup ((castL row).map V.int)) := upd_same
                  have sfi := sf.trans (sg.trans (sh.trans ux))
                  have sgi := sh.trans ux
                  have sfx := sg.trans sgi
                  have wgi := wg.same sgi
                  generalize upd Hh px (HO.tup ((castL row).map V.int)) = Hi at ux hpx sfi sgi sfx wgi ⊢
                  have esz : ps.map sz1 = (ps.map List.flatten).map List.length := by
                    rw [List.map_map]
                    exact List.map_congr_left fun p _ => sz1_flat.symm
                  have okr : Okr (ps.map List.flatten) row := okr_rows (k := szS ps) (by rw [← esz]; exact tot) (by rw [← esz]; exact rmem)
                  refine ⟨_, rfl, .ref pw, dE (atP ps k), rfl, dp_dE wgi, okE.sh, okE.nd, sl_ok okE (by decide), dp5 okE (by decide), ?_⟩
                  refine ⟨_, rfl, _, rfl, .ref pS, px, ps, row, rfl, Da.same sfi _ _ daE, l8, s40, hpx, by omega, okr, fun Hj pb sj wb => ?_⟩
                  rw [← hby] at wb
                  refine ⟨.ref pb, dE (atP ps k), rfl, dp_dE wb, okE.sh, okE.nd, sl_ok okE (by decide), dp5 okE (by decide), rfl, _, rfl, iteF' (by simp) ?_⟩
                  have sfj := sfi.trans sj
                  have hFj := sfj _ _ hFe
                  refine ⟨_, rfl, px, _, rfl, .inr (SqT.of (sj _ _ hpx)), ?_⟩
                  refine ⟨_, rfl, D, rfl, ⟨_, SqL.of hFj⟩, fun D6 nD6 => ?_⟩
                  refine lc_it (walk_list (xs := ads.map V.ref)) (fun i H' => LsA H' D6 ((ps.take i).map sz1) ∧ Same Hj H') ⟨upd_same, same_upd nD6⟩ (fun i H' _ z => SqL.of (z.2 _ _ hFj)) ?_ ?_
                  · rintro i x Hkz Hk hi ⟨hd6, sk⟩ ⟨rfl, hx⟩
                    rw [List.length_map] at hi
                    have ha : ads[i]? = some ads[i] := List.getElem?_eq_getElem hi
                    rw [List.getElem?_map, ha] at hx
                    obtain rfl : V.ref ads[i] = x := Option.some.inj hx
                    have ip : ps[i]? = some ps[i] := List.getElem?_eq_getElem (by omega)
                    have hc := rle.2 i _ _ ha (by rw [List.getElem?_map, ip]; rfl)
                    refine ⟨rfl, _, rfl, ads[i], _, rfl, .inl (SqL.of (sk _ _ (sfj _ _ hc))), _, hd6, ?_, ?_, same_push nD6 sk⟩
                    · rw [List.length_map, List.length_map, List.length_take, sizeLine_eq]
                      omega
                    · show upd _ D6 _ D6 = _
                      rw [upd_same, take_one ip, List.map_append, List.map_append, List.length_map, sz1_flat]
                      rfl
                  · rintro Hk ⟨hd6, sk⟩
                    rw [List.length_map, al, List.take_length] at hd6
                    refine ⟨D6, (ps.map sz1).map fun n : Nat => (n : Int), rfl, SqL.of (by rw [← vN_int]; exact hd6), rfl, _, rfl, iteF' ?_ ?_⟩
                    · rw [sum_int, List.length_map, List.length_map, rlen, tot]
                      simp
                    have sfk := sfj.trans sk
                    have wgk := (wgi.same sj).same sk
                    refine ⟨_, rfl, _, rfl, _, rfl, f2, pw, .ref pS, k, fr, last, ps, rfl, faE.same sfk, fm, Da.same sfk _ _ daE, gs, kc, wgk, fun Hl sl => ?_⟩
                    refine ⟨.int _, .int (k : Int), rfl, .int _, okK.sh, okK.nd, sl_ok okK (by decide), dp5 okK (by decide), ?_⟩
                    refine ⟨_, rfl, .int _, .int (k : Int), rfl, .int _, okK.sh, okK.nd, sl_ok okK (by decide), dp5 okK (by decide), rfl, _, rfl, iteF' (by simp) ?_⟩
                    have sil := sj.trans (sk.trans sl)
                    have sfl := sfk.trans sl
                    have stl := sfx.trans sil
                    have htl := stl _ _ htf
                    have hrl := stl _ _ hrf
                    have hpl := sil _ _ hpx
                    apply joinT
                    · intro fin
                      refine ⟨_, rfl, _, rfl, t, _, 0, .int pi, rfl, rfl, SqT.of htl, atI_nat (j := 0) rfl, _, _, rfl, rfl, _, rfl, ?_⟩
                      by_cases c1 : pi < (k : Int)
                      · refine iteT' (decide_eq_true c1) ?_
                        refine ⟨_, rfl, _, rfl, t, _, 1, .ref r, rfl, rfl, SqT.of htl, atI_nat (j := 1) rfl, px, r, castL row, pr, rfl, rfl, SqT.of hpl, SqT.of hrl, _, rfl, ?_⟩
                        rcases ah with ⟨rfl, rfl⟩ | ⟨k2, row2, rfl, hr2, rfl⟩
                        · refine ite2 (fun _ => ?_) (fun _ => fin trivial)
                          refine ⟨_, rfl, t, _, 0, .int (-1), rfl, rfl, SqT.of htl, atI_nat (j := 0) rfl, _, _, rfl, rfl, _, rfl, ?_⟩
                          exact iteF' (by decide) (fin trivial)
                        · have lt := rows_lt hr2 hrow (by omega)
                          exact iteF' (lex_no lt (fun j => by rw [Nat.zero_add]) (fun j => by rw [Nat.zero_add]) _ rfl) (fin trivial)
                      · exact iteF' (decide_eq_false c1) (fin trivial)
                    · refine ⟨_, rfl, _, rfl, (by show 2 ≤ sizeLine; decide), fun t2 nt2 => ?_⟩
                      have u2 := same_upd (o := HO.tup [V.int (k : Int), V.ref px]) nt2
                      exact ⟨t2, px, (k : Int), castL row, _, _, _, rfl, sfl.trans u2, upd_same, u2 _ _ hpl, .inr ⟨k, row, rfl, hrow, rfl⟩⟩
              · rintro σ Hf ⟨t, r, pi, pr, v12, v13, v15, rfl, sf, htf, hrf, ah⟩
                refine ⟨(by decide), fun F0 nF0 => ?_⟩
                have uF := same_upd (o := HO.lst []) nF0
                have sF := sf.trans uF
                refine ⟨_, rfl, pS, _, rfl, .inr (SqT.of (sF _ _ eSe)), _, rfl, by rw [lnS]; omega, by rw [lnS]; omega, for_it walk_range (fun w σ H' => ∃ (Fa : Addr) (v17 : Option V), σ = [some (.ref a), some (.ref m), some (.int (0 + (i : Int))), some (.ref f2), some (.ref pS), none, some (.ref D), none, some (.int (cntN ps : Nat)), none, some (.ref pZ), some (.ref t), v12, v13, none, v15, some (.ref Fa), v17] ∧ Same He H' ∧ H' Fa = some (.lst ((castL (firstU ps w)).map V.int)))
                  ⟨F0, v17, rfl, sF, upd_same⟩ (fun _ _ _ _ _ => trivial) ?_ ?_⟩
                · rintro w x σ Hg Hg' hw ⟨Fa, v17, rfl, sg, hFa⟩ ⟨rfl, rfl⟩
                  have hw : w < ps.length := by omega
                  have e0 : (0 : Int) + (w : Int) = (w : Int) := Int.zero_add _
                  show gName 17 (V.int (0 + (w : Int))) _ _ _
                  rw [e0]
                  have wA : w < ads.length := by omega
                  have ha : ads[w]? = some ads[w] := List.getElem?_eq_getElem wA
                  have ip : ps[w]? = some ps[w] := List.getElem?_eq_getElem hw
                  have hc := sg _ _ (rle.2 w _ _ ha (by rw [List.getElem?_map, ip]; rfl))
                  have pz := szS_mem (List.getElem_mem hw)
                  have fl : (firstU ps w).length ≤ 8 * 40 := Nat.le_trans (firstU_len w) (Nat.mul_le_mul (by omega) s40)
                  have g1 : (ps.map sz1).getD w 0 = sz1 ps[w] := by
                    rw [List.getD_eq_getElem?_getD, List.getElem?_map, ip]
                    rfl
                  refine ⟨_, rfl, _, rfl, (by show 1 ≤ sizeLine; decide), fun p1 np1 => ?_⟩
                  have u1 := same_upd (o := HO.lst [V.int (w : Int)]) np1
                  refine ⟨_, rfl, _, rfl, D, _, (w : Int), .ref ads[w], rfl, rfl, SqL.of (u1 _ _ (sg _ _ hFe)), atI_nat (by rw [List.getElem?_map, ha]; rfl), ads[w], _, rfl, .inl (SqL.of (u1 _ _ hc)), ?_⟩
                  rw [List.length_map, sz1_flat]
                  refine ⟨p1, _, [V.int (w : Int)], rfl, rfl, upd_same, by omega, by omega, by rw [List.length_singleton, Int.toNat_natCast, sizeLine_eq]; omega, fun p2 np2 => ?_⟩
                  rw [Int.toNat_natCast, flat1]
                  have u2 := same_upd (o := HO.lst (List.replicate (sz1 ps[w]) (V.int (w : Int)))) np2
                  refine ⟨Fa, p2, _, _, rfl, rfl, u2 _ _ (u1 _ _ hFa), upd_same, by rw [List.length_map, List.length_map, List.length_replicate, sizeLine_eq]; omega, fun p3 np3 => ?_⟩
                  have u3 := same_upd (o := HO.lst ((castL (firstU ps w)).map V.int ++ List.replicate (sz1 ps[w]) (V.int (w : Int)))) np3
                  refine ⟨p3, _, rfl, sg.trans (u1.trans (u2.trans u3)), ?_⟩
                  have e3 : (castL (firstU ps (w + 1))).map V.int = (castL (firstU ps w)).map V.int ++ List.replicate (sz1 ps[w]) (V.int (w : Int)) := by
                    rw [firstU_succ, g1, show castL (firstU ps w ++ List.replicate (sz1 ps[w]) w) = castL (firstU ps w) ++ castL (List.replicate (sz1 ps[w]) w) from List.map_append, List.map_append]
                    congr 1
                    unfold castL
                    rw [List.map_replicate, List.map_replicate]
                  rw [e3]
                  exact upd_same
                · rintro σ Hg ⟨Fa, v17, rfl, sg, hFa⟩
                  rw [lnS, Int.toNat_natCast, firstU_all] at hFa
                  have fmem : firstN (ps.map sz1) ∈ rowsL (szS ps) (ps.map sz1) := List.mem_of_head? (rows_first (k := szS ps) (ns := ps.map sz1) rfl)
                  have lmem : (firstN (ps.map sz1)).reverse ∈ rowsL (szS ps) (ps.map sz1) := List.mem_of_getLast? (rows_last (k := szS ps) (ns := ps.map sz1) rfl)
                  have esz : ps.map sz1 = (ps.map List.flatten).map List.length := by
                    rw [List.map_map]
                    exact List.map_congr_left fun p _ => sz1_flat.symm
                  have okrF : ∀ row, row ∈ rowsL (szS ps) (ps.map sz1) → Okr (ps.map List.flatten) row := fun row hm => okr_rows (k := szS ps) (by rw [← esz]; exact tot) (by rw [← esz]; exact hm)
                  have fl := (row_okr fmem).1
                  have ll := (row_okr lmem).1
                  refine ⟨_, rfl, _, rfl, f2, .ref pS, 0, fr, last, ps, rfl, faE.same sg, fm, Da.same sg _ _ daE, gs, pos, fun Hh pw sh wh => ?_⟩
                  refine ⟨_, rfl, _, rfl, .ref pS, Fa, ps, firstN (ps.map sz1), rfl, Da.same (sg.trans sh) _ _ daE, l8, s40, sh _ _ hFa, by omega, okrF _ fmem, fun Hi pb si wb => ?_⟩
                  rw [← at_first] at wb
                  refine ⟨dE (atP ps 0), dE (atP ps 0), dp_dE (wh.same si), dp_dE wb, shaped_dE _, shaped_dE _, _, rfl, iteF' (by rw [eqv_dE]; rfl) ?_⟩
                  have sgi := sg.trans (sh.trans si)
                  refine ⟨_, rfl, _, rfl, _, rfl, _, _, rfl, rfl, f2, .ref pS, cntN ps - 1, fr, last, ps, by show [V.ref f2, V.ref pS, V.int (((cntN ps : Nat) : Int) - 1)] = _; rw [eN], faE.same sgi, fm, Da.same sgi _ _ daE, gs, by omega, fun Hj pw2 sj wj => ?_⟩
                  have sgj := sgi.trans sj
                  refine ⟨_, rfl, _, rfl, Fa, _, rfl, SqL.of (sj _ _ (si _ _ (sh _ _ hFa))), fun pv npv => ?_⟩
                  have uv := same_upd (o := HO.lst ((castL (firstN (ps.map sz1))).map V.int).reverse) npv
                  have hpv : upd Hj pv (HO.lst ((castL (firstN (ps.map sz1))).map V.int).reverse) pv = some (.lst ((castL (firstN (ps.map sz1)).reverse).map V.int)) := by
                    rw [upd_same]
                    unfold castL
                    rw [List.map_reverse, List.map_reverse]
                  refine ⟨.ref pS, pv, ps, (firstN (ps.map sz1)).reverse, rfl, Da.same (sgj.trans uv) _ _ daE, l8, s40, hpv, by omega, okrF _ lmem, fun Hk pb2 sk wb2 => ?_⟩
                  rw [← at_last] at wb2
                  refine ⟨dE (atP ps (cntN ps - 1)), dE (atP ps (cntN ps - 1)), dp_dE ((wj.same uv).same sk), dp_dE wb2, shaped_dE _, shaped_dE _, _, rfl, iteF' (by rw [eqv_dE]; rfl) ?_⟩
                  have sgk := (sgj.trans uv).trans sk
                  refine ⟨_, rfl, _, rfl, _, rfl, f2, .ref pS, 0, fr, last, ps, rfl, faE.same sgk, fm, Da.same sgk _ _ daE, gs, pos, fun Hl pw3 sl wl => ?_⟩
                  have sgl := sgk.trans sl
                  refine ⟨f2, pw3, fr, last, atP ps 0, rfl, faE.same sgl, fm, wl, (atP_ok gs pos).1, fun Hm sm => ?_⟩
                  have cl0 : clE fr (atP ps 0) = true := by
                    rw [at_first]
                    exact first_clean gs
                  refine ⟨_, _, rfl, rfl, _, rfl, iteF' (by rw [cl0]; rfl) ?_⟩
                  exact ⟨_, _, _, _, _, _, _, _, _, _, _, _, ld, kd, rfl, Me.same (sgl.trans sm), by omega⟩
    · rintro σ H1 ⟨v2, v3, v4, v6, v8, v10, v11, v12, v13, v15, v16, v17, l1, k1, rfl, M1, kk1⟩
      exact q H1
end
end K39

set_option Elab.async false
set_option linter.all false
set_option maxRecDepth 100000
set_option maxHeartbeats 8000000
/-! What the top has written. -/
namespace K39
open PySem L2 L2.EV PySem.Spec PyProof.Rows
theorem oxc {K : PySem.W.Frag} {C N : Addr} {nm q : Str} {bs : List Value} {sn : List Str} {sub : List Value} {ab : Bool} {col : Option Bool} {dd : Option Addr} {k0 k1 k2 k3 k5 : Option Value} {B newId initId : String} {bm : List Value}
    (cl : K.lookup C = some (excClassObj nm q C N bs bm true sn sub ab col dd k0 k1 k2 k3 k5 newId)) (F : ExcBaseFacts B newId initId bm) (pas : ∀ self, refuseLoop self "__setattr__" bm = pure ()) (obj : bm.contains (.type "object") = true)
    (sa : PySem.W.findIn K (.ref C) "__setattr__" = some (some (.builtin "object.__setattr__"))) (ga : PySem.W.findIn K (.ref C) "__getattribute__" = some (some (.builtin "BaseException.__getattribute__")))
    (gg : PySem.W.findIn K (.ref C) "__getattr__" = some none) (exC : PySem.W.subIn K (.ref C) (.type "BaseException") = some true) (kC : PySem.W.keepIn K (.ref C) = true) (hd : PySem.W.hasDictIn K C = true)
    (ca : PySem.W.findIn K (.ref C) "__class__" = some (some (.builtin "object.__class__"))) (cn : PySem.W.specialIn K (.builtin "object.__class__") "__get__" = some (some (.builtin "getset_descriptor.__get__")))
    (ct : PySem.W.takesIn K (.builtin "object.__class__") = some true) (om : PySem.W.mroIn K C (.type "object") = some true) : OxC K C B newId initId bm :=
  ⟨F, ⟨nm, q, N, bs, sn, sub, ab, col, dd, k0, k1, k2, k3, k5, cl⟩, pas, obj, sa, ga, gg, exC, kC, hd, ca, cn, ct, om⟩
theorem all_mk {P : Program} {w : World} {K : PySem.W.Frag} {h : Heap} {mg : Str → Option Value} {fa C D f_ini f_ino f_iN f_iP f_iS f_iL f_iW f_iJ f_iF f_fO f_fL f_wE f_wR f_wN f_rP f_rL f_rI f_rW f_uS f_uN f_uO f_uT f_uC f_uD f_uL f_uW f_uA f_uF f_uR f_uI f_ms f_lB f_lN f_lP f_lF f_lG f_lA f_lY f_lC f_lH f_lM f_la  : Addr}
    {od_iN an_iN : Option Addr} {sl_iN : Array (Option Value)} {oc_iN kV_iN dc_iN pm_iN cd_iN ct_iN : Value}
    {od_iP an_iP : Option Addr} {sl_iP : Array (Option Value)} {oc_iP kV_iP dc_iP pm_iP cd_iP ct_iP : Value}
    {od_iS an_iS : Option Addr} {sl_iS : Array (Option Value)} {oc_iS kV_iS dc_iS pm_iS cd_iS ct_iS : Value}
    {od_iL an_iL : Option Addr} {sl_iL : Array (Option Value)} {oc_iL kV_iL dc_iL pm_iL cd_iL ct_iL : Value}
    {od_iW an_iW : Option Addr} {sl_iW : Array (Option Value)} {oc_iW kV_iW dc_iW pm_iW cd_iW ct_iW : Value}
    {od_iJ an_iJ : Option Addr} {sl_iJ : Array (Option Value)} {oc_iJ kV_iJ dc_iJ pm_iJ cd_iJ ct_iJ : Value}
    {od_iF an_iF : Option Addr} {sl_iF : Array (Option Value)} {oc_iF kV_iF dc_iF pm_iF cd_iF ct_iF : Value}
    {od_fO an_fO : Option Addr} {sl_fO : Array (Option Value)} {oc_fO kV_fO dc_fO pm_fO cd_fO ct_fO : Value}
    {od_fL an_fL : Option Addr} {sl_fL : Array (Option Value)} {oc_fL kV_fL dc_fL pm_fL cd_fL ct_fL : Value}
    {od_wE an_wE : Option Addr} {sl_wE : Array (Option Value)} {oc_wE kV_wE dc_wE pm_wE cd_wE ct_wE : Value}
    {od_wR an_wR : Option Addr} {sl_wR : Array (Option Value)} {oc_wR kV_wR dc_wR pm_wR cd_wR ct_wR : Value}
    {od_wN an_wN : Option Addr} {sl_wN : Array (Option Value)} {oc_wN kV_wN dc_wN pm_wN cd_wN ct_wN : Value}
    {od_rP an_rP : Option Addr} {sl_rP : Array (Option Value)} {oc_rP kV_rP dc_rP pm_rP cd_rP ct_rP : Value}
    {od_rL an_rL : Option Addr} {sl_rL : Array (Option Value)} {oc_rL kV_rL dc_rL pm_rL cd_rL ct_rL : Value}
    {od_rI an_rI : Option Addr} {sl_rI : Array (Option Value)} {oc_rI kV_rI dc_rI pm_rI cd_rI ct_rI : Value}
    {od_rW an_rW : Option Addr} {sl_rW : Array (Option Value)} {oc_rW kV_rW dc_rW pm_rW cd_rW ct_rW : Value}
    {od_uS an_uS : Option Addr} {sl_uS : Array (Option Value)} {oc_uS kV_uS dc_uS pm_uS cd_uS ct_uS : Value}
    {od_uN an_uN : Option Addr} {sl_uN : Array (Option Value)} {oc_uN kV_uN dc_uN pm_uN cd_uN ct_uN : Value}
    {od_uO an_uO : Option Addr} {sl_uO : Array (Option Value)} {oc_uO kV_uO dc_uO pm_uO cd_uO ct_uO : Value}
    {od_uT an_uT : Option Addr} {sl_uT : Array (Option Value)} {oc_uT kV_uT dc_uT pm_uT cd_uT ct_uT : Value}
    {od_uC an_uC : Option Addr} {sl_uC : Array (Option Value)} {oc_uC kV_uC dc_uC pm_uC cd_uC ct_uC : Value}
    {od_uD an_uD : Option Addr} {sl_uD : Array (Option Value)} {oc_uD kV_uD dc_uD pm_uD cd_uD ct_uD : Value}
    {od_uL an_uL : Option Addr} {sl_uL : Array (Option Value)} {oc_uL kV_uL dc_uL pm_uL cd_uL ct_uL : Value}
    {od_uW an_uW : Option Addr} {sl_uW : Array (Option Value)} {oc_uW kV_uW dc_uW pm_uW cd_uW ct_uW : Value}
    {od_uA an_uA : Option Addr} {sl_uA : Array (Option Value)} {oc_uA kV_uA dc_uA pm_uA cd_uA ct_uA : Value}
    {od_uF an_uF : Option Addr} {sl_uF : Array (Option Value)} {oc_uF kV_uF dc_uF pm_uF cd_uF ct_uF : Value}
    {od_uR an_uR : Option Addr} {sl_uR : Array (Option Value)} {oc_uR kV_uR dc_uR pm_uR cd_uR ct_uR : Value}
    {od_uI an_uI : Option Addr} {sl_uI : Array (Option Value)} {oc_uI kV_uI dc_uI pm_uI cd_uI ct_uI : Value}
    {od_ms an_ms : Option Addr} {sl_ms : Array (Option Value)} {oc_ms kV_ms dc_ms pm_ms cd_ms ct_ms : Value}
    {od_lB an_lB : Option Addr} {sl_lB : Array (Option Value)} {oc_lB kV_lB dc_lB pm_lB cd_lB ct_lB : Value}
    {od_lN an_lN : Option Addr} {sl_lN : Array (Option Value)} {oc_lN kV_lN dc_lN pm_lN cd_lN ct_lN : Value}
    {od_lP an_lP : Option Addr} {sl_lP : Array (Option Value)} {oc_lP kV_lP dc_lP pm_lP cd_lP ct_lP : Value}
    {od_lF an_lF : Option Addr} {sl_lF : Array (Option Value)} {oc_lF kV_lF dc_lF pm_lF cd_lF ct_lF : Value}
    {od_lG an_lG : Option Addr} {sl_lG : Array (Option Value)} {oc_lG kV_lG dc_lG pm_lG cd_lG ct_lG : Value}
    {od_lA an_lA : Option Addr} {sl_lA : Array (Option Value)} {oc_lA kV_lA dc_lA pm_lA cd_lA ct_lA : Value}
    {od_lY an_lY : Option Addr} {sl_lY : Array (Option Value)} {oc_lY kV_lY dc_lY pm_lY cd_lY ct_lY : Value}
    {od_lC an_lC : Option Addr} {sl_lC : Array (Option Value)} {oc_lC kV_lC dc_lC pm_lC cd_lC ct_lC : Value}
    {od_lH an_lH : Option Addr} {sl_lH : Array (Option Value)} {oc_lH kV_lH dc_lH pm_lH cd_lH ct_lH : Value}
    {od_lM an_lM : Option Addr} {sl_lM : Array (Option Value)} {oc_lM kV_lM dc_lM pm_lM cd_lM ct_lM : Value}
    {od_la an_la : Option Addr} {sl_la : Array (Option Value)} {oc_la kV_la dc_la pm_la cd_la ct_la : Value}
    {od_ini an_ini : Option Addr} {sl_ini : Array (Option Value)} {oc_ini kV_ini dc_ini pm_ini cd_ini ct_ini : Value}
    {od_ino an_ino : Option Addr} {sl_ino : Array (Option Value)} {oc_ino kV_ino dc_ino pm_ino cd_ino ct_ino : Value}
    {t_vS : Tok}
    {t_vM : Tok}
    {t_vT : Tok}
    {t_vD : Tok}
    {t_vK : Tok}
    {t_vE : Tok}
    {t_vC : Tok}
    (X : K.In h) (G : h.Ns mainGlobals mg) (hfa : mg "law" = some (.ref fa))
    (a_iN : PySem.W.nsIn K mainGlobals "is_number" = some (some (.ref f_iN)))
    (l_iN : K.lookup f_iN = some ⟨oc_iN, od_iN, .func (PySem.W.fnOf "is_number" "is_number" (defArgs sNum) (defBody sNum) (defScope sNum) .none kV_iN dc_iN pm_iN an_iN cd_iN ct_iN), sl_iN⟩) (c_iN : PySem.W.codeIn K cd_iN "is_number" = true) (k_iN : PySem.W.keepIn K (.ref f_iN) = true)
    (a_iP : PySem.W.nsIn K mainGlobals "is_piece" = some (some (.ref f_iP)))
    (l_iP : K.lookup f_iP = some ⟨oc_iP, od_iP, .func (PySem.W.fnOf "is_piece" "is_piece" (defArgs sPc) (defBody sPc) (defScope sPc) .none kV_iP dc_iP pm_iP an_iP cd_iP ct_iP), sl_iP⟩) (c_iP : PySem.W.codeIn K cd_iP "is_piece" = true) (k_iP : PySem.W.keepIn K (.ref f_iP) = true)
    (a_iS : PySem.W.nsIn K mainGlobals "is_step" = some (some (.ref f_iS)))
    (l_iS : K.lookup f_iS = some ⟨oc_iS, od_iS, .func (PySem.W.fnOf "is_step" "is_step" (defArgs sStep) (defBody sStep) (defScope sStep) .none kV_iS dc_iS pm_iS an_iS cd_iS ct_iS), sl_iS⟩) (c_iS : PySem.W.codeIn K cd_iS "is_step" = true) (k_iS : PySem.W.keepIn K (.ref f_iS) = true)
    (a_iL : PySem.W.nsIn K mainGlobals "listed_standings" = some (some (.ref f_iL)))
    (l_iL : K.lookup f_iL = some ⟨oc_iL, od_iL, .func (PySem.W.fnOf "listed_standings" "listed_standings" (defArgs sListed) (defBody sListed) (defScope sListed) .none kV_iL dc_iL pm_iL an_iL cd_iL ct_iL), sl_iL⟩) (c_iL : PySem.W.codeIn K cd_iL "listed_standings" = true) (k_iL : PySem.W.keepIn K (.ref f_iL) = true)
    (a_iW : PySem.W.nsIn K mainGlobals "ways_from" = some (some (.ref f_iW)))
    (l_iW : K.lookup f_iW = some ⟨oc_iW, od_iW, .func (PySem.W.fnOf "ways_from" "ways_from" (defArgs sWays) (defBody sWays) (defScope sWays) .none kV_iW dc_iW pm_iW an_iW cd_iW ct_iW), sl_iW⟩) (c_iW : PySem.W.codeIn K cd_iW "ways_from" = true) (k_iW : PySem.W.keepIn K (.ref f_iW) = true)
    (a_iJ : PySem.W.nsIn K mainGlobals "is_joined" = some (some (.ref f_iJ)))
    (l_iJ : K.lookup f_iJ = some ⟨oc_iJ, od_iJ, .func (PySem.W.fnOf "is_joined" "is_joined" (defArgs sJoined) (defBody sJoined) (defScope sJoined) .none kV_iJ dc_iJ pm_iJ an_iJ cd_iJ ct_iJ), sl_iJ⟩) (c_iJ : PySem.W.codeIn K cd_iJ "is_joined" = true) (k_iJ : PySem.W.keepIn K (.ref f_iJ) = true)
    (a_iF : PySem.W.nsIn K mainGlobals "need_framing" = some (some (.ref f_iF)))
    (l_iF : K.lookup f_iF = some ⟨oc_iF, od_iF, .func (PySem.W.fnOf "need_framing" "need_framing" (defArgs sNeedF) (defBody sNeedF) (defScope sNeedF) .none kV_iF dc_iF pm_iF an_iF cd_iF ct_iF), sl_iF⟩) (c_iF : PySem.W.codeIn K cd_iF "need_framing" = true) (k_iF : PySem.W.keepIn K (.ref f_iF) = true)
    (a_fO : PySem.W.nsIn K mainGlobals "follows_as_line" = some (some (.ref f_fO)))
    (l_fO : K.lookup f_fO = some ⟨oc_fO, od_fO, .func (PySem.W.fnOf "follows_as_line" "follows_as_line" (defArgs sFol) (defBody sFol) (defScope sFol) .none kV_fO dc_fO pm_fO an_fO cd_fO ct_fO), sl_fO⟩) (c_fO : PySem.W.codeIn K cd_fO "follows_as_line" = true) (k_fO : PySem.W.keepIn K (.ref f_fO) = true)
    (a_fL : PySem.W.nsIn K mainGlobals "is_line" = some (some (.ref f_fL)))
    (l_fL : K.lookup f_fL = some ⟨oc_fL, od_fL, .func (PySem.W.fnOf "is_line" "is_line" (defArgs sLine) (defBody sLine) (defScope sLine) .none kV_fL dc_fL pm_fL an_fL cd_fL ct_fL), sl_fL⟩) (c_fL : PySem.W.codeIn K cd_fL "is_line" = true) (k_fL : PySem.W.keepIn K (.ref f_fL) = true)
    (a_wE : PySem.W.nsIn K mainGlobals "is_entry" = some (some (.ref f_wE)))
    (l_wE : K.lookup f_wE = some ⟨oc_wE, od_wE, .func (PySem.W.fnOf "is_entry" "is_entry" (defArgs sEntry) (defBody sEntry) (defScope sEntry) .none kV_wE dc_wE pm_wE an_wE cd_wE ct_wE), sl_wE⟩) (c_wE : PySem.W.codeIn K cd_wE "is_entry" = true) (k_wE : PySem.W.keepIn K (.ref f_wE) = true)
    (a_wR : PySem.W.nsIn K mainGlobals "first_wrong" = some (some (.ref f_wR)))
    (l_wR : K.lookup f_wR = some ⟨oc_wR, od_wR, .func (PySem.W.fnOf "first_wrong" "first_wrong" (defArgs sWrong) (defBody sWrong) (defScope sWrong) .none kV_wR dc_wR pm_wR an_wR cd_wR ct_wR), sl_wR⟩) (c_wR : PySem.W.codeIn K cd_wR "first_wrong" = true) (k_wR : PySem.W.keepIn K (.ref f_wR) = true)
    (a_wN : PySem.W.nsIn K mainGlobals "need_weaving" = some (some (.ref f_wN)))
    (l_wN : K.lookup f_wN = some ⟨oc_wN, od_wN, .func (PySem.W.fnOf "need_weaving" "need_weaving" (defArgs sNeedW) (defBody sNeedW) (defScope sNeedW) .none kV_wN dc_wN pm_wN an_wN cd_wN ct_wN), sl_wN⟩) (c_wN : PySem.W.codeIn K cd_wN "need_weaving" = true) (k_wN : PySem.W.keepIn K (.ref f_wN) = true)
    (a_rP : PySem.W.nsIn K mainGlobals "line_places" = some (some (.ref f_rP)))
    (l_rP : K.lookup f_rP = some ⟨oc_rP, od_rP, .func (PySem.W.fnOf "line_places" "line_places" (defArgs sPlaces) (defBody sPlaces) (defScope sPlaces) .none kV_rP dc_rP pm_rP an_rP cd_rP ct_rP), sl_rP⟩) (c_rP : PySem.W.codeIn K cd_rP "line_places" = true) (k_rP : PySem.W.keepIn K (.ref f_rP) = true)
    (a_rL : PySem.W.nsIn K mainGlobals "read_lines" = some (some (.ref f_rL)))
    (l_rL : K.lookup f_rL = some ⟨oc_rL, od_rL, .func (PySem.W.fnOf "read_lines" "read_lines" (defArgs sRead) (defBody sRead) (defScope sRead) .none kV_rL dc_rL pm_rL an_rL cd_rL ct_rL), sl_rL⟩) (c_rL : PySem.W.codeIn K cd_rL "read_lines" = true) (k_rL : PySem.W.keepIn K (.ref f_rL) = true)
    (a_rI : PySem.W.nsIn K mainGlobals "is_read_line" = some (some (.ref f_rI)))
    (l_rI : K.lookup f_rI = some ⟨oc_rI, od_rI, .func (PySem.W.fnOf "is_read_line" "is_read_line" (defArgs sIsRead) (defBody sIsRead) (defScope sIsRead) .none kV_rI dc_rI pm_rI an_rI cd_rI ct_rI), sl_rI⟩) (c_rI : PySem.W.codeIn K cd_rI "is_read_line" = true) (k_rI : PySem.W.keepIn K (.ref f_rI) = true)
    (a_rW : PySem.W.nsIn K mainGlobals "is_whole_line" = some (some (.ref f_rW)))
    (l_rW : K.lookup f_rW = some ⟨oc_rW, od_rW, .func (PySem.W.fnOf "is_whole_line" "is_whole_line" (defArgs sIsWhole) (defBody sIsWhole) (defScope sIsWhole) .none kV_rW dc_rW pm_rW an_rW cd_rW ct_rW), sl_rW⟩) (c_rW : PySem.W.codeIn K cd_rW "is_whole_line" = true) (k_rW : PySem.W.keepIn K (.ref f_rW) = true)
    (a_uS : PySem.W.nsIn K mainGlobals "is_score" = some (some (.ref f_uS)))
    (l_uS : K.lookup f_uS = some ⟨oc_uS, od_uS, .func (PySem.W.fnOf "is_score" "is_score" (defArgs sScore) (defBody sScore) (defScope sScore) .none kV_uS dc_uS pm_uS an_uS cd_uS ct_uS), sl_uS⟩) (c_uS : PySem.W.codeIn K cd_uS "is_score" = true) (k_uS : PySem.W.keepIn K (.ref f_uS) = true)
    (a_uN : PySem.W.nsIn K mainGlobals "need_score" = some (some (.ref f_uN)))
    (l_uN : K.lookup f_uN = some ⟨oc_uN, od_uN, .func (PySem.W.fnOf "need_score" "need_score" (defArgs sNeedS) (defBody sNeedS) (defScope sNeedS) .none kV_uN dc_uN pm_uN an_uN cd_uN ct_uN), sl_uN⟩) (c_uN : PySem.W.codeIn K cd_uN "need_score" = true) (k_uN : PySem.W.keepIn K (.ref f_uN) = true)
    (a_uO : PySem.W.nsIn K mainGlobals "orders" = some (some (.ref f_uO)))
    (l_uO : K.lookup f_uO = some ⟨oc_uO, od_uO, .func (PySem.W.fnOf "orders" "orders" (defArgs sOrd) (defBody sOrd) (defScope sOrd) .none kV_uO dc_uO pm_uO an_uO cd_uO ct_uO), sl_uO⟩) (c_uO : PySem.W.codeIn K cd_uO "orders" = true) (k_uO : PySem.W.keepIn K (.ref f_uO) = true)
    (a_uT : PySem.W.nsIn K mainGlobals "steps_of" = some (some (.ref f_uT)))
    (l_uT : K.lookup f_uT = some ⟨oc_uT, od_uT, .func (PySem.W.fnOf "steps_of" "steps_of" (defArgs sSteps) (defBody sSteps) (defScope sSteps) .none kV_uT dc_uT pm_uT an_uT cd_uT ct_uT), sl_uT⟩) (c_uT : PySem.W.codeIn K cd_uT "steps_of" = true) (k_uT : PySem.W.keepIn K (.ref f_uT) = true)
    (a_uC : PySem.W.nsIn K mainGlobals "count" = some (some (.ref f_uC)))
    (l_uC : K.lookup f_uC = some ⟨oc_uC, od_uC, .func (PySem.W.fnOf "count" "count" (defArgs sCount) (defBody sCount) (defScope sCount) .none kV_uC dc_uC pm_uC an_uC cd_uC ct_uC), sl_uC⟩) (c_uC : PySem.W.codeIn K cd_uC "count" = true) (k_uC : PySem.W.keepIn K (.ref f_uC) = true)
    (a_uD : PySem.W.nsIn K mainGlobals "count_clean" = some (some (.ref f_uD)))
    (l_uD : K.lookup f_uD = some ⟨oc_uD, od_uD, .func (PySem.W.fnOf "count_clean" "count_clean" (defArgs sClean) (defBody sClean) (defScope sClean) .none kV_uD dc_uD pm_uD an_uD cd_uD ct_uD), sl_uD⟩) (c_uD : PySem.W.codeIn K cd_uD "count_clean" = true) (k_uD : PySem.W.keepIn K (.ref f_uD) = true)
    (a_uL : PySem.W.nsIn K mainGlobals "less_one" = some (some (.ref f_uL)))
    (l_uL : K.lookup f_uL = some ⟨oc_uL, od_uL, .func (PySem.W.fnOf "less_one" "less_one" (defArgs sLess) (defBody sLess) (defScope sLess) .none kV_uL dc_uL pm_uL an_uL cd_uL ct_uL), sl_uL⟩) (c_uL : PySem.W.codeIn K cd_uL "less_one" = true) (k_uL : PySem.W.keepIn K (.ref f_uL) = true)
    (a_uW : PySem.W.nsIn K mainGlobals "orders_with" = some (some (.ref f_uW)))
    (l_uW : K.lookup f_uW = some ⟨oc_uW, od_uW, .func (PySem.W.fnOf "orders_with" "orders_with" (defArgs sOW) (defBody sOW) (defScope sOW) .none kV_uW dc_uW pm_uW an_uW cd_uW ct_uW), sl_uW⟩) (c_uW : PySem.W.codeIn K cd_uW "orders_with" = true) (k_uW : PySem.W.keepIn K (.ref f_uW) = true)
    (a_uA : PySem.W.nsIn K mainGlobals "weaving_at" = some (some (.ref f_uA)))
    (l_uA : K.lookup f_uA = some ⟨oc_uA, od_uA, .func (PySem.W.fnOf "weaving_at" "weaving_at" (defArgs sAt) (defBody sAt) (defScope sAt) .none kV_uA dc_uA pm_uA an_uA cd_uA ct_uA), sl_uA⟩) (c_uA : PySem.W.codeIn K cd_uA "weaving_at" = true) (k_uA : PySem.W.keepIn K (.ref f_uA) = true)
    (a_uF : PySem.W.nsIn K mainGlobals "is_of_score" = some (some (.ref f_uF)))
    (l_uF : K.lookup f_uF = some ⟨oc_uF, od_uF, .func (PySem.W.fnOf "is_of_score" "is_of_score" (defArgs sOf) (defBody sOf) (defScope sOf) .none kV_uF dc_uF pm_uF an_uF cd_uF ct_uF), sl_uF⟩) (c_uF : PySem.W.codeIn K cd_uF "is_of_score" = true) (k_uF : PySem.W.keepIn K (.ref f_uF) = true)
    (a_uR : PySem.W.nsIn K mainGlobals "weaving_number" = some (some (.ref f_uR)))
    (l_uR : K.lookup f_uR = some ⟨oc_uR, od_uR, .func (PySem.W.fnOf "weaving_number" "weaving_number" (defArgs sNr) (defBody sNr) (defScope sNr) .none kV_uR dc_uR pm_uR an_uR cd_uR ct_uR), sl_uR⟩) (c_uR : PySem.W.codeIn K cd_uR "weaving_number" = true) (k_uR : PySem.W.keepIn K (.ref f_uR) = true)
    (a_uI : PySem.W.nsIn K mainGlobals "is_clean" = some (some (.ref f_uI)))
    (l_uI : K.lookup f_uI = some ⟨oc_uI, od_uI, .func (PySem.W.fnOf "is_clean" "is_clean" (defArgs sIsClean) (defBody sIsClean) (defScope sIsClean) .none kV_uI dc_uI pm_uI an_uI cd_uI ct_uI), sl_uI⟩) (c_uI : PySem.W.codeIn K cd_uI "is_clean" = true) (k_uI : PySem.W.keepIn K (.ref f_uI) = true)
    (a_ms : PySem.W.nsIn K mainGlobals "message" = some (some (.ref f_ms)))
    (l_ms : K.lookup f_ms = some ⟨oc_ms, od_ms, .func (PySem.W.fnOf "message" "message" (defArgs sMsg) (defBody sMsg) (defScope sMsg) .none kV_ms dc_ms pm_ms an_ms cd_ms ct_ms), sl_ms⟩) (c_ms : PySem.W.codeIn K cd_ms "message" = true) (k_ms : PySem.W.keepIn K (.ref f_ms) = true)
    (a_lB : PySem.W.nsIn K mainGlobals "_law_begun" = some (some (.ref f_lB)))
    (l_lB : K.lookup f_lB = some ⟨oc_lB, od_lB, .func (PySem.W.fnOf "_law_begun" "_law_begun" (defArgs sBegun) (defBody sBegun) (defScope sBegun) .none kV_lB dc_lB pm_lB an_lB cd_lB ct_lB), sl_lB⟩) (c_lB : PySem.W.codeIn K cd_lB "_law_begun" = true) (k_lB : PySem.W.keepIn K (.ref f_lB) = true)
    (a_lN : PySem.W.nsIn K mainGlobals "_law_next" = some (some (.ref f_lN)))
    (l_lN : K.lookup f_lN = some ⟨oc_lN, od_lN, .func (PySem.W.fnOf "_law_next" "_law_next" (defArgs sNext) (defBody sNext) (defScope sNext) .none kV_lN dc_lN pm_lN an_lN cd_lN ct_lN), sl_lN⟩) (c_lN : PySem.W.codeIn K cd_lN "_law_next" = true) (k_lN : PySem.W.keepIn K (.ref f_lN) = true)
    (a_lP : PySem.W.nsIn K mainGlobals "_law_piece" = some (some (.ref f_lP)))
    (l_lP : K.lookup f_lP = some ⟨oc_lP, od_lP, .func (PySem.W.fnOf "_law_piece" "_law_piece" (defArgs sPiece) (defBody sPiece) (defScope sPiece) .none kV_lP dc_lP pm_lP an_lP cd_lP ct_lP), sl_lP⟩) (c_lP : PySem.W.codeIn K cd_lP "_law_piece" = true) (k_lP : PySem.W.keepIn K (.ref f_lP) = true)
    (a_lF : PySem.W.nsIn K mainGlobals "_law_framing" = some (some (.ref f_lF)))
    (l_lF : K.lookup f_lF = some ⟨oc_lF, od_lF, .func (PySem.W.fnOf "_law_framing" "_law_framing" (defArgs sFraming) (defBody sFraming) (defScope sFraming) .none kV_lF dc_lF pm_lF an_lF cd_lF ct_lF), sl_lF⟩) (c_lF : PySem.W.codeIn K cd_lF "_law_framing" = true) (k_lF : PySem.W.keepIn K (.ref f_lF) = true)
    (a_lG : PySem.W.nsIn K mainGlobals "_law_from" = some (some (.ref f_lG)))
    (l_lG : K.lookup f_lG = some ⟨oc_lG, od_lG, .func (PySem.W.fnOf "_law_from" "_law_from" (defArgs sFrom) (defBody sFrom) (defScope sFrom) .none kV_lG dc_lG pm_lG an_lG cd_lG ct_lG), sl_lG⟩) (c_lG : PySem.W.codeIn K cd_lG "_law_from" = true) (k_lG : PySem.W.keepIn K (.ref f_lG) = true)
    (a_lA : PySem.W.nsIn K mainGlobals "_law_flat" = some (some (.ref f_lA)))
    (l_lA : K.lookup f_lA = some ⟨oc_lA, od_lA, .func (PySem.W.fnOf "_law_flat" "_law_flat" (defArgs sFlat) (defBody sFlat) (defScope sFlat) .none kV_lA dc_lA pm_lA an_lA cd_lA ct_lA), sl_lA⟩) (c_lA : PySem.W.codeIn K cd_lA "_law_flat" = true) (k_lA : PySem.W.keepIn K (.ref f_lA) = true)
    (a_lY : PySem.W.nsIn K mainGlobals "_law_by_order" = some (some (.ref f_lY)))
    (l_lY : K.lookup f_lY = some ⟨oc_lY, od_lY, .func (PySem.W.fnOf "_law_by_order" "_law_by_order" (defArgs sByO) (defBody sByO) (defScope sByO) .none kV_lY dc_lY pm_lY an_lY cd_lY ct_lY), sl_lY⟩) (c_lY : PySem.W.codeIn K cd_lY "_law_by_order" = true) (k_lY : PySem.W.keepIn K (.ref f_lY) = true)
    (a_lC : PySem.W.nsIn K mainGlobals "_law_score" = some (some (.ref f_lC)))
    (l_lC : K.lookup f_lC = some ⟨oc_lC, od_lC, .func (PySem.W.fnOf "_law_score" "_law_score" (defArgs sSc) (defBody sSc) (defScope sSc) .none kV_lC dc_lC pm_lC an_lC cd_lC ct_lC), sl_lC⟩) (c_lC : PySem.W.codeIn K cd_lC "_law_score" = true) (k_lC : PySem.W.keepIn K (.ref f_lC) = true)
    (a_lH : PySem.W.nsIn K mainGlobals "_law_homeward" = some (some (.ref f_lH)))
    (l_lH : K.lookup f_lH = some ⟨oc_lH, od_lH, .func (PySem.W.fnOf "_law_homeward" "_law_homeward" (defArgs sHome) (defBody sHome) (defScope sHome) .none kV_lH dc_lH pm_lH an_lH cd_lH ct_lH), sl_lH⟩) (c_lH : PySem.W.codeIn K cd_lH "_law_homeward" = true) (k_lH : PySem.W.keepIn K (.ref f_lH) = true)
    (a_lM : PySem.W.nsIn K mainGlobals "_law_many" = some (some (.ref f_lM)))
    (l_lM : K.lookup f_lM = some ⟨oc_lM, od_lM, .func (PySem.W.fnOf "_law_many" "_law_many" (defArgs sMany) (defBody sMany) (defScope sMany) .none kV_lM dc_lM pm_lM an_lM cd_lM ct_lM), sl_lM⟩) (c_lM : PySem.W.codeIn K cd_lM "_law_many" = true) (k_lM : PySem.W.keepIn K (.ref f_lM) = true)
    (a_la : PySem.W.nsIn K mainGlobals "law" = some (some (.ref f_la)))
    (l_la : K.lookup f_la = some ⟨oc_la, od_la, .func (PySem.W.fnOf "law" "law" (defArgs sLaw) (defBody sLaw) (defScope sLaw) .none kV_la dc_la pm_la an_la cd_la ct_la), sl_la⟩) (c_la : PySem.W.codeIn K cd_la "law" = true) (k_la : PySem.W.keepIn K (.ref f_la) = true)
    (aC : PySem.W.nsIn K mainGlobals "BadWeaving" = some (some (.ref C)))
    (OXC : OxC K C "ValueError" "ValueError.__new__" "ValueError.__init__" [.type "ValueError", .type "Exception", .type "BaseException", .type "object"])
    (iCC : PySem.W.findIn K (.ref C) "__init__" = some (some (.ref f_ini))) (tIC : PySem.W.typeIn K (.ref f_ini) = some (.type "function"))
    (n0 : PySem.W.findIn K (.ref C) "number" = some none)
    (l_ini : K.lookup f_ini = some ⟨oc_ini, od_ini, .func (PySem.W.fnOf "__init__" "BadWeaving.__init__" (defArgs sBadWeaving) (defBody sBadWeaving) (defScope sBadWeaving) .none kV_ini dc_ini pm_ini an_ini cd_ini ct_ini), sl_ini⟩) (c_ini : PySem.W.codeIn K cd_ini "BadWeaving.__init__" = true) (k_ini : PySem.W.keepIn K (.ref f_ini) = true)
    (suC : PySem.W.subIn K (.ref C) (.type "BaseException") = some true) (tyC : PySem.W.typeIn K (.ref C) = some (.type "type"))
    (aD : PySem.W.nsIn K mainGlobals "OutOfPlace" = some (some (.ref D)))
    (OXD : OxC K D "ValueError" "ValueError.__new__" "ValueError.__init__" [.type "ValueError", .type "Exception", .type "BaseException", .type "object"])
    (iCD : PySem.W.findIn K (.ref D) "__init__" = some (some (.ref f_ino))) (tID : PySem.W.typeIn K (.ref f_ino) = some (.type "function"))
    (l_ino : K.lookup f_ino = some ⟨oc_ino, od_ino, .func (PySem.W.fnOf "__init__" "OutOfPlace.__init__" (defArgs sOutOfPlace) (defBody sOutOfPlace) (defScope sOutOfPlace) .none kV_ino dc_ino pm_ino an_ino cd_ino ct_ino), sl_ino⟩) (c_ino : PySem.W.codeIn K cd_ino "OutOfPlace.__init__" = true) (k_ino : PySem.W.keepIn K (.ref f_ino) = true)
    (suD : PySem.W.subIn K (.ref D) (.type "BaseException") = some true) (tyD : PySem.W.typeIn K (.ref D) = some (.type "type"))
    (g_vS : PySem.W.nsIn K mainGlobals "SIGNS" = some (some (.str "abcdefghijklmnopqrstuvwxyz0123456789@" t_vS)))
    (g_vM : PySem.W.nsIn K mainGlobals "MOST_SIGNS" = some (some (.int 8 t_vM)))
    (g_vT : PySem.W.nsIn K mainGlobals "MOST_STEPS" = some (some (.int 16 t_vT)))
    (g_vD : PySem.W.nsIn K mainGlobals "MANY_STANDINGS" = some (some (.int 6 t_vD)))
    (g_vK : PySem.W.nsIn K mainGlobals "MARKS" = some (some (.str "ABCDEFGH" t_vK)))
    (g_vE : PySem.W.nsIn K mainGlobals "MOST_ENTRIES" = some (some (.int 200 t_vE)))
    (g_vC : PySem.W.nsIn K mainGlobals "MOST_SCORED" = some (some (.int 40 t_vC)))
    (z_isinstance : PySem.W.nsIn K mainGlobals "isinstance" = some none)
    (z_int : PySem.W.nsIn K mainGlobals "int" = some none)
    (z_bool : PySem.W.nsIn K mainGlobals "bool" = some none)
    (z_str : PySem.W.nsIn K mainGlobals "str" = some none)
    (z_tuple : PySem.W.nsIn K mainGlobals "tuple" = some none)
    (z_len : PySem.W.nsIn K mainGlobals "len" = some none)
    (z_all : PySem.W.nsIn K mainGlobals "all" = some none)
    (z_sorted : PySem.W.nsIn K mainGlobals "sorted" = some none)
    (z_enumerate : PySem.W.nsIn K mainGlobals "enumerate" = some none)
    (z_list : PySem.W.nsIn K mainGlobals "list" = some none)
    (z_range : PySem.W.nsIn K mainGlobals "range" = some none)
    (z_min : PySem.W.nsIn K mainGlobals "min" = some none)
    (z_sum : PySem.W.nsIn K mainGlobals "sum" = some none)
    (z_zip : PySem.W.nsIn K mainGlobals "zip" = some none)
    (z_repr : PySem.W.nsIn K mainGlobals "repr" = some none)
    (z_ValueError : PySem.W.nsIn K mainGlobals "ValueError" = some none)
    (v_V : PySem.W.findCls K (.type "ValueError") (.type "type") "__init__" = some (.val (.builtin "ValueError.__init__"))) :
    ∃ fd : FuncData, (∀ (s : Shared) (u : Value), BindsTo s fd ⟨[u], []⟩ [("script", u)]) ∧ ∀ base : Heap, K.In base → base.Ns mainGlobals mg → FnG P w K mg base CX0 8 fa fd ["script"] (spLaw K) := by
  have e := hfa.symm.trans (PySem.W.mg_of X G a_la)
  cases e
  have F_iN := fun_mk (st := sNum) l_iN c_iN k_iN
  have b_iN := F_iN.binds (ps := ["thing", "many"]) fun _ _ _ _ _ _ us hl => match us, hl with | [_, _], _ => rfl
  have m_iN := PySem.W.mg_of X G a_iN
  have F_iP := fun_mk (st := sPc) l_iP c_iP k_iP
  have b_iP := F_iP.binds (ps := ["thing"]) fun _ _ _ _ _ _ us hl => match us, hl with | [_], _ => rfl
  have m_iP := PySem.W.mg_of X G a_iP
  have F_iS := fun_mk (st := sStep) l_iS c_iS k_iS
  have b_iS := F_iS.binds (ps := ["thing"]) fun _ _ _ _ _ _ us hl => match us, hl with | [_], _ => rfl
  have m_iS := PySem.W.mg_of X G a_iS
  have F_iL := fun_mk (st := sListed) l_iL c_iL k_iL
  have b_iL := F_iL.binds (ps := ["framing"]) fun _ _ _ _ _ _ us hl => match us, hl with | [_], _ => rfl
  have m_iL := PySem.W.mg_of X G a_iL
  have F_iW := fun_mk (st := sWays) l_iW c_iW k_iW
  have b_iW := F_iW.binds (ps := ["framing", "begin"]) fun _ _ _ _ _ _ us hl => match us, hl with | [_, _], _ => rfl
  have m_iW := PySem.W.mg_of X G a_iW
  have F_iJ := fun_mk (st := sJoined) l_iJ c_iJ k_iJ
  have b_iJ := F_iJ.binds (ps := ["framing"]) fun _ _ _ _ _ _ us hl => match us, hl with | [_], _ => rfl
  have m_iJ := PySem.W.mg_of X G a_iJ
  have F_iF := fun_mk (st := sNeedF) l_iF c_iF k_iF
  have b_iF := F_iF.binds (ps := ["thing"]) fun _ _ _ _ _ _ us hl => match us, hl with | [_], _ => rfl
  have m_iF := PySem.W.mg_of X G a_iF
  have F_fO := fun_mk (st := sFol) l_fO c_fO k_fO
  have b_fO := F_fO.binds (ps := ["framing", "numbers"]) fun _ _ _ _ _ _ us hl => match us, hl with | [_, _], _ => rfl
  have m_fO := PySem.W.mg_of X G a_fO
  have F_fL := fun_mk (st := sLine) l_fL c_fL k_fL
  have b_fL := F_fL.binds (ps := ["framing", "thing"]) fun _ _ _ _ _ _ us hl => match us, hl with | [_, _], _ => rfl
  have m_fL := PySem.W.mg_of X G a_fL
  have F_wE := fun_mk (st := sEntry) l_wE c_wE k_wE
  have b_wE := F_wE.binds (ps := ["framing", "thing", "many"]) fun _ _ _ _ _ _ us hl => match us, hl with | [_, _, _], _ => rfl
  have m_wE := PySem.W.mg_of X G a_wE
  have F_wR := fun_mk (st := sWrong) l_wR c_wR k_wR
  have b_wR := F_wR.binds (ps := ["framing", "things", "begin"]) fun _ _ _ _ _ _ us hl => match us, hl with | [_, _, _], _ => rfl
  have m_wR := PySem.W.mg_of X G a_wR
  have F_wN := fun_mk (st := sNeedW) l_wN c_wN k_wN
  have b_wN := F_wN.binds (ps := ["framing", "thing"]) fun _ _ _ _ _ _ us hl => match us, hl with | [_, _], _ => rfl
  have m_wN := PySem.W.mg_of X G a_wN
  have F_rP := fun_mk (st := sPlaces) l_rP c_rP k_rP
  have b_rP := F_rP.binds (ps := ["framing", "entries"]) fun _ _ _ _ _ _ us hl => match us, hl with | [_, _], _ => rfl
  have m_rP := PySem.W.mg_of X G a_rP
  have F_rL := fun_mk (st := sRead) l_rL c_rL k_rL
  have b_rL := F_rL.binds (ps := ["framing", "weaving"]) fun _ _ _ _ _ _ us hl => match us, hl with | [_, _], _ => rfl
  have m_rL := PySem.W.mg_of X G a_rL
  have F_rI := fun_mk (st := sIsRead) l_rI c_rI k_rI
  have b_rI := F_rI.binds (ps := ["framing", "thing"]) fun _ _ _ _ _ _ us hl => match us, hl with | [_, _], _ => rfl
  have m_rI := PySem.W.mg_of X G a_rI
  have F_rW := fun_mk (st := sIsWhole) l_rW c_rW k_rW
  have b_rW := F_rW.binds (ps := ["framing", "entries"]) fun _ _ _ _ _ _ us hl => match us, hl with | [_, _], _ => rfl
  have m_rW := PySem.W.mg_of X G a_rW
  have F_uS := fun_mk (st := sScore) l_uS c_uS k_uS
  have b_uS := F_uS.binds (ps := ["framing", "thing"]) fun _ _ _ _ _ _ us hl => match us, hl with | [_, _], _ => rfl
  have m_uS := PySem.W.mg_of X G a_uS
  have F_uN := fun_mk (st := sNeedS) l_uN c_uN k_uN
  have b_uN := F_uN.binds (ps := ["framing", "thing"]) fun _ _ _ _ _ _ us hl => match us, hl with | [_, _], _ => rfl
  have m_uN := PySem.W.mg_of X G a_uN
  have F_uO := fun_mk (st := sOrd) l_uO c_uO k_uO
  have b_uO := F_uO.binds (ps := ["sizes"]) fun _ _ _ _ _ _ us hl => match us, hl with | [_], _ => rfl
  have m_uO := PySem.W.mg_of X G a_uO
  have F_uT := fun_mk (st := sSteps) l_uT c_uT k_uT
  have b_uT := F_uT.binds (ps := ["score"]) fun _ _ _ _ _ _ us hl => match us, hl with | [_], _ => rfl
  have m_uT := PySem.W.mg_of X G a_uT
  have F_uC := fun_mk (st := sCount) l_uC c_uC k_uC
  have b_uC := F_uC.binds (ps := ["framing", "score"]) fun _ _ _ _ _ _ us hl => match us, hl with | [_, _], _ => rfl
  have m_uC := PySem.W.mg_of X G a_uC
  have F_uD := fun_mk (st := sClean) l_uD c_uD k_uD
  have b_uD := F_uD.binds (ps := ["framing", "score"]) fun _ _ _ _ _ _ us hl => match us, hl with | [_, _], _ => rfl
  have m_uD := PySem.W.mg_of X G a_uD
  have F_uL := fun_mk (st := sLess) l_uL c_uL k_uL
  have b_uL := F_uL.binds (ps := ["sizes", "writer"]) fun _ _ _ _ _ _ us hl => match us, hl with | [_, _], _ => rfl
  have m_uL := PySem.W.mg_of X G a_uL
  have F_uW := fun_mk (st := sOW) l_uW c_uW k_uW
  have b_uW := F_uW.binds (ps := ["sizes", "writer"]) fun _ _ _ _ _ _ us hl => match us, hl with | [_, _], _ => rfl
  have m_uW := PySem.W.mg_of X G a_uW
  have F_uA := fun_mk (st := sAt) l_uA c_uA k_uA
  have b_uA := F_uA.binds (ps := ["framing", "score", "number"]) fun _ _ _ _ _ _ us hl => match us, hl with | [_, _, _], _ => rfl
  have m_uA := PySem.W.mg_of X G a_uA
  have F_uF := fun_mk (st := sOf) l_uF c_uF k_uF
  have b_uF := F_uF.binds (ps := ["score", "weaving"]) fun _ _ _ _ _ _ us hl => match us, hl with | [_, _], _ => rfl
  have m_uF := PySem.W.mg_of X G a_uF
  have F_uR := fun_mk (st := sNr) l_uR c_uR k_uR
  have b_uR := F_uR.binds (ps := ["framing", "score", "weaving"]) fun _ _ _ _ _ _ us hl => match us, hl with | [_, _, _], _ => rfl
  have m_uR := PySem.W.mg_of X G a_uR
  have F_uI := fun_mk (st := sIsClean) l_uI c_uI k_uI
  have b_uI := F_uI.binds (ps := ["framing", "weaving"]) fun _ _ _ _ _ _ us hl => match us, hl with | [_, _], _ => rfl
  have m_uI := PySem.W.mg_of X G a_uI
  have F_ms := fun_mk (st := sMsg) l_ms c_ms k_ms
  have b_ms := F_ms.binds (ps := ["text"]) fun _ _ _ _ _ _ us hl => match us, hl with | [_], _ => rfl
  have m_ms := PySem.W.mg_of X G a_ms
  have F_lB := fun_mk (st := sBegun) l_lB c_lB k_lB
  have b_lB := F_lB.binds (ps := ["script"]) fun _ _ _ _ _ _ us hl => match us, hl with | [_], _ => rfl
  have m_lB := PySem.W.mg_of X G a_lB
  have F_lN := fun_mk (st := sNext) l_lN c_lN k_lN
  have b_lN := F_lN.binds (ps := ["m", "total"]) fun _ _ _ _ _ _ us hl => match us, hl with | [_, _], _ => rfl
  have m_lN := PySem.W.mg_of X G a_lN
  have F_lP := fun_mk (st := sPiece) l_lP c_lP k_lP
  have b_lP := F_lP.binds (ps := ["m", "last"]) fun _ _ _ _ _ _ us hl => match us, hl with | [_, _], _ => rfl
  have m_lP := PySem.W.mg_of X G a_lP
  have F_lF := fun_mk (st := sFraming) l_lF c_lF k_lF
  have b_lF := F_lF.binds (ps := ["m", "most"]) fun _ _ _ _ _ _ us hl => match us, hl with | [_, _], _ => rfl
  have m_lF := PySem.W.mg_of X G a_lF
  have F_lG := fun_mk (st := sFrom) l_lG c_lG k_lG
  have b_lG := F_lG.binds (ps := ["framing", "here"]) fun _ _ _ _ _ _ us hl => match us, hl with | [_, _], _ => rfl
  have m_lG := PySem.W.mg_of X G a_lG
  have F_lA := fun_mk (st := sFlat) l_lA c_lA k_lA
  have b_lA := F_lA.binds (ps := ["part"]) fun _ _ _ _ _ _ us hl => match us, hl with | [_], _ => rfl
  have m_lA := PySem.W.mg_of X G a_lA
  have F_lY := fun_mk (st := sByO) l_lY c_lY k_lY
  have b_lY := F_lY.binds (ps := ["score", "row"]) fun _ _ _ _ _ _ us hl => match us, hl with | [_, _], _ => rfl
  have m_lY := PySem.W.mg_of X G a_lY
  have F_lC := fun_mk (st := sSc) l_lC c_lC k_lC
  have b_lC := F_lC.binds (ps := ["m", "framing", "writers", "most"]) fun _ _ _ _ _ _ us hl => match us, hl with | [_, _, _, _], _ => rfl
  have m_lC := PySem.W.mg_of X G a_lC
  have F_lH := fun_mk (st := sHome) l_lH c_lH k_lH
  have b_lH := F_lH.binds (ps := ["framing", "here"]) fun _ _ _ _ _ _ us hl => match us, hl with | [_, _], _ => rfl
  have m_lH := PySem.W.mg_of X G a_lH
  have F_lM := fun_mk (st := sMany) l_lM c_lM k_lM
  have b_lM := F_lM.binds (ps := ["counts"]) fun _ _ _ _ _ _ us hl => match us, hl with | [_], _ => rfl
  have m_lM := PySem.W.mg_of X G a_lM
  have F_la := fun_mk (st := sLaw) l_la c_la k_la
  have b_la := F_la.binds (ps := ["script"]) fun _ _ _ _ _ _ us hl => match us, hl with | [_], _ => rfl
  have m_la := PySem.W.mg_of X G a_la
  have F_ini := fun_mk (st := sBadWeaving) l_ini c_ini k_ini
  have b_ini := F_ini.binds (ps := ["self", "number"]) fun _ _ _ _ _ _ us hl => match us, hl with | [_, _], _ => rfl
  have F_ino := fun_mk (st := sOutOfPlace) l_ino c_ino k_ino
  have b_ino := F_ino.binds (ps := ["self", "text"]) fun _ _ _ _ _ _ us hl => match us, hl with | [_, _], _ => rfl
  have y_isinstance := PySem.W.mg_none_of X G z_isinstance
  have y_int := PySem.W.mg_none_of X G z_int
  have y_bool := PySem.W.mg_none_of X G z_bool
  have y_str := PySem.W.mg_none_of X G z_str
  have y_tuple := PySem.W.mg_none_of X G z_tuple
  have y_len := PySem.W.mg_none_of X G z_len
  have y_all := PySem.W.mg_none_of X G z_all
  have y_sorted := PySem.W.mg_none_of X G z_sorted
  have y_enumerate := PySem.W.mg_none_of X G z_enumerate
  have y_list := PySem.W.mg_none_of X G z_list
  have y_range := PySem.W.mg_none_of X G z_range
  have y_min := PySem.W.mg_none_of X G z_min
  have y_sum := PySem.W.mg_none_of X G z_sum
  have y_zip := PySem.W.mg_none_of X G z_zip
  have y_repr := PySem.W.mg_none_of X G z_repr
  have y_ValueError := PySem.W.mg_none_of X G z_ValueError
  have x_vS := PySem.W.mg_of X G g_vS
  have x_vM := PySem.W.mg_of X G g_vM
  have x_vT := PySem.W.mg_of X G g_vT
  have x_vD := PySem.W.mg_of X G g_vD
  have x_vK := PySem.W.mg_of X G g_vK
  have x_vE := PySem.W.mg_of X G g_vE
  have x_vC := PySem.W.mg_of X G g_vC
  have TF : TxtF mg := ⟨y_isinstance, y_int, y_bool, y_str, y_tuple, y_len, y_all, ⟨_, x_vS⟩, ⟨_, x_vM⟩, ⟨_, x_vD⟩⟩
  have TD : TxtD mg := ⟨y_list, y_int, y_len⟩
  have IV : BI K mg "ValueError" "ValueError" "ValueError.__init__" := ⟨y_ValueError, by decide +kernel, by kernel_rfl, v_V, by decide +kernel⟩
  have TM : TxtM mg := ⟨y_isinstance, y_str⟩
  let zF : Fs K mg := { fN := f_iN, dN := _, N := F_iN, bN := b_iN, mN := m_iN, fP := f_iP, dP := _, P := F_iP, bP := b_iP, mP := m_iP, fS := f_iS, dS := _, S := F_iS, bS := b_iS, mS := m_iS, fL := f_iL, dL := _, L := F_iL, bL := b_iL, mL := m_iL, fW := f_iW, dW := _, W := F_iW, bW := b_iW, mW := m_iW, fJ := f_iJ, dJ := _, J := F_iJ, bJ := b_iJ, mJ := m_iJ, fF := f_iF, dF := _, F := F_iF, bF := b_iF, mF := m_iF, T := TF, so := y_sorted, en := y_enumerate, ms := ⟨_, x_vT⟩ }
  let zW : Ws K mg := { Z := zF, fE := f_wE, dE := _, E := F_wE, bE := b_wE, mE := m_wE, fR := f_wR, dR := _, R := F_wR, bR := b_wR, mR := m_wR, fW := f_wN, dW := _, W := F_wN, bW := b_wN, mW := m_wN, marks := ⟨_, x_vK⟩, most := ⟨_, x_vE⟩ }
  let zO : Oop K mg := { C := D, f := f_ino, d := _, fM := f_ms, dM := _, T := OXD, I := IV, F := F_ino, b := b_ino, FM := F_ms, bM := b_ms, mM := m_ms, TM := TM, m := PySem.W.mg_of X G aD, iC := iCD, tI := tID, su := suD, ty := tyD }
  let zB : Bwv K mg := { C := C, f := f_ini, d := _, T := OXC, I := IV, F := F_ini, b := b_ini, m := PySem.W.mg_of X G aC, iC := iCC, tI := tIC, n0 := n0, su := suC, ty := tyC }
  let zg : Wg K mg := { Y := zW, B := zB }
  let zln : Ln K mg := { W := zg, fO := f_fO, fL := f_fL, dO := _, dL := _, O := F_fO, L := F_fL, bO := b_fO, bL := b_fL, mO := m_fO, mL := m_fL }
  let zsr : Sr K mg := { L := zln, f := f_uS, d := _, F := F_uS, b := b_uS, m := m_uS, marks := ⟨_, x_vK⟩, most := ⟨_, x_vC⟩ }
  let zns : Ns K mg := { S := zsr, O := zO, f := f_uN, d := _, F := F_uN, b := b_uN, m := m_uN }
  let zod : Od K mg := { f := f_uO, d := _, F := F_uO, b := b_uO, m := m_uO, ra := y_range }
  let zst : St5 K mg := { f := f_uT, d := _, F := F_uT, b := b_uT, m := m_uT }
  let zct : Ct K mg := { N := zns, O := zod, S := zst, f1 := f_uC, f2 := f_uD, f3 := f_uL, f4 := f_uW, d1 := _, d2 := _, d3 := _, d4 := _, C := F_uC, D := F_uD, L := F_uL, W := F_uW, b1 := b_uC, b2 := b_uD, b3 := b_uL, b4 := b_uW, m1 := m_uC, m2 := m_uD, m3 := m_uL, m4 := m_uW }
  let zat : At4 K mg := { C := zct, f := f_uA, d := _, F := F_uA, b := b_uA, m := m_uA, su := y_sum, tu := y_tuple }
  let zof : Of4 K mg := { S := zst, T := TF, en := y_enumerate, f := f_uF, d := _, F := F_uF, b := b_uF, m := m_uF }
  let znr : Nr K mg := { A := zat, O := zof, f := f_uR, d := _, F := F_uR, b := b_uR, m := m_uR, ra := y_range }
  let zps : Ps K mg := { Y := zW, fL := f_rP, dL := _, L := F_rP, bL := b_rP, mL := m_rP }
  let zqs : Qs K mg := { U := zps, fR := f_rL, dR := _, R := F_rL, bR := b_rL, mR := m_rL, zip := y_zip }
  let zhs : Hs K mg := { G := zqs, O := zO, f1 := f_rI, d1 := _, f2 := f_rW, d2 := _, R := F_rI, W := F_rW, bR := b_rI, bW := b_rW, mR := m_rI, mW := m_rW }
  let zic : Ic K mg := { S := zhs, f := f_uI, d := _, F := F_uI, b := b_uI, m := m_uI, tu := y_tuple }
  let zmn : Mn K mg := { su := y_sum, ra := y_range, f := f_lM, d := _, F := F_lM, b := b_lM, m := m_lM }
  let zlk : Lk K mg := { su := y_sum, li := y_list, f1 := f_lA, d1 := _, F := F_lA, b1 := b_lA, m1 := m_lA }
  let zbo : Bo K mg := { L := zlk, tu := y_tuple, f := f_lY, d := _, F := F_lY, b := b_lY, m := m_lY }
  let zL : Ls K mg := { f1 := f_lN, d1 := _, N := F_lN, bN := b_lN, mN := m_lN, T := TD, ra := y_range, f2 := f_lP, d2 := _, P := F_lP, bP := b_lP, mP := m_lP }
  let zG : Lf K mg := { L := zL, f := f_lF, d := _, F := F_lF, b := b_lF, g := m_lF, so := y_sorted, tu := y_tuple, en := y_enumerate }
  let zV : Lw K mg := { G := zG, f1 := f_lG, d1 := _, F := F_lG, bF := b_lG, gF := m_lG }
  let zhm : Hm K mg := { G := zV, f := f_lH, d := _, F := F_lH, b := b_lH, m := m_lH }
  let zsc : Sc9 K mg := { M := zhm, f := f_lC, d := _, F := F_lC, b := b_lC, m := m_lC }
  let zA : Lall K mg := { R := znr, I := zic, M := zmn, B := zbo, S := zsc, fB := f_lB, dB := _, Be := F_lB, bB := b_lB, mB := m_lB, mi := y_min, re := y_repr, so := y_sorted }
  exact ⟨PySem.W.fnOf "law" "law" (defArgs sLaw) (defBody sLaw) (defScope sLaw) .none kV_la dc_la pm_la an_la cd_la ct_la, fun s u => .of_eq rfl, fun base _ _ => ok_law zA F_la⟩
theorem walk {l : PySem.W.OpenLaw} {q : Program} {loose : List Str} {XP : (Str → Option Value) → Heap → Prop} {YP : World → Heap → Prop} {d : DefRec} {K : Params → PySem.W.Frag} (hn : l.most = some 63) (hdf : d.params.defaults = [])
    (hY : ∀ (w : World) (h : Heap), YP w h → (K w.params).In h)
    (F : ∀ (w : World) (mg : Str → Option Value) (fa : Addr) (h : Heap), (K w.params).In h → h.Ns mainGlobals mg → mg d.name = some (.ref fa) →
      ∃ fd : FuncData, (∀ (s : Shared) (u : Value), BindsTo s fd ⟨[u], []⟩ [("script", u)]) ∧ ∀ base : Heap, (K w.params).In base → base.Ns mainGlobals mg → FnG l.prog w (K w.params) mg base CX0 8 fa fd ["script"] (spLaw (K w.params))) :
    PySem.W.WalkO q loose XP YP l.row.toRowW d [] (fun f vs => PySem.call f vs) :=
  walk_ofG (n := 63) (k := 8) (x := "script") (sp := spLaw) hn (by decide) hdf ⟨rfl, by decide, by decide⟩ hY F (fun _ _ a ns hl _ hS => ⟨a, ns, rfl, hS, hl, fun _ => rfl⟩)
end K39

set_option Elab.async false
set_option maxRecDepth 100000
open PySem PySem.W PyProof.Rows
set_option maxRecDepth 100000 in
set_option maxHeartbeats 0 in
theorem PySem.Challenge.cw_tornlines_k39_whole_great_scores_holds : PySem.Challenge.rw_tornlines_k39_whole_great_scores.Holds := by
  w_on; o_law; k_head; (case hw => w_witness2)
  k_fill
  refine K39.walk (l := PySem.Challenge.rw_tornlines_k39_whole_great_scores) rfl rfl (fun w h Y => by first | exact PySem.W.kIn_of Y | exact PySem.W.km_in_of Y) ?F
  case F =>
    intro w mg fa h KX G hmg
    refine' K39.all_mk KX G hmg ?a_iN ?l_iN ?c_iN ?k_iN ?a_iP ?l_iP ?c_iP ?k_iP ?a_iS ?l_iS ?c_iS ?k_iS ?a_iL ?l_iL ?c_iL ?k_iL ?a_iW ?l_iW ?c_iW ?k_iW ?a_iJ ?l_iJ ?c_iJ ?k_iJ ?a_iF ?l_iF ?c_iF ?k_iF ?a_fO ?l_fO ?c_fO ?k_fO ?a_fL ?l_fL ?c_fL ?k_fL ?a_wE ?l_wE ?c_wE ?k_wE ?a_wR ?l_wR ?c_wR ?k_wR ?a_wN ?l_wN ?c_wN ?k_wN ?a_rP ?l_rP ?c_rP ?k_rP ?a_rL ?l_rL ?c_rL ?k_rL ?a_rI ?l_rI ?c_rI ?k_rI ?a_rW ?l_rW ?c_rW ?k_rW ?a_uS ?l_uS ?c_uS ?k_uS ?a_uN ?l_uN ?c_uN ?k_uN ?a_uO ?l_uO ?c_uO ?k_uO ?a_uT ?l_uT ?c_uT ?k_uT ?a_uC ?l_uC ?c_uC ?k_uC ?a_uD ?l_uD ?c_uD ?k_uD ?a_uL ?l_uL ?c_uL ?k_uL ?a_uW ?l_uW ?c_uW ?k_uW ?a_uA ?l_uA ?c_uA ?k_uA ?a_uF ?l_uF ?c_uF ?k_uF ?a_uR ?l_uR ?c_uR ?k_uR ?a_uI ?l_uI ?c_uI ?k_uI ?a_ms ?l_ms ?c_ms ?k_ms ?a_lB ?l_lB ?c_lB ?k_lB ?a_lN ?l_lN ?c_lN ?k_lN ?a_lP ?l_lP ?c_lP ?k_lP ?a_lF ?l_lF ?c_lF ?k_lF ?a_lG ?l_lG ?c_lG ?k_lG ?a_lA ?l_lA ?c_lA ?k_lA ?a_lY ?l_lY ?c_lY ?k_lY ?a_lC ?l_lC ?c_lC ?k_lC ?a_lH ?l_lH ?c_lH ?k_lH ?a_lM ?l_lM ?c_lM ?k_lM ?a_la ?l_la ?c_la ?k_la ?aC ?OXC ?iCC ?tIC ?n0 ?l_ini ?c_ini ?k_ini ?suC ?tyC ?aD ?OXD ?iCD ?tID ?l_ino ?c_ino ?k_ino ?suD ?tyD ?g_vS ?g_vM ?g_vT ?g_vD ?g_vK ?g_vE ?g_vC ?z_isinstance ?z_int ?z_bool ?z_str ?z_tuple ?z_len ?z_all ?z_sorted ?z_enumerate ?z_list ?z_range ?z_min ?z_sum ?z_zip ?z_repr ?z_ValueError ?v_V
    (case a_iN => k_is)
    (case l_iN => k_is)
    (case c_iN => k_is)
    (case k_iN => k_is)
    (case a_iP => k_is)
    (case l_iP => k_is)
    (case c_iP => k_is)
    (case k_iP => k_is)
    (case a_iS => k_is)
    (case l_iS => k_is)
    (case c_iS => k_is)
    (case k_iS => k_is)
    (case a_iL => k_is)
    (case l_iL => k_is)
    (case c_iL => k_is)
    (case k_iL => k_is)
    (case a_iW => k_is)
    (case l_iW => k_is)
    (case c_iW => k_is)
    (case k_iW => k_is)
    (case a_iJ => k_is)
    (case l_iJ => k_is)
    (case c_iJ => k_is)
    (case k_iJ => k_is)
    (case a_iF => k_is)
    (case l_iF => k_is)
    (case c_iF => k_is)
    (case k_iF => k_is)
    (case a_fO => k_is)
    (case l_fO => k_is)
    (case c_fO => k_is)
    (case k_fO => k_is)
    (case a_fL => k_is)
    (case l_fL => k_is)
    (case c_fL => k_is)
    (case k_fL => k_is)
    (case a_wE => k_is)
    (case l_wE => k_is)
    (case c_wE => k_is)
    (case k_wE => k_is)
    (case a_wR => k_is)
    (case l_wR => k_is)
    (case c_wR => k_is)
    (case k_wR => k_is)
    (case a_wN => k_is)
    (case l_wN => k_is)
    (case c_wN => k_is)
    (case k_wN => k_is)
    (case a_rP => k_is)
    (case l_rP => k_is)
    (case c_rP => k_is)
    (case k_rP => k_is)
    (case a_rL => k_is)
    (case l_rL => k_is)
    (case c_rL => k_is)
    (case k_rL => k_is)
    (case a_rI => k_is)
    (case l_rI => k_is)
    (case c_rI => k_is)
    (case k_rI => k_is)
    (case a_rW => k_is)
    (case l_rW => k_is)
    (case c_rW => k_is)
    (case k_rW => k_is)
    (case a_uS => k_is)
    (case l_uS => k_is)
    (case c_uS => k_is)
    (case k_uS => k_is)
    (case a_uN => k_is)
    (case l_uN => k_is)
    (case c_uN => k_is)
    (case k_uN => k_is)
    (case a_uO => k_is)
    (case l_uO => k_is)
    (case c_uO => k_is)
    (case k_uO => k_is)
    (case a_uT => k_is)
    (case l_uT => k_is)
    (case c_uT => k_is)
    (case k_uT => k_is)
    (case a_uC => k_is)
    (case l_uC => k_is)
    (case c_uC => k_is)
    (case k_uC => k_is)
    (case a_uD => k_is)
    (case l_uD => k_is)
    (case c_uD => k_is)
    (case k_uD => k_is)
    (case a_uL => k_is)
    (case l_uL => k_is)
    (case c_uL => k_is)
    (case k_uL => k_is)
    (case a_uW => k_is)
    (case l_uW => k_is)
    (case c_uW => k_is)
    (case k_uW => k_is)
    (case a_uA => k_is)
    (case l_uA => k_is)
    (case c_uA => k_is)
    (case k_uA => k_is)
    (case a_uF => k_is)
    (case l_uF => k_is)
    (case c_uF => k_is)
    (case k_uF => k_is)
    (case a_uR => k_is)
    (case l_uR => k_is)
    (case c_uR => k_is)
    (case k_uR => k_is)
    (case a_uI => k_is)
    (case l_uI => k_is)
    (case c_uI => k_is)
    (case k_uI => k_is)
    (case a_ms => k_is)
    (case l_ms => k_is)
    (case c_ms => k_is)
    (case k_ms => k_is)
    (case a_lB => k_is)
    (case l_lB => k_is)
    (case c_lB => k_is)
    (case k_lB => k_is)
    (case a_lN => k_is)
    (case l_lN => k_is)
    (case c_lN => k_is)
    (case k_lN => k_is)
    (case a_lP => k_is)
    (case l_lP => k_is)
    (case c_lP => k_is)
    (case k_lP => k_is)
    (case a_lF => k_is)
    (case l_lF => k_is)
    (case c_lF => k_is)
    (case k_lF => k_is)
    (case a_lG => k_is)
    (case l_lG => k_is)
    (case c_lG => k_is)
    (case k_lG => k_is)
    (case a_lA => k_is)
    (case l_lA => k_is)
    (case c_lA => k_is)
    (case k_lA => k_is)
    (case a_lY => k_is)
    (case l_lY => k_is)
    (case c_lY => k_is)
    (case k_lY => k_is)
    (case a_lC => k_is)
    (case l_lC => k_is)
    (case c_lC => k_is)
    (case k_lC => k_is)
    (case a_lH => k_is)
    (case l_lH => k_is)
    (case c_lH => k_is)
    (case k_lH => k_is)
    (case a_lM => k_is)
    (case l_lM => k_is)
    (case c_lM => k_is)
    (case k_lM => k_is)
    (case a_la => k_is)
    (case l_la => k_is)
    (case c_la => k_is)
    (case k_la => k_is)
    (case aC => k_is)
    case OXC =>
      refine' K39.oxc ?cl PySem.F.excBase_ValueError (fun self => PySem.F.store_ValueError.passes self) (by decide +kernel) ?sa ?ga ?gg ?exC ?kC ?hd ?ca ?cn ?ct ?om
      (case cl => k_is)
      (case sa => k_is)
      (case ga => k_is)
      (case gg => k_is)
      (case exC => k_is)
      (case kC => k_is)
      (case hd => k_is)
      (case ca => k_is)
      (case cn => k_is)
      (case ct => k_is)
      (case om => k_is)
    (case iCC => k_is)
    (case tIC => k_is)
    (case n0 => k_is)
    (case l_ini => k_is)
    (case c_ini => k_is)
    (case k_ini => k_is)
    (case suC => k_is)
    (case tyC => k_is)
    (case aD => k_is)
    case OXD =>
      refine' K39.oxc ?cl PySem.F.excBase_ValueError (fun self => PySem.F.store_ValueError.passes self) (by decide +kernel) ?sa ?ga ?gg ?exC ?kC ?hd ?ca ?cn ?ct ?om
      (case cl => k_is)
      (case sa => k_is)
      (case ga => k_is)
      (case gg => k_is)
      (case exC => k_is)
      (case kC => k_is)
      (case hd => k_is)
      (case ca => k_is)
      (case cn => k_is)
      (case ct => k_is)
      (case om => k_is)
    (case iCD => k_is)
    (case tID => k_is)
    (case l_ino => k_is)
    (case c_ino => k_is)
    (case k_ino => k_is)
    (case suD => k_is)
    (case tyD => k_is)
    (case g_vS => k_is)
    (case g_vM => k_is)
    (case g_vT => k_is)
    (case g_vD => k_is)
    (case g_vK => k_is)
    (case g_vE => k_is)
    (case g_vC => k_is)
    (case z_isinstance => k_is)
    (case z_int => k_is)
    (case z_bool => k_is)
    (case z_str => k_is)
    (case z_tuple => k_is)
    (case z_len => k_is)
    (case z_all => k_is)
    (case z_sorted => k_is)
    (case z_enumerate => k_is)
    (case z_list => k_is)
    (case z_range => k_is)
    (case z_min => k_is)
    (case z_sum => k_is)
    (case z_zip => k_is)
    (case z_repr => k_is)
    (case z_ValueError => k_is)
    (case v_V => k_is)
#print axioms PySem.Challenge.cw_tornlines_k39_whole_great_scores_holds
