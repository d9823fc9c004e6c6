import PyProof.Rows.All
import Wide.All
import OpenK.AllK
import Wide.FinOn
import KE.KExcInit
import KE.KExcIs
import HandS.ForMost
import HandS.Exc
import HandS.ExcInit
import HandS.Defaults
import HandS.IsInst
import HandS.Conv
import HandS.Small
import HandS.SortRule
import HandS.TupLe
import HandS.NamedTupSort
import PyProof.Rows.SortKeyStr
import PyProof.FString5
import HandS.StrMore
import HandS.Walk
import PyProof.Rows.StrLen
import PyProof.StrLawsAffix
import HandS.Set
import HandS.Strs
import HandS.SetBool
import KE.GoesMore
import HandS.TupAny
import HandS.Deep
import HandS.TryMany
import HandS.ExcValue
import HandS.ExcOwn
import HandS.ExcField
import HandS.WordsExc
import HandS.ReplaceLit
import HandS.ReplaceList
import PyProof.ReprRoads
import HandS.TupMul
import HandS.Style
import PySem.Challenge.RW_tornlines_k41_whole_turned_files
set_option Elab.async false
set_option linter.all false
set_option maxRecDepth 100000
set_option maxHeartbeats 4000000
/-! Own exception classes over any built-in base: made with positional or keyword arguments, kept as values, their fields read, asked by isinstance. -/
namespace EV
open PySem PySem.W PySem.Calls PyProof.Rows PySem.HandSPX
open Builtin Builtin.ObjectAttr
section
variable {prog : Program} {w : World} {A : Around} {E : Value → Shared → Prop} {R : Result → Shared → Prop}
variable {hp : Heap} {g : Array GenState} {d : Drawn} {t : Nat} {os : OsState}
/-- an exception's first field, whatever its base -/
theorem put_first {K : W.Frag} {nm : Str} {tk : Tok} {v : Value} {x C : Addr} {fv : Array Value} {cd : ClassData}
    (X : K.In hp) (hx : hp.get? x = some { cls := .ref C, data := .fields fv }) (hcd : W.clsIn K C = some cd)
    (pas : refuseLoop (.ref x) "__setattr__" cd.mro = pure ()) (hob : cd.mro.contains (.type "object") = true) (hne : cd.mro.isEmpty = false)
    (hh : cd.hasDict = true) (ha : W.findIn K (.ref C) nm = some none)
    (hq : ∀ h' tk' dx, (∀ b o, b ≠ x → hp.get? b = some o → h'.get? b = some o) → hp.objs.size ≤ dx → dx ≠ x →
      h'.get? x = some { cls := .ref C, dict := some dx, data := .fields fv } → h'.Ns1 dx (fun y => if y = nm then some v else none) →
      R (.ok (.ret .none)) ⟨h', g, d, tk', os⟩) :
    codeAny (model prog w) A (.call (.builtin "object.__setattr__") ⟨[.ref x, .str nm tk, v], []⟩) R ⟨hp, g, d, t, os⟩ := by
  have J : W.InstAt hp x { cls := .ref C, data := .fields fv } C none := ⟨hx, rfl, rfl, trivial⟩
  have hxs : x ≠ hp.objs.size := Nat.ne_of_lt (Heap.lt_size hx)
  have isO : W.Looks (model prog w) hp (isInstance (.ref x) (.type "object")) true :=
    J.type.andThen (W.looks_mroIn X (by unfold W.mroIn; rw [hcd, Option.bind_some, if_neg (by rw [hne]; decide), hob]))
  refine codeAny_call_builtin F.store_object.slot.plain F.store_object.entry
    (@W.check_slot (model prog w) _ _ ⟨hp, g, d, t, os⟩ "object.__setattr__" "object" "__setattr__" (.ref x) [.str nm tk, v] [] _
      F.store_object.kind F.store_object.split isO (F.store_object.args (.ref x) (.str nm tk) v) ?_)
  have order : W.Looks (model prog w) hp (mroOf (.ref C)) cd.mro := (W.looks_clsIn X hcd).andThen .now
  have taker : W.Looks (model prog w) hp (storeTaker? none) none := .now
  have data : W.Looks (model prog w) hp (classData C) cd := W.looks_clsIn X hcd
  rw [W.osa_eq, refuse_eq]
  refine wpAny_bind (wpAny_bind (J.type.at (wpAny_bind (order.at ?_))))
  rw [pas]
  refine wpAny_pure (wpAny_bind (J.type.at (wpAny_bind ((W.looks_findIn X ha).at (wpAny_bind (taker.at ?_))))))
  show wpAny _ _ (storeInOwnDict (.ref x) (.ref C) (.str nm tk) nm v false) _ _ _
  obtain ⟨q1, q2, q3, q4, q5, q6, q7, q8, q9, q10, q11⟩ := cd
  dsimp only at hh
  subst hh
  unfold storeInOwnDict ownDictForStores
  repeat (first
    | with_reducible refine store_in_new ?_ ?_
    | with_reducible refine wpAny_loadPart_at hx ?_
    | with_reducible refine data.at ?_
    | wp_step)
  · exact ⟨_, #[], _, (Heap.get?_update_ne _ _ _ _ hxs.symm).trans (Heap.get?_push_at rfl rfl), rfl, fun e he => absurd he (by simp), fun _ => rfl⟩
  · intro h' tk' nsd same
    have hx1 : (hp.push { cls := .type "dict", data := .dict #[] }).get? x = some { cls := .ref C, data := .fields fv } := Heap.get?_push_of_some _ hx
    refine hq h' tk' hp.objs.size (fun b o nb q => ?_) (Nat.le_refl _) hxs.symm ?_ nsd
    · exact (same.2 b (Nat.ne_of_lt (Heap.lt_size q))).trans
        ((Heap.get?_update_ne _ _ _ _ nb).trans (Heap.get?_push_of_some _ q))
    · exact (same.2 x hxs).trans (Heap.get?_update_self _ hx1 rfl)
/-- a further field -/
theorem put_more {K : W.Frag} {nm : Str} {tk : Tok} {v : Value} {x C dx : Addr} {fv : Array Value} {cd : ClassData} {m0 : Str → Option Value} {nl : List Str}
    (X : K.In hp) (hx : hp.get? x = some { cls := .ref C, dict := some dx, data := .fields fv }) (nsd : hp.Ns1 dx m0) (wi : Within m0 nl) (hz : nl.length ≤ 1000)
    (hcd : W.clsIn K C = some cd) (pas : refuseLoop (.ref x) "__setattr__" cd.mro = pure ()) (hob : cd.mro.contains (.type "object") = true)
    (hne : cd.mro.isEmpty = false) (hh : cd.hasDict = true) (ha : W.findIn K (.ref C) nm = some none)
    (hq : ∀ h' tk', (∀ b o, b ≠ dx → hp.get? b = some o → h'.get? b = some o) → h'.Ns1 dx (fun y => if y = nm then some v else m0 y) →
      R (.ok (.ret .none)) ⟨h', g, d, tk', os⟩) :
    codeAny (model prog w) A (.call (.builtin "object.__setattr__") ⟨[.ref x, .str nm tk, v], []⟩) R ⟨hp, g, d, t, os⟩ := by
  obtain ⟨oD, _, _, hoD, _, _⟩ := nsd.count wi
  have J : W.InstAt hp x { cls := .ref C, dict := some dx, data := .fields fv } C (some oD) := ⟨hx, rfl, rfl, hoD⟩
  have isO : W.Looks (model prog w) hp (isInstance (.ref x) (.type "object")) true :=
    J.type.andThen (W.looks_mroIn X (by unfold W.mroIn; rw [hcd, Option.bind_some, if_neg (by rw [hne]; decide), hob]))
  refine codeAny_call_builtin F.store_object.slot.plain F.store_object.entry
    (@W.check_slot (model prog w) _ _ ⟨hp, g, d, t, os⟩ "object.__setattr__" "object" "__setattr__" (.ref x) [.str nm tk, v] [] _
      F.store_object.kind F.store_object.split isO (F.store_object.args (.ref x) (.str nm tk) v) ?_)
  have order : W.Looks (model prog w) hp (mroOf (.ref C)) cd.mro := (W.looks_clsIn X hcd).andThen .now
  have taker : W.Looks (model prog w) hp (storeTaker? none) none := .now
  have data : W.Looks (model prog w) hp (classData C) cd := W.looks_clsIn X hcd
  rw [W.osa_eq, refuse_eq]
  refine wpAny_bind (wpAny_bind (J.type.at (wpAny_bind (order.at ?_))))
  rw [pas]
  refine wpAny_pure (wpAny_bind (J.type.at (wpAny_bind ((W.looks_findIn X ha).at (wpAny_bind (taker.at ?_))))))
  show wpAny _ _ (storeInOwnDict (.ref x) (.ref C) (.str nm tk) nm v false) _ _ _
  obtain ⟨q1, q2, q3, q4, q5, q6, q7, q8, q9, q10, q11⟩ := cd
  dsimp only at hh
  subst hh
  unfold storeInOwnDict ownDictForStores
  repeat (first
    | with_reducible refine OEX.store_in_old nsd wi hz ?_
    | with_reducible refine wpAny_loadPart_at hx ?_
    | with_reducible refine data.at ?_
    | wp_step)
  intro h' tk' ns' same
  exact hq h' tk' (fun b o nb q => (same.2 b nb).trans q) ns'
end
/-! ### an own exception class called with keywords -/
section
variable {M : Model} {A : Around} {E : Value → Shared → Prop} {h : Heap} {g : Array GenState} {d : Drawn} {t : Nat} {os : OsState}
variable {nm q : Str} {C N : Addr} {bs bm : List Value} {hd : Bool} {sn : List Str} {sub : List Value} {ab : Bool} {col : Option Bool} {dd : Option Addr}
variable {k0 k1 k2 k3 k5 : Option Value} {B newId initId : String}
theorem check_newK (F : ExcBaseFacts B newId initId bm) {rest : List Value} {kw : List (Str × Value)} {Q : Unit → Shared → Prop}
    (hC : h.get? C = some (excClassObj nm q C N bs bm hd sn sub ab col dd k0 k1 k2 k3 k5 newId)) (hq : Q () ⟨h, g, d, t, os⟩) :
    wpAny M A (checkBuiltinCall newId ⟨.ref C :: rest, kw⟩) Q E ⟨h, g, d, t, os⟩ := by
  have hasIt : (Value.ref C :: bm).contains (.type B) = true := by rw [List.contains_cons, F.hasB, Bool.or_true]
  have star := F.noStar
  simp only [checkBuiltinCall, F.newKind, F.newSplit, F.newRow]
  repeat (first
    | refine wpAny_loadPart_at hC ?_
    | (refine wpAny_isSubtype_exc hC ?_; rw [hasIt])
    | refine wpAny_staticBase_exc hC ?_
    | refine wpAny_madeBy_exc hC ?_
    | simp only [bne_self_eq_false, Bool.false_eq_true, if_false]
    | wp_step)
  exact hq
end
section
variable {prog : Program} {w : World} {A : Around} {E : Value → Shared → Prop} {R : Result → Shared → Prop}
variable {h : Heap} {g : Array GenState} {d : Drawn} {t : Nat} {os : OsState}
variable {nm q : Str} {C N : Addr} {bs bm : List Value} {hd : Bool} {sn : List Str} {sub : List Value} {ab : Bool} {col : Option Bool} {dd : Option Addr}
variable {k0 k1 k2 k3 k5 : Option Value} {B newId initId : String}
theorem newK (F : ExcBaseFacts B newId initId bm) {rest : List Value} {kw : List (Str × Value)}
    (hC : h.get? C = some (excClassObj nm q C N bs bm hd sn sub ab col dd k0 k1 k2 k3 k5 newId))
    (hq : R (.ok (.ret (.ref (h.objs.size + 1)))) ⟨(h.push (W.kdv_tup rest)).push (excO C h.objs.size), g, d, t, os⟩) (hrest : rest.length ≤ sizeLine) :
    codeAny (model prog w) A (.builtin newId ⟨.ref C :: rest, kw⟩) R ⟨h, g, d, t, os⟩ := by
  have ends := F.ends
  have b1 : (Value.ref C :: bm).contains (.type B) = true := by rw [List.contains_cons, F.hasB, Bool.or_true]
  have b2 : (Value.ref C :: bm).contains (.type "AttributeError") = false := by rw [List.contains_cons, F.noAttr]; rfl
  have b3 : (Value.ref C :: bm).contains (.type "NameError") = false := by rw [List.contains_cons, F.noName]; rfl
  refine codeAny_builtinAt F.entry ?_
  unfold Builtin.«BaseException.__new__»
  refine PySem.wpAt_bind ?_
  show PySem.wpAt _ _ _ (stack >>= _) _ _ _
  refine PySem.wpAt_bind (PySem.wpAt_stack fun p below => PySem.wpAt_of_wpAny ?_)
  wp_walk
  refine PySem.wpAt_of_wpAny ?_
  rw [F.owner]
  repeat (first
    | with_reducible refine wpAny_madeHere_exc F.canon hC ?_
    | with_reducible refine wpAny_loadPart_at hC ?_
    | (with_reducible refine wpAny_isSubtype_exc hC ?_; first | rw [b1] | rw [b2] | rw [b3])
    | wp_step)
  show R _ _
  rw [Heap.size_push]
  exact hq
theorem typeCallK (F : ExcBaseFacts B newId initId bm) {rest : List Value} {kw : List (Str × Value)} {fI : Addr} {Q : Fin → Shared → Prop}
    (hC : h.get? C = some (excClassObj nm q C N bs bm hd sn sub ab col dd k0 k1 k2 k3 k5 newId))
    (hi : W.Looks (model prog w) h (typeLookup (.ref C) "__init__") (some (.ref fI)))
    (hb : ∀ self, W.Looks (model prog w) h (bindSpecial (.ref fI) self) (.ref fI, [self])) (hrest : rest.length ≤ sizeLine)
    (hq : codeAny (model prog w) A (.call (.ref fI) ⟨.ref (h.objs.size + 1) :: rest, kw⟩)
      (fun r s' => match r with | .ok (.ret v) => v = .none ∧ Q (.done (.ret (.ref (h.objs.size + 1)))) s' | .ok _ => False | .error e => E e s')
      ⟨(h.push (W.kdv_tup rest)).push (excO C h.objs.size), g, d, t, os⟩) :
    wpAny (model prog w) A (Builtin.«type.__call__» ⟨.ref C :: rest, kw⟩) Q E ⟨h, g, d, t, os⟩ := by
  repeat (first
    | with_reducible refine wpAny_loadPart_at hC ?_
    | with_reducible refine wpAny_madeBy_exc hC ?_
    | wp_step)
  refine codeAny_call_builtin_code (Code.quiet_builtin _ F.quiet) (check_newK F hC ?_)
  refine newK F hC ?_ hrest
  show wpAny _ _ _ _ _ _
  have kp : ∀ b o, h.get? b = some o → ((h.push (W.kdv_tup rest)).push (excO C h.objs.size)).get? b = some o :=
    fun b o e => Heap.get?_push_of_some _ (Heap.get?_push_of_some _ e)
  have hC1 := kp _ _ hC
  have new : ((h.push (W.kdv_tup rest)).push (excO C h.objs.size)).get? (h.objs.size + 1) = some (excO C h.objs.size) := by heap_get
  have self : (Value.ref C :: bm).contains (.ref C) = true := by simp
  have i1 := hi.keeps kp
  have b1 := (hb (.ref (h.objs.size + 1))).keeps kp
  unfold isInstance
  repeat (first
    | with_reducible refine wpAny_loadPart_at new ?_
    | (with_reducible refine wpAny_isSubtype_exc hC1 ?_; rw [self])
    | wp_step)
  show wpAny _ _ (typeLookup (.ref C) _) _ _ _
  refine i1.at ?_
  refine wpAny_holding (wpAny_bind (b1.at ?_))
  refine wpAny_bind (wpAny_call (codeAny_mono hq fun r s' z => ?_))
  rcases r with e | (v | _ | _ | _) <;> first | exact z | exact z.elim | skip
  obtain ⟨rfl, z⟩ := z
  first
    | exact wpAny_pure (wpAny_pure z)
    | (wp_walk; exact z)
theorem callK (F : ExcBaseFacts B newId initId bm) {rest : List Value} {kw : List (Str × Value)} {fI : Addr}
    (hC : h.get? C = some (excClassObj nm q C N bs bm hd sn sub ab col dd k0 k1 k2 k3 k5 newId))
    (hi : W.Looks (model prog w) h (typeLookup (.ref C) "__init__") (some (.ref fI)))
    (hb : ∀ self, W.Looks (model prog w) h (bindSpecial (.ref fI) self) (.ref fI, [self])) (hrest : rest.length ≤ sizeLine)
    (hq : codeAny (model prog w) (A.under (.builtin "type.__call__" ⟨.ref C :: rest, kw⟩)) (.call (.ref fI) ⟨.ref (h.objs.size + 1) :: rest, kw⟩)
      (W.InitBack (h.objs.size + 1) R) ⟨(h.push (W.kdv_tup rest)).push (excO C h.objs.size), g, d, t, os⟩) :
    codeAny (model prog w) A (.call (.ref C) ⟨rest, kw⟩) R ⟨h, g, d, t, os⟩ := by
  have f1 := tc_lookup
  have f2 := tc_bind (.ref C)
  have ty : (⟨h, g, d, t, os⟩ : Shared).TypeIs (.ref C) "type" := ⟨_, hC, rfl⟩
  refine codeAny_of_tree ?_
  show wpAny _ _ (callAny (.ref C) _) _ _ _
  repeat (any_goals (first
    | assumption
    | with_reducible refine wpAny_loadPart_at hC ?_
    | wp_step))
  refine ⟨rfl, ?_⟩
  refine codeAny_call_builtin_at (Code.quiet_builtin _ (by decide +kernel)) entry_typeCall ?_
  refine wpAny_check_type_call_sub hC ?_
  refine typeCallK F hC hi hb hrest (codeAny_mono hq fun r s' z => ?_)
  rcases r with e | (v | _ | _ | _) <;> exact z
end
end EV

set_option Elab.async false
set_option linter.all false
set_option maxRecDepth 100000
set_option maxHeartbeats 4000000
namespace L2
namespace EV
open PySem PySem.Spec PyProof.Rows _root_.EV
/-- what the written part says of an own exception class at C, straight under the built-in base B -/
structure OxC (K : PySem.W.Frag) (C : Addr) (B newId initId : String) (bm : List Value) : Prop where
  F : ExcBaseFacts B newId initId bm
  cls : ∃ nm q N bs sn sub ab col dd k0 k1 k2 k3 k5, K.lookup C = some (excClassObj nm q C N bs bm true sn sub ab col dd k0 k1 k2 k3 k5 newId)
  pas : ∀ self, refuseLoop self "__setattr__" bm = pure ()
  obj : bm.contains (.type "object") = true
  sa : PySem.W.findIn K (.ref C) "__setattr__" = some (some (.builtin "object.__setattr__"))
  ga : PySem.W.findIn K (.ref C) "__getattribute__" = some (some (.builtin "BaseException.__getattribute__"))
  gg : PySem.W.findIn K (.ref C) "__getattr__" = some none
  exC : PySem.W.subIn K (.ref C) (.type "BaseException") = some true
  kC : PySem.W.keepIn K (.ref C) = true
  hd : PySem.W.hasDictIn K C = true
  ca : PySem.W.findIn K (.ref C) "__class__" = some (some (.builtin "object.__class__"))
  cn : PySem.W.specialIn K (.builtin "object.__class__") "__get__" = some (some (.builtin "getset_descriptor.__get__"))
  ct : PySem.W.takesIn K (.builtin "object.__class__") = some true
  om : PySem.W.mroIn K C (.type "object") = some true
section
variable {X : Cx} {pins : List (Addr × Obj)} {σ : St} {H : Hp} {s : Shared} {a C dx : Addr} {f : Str} {y : V} {u : Value} {fs : List (Str × V)}
variable {Q : Unit → Shared → Prop} {E : Value → Shared → Prop} {A : Around} {B newId initId : String} {bm : List Value}
theorem OxC.data {K : PySem.W.Frag} (T : OxC K C B newId initId bm) : ∃ cd, PySem.W.clsIn K C = some cd ∧ cd.mro = .ref C :: bm ∧ cd.hasDict = true := by
  obtain ⟨nm, q, N, bs, sn, sub, ab, col, dd, k0, k1, k2, k3, k5, hC⟩ := T.cls
  refine ⟨{ name := nm, bases := bs, mro := .ref C :: bm, ns := N, qualname := q, hasDict := true, slotNames := sn, subclasses := sub, abstract := ab, collection := col, hasDel := false }, ?_, rfl, rfl⟩
  unfold PySem.W.clsIn
  rw [hC] <;> rfl
theorem OxC.look {K : PySem.W.Frag} (T : OxC K C B newId initId bm) {cd : ClassData} (e : cd.mro = .ref C :: bm) (self : Value) :
    refuseLoop self "__setattr__" cd.mro = pure () ∧ cd.mro.contains (.type "object") = true ∧ cd.mro.isEmpty = false := by
  rw [e, refuseLoop_ref]
  refine ⟨T.pas self, ?_, rfl⟩
  rw [List.contains_cons, T.obj, Bool.or_true]
/-- self.f = y, the first field -/
theorem ox_first (T : OxC X.K C B newId initId bm) (I : Inv X pins σ H s) (e : H a = some (exo a C none)) (no : PySem.W.findIn X.K (.ref C) f = some none) (ry : RelV y u)
    (h : ∀ dx s', H dx = none → dx ≠ a → Inv X pins σ (upd (upd H dx (exd dx [(f, y)])) a (exo a C (some dx))) s' → Q () s') :
    wpAny (model X.prog X.w) A (setAttr (.ref a) f u) Q E s := by
  obtain ⟨cd, hcl, hmr, hdi⟩ := T.data
  obtain ⟨l1, l2, l3⟩ := T.look hmr (.ref a)
  obtain ⟨t1, ho⟩ := exo_at I.hok e
  obtain ⟨hp, g, d, t, os⟩ := s
  refine PySem.W.set_plain I.kIn (ox := { cls := .ref C, dict := none, data := .fields #[.ref t1, .none, .none, .none, .bool false, .none] })
    (od := none) ⟨ho, rfl, rfl, trivial⟩ T.sa ?_
  refine put_first I.kIn ho hcl l1 l2 l3 hdi no fun h' tk' dx k big ne hx hn => ?_
  have free : H dx = none := I.hok.fresh big
  have old : ∀ {b : Addr} {o : Obj}, hp.get? b = some o → b ≠ dx := fun {b o} q => Nat.ne_of_lt (Nat.lt_of_lt_of_le (Heap.lt_size q) big)
  have nota : ∀ {b : Addr}, H b = none → b ≠ a := fun {b} n z => by
    subst z
    rw [e] at n
    cases n
  have un : Un X.fs [] H (upd (upd H dx (exd dx [(f, y)])) a (exo a C (some dx))) hp h' := by
    refine ⟨fun b o q n _ _ => k b o (nota n) q, fun b o q n _ _ => ⟨o.slots, k b o (nota n) q⟩, fun b o q n _ => ?_, fun b o q _ => ?_, fun b xs q => ?_, fun b o v q => ?_, fun b ps q => ⟨#[], ?_⟩⟩
    · rw [upd_ne (nota n), upd_ne (old q)]
      exact n
    · by_cases hb : b = a
      · subst hb
        exact ⟨_, hx⟩
      · exact ⟨o, k b o hb q⟩
    · rw [upd_ne (at_ne e q exo_tup), upd_ne (ne_of_none q free)]
      exact q
    · rw [upd_ne (at_ne e q exo_frz), upd_ne (ne_of_none q free)]
      exact q
    · rw [upd_ne (at_ne e q exo_tbl), upd_ne (ne_of_none q free), q]
      simp
  refine h dx _ free ne (I.un (t' := tk') un fun b o q => ?_)
  by_cases hb : b = a
  · subst hb
    rw [upd_same] at q
    cases q
    exact exo_ok hx
  · rw [upd_ne hb] at q
    by_cases hd : b = dx
    · subst hd
      rw [upd_same] at q
      cases q
      exact exd_ok hn (relO_put (fs := []) ry fun g => True.intro)
    · rw [upd_ne hd] at q
      refine (I.hok b o q).stay (fun c v hc z => k c v ?_ z) (fun c hc => ?_) fun c xs hc => ?_
      · rcases hc with hc | hc
        · subst hc
          exact hb
        · exact at_ne e hc exo_own
      · rw [upd_ne (at_ne e hc exo_own), upd_ne (ne_of_none hc free)]
        exact hc
      · rw [upd_ne (at_ne e hc exo_tup), upd_ne (ne_of_none hc free)]
        exact hc
/-- self.f = y, a further field -/
theorem ox_more (T : OxC X.K C B newId initId bm) (I : Inv X pins σ H s) (e : H a = some (exo a C (some dx))) (ed : H dx = some (exd dx fs)) (hl : fs.length ≤ 900)
    (no : PySem.W.findIn X.K (.ref C) f = some none) (ry : RelV y u) (h : ∀ s', Inv X pins σ (upd H dx (exd dx ((f, y) :: fs))) s' → Q () s') :
    wpAny (model X.prog X.w) A (setAttr (.ref a) f u) Q E s := by
  obtain ⟨cd, hcl, hmr, hdi⟩ := T.data
  obtain ⟨l1, l2, l3⟩ := T.look hmr (.ref a)
  obtain ⟨t1, ho⟩ := exo_at I.hok e
  obtain ⟨mA, hns, rel⟩ := exd_at I.hok ed
  have hw := within_of rel
  obtain ⟨hp, g, d, t, os⟩ := s
  obtain ⟨oD, _, _, hoD, _, _⟩ := hns.count hw
  refine PySem.W.set_plain I.kIn (ox := { cls := .ref C, dict := some dx, data := .fields #[.ref t1, .none, .none, .none, .bool false, .none] })
    (od := some oD) ⟨ho, rfl, rfl, hoD⟩ T.sa ?_
  refine put_more I.kIn ho hns hw (by rw [List.length_map]; omega) hcl l1 l2 l3 hdi no fun h' tk' k hn => ?_
  have there : ∃ o, h'.get? dx = some o := by
    obtain ⟨o, _, _, e', _⟩ := hn
    exact ⟨o, e'⟩
  refine h _ (I.write (t' := tk') (x := dx) (e := dx) (o := exd dx ((f, y) :: fs)) ?_ (.inl rfl) k there (exd_ok hn (relO_put ry rel)))
  rw [ed]
  exact True.intro
/-- B.__init__(self, ..) of an exception without fields: nothing of it is told -/
theorem ox_init {us : List Value} {Q : Value → Shared → Prop} (T : OxC X.K C B newId initId bm) (I : Inv X pins σ H s) (e : H a = some (exo a C none)) (hl : us.length ≤ sizeLine)
    (h : ∀ s', Inv X pins σ H s' → Q .none s') : wpAny (model X.prog X.w) A (call (.builtin initId) (.ref a :: us)) Q E s := by
  obtain ⟨nm, q, N, bs, sn, sub, ab, col, dd, k0, k1, k2, k3, k5, hC⟩ := T.cls
  obtain ⟨t1, ho⟩ := exo_at I.hok e
  obtain ⟨hp, g, d, t, os⟩ := s
  refine wpAny_call (PySem.HandSPX.init_base T.F (fun _ => rfl) (I.kIn _ _ hC) ho hl fun h' t2 k hx => ?_)
  have J := I.write (t' := t) (x := a) (e := a) (o := exo a C none) (by rw [e]; exact True.intro) (.inl rfl) k ⟨_, hx⟩ (exo_ok hx)
  have eu : upd H a (exo a C none) = H := by
    funext b
    by_cases hb : b = a
    · subst hb
      rw [upd_same, e]
    · rw [upd_ne hb]
  rw [eu] at J
  exact h _ J
end
/-! ### the readings -/
def tBin (K : PySem.W.Frag) (B newId initId : String) (bm : List Value) (ta : TA) : TE := fun σ H Q => ta σ H fun vs H1 =>
  ∃ (a C : Addr) (ws : List V), vs = .ref a :: ws ∧ ws.length ≤ 1000 ∧ OxC K C B newId initId bm ∧ H1 a = some (exo a C none) ∧ Q .non H1
def tPut (K : PySem.W.Frag) (B newId initId : String) (bm : List Value) (f : Str) (to te : TE) : TS := fun D σ H => te σ H fun y H1 => to σ H1 fun x H2 =>
  ∃ a C : Addr, x = .ref a ∧ OxC K C B newId initId bm ∧ PySem.W.findIn K (.ref C) f = some none ∧
    ((H2 a = some (exo a C none) ∧ ∀ dx, H2 dx = none → dx ≠ a → D.nx σ (upd (upd H2 dx (exd dx [(f, y)])) a (exo a C (some dx)))) ∨
      ∃ (dx : Addr) (fs : List (Str × V)), H2 a = some (exo a C (some dx)) ∧ H2 dx = some (exd dx fs) ∧ fs.length ≤ 900 ∧ D.nx σ (upd H2 dx (exd dx ((f, y) :: fs))))
/-- C(..) as a value: gV puts the exception itself, the values by position and those by name in the parameters' order -/
def tNew (C : Addr) (n m : Nat) (sp : Sp) (gV : List V → List V → List V) (t tk : TA) : TE := fun σ H Q => t σ H fun vs H1 => tk σ H1 fun zs H2 =>
  vs.length = n ∧ zs.length = m ∧ vs.length ≤ 1000 ∧ ∀ a, H2 a = none → sp (gV (.ref a :: vs) zs) (upd H2 a (exo a C none)) (fun v H3 => v = .non ∧ Q (.ref a) H3) (fun _ _ _ => False)
/-- e.f, e such an exception -/
def tFld (K : PySem.W.Frag) (f : Str) (te : TE) : TE := fun σ H Q => te σ H fun x H1 =>
  ∃ (a C dx : Addr) (B newId initId : String) (bm : List Value) (fs : List (Str × V)) (v : V), x = .ref a ∧ OxC K C B newId initId bm ∧ PySem.W.findIn K (.ref C) f = some none ∧
    H1 a = some (exo a C (some dx)) ∧ H1 dx = some (exd dx fs) ∧ fs.lookup f = some v ∧ Q v H1
/-- isinstance(e, c) -/
def rIsX (K : PySem.W.Frag) : List V → Hp → VK → Prop := fun xs H Q => ∃ (a C : Addr) (od : Option Addr) (fs : List (Str × V)) (B newId initId : String) (bm : List Value) (c : V) (u : Value) (b : Bool),
  xs = [.ref a, c] ∧ ClsV c u ∧ OxC K C B newId initId bm ∧ H a = some (exo a C od) ∧ (∀ dx, od = some dx → H dx = some (exd dx fs)) ∧ PySem.W.kitOne K (.ref C) u = some b ∧ Q (.bl b) H
section
variable {X : Cx} {o e : Expr} {es : List Expr} {to te : TE} {ta : TA} {f : Str} {p p' p1 p2 pos : Pos} {B newId initId : String} {bm : List Value}
theorem pe_bin {nB : Str} {pl : Sem Bool} (hg : Gl X nB) (hm : X.mg nB = none) (hv : bootBuiltins nB = some (.type B)) (ty : typeOf (.type B) = pure (.type "type"))
    (vV : PySem.W.findCls X.K (.type B) (.type "type") "__init__" = some (.val (.builtin initId))) (q4 : Manifest.isStub B = false) (ha : PA X (e :: es) ta) (q3 : PySem.W.handedIn (.builtin initId) = true)
    (hn1 : nB ≠ "__name__" := by decide) (hn2 : (nB == ("__debug__" : Str)) = false := by decide)
    (hc : eval (.Call (.Attribute (.Name nB p1) "__init__" p2) (e :: es) [] pos) X.env = (do
      let ov ← eval (.Name nB p1) X.env
      standAt p2.atName
      let (f, first) ← holding [ov] (getMethod ov "__init__" pl)
      callWith pos f first (backTo pos (starEach (e :: es) X.env)) (backToKw pos (keywordEach [] X.env))) := by rfl)
    (he : starEach (e :: es) X.env = (false, eval e X.env) :: starEach es X.env := by rfl) (hpl : (backTo pos (starEach es X.env)).any (·.1) = false := by rfl) :
    PE X (.Call (.Attribute (.Name nB p1) "__init__" p2) (e :: es) [] pos) (tBin X.K B newId initId bm ta) := by
  refine ⟨fun pins s σ H Q I h => ?_⟩
  refine PySem.W.methodCall_KW (ld_blt I hg hm hv ?_ hn1 hn2) hc
  obtain ⟨m, fr⟩ := I.fr
  refine PySem.W.method_type fr I.ok.mod.kin ty q4 vV q3 ?_
  show wpAny _ _ (callWith pos (Value.builtin initId) [] (backTo pos (starEach (e :: es) X.env)) []) _ _ _
  refine PyProof.Rows.callWith_method1 (thn (ha.run pos pins _ σ H _ (I.tok _) h) fun us s1 ⟨vs, H1, I1, r1, a, C, ws, ev, hl, T, ea, q⟩ => ?_) he hpl
  subst ev
  cases r1 with
  | @cons _ u0 _ ur ra rr =>
    obtain rfl : u0 = Value.ref a := ra
    have len : ur.length ≤ sizeLine := by
      have e1 := Paired.length rr
      rw [← e1, sizeLine_eq]
      omega
    exact ox_init T I1 ea len fun s' J => ⟨.non, H1, J, rfl, q⟩
/-- self.f = e -/
theorem ps_put (ho : PE X o to) (he : PE X e te) (hs : swapsWith e (some (.Attribute o f p')) pos.line X.env = pure false := by rfl) :
    PS X (.Assign [.Attribute o f p'] e pos) (tPut X.K B newId initId bm f to te) := by
  refine ⟨fun pins s σ H D I h => ?_⟩
  refine plainObj_wpAny_Assign_Attribute (thn (he.run pins s σ H _ I h) fun v s1 ⟨y, H1, I1, r1, q1⟩ => ?_) hs
  refine thn (ho.run pins s1 σ H1 _ I1 q1) fun u s2 ⟨x, H2, I2, r2, a, C, ex, T, no, q⟩ => ?_
  subst ex
  obtain rfl : u = Value.ref a := r2
  rcases q with ⟨ea, q⟩ | ⟨dx, fs, ea, ed, hl, q⟩
  · exact ox_first T I2 ea no r1 fun dx s' n ne J => ⟨σ, _, J, q dx n ne⟩
  · exact ox_more T I2 ea ed hl no r1 fun s' J => ⟨σ, _, J, q⟩
/-- e.f -/
theorem pe_xfld (he : PE X e te) (hb : attributeBase e f X.env (eval e X.env) = eval e X.env := by rfl) : PE X (.Attribute e f pos) (tFld X.K f te) := by
  refine ⟨fun pins s σ H Q I h => ?_⟩
  refine attr_of hb (thn (he.run pins s σ H _ I h) fun u s1 ⟨x, H1, I1, rx, a, C, dx, B, newId, initId, bm, fs, v, ex, T, no, ea, ed, l, q⟩ => ?_)
  subst ex
  obtain rfl : u = Value.ref a := rx
  obtain ⟨t1, ho⟩ := exo_at I1.hok ea
  obtain ⟨mA, hns, hr⟩ := exd_at I1.hok ed
  obtain ⟨od, hod, hl⟩ := lookIn_ns hns
  obtain ⟨u, hu, ru⟩ := RelO.some_of (v := v) (o := mA f) (by rw [← l]; exact hr f)
  have J : PySem.W.InstAt s1.heap a { cls := .ref C, dict := some dx, data := .fields #[.ref t1, .none, .none, .none, .bool false, .none] } C (some od) := ⟨ho, rfl, rfl, hod⟩
  exact HandSPX.exc_get I1.kIn J T.ga T.gg T.exC (PySem.W.findObj_own T.hd no rfl (by rw [hl, hu])) (handed_of ru) ⟨v, H1, I1.tok _, ru, q⟩
theorem call_isX : CallR X (.builtin "isinstance") (rIsX X.K) := by
  intro pins s σ H xs us Q I r h
  obtain ⟨a, C, od, fs, B, newId, initId, bm, c, u, b, rfl, k, T, ea, ed, e, q⟩ := h
  obtain ⟨u1, u2, rfl, r1, r2⟩ := vals2 r
  have e2 := k.eq r2
  subst e2
  obtain rfl : u1 = Value.ref a := r1
  obtain ⟨t1, ho⟩ := exo_at I.hok ea
  obtain ⟨cd, hcl, _⟩ := T.data
  have some_ : (PySem.W.clsIn X.K C).isSome = true := by rw [hcl]; rfl
  have fin : ∀ tk, EP X pins σ Q (.bool b) { s with toks := tk } := fun tk => ⟨.bl b, H, I.tok tk, rfl, q⟩
  cases od with
  | none =>
    have J : PySem.W.InstAt s.heap a { cls := .ref C, dict := none, data := .fields #[.ref t1, .none, .none, .none, .bool false, .none] } C none := ⟨ho, rfl, rfl, trivial⟩
    exact PySem.W.kia_one (PySem.W.kitx_exc some_ T.ga T.gg T.exC T.ca T.cn T.ct T.om) I.kIn J e (fun z => nomatch z) fin
  | some dx =>
    obtain ⟨mA, hns, hr⟩ := exd_at I.hok (ed dx rfl)
    obtain ⟨o', hod, hl⟩ := lookIn_ns hns
    have J : PySem.W.InstAt s.heap a { cls := .ref C, dict := some dx, data := .fields #[.ref t1, .none, .none, .none, .bool false, .none] } C (some o') := ⟨ho, rfl, rfl, hod⟩
    exact PySem.W.kia_one (PySem.W.kitx_exc some_ T.ga T.gg T.exC T.ca T.cn T.ct T.om) I.kIn J e (fun z => nomatch z) fin
end
/-! ### making one, kept as a value -/
section
variable {X : Cx} {CX : CXT} {k n : Nat} {fI C : Addr} {fd : FuncData} {ps ks : List Str} {sp : Sp} {x : Str} {p pos : Pos} {e : Expr} {es : List Expr} {kws : List Keyword}
variable {t tk : TA} {g : List Value → List Value → List Value} {gV : List V → List V → List V} {B newId initId : String} {bm : List Value}
theorem run_new {pins : List (Addr × Obj)} {σ : St} {H : Hp} {s : Shared} {Q : VK} {us ws : List Value} {vs zs : List V} (T : OxC X.K C B newId initId bm)
    (iC : PySem.W.findIn X.K (.ref C) "__init__" = some (some (.ref fI))) (tI : PySem.W.typeIn X.K (.ref fI) = some (.type "function"))
    (F : FnOk X.prog X.w X.K X.mg X.base CX k fI fd ps sp) (hr : Room (k + 1) X.A) (hb : KBn X.K fd ps (n + 1) ks g gV) (hx : Passes CX X (fun _ _ _ => False))
    (I : Inv X pins σ H s) (r : Vals vs us) (rz : Vals zs ws) (l1 : vs.length = n) (l2 : zs.length = ks.length) (l3 : vs.length ≤ 1000)
    (h : ∀ a, H a = none → sp (gV (.ref a :: vs) zs) (upd H a (exo a C none)) (fun v H3 => v = .non ∧ Q (.ref a) H3) (fun _ _ _ => False)) :
    wpAny (model X.prog X.w) X.A (call (.ref C) us (ks.zip ws)) (EP X pins σ Q) X.xe s := by
  obtain ⟨nm, q, N, bs, sn, sub, ab, col, dd, k0, k1, k2, k3, k5, hC⟩ := T.cls
  obtain ⟨hp, g1, dr, tk, os⟩ := s
  have big : hp.objs.size ≤ hp.objs.size + 1 := Nat.le_succ _
  have free : H (hp.objs.size + 1) = none := I.hok.fresh big
  have hq := h (hp.objs.size + 1) free
  have kp : ∀ b o, hp.get? b = some o → ((hp.push (PySem.W.kdv_tup us)).push (PySem.HandSPX.excO C hp.objs.size)).get? b = some o := fun b o e =>
    Heap.get?_push_of_some _ (Heap.get?_push_of_some _ e)
  have new : ((hp.push (PySem.W.kdv_tup us)).push (PySem.HandSPX.excO C hp.objs.size)).get? (hp.objs.size + 1) = some (PySem.HandSPX.excO C hp.objs.size) := by heap_get
  have I2 : Inv X pins σ (upd H (hp.objs.size + 1) (exo (hp.objs.size + 1) C none))
      ⟨(hp.push (PySem.W.kdv_tup us)).push (PySem.HandSPX.excO C hp.objs.size), g1, dr, tk, os⟩ :=
    I.laid (t' := tk) (a := hp.objs.size + 1) (o := exo (hp.objs.size + 1) C none) (h' := (hp.push (PySem.W.kdv_tup us)).push (PySem.HandSPX.excO C hp.objs.size)) kp big (exo_ok new)
  have ra : Vals (V.ref (hp.objs.size + 1) :: vs) (Value.ref (hp.objs.size + 1) :: us) := .cons rfl r
  have lu : us.length ≤ sizeLine := by
    have e1 := Paired.length r
    rw [← e1, sizeLine_eq]
    omega
  have n1 : (Value.ref (hp.objs.size + 1) :: us).length = n + 1 := by
    rw [List.length_cons, ← r.length, l1]
  refine wpAny_call (EV.callK T.F (I.kIn _ _ hC) (PySem.W.looks_findIn I.kIn iC) (fun self => PySem.W.bind_fn I.kIn self tI) lu
    (codeAny_mono (F.run _ X.stack _ _ ⟨Value.ref (hp.objs.size + 1) :: us, ks.zip ws⟩ (g (Value.ref (hp.objs.size + 1) :: us) ws) _ _ (fun _ _ _ => False)
      (hr.make C us (ks.zip ws)) (I2.env0.make C us (ks.zip ws)) (hb.to _ _ ws I2.kIn n1 (rz.length.symm.trans l2)) (hb.rel ra rz) hq) fun r s' hq' => ?_))
  cases r with
  | error er => exact hx pins σ _ _ er s' I2 hq'
  | ok fl =>
    cases fl with
    | ret u =>
      obtain ⟨v, H3, I3, rv, ev, q3⟩ := I2.after hq'
      subst ev
      exact ⟨rv, ⟨V.ref (hp.objs.size + 1), H3, I3, rfl, q3⟩⟩
    | next => exact False.elim hq'
    | brk => exact False.elim hq'
    | cont => exact False.elim hq'
/-- C(e, ..) -/
theorem pe_new (T : OxC X.K C B newId initId bm) (iC : PySem.W.findIn X.K (.ref C) "__init__" = some (some (.ref fI))) (tI : PySem.W.typeIn X.K (.ref fI) = some (.type "function"))
    (F : FnOk X.prog X.w X.K X.mg X.base CX k fI fd ps sp) (hr : Room (k + 1) X.A) (hb : KBn X.K fd ps (n + 1) [] g gV) (hx : Passes CX X (fun _ _ _ => False))
    (hg : Gl X x) (hm : X.mg x = some (.ref C)) (ha : PA X (e :: es) t) (hdb : (x == ("__debug__" : Str)) = false := by decide)
    (he : starEach (e :: es) X.env = (false, eval e X.env) :: starEach es X.env := by rfl) (hpl : (backTo pos (starEach es X.env)).any (·.1) = false := by rfl) :
    PE X (.Call (.Name x p) (e :: es) [] pos) (tNew C n 0 sp gV t tNil) := by
  refine ⟨fun pins s σ H Q I h => ?_⟩
  refine wpAny_Call_Name_kw (ld_glob I hg hm ?_ hdb)
  refine PySem.W.callWith_K (h₀ := X.base) I.ok.mod.kin T.kC (thn (ha.run pos pins s σ H _ I h) fun us s1 ⟨vs, H1, I1, r1, q1⟩ => ⟨I1.kIn, ?_⟩) he hpl
  obtain ⟨l1, _, l3, q2⟩ := q1
  exact run_new (ws := []) (zs := []) T iC tI F hr hb hx I1 r1 .nil l1 rfl l3 q2
/-- C(k = v, ..) -/
theorem pe_newK (T : OxC X.K C B newId initId bm) (iC : PySem.W.findIn X.K (.ref C) "__init__" = some (some (.ref fI))) (tI : PySem.W.typeIn X.K (.ref fI) = some (.type "function"))
    (F : FnOk X.prog X.w X.K X.mg X.base CX k fI fd ps sp) (hr : Room (k + 1) X.A) (hb : KBn X.K fd ps 1 ks g gV) (hx : Passes CX X (fun _ _ _ => False))
    (hg : Gl X x) (hm : X.mg x = some (.ref C)) (hkw : PK X kws tk) (hall : (backToKw pos (keywordEach kws X.env)).all (·.1.isSome) = true := by rfl)
    (hks : (backToKw pos (keywordEach kws X.env)).filterMap (·.1) = ks := by rfl) (hdb : (x == ("__debug__" : Str)) = false := by decide)
    (hpl : ((backTo pos (starEach [] X.env)).any (·.1) || (backToKw pos (keywordEach kws X.env)).any (·.1.isNone)) = false := by rfl) :
    PE X (.Call (.Name x p) [] kws pos) (tNew C 0 ks.length sp gV tNil tk) := by
  refine ⟨fun pins s σ H Q I h => ?_⟩
  refine wpAny_Call_Name_kw (ld_glob I hg hm ?_ hdb)
  refine PySem.W.callWith_KW0 (h₀ := X.base) I.ok.mod.kin T.kC hall ?_ hpl
  refine thn (hkw.run pos pins s σ H _ I h) fun ws s2 ⟨zs, H2, I2, rz, l1, l2, l3, q2⟩ => ⟨I2.kIn, ?_⟩
  rw [hks]
  exact run_new (us := []) (vs := []) T iC tI F hr hb hx I2 .nil rz rfl l2 (by decide) q2
end
end EV
end L2

set_option Elab.async false
set_option linter.all false
set_option maxRecDepth 100000
set_option maxHeartbeats 4000000
/-! Defs that show values by repr: a promise that is kept where no repr runs yet. -/
namespace L2
namespace EV
open PySem PySem.Spec PyProof.Rows _root_.EV
/-- FnOk, where no repr runs yet -/
structure FnG (P : Program) (w : World) (K : PySem.W.Frag) (mg : Str → Option Value) (base : Heap) (CX : CXT) (k : Nat) (f : Addr) (fd : FuncData) (ps : List Str) (sp : Sp) : Prop where
  len : ∀ vs H Q E, sp vs H Q E → vs.length = ps.length
  run : ∀ (A : Around) (outer : List Env) (s : Shared) (H : Hp) (args : Args) (us : List Value) (vs : List V) (Q : VK) (E : XK), Room k A → A.guards = some [] →
    Env0 P w K mg base A outer s H → BindsTo s fd args (ps.zip us) → Vals vs us → sp vs H Q E → codeAny (model P w) A (.call (.ref f) args) (CR CX outer P w H s Q E) s
section
variable {P : Program} {w : World} {K : PySem.W.Frag} {mg : Str → Option Value} {base : Heap}
theorem okG {x qual : Str} {st : Stmt} {f : Addr} {fd : FuncData} {N ps : List Str} {k : Nat} {sp : Sp} (F : Fun K x qual st f fd) (S : FnScope N ps (defScope st))
    (len : ∀ vs H Q E, sp vs H Q E → vs.length = ps.length)
    (hbody : ∀ (cdv : Value) (A : Around) (outer : List Env) (s : Shared) (H : Hp) (vs : List V) (Q : VK) (E : XK), Room k (A.deeper (envOfC qual (defScope st) s.heap.objs.size f cdv)) →
      A.guards = some [] → sp vs H Q E →
      ∃ t, PSs (cxOf CX0 P w K mg base N qual (defScope st) f cdv A outer s H E).nox (defBody st) t ∧ t { nx := fun _ H' => Q .non H', rt := Q } (start N vs) H) :
    FnG P w K mg base CX0 (k + 1) f fd ps sp := by
  obtain ⟨oc, od, kV, doc, pm, an, cdv, ct, osl, rfl, lk, hcd⟩ := F.ex
  refine ⟨len, fun A outer s H args us vs Q E hr hgd e0 hb r hsp => ?_⟩
  have hl := len _ _ _ _ hsp
  have keptB : ∀ b o, base.get? b = some o → s.heap.get? b = some o := fun b o e => (e0.bs b o e).1
  have KX : K.In s.heap := e0.mod.kin.keeps keptB
  have lim : s.heap.NoLimit := e0.mod.nolimit.keeps keptB
  have kinds : ∀ y ∈ ps.zip us, (defScope st).names.lookup y.1 = some .local ∨
      ((defScope st).names.lookup y.1 = some .cell ∧ ((cellsFrom (s.heap.objs.size + 1) (defScope st).names []).lookup y.1).isSome = true) := fun ⟨n, v⟩ hy =>
    (S.par n (List.of_mem_zip hy).1).elim .inl fun q => .inr ⟨q, PySem.W.cellsFrom_some _ _ _ (.inl q)⟩
  refine codeAny_call_function hr.depth (KX _ _ lk) rfl S.co S.gen rfl (PySem.W.codeRec_of KX hcd) (hb _ _ _ _ ?_)
  refine wpAny_newFunctionEnv_cells S.kind kinds fun env he s1 x => ?_
  subst he
  refine ⟨lim.keeps x.toInCall.keep, codeAny_func ?_⟩
  obtain ⟨t, ht0, hq⟩ := hbody cdv A outer s H vs Q E (hr.deeper _) hgd hsp
  have ht := ht0.nox
  have I : Inv (cxOf CX0 P w K mg base N qual (defScope st) f cdv A outer s H E) [] (start N vs) H s1 := inv_start S hr.hd e0 hl r x
  refine wpAny_mono (ht.run [] s1 (start N vs) H _ I hq) (fun fl s' hs => ?_) fun e s' hs => hs
  cases fl with
  | ret u =>
    obtain ⟨v, σ', H', J, rv, q⟩ := hs
    exact ⟨v, H', J.os, J.bare, J.base, J.hok, rv, q⟩
  | next =>
    obtain ⟨σ', H', J, q⟩ := hs
    exact ⟨V.non, H', J.os, J.bare, J.base, J.hok, rfl, q⟩
  | brk =>
    obtain ⟨_, _, _, q⟩ := hs
    exact False.elim q
  | cont =>
    obtain ⟨_, _, _, q⟩ := hs
    exact False.elim q
end
section
variable {X : Cx} {CX : CXT} {k : Nat} {f : Addr} {fd : FuncData} {ps : List Str} {sp : Sp} {x : Str} {p pos : Pos} {e : Expr} {es : List Expr} {t : TA} {E : XK}
/-- f(e, ..) of such a def -/
theorem pe_callG (F : FnG X.prog X.w X.K X.mg X.base CX k f fd ps sp) (hr : Room k X.A) (hgd : X.A.guards = some []) (hg : Gl X x) (hm : X.mg x = some (.ref f))
    (hk : PySem.W.keepIn X.K (.ref f) = true) (hb : Binds X.K fd ps []) (hx : Passes CX X E) (ha : PA X (e :: es) t) (hdb : (x == ("__debug__" : Str)) = false := by decide)
    (he : starEach (e :: es) X.env = (false, eval e X.env) :: starEach es X.env := by rfl) (hpl : (backTo pos (starEach es X.env)).any (·.1) = false := by rfl) :
    PE X (.Call (.Name x p) (e :: es) [] pos) (fun σ H Q => t σ H fun vs H1 => sp vs H1 Q E) := by
  refine ⟨fun pins s σ H Q I h => ?_⟩
  refine wpAny_Call_Name_kw (ld_glob I hg hm ?_ hdb)
  refine PySem.W.callWith_K (h₀ := X.base) I.ok.mod.kin hk (thn (ha.run pos pins s σ H _ I h) fun us s1 ⟨vs, H1, I1, r, q⟩ => ⟨I1.kIn, ?_⟩) he hpl
  have hl : us.length = ps.length := by
    rw [← r.length]
    exact F.len _ _ _ _ q
  have bn := hb s1 us I1.kIn (by rw [List.append_nil]; exact hl)
  rw [List.append_nil] at bn
  refine wpAny_call (codeAny_mono (F.run X.A X.stack s1 H1 ⟨us, []⟩ us vs Q E hr hgd I1.env0 bn r q) fun r2 s2 hq => ?_)
  cases r2 with
  | error er => exact hx pins σ H1 s1 er s2 I1 hq
  | ok fl =>
    cases fl with
    | ret u => exact I1.after hq
    | next => exact False.elim hq
    | brk => exact False.elim hq
    | cont => exact False.elim hq
end
/-- the law's own call, of a promise that is kept where no repr runs -/
theorem law_callG {P : Program} {w : World} {K : PySem.W.Frag} {mg mb : Str → Option Value} {k : Nat} {fa a : Addr} {fd : FuncData} {x : Str} {sp : Sp} {s1 : Shared} {vs : List Value} {ns : List Int}
    (KX : K.In s1.heap) (hns : s1.heap.Ns mainGlobals mg) (hb : s1.heap.Ns builtinsNs mb) (hbb : ∀ x : Str, x ≠ "__name__" → mb x = bootBuiltins x) (hlim : s1.heap.NoLimit) (hg : s1.gens = #[])
    (ha : s1.heap.get? a = some { cls := .type "list", data := .seq vs.toArray }) (hi : IntsAre vs ns) (hl : ns.length ≤ sizeLine) (hr : Room k callerA)
    (F : ∀ base : Heap, K.In base → base.Ns mainGlobals mg → FnG P w K mg base CX0 k fa fd [x] sp) (hbind : ∀ (s : Shared) (u : Value), BindsTo s fd ⟨[u], []⟩ [(x, u)])
    (hsp : ∀ H : Hp, Only H → SqL K H a (ns.map V.int) → sp [.ref a] H (fun v _ => v = .bl true) fun _ _ _ => False) :
    codeAny (model P w) callerA (.call (.ref fa) ⟨[.ref a], []⟩) (fun r s' => r = .ok (.ret (.bool true)) ∧ OldK s1.heap s'.heap ∧ s'.os = s1.os ∧ AllBare s'.gens) s1 := by
  have rv := vals_ints hi
  have lenV := hi.length
  have core : ∀ H : Hp, Only H → SqL K H a (ns.map V.int) → HOk P w H s1.heap → (∀ b, H b ≠ none → b = a) → (H a ≠ none → K.lookup a = none) →
      codeAny (model P w) callerA (.call (.ref fa) ⟨[.ref a], []⟩) (fun r s' => r = .ok (.ret (.bool true)) ∧ OldK s1.heap s'.heap ∧ s'.os = s1.os ∧ AllBare s'.gens) s1 := by
    intro H hO hS hok onlyA notK
    have noDict : ∀ {b : Addr} {o : Obj} {es : Array DictEntry} {ep : Nat}, s1.heap.get? b = some o → o.data = .dict es ep → H b = none := fun {b o es ep} e d => by
      cases q : H b with
      | none => rfl
      | some u =>
        obtain rfl : b = a := onlyA b (by rw [q]; simp)
        rw [ha] at e
        cases e
        exact nomatch (show Data.seq vs.toArray _ = Data.dict es ep from d)
    have nsK : ∀ {b : Addr} {m : Str → Option Value}, s1.heap.Ns b m → (hidT s1.heap H).Ns b m := fun {b m} ⟨o, es, ep, e, d, r⟩ => ⟨o, es, ep, hidT_get e (noDict e d), d, r⟩
    have kin : K.In (hidT s1.heap H) := fun b o e => hidT_get (KX b o e) (by
      cases q : H b with
      | none => rfl
      | some u =>
        obtain rfl : b = a := onlyA b (by rw [q]; simp)
        rw [notK (by rw [q]; simp)] at e
        cases e)
    obtain ⟨mc, c1, c2⟩ := hlim
    have hM : Mod K mg (hidT s1.heap H) := ⟨kin, nsK hns, ⟨mb, nsK hb, hbb⟩, ⟨mc, nsK c1, c2⟩⟩
    have noF : ∀ b, b ∉ frs [] := fun b z => absurd (show b ∈ ([] : List Addr) from z) (by simp)
    have e0 : Env0 P w K mg (hidT s1.heap H) callerA [] s1 H :=
      ⟨rfl, hM, fun b o e => of_hidT e, Nat.le_of_eq (hidT_size _ _), trivial, fun b z => absurd z (noF b), hok, .of_eq hg⟩
    refine codeAny_mono ((F _ kin (nsK hns)).run callerA [] s1 H ⟨[.ref a], []⟩ [.ref a] [.ref a] _ _ hr rfl e0 (hbind s1 (.ref a)) (.cons rfl .nil) (hsp H hO hS)) fun r s' h => ?_
    cases r with
    | error e => exact False.elim h
    | ok fl =>
      cases fl with
      | next => exact False.elim h
      | brk => exact False.elim h
      | cont => exact False.elim h
      | ret u =>
        obtain ⟨v, H', os, bare, un, hok', r', q⟩ := h
        obtain rfl : v = .bl true := q
        obtain rfl : u = Value.bool true := r'
        refine ⟨rfl, OldK.of_keep fun b o e => ?_, os, bare⟩
        cases q : H b with
        | none => exact un.keep b o e q (noF b) (by simp)
        | some u =>
          rcases hO b with z | ⟨ob, xs, z⟩
          · rw [q] at z
            cases z
          · obtain ⟨e1, _⟩ := hok b _ z
            obtain ⟨e2, _⟩ := hok' b _ (un.frzs b ob _ z)
            rw [e] at e1
            cases e1
            exact e2
  cases hk : K.lookup a with
  | some o =>
    have e := KX a o hk
    rw [ha] at e
    cases e
    refine core (fun _ => none) (fun _ => .inl rfl) (.inr ⟨_, vs.toArray, _, hk, rfl, rfl, rfl, ?_, by simpa using rv⟩) (fun b u z => ?_) (fun b z => absurd rfl z) fun z => absurd rfl z
    · rw [List.size_toArray, lenV]
      exact hl
    · exact nomatch (show (none : Option HO) = some u from z)
  | none =>
    refine core (fun b => if b = a then some (.frz { cls := .type "list", data := .seq vs.toArray } (.lst (ns.map V.int))) else none) (fun b => ?_)
      (.inl (.inr ⟨{ cls := .type "list", data := .seq vs.toArray }, if_pos rfl⟩)) (fun b u z => ?_) (fun b z => ?_) fun _ => hk
    · by_cases hb : b = a
      · exact .inr ⟨_, _, if_pos hb⟩
      · exact .inl (if_neg hb)
    · by_cases hb : b = a
      · have z2 := (if_pos hb).symm.trans z
        cases z2
        subst hb
        exact ⟨ha, by rw [List.length_map]; exact hl, vs, _, rv, ha⟩
      · exact nomatch (if_neg hb).symm.trans z
    · by_cases hb : b = a
      · exact hb
      · exact absurd (if_neg hb) z
theorem walk_ofG {l : PySem.W.OpenLaw} {n k : Nat} {q : Program} {loose : List Str} {XP : (Str → Option Value) → Heap → Prop} {YP : World → Heap → Prop} {d : DefRec} {K : Params → PySem.W.Frag} {sp : PySem.W.Frag → Sp} {x : Str}
    (hn : l.most = some n) (hn2 : n ≤ sizeLine) (hdf : d.params.defaults = []) (hr : Room k callerA) (hY : ∀ (w : World) (h : Heap), YP w h → (K w.params).In h)
    (F : ∀ (w : World) (mg : Str → Option Value) (fa : Addr) (h : Heap), (K w.params).In h → h.Ns mainGlobals mg → mg d.name = some (.ref fa) →
      ∃ fd : FuncData, (∀ (s : Shared) (u : Value), BindsTo s fd ⟨[u], []⟩ [(x, u)]) ∧
        ∀ base : Heap, (K w.params).In base → base.Ns mainGlobals mg → FnG l.prog w (K w.params) mg base CX0 k fa fd [x] (sp (K w.params)))
    (hsp : ∀ (K : PySem.W.Frag) (H : Hp) (a : Addr) (ns : List Int), ns.length ≤ n → Only H → SqL K H a (ns.map V.int) → sp K [.ref a] H (fun v _ => v = .bl true) fun _ _ _ => False) :
    PySem.W.WalkO q loose XP YP l.row.toRowW d [] (fun f vs => PySem.call f vs) := by
  refine Att.attach_call hn hdf fun w s0 s1 mg mb fa o pm cd doc a vs ns G Y ho hd hcd hmg hobj hints hlen hg => ?_
  have KX := hY w _ Y
  obtain ⟨fd, hb, hF⟩ := F w mg fa _ KX G.T.g hmg
  exact law_callG KX G.T.g G.T.b G.T.builtins G.T.nolimit hg hobj hints (Nat.le_trans hlen hn2) hr hF hb fun H hO hS => hsp _ H a ns hlen hO hS
end EV
end L2

set_option Elab.async false
set_option linter.all false
set_option maxRecDepth 100000
set_option maxHeartbeats 4000000
/-! repr of a list of data. -/
namespace L2
namespace EV
open PySem PySem.Spec PyProof.Rows _root_.EV
/-- v stands for d: data without dicts, or the dict {"a": 1} -/
inductive Sh (K : PySem.W.Frag) (H : Hp) : V → PyData → Prop
  | plain {v : V} {d : PyData} : Dp K H v d → d.hasDict = false → Sh K H v d
  | one {a : Addr} : H a = some (.dK [(Sum.inr "a", V.int 1)]) → Sh K H (.ref a) (.dict [(.str "a", .int 1)])
def Small (d : PyData) : Prop := d.showable = true ∧ d.shown.length ≤ 60 ∧ d.depth ≤ 5
inductive ShAll (K : PySem.W.Frag) (H : Hp) : List V → List PyData → Prop
  | nil : ShAll K H [] []
  | cons {v : V} {vs : List V} {d : PyData} {ds : List PyData} : Sh K H v d → Small d → ShAll K H vs ds → ShAll K H (v :: vs) (d :: ds)
section
variable {X : Cx} {pins : List (Addr × Obj)} {σ : St} {H : Hp} {s : Shared}
theorem sh_reads (I : Inv X pins σ H s) {v : V} {d : PyData} {u : Value} (h : Sh X.K H v d) (r : RelV v u) : ∃ as, Reads s.heap u d as ∧ (d.hasDict = true → sysModules ∉ as) := by
  cases h with
  | plain hd no =>
    obtain ⟨as, q⟩ := Dp.reads I d v u hd r
    exact ⟨as, q, fun z => by rw [no] at z; cases z⟩
  | @one a e =>
    obtain rfl : u = Value.ref a := r
    obtain ⟨_, nsys, vs, kv, o, es, ep, ho, ex, hd, _, pr, _⟩ := (show ObjOk X.prog X.w H s.heap a (.dK [(Sum.inr "a", V.int 1)]) from I.hok a _ e)
    cases kv with
    | @cons _ p _ ps hk kr =>
      cases kr
      obtain ⟨k, v⟩ := p
      obtain ⟨ek, t, ev⟩ := hk
      dsimp only at ek ev
      subst ek ev
      generalize hes : es.toList = l at pr
      cases pr with
      | @cons e1 _ l2 _ k1 k2 k3 =>
        cases k3
        obtain ⟨t2, ek⟩ : ∃ t2, e1.key = Value.str "a" t2 := Value.isStrOf_shape k1
        refine ⟨[a], Reads.dict (as := []) (bs := []) ho ex.1 hd ?_ ?_, fun _ z => ?_⟩
        · rw [hes]
          show ReadsAll s.heap [e1.key] [PyData.str "a"] []
          rw [ek]
          exact ReadsAll.cons (Reads.str _ _) ReadsAll.nil
        · rw [hes]
          show ReadsAll s.heap [e1.val] [PyData.int 1] []
          rw [k2]
          exact ReadsAll.cons (Reads.int _ _) ReadsAll.nil
        · obtain rfl : sysModules = a := by simpa using z
          simp at nsys
theorem sh_all (I : Inv X pins σ H s) : ∀ {vs : List V} {ds : List PyData} {us : List Value}, ShAll X.K H vs ds → Vals vs us →
    ∃ as bs, ReadsAll s.heap us ds as ∧ ReadAtMost s.heap (PyData.depthAll ds) bs ∧ ReprAllK X.prog X.w bs s.heap (PyData.depthAll ds) us (PyData.shownAll ds)
  | _, _, _, .nil, .nil => ⟨[], [], ReadsAll.nil, (fun _ h => nomatch h), by simp only [PyData.shownAll]; exact .nil⟩
  | _, _, _, .cons (d := d) (ds := ds) h sm t, .cons r rt => by
    obtain ⟨as1, q1, hsm⟩ := sh_reads I h r
    obtain ⟨as2, b2, q2, m2, k2⟩ := sh_all I t rt
    obtain ⟨b1, m1, k1⟩ := ReprK.of_reads (prog := X.prog) (w := X.w) q1 sm.1 hsm (Nat.le_trans sm.2.1 (by decide))
    refine ⟨as1 ++ as2, b1 ++ b2, ReadsAll.cons q1 q2, ?_, ?_⟩
    · simp only [PyData.depthAll]
      exact (m1.mono (Nat.le_max_left _ _)).append (m2.mono (Nat.le_max_right _ _))
    · simp only [PyData.depthAll, PyData.shownAll]
      exact .cons ((k1.more fun b hb => List.mem_append_left _ hb).level_le (Nat.le_max_left _ _)) (k2.more_le (fun b hb => List.mem_append_right _ hb) (Nat.le_max_right _ _))
theorem shall_depth {K : PySem.W.Frag} {H : Hp} : ∀ {vs : List V} {ds : List PyData}, ShAll K H vs ds → PyData.depthAll ds ≤ 5 ∧ (∀ t ∈ PyData.shownAll ds, t.length ≤ 60) ∧ (PyData.shownAll ds).length = vs.length
  | _, _, .nil => ⟨by simp only [PyData.depthAll]; omega, by simp [PyData.shownAll], by simp [PyData.shownAll]⟩
  | _, _, .cons h sm t => by
    obtain ⟨h1, h2, h3⟩ := shall_depth t
    refine ⟨by simp only [PyData.depthAll]; have := sm.2.2; omega, ?_, by simp [PyData.shownAll, h3]⟩
    intro t ht
    simp only [PyData.shownAll, List.mem_cons] at ht
    rcases ht with rfl | ht
    · exact sm.2.1
    · exact h2 t ht
theorem sum_le60 : ∀ {ts : List Str}, (∀ t ∈ ts, t.length ≤ 60) → (ts.map (·.length)).sum ≤ 60 * ts.length
  | [], _ => by simp
  | t :: ts, h => by
    have h1 := h t (List.mem_cons_self ..)
    have h2 := sum_le60 (ts := ts) fun t ht => h t (List.mem_cons_of_mem _ ht)
    simp only [List.map_cons, List.sum_cons, List.length_cons]
    omega
/-- repr(l), l a list of some data -/
def rShow (K : PySem.W.Frag) : List V → Hp → VK → Prop := fun xs H Q => ∃ (l : Addr) (v : V) (vs : List V) (ds : List PyData), xs = [.ref l] ∧ H l = some (.lst (v :: vs)) ∧ ShAll K H (v :: vs) ds ∧ vs.length ≤ 1000 ∧
  Q (.str (listText (PyData.shownAll ds))) H
theorem call_show (hgd : X.A.guards = some []) (hu : X.A.units + 64 < cLine) : CallR X (.builtin "repr") (rShow X.K) := by
  intro pins s σ H xs us Q I r h
  obtain ⟨l, v, vs, ds, rfl, e, sh, lz, q⟩ := h
  obtain ⟨u, rfl, ru⟩ := vals1 r
  obtain rfl : u = Value.ref l := ru
  obtain ⟨_, its, n, rv, ho⟩ := (show ObjOk X.prog X.w H s.heap l (.lst (v :: vs)) from I.hok l _ e)
  obtain ⟨as, bs, q1, m1, k1⟩ := sh_all I sh rv
  obtain ⟨dp, sz, ln⟩ := shall_depth sh
  have whole : Reads s.heap (.ref l) (.list ds) (l :: as) := Reads.list ho rfl rfl (by simpa using q1)
  have hna : l ∉ bs := not_mem_of_deeper whole (by simp only [PyData.depth]; omega) m1
  have hz : (listText (PyData.shownAll ds)).length ≤ sizeLine := by
    have h1 := listText_len_le (PyData.shownAll ds)
    have h2 := sum_le60 sz
    rw [ln, List.length_cons] at *
    rw [sizeLine_eq]
    omega
  cases rv with
  | @cons _ u1 _ ut r1 r2 =>
    refine call_repr_slot (by omega) ⟨_, ho, rfl⟩ PySem.F.slot_list_repr.toG ?_
    refine call_list_reprK ho rfl rfl hna (by simpa using k1.length_eq) (fun i y ey => k1.item i y (by simpa using ey)) (A := X.A.in1) hgd (fun b _ => Clear.nil b) ?_ (fun _ _ z => z) (fun h' t tk hk => ⟨_, _, rfl, ?_⟩) hz
    · show X.A.units + 1 + (PyData.depthAll ds + 1) < cLine
      omega
    · exact ⟨.str _, H, I.kept (t' := tk) hk, ⟨_, rfl⟩, q⟩
end
end EV
end L2

set_option Elab.async false
set_option linter.all false
set_option maxRecDepth 100000
set_option maxHeartbeats 4000000
/-! Tuples of an int, a text and an int: sorted, and <=. -/
namespace L2
open PySem PySem.Spec PyProof.Rows
abbrev T3 : Type := Int × Str × Int
abbrev sl (a : Str) : List Nat := a.cps.toList
theorem sl_inj {a b : Str} (h : sl a = sl b) : a = b := by
  cases a with
  | mk x =>
    cases b with
    | mk y =>
      have : x = y := Array.toList_inj.mp h
      rw [this]
/-- x is ahead of y -/
def lt3 (a b : T3) : Bool := if a.1 = b.1 then (if a.2.1 = b.2.1 then decide (a.2.2 < b.2.2) else decide (sl a.2.1 < sl b.2.1)) else decide (a.1 < b.1)
theorem lt3_iff {a b : T3} : lt3 a b = true ↔ a.1 < b.1 ∨ (a.1 = b.1 ∧ (sl a.2.1 < sl b.2.1 ∨ (a.2.1 = b.2.1 ∧ a.2.2 < b.2.2))) := by
  unfold lt3
  by_cases e1 : a.1 = b.1
  · rw [if_pos e1]
    by_cases e2 : a.2.1 = b.2.1
    · rw [if_pos e2, decide_eq_true_eq]
      refine ⟨fun h => .inr ⟨e1, .inr ⟨e2, h⟩⟩, ?_⟩
      rintro (h | ⟨_, h | ⟨_, h⟩⟩)
      · omega
      · rw [e2] at h
        exact absurd h (List.lt_irrefl _)
      · exact h
    · rw [if_neg e2, decide_eq_true_eq]
      refine ⟨fun h => .inr ⟨e1, .inl h⟩, ?_⟩
      rintro (h | ⟨_, h | ⟨h, _⟩⟩)
      · omega
      · exact h
      · exact absurd h e2
  · rw [if_neg e1, decide_eq_true_eq]
    refine ⟨fun h => .inl h, ?_⟩
    rintro (h | ⟨h, _⟩)
    · exact h
    · exact absurd h e1
theorem lt3_no {a b : T3} : lt3 a b = false ↔ ¬ (a.1 < b.1 ∨ (a.1 = b.1 ∧ (sl a.2.1 < sl b.2.1 ∨ (a.2.1 = b.2.1 ∧ a.2.2 < b.2.2)))) := by
  rw [← lt3_iff]
  cases lt3 a b <;> simp
theorem swo3 : SrtO.Swo lt3 := by
  refine ⟨fun x y h => ?_, fun x y z h1 h2 => ?_⟩
  · have a := lt3_iff.mp h
    refine lt3_no.mpr ?_
    rintro (h1 | ⟨h1, h2⟩)
    · rcases a with a | ⟨a, _⟩ <;> omega
    · rcases a with a | ⟨_, a⟩
      · omega
      · rcases h2 with h2 | ⟨h2, h3⟩
        · rcases a with a | ⟨a, _⟩
          · exact List.lt_asymm a h2
          · rw [a] at h2
            exact List.lt_irrefl _ h2
        · rcases a with a | ⟨_, a⟩
          · rw [h2] at a
            exact List.lt_irrefl _ a
          · omega
  · have a := lt3_no.mp h1
    have b := lt3_no.mp h2
    refine lt3_no.mpr ?_
    have a1 : ¬ y.1 < x.1 := fun q => a (.inl q)
    have b1 : ¬ z.1 < y.1 := fun q => b (.inl q)
    rintro (q | ⟨q1, q2⟩)
    · omega
    · have e1 : y.1 = x.1 := by omega
      have e2 : z.1 = y.1 := by omega
      have a2 : ¬ sl y.2.1 < sl x.2.1 := fun q => a (.inr ⟨e1, .inl q⟩)
      have b2 : ¬ sl z.2.1 < sl y.2.1 := fun q => b (.inr ⟨e2, .inl q⟩)
      have l1 : sl x.2.1 ≤ sl y.2.1 := List.not_lt.mp a2
      have l2 : sl y.2.1 ≤ sl z.2.1 := List.not_lt.mp b2
      rcases q2 with q2 | ⟨q2, q3⟩
      · exact absurd q2 (List.not_lt.mpr (List.le_trans l1 l2))
      · have e3 : sl y.2.1 = sl x.2.1 := by
          rw [q2] at l2
          exact List.le_antisymm l2 l1
        have e4 := sl_inj e3
        have a3 : ¬ y.2.2 < x.2.2 := fun q => a (.inr ⟨e1, .inr ⟨e4, q⟩⟩)
        have b3 : ¬ z.2.2 < y.2.2 := fun q => b (.inr ⟨e2, .inr ⟨q2.trans e4.symm, q⟩⟩)
        omega
theorem swo3k {α : Type} (k : α → T3) : SrtO.Swo fun v u : α => lt3 (k v) (k u) := ⟨fun x y => swo3.asym (k x) (k y), fun x y z => swo3.tr (k x) (k y) (k z)⟩
/-- v is a tuple of an int, a text and an int in the heap -/
def IsTrip (h : Heap) (v : Value) (x : T3) : Prop := ∃ a o t u r n, v = .ref a ∧ h.get? a = some o ∧ o.cls = .type "tuple" ∧ o.data = .seq #[.int x.1 t, .str x.2.1 u, .int x.2.2 r] n
theorem IsTrip.keeps {h h' : Heap} {v : Value} {x : T3} (p : IsTrip h v x) (k : ∀ b o, h.get? b = some o → o.cls = .type "tuple" → h'.get? b = some o) : IsTrip h' v x := by
  obtain ⟨a, o, t, u, r, n, e, ho, hc, hd⟩ := p
  exact ⟨a, o, t, u, r, n, e, k _ _ ho hc, hc, hd⟩
theorem firsts3 {h : Heap} : ∀ {vs : List Value}, (∀ v ∈ vs, ∃ x, IsTrip h v x) → ∃ fs : List Value, PySem.W.KatTups h vs fs ∧ fs.length = vs.length ∧ ∀ f ∈ fs, ∃ x t, f = Value.int x t
  | [], _ => ⟨[], PySem.W.KatTups.nil, rfl, fun _ hm => by simp at hm⟩
  | v :: vs, hp => by
    obtain ⟨fs, h1, h2, h3⟩ := firsts3 (vs := vs) fun v' hm => hp v' (List.mem_cons_of_mem _ hm)
    obtain ⟨x, a, o, t, u, r, n, e, ho, hc, hd⟩ := hp v (List.mem_cons_self ..)
    subst e
    refine ⟨.int x.1 t :: fs, PySem.W.KatTups.cons ho hc hd rfl h1, by rw [List.length_cons, List.length_cons, h2], fun f hm => ?_⟩
    rcases List.mem_cons.mp hm with rfl | hm
    · exact ⟨x.1, t, rfl⟩
    · exact h3 f hm
section
variable {prog : Program} {w : World} {A : Around} {E : Value → Shared → Prop} {s : Shared}
theorem trip_cmp {vs : List Value} {k : Value → T3} (hp : ∀ v ∈ vs, IsTrip s.heap v (k v)) : SrtO.Cmp prog w A s (tuples' true) (fun p => p.1 ∈ vs) (SrtO.lt2 fun v u => lt3 (k v) (k u)) := by
  intro p q hm hm'
  have h1 := hp _ hm
  have h2 := hp _ hm'
  show wpAny (model prog w) A (keyLt' (tuples' true) p.1 q.1) (fun r s' => s' = s ∧ r = lt3 (k p.1) (k q.1)) (fun _ _ => False) s
  generalize k p.1 = x at h1 ⊢
  generalize k q.1 = y at h2 ⊢
  obtain ⟨x1, x2, x3⟩ := x
  obtain ⟨y1, y2, y3⟩ := y
  obtain ⟨a, o, t, u, r, n, e, ho, hc, hd⟩ := h1
  obtain ⟨a', o', t', u', r', n', e', ho', hc', hd'⟩ := h2
  rw [e, e']
  unfold lt3
  refine PySem.W.kat_lt ho hd ho' hd' ?_
  show PySem.W.KatLex prog w A true (decide (3 < 3)) _ [(.int x1 t, .int y1 t'), (.str x2 u, .str y2 u'), (.int x3 r, .int y3 r')] 0 s
  refine PySem.W.kat_cons (SeqAt.EqAt.int_int x1 t y1 t' prog w _ _ ?_)
  refine PySem.W.kat_go (fun e1 => ?_) (fun e1 => ?_)
  · have ex : x1 = y1 := by simpa using e1
    subst ex
    refine PySem.W.kat_yes (PySem.W.kat_cons (SeqAt.EqAt.str_str x2 u y2 u' prog w _ _ ?_))
    refine PySem.W.kat_go (fun e2 => ?_) (fun e2 => ?_)
    · have ey : x2 = y2 := by simpa using e2
      subst ey
      refine PySem.W.kat_yes (PySem.W.kat_cons (SeqAt.EqAt.int_int x3 r y3 r' prog w _ _ ?_))
      refine PySem.W.kat_go (fun e3 => ?_) (fun e3 => ?_)
      · have ez : x3 = y3 := by simpa using e3
        subst ez
        refine PySem.W.kat_yes (PySem.W.kat_nil ⟨rfl, ?_⟩)
        simp
      · refine PySem.W.kat_no (PySem.W.kat_one _ _ (PyProof.Rows.lt_int ?_))
        refine (show s = s ∧ _ from ⟨rfl, ?_⟩)
        simp
    · have ey : ¬ x2 = y2 := by simpa using e2
      refine PySem.W.kat_no (PySem.W.kat_one _ _ (PyProof.Rows.lt_str ?_))
      refine (show s = s ∧ _ from ⟨rfl, ?_⟩)
      simp [ey]
  · have ex : ¬ x1 = y1 := by simpa using e1
    refine PySem.W.kat_no (oneLt_int ⟨rfl, ?_⟩)
    simp [ex]
theorem trips_sortable {a : Addr} {vs : List Value} {k : Value → T3} (h0 : 0 < vs.length) (hp : ∀ v ∈ vs, IsTrip s.heap v (k v)) (ha : ∀ o, s.heap.get? a = some o → o.cls ≠ .type "tuple") : SrtO.SortableO prog w A s a vs fun v u => lt3 (k v) (k u) := by
  intro h' keep
  have hp' : ∀ v ∈ vs, IsTrip h' v (k v) := fun v hm => (hp v hm).keeps fun b o e c => keep b o (fun z => by subst z; exact ha o e c) e
  obtain ⟨fs, h1, h2, h3⟩ := firsts3 fun v hm => ⟨_, hp' v hm⟩
  refine ⟨tuples' true, fun Q E hq => ?_, trip_cmp hp'⟩
  refine PySem.W.kat_kind (T := .type "int") h1 (by omega) (fun f hm => ?_) (by rfl) ?_
  · obtain ⟨x, t, rfl⟩ := h3 f hm
    exact PySem.W.Looks.now
  · have e : (Value.type "int" != Value.type "tuple") = true := by first | decide +kernel | rfl | decide
    rw [e]
    exact hq
theorem sorted_trips {l : Addr} {vs : List Value} {k : Value → T3} {Q : Value → Shared → Prop} (hl : s.heap.IsList l vs.toArray) (hz : vs.length ≤ sizeLine) (hp : ∀ v ∈ vs, IsTrip s.heap v (k v))
    (h : ∀ (h' : Heap) (d : Addr) (out : List Value), SrtO.Srtd (fun v u => lt3 (k v) (k u)) out → SrtO.Stb (fun v u => lt3 (k v) (k u)) out vs → (∀ b o, s.heap.get? b = some o → h'.get? b = some o) → s.heap.objs.size ≤ d → (∃ n, h'.get? d = some (seqObj "list" out.toArray n)) → Q (.ref d) { s with heap := h' }) :
    wpAny (model prog w) A (call (.builtin "sorted") [.ref l]) Q E s := by
  refine SrtO.sorted_ord (swo3k k) hl hz (fun h2 h₁ a ha kk => ?_) fun out hs hb => ?_
  · refine trips_sortable (s := { s with heap := h₁ }) (by omega) (fun v hm => (hp v hm).keeps fun b o e _ => (kk b o e).2) fun o e => ?_
    have e' : some o = some (seqObj "list" vs.toArray 0) := e.symm.trans ha
    cases e'
    intro c
    exact absurd (Value.type.inj c) (by decide)
  · exact h _ _ out hs hb (fun b o e => sortedAll_old e) (Nat.le_succ _) (sortedAll_at s.heap vs out.toArray)
end
/-- sorted(xs), xs a list of such tuples (k says which): a new list of the same ones -/
def rSorted3 (K : PySem.W.Frag) : List V → Hp → VK → Prop := fun vs H Q => ∃ (a : Addr) (xs : List V) (k : V → T3), vs = [V.ref a] ∧ SqL K H a xs ∧ (∀ x ∈ xs, ∃ t, x = V.ref t ∧ H t = some (.tup [.int (k x).1, .str (k x).2.1, .int (k x).2.2])) ∧
  ∀ ys p, SrtO.Srtd (fun x y => lt3 (k x) (k y)) ys → ys.Perm xs → H p = none → Q (.ref p) (upd H p (.lst ys))
theorem vals_3 {x y z : V} {us : List Value} (r : Vals [x, y, z] us) : ∃ u w' t', us = [u, w', t'] ∧ RelV x u ∧ RelV y w' ∧ RelV z t' := by
  cases r with
  | cons r1 r2 =>
    obtain ⟨u, w', rfl, r3, r4⟩ := vals2 r2
    exact ⟨_, u, w', rfl, r1, r3, r4⟩
section
variable {X : Cx}
theorem cr_sorted3 : CallR X (.builtin "sorted") (rSorted3 X.K) := by
  intro pins s σ H vs us Q I r h
  obtain ⟨a, xs, k, rfl, hs, hx, q⟩ := h
  obtain ⟨its, rv, hl, hz⟩ := I.list hs
  obtain ⟨u, rfl, ru⟩ := vals1 r
  obtain rfl : u = Value.ref a := ru
  obtain ⟨e1, e2⟩ := refs_back rv fun x m => by
    obtain ⟨t, e, _⟩ := hx x m
    exact ⟨t, e⟩
  refine sorted_trips (k := fun u => k (backV u)) hl.isList (by rw [← rv.length]; exact hz) (fun v hv => ?_) fun h' d out h1 h2 kp hd hn => ?_
  · obtain ⟨t, rfl⟩ := e2 v hv
    have hm : V.ref t ∈ xs := by rw [e1]; exact List.mem_map.mpr ⟨_, hv, rfl⟩
    obtain ⟨t', e, ht⟩ := hx _ hm
    cases e
    obtain ⟨_, its2, r2, o, ho, hc, n, hd⟩ := I.hok _ _ ht
    obtain ⟨u1, u2, u3, rfl, ri, rj, rk⟩ := vals_3 r2
    obtain ⟨t1, rfl⟩ := ri
    obtain ⟨t2, rfl⟩ := rj
    obtain ⟨t3, rfl⟩ := rk
    exact ⟨t, o, t1, t2, t3, n, rfl, ho, hc, hd⟩
  · have h3 : ∀ u ∈ out, ∃ a, u = Value.ref a := fun u hu => e2 u (h2.perm.mem_iff.mp hu)
    obtain ⟨n, hn⟩ := hn
    have hb : SrtO.Stb (fun x y => lt3 (k x) (k y)) (out.map backV) xs := by
      rw [e1]
      exact SrtO.Stb.map (swo3k k) backV h2
    refine ⟨.ref d, upd H d (.lst (out.map backV)), I.laid (t' := s.toks) kp hd ⟨?_, out, n, vals_back h3, hn⟩, rfl, q _ d (SrtO.srtd_map h1) hb.perm (I.hok.fresh hd)⟩
    rw [hb.len]
    exact hz
/-- x <= y of two such tuples -/
def rLe3 : R2 := fun x y H Q => ∃ (a b : Addr) (m n : T3), x = .ref a ∧ y = .ref b ∧ H a = some (.tup [.int m.1, .str m.2.1, .int m.2.2]) ∧ H b = some (.tup [.int n.1, .str n.2.1, .int n.2.2]) ∧ Q (.bl (!lt3 n m)) H
theorem le_lex (m n : T3) : Ob.lexAt (fun j => if j = 0 then m.1 == n.1 else if j = 1 then m.2.1 == n.2.1 else m.2.2 == n.2.2)
    (fun j => if j = 0 then decide (m.1 ≤ n.1) else if j = 1 then decide (sl m.2.1 ≤ sl n.2.1) else decide (m.2.2 ≤ n.2.2)) true 0 3 = !lt3 n m := by
  obtain ⟨m1, m2, m3⟩ := m
  obtain ⟨n1, n2, n3⟩ := n
  simp only [Ob.lexAt, lt3]
  by_cases e1 : m1 = n1
  · subst e1
    by_cases e2 : m2 = n2
    · subst e2
      by_cases e3 : m3 = n3
      · subst e3
        simp
      · simp only [beq_self_eq_true, if_true, Nat.zero_add, Nat.one_ne_zero, if_false, Nat.reduceAdd, Nat.reduceEqDiff, beq_iff_eq, e3]
        by_cases z : m3 ≤ n3
        · rw [decide_eq_true z, decide_eq_false (by omega)]
          rfl
        · rw [decide_eq_false z, decide_eq_true (by omega)]
          rfl
    · have e2' : ¬ n2 = m2 := fun z => e2 z.symm
      simp only [beq_self_eq_true, if_true, Nat.zero_add, Nat.one_ne_zero, if_false, beq_iff_eq, e2, e2']
      by_cases z : sl m2 ≤ sl n2
      · rw [decide_eq_true z, decide_eq_false (List.not_lt.mpr z)]
        rfl
      · rw [decide_eq_false z, decide_eq_true (List.not_le.mp z)]
        rfl
  · have e1' : ¬ n1 = m1 := fun z => e1 z.symm
    simp only [if_true, beq_iff_eq, e1, e1', if_false]
    by_cases z : m1 ≤ n1
    · rw [decide_eq_true z, decide_eq_false (by omega)]
      rfl
    · rw [decide_eq_false z, decide_eq_true (by omega)]
      rfl
theorem RcOp.le_str {A : Around} {s : Shared} (a b : Str) (t u : Tok) : Ob.RcOp .LtE A s (.str a t) (.str b u) (decide (sl a ≤ sl b)) := fun _ _ _ _ h => PySem.P.le_str (by
  have e : (!decide (b.cps.toList < a.cps.toList)) = decide (sl a ≤ sl b) := by
    by_cases z : sl a ≤ sl b
    · rw [decide_eq_true z, decide_eq_false (List.not_lt.mpr z)]
      rfl
    · rw [decide_eq_false z, decide_eq_true (List.not_le.mp z)]
      rfl
  rw [e]
  exact h)
theorem op_le3 (hu : X.A.units < cLine) : OpR X (compareOp .LtE) rLe3 := by
  intro pins s σ H x y v u Q I rx ry h
  obtain ⟨a, b, m, n, rfl, rfl, ha, hb, q⟩ := h
  cases rx
  cases ry
  obtain ⟨its, r1, p1, _⟩ := I.tuple (SqT.of ha)
  obtain ⟨its2, r2, p2, _⟩ := I.tuple (SqT.of hb)
  obtain ⟨u1, u2, u3, rfl, ⟨t1, rfl⟩, ⟨t2, rfl⟩, ⟨t3, rfl⟩⟩ := vals_3 r1
  obtain ⟨v1, v2, v3, rfl, ⟨w1, rfl⟩, ⟨w2, rfl⟩, ⟨w3, rfl⟩⟩ := vals_3 r2
  have R := Ob.RcOp.tuples_le (A := X.A) (s := s) (e := fun j => if j = 0 then m.1 == n.1 else if j = 1 then m.2.1 == n.2.1 else m.2.2 == n.2.2)
    (r := fun j => if j = 0 then decide (m.1 ≤ n.1) else if j = 1 then decide (sl m.2.1 ≤ sl n.2.1) else decide (m.2.2 ≤ n.2.2)) p1 p2 hu (fun j h1 h2 => by
    match j, h1 with
    | 0, _ => exact SeqAt.EqAt.int_int _ _ _ _
    | 1, _ => exact SeqAt.EqAt.str_str _ _ _ _
    | 2, _ => exact SeqAt.EqAt.int_int _ _ _ _) (fun j h1 h2 _ => by
    match j, h1 with
    | 0, _ => exact Ob.RcOp.le_int _ _ _ _
    | 1, _ => exact RcOp.le_str _ _ _ _
    | 2, _ => exact Ob.RcOp.le_int _ _ _ _)
  have e3 : Ob.lexAt (fun j => if j = 0 then m.1 == n.1 else if j = 1 then m.2.1 == n.2.1 else m.2.2 == n.2.2)
    (fun j => if j = 0 then decide (m.1 ≤ n.1) else if j = 1 then decide (sl m.2.1 ≤ sl n.2.1) else decide (m.2.2 ≤ n.2.2)) (decide (3 ≤ 3)) 0 (min 3 3) = !lt3 n m := le_lex m n
  have z : wpAny (model X.prog X.w) X.A (compareOp .LtE (.ref a) (.ref b)) (EP X pins σ Q) X.xe s := R X.prog X.w X.xe (EP X pins σ Q) ⟨.bl _, H, I, rfl, by
    rw [← e3] at q
    exact q⟩
  exact z
end
end L2

set_option Elab.async false
set_option linter.all false
set_option maxRecDepth 100000
set_option maxHeartbeats 4000000
/-! The law's draws. -/
namespace K41
open PySem L2 L2.EV
def top (i : Nat) : Stmt := PySem.Challenge.pw_tornlines_k41_whole_turned_files.main.body.getD i (.Pass ⟨0, 0, 0, 0⟩)
abbrev sBegun : Stmt := top 40
abbrev sNext : Stmt := top 41
/-! ### data of ints -/
theorem canLay_ints : ∀ ns : List Int, PyData.canLayAll0 (ns.map PyData.int) = true
  | [] => by simp [PyData.canLayAll0]
  | n :: ns => by simp [PyData.canLayAll0, PyData.canLay0, canLay_ints ns]
theorem depth_ints : ∀ ns : List Int, PyData.depthAll (ns.map PyData.int) = 0
  | [] => by simp [PyData.depthAll]
  | n :: ns => by simp [PyData.depthAll, PyData.depth, depth_ints ns]
theorem shaped_ints (ns : List Int) : SeqAt.shaped (.list (ns.map PyData.int)) = true := by
  show (PyData.canLay0 (.list (ns.map PyData.int)) && decide (PyData.depth (.list (ns.map PyData.int)) ≤ 64)) = true
  rw [Bool.and_eq_true]
  refine ⟨by simp only [PyData.canLay0]; exact canLay_ints ns, decide_eq_true ?_⟩
  simp only [PyData.depth, depth_ints]
  omega
theorem dp_ints {K : PySem.W.Frag} {H : Hp} : ∀ ns : List Int, DpAll K H (ns.map V.int) (ns.map PyData.int)
  | [] => .nil
  | n :: ns => .cons (.int n) (dp_ints ns)
theorem dp_list {K : PySem.W.Frag} {H : Hp} {a : Addr} {ns : List Int} (h : H a = some (.lst (ns.map V.int))) : Dp K H (.ref a) (.list (ns.map PyData.int)) := .lst (SqL.of h) (dp_ints ns)
theorem eqv_nil (ns : List Int) : PyData.eqv (.list (ns.map PyData.int)) (.list []) = ns.isEmpty := by
  cases ns <;> simp [PyData.eqv, PyData.eqvAll]
/-! ### the draws' dict -/
def mkv (c l : Addr) (k : Int) : List (Key × V) := [(Sum.inr "cells", .ref c), (Sum.inr "left", .ref l), (Sum.inr "at", .int k)]
theorem n1 : ¬ (("cells" : Str) = "left") := by decide +kernel
theorem n2 : ¬ (("cells" : Str) = "at") := by decide +kernel
theorem n3 : ¬ (("left" : Str) = "at") := by decide +kernel
theorem n1' : ¬ (("left" : Str) = "cells") := by decide +kernel
theorem n2' : ¬ (("at" : Str) = "cells") := by decide +kernel
theorem n3' : ¬ (("at" : Str) = "left") := by decide +kernel
theorem k1 {a b : Str} (h : ¬ a = b) : ¬ ((Sum.inr a : Key) = Sum.inr b) := fun z => h (Sum.inr.inj z)
theorem v_cells (c l : Addr) (k : Int) : valV (mkv c l k) (Sum.inr "cells" : Key) = some (.ref c) := by simp [valV, mkv, List.find?_cons]
theorem v_left (c l : Addr) (k : Int) : valV (mkv c l k) (Sum.inr "left" : Key) = some (.ref l) := by simp [valV, mkv, List.find?_cons, n1]
theorem v_at (c l : Addr) (k : Int) : valV (mkv c l k) (Sum.inr "at" : Key) = some (.int k) := by simp [valV, mkv, List.find?_cons, n2, n3]
theorem p_left (c l l' : Addr) (k : Int) : putK (mkv c l k) (Sum.inr "left" : Key) (.ref l') = mkv c l' k := by simp [putK, mkv, n1, n3']
theorem p_at (c l : Addr) (k k' : Int) : putK (mkv c l k) (Sum.inr "at" : Key) (.int k') = mkv c l k' := by simp [putK, mkv, n2, n3]
theorem mk_merge (c l : Addr) (k : Int) : mergeK [] (mkv c l k) = mkv c l k := by simp [mergeK, putK, mkv, n1, n2, n3]
structure MAt (H : Hp) (m c l : Addr) (k : Int) : Prop where
  hm : H m = some (.dK (mkv c l k))
  hc : ∃ cs : List Int, H c = some (.lst (cs.map V.int)) ∧ cs.length ≤ 1000
  hl : ∃ ls : List Int, H l = some (.lst (ls.map V.int)) ∧ ls.length ≤ 1000
  ne : c ≠ l
  k0 : 0 ≤ k
  k1 : k ≤ 1000000
/-- a drawn number from 0 to n - 1; only the dict and its list of great cells have changed -/
def spNext : Sp := fun vs H Q _ => ∃ (m c l : Addr) (k n : Int), vs = [.ref m, .int n] ∧ MAt H m c l k ∧ 0 < n ∧ n < 1000000 ∧ k < 1000000 ∧
  ∀ (r : Int) (H' : Hp) (l' : Addr) (k' : Int), 0 ≤ r → r < n → k' ≤ k + 1 → MAt H' m c l' k' → (l' = l ∨ H l' = none) → (∀ b o, H b = some o → b ≠ m → b ≠ l → H' b = some o) → Q (.int r) H'
/-- the beginning -/
def spBegun (K : PySem.W.Frag) : Sp := fun vs H Q _ => ∃ (a : Addr) (ns : List Int), vs = [.ref a] ∧ SqL K H a (ns.map V.int) ∧ ns.length ≤ 1000 ∧
  ∀ (m c l : Addr) (H' : Hp), MAt H' m c l 0 → H m = none → H c = none → H l = none → Same H H' → Q (.ref m) H'
structure TxtD (mg : Str → Option Value) : Prop where
  list : mg "list" = none
  int : mg "int" = none
  len : mg "len" = none
theorem same_upd {H : Hp} {p : Addr} {o : HO} (h : H p = none) : Same H (upd H p o) := fun b u e => by
  rw [upd_ne (ne_of_none e h)]
  exact e
theorem MAt.same {H H' : Hp} {m c l : Addr} {k : Int} (M : MAt H m c l k) (s : Same H H') : MAt H' m c l k := by
  obtain ⟨h1, ⟨cs, h2, h3⟩, ⟨ls, h4, h5⟩, h6, h7, h8⟩ := M
  exact ⟨s _ _ h1, ⟨cs, s _ _ h2, h3⟩, ⟨ls, s _ _ h4, h5⟩, h6, h7, h8⟩
theorem MAt.set {H : Hp} {m c l : Addr} {k : Int} {ls : List Int} (M : MAt H m c l k) (hz : ls.length ≤ 1000) : MAt (upd H l (.lst (ls.map V.int))) m c l k := by
  obtain ⟨h1, ⟨cs, h2, h3⟩, ⟨ls0, h4, h5⟩, h6, h7, h8⟩ := M
  have ml : m ≠ l := ne_of h1 h4 (fun z => by cases z)
  exact ⟨by rw [upd_ne ml]; exact h1, ⟨cs, by rw [upd_ne h6]; exact h2, h3⟩, ⟨ls, upd_same, hz⟩, h6, h7, h8⟩
/-- another list of great cells -/
theorem MAt.turn {H : Hp} {m c l p : Addr} {k : Int} {ls : List Int} (M : MAt H m c l k) (hp : H p = none) (hz : ls.length ≤ 1000) : MAt (upd (upd H p (.lst (ls.map V.int))) m (.dK (mkv c p k))) m c p k := by
  obtain ⟨h1, ⟨cs, h2, h3⟩, ⟨ls0, h4, h5⟩, h6, h7, h8⟩ := M
  have mp : p ≠ m := (ne_of_none h1 hp).symm
  have cp : c ≠ p := ne_of_none h2 hp
  have cm : c ≠ m := ne_of h2 h1 (fun z => by cases z)
  exact ⟨upd_same, ⟨cs, by rw [upd_ne cm, upd_ne cp]; exact h2, h3⟩, ⟨ls, by rw [upd_ne mp]; exact upd_same, hz⟩, cp, h7, h8⟩
/-- another counter -/
theorem MAt.count {H : Hp} {m c l : Addr} {k k' : Int} (M : MAt H m c l k) (h0 : 0 ≤ k') (h1' : k' ≤ 1000000) : MAt (upd H m (.dK (mkv c l k'))) m c l k' := by
  obtain ⟨h1, ⟨cs, h2, h3⟩, ⟨ls0, h4, h5⟩, h6, h7, h8⟩ := M
  have lm : l ≠ m := ne_of h4 h1 (fun z => by cases z)
  have cm : c ≠ m := ne_of h2 h1 (fun z => by cases z)
  exact ⟨upd_same, ⟨cs, by rw [upd_ne cm]; exact h2, h3⟩, ⟨ls0, by rw [upd_ne lm]; exact h4, h5⟩, h6, h0, h1'⟩
section
variable {K : PySem.W.Frag} {σ : St} {H : Hp} {m c l : Addr} {k : Int}
theorem rd_left {Q : VK} (h0 : σ[0]? = some (some (.ref m))) (M : MAt H m c l k) (q : Q (.ref l) H) : tDGet (tVar 0) (tC (.str "left")) σ H Q := by
  have z : DGet H m (.str "left") (valV (mkv c l k) (Sum.inr "left" : Key)) := DGet.k (k := Sum.inr "left") M.hm
  rw [v_left] at z
  exact ⟨_, h0, m, _, rfl, z, q⟩
theorem rd_cells {Q : VK} (h0 : σ[0]? = some (some (.ref m))) (M : MAt H m c l k) (q : Q (.ref c) H) : tDGet (tVar 0) (tC (.str "cells")) σ H Q := by
  have z : DGet H m (.str "cells") (valV (mkv c l k) (Sum.inr "cells" : Key)) := DGet.k (k := Sum.inr "cells") M.hm
  rw [v_cells] at z
  exact ⟨_, h0, m, _, rfl, z, q⟩
theorem rd_at {Q : VK} (h0 : σ[0]? = some (some (.ref m))) (M : MAt H m c l k) (q : Q (.int k) H) : tDGet (tVar 0) (tC (.str "at")) σ H Q := by
  have z : DGet H m (.str "at") (valV (mkv c l k) (Sum.inr "at" : Key)) := DGet.k (k := Sum.inr "at") M.hm
  rw [v_at] at z
  exact ⟨_, h0, m, _, rfl, z, q⟩
/-- a list of ints against the empty one -/
theorem ne_empty {Q : Bool → Hp → Prop} {a : Addr} {ls : List Int} (hl : H a = some (.lst (ls.map V.int))) (q : ∀ p, H p = none → Q (!ls.isEmpty) (upd H p (.lst []))) :
    tLst tNil σ H fun y H2 => rNeD K (.ref a) y H2 fun x H' => ∃ k, x = .bl k ∧ Q k H' := by
  refine ⟨by decide, fun p hp => ⟨.list (ls.map PyData.int), .list [], dp_list (same_upd hp _ _ hl), .lst (SqL.of upd_same) .nil, shaped_ints ls, shaped_ints [], _, rfl, ?_⟩⟩
  rw [eqv_nil]
  exact q p hp
theorem cut_one (ls : List Int) : cutV (ls.map V.int) (some 1) none = (ls.drop 1).map V.int := by
  unfold cutV
  have e1 : HT.sIx (ls.map V.int).length 0 (some 1) = min 1 (ls.map V.int).length := HT.sIx_nat _ _ 1
  rw [e1, HT.sIx_none]
  cases ls with
  | nil => rfl
  | cons x r =>
    have e2 : min 1 ((x :: r).map V.int).length = 1 := by simp
    rw [e2]
    show List.take ((x :: r).map V.int).length.pred (r.map V.int) = r.map V.int
    exact List.take_of_length_le (by simp)
end
theorem byAll {P : Int → Prop} {G : Prop} (a : (∀ x, P x) → G) (b : ∀ x, P x) : G := a b
theorem iteF' {b : Bool} {A B : Prop} (h : b = false) (q : B) : if b = true then A else B := by
  rw [h]
  exact iteF q
theorem iteT' {b : Bool} {A B : Prop} (h : b = true) (q : A) : if b = true then A else B := by
  rw [h]
  exact iteT q
theorem seq_while {tc : TT} {tb u : TS} {D : Ends} {σ : St} {H : Hp} (W : Nat → Hp → Prop) (R : Hp → Prop) {j0 : Nat} (h0 : W j0 H) (hr : ∀ H2, R H2 → u D σ H2)
    (turn : (∀ H2, R H2 → u D σ H2) → ∀ j H1, W j H1 → tc σ H1 fun b H2 => if b = true then
      ∃ N : St → Hp → Prop, (∀ σ' H', N σ' H' → ∃ j', j' < j ∧ (σ' = σ ∧ W j' H')) ∧ tb { nx := N, rt := D.rt, bk := u D, ct := N } σ H2 else u D σ H2) :
    tSeq (tWhile tc tb) u D σ H := by
  refine ⟨fun j σ' H' => σ' = σ ∧ W j H', ⟨j0, rfl, h0⟩, ?_⟩
  rintro j σ' H1 ⟨rfl, w⟩
  exact turn hr j H1 w
section
variable {P : Program} {w : World} {K : PySem.W.Frag} {mg : Str → Option Value} {base : Heap}
theorem scN : FnScope ["m", "total", "rest", "k", "cell", "mixed"] ["m", "total"] (defScope sNext) := ⟨rfl, rfl, rfl, by decide +kernel, rfl, by decide +kernel, by decide +kernel⟩
theorem ok_next {f : Addr} {fd : FuncData} (F : Fun K "_law_next" "_law_next" sNext f fd) (T : TxtD mg) : FnOk P w K mg base CX0 1 f fd ["m", "total"] spNext := by
  refine F.ok scN (fun vs H Q E h => ?_) (fun cdv A outer s H vs Q E hr h => ?_)
  · obtain ⟨m, c, l, k, n, rfl, _⟩ := h
    rfl
  · obtain ⟨m, c, l, k, n, rfl, M, n0, n1, kk, q⟩ := h
    have hu := hu_of hr
    have hu2 := hr.units
    refine ⟨_, pss_cons (ps_while PassesOwn.never
        (pw_and (pt_cmpR (op_neD hu2) (pe_dget hu (pv 0) pe_str (fun _ _ => rfl)) (pe_lst pa_nil) (nomark _))
          (pw_and1 (pt_cmpR op_eq (pe_ix ix_list (pe_dget hu (pv 0) pe_str (fun _ _ => rfl)) pe_int (fun _ _ => rfl)) pe_int (nomark _)))).pt
        (pss_one (ps_dput hu (pv 0) pe_str (pe_slice sl_list (pe_dget hu (pv 0) pe_str (fun _ _ => rfl)) (po_some pe_int) po_none) rfl)))
      (pss_cons (ps_if (pt_cmpR (op_neD hu2) (pe_dget hu (pv 0) pe_str (fun _ _ => rfl)) (pe_lst pa_nil) (nomark _))
        (pss_cons (ps_set (i := 2) scN.nd rfl (Or.inl rfl) (pe_callTy call_int1 (by rfl) T.int (by decide +kernel) (pa_cons (pe_ix ix_list (pe_dget hu (pv 0) pe_str (fun _ _ => rfl)) pe_int (fun _ _ => rfl)) pa_nil)))
        (pss_cons (ps_asg (pe_op op_fdiv (pv 2) (pv 1)) (pg_sub (pe_dget hu (pv 0) pe_str (fun _ _ => rfl)) pe_int set_list))
        (pss_one (ps_ret (pe_op op_mod (pv 2) (pv 1)))))) pss_nil)
      (pss_cons (ps_set (i := 3) scN.nd rfl (Or.inl rfl) (pe_op op_add (pe_dget hu (pv 0) pe_str (fun _ _ => rfl)) pe_int))
      (pss_cons (ps_dput hu (pv 0) pe_str (pv 3) rfl)
      (pss_cons (ps_set (i := 4) scN.nd rfl (Or.inl rfl) (pe_ifExp (pt_cmpR (op_neD hu2) (pe_dget hu (pv 0) pe_str (fun _ _ => rfl)) (pe_lst pa_nil) (nomark _))
        (pe_ix ix_list (pe_dget hu (pv 0) pe_str (fun _ _ => rfl))
          (pe_op op_mod (pe_callTy call_int1 (by rfl) T.int (by decide +kernel) (pa_cons (pv 3) pa_nil)) (pe_callB call_len_seq (by rfl) T.len PySem.boot_len (pa_cons (pe_dget hu (pv 0) pe_str (fun _ _ => rfl)) pa_nil))) (fun _ _ => rfl))
        pe_int))
      (pss_cons (ps_set (i := 5) scN.nd rfl (Or.inl rfl) (pe_op op_mul (pe_callTy call_int1 (by rfl) T.int (by decide +kernel) (pa_cons
        (pe_op op_add (pe_op op_add (pe_op op_mod (pe_callTy call_int1 (by rfl) T.int (by decide +kernel) (pa_cons (pv 4) pa_nil)) pe_int) (pe_op op_mul pe_int (pv 3))) (pe_op op_mul (pe_op op_mul pe_int (pv 3)) (pv 3))) pa_nil)) pe_int))
      (pss_cons (ps_set (i := 5) scN.nd rfl (Or.inl rfl) (pe_op op_mul (pe_callTy call_int1 (by rfl) T.int (by decide +kernel) (pa_cons
        (pe_op op_add (pe_op op_mod (pe_callTy call_int1 (by rfl) T.int (by decide +kernel) (pa_cons (pv 5) pa_nil)) pe_int) (pe_op op_mul pe_int (pv 3))) pa_nil)) pe_int))
      (pss_one (ps_ret (pe_op op_mod (pe_callTy call_int1 (by rfl) T.int (by decide +kernel) (pa_cons
        (pe_op op_fdiv (pe_op op_mod (pe_callTy call_int1 (by rfl) T.int (by decide +kernel) (pa_cons (pv 5) pa_nil)) pe_int) pe_int) pa_nil)) (pv 1)))))))))), ?_⟩
    obtain ⟨ls0, hl0, ll0⟩ := id M.hl
    refine seq_while (fun j H1 => ∃ (l1 : Addr) (ls : List Int), MAt H1 m c l1 k ∧ H1 l1 = some (.lst (ls.map V.int)) ∧ ls.length = j ∧ (l1 = l ∨ H l1 = none) ∧ (∀ b o, H b = some o → b ≠ m → b ≠ l → H1 b = some o) ∧ ∃ o, H1 l = some o)
      (fun H1 => ∃ (l1 : Addr) (ls : List Int), MAt H1 m c l1 k ∧ H1 l1 = some (.lst (ls.map V.int)) ∧ (l1 = l ∨ H l1 = none) ∧ (∀ b o, H b = some o → b ≠ m → b ≠ l → H1 b = some o))
      ⟨l, ls0, M, hl0, rfl, .inl rfl, fun b o e _ _ => e, _, hl0⟩ ?_ ?_
    · rintro H1 ⟨l1, ls, M1, hl, fl, kp⟩
      refine rd_left rfl M1 (ne_empty hl fun p hp => ?_)
      have M2 := MAt.same M1 (same_upd (o := .lst []) hp)
      have hl2 : upd H1 p (.lst []) l1 = some (.lst (ls.map V.int)) := same_upd hp _ _ hl
      cases ls with
      | cons x r =>
        refine iteT' rfl ?_
        refine rd_left rfl M2 ?_
        refine ⟨l1, _, 0, .int x, rfl, rfl, SqL.of hl2, atI_nat (j := 0) rfl, .inl ⟨x, rfl, ?_⟩⟩
        refine ⟨_, rfl, _, rfl, x, n, rfl, rfl, ⟨n0, by omega⟩, ?_⟩
        refine rd_left rfl M2 ?_
        refine ⟨l1, _, 0, 0, rfl, rfl, hl2, by simp [ixN], ?_⟩
        refine ⟨_, rfl, _, rfl, x, n, rfl, rfl, n0, ?_⟩
        show Q (.int (x % n)) _
        have hz : ((x / n) :: r).length ≤ 1000 := by
          obtain ⟨ls', e1, e2⟩ := M2.hl
          rw [hl2] at e1
          have e3 := congrArg List.length (HO.lst.inj (Option.some.inj e1))
          simp only [List.length_map] at e3
          rw [List.length_cons] at e3 ⊢
          omega
        refine q (x % n) _ l1 k (Int.emod_nonneg _ (by omega)) (Int.emod_lt_of_pos _ n0) (by omega) (M2.set hz) fl fun b o e h1 h2 => ?_
        have h3 : b ≠ l1 := by
          rcases fl with z | z
          · rw [z]
            exact h2
          · exact ne_of_none e z
        rw [upd_ne h3]
        exact same_upd hp _ _ (kp b o e h1 h2)
      | nil =>
        refine iteF' rfl ?_
        refine rd_at rfl M2 ⟨k, 1, rfl, rfl, ?_⟩
        refine ⟨_, rfl, _, rfl, m, _, rfl, DPut.k (k := Sum.inr "at") M2.hm (small1000 (by show 3 ≤ 1000; decide)), ?_⟩
        rw [p_at]
        have M3 := M2.count (k' := k + 1) (by have := M2.k0; omega) (by omega)
        obtain ⟨cs, hc, lc⟩ := id M3.hc
        have k0 := M.k0
        have kp3 : ∀ b o, H b = some o → b ≠ m → b ≠ l → upd (upd H1 p (.lst [])) m (.dK (mkv c l1 (k + 1))) b = some o := fun b o e h1 h2 => by
          rw [upd_ne h1]
          exact same_upd hp _ _ (kp b o e h1 h2)
        refine rd_cells rfl M3 (ne_empty hc fun p3 hp3 => ?_)
        have M4 := MAt.same M3 (same_upd (o := .lst []) hp3)
        have hc4 := same_upd (o := .lst []) hp3 _ _ hc
        have kp4 : ∀ b o, H b = some o → b ≠ m → b ≠ l → upd (upd (upd H1 p (.lst [])) m (.dK (mkv c l1 (k + 1)))) p3 (.lst []) b = some o := fun b o e h1 h2 => same_upd hp3 _ _ (kp3 b o e h1 h2)
        apply byAll
        case a =>
          intro fin
          by_cases he : cs.isEmpty = true
          · refine iteF' (by rw [he]; rfl) ?_
            generalize (3 : Int) = x
            exact fin x
          · refine iteT' (by simpa using he) ?_
            refine rd_cells rfl M4 ?_
            have ne0 : 0 < cs.length := List.length_pos_iff.mpr (fun z => he (by rw [z]; rfl))
            have pos : (0 : Int) < ((cs.map V.int).length : Nat) := by
              simp only [List.length_map]
              omega
            refine ⟨_, rfl, .inl ⟨k + 1, rfl, ?_⟩⟩
            refine rd_cells rfl M4 ?_
            refine ⟨c, _, rfl, .inl (SqL.of hc4), k + 1, _, rfl, rfl, pos, ?_⟩
            have i0 := Int.emod_nonneg (k + 1) (Int.ne_of_gt pos)
            have i1 := Int.emod_lt_of_pos (k + 1) pos
            obtain ⟨j, hj⟩ := Int.eq_ofNat_of_zero_le i0
            have jl : j < cs.length := by
              simp only [List.length_map] at i1 hj
              omega
            obtain ⟨x, hx⟩ : ∃ x : Int, cs[j]? = some x := ⟨cs[j], List.getElem?_eq_getElem jl⟩
            refine ⟨c, _, _, V.int x, rfl, rfl, SqL.of hc4, ?_, ?_⟩
            · rw [hj]
              refine atI_nat ?_
              rw [List.getElem?_map, hx]
              rfl
            · exact fin x
        case b =>
          intro x
          have k2 : -(2 ^ 64) < k + 1 ∧ k + 1 < 2 ^ 64 := ⟨by omega, by omega⟩
          refine ⟨_, rfl, .inl ⟨x, rfl, _, _, rfl, rfl, (by show (0 : Int) < 2147483629; decide), _, rfl, _, _, rfl, rfl, .inl ⟨by decide, by decide⟩, _, _, rfl, rfl, _, rfl, _, _, rfl, rfl, .inl ⟨by decide, by decide⟩,
            _, rfl, _, _, rfl, rfl, .inr k2, _, _, rfl, rfl, .inl ⟨_, rfl, _, _, rfl, rfl, .inr ⟨by decide, by decide⟩, ?_⟩⟩⟩
          refine ⟨_, rfl, .inl ⟨_, rfl, _, _, rfl, rfl, (by show (0 : Int) < 2147483647; decide), _, rfl, _, _, rfl, rfl, .inl ⟨by decide, by decide⟩, _, _, rfl, rfl, .inl ⟨_, rfl, _, _, rfl, rfl, .inr ⟨by decide, by decide⟩, ?_⟩⟩⟩
          refine ⟨_, rfl, .inl ⟨_, rfl, _, _, rfl, rfl, (by show (0 : Int) < 2147483587; decide), _, _, rfl, rfl, ⟨by decide, by decide⟩, .inl ⟨_, rfl, _, rfl, _, _, rfl, rfl, n0, ?_⟩⟩⟩
          exact q _ _ l1 (k + 1) (Int.emod_nonneg _ (by omega)) (Int.emod_lt_of_pos _ n0) (by omega) M4 fl kp4
    · rintro out j H1 ⟨l1, ls, M1, hl, lj, fl, kp, lo⟩
      refine rd_left rfl M1 (ne_empty hl fun p hp => ?_)
      have M2 := MAt.same M1 (same_upd (o := .lst []) hp)
      have hl2 : upd H1 p (.lst []) l1 = some (.lst (ls.map V.int)) := same_upd hp _ _ hl
      have kp2 : ∀ b o, H b = some o → b ≠ m → b ≠ l → upd H1 p (.lst []) b = some o := fun b o e h1 h2 => same_upd hp _ _ (kp b o e h1 h2)
      have lo2 : ∃ o, upd H1 p (.lst []) l = some o := lo.elim fun o e => ⟨o, same_upd hp _ _ e⟩
      cases ls with
      | nil =>
        refine iteF' rfl (iteF' rfl ?_)
        exact out _ ⟨l1, [], M2, hl2, fl, kp2⟩
      | cons x r =>
        refine iteT' rfl (rd_left rfl M2 ⟨l1, _, 0, .int x, rfl, rfl, SqL.of hl2, atI_nat (j := 0) rfl, rfl, _, rfl, ?_⟩)
        refine ite2 (fun z => ?_) (fun z => ?_)
        · refine ⟨_, fun _ _ z => z, ?_⟩
          refine rd_left rfl M2 ⟨1, rfl, l1, _, rfl, SqL.of hl2, fun p2 hp2 => ?_⟩
          have M3 : MAt (upd (upd H1 p (.lst [])) p2 (.lst (cutV ((x :: r).map V.int) (some 1) none))) m c l1 k := MAt.same M2 (same_upd hp2)
          refine ⟨_, rfl, m, _, rfl, DPut.k (k := Sum.inr "left") M3.hm (small1000 (by show 3 ≤ 1000; decide)), ?_⟩
          rw [p_left, cut_one]
          have hz : ((x :: r).drop 1).length ≤ 1000 := by
            obtain ⟨ls', e1, e2⟩ := M2.hl
            rw [hl2] at e1
            have e3 := congrArg List.length (HO.lst.inj (Option.some.inj e1))
            simp only [List.length_map] at e3
            rw [List.length_cons] at e3
            simp only [List.drop_succ_cons, List.drop_zero]
            omega
          have mp : p2 ≠ m := (ne_of_none M2.hm hp2).symm
          refine ⟨r.length, by rw [← lj]; simp, rfl, p2, r, M2.turn hp2 hz, by rw [upd_ne mp]; exact upd_same, rfl, .inr ?_, fun b o e h1 h2 => ?_, ?_⟩
          · cases q0 : H p2 with
            | none => rfl
            | some o =>
              have a2 : p2 ≠ l := by
                obtain ⟨o, e⟩ := lo2
                exact (ne_of_none e hp2).symm
              rw [kp2 p2 o q0 mp a2] at hp2
              cases hp2
          · rw [upd_ne h1]
            exact same_upd hp2 _ _ (kp2 b o e h1 h2)
          · obtain ⟨o, e⟩ := lo2
            refine ⟨o, ?_⟩
            by_cases lm : l = m
            · subst lm
              rw [M.hm] at hl0
              cases hl0
            · rw [upd_ne lm]
              exact same_upd hp2 _ _ e
        · exact out _ ⟨l1, x :: r, M2, hl2, fl, kp2⟩
theorem scB : FnScope ["script", "cell"] ["script"] (defScope sBegun) := ⟨rfl, rfl, rfl, by decide +kernel, rfl, by decide +kernel, by decide +kernel⟩
theorem ok_begun {f : Addr} {fd : FuncData} (F : Fun K "_law_begun" "_law_begun" sBegun f fd) (T : TxtD mg) : FnOk P w K mg base CX0 1 f fd ["script"] (spBegun K) := by
  refine F.ok scB (fun vs H Q E h => ?_) (fun cdv A outer s H vs Q E hr h => ?_)
  · obtain ⟨a, ns, rfl, _⟩ := h
    rfl
  · obtain ⟨a, ns, rfl, hS, hl, q⟩ := h
    refine ⟨_, pss_one (ps_ret (pe_disp (pps_cons pe_str (pe_callTy call_list_of (by rfl) T.list (by decide +kernel) (pa_cons (pv 0) pa_nil))
      (pps_cons pe_str (pe_lc (own := [("cell", 1)]) (g := gName 1) rfl scB.nd (pi_list (pv 0)) (blkOk_by (N := ["script", "cell"]) (sc := defScope sBegun) (by decide +kernel))
        (fun _ _ _ _ _ => pg_name (i := 1) scB.nd rfl (Or.inl rfl)) (fun _ _ _ _ _ => pts_one (pt_cmpR op_ge (pv 1) (pe_op op_pow pe_int pe_int) (nomark _))) (fun _ _ _ _ _ => pv 1))
      (pps_cons pe_str pe_int pps_nil))) rfl rfl (by simp) (by decide))), ?_⟩
    intro m hm
    have s1 : Same H (upd H m (.dK [])) := same_upd hm
    refine ⟨_, rfl, a, ns.map V.int, rfl, .inl (s1.seq hS), fun c hc => ?_⟩
    have s2 := s1.trans (same_upd (o := .lst (ns.map V.int)) hc)
    refine ⟨_, rfl, a, rfl, ⟨_, s2.seq hS⟩, fun l hl0 => ?_⟩
    have mc : m ≠ c := ne_of_none upd_same hc
    have hm2 : upd (upd H m (.dK [])) c (.lst (ns.map V.int)) m = some (.dK []) := by
      rw [upd_ne mc]
      exact upd_same
    have ml : m ≠ l := ne_of_none hm2 hl0
    have cl : c ≠ l := ne_of_none (upd_same) hl0
    refine lc_list (K := K) (a := a) (xs := ns.map V.int) (fun i H' => ∃ acc : List Int, H' l = some (.lst (acc.map V.int)) ∧ acc.length ≤ i ∧ ∀ b o, upd (upd H m (.dK [])) c (.lst (ns.map V.int)) b = some o → H' b = some o)
      ⟨[], upd_same, Nat.le_refl _, fun b o e => same_upd hl0 _ _ e⟩ (fun i H' _ ⟨acc, _, _, k⟩ => Same.seq (s2.trans k) hS) ?_ ?_
    · rintro i x H' hi ⟨acc, ha, la, kp⟩
      obtain ⟨z, rfl⟩ : ∃ z, x = V.int z := by
        rw [List.getElem?_map] at hi
        cases e : ns[i]? with
        | none =>
          rw [e] at hi
          cases hi
        | some z =>
          rw [e] at hi
          exact ⟨z, (Option.some.inj hi).symm⟩
      have il : i < ns.length := by
        have := (List.getElem?_eq_some_iff.mp hi).1
        simpa using this
      refine ⟨rfl, _, rfl, 10, 18, rfl, rfl, ⟨by decide, by decide, by decide⟩, _, _, rfl, rfl, _, rfl, ?_⟩
      refine ite2 (fun _ => ⟨_, rfl, acc.map V.int, ha, ?_, acc ++ [z], ?_, ?_, fun b o e => ?_⟩) (fun _ => ⟨acc, ha, Nat.le_succ_of_le la, kp⟩)
      · rw [List.length_map]
        exact small1000 (by omega)
      · rw [List.map_append]
        exact upd_same
      · simp only [List.length_append, List.length_cons, List.length_nil]
        omega
      · rw [upd_ne (ne_of_none e hl0)]
        exact kp b o e
    · rintro H' ⟨acc, ha, la, kp⟩
      rw [List.length_map] at la
      refine ⟨kp _ _ hm2, mkv c l 0, rfl, (by show 3 ≤ 15; decide), ?_⟩
      rw [mk_merge]
      have lm : l ≠ m := ml.symm
      have cm : c ≠ m := mc.symm
      refine q m c l _ ⟨upd_same, ⟨ns, by rw [upd_ne cm]; exact kp _ _ upd_same, hl⟩, ⟨acc, by rw [upd_ne lm]; exact ha, by omega⟩, cl, by decide, by decide⟩ hm (s1.free hc) (s2.free hl0) fun b o e => ?_
      rw [upd_ne (ne_of_none e hm)]
      exact kp _ _ (s2 _ _ e)
end
end K41

set_option Elab.async false
set_option linter.all false
set_option maxRecDepth 100000
set_option maxHeartbeats 4000000
/-! is_number, is_piece, is_step: of what a framing holds. -/
namespace K41
open PySem L2 L2.EV
abbrev sNum : Stmt := top 10
abbrev sPc : Stmt := top 11
abbrev sStep : Stmt := top 12
def sgs : List Nat := sl ("abcdefghijklmnopqrstuvwxyz0123456789@" : Str)
theorem no59 : ¬ (59 ∈ sgs) := by decide +kernel
theorem semi : sl (";" : Str) = [59] := by decide +kernel
theorem semi1 : (";" : Str).length = 1 := by decide +kernel
/-- a piece; it ends a line if last -/
def Pc (p : Str) (last : Bool) : Prop := ∃ b : List Nat, sl p = b ++ (if last = true then [59] else []) ∧ b.length ≤ 7 ∧ (∀ c ∈ b, c ∈ sgs) ∧ (last = false → b ≠ [])
theorem len_sl (p : Str) : p.length = (sl p).length := by
  show p.cps.size = p.cps.toList.length
  simp
theorem pc_len {p : Str} {l : Bool} (h : Pc p l) : 1 ≤ p.length ∧ p.length ≤ 8 := by
  obtain ⟨b, e, h1, _, h2⟩ := h
  rw [len_sl, e, List.length_append]
  cases l with
  | true =>
    rw [if_pos rfl]
    simp only [List.length_cons, List.length_nil]
    omega
  | false =>
    have := List.length_pos_iff.mpr (h2 rfl)
    rw [if_neg (by simp)]
    simp only [List.length_nil]
    omega
theorem at_end {p : Str} : Builtin.Str.subAt p ";" (p.length - (";" : Str).length) = (((sl p).drop ((sl p).length - 1)).take 1 == [59]) := by
  rw [StrLaws.subAt_eq, semi1, len_sl]
  show (((sl p).drop _).take 1 == sl (";" : Str)) = _
  rw [semi]
theorem pc_last {p : Str} {l : Bool} (h : Pc p l) : (decide (0 + (";" : Str).length ≤ p.length) && Builtin.Str.subAt p ";" (p.length - (";" : Str).length)) = l := by
  have z := pc_len h
  rw [at_end]
  have d : decide (0 + (";" : Str).length ≤ p.length) = true := decide_eq_true (by rw [semi1]; omega)
  rw [d, Bool.true_and]
  obtain ⟨b, e, h1, hb, h2⟩ := h
  rw [e]
  cases l with
  | true =>
    rw [if_pos rfl]
    simp
  | false =>
    rw [if_neg (by simp), List.append_nil]
    obtain ⟨M, y, rfl⟩ := SrtO.snoc_of (l := b) (List.length_pos_iff.mpr (h2 rfl))
    have hy : y ∈ sgs := hb y (by simp)
    have ne : ¬ y = 59 := fun q => no59 (q ▸ hy)
    simp [ne]
theorem pc_ends {p : Str} {l : Bool} (h : Pc p l) : Txt.endswith p ";" = l := pc_last h
theorem pc_cut {p : Str} {l : Bool} (h : Pc p l) : ∀ c ∈ sl (Txt.removesuffix p ";"), c ∈ sgs := by
  have z := pc_last h
  rw [StrLaws.removesuffix_eq]
  rw [show (decide (0 + (";" : Str).length ≤ p.length) && Builtin.Str.subAt p ";" (p.length - (";" : Str).length)) = l from z]
  obtain ⟨b, e, h1, hb, h2⟩ := h
  intro c hc
  cases l with
  | true =>
    rw [if_pos rfl] at hc e
    rw [semi1, len_sl] at hc
    have e' : p.cps.toList = b ++ [59] := e
    simp only [e, e', List.drop_zero, List.length_append, List.length_cons, List.length_nil] at hc
    have : (b ++ [59]).take (b.length + (0 + 1) - 1 - 0) = b := by simp
    rw [this] at hc
    exact hb c (by simpa using hc)
  | false =>
    rw [if_neg (by simp)] at hc
    rw [e, if_neg (by simp), List.append_nil] at hc
    exact hb c hc
/-- is_number(n, many) -/
def spNum : Sp := fun vs H Q _ => ∃ n m : Int, vs = [.int n, .int m] ∧ Q (.bl (decide (0 ≤ n) && decide (n < m))) H
/-- is_piece(p), p a piece -/
def spPc : Sp := fun vs H Q _ => ∃ (p : Str) (l : Bool), vs = [.str p] ∧ Pc p l ∧ ∀ H', Same H H' → Q (.bl true) H'
/-- what a step is -/
def Stp (x : T3) : Prop := 0 ≤ x.1 ∧ x.1 < 6 ∧ Pc x.2.1 (decide (x.2.2 = 0)) ∧ 0 ≤ x.2.2 ∧ x.2.2 < 6
/-- a step at t -/
abbrev S3 (H : Hp) (t : Addr) (x : T3) : Prop := H t = some (.tup [.int x.1, .str x.2.1, .int x.2.2])
def spStep : Sp := fun vs H Q _ => ∃ (t : Addr) (x : T3), vs = [.ref t] ∧ S3 H t x ∧ Stp x ∧ ∀ H', Same H H' → Q (.bl true) H'
structure TxtF (mg : Str → Option Value) : Prop where
  isi : mg "isinstance" = none
  int : mg "int" = none
  bool : mg "bool" = none
  str : mg "str" = none
  tuple : mg "tuple" = none
  len : mg "len" = none
  all : mg "all" = none
  signs : ∃ t, mg "SIGNS" = some (.str "abcdefghijklmnopqrstuvwxyz0123456789@" t)
  mSigns : ∃ t, mg "MOST_SIGNS" = some (.int 8 t)
  many : ∃ t, mg "MANY_STANDINGS" = some (.int 6 t)
section
variable {P : Program} {w : World} {K : PySem.W.Frag} {mg : Str → Option Value} {base : Heap}
theorem scNum : FnScope ["thing", "many"] ["thing", "many"] (defScope sNum) := ⟨rfl, rfl, rfl, by decide +kernel, rfl, by decide +kernel, by decide +kernel⟩
theorem ok_num {f : Addr} {fd : FuncData} (F : Fun K "is_number" "is_number" sNum f fd) (T : TxtF mg) : FnOk P w K mg base CX0 1 f fd ["thing", "many"] spNum := by
  refine F.ok scNum (fun vs H Q E h => ?_) (fun cdv A outer s H vs Q E hr h => ?_)
  · obtain ⟨n, m, rfl, _⟩ := h
    rfl
  · obtain ⟨n, m, rfl, q⟩ := h
    refine ⟨_, pss_one (ps_ret (pe_and (pe_callB call_isi (by rfl) T.isi PyProof.Rows.boot_isinstance (pa_cons (pv 0) (pa_cons (pe_bltn (v := .ty "int") (by rfl) T.int (by decide +kernel) rfl) pa_nil)))
      (pe_and (pe_not (pe_callB call_isi (by rfl) T.isi PyProof.Rows.boot_isinstance (pa_cons (pv 0) (pa_cons (pe_bltn (v := .ty "bool") (by rfl) T.bool (by decide +kernel) rfl) pa_nil))))
        (pe_one (pe_chain op_le op_lt pe_int (pv 0) (pv 1)))))), ?_⟩
    refine ⟨_, rfl, .int n, .ty "int", .type "int", .type "int", true, rfl, .ty "int", .base (.int n), kit_ty (by decide +kernel), true, rfl, iteT ?_⟩
    refine ⟨_, rfl, .int n, .ty "bool", .type "int", .type "bool", false, rfl, .ty "bool", .base (.int n), kit_ty (by decide +kernel), false, rfl, true, rfl, iteT ?_⟩
    refine ⟨_, rfl, 0, n, rfl, rfl, _, rfl, ?_⟩
    refine ite2 (fun z => ?_) (fun z => ?_)
    · refine ⟨_, rfl, n, m, rfl, rfl, ?_⟩
      rw [z, Bool.true_and] at q
      exact q
    · rw [eq_false_of_ne_true z, Bool.false_and] at q
      exact q
theorem scPc : FnScope ["thing", "sign"] ["thing"] (defScope sPc) := ⟨rfl, rfl, rfl, by decide +kernel, rfl, by decide +kernel, by decide +kernel⟩
theorem ok_pc {f : Addr} {fd : FuncData} (F : Fun K "is_piece" "is_piece" sPc f fd) (T : TxtF mg) : FnOk P w K mg base CX0 1 f fd ["thing"] spPc := by
  refine F.ok scPc (fun vs H Q E h => ?_) (fun cdv A outer s H vs Q E hr h => ?_)
  · obtain ⟨p, l, rfl, _⟩ := h
    rfl
  · obtain ⟨p, l, rfl, hp, q⟩ := h
    obtain ⟨ts, eS⟩ := T.signs
    obtain ⟨tm, eM⟩ := T.mSigns
    refine ⟨_, pss_cons (ps_if (pw_or (pt_not (pt_val (pe_callB call_isi (by rfl) T.isi PyProof.Rows.boot_isinstance (pa_cons (pv 0) (pa_cons (pe_bltn (v := .ty "str") (by rfl) T.str (by decide +kernel) rfl) pa_nil)))))
        (pw_or1 (pt_not (pt_chain op_le op_le pe_int (pe_callB call_len_str (by rfl) T.len PySem.boot_len (pa_cons (pv 0) pa_nil)) (pe_glob (v := .int 8) (by rfl) eM ⟨_, rfl⟩))))).pt
        (pss_one (ps_ret pe_bl)) pss_nil)
      (pss_one (ps_ret (pe_callB (cr_all rfl) (by rfl) T.all (by decide +kernel) (pa_cons (pe_lc (own := [("sign", 1)]) (g := gName 1) rfl scPc.nd
        (pi_str (pe_m1 PySem.F.slot_str_removesuffix PySem.F.type_str_removesuffix mt_removesuffix (pv 0) pe_str)) (blkOk_by (N := ["thing", "sign"]) (sc := defScope sPc) (by decide +kernel))
        (fun _ _ _ _ _ => pg_name (i := 1) scPc.nd rfl (Or.inl rfl)) (fun _ _ _ _ _ => pts_nil) (fun _ _ _ _ _ => pe_cmpR op_in_sign (pv 1) (pe_glob (v := .str "abcdefghijklmnopqrstuvwxyz0123456789@") (by rfl) eS ⟨_, rfl⟩) (by rfl))) pa_nil)))), ?_⟩
    have z := pc_len hp
    refine ⟨_, rfl, .str p, .ty "str", .type "str", .type "str", true, rfl, .ty "str", .base (.str p), kit_ty (by decide +kernel), true, rfl, iteF ?_⟩
    refine ⟨.str p, rfl, p, rfl, by rw [sizeLine_eq]; omega, 1, p.length, rfl, rfl, _, rfl, iteT' (decide_eq_true (by omega)) ⟨p.length, 8, rfl, rfl, _, rfl, ?_⟩⟩
    refine iteF' (by rw [decide_eq_true (by omega)]; rfl) ?_
    refine ⟨_, rfl, ⟨p, rfl⟩, p, ";", rfl, rfl, by rw [sizeLine_eq]; omega, _, rfl, fun D hD => ?_⟩
    refine lc_it walk_str (fun i H' => H' D = some (.lst ((List.replicate i true).map V.bl)) ∧ ∀ b o, H b = some o → H' b = some o) ⟨upd_same, fun b o z => same_upd hD b o z⟩ (fun _ _ _ _ => trivial) ?_ ?_
    · rintro i x H1 H2 hi ⟨hl, kp⟩ ⟨rfl, c, hc, rfl⟩
      refine ⟨rfl, ⟨_, rfl, c, _, rfl, rfl, ?_⟩⟩
      have hm : c ∈ sgs := pc_cut hp c (List.mem_of_getElem? (by simpa using hc))
      refine ⟨_, hl, ?_, ?_, fun b o z => ?_⟩
      · rw [List.length_map, List.length_replicate, sizeLine_eq]
        have l1 := PyProof.Rows.len_removesuffix p ";"
        have l2 : (Txt.removesuffix p ";").cps.size = (Txt.removesuffix p ";").length := rfl
        omega
      · have e : decide (c ∈ ("abcdefghijklmnopqrstuvwxyz0123456789@" : Str).cps.toList) = true := decide_eq_true hm
        rw [e, List.replicate_succ', List.map_append]
        exact upd_same
      · rw [upd_ne (ne_of_none z hD)]
        exact kp b o z
    · rintro H1 ⟨hl, kp⟩
      refine ⟨D, _, rfl, SqL.of hl, ?_⟩
      rw [show (List.replicate (Txt.removesuffix p ";").cps.size true).all id = true by simp]
      exact q H1 kp
theorem scStep : FnScope ["thing", "start", "piece", "goal"] ["thing"] (defScope sStep) := ⟨rfl, rfl, rfl, by decide +kernel, rfl, by decide +kernel, by decide +kernel⟩
theorem ok_step {f fN fP : Addr} {fd fdN fdP : FuncData} (F : Fun K "is_step" "is_step" sStep f fd) (T : TxtF mg) (FN : Fun K "is_number" "is_number" sNum fN fdN) (bN : Binds K fdN ["thing", "many"] []) (mN : mg "is_number" = some (.ref fN))
    (FP : Fun K "is_piece" "is_piece" sPc fP fdP) (bP : Binds K fdP ["thing"] []) (mP : mg "is_piece" = some (.ref fP)) : FnOk P w K mg base CX0 2 f fd ["thing"] spStep := by
  have GN : FnOk P w K mg base CX0 1 fN fdN ["thing", "many"] spNum := ok_num FN T
  have GP : FnOk P w K mg base CX0 1 fP fdP ["thing"] spPc := ok_pc FP T
  refine F.ok scStep (fun vs H Q E h => ?_) (fun cdv A outer s H vs Q E hr h => ?_)
  · obtain ⟨t, x, rfl, _⟩ := h
    rfl
  · obtain ⟨t, x, rfl, e, hx, q⟩ := h
    obtain ⟨tm, eM⟩ := T.many
    refine ⟨_, pss_cons (ps_if (pw_or (pt_not (pt_val (pe_callB call_isi (by rfl) T.isi PyProof.Rows.boot_isinstance (pa_cons (pv 0) (pa_cons (pe_bltn (v := .ty "tuple") (by rfl) T.tuple (by decide +kernel) rfl) pa_nil)))))
        (pw_or1 (pt_cmpR op_ne (pe_callB call_len_seq (by rfl) T.len PySem.boot_len (pa_cons (pv 0) pa_nil)) pe_int (nomark _)))).pt
        (pss_one (ps_ret pe_bl)) pss_nil)
      (pss_cons (ps_asg (pv 0) (pg_tup rfl (pgs_cons (pg_name (i := 1) scStep.nd rfl (Or.inl rfl)) (pgs_cons (pg_name (i := 2) scStep.nd rfl (Or.inl rfl)) (pgs_cons (pg_name (i := 3) scStep.nd rfl (Or.inl rfl)) pgs_nil)))))
      (pss_cons (ps_if (pw_or (pt_not (pt_val (pe_call GN hr (by rfl) mN FN.kp bN .nil pass0 (pa_cons (pv 1) (pa_cons (pe_glob (v := .int 6) (by rfl) eM ⟨_, rfl⟩) pa_nil)))))
        (pw_or (pt_not (pt_val (pe_call GP hr (by rfl) mP FP.kp bP .nil pass0 (pa_cons (pv 2) pa_nil))))
          (pw_or1 (pt_not (pt_val (pe_call GN hr (by rfl) mN FN.kp bN .nil pass0 (pa_cons (pv 3) (pa_cons (pe_glob (v := .int 6) (by rfl) eM ⟨_, rfl⟩) pa_nil)))))))).pt
        (pss_one (ps_ret pe_bl)) pss_nil)
      (pss_one (ps_ret (pe_cmpR op_eq (pe_m1 PySem.F.slot_str_endswith PySem.F.type_str_endswith mt_endswith (pv 2) pe_str) (pe_cmpR op_eq (pv 3) pe_int (nomark _)) (nomark _)))))), ?_⟩
    obtain ⟨h0, h6, hp, g0, g6⟩ := hx
    refine ⟨_, rfl, .ref t, .ty "tuple", .type "tuple", .type "tuple", true, rfl, .ty "tuple", .base (.tup e), kit_ty (by decide +kernel), true, rfl, iteF ?_⟩
    refine ⟨_, rfl, t, _, rfl, .inr (SqT.of e), rfl, _, rfl, iteF ?_⟩
    refine ⟨_, rfl, t, _, rfl, SqT.of e, rfl, _, _, rfl, _, _, rfl, _, _, rfl, rfl, ?_⟩
    refine ⟨_, rfl, x.1, 6, rfl, _, rfl, ?_⟩
    refine iteF' (by rw [decide_eq_true h0, decide_eq_true h6]; rfl) ?_
    refine ⟨_, rfl, x.2.1, _, rfl, hp, fun H1 s1 => ⟨_, rfl, iteF ?_⟩⟩
    refine ⟨_, rfl, x.2.2, 6, rfl, _, rfl, ?_⟩
    refine iteF' (by rw [decide_eq_true g0, decide_eq_true g6]; rfl) ?_
    refine ⟨_, rfl, ⟨_, rfl⟩, x.2.1, _, rfl, rfl, ⟨_, rfl, rfl, rfl, ?_⟩⟩
    rw [pc_ends hp]
    have e1 : decide (V.int x.2.2 = V.int 0) = decide (x.2.2 = 0) := by
      rw [dec_int]
      by_cases z : x.2.2 = 0
      · rw [z]
        rfl
      · rw [decide_eq_false z]
        exact beq_eq_false_iff_ne.mpr z
    rw [e1, decide_eq_true rfl]
    exact q H1 s1
end
end K41

set_option Elab.async false
set_option linter.all false
set_option maxRecDepth 100000
set_option maxHeartbeats 4000000
/-! {elt for tg in iter if .. for tg1 in iter1 if ..}: a set of ints by a comprehension of two clauses. -/
namespace L2
namespace EV
open PySem PySem.Spec PyProof.Rows
/-- the comprehension itself -/
abbrev sc2 (elt t0 i0 t1 i1 : Expr) (f0 f1 : List Expr) (sc : Scope) (pos : Pos) : Expr := .SetComp elt [⟨t0, i0, f0, 0⟩, ⟨t1, i1, f1, 0⟩] sc pos
section
variable (elt t0 i0 t1 i1 : Expr) (f0 f1 : List Expr) (sc : Scope) (pos : Pos) (it acc : Value) (env : Env)
theorem turn_outer : compTurn (sc2 elt t0 i0 t1 i1 f0 f1 sc pos) 0 it acc env = (do
    standAt i0.pos
    match ← pyNext it with
    | none => pure (.done .next)
    | some u =>
      letOwnedTupleGo t0 it u
      assign t0 env u
      let mut go := true
      for c in f0 do
        if go then go ← isTrue c env (eval c env)
      if go then
        let xs ← eval i1 env
        standAt i1.pos
        let xs ← foldedSetIterable i1 env xs
        let _ ← runOwn (.compStart (sc2 elt t0 i0 t1 i1 f0 f1 sc pos) 1 (← holding [xs] (pyIter xs)) acc env) env
      again (.compLoop (sc2 elt t0 i0 t1 i1 f0 f1 sc pos) 0 it acc env)) := by rfl
theorem turn_inner : compTurn (sc2 elt t0 i0 t1 i1 f0 f1 sc pos) 1 it acc env = (do
    standAt i1.pos
    match ← pyNext it with
    | none => pure (.done .next)
    | some u =>
      letOwnedTupleGo t1 it u
      assign t1 env u
      let mut go := true
      for c in f1 do
        if go then go ← isTrue c env (eval c env)
      if go then
        (do let y ← eval elt env; standAt elt.pos; let _ ← call (.builtin "set.add") [acc, y])
      again (.compLoop (sc2 elt t0 i0 t1 i1 f0 f1 sc pos) 1 it acc env)) := by rfl
end
section
variable {prog : Program} {w : World} {A : Around} {R : Result → Shared → Prop} {s : Shared} {elt t0 i0 t1 i1 : Expr} {f0 f1 : List Expr} {sc : Scope} {pos : Pos} {it acc : Value} {env : Env}
/-- what is wanted of an error in the block -/
abbrev Erx (prog : Program) (w : World) (A : Around) (env : Env) (R : Result → Shared → Prop) : Value → Shared → Prop := notedBy (model prog w) A env fun e s' => R (.error e) s'
/-- the tests of a clause -/
abbrev tests (fs : List Expr) (env : Env) : Sem Bool := forIn fs true fun c r => if r = true then do let ok ← isTrue c env (eval c env); pure (ForInStep.yield ok) else pure (ForInStep.yield r)
theorem loop_outer (fold : ∀ x, foldedSetIterable i1 env x = pure x) (J : Nat → Shared → Prop)
    (turn : ∀ n s, J n s → wpAny (model prog w) A (pyNext it) (fun r s1 => match r with
      | none => R (.ok .next) s1
      | some u => wpAny (model prog w) A (letOwnedTupleGo t0 it u) (fun _ s2 => wpAny (model prog w) A (assign t0 env u) (fun _ s3 => wpAny (model prog w) A (tests f0 env) (fun ok s4 =>
          if ok = true then wpAny (model prog w) A (eval i1 env) (fun xs s5 => wpAny (model prog w) A (pyIter xs) (fun itv s6 =>
            codeAny (model prog w) A (.compStart (sc2 elt t0 i0 t1 i1 f0 f1 sc pos) 1 itv acc env) (fun r s' => (∃ fl, r = .ok fl) ∧ ∃ m, m < n ∧ J m s') s6) (Erx prog w A env R) s5) (Erx prog w A env R) s4
          else ∃ m, m < n ∧ J m s4) (Erx prog w A env R) s3) (Erx prog w A env R) s2) (Erx prog w A env R) s1) (Erx prog w A env R) s) (n : Nat) (h : J n s) :
    codeAny (model prog w) A (.compLoop (sc2 elt t0 i0 t1 i1 f0 f1 sc pos) 0 it acc env) R s := by
  refine codeAny_loop rfl J (fun n s hJ => ?_) n h
  show wpAny _ A ((compTurn (sc2 elt t0 i0 t1 i1 f0 f1 sc pos) 0 it acc env).onRaise (fun x => do noteFrame x env; theTreesLotGoes x)) _ _ s
  refine wpAny_noted ?_
  rw [turn_outer]
  refine wpAny_bind (wpAny_standAt (wpAny_bind (wpAny_mono (turn n s hJ) (fun r s1 q1 => ?_) fun _ _ z => z)))
  cases r with
  | none => exact wpAny_pure q1
  | some u =>
    refine wpAny_bind (wpAny_mono q1 (fun _ s2 q2 => ?_) fun _ _ z => z)
    refine wpAny_bind (wpAny_mono q2 (fun _ s3 q3 => ?_) fun _ _ z => z)
    refine wpAny_bind (wpAny_mono q3 (fun ok s4 q4 => ?_) fun _ _ z => z)
    cases ok with
    | false => exact wpAny_pure ⟨rfl, q4⟩
    | true =>
      refine wpAny_bind (wpAny_mono q4 (fun xs s5 q5 => ?_) fun _ _ z => z)
      refine wpAny_bind (wpAny_standAt (wpAny_bind (wpAny_of_eq (fold xs) ?_)))
      refine wpAny_bind (wpAny_holding (wpAny_mono q5 (fun itv s6 q6 => ?_) fun _ _ z => z))
      refine wpAny_bind (wpAny_runOwn ?_)
      rw [Around.mark_none]
      refine codeAny_mono q6 fun r s' hr => ?_
      obtain ⟨⟨fl, rfl⟩, hm⟩ := hr
      first
        | exact wpAny_pure ⟨rfl, hm⟩
        | exact wpAny_bind (wpAny_pure (wpAny_pure ⟨rfl, hm⟩))
theorem loop_inner (J : Nat → Shared → Prop)
    (turn : ∀ n s, J n s → wpAny (model prog w) A (pyNext it) (fun r s1 => match r with
      | none => R (.ok .next) s1
      | some u => wpAny (model prog w) A (letOwnedTupleGo t1 it u) (fun _ s2 => wpAny (model prog w) A (assign t1 env u) (fun _ s3 => wpAny (model prog w) A (tests f1 env) (fun ok s4 =>
          if ok = true then wpAny (model prog w) A (eval elt env) (fun y s5 => wpAny (model prog w) A (call (.builtin "set.add") [acc, y]) (fun _ s6 => ∃ m, m < n ∧ J m s6) (Erx prog w A env R) s5) (Erx prog w A env R) s4
          else ∃ m, m < n ∧ J m s4) (Erx prog w A env R) s3) (Erx prog w A env R) s2) (Erx prog w A env R) s1) (Erx prog w A env R) s) (n : Nat) (h : J n s) :
    codeAny (model prog w) A (.compLoop (sc2 elt t0 i0 t1 i1 f0 f1 sc pos) 1 it acc env) R s := by
  refine codeAny_loop rfl J (fun n s hJ => ?_) n h
  show wpAny _ A ((compTurn (sc2 elt t0 i0 t1 i1 f0 f1 sc pos) 1 it acc env).onRaise (fun x => do noteFrame x env; theTreesLotGoes x)) _ _ s
  refine wpAny_noted ?_
  rw [turn_inner]
  refine wpAny_bind (wpAny_standAt (wpAny_bind (wpAny_mono (turn n s hJ) (fun r s1 q1 => ?_) fun _ _ z => z)))
  cases r with
  | none => exact wpAny_pure q1
  | some u =>
    refine wpAny_bind (wpAny_mono q1 (fun _ s2 q2 => ?_) fun _ _ z => z)
    refine wpAny_bind (wpAny_mono q2 (fun _ s3 q3 => ?_) fun _ _ z => z)
    refine wpAny_bind (wpAny_mono q3 (fun ok s4 q4 => ?_) fun _ _ z => z)
    cases ok with
    | false => exact wpAny_pure ⟨rfl, q4⟩
    | true =>
      refine wpAny_bind (wpAny_bind (wpAny_mono q4 (fun y s5 q5 => ?_) fun _ _ z => z))
      refine wpAny_bind (wpAny_standAt (wpAny_bind (wpAny_mono q5 (fun _ s6 q6 => ?_) fun _ _ z => z)))
      exact wpAny_pure (wpAny_pure ⟨rfl, q6⟩)
/-- a clause's start: its walk is begun already, or begins here -/
theorem start_inner (h0 : codeAny (model prog w) A (.compLoop (sc2 elt t0 i0 t1 i1 f0 f1 sc pos) 1 it acc env) R s)
    (h : wpAny (model prog w) A (pyIter it) (fun itv s' => codeAny (model prog w) A (.compLoop (sc2 elt t0 i0 t1 i1 f0 f1 sc pos) 1 itv acc env) R s') (Erx prog w A env R) s) :
    codeAny (model prog w) A (.compStart (sc2 elt t0 i0 t1 i1 f0 f1 sc pos) 1 it acc env) R s := by
  refine codeAny_of_tree ?_
  show wpAny _ _ ((compStart (sc2 elt t0 i0 t1 i1 f0 f1 sc pos) 1 it acc env).onRaise (fun x => do noteFrame x env; standAt theWindowsPlace)) _ _ s
  refine wpAny_notedAt ?_
  unfold compStart
  show wpAny _ _ (ask >>= _) _ _ s
  refine wpAny_bind (wpAny_askSetting (wpAny_ite ?_))
  split
  · first
      | exact wpAny_bind (wpAny_pure (wpAny_pure (And.intro rfl h0)))
      | exact wpAny_pure (And.intro rfl h0)
  · refine wpAny_bind (wpAny_rule ?_)
    show wpAny _ _ (standAt i1.pos >>= _) _ _ s
    exact wpAny_bind (wpAny_standAt (wpAny_bind (wpAny_mono h (fun itv s' q => wpAny_pure (And.intro rfl q)) fun _ _ z => z)))
end
/-- the set at D has got y -/
def addedS (w : World) (D : Addr) (y : V) (H : Hp) (N : Hp → Prop) : Prop := ∃ (k : Int) (S : Int → Bool) (n : Nat), y = .int k ∧ H D = some (SetO w D S n) ∧ n + 1 < scanBound ∧
  N (upd H D (SetO w D (fun j => S j || decide (j = k)) (if S k = true then n else n + 1)))
/-- the reading: D the new set; behind the first clause's store and tests the second walk, from which Nx is reached -/
def tSc2 (w : World) (wi : TI) (g : TG) (tt : TT) (wi1 : TI) (g1 : TG) (tt1 : TT) (te : TE) (vs vs1 : List Nat) : TE := fun σ H Q => wi σ H fun J H1 => ∀ D, H1 D = none →
  ∃ W : Nat → Nat → Hp → Prop, (∃ m, W 0 m (upd H1 D (SetO w D (fun _ => false) 0))) ∧ ∀ i m H, W i m H →
    (J.stop i H ∧ Q (.ref D) H) ∨ (J.go i H ∧ ∃ Nx : Hp → Prop, (∀ H', Nx H' → ∃ m', m' < m ∧ W (i + 1) m' H') ∧ ∀ x H', J.yld i H x H' → g x (wipe σ vs) H' fun σ2 H2 => wipe σ2 vs = wipe σ vs ∧ tt σ2 H2 fun b H3 =>
      if b = true then wi1 σ2 H3 fun J1 H4 => ∃ W1 : Nat → Nat → Hp → Prop, (∃ m, W1 0 m H4) ∧ ∀ j k H, W1 j k H →
        (J1.stop j H ∧ Nx H) ∨ (J1.go j H ∧ ∃ Nx1 : Hp → Prop, (∀ H', Nx1 H' → ∃ k', k' < k ∧ W1 (j + 1) k' H') ∧ ∀ x H', J1.yld j H x H' → g1 x (wipe σ2 vs1) H' fun σ3 H5 => wipe σ3 vs1 = wipe σ2 vs1 ∧ tt1 σ3 H5 fun b H6 =>
          if b = true then te σ3 H6 fun y H7 => addedS w D y H7 Nx1 else Nx1 H6)
      else Nx H3)
section
variable {X : Cx}
theorem add_in {pins : List (Addr × Obj)} {σ : L2.St} {H : Hp} {s : Shared} {D : Addr} {y : V} {u : Value} {N : Hp → Prop} {Q : Value → Shared → Prop} (I : Inv X pins σ H s) (r : RelV y u) (a : addedS X.w D y H N)
    (h : ∀ H' s', Inv X pins σ H' s' → N H' → Q .none s') : wpAny (model X.prog X.w) X.A (call (.builtin "set.add") [.ref D, u]) Q X.xe s := by
  obtain ⟨k, S, n, rfl, hD, room, nx⟩ := a
  refine thn (mt_sadd pins s σ H (.ref D) [.int k] (.ref D) [u] (fun v H' => v = .non ∧ N H') I rfl (.cons r .nil) ⟨D, k, S, n, rfl, rfl, hD, room, rfl, nx⟩) fun v s' q => ?_
  obtain ⟨v', H', I', rv, rfl, nx'⟩ := q
  obtain rfl : v = Value.none := rv
  exact h H' s' I' nx'
variable {elt tg iter tg1 iter1 : Expr} {ifs ifs1 : List Expr} {scope : Scope} {own : List (Str × Nat)} {vs1 : List Nat} {pos : Pos} {wi wi1 : TI} {g g1 : TG} {tt tt1 : TT} {te : TE}
theorem pe_sc2 (hc : X.calm = true) (hN : X.N.Nodup) (hi : PI X tg iter wi) (ok : BlkOk X.N X.env.scope scope own) (hv : ∀ i ∈ vs1, i ∈ own.map (·.2))
    (blk : ∀ (s : Shared) (H : Hp) (C : Addr) (cl : List (Str × Addr)) (fp : List Addr), PG (X.blk s H scope (compEnvC scope cl C X.env) fp) tg g ∧ PTs (X.blk s H scope (compEnvC scope cl C X.env) fp) ifs tt ∧
      PI (X.blk s H scope (compEnvC scope cl C X.env) fp) tg1 iter1 wi1 ∧ PG (X.blk s H scope (compEnvC scope cl C X.env) fp) tg1 g1 ∧ PTs (X.blk s H scope (compEnvC scope cl C X.env) fp) ifs1 tt1 ∧
      PE (X.blk s H scope (compEnvC scope cl C X.env) fp) elt te)
    (fold : ∀ x, foldedSetIterable iter X.env x = pure x := by intro _; rfl) (fold1 : ∀ env x, foldedSetIterable iter1 env x = pure x := by intro _ _; rfl) :
    PE X (sc2 elt tg iter tg1 iter1 ifs ifs1 scope pos) (tSc2 X.w wi g tt wi1 g1 tt1 te (own.map (·.2)) vs1) := by
  refine ⟨fun pins s σ H Q I h => ?_⟩
  rw [PpSet.eval_SetComp]
  have cellOf : ∀ y ∈ scope.names, y.2 = .free → ∃ c, X.env.cells.lookup y.1 = some c := fun y hy e => (ok.free y hy e).elim (fun k => I.ok.has _ (.inl k)) fun k => I.ok.has _ (.inr k)
  refine wpAny_comprehension_free (use := none) rfl fold (closure_ok cellOf) ok.kind (fun y hy e => by rw [ok.uniq y hy, e]) (thn (hi.run pins s σ H _ I h) fun xv s1 hx => thn hx fun itv s2 h2 => ?_)
  obtain ⟨it, fp, tn, J, H2, e, I2, T, st2, f2, q⟩ := h2
  subst e
  refine PpSet.newSet_ok (newEnv_comp ?_)
  generalize hD : s2.heap.objs.size = D
  have freeD : H2 D = none := I2.hok.fresh (Nat.le_of_eq hD)
  obtain ⟨W, ⟨m0, w0⟩, turn⟩ := q D freeD
  generalize hso : ({ cls := .type "set", dict := none, data := .set #[] 0 (.fresh 0 0 (!X.w.params.followText "set-order")) } : Obj) = so
  have keepSo : ∀ b o, s2.heap.get? b = some o → (s2.heap.push so).get? b = some o := fun b o e => Heap.get?_push_of_some _ e
  have I3 : Inv X pins σ (upd H2 D (SetO X.w D (fun _ => false) 0)) { s2 with heap := s2.heap.push so } := by
    refine I2.laid (t' := s2.toks) keepSo (Nat.le_of_eq hD) ?_
    rw [← hD, ← hso]
    exact setO_new (setR_fresh X.w)
  generalize hs3 : ({ s2 with heap := s2.heap.push so } : Shared) = s3 at I3 ⊢
  have h3 : s3.heap = s2.heap.push so := by rw [← hs3]
  have below : ∀ b ∈ fp, b < s2.heap.objs.size := fun b hb => (T.obj _ _ st2 b hb).elim fun o e => Heap.lt_size e.1
  generalize hH3 : upd H2 D (SetO X.w D (fun _ => false) 0) = H3 at I3 w0 ⊢
  have f3 : ∀ b ∈ fp, FpOk X pins H3 b ∧ b < s3.heap.objs.size := fun b hb => by
    have lt := below b hb
    refine ⟨⟨?_, (f2 b hb).2⟩, by rw [h3, Heap.size_push]; exact Nat.lt_succ_of_lt lt⟩
    rw [← hH3, upd_ne (by rw [← hD]; exact Nat.ne_of_lt lt)]
    exact (f2 b hb).1
  have st3 : tn 0 s3.heap := T.keep _ _ _ st2 fun b _ o e => by rw [h3]; exact keepSo b o e
  have I4 := block_start I3 ok hN f3
  obtain ⟨pg, pt, pi1, pg1, pt1, pe⟩ := blk s3 H3 s3.heap.objs.size (cellsFrom (s3.heap.objs.size + 1) scope.names (cloFrom X.env.cells scope.names [])) fp
  show codeAny _ _ (.compStart (sc2 elt tg iter tg1 iter1 ifs ifs1 scope pos) 0 (.ref it) (.ref D) (compEnvC scope (cellsFrom (s3.heap.objs.size + 1) scope.names (cloFrom X.env.cells scope.names [])) s3.heap.objs.size X.env))
    (compPost (model X.prog X.w) X.A X.xe none (EP X pins σ Q) (.ref D) s3.heap.objs.size) { s3 with heap := pushCells (s3.heap.push { cls := .type "dict", data := .dict #[] }) scope.names }
  generalize hce : compEnvC scope (cellsFrom (s3.heap.objs.size + 1) scope.names (cloFrom X.env.cells scope.names [])) s3.heap.objs.size X.env = ce at I4 pg pt pi1 pg1 pt1 pe ⊢
  have locals : ce.locals = s3.heap.objs.size := by
    subst hce
    rfl
  generalize hs4 : ({ s3 with heap := pushCells (s3.heap.push { cls := .type "dict", data := .dict #[] }) scope.names } : Shared) = s4 at I4 ⊢
  have st4 : tn 0 s4.heap := T.keep _ _ _ st3 fun b _ o e => by
    rw [← hs4]
    exact pushCells_keeps _ _ _ _ (Heap.get?_push_of_some _ e)
  have clearOf : ∀ {H' : Hp}, H3 = H' → ∀ b ∈ fp, H' b = none := fun e b hb => by
    rw [← e]
    exact (f3 b hb).1.1
  -- a record of the outer walk, within the block
  have outer : ∀ {σ' : L2.St} {H' : Hp} {s' : Shared}, Inv (X.blk s3 H3 scope ce fp) [] σ' H' s' → (∀ b ∈ fp, H' b = none) → ∀ b ∈ fp, FpOk (X.blk s3 H3 scope ce fp) [] H' b := fun I' clear b hb =>
    ⟨clear b hb, (I'.ok.exf b hb).1, I'.ok.exfs b hb, .inl hb, fun x c e => (I'.ok.exf b hb).2 x c e, fun p hp => by simp at hp⟩
  -- what the outer loop keeps
  let Keep : Nat → Shared → Prop := fun n s' => ∃ i H', Inv (X.blk s3 H3 scope ce fp) [] (wipe σ (own.map (·.2))) H' s' ∧ tn i s'.heap ∧ (∀ b ∈ fp, H' b = none) ∧ W i n H'
  have loop : codeAny (model X.prog X.w) X.A (.compLoop (sc2 elt tg iter tg1 iter1 ifs ifs1 scope pos) 0 (.ref it) (.ref D) ce) (compPost (model X.prog X.w) X.A X.xe none (EP X pins σ Q) (.ref D) s3.heap.objs.size) s4 := by
    refine loop_outer (fold1 ce) Keep ?_ m0 ⟨0, H3, I4, st4, clearOf rfl, w0⟩
    rintro n s5 ⟨i, H5, I5, st5, n5, w5⟩
    rcases turn i n H5 w5 with ⟨stop, done⟩ | ⟨go, Nx, hNx, one⟩
    · refine thnF (T.done (X.blk s3 H3 scope ce fp) rfl rfl rfl hc i [] s5 _ H5 (fun _ _ => False) I5 (outer I5 n5) st5 stop) fun r s6 ⟨hr, I6⟩ => ?_
      subst hr
      have I7 : Inv X pins σ H5 s6 := I3.call' (ch := fp) I6.os I6.base I6.hok I6.bare fun b hb => by
        obtain ⟨⟨z1, z2, z3, z4, z5, z6⟩, _⟩ := f3 b hb
        exact ⟨z4, z2, z5, z6⟩
      have free5 : H5 s3.heap.objs.size = none := by
        have z : H5 ce.locals = none := I6.free
        rw [locals] at z
        exact z
      obtain ⟨m, hn, _⟩ := I6.loc
      have hn : s6.heap.Ns ce.locals m := hn
      rw [locals] at hn
      obtain ⟨y0, y1, y2, y3, y4, y5⟩ := I3.fpOk (Nat.le_refl _) free5
      refine ⟨m, hn, fun h'' sb => ?_⟩
      exact ⟨.ref D, H5, I7.turned (t' := s6.toks) (fun b o nb e => (sb.2 b nb).trans e) y0 y1 y3 y4 y5, rfl, done⟩
    · refine thnF (T.item (X.blk s3 H3 scope ce fp) rfl rfl rfl hc i [] s5 _ H5 (fun _ _ => False) I5 (outer I5 n5) st5 go) fun r s6 ⟨u, hr, h6⟩ => ?_
      subst hr
      refine thnF h6 fun _ s7 ⟨x, H7, I7, r7, y7, st7, n7⟩ => ?_
      refine thnF (pg.run _ s7 _ H7 x u _ (I7.pinned (outer I7 n7) (T.obj _ _ st7)) r7 (one x H7 y7)) fun _ s8 ⟨σ8, H8, I8, hw8, q8⟩ => ?_
      refine thnF (pt.run _ s8 σ8 H8 _ I8 q8) fun b s9 ⟨H9, I9, q9⟩ => ?_
      have len8 : (wipe σ (own.map (·.2))).length = σ8.length := by rw [← hw8, wipe_length]
      have know8 : ∀ (j : Nat) v, (wipe σ (own.map (·.2)))[j]? = some (some v) → σ8[j]? = some (some v) ∧ j ∉ own.map (·.2) := fun j v e => by
        rw [← hw8] at e
        exact wipe_some e
      -- the turn's end, from any slots that know what the block knew
      have fin : ∀ {σ9 : L2.St} {s' : Shared} {H' : Hp}, Inv (X.blk s3 H3 scope ce fp) ([] ++ pinsAt fp s7.heap) σ9 H' s' → (wipe σ (own.map (·.2))).length = σ9.length →
          (∀ (j : Nat) v, (wipe σ (own.map (·.2)))[j]? = some (some v) → σ9[j]? = some (some v)) → Nx H' → ∃ m, m < n ∧ Keep m s' := fun {σ9 s' H'} I' hl hk nx => by
        obtain ⟨m', lt, w'⟩ := hNx H' nx
        have pinned : ∀ b ∈ fp, ∀ o, s7.heap.get? b = some o → s'.heap.get? b = some o ∧ H' b = none := fun b hb o e => by
          have z := I'.pin (b, o) (List.mem_append_right _ (List.mem_append_right _ (mem_pinsAt hb e)))
          exact ⟨z.1, z.2.1⟩
        refine ⟨m', lt, i + 1, H', (I'.unpinned (pins := [])).weak hl hk, T.keep _ _ _ st7 fun b hb o e => (pinned b hb o e).1, fun b hb => ?_, w'⟩
        obtain ⟨o, e, _⟩ := T.obj _ _ st7 b hb
        exact (pinned b hb o e).2
      cases b with
      | false =>
        simp only [Bool.false_eq_true, if_false] at q9 ⊢
        exact fin I9 len8 (fun j v e => (know8 j v e).1) q9
      | true =>
        simp only [if_true] at q9 ⊢
        refine thnF (pi1.run _ s9 σ8 H9 _ I9 q9) fun xv s10 hx => thnF hx fun itv s11 h11 => ?_
        obtain ⟨it1, fp1, tn1, J1, H11, e1, I11, T1, st11, f11, W1, ⟨m1, w1⟩, turn1⟩ := h11
        subst e1
        have inner : ∀ {H' : Hp}, (∀ b ∈ fp1, H' b = none) → ∀ b ∈ fp1, FpOk (X.blk s3 H3 scope ce fp) ([] ++ pinsAt fp s7.heap) H' b := fun clear b hb => ⟨clear b hb, (f11 b hb).2⟩
        let Keep1 : Nat → Shared → Prop := fun k s' => ∃ j H', Inv (X.blk s3 H3 scope ce fp) ([] ++ pinsAt fp s7.heap) (wipe σ8 vs1) H' s' ∧ tn1 j s'.heap ∧ (∀ b ∈ fp1, H' b = none) ∧ W1 j k H'
        have loop1 : codeAny (model X.prog X.w) X.A (.compLoop (sc2 elt tg iter tg1 iter1 ifs ifs1 scope pos) 1 (.ref it1) (.ref D) ce) (fun r s' => (∃ fl, r = .ok fl) ∧ ∃ m, m < n ∧ Keep m s') s11 := by
          refine loop_inner Keep1 ?_ m1 ⟨0, H11, I11.weak (wipe_length _ _) (fun j v e => (wipe_some e).1), st11, fun b hb => (f11 b hb).1, w1⟩
          rintro k s12 ⟨j, H12, I12, st12, n12, w12⟩
          rcases turn1 j k H12 w12 with ⟨stop1, nx1⟩ | ⟨go1, Nx1, hNx1, one1⟩
          · refine thnF (T1.done (X.blk s3 H3 scope ce fp) rfl rfl rfl hc j _ s12 (wipe σ8 vs1) H12 (fun _ _ => False) I12 (inner n12) st12 stop1) fun r s13 ⟨hr, I13⟩ => ?_
            subst hr
            refine ⟨⟨_, rfl⟩, fin I13 (len8.trans (wipe_length σ8 vs1).symm) (fun j v e => ?_) nx1⟩
            obtain ⟨z1, z2⟩ := know8 j v e
            rw [wipe_out fun z => z2 (hv j z)]
            exact z1
          · refine thnF (T1.item (X.blk s3 H3 scope ce fp) rfl rfl rfl hc j _ s12 (wipe σ8 vs1) H12 (fun _ _ => False) I12 (inner n12) st12 go1) fun r s13 ⟨u1, hr, h13⟩ => ?_
            subst hr
            refine thnF h13 fun _ s14 ⟨x1, H14, I14, r14, y14, st14, n14⟩ => ?_
            refine thnF (pg1.run _ s14 (wipe σ8 vs1) H14 x1 u1 _ (I14.pinned (inner n14) (T1.obj _ _ st14)) r14 (one1 x1 H14 y14)) fun _ s15 ⟨σ15, H15, I15, hw15, q15⟩ => ?_
            refine thnF (pt1.run _ s15 σ15 H15 _ I15 q15) fun b1 s16 ⟨H16, I16, q16⟩ => ?_
            have fin1 : ∀ {s' : Shared} {H' : Hp}, Inv (X.blk s3 H3 scope ce fp) (([] ++ pinsAt fp s7.heap) ++ pinsAt fp1 s14.heap) σ15 H' s' → Nx1 H' → ∃ m, m < k ∧ Keep1 m s' := fun {s' H'} I' nx => by
              obtain ⟨m', lt, w'⟩ := hNx1 H' nx
              have pinned : ∀ b ∈ fp1, ∀ o, s14.heap.get? b = some o → s'.heap.get? b = some o ∧ H' b = none := fun b hb o e => by
                have z := I'.pin (b, o) (List.mem_append_right _ (List.mem_append_right _ (mem_pinsAt hb e)))
                exact ⟨z.1, z.2.1⟩
              refine ⟨m', lt, j + 1, H', I'.unpinned.weak (by rw [← hw15, wipe_length]) (fun j v e => by rw [← hw15] at e; exact (wipe_some e).1), T1.keep _ _ _ st14 fun b hb o e => (pinned b hb o e).1, fun b hb => ?_, w'⟩
              obtain ⟨o, e, _⟩ := T1.obj _ _ st14 b hb
              exact (pinned b hb o e).2
            cases b1 with
            | false =>
              simp only [Bool.false_eq_true, if_false] at q16 ⊢
              exact fin1 I16 q16
            | true =>
              simp only [if_true] at q16 ⊢
              refine thnF (pe.run _ s16 σ15 H16 _ I16 q16) fun z s17 ⟨yv, H17, I17, r17, ad⟩ => ?_
              exact thnF (add_in (X := X.blk s3 H3 scope ce fp) (Q := fun _ s' => ∃ m, m < k ∧ Keep1 m s') I17 r17 ad fun H' s18 I18 nx => fin1 I18 nx) fun _ _ z => z
        exact start_inner loop1 (T1.self X.A 0 _ _ _ st11 loop1)
  exact PpSet.codeAny_compStart_set loop (T.self X.A 0 _ _ _ st4 loop)
end
end EV
end L2

set_option Elab.async false
set_option linter.all false
set_option maxRecDepth 100000
set_option maxHeartbeats 4000000
/-! enumerate over a tuple. -/
namespace PySem
open Sem (wp)
open AutoSeq1 (wpAny_loadPart')
theorem meets_enumerate_newT (l : Addr) (items : Array Value) (n : Nat) (dct : Option Addr) (sl : Array (Option Value)) :
    Meets (Builtin.«enumerate.__new__» ⟨[.type "enumerate", .ref l], []⟩) (fun _ R s => s.heap.get? l = some { cls := .type "tuple", dict := dct, data := .seq items n, slots := sl } ∧
      R (.ok (.ret (.ref (s.heap.push { cls := .type "tuple_iterator", data := .fields #[.ref l, .int 0 0] }).objs.size)))
        { s with heap := (s.heap.push { cls := .type "tuple_iterator", data := .fields #[.ref l, .int 0 0] }).push { cls := .type "enumerate", data := .fields #[.none, .bool false, .ref s.heap.objs.size, rawInt 0, .none, .none] } }) :=
  .of_wp fun prog w A R s h => by
    obtain ⟨hp, g, d, tk, os⟩ := s; obtain ⟨hl, h⟩ := h
    have hsub := sub_enumerate
    have hL : Heap.IsTuple (Shared.heap ⟨hp, g, d, tk, os⟩) l items := ⟨_, hl, rfl, n, rfl⟩
    wp_walk using wpAny_loadPart' hl
    refine wpAny_stack_any fun st => wpAny_pure ?_
    split
    · rename_i c _ _ _ _ _
      cases (c == Value.type "enumerate")
      · wp_walk using wpAny_loadPart' hl, wpAny_pyIter_tuple hL
        exact ⟨_, rfl, h⟩
      · wp_walk using wpAny_loadPart' hl, wpAny_pyIter_tuple hL
        exact ⟨_, rfl, h⟩
    · wp_walk using wpAny_loadPart' hl, wpAny_pyIter_tuple hL
      exact ⟨_, rfl, h⟩
section
variable {prog : Program} {w : World} {A : Around} {E : Value → Shared → Prop} {s : Shared}
theorem call_enumerate_tuple {l : Addr} {items : Array Value} {Q : Value → Shared → Prop} (hL : s.heap.IsTuple l items)
    (h : ∀ h', IsEnum h' (s.heap.objs.size + 1) s.heap.objs.size 0 .none → h'.IsTupleIter s.heap.objs.size l 0 → h'.objs.size = s.heap.objs.size + 2 →
      (∀ b o, s.heap.get? b = some o → h'.get? b = some o) → Q (.ref (s.heap.objs.size + 1)) { s with heap := h' }) :
    wpAny (model prog w) A (call (.type "enumerate") [.ref l]) Q E s := by
  obtain ⟨⟨c, dct, dt, sl⟩, hl, hc, n, hd⟩ := hL
  replace hc : c = .type "tuple" := hc
  replace hd : dt = .seq items n := hd
  subst hc hd
  refine callType_new F.called_enumerate (by decide) (F.typeCall_enumerate_1 _) (F.newCall_enumerate_1 _) (fun obj => F.args_object_init_2 obj _) F.entry_enumerate_new
    (meets_enumerate_newT l items n dct sl) ⟨hl, ?_⟩
  have hz : (s.heap.push { cls := .type "tuple_iterator", data := .fields #[.ref l, .int 0 0] }).objs.size = s.heap.objs.size + 1 := Heap.size_push ..
  show _ ∧ _
  rw [hz]
  have he : IsEnum ((s.heap.push { cls := .type "tuple_iterator", data := .fields #[.ref l, .int 0 0] }).push
      { cls := .type "enumerate", data := .fields #[.none, .bool false, .ref s.heap.objs.size, rawInt 0, .none, .none] }) (s.heap.objs.size + 1) s.heap.objs.size 0 .none := by
    have := Heap.get?_push_size (s.heap.push { cls := .type "tuple_iterator", data := .fields #[.ref l, .int 0 0] })
      (o := { cls := .type "enumerate", data := .fields #[.none, .bool false, .ref s.heap.objs.size, rawInt 0, .none, .none] }) rfl
    rw [hz] at this; exact this
  refine ⟨⟨_, he, rfl⟩, h _ he ⟨_, Heap.get?_push_of_some _ (Heap.get?_push_size _ rfl), rfl, rfl⟩ (by rw [Heap.size_push, hz]) fun b o x => Heap.get?_push_of_some _ (Heap.get?_push_of_some _ x)⟩
end
end PySem
namespace L2
open PySem PySem.Spec PyProof.Rows
def IteT (K : PySem.W.Frag) (a : Addr) : It :=
  ⟨fun i H => ∃ (xs : List V) (x : V), SqT K H a xs ∧ xs[i]? = some x, fun i H v H' => ∃ T x, v = .ref T ∧ H T = none ∧ H' = upd H T (.tup [.int (i : Nat), x]) ∧ ∀ xs, SqT K H a xs → xs[i]? = some x, fun i H => ∃ xs : List V, SqT K H a xs ∧ xs.length = i⟩
theorem turn_enumT {P : Program} {w : World} {K : PySem.W.Frag} {elts : List Expr} {kk : Nat} {tpos : Pos} (a e it : Addr) (hai : a ≠ it) (hae : a ≠ e) :
    Turn P w K (.Tuple elts kk tpos) (IteT K a) [e, it] e (fun i h => (∃ old, IsEnum h e it ((i : Nat) : Int) old) ∧ h.IsTupleIter it a i ∧ e ≠ it) where
  mem := by simp
  obj := fun i h st b hb => by
    obtain ⟨⟨old, he⟩, ⟨o, ho, hc, hd⟩, _⟩ := st
    have e' : b = e ∨ b = it := by simpa using hb
    rcases e' with z | z
    · rw [z]; exact ⟨_, he, fun v q => nomatch q⟩
    · rw [z]; exact ⟨o, ho, fun v q => by rw [hd] at q; cases q⟩
  keep := fun i h h' st k => let ⟨⟨old, he⟩, hi, hne⟩ := st; ⟨⟨old, k e (by simp) _ he⟩, hi.at fun o q => k it (by simp) o q, hne⟩
  item := by
    intro X hP hw hK hc i pins s σ H E I hf st hg
    subst hP hw hK
    obtain ⟨⟨old, he⟩, hit, hne⟩ := st
    obtain ⟨xs, x, hq, hx⟩ := hg
    obtain ⟨its, rv, p, hz⟩ := I.tuple hq
    obtain ⟨u, hu, ru⟩ := rv.get hx
    have hel : e < s.heap.objs.size := Heap.lt_size he
    have hil : it < s.heap.objs.size := by obtain ⟨_, q, _⟩ := hit; exact Heap.lt_size q
    have hlt : i < its.toArray.size := by
      have := (List.getElem?_eq_some_iff.mp hu).1
      simpa using this
    refine wpAny_pyNext_enum_itemD (Draws.tuple (A := X.A.in1) (show X.A.in1.handled = none from I.ok.hd hc) it a hai its.toArray) he ⟨hit, show s.heap.IsTuple a its.toArray from p⟩ hlt hne (by simp [hne, Ne.symm hae]) fun u' h' tk hu' ho st' hT hsz hk => ?_
    have e0 : u' = u := by
      have q1 : its[i]? = some u' := by simpa using hu'
      rw [hu] at q1
      exact (Option.some.inj q1).symm
    subst e0
    obtain ⟨hit', _⟩ := st'
    refine ⟨_, rfl, wpAny_letOwnedTupleGo_enum (s := { s with heap := h', toks := tk + 1 }) ho fun h'' he' sb => ?_⟩
    have hT2 : h''.get? s.heap.objs.size = some { cls := .type "tuple", data := .seq #[.int i tk, u'] } := (sb.2 _ (Nat.ne_of_gt hel)).trans hT
    have new : ObjOk X.prog X.w (upd H s.heap.objs.size (.tup [.int (i : Nat), x])) h'' s.heap.objs.size (.tup [.int (i : Nat), x]) :=
      ⟨by show 2 ≤ sizeLine; decide, [.int i tk, u'], .cons ⟨_, rfl⟩ (.cons ru .nil), ⟨_, hT2, rfl, _, rfl⟩⟩
    have I1 : Inv X pins σ (upd H s.heap.objs.size (.tup [.int (i : Nat), x])) { s with heap := h'', toks := tk + 1 } :=
      I.turnedNew (ch := [e, it]) (fun b ob hb q => (sb.2 b (fun z => hb (by simp [z]))).trans (hk b ob (fun z => hb (by simp [z])) (fun z => hb (by simp [z])) q)) hf (Nat.le_refl _) new
    refine ⟨.ref s.heap.objs.size, _, I1, rfl, ⟨_, x, rfl, I.hok.fresh (Nat.le_refl _), rfl, fun ys hy => by rw [I.tuple_inj hy hq]; exact hx⟩, ⟨⟨u', ?_⟩, hit'.at fun o q => (sb.2 it (Ne.symm hne)).trans q, hne⟩, fun b hb => ?_⟩
    · have e1 : ((i + 1 : Nat) : Int) = (i : Int) + 1 := by omega
      rw [e1]; exact he'
    · have hb' : b < s.heap.objs.size := by
        have e' : b = e ∨ b = it := by simpa using hb
        rcases e' with z | z
        · rw [z]; exact hel
        · rw [z]; exact hil
      rw [upd_ne (Nat.ne_of_lt hb')]
      exact (hf b hb).1
  done := by
    intro X hP hw hK hc i pins s σ H E I hf st hg
    subst hP hw hK
    obtain ⟨⟨old, he⟩, hit, hne⟩ := st
    obtain ⟨xs, hq, hx⟩ := hg
    obtain ⟨its, rv, p, hz⟩ := I.tuple hq
    obtain ⟨f0, f1, f2, f3, f4, f5⟩ := hf it (by simp)
    have hl := rv.length
    have hn : its.toArray.size = i := by simp; omega
    exact wpAny_pyNext_enum_endD (Draws.tuple (A := X.A.in1) (show X.A.in1.handled = none from I.ok.hd hc) it a hai its.toArray) he ⟨hn.symm ▸ hit, show s.heap.IsTuple a its.toArray from p⟩ fun h' eb => ⟨rfl, I.turned (t' := s.toks) (fun b o hb q => eb b o hb q) f0 f1 f3 f4 f5⟩
  self := fun A i s Q E st h => let ⟨⟨_, he⟩, _⟩ := st; wpAny_pyIter_enum he h
def iEnumT (K : PySem.W.Frag) (ta : TA) : TI := fun σ H R => ta σ H fun vs H1 => ∃ a xs, vs = [.ref a] ∧ SqT K H1 a xs ∧ R (IteT K a) H1
theorem pi_enumT {X : Cx} {e : Expr} {ta : TA} {p pos tpos : Pos} {elts : List Expr} {kk : Nat} (hg : Gl X "enumerate") (hm : X.mg "enumerate" = none) (ha : PA X [e] ta) (hs : starEach [e] X.env = [(false, eval e X.env)] := by rfl) :
    PI X (.Tuple elts kk tpos) (.Call (.Name "enumerate" p) [e] [] pos) (iEnumT X.K ta) := by
  refine ⟨fun pins s σ H R I h => ?_⟩
  refine Call_ (ld_blt I hg hm boot_enumerate (PyProof.Rows.callWith_type1 (thn (ha.run pos pins s σ H _ I h) fun us s1 ⟨vs, H1, I1, r1, q1⟩ => ?_) hs rfl))
  obtain ⟨a, xs, ex, hq, q⟩ := q1
  subst ex
  cases r1 with
  | cons r rr =>
    cases rr
    cases r
    obtain ⟨its, rv, p', hz⟩ := I1.tuple hq
    have hal : a < s1.heap.objs.size := by
      obtain ⟨o, q, _⟩ := id p'
      exact Heap.lt_size q
    refine call_enumerate_tuple (show s1.heap.IsTuple a its.toArray from p') fun h' he hit hsz hk => wpAny_pyIter_enum he ?_
    have I2 : Inv X pins σ H1 { s1 with heap := h' } := I1.kept (t' := s1.toks) hk
    refine ⟨s1.heap.objs.size + 1, [s1.heap.objs.size + 1, s1.heap.objs.size], _, _, H1, rfl, I2, turn_enumT a (s1.heap.objs.size + 1) s1.heap.objs.size (Nat.ne_of_lt hal) (Nat.ne_of_lt (Nat.lt_succ_of_lt hal)), ⟨⟨.none, he⟩, hit, Nat.succ_ne_self _⟩, fun b hb => ?_, q⟩
    have e' : b = s1.heap.objs.size + 1 ∨ b = s1.heap.objs.size := by simpa using hb
    have hle : s1.heap.objs.size ≤ b := by
      rcases e' with z | z
      · rw [z]; exact Nat.le_add_right _ _
      · rw [z]; exact Nat.le_refl _
    exact I1.fpOk hle (I1.hok.fresh hle)
theorem walk_enumT {K : PySem.W.Frag} {a : Addr} {xs : List V} : Walk (IteT K a) xs.length (fun H => SqT K H a xs) (YPair (fun i => some (.int (i : Nat))) (fun i => xs[i]?)) := by
  refine ⟨fun i _ hi q => ⟨xs, xs[i], q, by simp [hi]⟩, fun _ q => ⟨xs, q, rfl⟩, fun i H v H' _ q y => ?_⟩
  obtain ⟨T, x, h1, h2, h3, h4⟩ := y
  exact ⟨T, .int (i : Nat), x, h1, h2, h3, rfl, h4 xs q⟩
end L2

set_option Elab.async false
set_option linter.all false
set_option maxRecDepth 100000
set_option maxHeartbeats 4000000
/-! Framings; listed_standings. -/
namespace K41
open PySem L2 L2.EV
abbrev sListed : Stmt := top 13
/-- a framing at f -/
def FrA (H : Hp) (f : Addr) (fr : List T3) : Prop := ∃ ts : List Addr, H f = some (.tup (ts.map V.ref)) ∧ ts.length = fr.length ∧ ∀ (i : Nat) t x, ts[i]? = some t → fr[i]? = some x → S3 H t x
theorem FrA.same {H H' : Hp} {f : Addr} {fr : List T3} (h : FrA H f fr) (s : Same H H') : FrA H' f fr := by
  obtain ⟨ts, e, l, c⟩ := h
  exact ⟨ts, s _ _ e, l, fun i t x h1 h2 => s _ _ (c i t x h1 h2)⟩
structure Frm (fr : List T3) (last : Nat) : Prop where
  l0 : 1 ≤ fr.length
  l1 : fr.length ≤ 16
  stp : ∀ x ∈ fr, Stp x
  srt : fr.Pairwise (fun x y => lt3 x y = true)
  ring : ∀ k : Nat, k ≤ last → ∃ x ∈ fr, x.1 = (k : Int) ∧ x.2.2 = (if k < last then (k : Int) + 1 else 0)
  lo : ∀ x ∈ fr, x.1 ≤ last ∧ x.2.2 ≤ last
  l5 : last ≤ 5
/-- what is closed under the steps, from b on, holds all standings -/
theorem Frm.all {fr : List T3} {last : Nat} (F : Frm fr last) {S : Int → Prop} {b : Nat} (hb : b ≤ last) (c0 : ∀ x ∈ fr, x.1 = (b : Int) → S x.2.2) (c : ∀ x ∈ fr, S x.1 → S x.2.2) : ∀ k : Nat, k ≤ last → S k := by
  have up : ∀ j : Nat, b + j ≤ last → j = 0 ∨ S ((b + j : Nat) : Int) := by
    intro j
    induction j with
    | zero => exact fun _ => .inl rfl
    | succ j ih =>
      intro h
      obtain ⟨x, hx, e1, e2⟩ := F.ring (b + j) (by omega)
      rw [if_pos (by omega)] at e2
      have e3 : (((b + (j + 1) : Nat)) : Int) = ((b + j : Nat) : Int) + 1 := by omega
      rw [e3, ← e2]
      refine .inr ?_
      rcases ih (by omega) with z | z
      · subst z
        exact c0 x hx (by simpa using e1)
      · exact c x hx (by rw [e1]; exact z)
  have s0 : S 0 := by
    obtain ⟨x, hx, e1, e2⟩ := F.ring last (Nat.le_refl _)
    rw [if_neg (by omega)] at e2
    rw [← e2]
    obtain ⟨j, rfl⟩ := Nat.le.dest hb
    rcases up j (Nat.le_refl _) with z | z
    · subst z
      exact c0 x hx (by simpa using e1)
    · exact c x hx (by rw [e1]; exact z)
  intro k
  induction k with
  | zero => exact fun _ => s0
  | succ k ih =>
    intro h
    obtain ⟨x, hx, e1, e2⟩ := F.ring k (by omega)
    rw [if_pos (by omega)] at e2
    have e3 : ((k + 1 : Nat) : Int) = (k : Int) + 1 := by omega
    rw [e3, ← e2]
    exact c x hx (by rw [e1]; exact ih (by omega))
theorem sc_it {J : It} {n : Nat} {G : Hp → Prop} {Y : Nat → Hp → V → Hp → Prop} (w : Walk J n G Y) {H0 : Hp} {Qd : Hp → Prop} {body : V → Hp → (Hp → Prop) → Prop} (Pv : Nat → Hp → Prop) (h0 : Pv 0 H0) (hG : ∀ i H, i ≤ n → Pv i H → G H)
    (hs : ∀ i x H H', i < n → Pv i H → Y i H x H' → body x H' (Pv (i + 1))) (hd : ∀ H, Pv n H → Qd H) :
    ∃ W : Nat → Nat → Hp → Prop, (∃ m, W 0 m H0) ∧ ∀ i m H, W i m H → (J.stop i H ∧ Qd H) ∨ (J.go i H ∧ ∃ Nx : Hp → Prop, (∀ H', Nx H' → ∃ m', m' < m ∧ W (i + 1) m' H') ∧ ∀ x H', J.yld i H x H' → body x H' Nx) := by
  refine ⟨fun i m H => m = n - i ∧ i ≤ n ∧ Pv i H, ⟨n, by simp, Nat.zero_le _, h0⟩, ?_⟩
  rintro i m H ⟨rfl, hi, p⟩
  have q := hG i H hi p
  by_cases hlt : i < n
  · exact .inr ⟨w.goes i H hlt q, Pv (i + 1), fun H' p' => ⟨n - (i + 1), by omega, rfl, hlt, p'⟩, fun x H' y => hs i x H H' hlt p (w.yields i H x H' hlt q y)⟩
  · have e : i = n := by omega
    subst e
    exact .inl ⟨w.stops H q, hd H p⟩
theorem at_step {H : Hp} {ts : List Addr} {fr : List T3} {i : Nat} {x : V} (hl : ts.length = fr.length) (ht : ∀ (i : Nat) t x, ts[i]? = some t → fr[i]? = some x → S3 H t x) (hx : (ts.map V.ref)[i]? = some x) :
    ∃ t y, fr[i]? = some y ∧ x = .ref t ∧ S3 H t y := by
  rw [List.getElem?_map] at hx
  cases e : ts[i]? with
  | none =>
    rw [e] at hx
    cases hx
  | some t =>
    rw [e] at hx
    have il : i < fr.length := by
      have := (List.getElem?_eq_some_iff.mp e).1
      omega
    exact ⟨t, fr[i], List.getElem?_eq_getElem il, (Option.some.inj hx).symm, ht i t _ e (List.getElem?_eq_getElem il)⟩
/-- listed_standings(framing): a new list of numbers up to last -/
def spListed : Sp := fun vs H Q _ => ∃ (f : Addr) (fr : List T3) (last : Nat), vs = [.ref f] ∧ FrA H f fr ∧ Frm fr last ∧
  ∀ (H' : Hp) (p : Addr) (ns : List Int), Same H H' → H p = none → H' p = some (.lst (ns.map V.int)) → ns.length ≤ 32 → (∀ k ∈ ns, 0 ≤ k ∧ k ≤ last) → Q (.ref p) H'
theorem pe_sc2s {X : Cx} {elt tg iter tg1 iter1 : Expr} {ifs ifs1 : List Expr} {scope : Scope} {own : List (Str × Nat)} {vs1 : List Nat} {pos : Pos} {wi wi1 : TI} {g g1 : TG} {tt tt1 : TT} {te : TE} (hc : X.calm = true) (hN : X.N.Nodup) (hi : PI X tg iter wi) (ok : BlkOk X.N X.env.scope scope own) (hv : ∀ i ∈ vs1, i ∈ own.map (·.2))
    (b1 : ∀ (s : Shared) (H : Hp) (C : Addr) (cl : List (Str × Addr)) (fp : List Addr), PG (X.blk s H scope (compEnvC scope cl C X.env) fp) tg g)
    (b2 : ∀ (s : Shared) (H : Hp) (C : Addr) (cl : List (Str × Addr)) (fp : List Addr), PTs (X.blk s H scope (compEnvC scope cl C X.env) fp) ifs tt)
    (b3 : ∀ (s : Shared) (H : Hp) (C : Addr) (cl : List (Str × Addr)) (fp : List Addr), PI (X.blk s H scope (compEnvC scope cl C X.env) fp) tg1 iter1 wi1)
    (b4 : ∀ (s : Shared) (H : Hp) (C : Addr) (cl : List (Str × Addr)) (fp : List Addr), PG (X.blk s H scope (compEnvC scope cl C X.env) fp) tg1 g1)
    (b5 : ∀ (s : Shared) (H : Hp) (C : Addr) (cl : List (Str × Addr)) (fp : List Addr), PTs (X.blk s H scope (compEnvC scope cl C X.env) fp) ifs1 tt1)
    (b6 : ∀ (s : Shared) (H : Hp) (C : Addr) (cl : List (Str × Addr)) (fp : List Addr), PE (X.blk s H scope (compEnvC scope cl C X.env) fp) elt te)
    (fold : ∀ x, foldedSetIterable iter X.env x = pure x := by intro _; rfl) (fold1 : ∀ env x, foldedSetIterable iter1 env x = pure x := by intro _ _; rfl) :
    PE X (.SetComp elt [⟨tg, iter, ifs, 0⟩, ⟨tg1, iter1, ifs1, 0⟩] scope pos) (tSc2 X.w wi g tt wi1 g1 tt1 te (own.map (·.2)) vs1) :=
  pe_sc2 hc hN hi ok hv (fun s H C cl fp => ⟨b1 s H C cl fp, b2 s H C cl fp, b3 s H C cl fp, b4 s H C cl fp, b5 s H C cl fp, b6 s H C cl fp⟩) fold fold1
theorem same_set {D : Addr} {H H' : Hp} {o : HO} (hD : H D = none) (k : Same H H') : Same H (upd H' D o) := fun b u e => by
  rw [upd_ne (ne_of_none e hD)]
  exact k _ _ e
theorem scan64 : 64 < scanBound := by decide +kernel
section
variable {P : Program} {w : World} {K : PySem.W.Frag} {mg : Str → Option Value} {base : Heap}
theorem scListed : FnScope ["framing", "start", "piece", "goal", "standing"] ["framing"] (defScope sListed) := ⟨rfl, rfl, rfl, by decide +kernel, rfl, by decide +kernel, by decide +kernel⟩
theorem ok_listed {f : Addr} {fd : FuncData} (F : Fun K "listed_standings" "listed_standings" sListed f fd) (hs : mg "sorted" = none) : FnOk P w K mg base CX0 1 f fd ["framing"] spListed := by
  refine F.ok scListed (fun vs H Q E h => ?_) (fun cdv A outer s H vs Q E hr h => ?_)
  · obtain ⟨f, fr, last, rfl, _⟩ := h
    rfl
  · obtain ⟨f, fr, last, rfl, fa, fm, q⟩ := h
    refine ⟨_, pss_one (ps_ret (pe_callB (cr_sortedSet rfl) (by rfl) hs (by decide +kernel) (pa_cons (pe_sc2s (g := gTup K 3 (gCons (gName 1) (gCons (gName 2) (gCons (gName 3) gNil)))) (tt := tYes) (wi1 := iTup K (tTup (tCons (tVar 1) (tCons (tVar 3) tNil)))) (g1 := gName 4) (tt1 := tYes) (te := tVar 4) (own := [("start", 1), ("piece", 2), ("goal", 3), ("standing", 4)]) (vs1 := [4]) rfl scListed.nd (pi_tup (pv 0))
      (blkOk_by (N := ["framing", "start", "piece", "goal", "standing"]) (sc := defScope sListed) (by decide +kernel)) (by decide)
      (fun _ _ _ _ _ => pg_tup rfl (pgs_cons (pg_name (i := 1) scListed.nd rfl (Or.inl rfl)) (pgs_cons (pg_name (i := 2) scListed.nd rfl (Or.inl rfl)) (pgs_cons (pg_name (i := 3) scListed.nd rfl (Or.inl rfl)) pgs_nil)))) (fun _ _ _ _ _ => pts_nil)
      (fun _ _ _ _ _ => pi_tup (pe_tup (pa_cons (pv 1) (pa_cons (pv 3) pa_nil)))) (fun _ _ _ _ _ => pg_name (i := 4) scListed.nd rfl (Or.inl rfl)) (fun _ _ _ _ _ => pts_nil) (fun _ _ _ _ _ => pv 4)) pa_nil))), ?_⟩
    obtain ⟨ts, hf, hl, ht⟩ := id fa
    refine ⟨_, rfl, f, rfl, ⟨_, SqT.of hf⟩, fun D hD => ?_⟩
    refine sc_it (walk_tup (xs := ts.map V.ref)) (fun i H' => Same H H' ∧ ∃ (S : Int → Bool) (n : Nat), H' D = some (SetO w D S n) ∧ n ≤ 2 * i ∧ ∀ k, S k = true → 0 ≤ k ∧ k ≤ last)
      ⟨same_upd hD, _, _, upd_same, Nat.le_refl _, fun k z => by cases z⟩ (fun i H' _ z => SqT.of (z.1 _ _ hf)) ?_ ?_
    · rintro i x H1 H2 hi ⟨sm, S, n, hS, hn, hk⟩ ⟨rfl, hx⟩
      obtain ⟨t, y, hy, rfl, e3⟩ := at_step (i := i) hl ht hx
      have e4 : H2 t = _ := sm _ _ e3
      obtain ⟨b1, b2, _, b3, b4⟩ := fm.stp y (List.mem_of_getElem? hy)
      obtain ⟨b5, b6⟩ := fm.lo y (List.mem_of_getElem? hy)
      refine ⟨t, _, rfl, SqT.of e4, rfl, _, _, rfl, _, _, rfl, _, _, rfl, rfl, rfl, ?_⟩
      refine ⟨_, rfl, _, rfl, (by show 2 ≤ sizeLine; decide), fun p hp => ⟨p, rfl, ⟨_, SqT.of upd_same⟩, ?_⟩⟩
      refine sc_it (walk_tup (xs := [V.int y.1, V.int y.2.2])) (fun j H' => Same H H' ∧ H' p = some (.tup [V.int y.1, V.int y.2.2]) ∧ ∃ (S : Int → Bool) (n : Nat), H' D = some (SetO w D S n) ∧ n ≤ 2 * i + j ∧ ∀ k, S k = true → 0 ≤ k ∧ k ≤ last)
        ⟨fun b u e => same_upd hp _ _ (sm _ _ e), upd_same, S, n, by rw [upd_ne (ne_of_none hS hp)]; exact hS, hn, hk⟩ (fun j H' _ z => SqT.of z.2.1) ?_ ?_
      · rintro j x H2 H3 hj ⟨sm2, hp2, S2, n2, hS2, hn2, hk2⟩ ⟨rfl, hx2⟩
        have hj2 : j < 2 := hj
        obtain ⟨k, rfl, k0, k1⟩ : ∃ k : Int, x = .int k ∧ 0 ≤ k ∧ k ≤ last := by
          match j, hj2 with
          | 0, _ => exact ⟨y.1, (Option.some.inj hx2).symm, b1, b5⟩
          | 1, _ => exact ⟨y.2.2, (Option.some.inj hx2).symm, b3, b6⟩
        have sc := scan64
        have l1 := fm.l1
        have hi2 : i < fr.length := (List.getElem?_eq_some_iff.mp hy).1
        refine ⟨rfl, _, rfl, k, S2, n2, rfl, hS2, by omega, same_set hD sm2, ?_, _, _, upd_same, ?_, fun k2 z => ?_⟩
        · rw [upd_ne (ne_of hp2 hS2 (fun z => by cases z))]
          exact hp2
        · split <;> omega
        · rw [Bool.or_eq_true] at z
          rcases z with z | z
          · exact hk2 k2 z
          · have e5 : k2 = k := of_decide_eq_true z
            rw [e5]
            exact ⟨k0, k1⟩
      · rintro H2 ⟨sm2, hp2, S2, n2, hS2, hn2, hk2⟩
        refine ⟨sm2, S2, n2, hS2, ?_, hk2⟩
        have hn3 : n2 ≤ 2 * i + 2 := hn2
        omega
    · rintro H1 ⟨sm, S, n, hS, hn, hk⟩
      refine ⟨D, S, n, rfl, hS, ?_, fun ns p _ h2 h3 h4 => ?_⟩
      · have := fm.l1
        simp only [List.length_map] at hn
        omega
      · refine q _ p ns ?_ ?_ upd_same ?_ ?_
        · exact fun b u e => by
            rw [upd_ne (ne_of_none (sm _ _ e) h4)]
            exact sm _ _ e
        · exact sm.free h4
        · have := fm.l1
          simp only [List.length_map] at hn
          omega
        · exact fun k z => hk k ((h2 k).mp z)
end
end K41

set_option Elab.async false
set_option linter.all false
set_option maxRecDepth 100000
set_option maxHeartbeats 4000000
/-! ways_from: all standings are found. -/
namespace K41
open PySem L2 L2.EV
abbrev sWays : Stmt := top 14
abbrev has (kvs : List (Key × V)) (g : Int) : Bool := (valV kvs (Sum.inl g : Key)).isSome
/-- ways_from(framing, b): a new dict that has all standings -/
def spWays : Sp := fun vs H Q _ => ∃ (f : Addr) (fr : List T3) (last b : Nat), vs = [.ref f, .int b] ∧ FrA H f fr ∧ Frm fr last ∧ b ≤ last ∧
  ∀ (H' : Hp) (d : Addr) (kvs : List (Key × V)), Same H H' → H d = none → H' d = some (.dK kvs) → (∀ k : Nat, k ≤ last → has kvs k = true) → Q (.ref d) H'
/-- the standings up to last that are not found -/
def miss (last : Nat) (kvs : List (Key × V)) : Nat := ((List.range (last + 1)).filter fun k : Nat => !has kvs k).length
theorem miss_le {last : Nat} {kvs : List (Key × V)} : miss last kvs ≤ last + 1 := by
  have := List.length_filter_le (fun k : Nat => !has kvs k) (List.range (last + 1))
  rw [List.length_range] at this
  exact this
theorem filt_lt {α : Type} {p q : α → Bool} : ∀ {l : List α} {a : α}, a ∈ l → p a = true → q a = false → (∀ x, q x = true → p x = true) → (l.filter q).length < (l.filter p).length
  | x :: l, a, hm, hp, hq, h => by
    have le : ∀ m : List α, (m.filter q).length ≤ (m.filter p).length := fun m => by
      induction m with
      | nil => exact Nat.le_refl _
      | cons y m ih =>
        rw [List.filter_cons, List.filter_cons]
        by_cases z : q y = true
        · rw [if_pos z, if_pos (h y z), List.length_cons, List.length_cons]
          omega
        · rw [if_neg z]
          split
          · rw [List.length_cons]
            omega
          · exact ih
    rw [List.filter_cons, List.filter_cons]
    rcases List.mem_cons.mp hm with z | z
    · subst z
      rw [if_pos hp, if_neg (by rw [hq]; simp), List.length_cons]
      have := le l
      omega
    · have ih := filt_lt z hp hq h
      by_cases y : q x = true
      · rw [if_pos y, if_pos (h x y), List.length_cons, List.length_cons]
        omega
      · rw [if_neg y]
        split
        · rw [List.length_cons]
          omega
        · exact ih
theorem has_put {kvs : List (Key × V)} {g k : Int} {v : V} : has (putK kvs (Sum.inl g) v) k = (decide (k = g) || has kvs k) := by
  unfold has
  rw [valV_put]
  by_cases e : k = g
  · subst e
    rw [if_pos rfl, decide_eq_true rfl]
    rfl
  · rw [if_neg (fun z => e (Sum.inl.inj z)), decide_eq_false e, Bool.false_or]
theorem miss_put {last : Nat} {kvs : List (Key × V)} {g : Int} {v : V} (h0 : 0 ≤ g) (h1 : g ≤ last) (n : has kvs g = false) : miss last (putK kvs (Sum.inl g) v) < miss last kvs := by
  obtain ⟨a, rfl⟩ := Int.eq_ofNat_of_zero_le h0
  refine filt_lt (a := a) (List.mem_range.mpr (by omega)) (by simp only [n, Bool.not_false]) ?_ ?_
  · rw [has_put, decide_eq_true rfl]
    rfl
  · intro x hx
    rw [has_put] at hx
    cases z : has kvs x with
    | false => rfl
    | true =>
      rw [z] at hx
      simp at hx
/-- the rows: tuples of a way and a standing -/
def Rows (H : Hp) (last n : Nat) (ps : List (Addr × Int)) : Prop := ∀ q ∈ ps, 0 ≤ q.2 ∧ q.2 ≤ last ∧ ∃ (wy : Addr) (xs : List V), H q.1 = some (.tup [.ref wy, .int q.2]) ∧ H wy = some (.tup xs) ∧ xs.length ≤ n
def KeepT (H H' : Hp) : Prop := ∀ a xs, H a = some (.tup xs) → H' a = some (.tup xs)
theorem Rows.keep {H H' : Hp} {last n m : Nat} {ps : List (Addr × Int)} (h : Rows H last n ps) (k : KeepT H H') (l : n ≤ m) : Rows H' last m ps := fun q hq => by
  obtain ⟨h0, h1, wy, xs, e1, e2, e3⟩ := h q hq
  exact ⟨h0, h1, wy, xs, k _ _ e1, k _ _ e2, Nat.le_trans e3 l⟩
theorem Same.keepT {H H' : Hp} (s : Same H H') : KeepT H H' := fun a xs e => s _ _ e
theorem KeepT.trans {H H' H2 : Hp} (a : KeepT H H') (b : KeepT H' H2) : KeepT H H2 := fun x xs e => b _ _ (a _ _ e)
theorem keepT_upd {H : Hp} {d : Addr} {o : HO} {o' : HO} (e : H d = some o') (n : ∀ xs, o' ≠ .tup xs) : KeepT H (upd H d o) := fun a xs h => by
  by_cases z : a = d
  · subst z
    rw [e] at h
    exact absurd (Option.some.inj h) (n xs)
  · rw [upd_ne z]
    exact h
/-- t + u, u not empty: the result is somewhere, all else stays -/
def rCatS (K : PySem.W.Frag) : R2 := fun x y H Q => ∃ a b xs ys, x = .ref a ∧ y = .ref b ∧ SqT K H a xs ∧ H b = some (.tup ys) ∧ ys ≠ [] ∧ xs.length + ys.length ≤ sizeLine ∧ ∀ p H', Same H H' → H' p = some (.tup (xs ++ ys)) → Q (.ref p) H'
theorem op_catS {X : Cx} : OpR X (binaryOp .Add) (rCatS X.K) := by
  intro pins s σ H x y v u Q I rx ry h
  obtain ⟨a, b, xs, ys, rfl, rfl, ha, hb, hn, hz, q⟩ := h
  refine op_catA pins s σ H _ _ v u Q I rx ry ⟨a, b, xs, ys, rfl, rfl, ha, SqT.of hb, hz, fun z => ?_, fun _ z => absurd z hn, fun _ _ p hp => q p _ (same_upd hp) upd_same⟩
  subst z
  exact q b H (fun _ _ e => e) (by rw [hb]; rfl)
structure Co (H0 H : Hp) (d r u : Addr) (last m0 : Nat) (ps qs : List (Addr × Int)) (kvs : List (Key × V)) : Prop where
  sm : Same H0 H
  hd : H d = some (.dK kvs)
  hr : H r = some (.lst (ps.map fun q => V.ref q.1))
  hu : H u = some (.lst (qs.map fun q => V.ref q.1))
  rp : Rows H last kvs.length ps
  rq : Rows H last kvs.length qs
  cnt : kvs.length + miss last kvs ≤ last + 1
  me : (qs = [] ∧ miss last kvs ≤ m0) ∨ miss last kvs < m0
  ql : qs.length ≤ kvs.length
theorem Co.same {H0 H H' : Hp} {d r u : Addr} {last m0 : Nat} {ps qs : List (Addr × Int)} {kvs : List (Key × V)} (C : Co H0 H d r u last m0 ps qs kvs) (s : Same H H') : Co H0 H' d r u last m0 ps qs kvs :=
  ⟨C.sm.trans s, s _ _ C.hd, s _ _ C.hr, s _ _ C.hu, C.rp.keep (Same.keepT s) (Nat.le_refl _), C.rq.keep (Same.keepT s) (Nat.le_refl _), C.cnt, C.me, C.ql⟩
/-- what is reached from a standing that stands in the rows, or is found -/
def Clo (fr : List T3) (b : Nat) (kvs : List (Key × V)) (open_ : Int → T3 → Prop) : Prop := ∀ x ∈ fr, (x.1 = (b : Int) ∨ has kvs x.1 = true) → open_ x.1 x ∨ has kvs x.2.2 = true
section
variable {P : Program} {w : World} {K : PySem.W.Frag} {mg : Str → Option Value} {base : Heap}
theorem scWays : FnScope ["framing", "begin", "found", "rows", "further", "way", "standing", "number", "start", "piece", "goal"] ["framing", "begin"] (defScope sWays) := ⟨rfl, rfl, rfl, by decide +kernel, rfl, by decide +kernel, by decide +kernel⟩
theorem ok_ways {f : Addr} {fd : FuncData} (F : Fun K "ways_from" "ways_from" sWays f fd) (he : mg "enumerate" = none) : FnOk P w K mg base CX0 1 f fd ["framing", "begin"] spWays := by
  refine F.ok scWays (fun vs H Q E h => ?_) (fun cdv A outer s H vs Q E hr h => ?_)
  · obtain ⟨f, fr, last, b, rfl, _⟩ := h
    rfl
  · obtain ⟨f, fr, last, b, rfl, fa, fm, hb, q⟩ := h
    have hu := hu_of hr
    refine ⟨_, pss_cons (ps_set (i := 2) scWays.nd rfl (Or.inl rfl) pe_dnewK)
      (pss_cons (ps_set (i := 3) scWays.nd rfl (Or.inl rfl) (pe_lst (pa_cons (pe_tup (pa_cons (pe_tup pa_nil) (pa_cons (pv 1) pa_nil))) pa_nil)))
      (pss_cons (ps_while PassesOwn.never (pt_truth (pv 3) (fun _ => rfl))
        (pss_cons (ps_set (i := 4) scWays.nd rfl (Or.inl rfl) (pe_lst pa_nil))
        (pss_cons (ps_for PassesOwn.never rfl (pi_list (pv 3)) (pg_tup rfl (pgs_cons (pg_name (i := 5) scWays.nd rfl (Or.inl rfl)) (pgs_cons (pg_name (i := 6) scWays.nd rfl (Or.inl rfl)) pgs_nil)))
          (pss_one (ps_for PassesOwn.never rfl (pi_enumT (by rfl) he (pa_cons (pv 0) pa_nil)) (pg_tup rfl (pgs_cons (pg_name (i := 7) scWays.nd rfl (Or.inl rfl)) (pgs_cons (pg_tup rfl (pgs_cons (pg_name (i := 8) scWays.nd rfl (Or.inl rfl)) (pgs_cons (pg_name (i := 9) scWays.nd rfl (Or.inl rfl)) (pgs_cons (pg_name (i := 10) scWays.nd rfl (Or.inl rfl)) pgs_nil)))) pgs_nil)))
            (pss_one (ps_if (pw_and (pt_cmpR op_eq (pv 8) (pv 6) (nomark _)) (pw_and1 (pt_cmp (pc_dnotin hu (pv 10) (pv 2)) (by rfl)))).pt
              (pss_cons (ps_dput hu (pv 2) (pv 10) (pe_op op_catS (pv 5) (pe_tup (pa_cons (pv 7) pa_nil))) rfl)
                (pss_one (ps_expr (pe_bm PySem.F.plainAttrs_list PySem.F.slot_list_append PySem.F.type_list_append mt_append (pv 4) (pa_cons (pe_tup (pa_cons (pe_dget hu (pv 2) (pv 10) (fun _ _ => rfl)) (pa_cons (pv 10) pa_nil))) pa_nil)))))
              pss_nil)))))
        (pss_one (ps_set (i := 3) scWays.nd rfl (Or.inl rfl) (pv 4))))))
      (pss_one (ps_ret (pv 2))))), ?_⟩
    intro d hd0
    have sd := same_upd (o := HO.dK []) hd0
    refine ⟨by decide, fun e0 he0 => ⟨_, rfl, (by show 2 ≤ sizeLine; decide), fun p0 hp0 => ⟨(by show 1 ≤ sizeLine; decide), fun r hr0 => ?_⟩⟩⟩
    have s1 := same_upd (o := HO.tup []) he0
    have s2 := same_upd (o := HO.tup [V.ref e0, V.int (b : Int)]) hp0
    have s3 := same_upd (o := HO.lst [V.ref p0]) hr0
    refine ⟨fun j σ H' => ∃ (r : Addr) (kvs : List (Key × V)) (ps : List (Addr × Int)) (v4 v5 v6 v7 v8 v9 v10 : Option V), σ = [some (.ref f), some (.int b), some (.ref d), some (.ref r), v4, v5, v6, v7, v8, v9, v10] ∧
      Same H H' ∧ H' d = some (.dK kvs) ∧ H' r = some (.lst (ps.map fun q => V.ref q.1)) ∧ Rows H' last kvs.length ps ∧ kvs.length + miss last kvs ≤ last + 1 ∧ Clo fr b kvs (fun g _ => ∃ q ∈ ps, q.2 = g) ∧ j = 2 * miss last kvs + (if ps = [] then 0 else 1), ⟨_, r, [], [(p0, (b : Int))], none, none, none, none, none, none, none, rfl, ?_, ?_, ?_, ?_, ?_, ?_, rfl⟩, ?_⟩
    · exact sd.trans (s1.trans (s2.trans s3))
    · exact s3 _ _ (s2 _ _ (s1 _ _ upd_same))
    · exact upd_same
    · intro q hq
      have e : q = (p0, (b : Int)) := by simpa using hq
      subst e
      refine ⟨by show (0 : Int) ≤ (b : Int); omega, by show (b : Int) ≤ last; omega, e0, [], s3 _ _ upd_same, s3 _ _ (s2 _ _ upd_same), Nat.le_refl _⟩
    · have := miss_le (last := last) (kvs := [])
      simp only [List.length_nil]
      omega
    · intro x hx h
      rcases h with h | h
      · exact .inl ⟨_, List.mem_singleton.mpr rfl, h.symm⟩
      · cases h
    · rintro j σ H1 ⟨r, kvs, ps, v4, v5, v6, v7, v8, v9, v10, rfl, sm, hd, hr, rp, cnt, clo, rfl⟩
      refine ⟨_, rfl, _, .inl ⟨_, SqL.of hr, rfl⟩, ?_⟩
      by_cases hps : ps = []
      · subst hps
        refine iteF' rfl ?_
        refine ⟨_, rfl, q H1 d kvs sm hd0 hd fun k hk => ?_⟩
        have c2 : ∀ x ∈ fr, (x.1 = (b : Int) ∨ has kvs x.1 = true) → has kvs x.2.2 = true := fun x hx h => by
          rcases clo x hx h with ⟨_, z, _⟩ | z
          · cases z
          · exact z
        exact fm.all (S := fun g => has kvs g = true) hb (fun x hx e => c2 x hx (.inl e)) (fun x hx e => c2 x hx (.inr e)) k hk
      · refine iteT' (by cases ps; exact absurd rfl hps; rfl) ?_
        refine ⟨_, fun _ _ z => z, ?_⟩
        refine ⟨by decide, fun u hu0 => ?_⟩
        have su := same_upd (o := HO.lst []) hu0
        have hur : u ≠ r := (ne_of_none hr hu0).symm
        have hu00 : H u = none := sm.free hu0
        refine ⟨_, rfl, r, rfl, ⟨_, SqL.of (su _ _ hr)⟩, for_it (walk_list (xs := ps.map fun q => V.ref q.1)) (fun i σ H' => ∃ (kvs2 : List (Key × V)) (qs : List (Addr × Int)) (v5 v6 v7 v8 v9 v10 : Option V), σ = [some (.ref f), some (.int b), some (.ref d), some (.ref r), some (.ref u), v5, v6, v7, v8, v9, v10] ∧
          Co H H' d r u last (miss last kvs) ps qs kvs2 ∧ Clo fr b kvs2 (fun g _ => (∃ q ∈ ps.drop i, q.2 = g) ∨ ∃ q ∈ qs, q.2 = g))
          ⟨kvs, [], v5, v6, v7, v8, v9, v10, rfl, ⟨sm.trans su, su _ _ hd, su _ _ hr, upd_same, rp.keep (Same.keepT su) (Nat.le_refl _), (fun q hq => by cases hq), cnt, .inl ⟨rfl, Nat.le_refl _⟩, Nat.zero_le _⟩, fun x hx h => (clo x hx h).imp (fun z => .inl z) id⟩
          (fun i σ H' _ ⟨_, _, _, _, _, _, _, _, _, C, _⟩ => SqL.of C.hr) ?_ ?_⟩
        · rintro i v σ H2 H3 hi ⟨kvs2, qs, v5, v6, v7, v8, v9, v10, rfl, C, cl⟩ ⟨rfl, hv⟩
          obtain ⟨q1, hq1, rfl⟩ : ∃ q1, ps[i]? = some q1 ∧ v = V.ref q1.1 := by
            rw [List.getElem?_map] at hv
            cases e : ps[i]? with
            | none =>
              rw [e] at hv
              cases hv
            | some q1 =>
              rw [e] at hv
              exact ⟨q1, rfl, (Option.some.inj hv).symm⟩
          obtain ⟨g0, g1, wy, xs, e1, e2, e3⟩ := C.rp q1 (List.mem_of_getElem? hq1)
          have dq : ps.drop i = q1 :: ps.drop (i + 1) := by
            have il := (List.getElem?_eq_some_iff.mp hq1).1
            rw [List.drop_eq_getElem_cons il]
            have := (List.getElem?_eq_some_iff.mp hq1).2
            rw [this]
          obtain ⟨ts, hf, hl, ht⟩ := id fa
          refine ⟨_, _, rfl, SqT.of e1, rfl, _, _, rfl, _, _, rfl, rfl, ?_⟩
          refine ⟨_, rfl, f, _, rfl, SqT.of (C.sm _ _ hf), for_it (walk_enumT (xs := ts.map V.ref)) (fun k σ H' => ∃ (kvs3 : List (Key × V)) (qs3 : List (Addr × Int)) (v7 v8 v9 v10 : Option V), σ = [some (.ref f), some (.int b), some (.ref d), some (.ref r), some (.ref u), some (.ref wy), some (.int q1.2), v7, v8, v9, v10] ∧
            Co H H' d r u last (miss last kvs) ps qs3 kvs3 ∧ H' wy = some (.tup xs) ∧ xs.length ≤ kvs3.length ∧ Clo fr b kvs3 (fun g x => ((∃ q ∈ ps.drop (i + 1), q.2 = g) ∨ ∃ q ∈ qs3, q.2 = g) ∨ (g = q1.2 ∧ x ∈ fr.drop k)))
            ⟨kvs2, qs, v7, v8, v9, v10, rfl, C, e2, e3, fun x hx h => ?_⟩
            (fun k σ H' _ ⟨_, _, _, _, _, _, _, C', _⟩ => SqT.of (C'.sm _ _ hf)) ?_ ?_⟩
          · rcases cl x hx h with (⟨q, z, e⟩ | z) | z
            · rw [dq] at z
              rcases List.mem_cons.mp z with z | z
              · subst z
                exact .inl (.inr ⟨e.symm, by simpa using hx⟩)
              · exact .inl (.inl (.inl ⟨q, z, e⟩))
            · exact .inl (.inl (.inr z))
            · exact .inr z
          · rintro k x σ H3 H4 hk ⟨kvs3, qs3, v7, v8, v9, v10, rfl, C3, w3, wl, cl3⟩ ⟨T, xi, xo, rfl, nT, rfl, h1, h2⟩
            cases h1
            obtain ⟨t, y, hy, rfl, e4⟩ := at_step (i := k) hl ht h2
            have uT := same_upd (o := HO.tup [V.int (k : Nat), V.ref t]) nT
            have C4 := C3.same uT
            have t4 := uT _ _ (C3.sm _ _ e4)
            have w4 := uT _ _ w3
            have hym : y ∈ fr := List.mem_of_getElem? hy
            obtain ⟨b1, b2, _, b3, b4⟩ := fm.stp y hym
            obtain ⟨b5, b6⟩ := fm.lo y hym
            have dk : fr.drop k = y :: fr.drop (k + 1) := by
              have il := (List.getElem?_eq_some_iff.mp hy).1
              rw [List.drop_eq_getElem_cons il]
              have := (List.getElem?_eq_some_iff.mp hy).2
              rw [this]
            -- the step is done with
            have go : ∀ (kvs4 : List (Key × V)) (qs4 : List (Addr × Int)), (∀ g : Int, has kvs4 g = true → has kvs3 g = true ∨ ∃ q ∈ qs4, q.2 = g) → (∀ g : Int, has kvs3 g = true → has kvs4 g = true) → (∀ q ∈ qs3, q ∈ qs4) → (y.1 = q1.2 → has kvs4 y.2.2 = true) →
                Clo fr b kvs4 (fun g x => ((∃ q ∈ ps.drop (i + 1), q.2 = g) ∨ ∃ q ∈ qs4, q.2 = g) ∨ (g = q1.2 ∧ x ∈ fr.drop (k + 1))) := fun kvs4 qs4 n1 n2 n3 n4 x hx h => by
              have old : x.1 = (b : Int) ∨ has kvs3 x.1 = true → ((((∃ q ∈ ps.drop (i + 1), q.2 = x.1) ∨ ∃ q ∈ qs4, q.2 = x.1) ∨ (x.1 = q1.2 ∧ x ∈ fr.drop (k + 1))) ∨ has kvs4 x.2.2 = true) := fun h => by
                rcases cl3 x hx h with ((z | ⟨q, z, e⟩) | ⟨z1, z2⟩) | z
                · exact .inl (.inl (.inl z))
                · exact .inl (.inl (.inr ⟨q, n3 q z, e⟩))
                · rw [dk] at z2
                  rcases List.mem_cons.mp z2 with z2 | z2
                  · subst z2
                    exact .inr (n4 z1)
                  · exact .inl (.inr ⟨z1, z2⟩)
                · exact .inr (n2 _ z)
              rcases h with h | h
              · exact old (.inl h)
              · rcases n1 _ h with z | z
                · exact old (.inr z)
                · exact .inl (.inl (.inr z))
            refine ⟨T, _, rfl, SqT.of upd_same, rfl, _, _, rfl, _, _, rfl, ⟨t, _, rfl, SqT.of t4, rfl, _, _, rfl, _, _, rfl, _, _, rfl, rfl, rfl, ?_⟩⟩
            refine ⟨_, rfl, _, rfl, rfl, _, rfl, ?_⟩
            refine ite2 (fun z => ?_) (fun z => ?_)
            · have z1 : y.1 = q1.2 := V.int.inj (of_decide_eq_true z)
              refine ⟨_, rfl, _, rfl, d, _, rfl, DGet.k (k := Sum.inl y.2.2) C4.hd, _, rfl, ?_⟩
              refine ite2 (fun y1 => ?_) (fun y1 => ?_)
              · have no : has kvs3 y.2.2 = false := by
                  cases e : has kvs3 y.2.2 with
                  | false => rfl
                  | true =>
                    have e' : (valV kvs3 (Sum.inl y.2.2 : Key)).isSome = true := e
                    rw [e'] at y1
                    cases y1
                have mp := miss_put (v := V.non) b3 b6 no
                have l5 := fm.l5
                have c3 := C3.cnt
                refine ⟨_, rfl, ⟨_, rfl, (by show 1 ≤ sizeLine; decide), fun p hp => ⟨wy, p, xs, [V.int (k : Nat)], rfl, rfl, SqT.of (same_upd hp _ _ w4), upd_same, (fun z => by cases z), ?_, fun nw H5 s5 n5 => ?_⟩⟩⟩
                · rw [sizeLine_eq]
                  simp only [List.length_cons, List.length_nil]
                  omega
                have C5 := (C4.same (same_upd (o := HO.tup [V.int (k : Nat)]) hp)).same s5
                have hdu : d ≠ u := ne_of C5.hd C5.hu (fun z => by cases z)
                have hdr : d ≠ r := ne_of C5.hd C5.hr (fun z => by cases z)
                refine ⟨_, rfl, _, rfl, d, _, rfl, DPut.k (k := Sum.inl y.2.2) C5.hd (by rw [sizeLine_eq]; omega), ?_⟩
                have hn : valV kvs3 (Sum.inl y.2.2 : Key) = none := by
                  cases e : valV kvs3 (Sum.inl y.2.2 : Key) with
                  | none => rfl
                  | some v =>
                    have e' : has kvs3 y.2.2 = true := by
                      show (valV kvs3 (Sum.inl y.2.2 : Key)).isSome = true
                      rw [e]
                      rfl
                    rw [e'] at no
                    cases no
                generalize hH6 : upd H5 d (.dK (putK kvs3 (Sum.inl y.2.2) (.ref nw))) = H6
                have k6 : KeepT H5 H6 := by
                  rw [← hH6]
                  exact keepT_upd C5.hd (fun xs z => by cases z)
                have d6 : H6 d = some (.dK (putK kvs3 (Sum.inl y.2.2) (.ref nw))) := by
                  rw [← hH6]
                  exact upd_same
                have u6 : H6 u = some (.lst (qs3.map fun q => V.ref q.1)) := by
                  rw [← hH6, upd_ne hdu.symm]
                  exact C5.hu
                have r6 : H6 r = some (.lst (ps.map fun q => V.ref q.1)) := by
                  rw [← hH6, upd_ne hdr.symm]
                  exact C5.hr
                have m6 : Same H H6 := by
                  rw [← hH6]
                  exact same_set hd0 C5.sm
                have g6 : valV (putK kvs3 (Sum.inl y.2.2) (V.ref nw)) (Sum.inl y.2.2 : Key) = some (.ref nw) := by
                  rw [valV_put, if_pos rfl]
                have n6 := k6 _ _ n5
                have ml := miss_le (last := last) (kvs := kvs3)
                have mp2 := miss_put (v := V.ref nw) b3 b6 no
                have pe : (putK kvs3 (Sum.inl y.2.2 : Key) (V.ref nw)).length = kvs3.length + 1 := by
                  rw [putK_new _ hn, List.length_append]
                  rfl
                have ql := C3.ql
                refine ⟨_, rfl, ?_, _, rfl, _, rfl, ⟨d, _, rfl, by rw [← g6]; exact DGet.k (k := Sum.inl y.2.2) d6, _, rfl, (by show 2 ≤ sizeLine; decide), fun p7 hp7 => ⟨u, qs3.map (fun q => V.ref q.1), _, rfl, rfl, same_upd hp7 _ _ u6, by rw [sizeLine_eq, List.length_map]; omega, ?_⟩⟩⟩
                · exact .inl ⟨rfl, _, SqL.of u6⟩
                have k7 := Same.keepT (same_upd (o := HO.tup [V.ref nw, V.int y.2.2]) hp7)
                have hd7 := same_upd (o := HO.tup [V.ref nw, V.int y.2.2]) hp7 _ _ d6
                have hu7 := same_upd (o := HO.tup [V.ref nw, V.int y.2.2]) hp7 _ _ u6
                have hr7 := same_upd (o := HO.tup [V.ref nw, V.int y.2.2]) hp7 _ _ r6
                have k8 := keepT_upd (o := .lst (qs3.map (fun q => V.ref q.1) ++ [V.ref p7])) hu7 (fun xs z => by cases z)
                have kk : KeepT H5 _ := (k6.trans k7).trans k8
                refine ⟨putK kvs3 (Sum.inl y.2.2) (.ref nw), qs3 ++ [(p7, y.2.2)], _, _, _, _, rfl, ⟨same_set hu00 (m6.trans (same_upd hp7)), ?_, ?_, ?_, ?_, ?_, by rw [pe]; omega, .inr ?_, by rw [pe, List.length_append]; simp only [List.length_cons, List.length_nil]; omega⟩, ?_, by rw [pe]; omega, ?_⟩
                · rw [upd_ne hdu]
                  exact hd7
                · rw [upd_ne hur.symm]
                  exact hr7
                · rw [List.map_append]
                  exact upd_same
                · exact C5.rp.keep kk (by rw [pe]; omega)
                · intro q hq
                  rcases List.mem_append.mp hq with hq | hq
                  · exact C5.rq.keep kk (by rw [pe]; omega) q hq
                  · have e : q = (p7, y.2.2) := by simpa using hq
                    subst e
                    refine ⟨b3, b6, nw, xs ++ [V.int (k : Nat)], k8 _ _ upd_same, k8 _ _ (k7 _ _ n6), ?_⟩
                    rw [pe, List.length_append]
                    simp only [List.length_cons, List.length_nil]
                    omega
                · rcases C3.me with ⟨_, z⟩ | z <;> omega
                · exact kk _ _ ((same_upd (o := HO.tup [V.int (k : Nat)]) hp |>.trans s5) _ _ w4)
                · refine go _ _ (fun g h => ?_) (fun g h => ?_) (fun q h => List.mem_append_left _ h) (fun _ => ?_)
                  · rw [has_put] at h
                    rcases (Bool.or_eq_true _ _).mp h with h | h
                    · exact .inr ⟨_, List.mem_append_right _ (List.mem_singleton.mpr rfl), (of_decide_eq_true h).symm⟩
                    · exact .inl h
                  · rw [has_put, h, Bool.or_true]
                  · rw [has_put, decide_eq_true rfl]
                    rfl
              · have yes : has kvs3 y.2.2 = true := by
                  cases e : has kvs3 y.2.2 with
                  | true => rfl
                  | false =>
                    have e' : (valV kvs3 (Sum.inl y.2.2 : Key)).isSome = false := e
                    rw [e'] at y1
                    exact absurd rfl y1
                exact ⟨kvs3, qs3, _, _, _, _, rfl, C4, w4, wl, go kvs3 qs3 (fun g h => .inl h) (fun g h => h) (fun q h => h) (fun _ => yes)⟩
            · have z1 : ¬ y.1 = q1.2 := fun e => z (decide_eq_true (congrArg V.int e))
              refine iteF ?_
              exact ⟨kvs3, qs3, _, _, _, _, rfl, C4, w4, wl, go kvs3 qs3 (fun g h => .inl h) (fun g h => h) (fun q h => h) (fun e => absurd e z1)⟩
          · rintro σ H3 ⟨kvs3, qs3, v7, v8, v9, v10, rfl, C3, w3, wl, cl3⟩
            refine ⟨kvs3, qs3, _, _, v7, v8, v9, v10, rfl, C3, fun x hx h => ?_⟩
            rcases cl3 x hx h with (z | ⟨_, z⟩) | z
            · exact .inl z
            · rw [show (ts.map V.ref).length = fr.length by simp [hl], List.drop_length] at z
              cases z
            · exact .inr z
        · rintro σ H2 ⟨kvs2, qs, v5, v6, v7, v8, v9, v10, rfl, C, cl⟩
          refine ⟨_, rfl, _, ?_, u, kvs2, qs, some (.ref u), v5, v6, v7, v8, v9, v10, rfl, C.sm, C.hd, C.hu, C.rq, C.cnt, fun x hx h => ?_, rfl⟩
          · rw [if_neg hps]
            rcases C.me with ⟨z, y⟩ | z
            · rw [if_pos z]
              omega
            · split <;> omega
          · rcases cl x hx h with (z | z) | z
            · rw [List.length_map, List.drop_length] at z
              obtain ⟨_, z, _⟩ := z
              cases z
            · exact .inl z
            · exact .inr z
end
end K41

set_option Elab.async false
set_option linter.all false
set_option maxRecDepth 100000
set_option maxHeartbeats 4000000
/-! is_joined, need_framing. -/
namespace K41
open PySem L2 L2.EV
abbrev sJoined : Stmt := top 15
abbrev sNeedF : Stmt := top 16
def spJoined : Sp := fun vs H Q _ => ∃ (f : Addr) (fr : List T3) (last : Nat), vs = [.ref f] ∧ FrA H f fr ∧ Frm fr last ∧ ∀ H', Same H H' → Q (.bl true) H'
def spNeedF : Sp := fun vs H Q _ => ∃ (f : Addr) (fr : List T3) (last : Nat), vs = [.ref f] ∧ FrA H f fr ∧ Frm fr last ∧ ∀ H', Same H H' → Q (.ref f) H'
/-- the defs that need_framing calls -/
structure Fs (K : PySem.W.Frag) (mg : Str → Option Value) where
  fN : Addr
  fP : Addr
  fS : Addr
  fL : Addr
  fW : Addr
  fJ : Addr
  fF : Addr
  dN : FuncData
  dP : FuncData
  dS : FuncData
  dL : FuncData
  dW : FuncData
  dJ : FuncData
  dF : FuncData
  N : Fun K "is_number" "is_number" sNum fN dN
  P : Fun K "is_piece" "is_piece" sPc fP dP
  S : Fun K "is_step" "is_step" sStep fS dS
  L : Fun K "listed_standings" "listed_standings" sListed fL dL
  W : Fun K "ways_from" "ways_from" sWays fW dW
  J : Fun K "is_joined" "is_joined" sJoined fJ dJ
  F : Fun K "need_framing" "need_framing" sNeedF fF dF
  bN : Binds K dN ["thing", "many"] []
  bP : Binds K dP ["thing"] []
  bS : Binds K dS ["thing"] []
  bL : Binds K dL ["framing"] []
  bW : Binds K dW ["framing", "begin"] []
  bJ : Binds K dJ ["framing"] []
  bF : Binds K dF ["thing"] []
  mN : mg "is_number" = some (.ref fN)
  mP : mg "is_piece" = some (.ref fP)
  mS : mg "is_step" = some (.ref fS)
  mL : mg "listed_standings" = some (.ref fL)
  mW : mg "ways_from" = some (.ref fW)
  mJ : mg "is_joined" = some (.ref fJ)
  mF : mg "need_framing" = some (.ref fF)
  T : TxtF mg
  so : mg "sorted" = none
  en : mg "enumerate" = none
  ms : ∃ t, mg "MOST_STEPS" = some (.int 16 t)
section
variable {P : Program} {w : World} {K : PySem.W.Frag} {mg : Str → Option Value} {base : Heap}
theorem scJoined : FnScope ["framing", "reached", "standing"] ["framing"] (defScope sJoined) := ⟨rfl, rfl, rfl, by decide +kernel, rfl, by decide +kernel, by decide +kernel⟩
theorem ok_joined (Z : Fs K mg) : FnOk P w K mg base CX0 2 Z.fJ Z.dJ ["framing"] spJoined := by
  have GL : FnOk P w K mg base CX0 1 Z.fL Z.dL ["framing"] spListed := ok_listed Z.L Z.so
  have GW : FnOk P w K mg base CX0 1 Z.fW Z.dW ["framing", "begin"] spWays := ok_ways Z.W Z.en
  refine Z.J.ok scJoined (fun vs H Q E h => ?_) (fun cdv A outer s H vs Q E hr h => ?_)
  · obtain ⟨f, fr, last, rfl, _⟩ := h
    rfl
  · obtain ⟨f, fr, last, rfl, fa, fm, q⟩ := h
    have hu := hu_of hr
    refine ⟨_, pss_cons (ps_set (i := 1) scJoined.nd rfl (Or.inl rfl) (pe_call GW hr (by rfl) Z.mW Z.W.kp Z.bW .nil pass0 (pa_cons (pv 0) (pa_cons pe_int pa_nil))))
      (pss_cons (ps_for PassesOwn.never rfl (pi_list (pe_call GL hr (by rfl) Z.mL Z.L.kp Z.bL .nil pass0 (pa_cons (pv 0) pa_nil))) (pg_name (i := 2) scJoined.nd rfl (Or.inl rfl))
        (pss_one (ps_if (pw_or (pt_cmp (pc_dnotin hu (pv 2) (pv 1)) (by rfl)) (pw_or1 (pt_cmp (pc_dnotin hu pe_int (pe_call GW hr (by rfl) Z.mW Z.W.kp Z.bW .nil pass0 (pa_cons (pv 0) (pa_cons (pv 2) pa_nil)))) (by rfl)))).pt
          (pss_one (ps_ret pe_bl)) pss_nil)))
      (pss_one (ps_ret pe_bl))), ?_⟩
    refine ⟨_, rfl, f, fr, last, 0, rfl, fa, fm, Nat.zero_le _, fun H1 d kvs s1 n1 e1 h1 => ?_⟩
    refine ⟨_, rfl, f, fr, last, rfl, fa.same s1, fm, fun H2 p ns s2 n2 e2 l2 k2 => ⟨p, rfl, ⟨_, SqL.of e2⟩, for_it (walk_list (xs := ns.map V.int)) (fun i σ H' => ∃ v2 : Option V, σ = [some (.ref f), some (.ref d), v2] ∧ Same H2 H')
      ⟨none, rfl, fun _ _ e => e⟩ (fun i σ H' _ ⟨_, _, z⟩ => SqL.of (z _ _ e2)) ?_ ?_⟩⟩
    · rintro i x σ H3 H4 hi ⟨v2, rfl, s3⟩ ⟨rfl, hx⟩
      obtain ⟨k, hk, rfl⟩ : ∃ k : Int, k ∈ ns ∧ x = .int k := by
        rw [List.getElem?_map] at hx
        cases e : ns[i]? with
        | none =>
          rw [e] at hx
          cases hx
        | some k =>
          rw [e] at hx
          exact ⟨k, List.mem_of_getElem? e, (Option.some.inj hx).symm⟩
      obtain ⟨k0, k1⟩ := k2 k hk
      obtain ⟨b, rfl⟩ := Int.eq_ofNat_of_zero_le k0
      have hb : b ≤ last := by omega
      have hb' : (valV kvs (Sum.inl (b : Int) : Key)).isSome = true := h1 b hb
      refine ⟨_, rfl, _, rfl, d, _, rfl, DGet.k (k := Sum.inl (b : Int)) (s3 _ _ (s2 _ _ e1)), _, rfl, iteF' (by rw [hb']; rfl) ?_⟩
      refine ⟨_, rfl, _, rfl, f, fr, last, b, rfl, (fa.same s1).same (s2.trans s3), fm, hb, fun H5 d5 kvs5 s5 n5 e5 h5 => ?_⟩
      have h0' : (valV kvs5 (Sum.inl (0 : Int) : Key)).isSome = true := h5 0 (Nat.zero_le _)
      refine ⟨d5, _, rfl, DGet.k (k := Sum.inl (0 : Int)) e5, _, rfl, iteF' (by rw [h0']; rfl) ?_⟩
      exact ⟨_, rfl, s3.trans s5⟩
    · rintro σ H3 ⟨v2, rfl, s3⟩
      exact q H3 (s1.trans (s2.trans s3))
theorem scNeedF : FnScope ["thing", "number", "step"] ["thing"] (defScope sNeedF) := ⟨rfl, rfl, rfl, by decide +kernel, rfl, by decide +kernel, by decide +kernel⟩
theorem ok_needF (Z : Fs K mg) : FnOk P w K mg base CX0 3 Z.fF Z.dF ["thing"] spNeedF := by
  have GS : FnOk P w K mg base CX0 2 Z.fS Z.dS ["thing"] spStep := ok_step Z.S Z.T Z.N Z.bN Z.mN Z.P Z.bP Z.mP
  have GJ : FnOk P w K mg base CX0 2 Z.fJ Z.dJ ["framing"] spJoined := ok_joined Z
  refine Z.F.ok scNeedF (fun vs H Q E h => ?_) (fun cdv A outer s H vs Q E hr h => ?_)
  · obtain ⟨f, fr, last, rfl, _⟩ := h
    rfl
  · obtain ⟨f, fr, last, rfl, fa, fm, q⟩ := h
    have hu := hu_of hr
    have hu0 : (A.deeper (PyProof.Rows.envOfC "need_framing" (defScope sNeedF) s.heap.objs.size Z.fF cdv)).units < cLine := by omega
    obtain ⟨tm, eM⟩ := Z.ms
    refine ⟨_, pss_cons (ps_if (pw_or (pt_not (pt_val (pe_callB call_isi (by rfl) Z.T.isi PyProof.Rows.boot_isinstance (pa_cons (pv 0) (pa_cons (pe_bltn (v := .ty "tuple") (by rfl) Z.T.tuple (by decide +kernel) rfl) pa_nil)))))
        (pw_or1 (pt_not (pt_chain op_le op_le pe_int (pe_callB call_len_seq (by rfl) Z.T.len PySem.boot_len (pa_cons (pv 0) pa_nil)) (pe_glob (v := .int 16) (by rfl) eM ⟨_, rfl⟩))))).pt
        (pss_one ps_never) pss_nil)
      (pss_cons (ps_for PassesOwn.never rfl (pi_enumT (by rfl) Z.en (pa_cons (pv 0) pa_nil)) (pg_tup rfl (pgs_cons (pg_name (i := 1) scNeedF.nd rfl (Or.inl rfl)) (pgs_cons (pg_name (i := 2) scNeedF.nd rfl (Or.inl rfl)) pgs_nil)))
        (pss_one (ps_if (pw_or (pt_not (pt_val (pe_call GS hr (by rfl) Z.mS Z.S.kp Z.bS .nil pass0 (pa_cons (pv 2) pa_nil))))
          (pw_or1 (pw_and (pt_cmpR op_gt (pv 1) pe_int (nomark _)) (pw_and1 (pt_cmpR (op_le3 hu0) (pv 2) (pe_ix ix_tup (pv 0) (pe_op op_sub (pv 1) pe_int) (fun _ _ => rfl)) (nomark _)))).pt)).pt
          (pss_one ps_never) pss_nil)))
      (pss_cons (ps_if (pt_not (pt_val (pe_call GJ hr (by rfl) Z.mJ Z.J.kp Z.bJ .nil pass0 (pa_cons (pv 0) pa_nil)))) (pss_one ps_never) pss_nil)
      (pss_one (ps_ret (pv 0))))), ?_⟩
    obtain ⟨ts, hf, hl, ht⟩ := id fa
    have l0 := fm.l0
    have l1 := fm.l1
    refine ⟨_, rfl, .ref f, .ty "tuple", .type "tuple", .type "tuple", true, rfl, .ty "tuple", .base (.tup hf), kit_ty (by decide +kernel), true, rfl, iteF ?_⟩
    refine ⟨_, rfl, f, _, rfl, .inr (SqT.of hf), 1, _, rfl, rfl, _, rfl, iteT' (decide_eq_true (by simp; omega)) ⟨_, 16, rfl, rfl, _, rfl, ?_⟩⟩
    refine iteF' (by rw [decide_eq_true (by simp; omega)]; rfl) ?_
    refine ⟨_, rfl, f, _, rfl, SqT.of hf, for_it (walk_enumT (xs := ts.map V.ref)) (fun i σ H' => ∃ v1 v2 : Option V, σ = [some (.ref f), v1, v2] ∧ Same H H')
      ⟨none, none, rfl, fun _ _ e => e⟩ (fun i σ H' _ ⟨_, _, _, z⟩ => SqT.of (z _ _ hf)) ?_ ?_⟩
    · rintro i x σ H1 H2 hi ⟨v1, v2, rfl, s1⟩ ⟨T, xi, xo, rfl, nT, rfl, h1, h2⟩
      cases h1
      obtain ⟨t, y, hy, rfl, e4⟩ := at_step (i := i) hl ht h2
      have s2 := s1.trans (same_upd (o := HO.tup [V.int (i : Nat), V.ref t]) nT)
      refine ⟨T, _, rfl, SqT.of upd_same, rfl, _, _, rfl, _, _, rfl, rfl, ?_⟩
      refine ⟨_, rfl, t, y, rfl, s2 _ _ e4, fm.stp y (List.mem_of_getElem? hy), fun H3 s3 => ⟨_, rfl, iteF ?_⟩⟩
      refine ⟨_, rfl, (i : Int), 0, rfl, rfl, _, rfl, ?_⟩
      refine ite2 (fun z => ?_) (fun z => ?_)
      · have z1 : (0 : Int) < i := of_decide_eq_true z
        obtain ⟨j, rfl⟩ : ∃ j, i = j + 1 := ⟨i - 1, by omega⟩
        have jl : j < fr.length := by
          have := (List.getElem?_eq_some_iff.mp hy).1
          omega
        have jt : j < ts.length := by omega
        have e5 := ht j ts[j] fr[j] (List.getElem?_eq_getElem jt) (List.getElem?_eq_getElem jl)
        have lt : lt3 fr[j] y = true := by
          have h3 := List.pairwise_iff_getElem.mp fm.srt j (j + 1) jl (List.getElem?_eq_some_iff.mp hy).1 (by omega)
          rw [(List.getElem?_eq_some_iff.mp hy).2] at h3
          exact h3
        refine ⟨_, rfl, _, rfl, _, rfl, _, _, rfl, rfl, f, _, (j : Int), V.ref ts[j], rfl, ?_, SqT.of (s3 _ _ (s2 _ _ hf)), atI_nat ?_, t, ts[j], y, fr[j], rfl, rfl, s3 _ _ (s2 _ _ e4), s3 _ _ (s2 _ _ e5), _, rfl, ?_⟩
        · show V.int (((j + 1 : Nat) : Int) - 1) = V.int (j : Int)
          congr 1
          omega
        · rw [List.getElem?_map, List.getElem?_eq_getElem jt]
          rfl
        · refine iteF' (by rw [lt]; rfl) ?_
          exact ⟨_, _, rfl, s2.trans s3⟩
      · refine iteF ?_
        exact ⟨_, _, rfl, s2.trans s3⟩
    · rintro σ H1 ⟨v1, v2, rfl, s1⟩
      refine ⟨_, rfl, f, fr, last, rfl, fa.same s1, fm, fun H2 s2 => ⟨_, rfl, iteF ⟨_, rfl, q H2 (s1.trans s2)⟩⟩⟩
end
end K41

set_option Elab.async false
set_option linter.all false
set_option maxRecDepth 100000
set_option maxHeartbeats 4000000
/-! is_entry, first_wrong, need_weaving. -/
namespace K41
open PySem L2 L2.EV
abbrev sEntry : Stmt := top 20
abbrev sWrong : Stmt := top 21
abbrev E2 : Type := Int × Int
abbrev A2 (H : Hp) (t : Addr) (e : E2) : Prop := H t = some (.tup [.int e.1, .int e.2])
/-- a weaving at w -/
def WvA (H : Hp) (w : Addr) (es : List E2) : Prop := ∃ ts : List Addr, H w = some (.tup (ts.map V.ref)) ∧ ts.length = es.length ∧ ∀ (i : Nat) t e, ts[i]? = some t → es[i]? = some e → A2 H t e
theorem WvA.same {H H' : Hp} {f : Addr} {es : List E2} (h : WvA H f es) (s : Same H H') : WvA H' f es := by
  obtain ⟨ts, e, l, c⟩ := h
  exact ⟨ts, s _ _ e, l, fun i t x h1 h2 => s _ _ (c i t x h1 h2)⟩
theorem at_ent {H : Hp} {ts : List Addr} {es : List E2} {i : Nat} {x : V} (hl : ts.length = es.length) (ht : ∀ (i : Nat) t e, ts[i]? = some t → es[i]? = some e → A2 H t e) (hx : (ts.map V.ref)[i]? = some x) :
    ∃ t e, es[i]? = some e ∧ ts[i]? = some t ∧ x = .ref t ∧ A2 H t e := by
  rw [List.getElem?_map] at hx
  cases e : ts[i]? with
  | none =>
    rw [e] at hx
    cases hx
  | some t =>
    rw [e] at hx
    have il : i < es.length := by
      have := (List.getElem?_eq_some_iff.mp e).1
      omega
    exact ⟨t, es[i], List.getElem?_eq_getElem il, rfl, (Option.some.inj hx).symm, ht i t _ e (List.getElem?_eq_getElem il)⟩
/-- a step by its number -/
def stt (fr : List T3) (n : Int) : T3 := fr.getD n.toNat (0, "", 0)
/-- the standings behind some entries -/
def plc (fr : List T3) (es : List E2) : List Int := es.foldl (fun pl e => pl.set e.1.toNat (stt fr e.2).2.2) (List.replicate 8 0)
/-- an entry by itself -/
def Ent (fr : List T3) (e : E2) : Prop := 0 ≤ e.1 ∧ e.1 < 8 ∧ 0 ≤ e.2 ∧ e.2 < fr.length
structure Wv (fr : List T3) (es : List E2) : Prop where
  l : es.length ≤ 60
  ent : ∀ e ∈ es, Ent fr e
  go : ∀ (i : Nat) e, es[i]? = some e → (plc fr (es.take i))[e.1.toNat]? = some (stt fr e.2).1
theorem plc_snoc {fr : List T3} {es : List E2} {e : E2} : plc fr (es ++ [e]) = (plc fr es).set e.1.toNat (stt fr e.2).2.2 := by
  unfold plc
  rw [List.foldl_append]
  rfl
theorem plc_len {fr : List T3} : ∀ {es : List E2}, (plc fr es).length = 8 := by
  have z : ∀ (es : List E2) (pl : List Int), (es.foldl (fun pl e => pl.set e.1.toNat (stt fr e.2).2.2) pl).length = pl.length := by
    intro es
    induction es with
    | nil => exact fun pl => rfl
    | cons e es ih =>
      intro pl
      rw [List.foldl_cons, ih, List.length_set]
  intro es
  unfold plc
  rw [z, List.length_replicate]
theorem take_one {α : Type} {es : List α} {i : Nat} {e : α} (h : es[i]? = some e) : es.take (i + 1) = es.take i ++ [e] := by
  have il := (List.getElem?_eq_some_iff.mp h).1
  rw [List.take_succ, h]
  rfl
/-- framing[n] -/
theorem stt_at {H : Hp} {f : Addr} {fr : List T3} {n : Int} (fa : FrA H f fr) (h0 : 0 ≤ n) (h1 : n < fr.length) : ∃ (ts : List Addr) (t : Addr), H f = some (.tup (ts.map V.ref)) ∧ atI (ts.map V.ref) n = some (.ref t) ∧ S3 H t (stt fr n) ∧ stt fr n ∈ fr := by
  obtain ⟨ts, hf, hl, ht⟩ := fa
  obtain ⟨k, rfl⟩ := Int.eq_ofNat_of_zero_le h0
  have kl : k < fr.length := by omega
  have kt : k < ts.length := by omega
  have e : stt fr (k : Int) = fr[k] := by
    unfold stt
    rw [List.getD_eq_getElem?_getD]
    simp [kl]
  refine ⟨ts, ts[k], hf, atI_nat ?_, ?_, ?_⟩
  · rw [List.getElem?_map, List.getElem?_eq_getElem kt]
    rfl
  · rw [e]
    exact ht k _ _ (List.getElem?_eq_getElem kt) (List.getElem?_eq_getElem kl)
  · rw [e]
    exact List.getElem_mem kl
def spEntry : Sp := fun vs H Q _ => ∃ (f t : Addr) (fr : List T3) (e : E2), vs = [.ref f, .ref t, .int 8] ∧ FrA H f fr ∧ A2 H t e ∧ Ent fr e ∧ Q (.bl true) H
def spWrong : Sp := fun vs H Q _ => ∃ (f w : Addr) (fr : List T3) (es : List E2), vs = [.ref f, .ref w, .int 0] ∧ FrA H f fr ∧ WvA H w es ∧ Wv fr es ∧ ∀ H', Same H H' → Q .non H'
structure Ws (K : PySem.W.Frag) (mg : Str → Option Value) where
  Z : Fs K mg
  fE : Addr
  fR : Addr
  dE : FuncData
  dR : FuncData
  E : Fun K "is_entry" "is_entry" sEntry fE dE
  R : Fun K "first_wrong" "first_wrong" sWrong fR dR
  bE : Binds K dE ["framing", "thing", "many"] []
  bR : Binds K dR ["framing", "things", "begin"] []
  mE : mg "is_entry" = some (.ref fE)
  mR : mg "first_wrong" = some (.ref fR)
  marks : ∃ t, mg "MARKS" = some (.str "ABCDEFGH" t)
  most : ∃ t, mg "MOST_ENTRIES" = some (.int 200 t)
section
variable {P : Program} {w : World} {K : PySem.W.Frag} {mg : Str → Option Value} {base : Heap}
theorem scEntry : FnScope ["framing", "thing", "many"] ["framing", "thing", "many"] (defScope sEntry) := ⟨rfl, rfl, rfl, by decide +kernel, rfl, by decide +kernel, by decide +kernel⟩
theorem ok_entry (Y : Ws K mg) : FnOk P w K mg base CX0 2 Y.fE Y.dE ["framing", "thing", "many"] spEntry := by
  have GN : FnOk P w K mg base CX0 1 Y.Z.fN Y.Z.dN ["thing", "many"] spNum := ok_num Y.Z.N Y.Z.T
  refine Y.E.ok scEntry (fun vs H Q E h => ?_) (fun cdv A outer s H vs Q E hr h => ?_)
  · obtain ⟨f, t, fr, e, rfl, _⟩ := h
    rfl
  · obtain ⟨f, t, fr, e, rfl, fa, ha, ⟨e0, e1, e2, e3⟩, q⟩ := h
    obtain ⟨tm, eM⟩ := Y.marks
    refine ⟨_, pss_cons (ps_if (pw_or (pt_not (pt_val (pe_callB call_isi (by rfl) Y.Z.T.isi PyProof.Rows.boot_isinstance (pa_cons (pv 1) (pa_cons (pe_bltn (v := .ty "tuple") (by rfl) Y.Z.T.tuple (by decide +kernel) rfl) pa_nil)))))
        (pw_or1 (pt_cmpR op_ne (pe_callB call_len_seq (by rfl) Y.Z.T.len PySem.boot_len (pa_cons (pv 1) pa_nil)) pe_int (nomark _)))).pt
        (pss_one (ps_ret pe_bl)) pss_nil)
      (pss_one (ps_ret (pe_and (pe_call GN hr (by rfl) Y.Z.mN Y.Z.N.kp Y.Z.bN .nil pass0 (pa_cons (pe_ix ix_tup (pv 1) pe_int (fun _ _ => rfl)) (pa_cons (pv 2) pa_nil)))
        (pe_one (pe_call GN hr (by rfl) Y.Z.mN Y.Z.N.kp Y.Z.bN .nil pass0 (pa_cons (pe_ix ix_tup (pv 1) pe_int (fun _ _ => rfl)) (pa_cons (pe_callB call_len_seq (by rfl) Y.Z.T.len PySem.boot_len (pa_cons (pv 0) pa_nil)) pa_nil))))))), ?_⟩
    obtain ⟨ts, hf, hl, ht⟩ := id fa
    refine ⟨_, rfl, .ref t, .ty "tuple", .type "tuple", .type "tuple", true, rfl, .ty "tuple", .base (.tup ha), kit_ty (by decide +kernel), true, rfl, iteF ?_⟩
    refine ⟨_, rfl, t, _, rfl, .inr (SqT.of ha), rfl, _, rfl, iteF ?_⟩
    refine ⟨_, rfl, t, _, 0, _, rfl, rfl, SqT.of ha, atI_nat (j := 0) rfl, _, rfl, e.1, 8, rfl, true, ?_, iteT ?_⟩
    · rw [decide_eq_true e0, decide_eq_true e1]
      rfl
    refine ⟨_, rfl, t, _, 1, _, rfl, rfl, SqT.of ha, atI_nat (j := 1) rfl, _, rfl, f, _, rfl, .inr (SqT.of hf), e.2, _, rfl, ?_⟩
    rw [decide_eq_true e2, decide_eq_true (by simp [hl]; omega)]
    exact q
theorem scWrong : FnScope ["framing", "things", "begin", "mark", "places", "number", "thing", "writer", "step", "start", "piece", "goal"] ["framing", "things", "begin"] (defScope sWrong) := ⟨rfl, rfl, rfl, by decide +kernel, rfl, by decide +kernel, by decide +kernel⟩
theorem ok_wrong (Y : Ws K mg) : FnOk P w K mg base CX0 3 Y.fR Y.dR ["framing", "things", "begin"] spWrong := by
  have GE : FnOk P w K mg base CX0 2 Y.fE Y.dE ["framing", "thing", "many"] spEntry := ok_entry Y
  refine Y.R.ok scWrong (fun vs H Q E h => ?_) (fun cdv A outer s H vs Q E hr h => ?_)
  · obtain ⟨f, t, fr, e, rfl, _⟩ := h
    rfl
  · obtain ⟨f, wv, fr, es, rfl, fa, wa, wo, q⟩ := h
    obtain ⟨tm, eM⟩ := Y.marks
    refine ⟨_, pss_cons (ps_setLc (i := 4) (y := "places") (own := [("mark", 3)]) (g := gName 3) (te := tVar 2) rfl scWrong.nd rfl rfl (by rfl) (pi_str (pe_glob (v := .str "ABCDEFGH") (by rfl) eM ⟨_, rfl⟩))
        (blkOk_by (N := ["framing", "things", "begin", "mark", "places", "number", "thing", "writer", "step", "start", "piece", "goal"]) (sc := defScope sWrong) (by decide +kernel))
        (fun _ _ _ _ _ => pg_name (i := 3) scWrong.nd rfl (Or.inl rfl)) (fun _ _ _ _ _ => pts_nil) (fun _ _ _ _ _ => pv 2))
      (pss_cons (ps_for PassesOwn.never rfl (pi_enumT (by rfl) Y.Z.en (pa_cons (pv 1) pa_nil)) (pg_tup rfl (pgs_cons (pg_name (i := 5) scWrong.nd rfl (Or.inl rfl)) (pgs_cons (pg_name (i := 6) scWrong.nd rfl (Or.inl rfl)) pgs_nil)))
        (pss_cons (ps_if (pt_not (pt_val (pe_call GE hr (by rfl) Y.mE Y.E.kp Y.bE .nil pass0 (pa_cons (pv 0) (pa_cons (pv 6) (pa_cons (pe_callB call_len_str (by rfl) Y.Z.T.len PySem.boot_len (pa_cons (pe_glob (v := .str "ABCDEFGH") (by rfl) eM ⟨_, rfl⟩) pa_nil)) pa_nil)))))) (pss_one (ps_ret (pv 5))) pss_nil)
        (pss_cons (ps_asg (pv 6) (pg_tup rfl (pgs_cons (pg_name (i := 7) scWrong.nd rfl (Or.inl rfl)) (pgs_cons (pg_name (i := 8) scWrong.nd rfl (Or.inl rfl)) pgs_nil))))
        (pss_cons (ps_asg (pe_ix ix_tup (pv 0) (pv 8) (fun _ _ => rfl)) (pg_tup rfl (pgs_cons (pg_name (i := 9) scWrong.nd rfl (Or.inl rfl)) (pgs_cons (pg_name (i := 10) scWrong.nd rfl (Or.inl rfl)) (pgs_cons (pg_name (i := 11) scWrong.nd rfl (Or.inl rfl)) pgs_nil)))))
        (pss_cons (ps_if (pw_and (pt_cmpR op_notN (pe_ix ix_list (pv 4) (pv 7) (fun _ _ => rfl)) pe_non (nomark _)) (pw_and1 (pt_cmpR op_ne (pe_ix ix_list (pv 4) (pv 7) (fun _ _ => rfl)) (pv 9) (nomark _)))).pt (pss_one (ps_ret (pv 5))) pss_nil)
        (pss_one (ps_asg (pv 11) (pg_sub (pv 4) (pv 7) set_list))))))))
      (pss_one (ps_ret pe_non))), ?_⟩
    obtain ⟨tw, hw, wl, wt⟩ := id wa
    refine ⟨_, rfl, fun D hD => ?_⟩
    refine lc_it walk_str (fun i H' => H' D = some (.lst ((List.replicate i (0 : Int)).map V.int)) ∧ ∀ b o, H b = some o → H' b = some o) ⟨upd_same, fun b o z => same_upd hD b o z⟩ (fun _ _ _ _ => trivial) ?_ ?_
    · rintro i x H1 H2 hi ⟨hl, kp⟩ ⟨rfl, c, hc, rfl⟩
      refine ⟨rfl, ⟨_, rfl, _, hl, ?_, ?_, fun b o z => ?_⟩⟩
      · have h8 : i < 8 := hi
        rw [List.length_map, List.length_replicate, sizeLine_eq]
        omega
      · rw [List.replicate_succ', List.map_append]
        exact upd_same
      · rw [upd_ne (ne_of_none z hD)]
        exact kp b o z
    · rintro H1 ⟨hl, kp⟩
      refine ⟨_, rfl, wv, _, rfl, SqT.of (kp _ _ hw), for_it (walk_enumT (xs := tw.map V.ref)) (fun i σ H' => ∃ v5 v6 v7 v8 v9 v10 v11 : Option V, σ = [some (.ref f), some (.ref wv), some (.int 0), none, some (.ref D), v5, v6, v7, v8, v9, v10, v11] ∧ Same H H' ∧ H' D = some (.lst ((plc fr (es.take i)).map V.int)))
        ⟨none, none, none, none, none, none, none, rfl, kp, hl⟩ (fun i σ H' _ ⟨_, _, _, _, _, _, _, _, z, _⟩ => SqT.of (z _ _ hw)) ?_ ?_⟩
      · rintro i x σ H2 H3 hi ⟨v5, v6, v7, v8, v9, v10, v11, rfl, s2, d2⟩ ⟨T, xi, xo, rfl, nT, rfl, h1, h2⟩
        cases h1
        obtain ⟨t, e, he, _, rfl, e4⟩ := at_ent (i := i) wl wt h2
        have uT := same_upd (o := HO.tup [V.int (i : Nat), V.ref t]) nT
        have s3 := s2.trans uT
        have d3 := uT _ _ d2
        have ent := wo.ent e (List.mem_of_getElem? he)
        obtain ⟨e0, e1, n0, n1⟩ := id ent
        obtain ⟨ts, t2, hf, ha, h3, _⟩ := stt_at (fa.same s3) n0 n1
        have pw : atI ((plc fr (es.take i)).map V.int) e.1 = some (V.int (stt fr e.2).1) := by
          obtain ⟨k, hk⟩ := Int.eq_ofNat_of_zero_le e0
          have g := wo.go i e he
          rw [hk] at g ⊢
          refine atI_nat ?_
          rw [List.getElem?_map]
          have g' : (plc fr (es.take i))[k]? = some (stt fr e.2).1 := g
          rw [g']
          rfl
        refine ⟨T, _, rfl, SqT.of upd_same, rfl, _, _, rfl, _, _, rfl, rfl, ?_⟩
        refine ⟨_, rfl, _, rfl, _, rfl, (by decide +kernel), f, t, fr, e, rfl, fa.same s3, s3 _ _ e4, ent, _, rfl, iteF ?_⟩
        refine ⟨_, rfl, t, _, rfl, SqT.of (s3 _ _ e4), rfl, _, _, rfl, _, _, rfl, rfl, ?_⟩
        refine ⟨_, rfl, _, rfl, f, _, e.2, .ref t2, rfl, rfl, SqT.of hf, ha, t2, _, rfl, SqT.of h3, rfl, _, _, rfl, _, _, rfl, _, _, rfl, rfl, ?_⟩
        refine ⟨_, rfl, _, rfl, D, _, e.1, _, rfl, rfl, SqL.of d3, pw, rfl, _, rfl, iteT' (by simp) ?_⟩
        refine ⟨_, rfl, _, rfl, D, _, e.1, _, rfl, rfl, SqL.of d3, pw, _, rfl, rfl, _, rfl, iteF' (by simp) ?_⟩
        refine ⟨_, rfl, _, rfl, _, rfl, D, _, e.1, e.1.toNat, rfl, rfl, d3, ?_, ?_⟩
        · rw [List.length_map, plc_len]
          unfold ixN
          rw [if_pos e0, if_pos (by omega)]
        · refine ⟨_, _, _, _, _, _, _, rfl, same_set hD s3, ?_⟩
          rw [take_one he, plc_snoc, List.map_set]
          exact upd_same
      · rintro σ H2 ⟨v5, v6, v7, v8, v9, v10, v11, rfl, s2, d2⟩
        exact q H2 s2
end
end K41

set_option Elab.async false
set_option linter.all false
set_option maxRecDepth 100000
set_option maxHeartbeats 4000000
/-! file_of, read_lines, rest_of, stands. -/
namespace L2
open PySem PySem.Spec PyProof.Rows
/-- t[lo:hi]: somewhere, all else stays -/
def rSlW (K : PySem.W.Frag) : V → Option Int → Option Int → Hp → VK → Prop := fun x lo hi H Q => ∃ a xs, x = .ref a ∧ H a = some (.tup xs) ∧ ∀ p H', Same H H' → H' p = some (.tup (cutV xs lo hi)) → Q (.ref p) H'
theorem sl_tupS {X : Cx} : SlR X (rSlW X.K) := by
  intro pins s σ H x v vl vu lo hi sl Q I rx hs pl pu h
  obtain ⟨a, xs, rfl, ha, q⟩ := h
  refine sl_tupA pins s σ H _ v vl vu lo hi sl Q I rx hs pl pu ⟨a, xs, rfl, SqT.of ha, fun z => ?_, fun _ p hp => q p _ (K41.same_upd hp) upd_same⟩
  refine q a H (fun _ _ e => e) ?_
  rw [ha]
  unfold cutV
  rw [z.1, z.2]
  simp
end L2

set_option Elab.async false
set_option linter.all false
set_option maxRecDepth 100000
set_option maxHeartbeats 4000000
/-! Drawn pieces. -/
namespace K41
open PySem L2 L2.EV
abbrev sPiece : Stmt := top 42
/-- the draws have gone on from H0, where they were at k0 with the list l0: all other things are as they were -/
structure Dr (H0 H : Hp) (m c l0 l : Addr) (k : Int) : Prop where
  at_ : MAt H m c l k
  hl : l = l0 ∨ H0 l = none
  kp : ∀ b o, H0 b = some o → b ≠ m → b ≠ l0 → H b = some o
theorem Dr.refl {H : Hp} {m c l : Addr} {k : Int} (M : MAt H m c l k) : Dr H H m c l l k := ⟨M, .inl rfl, fun b o e _ _ => e⟩
theorem Dr.same {H0 H H' : Hp} {m c l0 l : Addr} {k : Int} (d : Dr H0 H m c l0 l k) (s : Same H H') : Dr H0 H' m c l0 l k :=
  ⟨d.at_.same s, d.hl, fun b o e h1 h2 => s _ _ (d.kp b o e h1 h2)⟩
/-- one part behind another -/
theorem Dr.trans {H0 H H' : Hp} {m c l0 l l' : Addr} {k k' : Int} (d : Dr H0 H m c l0 l k) (e : Dr H H' m c l l' k') : Dr H0 H' m c l0 l' k' := by
  refine ⟨e.at_, ?_, fun b o e1 h1 h2 => e.kp b o (d.kp b o e1 h1 h2) h1 ?_⟩
  · rcases e.hl with h | h
    · rw [h]
      exact d.hl
    · by_cases z : l' = l0
      · exact .inl z
      · refine .inr ?_
        cases q : H0 l' with
        | none => rfl
        | some o =>
          have ne : l' ≠ m := (ne_of_none d.at_.hm h).symm
          rw [d.kp l' o q ne z] at h
          cases h
  · rcases d.hl with hl | hl
    · rw [hl]
      exact h2
    · exact ne_of_none e1 hl
/-- a thing of another kind than the draws' own stays -/
theorem Dr.tup {H0 H : Hp} {m c l0 l : Addr} {k k0 : Int} {a : Addr} {xs : List V} (d : Dr H0 H m c l0 l k) (M : MAt H0 m c l0 k0) (e : H0 a = some (.tup xs)) : H a = some (.tup xs) := by
  obtain ⟨ls, hl, _⟩ := M.hl
  exact d.kp a _ e (ne_of e M.hm (fun z => by cases z)) (ne_of e hl (fun z => by cases z))
theorem Dr.fr {H0 H : Hp} {m c l0 l : Addr} {k k0 : Int} {f : Addr} {fr : List T3} (d : Dr H0 H m c l0 l k) (M : MAt H0 m c l0 k0) (h : FrA H0 f fr) : FrA H f fr := by
  obtain ⟨ts, e, l, cc⟩ := h
  exact ⟨ts, d.tup M e, l, fun i t x h1 h2 => d.tup M (cc i t x h1 h2)⟩
/-- another list stays, and is none of the draws' own -/
theorem Dr.lst {H H' : Hp} {m c l l' : Addr} {k k0 : Int} {a : Addr} {xs : List V} (d : Dr H H' m c l l' k) (M : MAt H m c l k0) (e : H a = some (.lst xs)) (ne : a ≠ l) : H' a = some (.lst xs) ∧ a ≠ l' := by
  refine ⟨d.kp a _ e (ne_of e M.hm (fun z => by cases z)) ne, ?_⟩
  rcases d.hl with z | z
  · rw [z]
    exact ne
  · exact ne_of_none e z
/-- a draw, as spNext wants it -/
theorem dr_next {H : Hp} {m c l : Addr} {k n : Int} {Q : VK} {E : XK} (M : MAt H m c l k) (hn : 0 < n) (hn1 : n < 1000000) (hk : k < 900000)
    (q : ∀ (r : Int) (H' : Hp) (l' : Addr) (k' : Int), 0 ≤ r → r < n → k' ≤ k + 1 → Dr H H' m c l l' k' → Q (.int r) H') : spNext [.ref m, .int n] H Q E :=
  ⟨m, c, l, k, n, rfl, M, hn, hn1, by omega, fun r H' l' k' r0 r1 kk M' fl kp => q r H' l' k' r0 r1 kk ⟨M', fl, kp⟩⟩
theorem MAt.l_some {H : Hp} {m c l : Addr} {k : Int} (M : MAt H m c l k) {a : Addr} (h : H a = none) : a ≠ l := by
  obtain ⟨ls, hl, _⟩ := M.hl
  exact (ne_of_none hl h).symm
theorem sl_app (a b : Str) : sl (a ++ b) = sl a ++ sl b := by
  show (Str.append a b).cps.toList = _
  simp [Str.append]
theorem sl_empty : sl ("" : Str) = [] := by decide +kernel
theorem sl_join : ∀ ys : List Str, sl (Str.join "" ys) = (ys.map sl).flatten
  | [] => rfl
  | [x] => by
    show sl x = _
    simp
  | x :: y :: r => by
    show sl (x ++ "" ++ Str.join "" (y :: r)) = _
    rw [sl_app, sl_app, sl_empty, sl_join (y :: r)]
    simp
theorem txt_join (ys : List Str) : sl (Txt.join "" ys) = (ys.map sl).flatten := by
  have z := PyProof.Rows.join_plain_closes "" ys
  rw [eq_of_beq z, sl_join]
theorem flat_one {ys : List Str} (h : ∀ y ∈ ys, ∃ c, y = ⟨#[c]⟩ ∧ c ∈ sgs) : (∀ c, c ∈ (ys.map sl).flatten → c ∈ sgs) ∧ ((ys.map sl).flatten).length = ys.length := by
  induction ys with
  | nil => exact ⟨fun c h => (by cases h), rfl⟩
  | cons y ys ih =>
    obtain ⟨c, e, hc⟩ := h y (List.mem_cons_self ..)
    have e2 : sl y = [c] := by rw [e]
    obtain ⟨h1, h2⟩ := ih fun y hy => h y (List.mem_cons_of_mem _ hy)
    rw [List.map_cons, List.flatten_cons, e2]
    refine ⟨fun d hd => ?_, ?_⟩
    · rcases List.mem_append.mp hd with hd | hd
      · have e : d = c := by simpa using hd
        rw [e]
        exact hc
      · exact h1 d hd
    · rw [List.length_append, h2, List.length_cons, List.length_cons, List.length_nil]
      omega
/-- the five lists of signs -/
def fives : List Str := ["ab", "ab", "abc@", "@", "xyz019@"]
theorem five_ok : ∀ x ∈ fives, 1 ≤ x.length ∧ x.length ≤ 7 ∧ ∀ c ∈ sl x, c ∈ sgs := by decide +kernel
theorem MAt.upd {H : Hp} {m c l D : Addr} {k : Int} {o : HO} (M : MAt H m c l k) (hm : D ≠ m) (hc : D ≠ c) (hl : D ≠ l) : MAt (L2.upd H D o) m c l k := by
  obtain ⟨h1, ⟨cs, h2, h3⟩, ⟨ls0, h4, h5⟩, h6, h7, h8⟩ := M
  exact ⟨by rw [upd_ne hm.symm]; exact h1, ⟨cs, by rw [upd_ne hc.symm]; exact h2, h3⟩, ⟨ls0, by rw [upd_ne hl.symm]; exact h4, h5⟩, h6, h7, h8⟩
theorem MAt.c_some {H : Hp} {m c l : Addr} {k : Int} (M : MAt H m c l k) {a : Addr} (h : H a = none) : a ≠ c := by
  obtain ⟨ls, hl, _⟩ := M.hc
  exact (ne_of_none hl h).symm
def spPiece : Sp := fun vs H Q _ => ∃ (m c l : Addr) (k : Int) (last : Bool), vs = [.ref m, .bl last] ∧ MAt H m c l k ∧ k < 800000 ∧
  ∀ (p : Str) (H' : Hp) (l' : Addr) (k' : Int), Pc p last → k' ≤ k + 20 → Dr H H' m c l l' k' → Q (.str p) H'
section
variable {P : Program} {w : World} {K : PySem.W.Frag} {mg : Str → Option Value} {base : Heap}
structure Ls (K : PySem.W.Frag) (mg : Str → Option Value) where
  f1 : Addr
  d1 : FuncData
  N : Fun K "_law_next" "_law_next" sNext f1 d1
  bN : Binds K d1 ["m", "total"] []
  mN : mg "_law_next" = some (.ref f1)
  T : TxtD mg
  ra : mg "range" = none
  f2 : Addr
  d2 : FuncData
  P : Fun K "_law_piece" "_law_piece" sPiece f2 d2
  bP : Binds K d2 ["m", "last"] []
  mP : mg "_law_piece" = some (.ref f2)
theorem scPiece : FnScope ["m", "last", "total", "signs", "k", "body"] ["m", "last"] (defScope sPiece) := ⟨rfl, rfl, rfl, by decide +kernel, rfl, by decide +kernel, by decide +kernel⟩
theorem ok_piece (L : Ls K mg) : FnOk P w K mg base CX0 2 L.f2 L.d2 ["m", "last"] spPiece := by
  have GX : FnOk P w K mg base CX0 1 L.f1 L.d1 ["m", "total"] spNext := ok_next L.N L.T
  refine L.P.ok scPiece (fun vs H Q E h => ?_) (fun cdv A outer s H vs Q E hr h => ?_)
  · obtain ⟨m, c, l, k, last, rfl, _⟩ := h
    rfl
  · obtain ⟨m, c, l, k, last, rfl, M, hk, q⟩ := h
    refine ⟨_, pss_cons (ps_set (i := 2) scPiece.nd rfl (Or.inl rfl) (pe_ix ix_list (pe_lst (pa_cons pe_int (pa_cons pe_int (pa_cons pe_int (pa_cons pe_int (pa_cons pe_int (pa_cons (pe_op op_add pe_int (pe_call GX hr (by rfl) L.mN L.N.kp L.bN .nil pass0 (pa_cons (pv 0) (pa_cons pe_int pa_nil)))) pa_nil)))))))
        (pe_call GX hr (by rfl) L.mN L.N.kp L.bN .nil pass0 (pa_cons (pv 0) (pa_cons pe_int pa_nil))) (fun _ _ => rfl)))
      (pss_cons (ps_set (i := 3) scPiece.nd rfl (Or.inr rfl) (pe_ix ix_list (pe_lst (pa_cons pe_str (pa_cons pe_str (pa_cons pe_str (pa_cons pe_str (pa_cons pe_str pa_nil)))))) (pe_call GX hr (by rfl) L.mN L.N.kp L.bN .nil pass0 (pa_cons (pv 0) (pa_cons pe_int pa_nil))) (fun _ _ => rfl)))
      (pss_cons (ps_set (i := 5) scPiece.nd rfl (Or.inl rfl) (pe_m1 PySem.F.slot_str_join PySem.F.type_str_join mt_join pe_str (pe_lc (own := [("k", 4)]) (g := gName 4) rfl scPiece.nd (pi_range1 (by rfl) L.ra (pa_cons (pv 2) pa_nil))
        (blkOk_by (N := ["m", "last", "total", "signs", "k", "body"]) (sc := defScope sPiece) (by decide +kernel))
        (fun _ _ _ _ _ => pg_name (i := 4) scPiece.nd rfl (Or.inl rfl)) (fun _ _ _ _ _ => pts_nil)
        (fun _ _ _ _ _ => pe_ix ix_str (pv 3) (pe_call GX hr (by rfl) L.mN L.N.kp L.bN .nil pass0 (pa_cons (pv 0) (pa_cons (pe_callB call_len_str (by rfl) L.T.len PySem.boot_len (pa_cons (pv 3) pa_nil)) pa_nil))) (fun _ _ => rfl)))))
      (pss_cons (ps_if (pt_val (pv 1)) (pss_one (ps_ret (pe_op op_add_str (pe_ix ix_list (pe_lst (pa_cons (pv 5) (pa_cons (pv 5) (pa_cons pe_str pa_nil)))) (pe_call GX hr (by rfl) L.mN L.N.kp L.bN .nil pass0 (pa_cons (pv 0) (pa_cons pe_int pa_nil))) (fun _ _ => rfl)) pe_str))) pss_nil)
      (pss_one (ps_ret (pv 5)))))), ?_⟩
    refine ⟨_, rfl, m, c, l, k, 7, rfl, M, by decide, by decide, by omega, fun r1 H1 l1 k1 a1 b1 g1 N1 f1 q1 => ?_⟩
    have d1 : Dr H H1 m c l l1 k1 := ⟨N1, f1, q1⟩
    refine ⟨1, r1, rfl, rfl, (by show 6 ≤ sizeLine; decide), fun p1 hp1 => ?_⟩
    have M1 := d1.at_.same (same_upd (o := HO.lst [V.int 1, V.int 1, V.int 1, V.int 2, V.int 2, V.int (1 + r1)]) hp1)
    have D1 := d1.same (same_upd (o := HO.lst [V.int 1, V.int 1, V.int 1, V.int 2, V.int 2, V.int (1 + r1)]) hp1)
    refine ⟨_, rfl, m, c, l1, k1, 6, rfl, M1, by decide, by decide, by omega, fun r2 H2 l2 k2 a2 b2 g2 N2 f2 q2 => ?_⟩
    have d2 : Dr _ H2 m c l1 l2 k2 := ⟨N2, f2, q2⟩
    obtain ⟨e2, _⟩ := d2.lst M1 upd_same (d1.at_.l_some hp1)
    have D2 := D1.trans d2
    obtain ⟨T, hT, t1, t7⟩ : ∃ T : Int, atI [V.int 1, V.int 1, V.int 1, V.int 2, V.int 2, V.int (1 + r1)] r2 = some (.int T) ∧ 1 ≤ T ∧ T ≤ 7 := by
      obtain ⟨j, rfl⟩ := Int.eq_ofNat_of_zero_le a2
      have hj : j < 6 := by omega
      match j, hj with
      | 0, _ => exact ⟨1, atI_nat (j := 0) rfl, by decide, by decide⟩
      | 1, _ => exact ⟨1, atI_nat (j := 1) rfl, by decide, by decide⟩
      | 2, _ => exact ⟨1, atI_nat (j := 2) rfl, by decide, by decide⟩
      | 3, _ => exact ⟨2, atI_nat (j := 3) rfl, by decide, by decide⟩
      | 4, _ => exact ⟨2, atI_nat (j := 4) rfl, by decide, by decide⟩
      | 5, _ => exact ⟨1 + r1, atI_nat (j := 5) rfl, by omega, by omega⟩
    refine ⟨p1, _, r2, .int T, rfl, rfl, SqL.of e2, hT, ?_⟩
    refine ⟨(by show 5 ≤ sizeLine; decide), fun p3 hp3 => ?_⟩
    have u3 := same_upd (o := HO.lst (fives.map V.str)) hp3
    have M3 := d2.at_.same u3
    refine ⟨_, rfl, m, c, l2, k2, 5, rfl, M3, by decide, by decide, by omega, fun r3 H3 l3 k3 a3 b3 g3 N3 f3 q3 => ?_⟩
    have d3 : Dr _ H3 m c l2 l3 k3 := ⟨N3, f3, q3⟩
    obtain ⟨e3, _⟩ := d3.lst M3 upd_same (d2.at_.l_some hp3)
    have D3 := (D2.same u3).trans d3
    obtain ⟨sg, hsg, hm⟩ : ∃ sg : Str, atI (fives.map V.str) r3 = some (.str sg) ∧ sg ∈ fives := by
      obtain ⟨j, rfl⟩ := Int.eq_ofNat_of_zero_le a3
      have hj : j < fives.length := by show j < 5; omega
      refine ⟨fives[j], atI_nat ?_, List.getElem_mem hj⟩
      rw [List.getElem?_map, List.getElem?_eq_getElem hj]
      rfl
    obtain ⟨z1, z7, zs⟩ := five_ok sg hm
    refine ⟨p3, _, r3, .str sg, rfl, rfl, SqL.of e3, hsg, ?_⟩
    refine ⟨⟨_, rfl⟩, _, rfl, T, rfl, by omega, by omega, fun D hD => ?_⟩
    have D4 := D3.same (same_upd (o := HO.lst []) hD)
    have nD := D3.at_.l_some hD
    have hD0 : H D = none ∨ True := .inr trivial
    refine lc_it walk_range (fun i H' => ∃ (ys : List Str) (l' : Addr) (k' : Int), H' D = some (.lst (ys.map V.str)) ∧ D ≠ l' ∧ ys.length = i ∧ (∀ y ∈ ys, ∃ c, y = ⟨#[c]⟩ ∧ c ∈ sgs) ∧ k' ≤ k3 + i ∧ MAt H' m c l' k' ∧ (l' = l ∨ H l' = none) ∧ ∀ b o, H b = some o → b ≠ m → b ≠ l → H' b = some o)
      ⟨[], l3, k3, upd_same, nD, rfl, (fun y h => by cases h), by omega, D4.at_, D4.hl, D4.kp⟩ (fun _ _ _ _ => trivial) ?_ ?_
    · rintro i x H4 H5 hi ⟨ys, l4, k4, hl, nl, ly, hy, kk, M4, f4, q4⟩ ⟨rfl, rfl⟩
      have d0 : Dr H H5 m c l l4 k4 := ⟨M4, f4, q4⟩
      have hi7 : i < 7 := by omega
      refine ⟨rfl, _, rfl, _, rfl, _, rfl, sg, rfl, by rw [sizeLine_eq]; omega, m, c, l4, k4, _, rfl, M4, by omega, by omega, by omega, fun r5 H6 l6 k6 a6 b6 g6 N6 f6 q6 => ?_⟩
      have d6 : Dr H5 H6 m c l4 l6 k6 := ⟨N6, f6, q6⟩
      obtain ⟨e6, n6⟩ := d6.lst M4 hl nl
      obtain ⟨j, rfl⟩ := Int.eq_ofNat_of_zero_le a6
      have js : j < (sl sg).length := by rw [← len_sl]; omega
      refine ⟨sg, (j : Int), (sl sg)[j], rfl, rfl, by rw [sizeLine_eq]; omega, atI_nat (List.getElem?_eq_getElem js), _, e6, ?_, ?_⟩
      · rw [List.length_map, ly, sizeLine_eq]
        omega
      · have dk := d0.trans d6
        have hDm : D ≠ m := ne_of e6 N6.hm (fun z => by cases z)
        refine ⟨ys ++ [⟨#[(sl sg)[j]]⟩], l6, k6, ?_, n6, by rw [List.length_append, ly]; rfl, fun y h => ?_, by omega, ?_, dk.hl, fun b o z h1 h2 => ?_⟩
        · rw [List.map_append]
          exact upd_same
        · rcases List.mem_append.mp h with h | h
          · exact hy y h
          · exact ⟨_, by simpa using h, zs _ (List.getElem_mem js)⟩
        · exact N6.upd hDm (D3.at_.c_some hD) n6
        · rw [upd_ne (ne_of_none (D3.kp b o z h1 h2) hD)]
          exact dk.kp b o z h1 h2
    · rintro H4 ⟨ys, l4, k4, hl, nl, ly, hy, kk, M4, f4, q4⟩
      have d4 : Dr H H4 m c l l4 k4 := ⟨M4, f4, q4⟩
      obtain ⟨w1, w2⟩ := flat_one hy
      rw [← txt_join] at w1 w2
      have le : ∀ zs : List Str, (∀ y ∈ zs, ∃ c, y = ⟨#[c]⟩ ∧ c ∈ sgs) → (zs.map (·.length)).sum = zs.length := by
        intro zs
        induction zs with
        | nil => exact fun _ => rfl
        | cons y zs ih =>
          intro h
          obtain ⟨c, e, _⟩ := h y (List.mem_cons_self ..)
          have e2 : y.length = 1 := by rw [e]; rfl
          rw [List.map_cons, List.sum_cons, e2, ih fun y hy => h y (List.mem_cons_of_mem _ hy), List.length_cons]
          omega
      have z0 : ("" : Str).length = 0 := by decide +kernel
      refine ⟨"", D, ys, rfl, rfl, .inl (SqL.of hl), by rw [le ys hy, z0]; omega, ?_⟩
      generalize hbd : Txt.join "" ys = body at w1 w2 ⊢
      have pc0 : Pc body false := ⟨sl body, by rw [if_neg (by simp), List.append_nil], by rw [w2]; omega, w1, fun _ e => by rw [e] at w2; simp at w2; omega⟩
      have pc1 : ∀ b2 : Str, (b2 = body ∨ b2 = "") → Pc (b2 ++ ";") true := fun b2 h => by
        refine ⟨sl b2, by rw [sl_app, semi, if_pos rfl], ?_, ?_, fun e => by cases e⟩
        · rcases h with h | h
          · rw [h, w2]
            omega
          · rw [h, sl_empty]
            exact Nat.zero_le _
        · rcases h with h | h
          · rw [h]
            exact w1
          · rw [h, sl_empty]
            exact fun c h => by cases h
      refine ⟨_, rfl, _, rfl, ?_⟩
      cases last with
      | false =>
        refine iteF ⟨_, rfl, ?_⟩
        exact q body H4 l4 k4 pc0 (by omega) d4
      | true =>
        refine iteT ?_
        refine ⟨_, rfl, _, rfl, (by show 3 ≤ sizeLine; decide), fun p5 hp5 => ?_⟩
        have u5 := same_upd (o := HO.lst [V.str body, V.str body, V.str ""]) hp5
        have M5 := M4.same u5
        refine ⟨_, rfl, m, c, l4, k4, 3, rfl, M5, by decide, by decide, by omega, fun r7 H7 l7 k7 a7 b7 g7 N7 f7 q7 => ?_⟩
        have d7 : Dr _ H7 m c l4 l7 k7 := ⟨N7, f7, q7⟩
        obtain ⟨e7, _⟩ := d7.lst M5 upd_same (M4.l_some hp5)
        obtain ⟨b2, hb2, hor⟩ : ∃ b2 : Str, atI [V.str body, V.str body, V.str ""] r7 = some (.str b2) ∧ (b2 = body ∨ b2 = "") := by
          obtain ⟨j, rfl⟩ := Int.eq_ofNat_of_zero_le a7
          have hj : j < 3 := by omega
          match j, hj with
          | 0, _ => exact ⟨body, atI_nat (j := 0) rfl, .inl rfl⟩
          | 1, _ => exact ⟨body, atI_nat (j := 1) rfl, .inl rfl⟩
          | 2, _ => exact ⟨"", atI_nat (j := 2) rfl, .inr rfl⟩
        have pcz := pc1 b2 hor
        have lz := (pc_len pcz).2
        refine ⟨p5, _, r7, .str b2, rfl, rfl, SqL.of e7, hb2, b2, ";", rfl, rfl, ?_, ?_⟩
        · rw [semi1, sizeLine_eq, len_sl]
          rw [len_sl, sl_app, List.length_append] at lz
          omega
        · exact q (b2 ++ ";") H7 l7 k7 pcz (by omega) ((d4.same u5).trans d7)
end
end K41

set_option Elab.async false
set_option linter.all false
set_option maxRecDepth 100000
set_option maxHeartbeats 4000000
/-! Drawn framings. -/
namespace K41
open PySem L2 L2.EV
abbrev sFraming : Stmt := top 43
def d3 (x : T3) : PyData := .tuple [.int x.1, .str x.2.1, .int x.2.2]
theorem d3_eq (x y : T3) : PyData.eqv (d3 x) (d3 y) = decide (x = y) := by
  unfold d3
  simp only [PyData.eqv, PyData.eqvAll, Bool.and_true]
  by_cases e : x = y
  · subst e
    simp
  · rw [decide_eq_false e]
    cases h1 : (x.1 == y.1) with
    | false => rfl
    | true =>
      cases h2 : (x.2.1 == y.2.1) with
      | false => rfl
      | true =>
        cases h3 : (x.2.2 == y.2.2) with
        | false => rfl
        | true => exact absurd (Prod.ext (eq_of_beq h1) (Prod.ext (eq_of_beq h2) (eq_of_beq h3))) e
theorem sgs_low : ∀ c ∈ sgs, c < 0x110000 := by decide +kernel
theorem pc_ok {p : Str} {l : Bool} (h : Pc p l) : PyData.strOk p = true := by
  obtain ⟨b, e, _, hb, _⟩ := h
  unfold PyData.strOk
  rw [← Array.all_toList, show p.cps.toList = sl p from rfl, e, List.all_eq_true]
  intro c hc
  refine decide_eq_true ?_
  rcases List.mem_append.mp hc with hc | hc
  · exact sgs_low c (hb c hc)
  · cases l with
    | false => cases hc
    | true =>
      have z : c = 59 := by simpa using hc
      omega
theorem d3_lay {x : T3} (h : PyData.strOk x.2.1 = true) : PyData.canLay0 (d3 x) = true := by
  unfold d3
  simp only [PyData.canLay0, PyData.canLayAll0, Bool.and_true, Bool.and_self, h]
theorem d3_depth (x : T3) : (d3 x).depth ≤ 1 := by
  unfold d3
  simp only [PyData.depth, PyData.depthAll]
  omega
theorem d3_shaped {x : T3} (h : PyData.strOk x.2.1 = true) : SeqAt.shaped (d3 x) = true := by
  show (PyData.canLay0 (d3 x) && decide (PyData.depth (d3 x) ≤ 64)) = true
  rw [d3_lay h, decide_eq_true (Nat.le_trans (d3_depth x) (by decide))]
  rfl
theorem d3s_lay : ∀ xs : List T3, (∀ x ∈ xs, PyData.strOk x.2.1 = true) → PyData.canLayAll0 (xs.map d3) = true
  | [], _ => by simp [PyData.canLayAll0]
  | x :: xs, h => by
    rw [List.map_cons]
    simp only [PyData.canLayAll0, d3_lay (h x (List.mem_cons_self ..)), d3s_lay xs (fun y hy => h y (List.mem_cons_of_mem _ hy)), Bool.and_self]
theorem d3s_depth : ∀ xs : List T3, PyData.depthAll (xs.map d3) ≤ 1
  | [] => by simp [PyData.depthAll]
  | x :: xs => by
    rw [List.map_cons]
    simp only [PyData.depthAll]
    have h1 := d3_depth x
    have h2 := d3s_depth xs
    omega
theorem d3s_shaped {xs : List T3} (hx : ∀ x ∈ xs, PyData.strOk x.2.1 = true) : SeqAt.shaped (.list (xs.map d3)) = true := by
  show (PyData.canLay0 (.list (xs.map d3)) && decide (PyData.depth (.list (xs.map d3)) ≤ 64)) = true
  have h := d3s_depth xs
  have h1 : PyData.canLay0 (.list (xs.map d3)) = true := by simp only [PyData.canLay0]; exact d3s_lay xs hx
  have h2 : PyData.depth (.list (xs.map d3)) ≤ 64 := by simp only [PyData.depth]; omega
  rw [h1, decide_eq_true h2]
  rfl
/-- steps at ts -/
def At3 (H : Hp) (ts : List Addr) (xs : List T3) : Prop := ts.length = xs.length ∧ ∀ (i : Nat) t x, ts[i]? = some t → xs[i]? = some x → S3 H t x
theorem dp3 {K : PySem.W.Frag} {H : Hp} {t : Addr} {x : T3} (h : S3 H t x) : Dp K H (.ref t) (d3 x) := .tup (SqT.of h) (.cons (.int _) (.cons (.str _) (.cons (.int _) .nil)))
theorem dp3s {K : PySem.W.Frag} {H : Hp} : ∀ {ts : List Addr} {xs : List T3}, At3 H ts xs → DpAll K H (ts.map V.ref) (xs.map d3)
  | [], [], _ => .nil
  | [], _ :: _, h => by cases h.1
  | _ :: _, [], h => by cases h.1
  | t :: ts, x :: xs, h => .cons (dp3 (h.2 0 t x rfl rfl)) (dp3s ⟨by have := h.1; simpa using this, fun i t x h1 h2 => h.2 (i + 1) t x (by simpa using h1) (by simpa using h2)⟩)
theorem At3.same {H H' : Hp} {ts : List Addr} {xs : List T3} (h : At3 H ts xs) (s : KeepT H H') : At3 H' ts xs := ⟨h.1, fun i t x h1 h2 => s _ _ (h.2 i t x h1 h2)⟩
theorem At3.snoc {H : Hp} {ts : List Addr} {xs : List T3} {t : Addr} {x : T3} (h : At3 H ts xs) (hx : S3 H t x) : At3 H (ts ++ [t]) (xs ++ [x]) := by
  refine ⟨by rw [List.length_append, List.length_append, h.1]; rfl, fun i u y h1 h2 => ?_⟩
  by_cases e : i < ts.length
  · rw [List.getElem?_append_left e] at h1
    rw [List.getElem?_append_left (by rw [← h.1]; exact e)] at h2
    exact h.2 i u y h1 h2
  · have i1 := (List.getElem?_eq_some_iff.mp h1).1
    rw [List.length_append] at i1
    have e2 : i = ts.length := by simp only [List.length_cons, List.length_nil] at i1; omega
    subst e2
    rw [List.getElem?_append_right (Nat.le_refl _), Nat.sub_self] at h1
    rw [h.1, List.getElem?_append_right (Nat.le_refl _), Nat.sub_self] at h2
    have e3 : t = u := Option.some.inj h1
    have e4 : x = y := Option.some.inj h2
    rw [← e3, ← e4]
    exact hx
theorem At3.take {H : Hp} {ts : List Addr} {xs : List T3} (h : At3 H ts xs) (n : Nat) : At3 H (ts.take n) (xs.take n) := by
  refine ⟨by rw [List.length_take, List.length_take, h.1], fun i t x h1 h2 => ?_⟩
  rw [List.getElem?_take] at h1 h2
  by_cases e : i < n
  · rw [if_pos e] at h1 h2
    exact h.2 i t x h1 h2
  · rw [if_neg e] at h1
    cases h1
theorem lt3_tri {x y : T3} (h1 : lt3 x y = false) (h2 : lt3 y x = false) : x = y := by
  have a := lt3_no.mp h1
  have b := lt3_no.mp h2
  have e1 : x.1 = y.1 := by
    have a1 : ¬ x.1 < y.1 := fun q => a (.inl q)
    have b1 : ¬ y.1 < x.1 := fun q => b (.inl q)
    omega
  have a2 : ¬ sl x.2.1 < sl y.2.1 := fun q => a (.inr ⟨e1, .inl q⟩)
  have b2 : ¬ sl y.2.1 < sl x.2.1 := fun q => b (.inr ⟨e1.symm, .inl q⟩)
  have e2 : x.2.1 = y.2.1 := sl_inj (List.le_antisymm (List.not_lt.mp b2) (List.not_lt.mp a2))
  have a3 : ¬ x.2.2 < y.2.2 := fun q => a (.inr ⟨e1, .inr ⟨e2, q⟩⟩)
  have b3 : ¬ y.2.2 < x.2.2 := fun q => b (.inr ⟨e1.symm, .inr ⟨e2.symm, q⟩⟩)
  exact Prod.ext e1 (Prod.ext e2 (by omega))
def spFraming : Sp := fun vs H Q _ => ∃ (m c l : Addr) (k : Int), vs = [.ref m, .int 4] ∧ MAt H m c l k ∧ k < 700000 ∧
  ∀ (f : Addr) (fr : List T3) (last : Nat) (H' : Hp) (l' : Addr) (k' : Int), FrA H' f fr → Frm fr last → k' ≤ k + 400 → Dr H H' m c l l' k' → Q (.ref f) H'
/-- the found steps at F -/
structure FS (H H' : Hp) (m c l F : Addr) (kb : Int) (last : Nat) (xs : List T3) : Prop where
  ex : ∃ (ts : List Addr) (l' : Addr) (k' : Int), H' F = some (.lst (ts.map V.ref)) ∧ At3 H' ts xs ∧ F ≠ l' ∧ F ≠ m ∧ F ≠ c ∧ k' ≤ kb ∧ Dr H H' m c l l' k'
  ok : ∀ x ∈ xs, Stp x ∧ x.1 ≤ last ∧ x.2.2 ≤ last
  hF : ∀ b o, H b = some o → b ≠ m → b ≠ l → b ≠ F
theorem bl_eq (t : Int) : decide (V.int t = V.int 0) = decide (t = 0) := by
  rw [dec_int]
  by_cases z : t = 0
  · rw [z]
    rfl
  · rw [decide_eq_false z]
    exact beq_eq_false_iff_ne.mpr z
theorem Dr.keepT {H0 H : Hp} {m c l0 l : Addr} {k k0 : Int} (d : Dr H0 H m c l0 l k) (M : MAt H0 m c l0 k0) : KeepT H0 H := fun a xs e => d.tup M e
/-- one step more -/
theorem FS.push {H H1 H2 H3 : Hp} {m c l F l1 l2 t : Addr} {k1 k2 kb : Int} {last : Nat} {xs : List T3} {ts : List Addr} {x : T3} (hF : H1 F = some (.lst (ts.map V.ref))) (ha : At3 H1 ts xs) (n1 : F ≠ l1) (n2 : F ≠ m) (n3 : F ≠ c) (d1 : Dr H H1 m c l l1 k1)
    (d2 : Dr H1 H2 m c l1 l2 k2) (ht : H2 t = none) (e3 : H3 = upd (upd H2 t (.tup [.int x.1, .str x.2.1, .int x.2.2])) F (.lst (ts.map V.ref ++ [.ref t]))) (hk : k2 ≤ kb)
    (ok : ∀ y ∈ xs, Stp y ∧ y.1 ≤ last ∧ y.2.2 ≤ last) (okx : Stp x ∧ x.1 ≤ last ∧ x.2.2 ≤ last) (hF0 : ∀ b o, H b = some o → b ≠ m → b ≠ l → b ≠ F) : FS H H3 m c l F kb last (xs ++ [x]) := by
  obtain ⟨hF2, n4⟩ := d2.lst d1.at_ hF n1
  have u := same_upd (o := HO.tup [.int x.1, .str x.2.1, .int x.2.2]) ht
  have hF2' := u _ _ hF2
  have kt := keepT_upd (o := .lst (ts.map V.ref ++ [.ref t])) hF2' (fun xs z => by cases z)
  have D2 := (d1.trans d2).same u
  subst e3
  refine ⟨⟨ts ++ [t], l2, k2, by rw [List.map_append]; exact upd_same, ?_, n4, n2, n3, hk, ⟨D2.at_.upd n2 n3 n4, D2.hl, fun b o z h1 h2 => ?_⟩⟩, fun y hy => ?_, hF0⟩
  · refine At3.snoc (ha.same ?_) (kt _ _ upd_same)
    exact ((d2.keepT d1.at_).trans (Same.keepT u)).trans kt
  · rw [upd_ne (hF0 b o z h1 h2)]
    exact D2.kp b o z h1 h2
  · rcases List.mem_append.mp hy with h | h
    · exact ok y h
    · have e : y = x := by simpa using h
      rw [e]
      exact okx
def dd (xs : List T3) : List T3 := xs.foldl (fun acc x => if x ∈ acc then acc else acc ++ [x]) []
theorem dd_snoc (xs : List T3) (x : T3) : dd (xs ++ [x]) = if x ∈ dd xs then dd xs else dd xs ++ [x] := by
  unfold dd
  rw [List.foldl_append]
  rfl
theorem snoc_ind {α : Type} {p : List α → Prop} (h0 : p []) (h1 : ∀ l x, p l → p (l ++ [x])) (l : List α) : p l := by
  have z : ∀ n (l : List α), l.length = n → p l := by
    intro n
    induction n with
    | zero => exact fun l h => by rw [List.length_eq_zero_iff.mp h]; exact h0
    | succ n ih =>
      intro l h
      obtain ⟨M, y, rfl⟩ := SrtO.snoc_of (l := l) (by omega)
      exact h1 M y (ih M (by rw [List.length_append] at h; simp only [List.length_cons, List.length_nil] at h; omega))
  exact z _ l rfl
theorem dd_mem (y : T3) (xs : List T3) : y ∈ dd xs ↔ y ∈ xs := by
  refine snoc_ind (p := fun xs => y ∈ dd xs ↔ y ∈ xs) Iff.rfl (fun l x ih => ?_) xs
  rw [dd_snoc]
  by_cases e : x ∈ dd l
  · rw [if_pos e, ih, List.mem_append, List.mem_singleton]
    refine ⟨.inl, fun h => h.elim id fun z => ?_⟩
    rw [z]
    rw [z] at ih
    exact ih.mp e
  · rw [if_neg e, List.mem_append, ih, List.mem_append]
theorem dd_nodup (xs : List T3) : (dd xs).Nodup := by
  refine snoc_ind (p := fun xs => (dd xs).Nodup) List.nodup_nil (fun l x ih => ?_) xs
  rw [dd_snoc]
  by_cases e : x ∈ dd l
  · rw [if_pos e]
    exact ih
  · rw [if_neg e]
    refine List.nodup_append.mpr ⟨ih, by simp, fun a ha b hb => ?_⟩
    have e2 : b = x := by simpa using hb
    rw [e2]
    exact fun z => e (z ▸ ha)
theorem dd_len (xs : List T3) : (dd xs).length ≤ xs.length := by
  refine snoc_ind (p := fun xs => (dd xs).length ≤ xs.length) (Nat.le_refl _) (fun l x ih => ?_) xs
  rw [dd_snoc, List.length_append]
  split
  · omega
  · rw [List.length_append]
    omega
/-- the step that stands at an address -/
def stepAt (H : Hp) : V → T3
  | .ref t => match H t with
    | some (.tup [.int a, .str b, .int c]) => (a, b, c)
    | _ => (0, "", 0)
  | _ => (0, "", 0)
theorem stepAt_of {H : Hp} {t : Addr} {x : T3} (h : S3 H t x) : stepAt H (.ref t) = x := by
  unfold stepAt
  dsimp only
  rw [h]
theorem map_stepAt {H : Hp} {ts : List Addr} {xs : List T3} (h : At3 H ts xs) : (ts.map V.ref).map (stepAt H) = xs := by
  refine List.ext_getElem? fun i => ?_
  rw [List.getElem?_map, List.getElem?_map]
  by_cases hi : i < ts.length
  · have hx : i < xs.length := by rw [← h.1]; exact hi
    rw [List.getElem?_eq_getElem hi, List.getElem?_eq_getElem hx]
    show some (stepAt H (.ref ts[i])) = _
    rw [stepAt_of (h.2 i _ _ (List.getElem?_eq_getElem hi) (List.getElem?_eq_getElem hx))]
  · rw [List.getElem?_eq_none (by omega), List.getElem?_eq_none (by rw [← h.1]; omega)]
    rfl
/-- sorted: a framing -/
theorem frm_of {H : Hp} {ts : List Addr} {xs ys : List T3} {vs : List V} {last : Nat} (h : At3 H ts ys) (hy : ys = dd xs) (sr : SrtO.Srtd (fun x y => lt3 (stepAt H x) (stepAt H y)) vs) (pm : vs.Perm (ts.map V.ref)) (l1 : xs.length ≤ 16) (l5 : last ≤ 5)
    (ok : ∀ x ∈ xs, Stp x ∧ x.1 ≤ last ∧ x.2.2 ≤ last) (ring : ∀ k : Nat, k ≤ last → ∃ x ∈ xs, x.1 = (k : Int) ∧ x.2.2 = (if k < last then (k : Int) + 1 else 0)) : Frm (vs.map (stepAt H)) last ∧ ∃ us : List Addr, vs = us.map V.ref ∧ At3 H us (vs.map (stepAt H)) := by
  have pm2 : (vs.map (stepAt H)).Perm ys := by
    have z := pm.map (stepAt H)
    rw [map_stepAt h] at z
    exact z
  have mem : ∀ x, x ∈ vs.map (stepAt H) ↔ x ∈ xs := fun x => by rw [pm2.mem_iff, hy, dd_mem]
  have nd : (vs.map (stepAt H)).Nodup := by
    rw [pm2.nodup_iff, hy]
    exact dd_nodup xs
  have len : (vs.map (stepAt H)).length ≤ 16 := by
    rw [pm2.length_eq, hy]
    exact Nat.le_trans (dd_len xs) l1
  refine ⟨⟨?_, len, fun x hx => (ok x ((mem x).mp hx)).1, ?_, fun k hk => ?_, fun x hx => (ok x ((mem x).mp hx)).2, l5⟩, ?_⟩
  · obtain ⟨x, hx, _⟩ := ring 0 (Nat.zero_le _)
    have := (mem x).mpr hx
    exact List.length_pos_of_mem this
  · have s2 : (vs.map (stepAt H)).Pairwise fun x y => lt3 y x = false := List.pairwise_map.mpr sr
    refine (s2.and nd).imp fun {x y} z => ?_
    cases e : lt3 x y with
    | true => rfl
    | false => exact absurd (lt3_tri e z.1) z.2
  · obtain ⟨x, hx, e⟩ := ring k hk
    exact ⟨x, (mem x).mpr hx, e⟩
  · have rf : ∀ v ∈ vs, ∃ t x, v = V.ref t ∧ S3 H t x := fun v hv => by
      obtain ⟨t, ht, rfl⟩ := List.mem_map.mp (pm.mem_iff.mp hv)
      obtain ⟨i, hi, e⟩ := List.getElem_of_mem ht
      have hx : i < ys.length := by rw [← h.1]; exact hi
      exact ⟨t, ys[i], rfl, h.2 i t _ (by rw [List.getElem?_eq_getElem hi, e]) (List.getElem?_eq_getElem hx)⟩
    have go : ∀ ws : List V, (∀ v ∈ ws, ∃ t x, v = V.ref t ∧ S3 H t x) → ∃ us : List Addr, ws = us.map V.ref ∧ At3 H us (ws.map (stepAt H)) := by
      intro ws
      induction ws with
      | nil => exact fun _ => ⟨[], rfl, rfl, fun i t x h => by cases h⟩
      | cons v ws ih =>
        intro hw
        obtain ⟨t, x, rfl, hx⟩ := hw v (List.mem_cons_self ..)
        obtain ⟨us, e1, e2⟩ := ih fun v hv => hw v (List.mem_cons_of_mem _ hv)
        refine ⟨t :: us, by rw [e1]; rfl, by rw [List.length_cons, e2.1]; rfl, fun i u y h1 h2 => ?_⟩
        cases i with
        | zero =>
          have e3 : t = u := Option.some.inj h1
          have e4 : stepAt H (.ref t) = y := Option.some.inj h2
          rw [← e3, ← e4, stepAt_of hx]
          exact hx
        | succ i => exact e2.2 i u y (by simpa using h1) (by simpa using h2)
    exact go vs rf
end K41

set_option Elab.async false
set_option linter.all false
set_option maxRecDepth 100000
set_option maxHeartbeats 4000000
/-! Drawn framings: the def. -/
namespace K41
open PySem L2 L2.EV
theorem cut_to {ts : List Addr} {i : Nat} : cutV (ts.map V.ref) none (some (i : Int)) = (ts.take i).map V.ref := by
  unfold cutV
  rw [HT.sIx_nat, HT.sIx_none, List.length_map, List.drop_zero, Nat.sub_zero, ← List.map_take]
  congr 1
  by_cases h : i ≤ ts.length
  · rw [Nat.min_eq_left h]
  · rw [Nat.min_eq_right (by omega), List.take_length, List.take_of_length_le (by omega)]
theorem any_d3 (y : T3) : ∀ xs : List T3, ((xs.map d3).any fun z => PyData.eqv z (d3 y)) = decide (y ∈ xs)
  | [] => by simp
  | x :: xs => by
    rw [List.map_cons, List.any_cons, any_d3 y xs, d3_eq]
    by_cases e : x = y
    · subst e
      simp
    · have e' : ¬ y = x := fun z => e z.symm
      rw [decide_eq_false e, Bool.false_or]
      by_cases m : y ∈ xs
      · rw [decide_eq_true m, decide_eq_true (List.mem_cons_of_mem _ m)]
      · rw [decide_eq_false m, decide_eq_false (fun z => (List.mem_cons.mp z).elim e' m)]
section
variable {P : Program} {w : World} {K : PySem.W.Frag} {mg : Str → Option Value} {base : Heap}
structure Lf (K : PySem.W.Frag) (mg : Str → Option Value) where
  L : Ls K mg
  f : Addr
  d : FuncData
  F : Fun K "_law_framing" "_law_framing" sFraming f d
  b : Binds K d ["m", "most"] []
  g : mg "_law_framing" = some (.ref f)
  so : mg "sorted" = none
  tu : mg "tuple" = none
  en : mg "enumerate" = none
theorem scFraming : FnScope ["m", "most", "last", "found", "here", "to", "again", "k", "step"] ["m", "most"] (defScope sFraming) := ⟨rfl, rfl, rfl, by decide +kernel, rfl, by decide +kernel, by decide +kernel⟩
theorem ok_framing (G : Lf K mg) : FnOk P w K mg base CX0 3 G.f G.d ["m", "most"] spFraming := by
  have GX : FnOk P w K mg base CX0 1 G.L.f1 G.L.d1 ["m", "total"] spNext := ok_next G.L.N G.L.T
  have GP : FnOk P w K mg base CX0 2 G.L.f2 G.L.d2 ["m", "last"] spPiece := ok_piece G.L
  refine G.F.ok scFraming (fun vs H Q E h => ?_) (fun cdv A outer s H vs Q E hr h => ?_)
  · obtain ⟨m, c, l, k, rfl, _⟩ := h
    rfl
  · obtain ⟨m, c, l, k, rfl, M, hk, q⟩ := h
    have hr1 := hr.mono (j := 1) (by omega)
    have hu65 : (A.deeper (PyProof.Rows.envOfC "_law_framing" (defScope sFraming) s.heap.objs.size G.f cdv)).units + 65 < cLine := by have := hr.un; omega
    refine ⟨_, pss_cons (ps_asg (pe_tup (pa_cons (pe_call GX hr1 (by rfl) G.L.mN G.L.N.kp G.L.bN .nil pass0 (pa_cons (pv 0) (pa_cons (pe_op op_add (pv 1) pe_int) pa_nil))) (pa_cons (pe_lst pa_nil) pa_nil))) (pg_tup rfl (pgs_cons (pg_name (i := 2) scFraming.nd rfl (Or.inl rfl)) (pgs_cons (pg_name (i := 3) scFraming.nd rfl (Or.inr rfl)) pgs_nil))))
      (pss_cons (ps_for PassesOwn.never rfl (pi_range1 (by rfl) G.L.ra (pa_cons (pe_op op_add (pv 2) pe_int) pa_nil)) (pg_name (i := 4) scFraming.nd rfl (Or.inl rfl))
        (pss_cons (ps_set (i := 5) scFraming.nd rfl (Or.inl rfl) (pe_ifExp (pt_cmpR op_lt (pv 4) (pv 2) (nomark _)) (pe_op op_add (pv 4) pe_int) pe_int))
        (pss_one (ps_expr (pe_bm PySem.F.plainAttrs_list PySem.F.slot_list_append PySem.F.type_list_append mt_append (pv 3) (pa_cons (pe_tup (pa_cons (pv 4) (pa_cons (pe_call GP hr (by rfl) G.L.mP G.L.P.kp G.L.bP .nil pass0 (pa_cons (pv 0) (pa_cons (pe_cmpR op_eq (pv 5) pe_int (nomark _)) pa_nil))) (pa_cons (pv 5) pa_nil)))) pa_nil))))))
      (pss_cons (ps_for PassesOwn.never rfl (pi_range1 (by rfl) G.L.ra (pa_cons (pe_call GX hr1 (by rfl) G.L.mN G.L.N.kp G.L.bN .nil pass0 (pa_cons (pv 0) (pa_cons pe_int pa_nil))) pa_nil)) (pg_name (i := 6) scFraming.nd rfl (Or.inl rfl))
        (pss_cons (ps_par (i := 4) (j := 5) (x := "here") (y := "to") rfl scFraming.nd rfl rfl (by decide) rfl rfl (pa_cons (pe_call GX hr1 (by rfl) G.L.mN G.L.N.kp G.L.bN .nil pass0 (pa_cons (pv 0) (pa_cons (pe_op op_add (pv 2) pe_int) pa_nil))) (pa_cons (pe_call GX hr1 (by rfl) G.L.mN G.L.N.kp G.L.bN .nil pass0 (pa_cons (pv 0) (pa_cons (pe_op op_add (pv 2) pe_int) pa_nil))) pa_nil)) (by rfl))
        (pss_one (ps_expr (pe_bm PySem.F.plainAttrs_list PySem.F.slot_list_append PySem.F.type_list_append mt_append (pv 3) (pa_cons (pe_tup (pa_cons (pv 4) (pa_cons (pe_call GP hr (by rfl) G.L.mP G.L.P.kp G.L.bP .nil pass0 (pa_cons (pv 0) (pa_cons (pe_cmpR op_eq (pv 5) pe_int (nomark _)) pa_nil))) (pa_cons (pv 5) pa_nil)))) pa_nil))))))
      (pss_one (ps_ret (pe_callTy call_tuple_of (by rfl) G.tu (by decide +kernel) (pa_cons (pe_callB cr_sorted3 (by rfl) G.so (by decide +kernel) (pa_cons (pe_lc (own := [("k", 7), ("step", 8)]) (g := gTup K 2 (gCons (gName 7) (gCons (gName 8) gNil))) (tt := tTest (tOp (rNotInD K) (tVar 8) (tSl (rSlL K) (tVar 3) tNoPart (tPart (tVar 7))))) (te := tVar 8) rfl scFraming.nd
        (pi_enum (by rfl) G.en (pa_cons (pv 3) pa_nil)) (blkOk_by (N := ["m", "most", "last", "found", "here", "to", "again", "k", "step"]) (sc := defScope sFraming) (by decide +kernel))
        (fun _ _ _ _ _ => pg_tup rfl (pgs_cons (pg_name (i := 7) scFraming.nd rfl (Or.inl rfl)) (pgs_cons (pg_name (i := 8) scFraming.nd rfl (Or.inl rfl)) pgs_nil)))
        (fun _ _ _ _ _ => pts_one (pt_cmpR (op_notInD hu65) (pv 8) (pe_slice sl_list (pv 3) po_none (po_some (pv 7))) (by rfl))) (fun _ _ _ _ _ => pv 8)) pa_nil)) pa_nil)))))), ?_⟩
    refine ⟨_, rfl, _, rfl, 4, 1, rfl, rfl, m, c, l, k, _, rfl, M, by decide, by decide, by omega, fun r0 H1 l1 k1 a1 b1 g1 N1 f1 q1 => ?_⟩
    have d1 : Dr H H1 m c l l1 k1 := ⟨N1, f1, q1⟩
    obtain ⟨last, rfl⟩ := Int.eq_ofNat_of_zero_le a1
    have l5 : last ≤ 5 := by omega
    refine ⟨by decide, fun F hF => ⟨(by show 2 ≤ sizeLine; decide), fun p hp => ?_⟩⟩
    have u1 := same_upd (o := HO.lst []) hF
    have u2 := same_upd (o := HO.tup [V.int (last : Int), V.ref F]) hp
    refine ⟨p, _, rfl, SqT.of upd_same, rfl, _, _, rfl, _, _, rfl, rfl, ?_⟩
    have D1 := d1.same (u1.trans u2)
    have fs0 : FS H _ m c l F k1 last [] := ⟨⟨[], l1, k1, u2 _ _ upd_same, ⟨rfl, fun i t x h => by cases h⟩, N1.l_some hF, (ne_of_none N1.hm hF).symm, N1.c_some hF, Int.le_refl _, D1⟩, (fun x h => by cases h), fun b o z h1 h2 => ne_of_none (d1.kp b o z h1 h2) hF⟩
    have hn : ((last : Int) + 1).toNat = last + 1 := by omega
    refine ⟨_, rfl, last, 1, rfl, rfl, _, rfl, by omega, by omega, for_it walk_range (fun i σ H' => ∃ (v4 v5 : Option V) (xs : List T3), σ = [some (.ref m), some (.int 4), some (.int (last : Int)), some (.ref F), v4, v5, none, none, none] ∧
      FS H H' m c l F (k1 + 21 * i) last xs ∧ xs.length = i ∧ ∀ j : Nat, j < i → ∃ x ∈ xs, x.1 = (j : Int) ∧ x.2.2 = (if j < last then (j : Int) + 1 else 0))
      ⟨none, none, [], rfl, by simpa using fs0, rfl, fun j h => absurd h (by omega)⟩ (fun _ _ _ _ _ => trivial) ?_ ?_⟩
    · rintro i x σ H2 H3 hi ⟨v4, v5, xs, rfl, fs, lx, rg⟩ ⟨rfl, rfl⟩
      have hil : i ≤ last := by omega
      obtain ⟨ts, l3, k3, hF3, ha3, n3, nm, nc, kk3, D3⟩ := fs.ex
      have M3 := D3.at_
      refine ⟨_, rfl, _, rfl, _, _, rfl, rfl, _, rfl, ?_⟩
      have fin : ∀ (t : Int) (pp : Str) (H' : Hp), t = (if i < last then (i : Int) + 1 else 0) → FS H H' m c l F (k1 + 21 * ((i + 1 : Nat) : Int)) last (xs ++ [(0 + (i : Int), pp, t)]) → (xs ++ [(0 + (i : Int), pp, t)]).length = i + 1 ∧ ∀ j : Nat, j < i + 1 → ∃ x ∈ xs ++ [(0 + (i : Int), pp, t)], x.1 = (j : Int) ∧ x.2.2 = (if j < last then (j : Int) + 1 else 0) := fun t pp H' et _ => by
        refine ⟨by rw [List.length_append, lx]; rfl, fun j hj => ?_⟩
        by_cases e : j = i
        · subst e
          exact ⟨_, List.mem_append_right _ (List.mem_singleton.mpr rfl), Int.zero_add _, et⟩
        · obtain ⟨x, hx, e2⟩ := rg j (by omega)
          exact ⟨x, List.mem_append_left _ hx, e2⟩
      refine ite2 (fun z => ?_) (fun z => ?_)
      · have z1 : 0 + (i : Int) < last := of_decide_eq_true z
        refine ⟨_, rfl, _, 1, rfl, rfl, ?_⟩
        refine ⟨_, rfl, .inl ⟨rfl, _, SqL.of hF3⟩, _, rfl, _, rfl, _, rfl, rfl, m, c, l3, k3, decide (V.int (0 + (i : Int) + 1) = V.int 0), rfl, M3, by omega, fun pp H4 l4 k4 hp kk4 d4 => ?_⟩
        rw [bl_eq] at hp
        refine ⟨_, rfl, (by show 3 ≤ sizeLine; decide), fun tp htp => ?_⟩
        obtain ⟨hF4, n4⟩ := d4.lst M3 hF3 n3
        refine ⟨F, ts.map V.ref, _, rfl, rfl, same_upd htp _ _ hF4, by rw [List.length_map, ha3.1, sizeLine_eq]; omega, ?_⟩
        have okx : Stp ((0 + (i : Int), pp, 0 + (i : Int) + 1) : T3) ∧ (0 + (i : Int) : Int) ≤ last ∧ (0 + (i : Int) + 1 : Int) ≤ last := ⟨⟨by show (0 : Int) ≤ 0 + i; omega, by show (0 + (i : Int)) < 6; omega, hp, by show (0 : Int) ≤ 0 + i + 1; omega, by show (0 + (i : Int) + 1) < 6; omega⟩, by omega, by omega⟩
        have fs' := FS.push (x := (0 + (i : Int), pp, 0 + (i : Int) + 1)) hF3 ha3 n3 nm nc D3 d4 htp rfl (kb := k1 + 21 * ((i + 1 : Nat) : Int)) (by omega) fs.ok okx fs.hF
        
        have et : 0 + (i : Int) + 1 = (if i < last then (i : Int) + 1 else 0) := by rw [if_pos (by omega)]; omega
        obtain ⟨w1, w2⟩ := fin _ pp _ et fs'
        exact ⟨_, _, _, rfl, fs', w1, w2⟩
      · have z1 : ¬ 0 + (i : Int) < last := fun y => z (decide_eq_true y)
        refine ⟨_, rfl, .inl ⟨rfl, _, SqL.of hF3⟩, _, rfl, _, rfl, _, rfl, rfl, m, c, l3, k3, decide (V.int (0) = V.int 0), rfl, M3, by omega, fun pp H4 l4 k4 hp kk4 d4 => ?_⟩
        rw [bl_eq] at hp
        refine ⟨_, rfl, (by show 3 ≤ sizeLine; decide), fun tp htp => ?_⟩
        obtain ⟨hF4, n4⟩ := d4.lst M3 hF3 n3
        refine ⟨F, ts.map V.ref, _, rfl, rfl, same_upd htp _ _ hF4, by rw [List.length_map, ha3.1, sizeLine_eq]; omega, ?_⟩
        have okx : Stp ((0 + (i : Int), pp, 0) : T3) ∧ (0 + (i : Int) : Int) ≤ last ∧ (0 : Int) ≤ last := ⟨⟨by show (0 : Int) ≤ 0 + i; omega, by show (0 + (i : Int)) < 6; omega, hp, Int.le_refl _, (by show (0 : Int) < 6; decide)⟩, by omega, by omega⟩
        have fs' := FS.push (x := (0 + (i : Int), pp, 0)) hF3 ha3 n3 nm nc D3 d4 htp rfl (kb := k1 + 21 * ((i + 1 : Nat) : Int)) (by omega) fs.ok okx fs.hF
        
        have et : (0 : Int) = (if i < last then (i : Int) + 1 else 0) := by rw [if_neg (by omega)]
        obtain ⟨w1, w2⟩ := fin _ pp _ et fs'
        exact ⟨_, _, _, rfl, fs', w1, w2⟩
    · rintro σ H2 ⟨v4, v5, xs, rfl, fs, lx, rg⟩
      rw [hn] at fs lx rg
      obtain ⟨ts, l3, k3, hF3, ha3, n3, nm, nc, kk3, D3⟩ := fs.ex
      refine ⟨_, rfl, m, c, l3, k3, 7, rfl, D3.at_, by decide, by decide, by omega, fun r2 H3 l4 k4 a4 b4 g4 N4 f4 q4 => ?_⟩
      have d4 : Dr H2 H3 m c l3 l4 k4 := ⟨N4, f4, q4⟩
      obtain ⟨hF4, n4⟩ := d4.lst D3.at_ hF3 n3
      have fs4 : FS H H3 m c l F (k1 + 127) last xs := ⟨⟨ts, l4, k4, hF4, ha3.same (d4.keepT D3.at_), n4, nm, nc, by omega, D3.trans d4⟩, fs.ok, fs.hF⟩
      refine ⟨r2, rfl, by omega, by omega, for_it walk_range (fun i σ H' => ∃ (v4 v5 v6 : Option V) (xs : List T3), σ = [some (.ref m), some (.int 4), some (.int (last : Int)), some (.ref F), v4, v5, v6, none, none] ∧
        FS H H' m c l F (k1 + 127 + 23 * i) last xs ∧ xs.length = last + 1 + i ∧ ∀ j : Nat, j < last + 1 → ∃ x ∈ xs, x.1 = (j : Int) ∧ x.2.2 = (if j < last then (j : Int) + 1 else 0))
        ⟨v4, v5, none, xs, rfl, by simpa using fs4, lx, rg⟩ (fun _ _ _ _ _ => trivial) ?_ ?_⟩
      · rintro i x σ H5 H6 hi ⟨v4, v5, v6, xs, rfl, fs, lx, rg⟩ ⟨rfl, rfl⟩
        have hi6 : i < 7 := by omega
        obtain ⟨ts, l5', k5, hF5, ha5, n5, nm, nc, kk5, D5⟩ := fs.ex
        refine ⟨_, rfl, _, rfl, last, 1, rfl, rfl, m, c, l5', k5, _, rfl, D5.at_, by omega, by omega, by omega, fun rh H7 l7 k7 a7 b7 g7 N7 f7 q7 => ?_⟩
        have d7 : Dr _ H7 m c l5' l7 k7 := ⟨N7, f7, q7⟩
        refine ⟨_, rfl, _, rfl, last, 1, rfl, rfl, m, c, l7, k7, _, rfl, N7, by omega, by omega, by omega, fun rt H8 l8 k8 a8 b8 g8 N8 f8 q8 => ?_⟩
        have d8 : Dr _ H8 m c l7 l8 k8 := ⟨N8, f8, q8⟩
        have D3 := D5.trans (d7.trans d8)
        have M3 := D3.at_
        obtain ⟨hF3, n3⟩ := (d7.trans d8).lst D5.at_ hF5 n5
        have ha3 := ha5.same ((d7.trans d8).keepT D5.at_)
        refine ⟨_, _, rfl, ?_⟩
        refine ⟨_, rfl, .inl ⟨rfl, _, SqL.of hF3⟩, _, rfl, _, rfl, _, rfl, rfl, m, c, l8, k8, decide (V.int (rt) = V.int 0), rfl, M3, by omega, fun pp H4 l4 k4 hp kk4 d4 => ?_⟩
        rw [bl_eq] at hp
        refine ⟨_, rfl, (by show 3 ≤ sizeLine; decide), fun tp htp => ?_⟩
        obtain ⟨hF4, n4⟩ := d4.lst M3 hF3 n3
        refine ⟨F, ts.map V.ref, _, rfl, rfl, same_upd htp _ _ hF4, by rw [List.length_map, ha3.1, sizeLine_eq]; omega, ?_⟩
        have okx : Stp ((rh, pp, rt) : T3) ∧ (rh : Int) ≤ last ∧ (rt : Int) ≤ last := ⟨⟨a7, by show rh < 6; omega, hp, a8, by show rt < 6; omega⟩, by omega, by omega⟩
        have fs' := FS.push (x := (rh, pp, rt)) hF3 ha3 n3 nm nc D3 d4 htp rfl (kb := k1 + 127 + 23 * ((i + 1 : Nat) : Int)) (by omega) fs.ok okx fs.hF
        
        exact ⟨_, _, _, _, rfl, fs', by rw [List.length_append, lx]; rfl, fun j hj => by
          obtain ⟨x, hx, e2⟩ := rg j hj
          exact ⟨x, List.mem_append_left _ hx, e2⟩⟩
      · rintro σ H5 ⟨v4, v5, v6, xs, rfl, fs, lx, rg⟩
        obtain ⟨ts, l6, k6, hF6, ha6, n6, nm, nc, kk6, D6⟩ := fs.ex
        have hr2 : r2.toNat ≤ 6 := by omega
        have l16 : xs.length ≤ 16 := by omega
        have sok : ∀ x ∈ xs, PyData.strOk x.2.1 = true := fun x hx => pc_ok (fs.ok x hx).1.2.2.1
        refine ⟨_, rfl, F, _, rfl, SqL.of hF6, fun D hD => ?_⟩
        have nFD : F ≠ D := ne_of_none hF6 hD
        refine lc_it (walk_enum (xs := ts.map V.ref)) (fun i H' => ∃ ks : List Addr, H' D = some (.lst (ks.map V.ref)) ∧ At3 H' ks (dd (xs.take i)) ∧ ∀ b o, H5 b = some o → H' b = some o)
          ⟨[], upd_same, ⟨rfl, fun i t x h => by cases h⟩, fun b o z => same_upd hD b o z⟩ (fun i H' _ ⟨_, _, _, z⟩ => SqL.of (z _ _ hF6)) ?_ ?_
        · rintro i x H6 H7 hi ⟨ks, hk, hka, kp⟩ ⟨T, xi, xo, rfl, nT, rfl, h1, h2⟩
          cases h1
          obtain ⟨t, y, hy, rfl, e4⟩ := at_step (i := i) ha6.1 ha6.2 h2
          have uT := same_upd (o := HO.tup [V.int (i : Nat), V.ref t]) nT
          have il : i < xs.length := (List.getElem?_eq_some_iff.mp hy).1
          refine ⟨T, _, rfl, SqT.of upd_same, rfl, _, _, rfl, _, _, rfl, rfl, rfl, ?_⟩
          refine ⟨_, rfl, _, rfl, _, rfl, _, rfl, F, _, rfl, SqL.of (uT _ _ (kp _ _ hF6)), fun p5 hp5 => ?_⟩
          have u5 := same_upd (o := HO.lst (cutV (ts.map V.ref) none (some ((i : Nat) : Int)))) hp5
          have s5 : Same H5 _ := (show Same H5 H6 from kp).trans (uT.trans u5)
          have t5 := s5 _ _ e4
          refine ⟨d3 y, (xs.take i).map d3, dp3 t5, .lst (SqL.of upd_same) ?_, d3_shaped (sok y (List.mem_of_getElem? hy)), d3s_shaped (fun x hx => sok x (List.mem_of_mem_take hx)), _, rfl, ?_⟩
          · rw [cut_to] at s5 ⊢
            exact dp3s ((ha6.take i).same (Same.keepT s5))
          · rw [any_d3]
            have kk := uT.trans u5
            refine ite2 (fun z => ?_) (fun z => ?_)
            · have nm2 : ¬ y ∈ dd (xs.take i) := fun w => by
                rw [decide_eq_true ((dd_mem _ _).mp w)] at z
                cases z
              have hk5 := kk _ _ hk
              have kt := keepT_upd (o := .lst (ks.map V.ref ++ [.ref t])) hk5 (fun xs z => by cases z)
              refine ⟨_, rfl, _, hk5, ?_, ks ++ [t], ?_, ?_, fun b o w => ?_⟩
              · have := dd_len (xs.take i)
                rw [List.length_take] at this
                rw [List.length_map, hka.1, sizeLine_eq]
                omega
              · rw [List.map_append]
                exact upd_same
              · rw [take_one hy, dd_snoc, if_neg nm2]
                exact (hka.same ((Same.keepT kk).trans kt)).snoc (kt _ _ t5)
              · rw [upd_ne (ne_of_none w hD)]
                exact s5 _ _ w
            · have nm2 : y ∈ dd (xs.take i) := (dd_mem _ _).mpr (by
                by_cases w : y ∈ xs.take i
                · exact w
                · rw [decide_eq_false w] at z
                  exact absurd rfl z)
              refine ⟨ks, kk _ _ hk, ?_, fun b o w => s5 _ _ w⟩
              rw [take_one hy, dd_snoc, if_pos nm2]
              exact hka.same (Same.keepT kk)
        · rintro H6 ⟨ks, hk, hka, kp⟩
          rw [List.length_map, ha6.1, List.take_length] at hka
          have hkm := map_stepAt hka
          refine ⟨D, _, stepAt H6, rfl, SqL.of hk, fun x hx => ?_, fun ys p5 sr pm hp5 => ?_⟩
          · obtain ⟨t, ht, rfl⟩ := List.mem_map.mp hx
            obtain ⟨j, hj, e⟩ := List.getElem_of_mem ht
            have hx2 : j < (dd xs).length := by rw [← hka.1]; exact hj
            have s3 := hka.2 j t _ (by rw [List.getElem?_eq_getElem hj, e]) (List.getElem?_eq_getElem hx2)
            refine ⟨t, rfl, ?_⟩
            rw [stepAt_of s3]
            exact s3
          · obtain ⟨fm, us, eu, hu⟩ := frm_of hka rfl sr pm l16 l5 fs.ok (fun k hk => rg k (by omega))
            have u5 := same_upd (o := HO.lst ys) hp5
            refine ⟨p5, _, rfl, .inl ⟨SqL.of upd_same, fun p6 hp6 => ?_⟩⟩
            have u6 := same_upd (o := HO.tup ys) hp6
            have k5 : Same H5 _ := (show Same H5 H6 from kp).trans (u5.trans u6)
            refine q p6 (ys.map (stepAt H6)) last _ l6 k6 ⟨us, by rw [← eu]; exact upd_same, hu.1, fun i t x h1 h2 => (u5.trans u6) _ _ (hu.2 i t x h1 h2)⟩ fm (by omega) (D6.same k5)
end
end K41

set_option Elab.async false
set_option linter.all false
set_option maxRecDepth 100000
set_option maxHeartbeats 4000000
/-! Drawn weavings. -/
namespace K41
open PySem L2 L2.EV
abbrev sFrom : Stmt := top 44
abbrev sWeave : Stmt := top 45
def spFrom : Sp := fun vs H Q _ => ∃ (f : Addr) (fr : List T3) (last : Nat) (h : Int), vs = [.ref f, .int h] ∧ FrA H f fr ∧ Frm fr last ∧
  ∀ (H' : Hp) (p : Addr) (ns : List Int), Same H H' → H p = none → H' p = some (.lst (ns.map V.int)) → ns.length ≤ 16 → (∀ n ∈ ns, 0 ≤ n ∧ n < fr.length ∧ (stt fr n).1 = h) → ((∃ x ∈ fr, x.1 = h) → ns ≠ []) → Q (.ref p) H'
def At2 (H : Hp) (ts : List Addr) (es : List E2) : Prop := ts.length = es.length ∧ ∀ (i : Nat) t e, ts[i]? = some t → es[i]? = some e → A2 H t e
theorem At2.same {H H' : Hp} {ts : List Addr} {xs : List E2} (h : At2 H ts xs) (s : KeepT H H') : At2 H' ts xs := ⟨h.1, fun i t x h1 h2 => s _ _ (h.2 i t x h1 h2)⟩
theorem At2.snoc {H : Hp} {ts : List Addr} {xs : List E2} {t : Addr} {x : E2} (h : At2 H ts xs) (hx : A2 H t x) : At2 H (ts ++ [t]) (xs ++ [x]) := by
  refine ⟨by rw [List.length_append, List.length_append, h.1]; rfl, fun i u y h1 h2 => ?_⟩
  by_cases e : i < ts.length
  · rw [List.getElem?_append_left e] at h1
    rw [List.getElem?_append_left (by rw [← h.1]; exact e)] at h2
    exact h.2 i u y h1 h2
  · have i1 := (List.getElem?_eq_some_iff.mp h1).1
    rw [List.length_append] at i1
    have e2 : i = ts.length := by simp only [List.length_cons, List.length_nil] at i1; omega
    subst e2
    rw [List.getElem?_append_right (Nat.le_refl _), Nat.sub_self] at h1
    rw [h.1, List.getElem?_append_right (Nat.le_refl _), Nat.sub_self] at h2
    have e3 : t = u := Option.some.inj h1
    have e4 : x = y := Option.some.inj h2
    rw [← e3, ← e4]
    exact hx
def spWeave : Sp := fun vs H Q _ => ∃ (m c l f : Addr) (k : Int) (fr : List T3) (last nw tot : Nat), vs = [.ref m, .ref f, .int nw, .int tot] ∧ MAt H m c l k ∧ k < 600000 ∧ FrA H f fr ∧ Frm fr last ∧ 1 ≤ nw ∧ nw ≤ 8 ∧ tot ≤ 60 ∧
  ∀ (w : Addr) (es : List E2) (H' : Hp) (l' : Addr) (k' : Int), WvA H' w es → Wv fr es → k' ≤ k + 200 → Dr H H' m c l l' k' → Q (.ref w) H'
theorem wv_snoc {fr : List T3} {es : List E2} {e : E2} (W : Wv fr es) (hl : es.length < 60) (he : Ent fr e) (g : (plc fr es)[e.1.toNat]? = some (stt fr e.2).1) : Wv fr (es ++ [e]) := by
  refine ⟨by rw [List.length_append]; simp only [List.length_cons, List.length_nil]; omega, fun x hx => ?_, fun i x hx => ?_⟩
  · rcases List.mem_append.mp hx with h | h
    · exact W.ent x h
    · have e2 : x = e := by simpa using h
      rw [e2]
      exact he
  · by_cases hi : i < es.length
    · rw [List.getElem?_append_left hi] at hx
      rw [List.take_append_of_le_length (by omega)]
      exact W.go i x hx
    · have i1 := (List.getElem?_eq_some_iff.mp hx).1
      rw [List.length_append] at i1
      have e2 : i = es.length := by simp only [List.length_cons, List.length_nil] at i1; omega
      subst e2
      rw [List.getElem?_append_right (Nat.le_refl _), Nat.sub_self] at hx
      have e3 : e = x := Option.some.inj hx
      rw [List.take_left' rfl, ← e3]
      exact g
theorem rep_flat : ∀ n : Nat, (List.replicate n [V.int 0]).flatten = (List.replicate n (0 : Int)).map V.int
  | 0 => rfl
  | n + 1 => by
    rw [List.replicate_succ, List.flatten_cons, rep_flat n, List.replicate_succ]
    rfl
structure WS (H H' : Hp) (m c l F W : Addr) (kb : Int) (fr : List T3) (nw : Nat) (es : List E2) : Prop where
  ex : ∃ (ts : List Addr) (l' : Addr) (k' : Int), H' F = some (.lst (ts.map V.ref)) ∧ At2 H' ts es ∧ H' W = some (.lst (((plc fr es).take nw).map V.int)) ∧ F ≠ l' ∧ F ≠ m ∧ F ≠ c ∧ W ≠ l' ∧ W ≠ m ∧ W ≠ c ∧ k' ≤ kb ∧ Dr H H' m c l l' k'
  hF : H F = none
  hW : H W = none
  fw : F ≠ W
theorem WS.push {H H1 : Hp} {m c l F W l1 tp : Addr} {k1 kb : Int} {fr : List T3} {nw : Nat} {es : List E2} {ts : List Addr} {e : E2} (hF1 : H1 F = some (.lst (ts.map V.ref))) (ha : At2 H1 ts es) (hW1 : H1 W = some (.lst (((plc fr es).take nw).map V.int)))
    (n1 : F ≠ l1) (n2 : F ≠ m) (n3 : F ≠ c) (n4 : W ≠ l1) (n5 : W ≠ m) (n6 : W ≠ c) (hk : k1 ≤ kb) (d : Dr H H1 m c l l1 k1) (ht : H1 tp = none) (hF : H F = none) (hW : H W = none) (fw : F ≠ W) :
    WS H (upd (upd (upd H1 tp (.tup [.int e.1, .int e.2])) F (.lst (ts.map V.ref ++ [.ref tp]))) W (.lst ((((plc fr es).take nw).map V.int).set e.1.toNat (.int (stt fr e.2).2.2)))) m c l F W kb fr nw (es ++ [e]) := by
  have u := same_upd (o := HO.tup [V.int e.1, V.int e.2]) ht
  have kF := keepT_upd (o := .lst (ts.map V.ref ++ [.ref tp])) (u _ _ hF1) (fun xs z => by cases z)
  have hW2 : upd (upd H1 tp (.tup [.int e.1, .int e.2])) F (.lst (ts.map V.ref ++ [.ref tp])) W = some (.lst (((plc fr es).take nw).map V.int)) := by
    rw [upd_ne fw.symm]
    exact u _ _ hW1
  have kW := keepT_upd (o := .lst ((((plc fr es).take nw).map V.int).set e.1.toNat (.int (stt fr e.2).2.2))) hW2 (fun xs z => by cases z)
  have kk := (Same.keepT u).trans (kF.trans kW)
  have D := d.same u
  refine ⟨⟨ts ++ [tp], l1, k1, by rw [List.map_append, upd_ne fw]; exact upd_same, (ha.same kk).snoc (kW _ _ (kF _ _ upd_same)), ?_, n1, n2, n3, n4, n5, n6, hk, ⟨(D.at_.upd n2 n3 n1).upd n5 n6 n4, D.hl, fun b o z h1 h2 => ?_⟩⟩, hF, hW, fw⟩
  · rw [upd_same, plc_snoc, List.take_set, List.map_set]
  · rw [upd_ne (ne_of_none z hW), upd_ne (ne_of_none z hF)]
    exact D.kp b o z h1 h2
/-- the standings of the writers -/
theorem plc_ok {fr : List T3} {last : Nat} (fm : Frm fr last) {es : List E2} (h : ∀ e ∈ es, Ent fr e) : ∀ g ∈ plc fr es, 0 ≤ g ∧ g ≤ last := by
  refine snoc_ind (p := fun es => (∀ e ∈ es, Ent fr e) → ∀ g ∈ plc fr es, 0 ≤ g ∧ g ≤ last) (fun _ g hg => ?_) (fun l e ih h g hg => ?_) es h
  · have z : g = 0 := by
      have := List.eq_of_mem_replicate (show g ∈ List.replicate 8 (0 : Int) from hg)
      exact this
    subst z
    omega
  · rw [plc_snoc] at hg
    rcases List.mem_or_eq_of_mem_set hg with z | z
    · exact ih (fun e he => h e (List.mem_append_left _ he)) g z
    · obtain ⟨_, _, n0, n1⟩ := h e (List.mem_append_right _ (List.mem_singleton.mpr rfl))
      have hm : stt fr e.2 ∈ fr := by
        obtain ⟨k, hk⟩ := Int.eq_ofNat_of_zero_le n0
        unfold stt
        rw [hk] at n1 ⊢
        have kl : k < fr.length := by omega
        rw [List.getD_eq_getElem?_getD, Int.toNat_natCast, List.getElem?_eq_getElem kl]
        exact List.getElem_mem kl
      rw [z]
      exact ⟨(fm.stp _ hm).2.2.2.1, (fm.lo _ hm).2⟩
section
variable {P : Program} {w : World} {K : PySem.W.Frag} {mg : Str → Option Value} {base : Heap}
structure Lw (K : PySem.W.Frag) (mg : Str → Option Value) where
  G : Lf K mg
  f1 : Addr
  f2 : Addr
  d1 : FuncData
  d2 : FuncData
  F : Fun K "_law_from" "_law_from" sFrom f1 d1
  W : Fun K "_law_weaving" "_law_weaving" sWeave f2 d2
  bF : Binds K d1 ["framing", "here"] []
  bW : Binds K d2 ["m", "framing", "writers", "total"] []
  gF : mg "_law_from" = some (.ref f1)
  gW : mg "_law_weaving" = some (.ref f2)
theorem scFrom : FnScope ["framing", "here", "number", "step"] ["framing", "here"] (defScope sFrom) := ⟨rfl, rfl, rfl, by decide +kernel, rfl, by decide +kernel, by decide +kernel⟩
theorem ok_from (G : Lw K mg) : FnOk P w K mg base CX0 1 G.f1 G.d1 ["framing", "here"] spFrom := by
  refine G.F.ok scFrom (fun vs H Q E h => ?_) (fun cdv A outer s H vs Q E hr h => ?_)
  · obtain ⟨f, fr, last, h, rfl, _⟩ := h
    rfl
  · obtain ⟨f, fr, last, h, rfl, fa, fm, q⟩ := h
    refine ⟨_, pss_one (ps_ret (pe_lc (own := [("number", 2), ("step", 3)]) (g := gTup K 2 (gCons (gName 2) (gCons (gName 3) gNil))) (tt := tTest (tOp rEq (tOp (rIxT K) (tVar 3) (tC (.int 0))) (tVar 1))) (te := tVar 2) rfl scFrom.nd (pi_enumT (by rfl) G.G.en (pa_cons (pv 0) pa_nil))
      (blkOk_by (N := ["framing", "here", "number", "step"]) (sc := defScope sFrom) (by decide +kernel))
      (fun _ _ _ _ _ => pg_tup rfl (pgs_cons (pg_name (i := 2) scFrom.nd rfl (Or.inl rfl)) (pgs_cons (pg_name (i := 3) scFrom.nd rfl (Or.inl rfl)) pgs_nil)))
      (fun _ _ _ _ _ => pts_one (pt_cmpR op_eq (pe_ix ix_tup (pv 3) pe_int (fun _ _ => rfl)) (pv 1) (nomark _))) (fun _ _ _ _ _ => pv 2))), ?_⟩
    obtain ⟨ts, hf, hl, ht⟩ := id fa
    have l1 := fm.l1
    refine ⟨_, rfl, f, _, rfl, SqT.of hf, fun D hD => ?_⟩
    refine lc_it (walk_enumT (xs := ts.map V.ref)) (fun i H' => ∃ ns : List Int, H' D = some (.lst (ns.map V.int)) ∧ ns.length ≤ i ∧ (∀ n ∈ ns, 0 ≤ n ∧ n < fr.length ∧ (stt fr n).1 = h) ∧ (∀ (j : Nat) x, j < i → fr[j]? = some x → x.1 = h → ns ≠ []) ∧ ∀ b o, H b = some o → H' b = some o)
      ⟨[], upd_same, Nat.le_refl _, (fun n h => by cases h), (fun j x hj => absurd hj (by omega)), fun b o z => same_upd hD b o z⟩ (fun i H' _ ⟨_, _, _, _, _, z⟩ => SqT.of (z _ _ hf)) ?_ ?_
    · rintro i x H1 H2 hi ⟨ns, hn, nl, nk, nz, kp⟩ ⟨T, xi, xo, rfl, nT, rfl, h1, h2⟩
      cases h1
      obtain ⟨t, y, hy, rfl, e4⟩ := at_step (i := i) hl ht h2
      have uT := same_upd (o := HO.tup [V.int (i : Nat), V.ref t]) nT
      have s3 : Same H _ := (show Same H H1 from kp).trans uT
      have il : i < fr.length := (List.getElem?_eq_some_iff.mp hy).1
      have es : stt fr (i : Int) = y := by
        unfold stt
        rw [List.getD_eq_getElem?_getD, Int.toNat_natCast, hy]
        rfl
      refine ⟨T, _, rfl, SqT.of upd_same, rfl, _, _, rfl, _, _, rfl, rfl, rfl, ?_⟩
      refine ⟨_, rfl, t, _, 0, _, rfl, rfl, SqT.of (s3 _ _ e4), atI_nat (j := 0) rfl, _, rfl, rfl, _, rfl, ?_⟩
      refine ite2 (fun z => ?_) (fun z => ?_)
      · have z1 : y.1 = h := V.int.inj (of_decide_eq_true z)
        refine ⟨_, rfl, _, uT _ _ hn, ?_, ns ++ [(i : Int)], ?_, ?_, fun n hn2 => ?_, fun j x _ _ _ => by simp, fun b o w => ?_⟩
        · rw [List.length_map, sizeLine_eq]
          omega
        · rw [List.map_append]
          exact upd_same
        · rw [List.length_append]
          simp only [List.length_cons, List.length_nil]
          omega
        · rcases List.mem_append.mp hn2 with h3 | h3
          · exact nk n h3
          · have e2 : n = (i : Int) := by simpa using h3
            subst e2
            rw [es]
            exact ⟨by omega, by omega, z1⟩
        · rw [upd_ne (ne_of_none w hD)]
          exact s3 _ _ w
      · have z1 : ¬ y.1 = h := fun e => z (decide_eq_true (congrArg V.int e))
        refine ⟨ns, uT _ _ hn, by omega, nk, fun j x hj hx he => ?_, fun b o w => s3 _ _ w⟩
        by_cases e : j = i
        · subst e
          rw [hy] at hx
          exact absurd he (by rw [← Option.some.inj hx]; exact z1)
        · exact nz j x (by omega) hx he
    · rintro H1 ⟨ns, hn, nl, nk, nz, kp⟩
      rw [List.length_map, hl] at nl nz
      refine q H1 D ns kp hD hn (by omega) nk (fun ⟨x, hx, he⟩ => ?_)
      obtain ⟨j, hj, e⟩ := List.getElem_of_mem hx
      exact nz j x hj (by rw [List.getElem?_eq_getElem hj, e]) he
theorem scWeave : FnScope ["m", "framing", "writers", "total", "found", "now", "writer", "k", "some", "number"] ["m", "framing", "writers", "total"] (defScope sWeave) := ⟨rfl, rfl, rfl, by decide +kernel, rfl, by decide +kernel, by decide +kernel⟩
theorem ok_weave (G : Lw K mg) : FnOk P w K mg base CX0 2 G.f2 G.d2 ["m", "framing", "writers", "total"] spWeave := by
  have GX : FnOk P w K mg base CX0 1 G.G.L.f1 G.G.L.d1 ["m", "total"] spNext := ok_next G.G.L.N G.G.L.T
  have GF : FnOk P w K mg base CX0 1 G.f1 G.d1 ["framing", "here"] spFrom := ok_from G
  refine G.W.ok scWeave (fun vs H Q E h => ?_) (fun cdv A outer s H vs Q E hr h => ?_)
  · obtain ⟨m, c, l, f, k, fr, last, nw, tot, rfl, _⟩ := h
    rfl
  · obtain ⟨m, c, l, f, k, fr, last, nw, tot, rfl, M, hk, fa, fm, w1, w8, t60, q⟩ := h
    refine ⟨_, pss_cons (ps_par (i := 4) (j := 5) (x := "found") (y := "now") rfl scWeave.nd rfl rfl (by decide) rfl rfl (pa_cons (pe_lst pa_nil) (pa_cons (pe_op op_rep (pe_lst (pa_cons pe_int pa_nil)) (pv 2)) pa_nil)) (by rfl))
      (pss_cons (ps_set (i := 6) scWeave.nd rfl (Or.inl rfl) (pe_call GX hr (by rfl) G.G.L.mN G.G.L.N.kp G.G.L.bN .nil pass0 (pa_cons (pv 0) (pa_cons (pv 2) pa_nil))))
      (pss_cons (ps_for PassesOwn.never rfl (pi_range1 (by rfl) G.G.L.ra (pa_cons (pv 3) pa_nil)) (pg_name (i := 7) scWeave.nd rfl (Or.inl rfl))
        (pss_cons (ps_if (pt_cmpR op_gt (pe_call GX hr (by rfl) G.G.L.mN G.G.L.N.kp G.G.L.bN .nil pass0 (pa_cons (pv 0) (pa_cons pe_int pa_nil))) pe_int (nomark _))
          (pss_one (ps_set (i := 6) scWeave.nd rfl (Or.inl rfl) (pe_call GX hr (by rfl) G.G.L.mN G.G.L.N.kp G.G.L.bN .nil pass0 (pa_cons (pv 0) (pa_cons (pv 2) pa_nil))))) pss_nil)
        (pss_cons (ps_set (i := 8) scWeave.nd rfl (Or.inl rfl) (pe_call GF hr (by rfl) G.gF G.F.kp G.bF .nil pass0 (pa_cons (pv 1) (pa_cons (pe_ix ix_list (pv 5) (pv 6) (fun _ _ => rfl)) pa_nil))))
        (pss_cons (ps_set (i := 9) scWeave.nd rfl (Or.inl rfl) (pe_ix ix_list (pv 8) (pe_call GX hr (by rfl) G.G.L.mN G.G.L.N.kp G.G.L.bN .nil pass0 (pa_cons (pv 0) (pa_cons (pe_callB call_len_seq (by rfl) G.G.L.T.len PySem.boot_len (pa_cons (pv 8) pa_nil)) pa_nil))) (fun _ _ => rfl)))
        (pss_cons (ps_expr (pe_bm PySem.F.plainAttrs_list PySem.F.slot_list_append PySem.F.type_list_append mt_append (pv 4) (pa_cons (pe_tup (pa_cons (pv 6) (pa_cons (pv 9) pa_nil))) pa_nil)))
        (pss_one (ps_asg (pe_ix ix_tup (pe_ix ix_tup (pv 1) (pv 9) (fun _ _ => rfl)) pe_int (fun _ _ => rfl)) (pg_sub (pv 5) (pv 6) set_list))))))))
      (pss_one (ps_ret (pe_callTy call_tuple_of (by rfl) G.G.tu (by decide +kernel) (pa_cons (pv 4) pa_nil)))))), ?_⟩
    refine ⟨by decide, fun F hF => ⟨(by show 1 ≤ sizeLine; decide), fun z hz => ?_⟩⟩
    refine ⟨_, rfl, z, nw, _, rfl, rfl, upd_same, by omega, by omega, (by rw [sizeLine_eq]; simp; omega), fun W hW => ⟨_, _, rfl, ?_⟩⟩
    have u1 := same_upd (o := HO.lst []) hF
    have u2 := same_upd (o := HO.lst [V.int 0]) hz
    have u3 := same_upd (o := HO.lst (List.replicate (nw : Int).toNat [V.int 0]).flatten) hW
    have sA : Same H _ := u1.trans (u2.trans u3)
    have MA := M.same sA
    have hFA := (u2.trans u3) _ _ (upd_same (H := H) (a := F) (o := HO.lst []))
    have hWA : upd (upd (upd H F (.lst [])) z (.lst [V.int 0])) W (.lst (List.replicate (nw : Int).toNat [V.int 0]).flatten) W = some (.lst (((plc fr []).take nw).map V.int)) := by
      rw [upd_same, rep_flat, Int.toNat_natCast]
      show _ = some (HO.lst (((List.replicate 8 (0 : Int)).take nw).map V.int))
      rw [List.take_replicate, Nat.min_eq_left w8]
    have hW0 : H W = none := (u1.trans u2).free hW
    have fw : F ≠ W := ne_of_none ((u2) _ _ (upd_same (H := H) (a := F) (o := HO.lst []))) hW
    have nFm : F ≠ m := (ne_of_none M.hm hF).symm
    have nWm : W ≠ m := (ne_of_none M.hm hW0).symm
    have nFc := M.c_some hF
    have nWc := M.c_some hW0
    refine ⟨_, rfl, _, rfl, m, c, l, k, nw, rfl, MA, by omega, by omega, by omega, fun r H1 l1 k1 a1 b1 g1 N1 f1 q1 => ?_⟩
    have d1 : Dr _ H1 m c l l1 k1 := ⟨N1, f1, q1⟩
    obtain ⟨hF1, nF1⟩ := d1.lst MA hFA (M.l_some hF)
    obtain ⟨hW1, nW1⟩ := d1.lst MA hWA (M.l_some hW0)
    have DA : Dr H H1 m c l l1 k1 := ((Dr.refl M).same sA).trans d1
    have ws0 : WS H H1 m c l F W (k + 1) fr nw [] := ⟨⟨[], l1, k1, hF1, ⟨rfl, fun i t x h => by cases h⟩, hW1, nF1, nFm, nFc, nW1, nWm, nWc, by omega, DA⟩, hF, hW0, fw⟩
    refine ⟨_, rfl, tot, rfl, by omega, by omega, for_it walk_range (fun i σ H' => ∃ (wr : Int) (v7 v8 v9 : Option V) (es : List E2), σ = [some (.ref m), some (.ref f), some (.int (nw : Int)), some (.int (tot : Int)), some (.ref F), some (.ref W), some (.int wr), v7, v8, v9] ∧
      0 ≤ wr ∧ wr < nw ∧ WS H H' m c l F W (k + 1 + 3 * i) fr nw es ∧ es.length = i ∧ Wv fr es)
      ⟨r, none, none, none, [], rfl, a1, b1, by simpa using ws0, rfl, ⟨Nat.zero_le _, fun e h => (by cases h), fun i e h => (by cases h)⟩⟩ (fun _ _ _ _ _ => trivial) ?_ ?_⟩
    · rintro i x σ H2 H2' hi ⟨wr, v7, v8, v9, es, rfl, wr0, wr1, ws, le, wo⟩ ⟨rfl, rfl⟩
      have hi60 : i < 60 := by
        rw [Int.toNat_natCast] at hi
        omega
      obtain ⟨ts, l2, k2, hF2, ha2, hW2, nF2, _, _, nW2, _, _, kk2, D2⟩ := ws.ex
      refine ⟨_, rfl, m, c, l2, k2, 3, rfl, D2.at_, by decide, by decide, by omega, fun rb Hb lb kb ab bb gb Nb fb qb => ?_⟩
      have db : Dr _ Hb m c l2 lb kb := ⟨Nb, fb, qb⟩
      obtain ⟨hFb, nFb⟩ := db.lst D2.at_ hF2 nF2
      obtain ⟨hWb, nWb⟩ := db.lst D2.at_ hW2 nW2
      have hab := ha2.same (db.keepT D2.at_)
      have Db := D2.trans db
      refine ⟨rb, 0, rfl, rfl, _, rfl, ?_⟩
      refine ite2 (fun _ => ?_) (fun _ => ?_)
      · refine ⟨_, rfl, _, rfl, m, c, lb, kb, nw, rfl, Nb, by omega, by omega, by omega, fun wq H3 l3 k3 wr0 wr1 g3 N3 f3 q3 => ?_⟩
        have d3 : Dr _ H3 m c lb l3 k3 := ⟨N3, f3, q3⟩
        obtain ⟨hF3, nF3⟩ := d3.lst Nb hFb nFb
        obtain ⟨hW3, nW3⟩ := d3.lst Nb hWb nWb
        have ha3 := hab.same (d3.keepT Nb)
        have D3 := Db.trans d3
        have wn0 : (wq).toNat < (plc fr es).length := by rw [plc_len]; omega
        obtain ⟨g, hg⟩ : ∃ g, (plc fr es)[(wq).toNat]? = some g := ⟨_, List.getElem?_eq_getElem wn0⟩
        obtain ⟨g0, g1⟩ := plc_ok fm wo.ent g (List.mem_of_getElem? hg)
        have hgi : atI (((plc fr es).take nw).map V.int) (wq) = some (.int g) := by
          obtain ⟨j, hj⟩ := Int.eq_ofNat_of_zero_le wr0
          rw [hj] at hg ⊢
          refine atI_nat ?_
          rw [List.getElem?_map, List.getElem?_take, if_pos (by omega)]
          have hg' : (plc fr es)[j]? = some g := hg
          rw [hg']
          rfl
        refine ⟨_, rfl, _, rfl, _, rfl, W, _, wq, .int g, rfl, rfl, SqL.of hW3, hgi, f, fr, last, g, rfl, D3.fr M fa, fm, fun H4 p ns s4 np ep nl nk nz => ?_⟩
        obtain ⟨gn, rfl⟩ := Int.eq_ofNat_of_zero_le g0
        obtain ⟨x0, hx0, ex0, _⟩ := fm.ring gn (by omega)
        have nne := List.length_pos_iff.mpr (nz ⟨x0, hx0, ex0⟩)
        have M4 := D3.at_.same s4
        refine ⟨_, rfl, _, rfl, _, rfl, p, _, rfl, .inl (SqL.of ep), m, c, l3, k3, _, rfl, M4, by rw [List.length_map]; omega, by rw [List.length_map]; omega, by omega, fun r5 H5 l5 k5 a5 b5 g5 N5 f5 q5 => ?_⟩
        have d5 : Dr H4 H5 m c l3 l5 k5 := ⟨N5, f5, q5⟩
        rw [List.length_map] at b5
        obtain ⟨ep5, _⟩ := d5.lst M4 ep (D3.at_.l_some np)
        obtain ⟨j, rfl⟩ := Int.eq_ofNat_of_zero_le a5
        have jl : j < ns.length := by omega
        obtain ⟨m0, m1, m2⟩ := nk ns[j] (List.getElem_mem jl)
        have D5 := (D3.same s4).trans d5
        obtain ⟨hF5, nF5⟩ := d5.lst M4 (s4 _ _ hF3) nF3
        obtain ⟨hW5, nW5⟩ := d5.lst M4 (s4 _ _ hW3) nW3
        have ha5 := (ha3.same (Same.keepT s4)).same (d5.keepT M4)
        refine ⟨p, _, (j : Int), .int ns[j], rfl, rfl, SqL.of ep5, atI_nat (by rw [List.getElem?_map, List.getElem?_eq_getElem jl]; rfl), ?_⟩
        refine ⟨_, rfl, .inl ⟨rfl, _, SqL.of hF5⟩, _, rfl, _, rfl, (by show 2 ≤ sizeLine; decide), fun tp htp => ?_⟩
        have u6 := same_upd (o := HO.tup [V.int (wq), V.int ns[j]]) htp
        refine ⟨F, ts.map V.ref, _, rfl, rfl, u6 _ _ hF5, by rw [List.length_map, ha3.1, sizeLine_eq]; omega, ?_⟩
        have k6 := keepT_upd (o := .lst (ts.map V.ref ++ [.ref tp])) (u6 _ _ hF5) (fun xs z => by cases z)
        obtain ⟨tf, t2, hf, hat, h3, _⟩ := stt_at (D5.fr M fa) m0 m1
        have kk := (Same.keepT u6).trans k6
        refine ⟨_, rfl, _, rfl, f, _, ns[j], .ref t2, rfl, rfl, SqT.of (kk _ _ hf), hat, t2, _, 2, _, rfl, rfl, SqT.of (kk _ _ h3), atI_nat (j := 2) rfl, _, rfl, _, rfl, W, _, wq, (wq).toNat, rfl, rfl, by rw [upd_ne ws.fw.symm]; exact u6 _ _ hW5, ?_, ?_⟩
        · rw [List.length_map, List.length_take, plc_len]
          unfold ixN
          rw [if_pos wr0, if_pos (by omega)]
        · have ent : Ent fr (wq, ns[j]) := ⟨wr0, by show (wq : Int) < 8; omega, m0, m1⟩
          have ws' := WS.push (e := (wq, ns[j])) hF5 ha5 hW5 nF5 nFm nFc nW5 nWm nWc (kb := k + 1 + 3 * ((i + 1 : Nat) : Int)) (by omega) D5 htp ws.hF ws.hW ws.fw
          refine ⟨_, _, _, _, es ++ [(wq, ns[j])], rfl, wr0, wr1, ws', by rw [List.length_append, le]; rfl, wv_snoc wo (by omega) ent ?_⟩
          show (plc fr es)[(wq).toNat]? = some (stt fr ns[j]).1
          rw [hg, m2]
        
      · have hF3 := hFb
        have hW3 := hWb
        have nF3 := nFb
        have nW3 := nWb
        have ha3 := hab
        have D3 := Db
        generalize lb = l3 at *
        generalize kb = k3 at *
        have wn0 : (wr).toNat < (plc fr es).length := by rw [plc_len]; omega
        obtain ⟨g, hg⟩ : ∃ g, (plc fr es)[(wr).toNat]? = some g := ⟨_, List.getElem?_eq_getElem wn0⟩
        obtain ⟨g0, g1⟩ := plc_ok fm wo.ent g (List.mem_of_getElem? hg)
        have hgi : atI (((plc fr es).take nw).map V.int) (wr) = some (.int g) := by
          obtain ⟨j, hj⟩ := Int.eq_ofNat_of_zero_le wr0
          rw [hj] at hg ⊢
          refine atI_nat ?_
          rw [List.getElem?_map, List.getElem?_take, if_pos (by omega)]
          have hg' : (plc fr es)[j]? = some g := hg
          rw [hg']
          rfl
        refine ⟨_, rfl, _, rfl, _, rfl, W, _, wr, .int g, rfl, rfl, SqL.of hW3, hgi, f, fr, last, g, rfl, D3.fr M fa, fm, fun H4 p ns s4 np ep nl nk nz => ?_⟩
        obtain ⟨gn, rfl⟩ := Int.eq_ofNat_of_zero_le g0
        obtain ⟨x0, hx0, ex0, _⟩ := fm.ring gn (by omega)
        have nne := List.length_pos_iff.mpr (nz ⟨x0, hx0, ex0⟩)
        have M4 := D3.at_.same s4
        refine ⟨_, rfl, _, rfl, _, rfl, p, _, rfl, .inl (SqL.of ep), m, c, l3, k3, _, rfl, M4, by rw [List.length_map]; omega, by rw [List.length_map]; omega, by omega, fun r5 H5 l5 k5 a5 b5 g5 N5 f5 q5 => ?_⟩
        have d5 : Dr H4 H5 m c l3 l5 k5 := ⟨N5, f5, q5⟩
        rw [List.length_map] at b5
        obtain ⟨ep5, _⟩ := d5.lst M4 ep (D3.at_.l_some np)
        obtain ⟨j, rfl⟩ := Int.eq_ofNat_of_zero_le a5
        have jl : j < ns.length := by omega
        obtain ⟨m0, m1, m2⟩ := nk ns[j] (List.getElem_mem jl)
        have D5 := (D3.same s4).trans d5
        obtain ⟨hF5, nF5⟩ := d5.lst M4 (s4 _ _ hF3) nF3
        obtain ⟨hW5, nW5⟩ := d5.lst M4 (s4 _ _ hW3) nW3
        have ha5 := (ha3.same (Same.keepT s4)).same (d5.keepT M4)
        refine ⟨p, _, (j : Int), .int ns[j], rfl, rfl, SqL.of ep5, atI_nat (by rw [List.getElem?_map, List.getElem?_eq_getElem jl]; rfl), ?_⟩
        refine ⟨_, rfl, .inl ⟨rfl, _, SqL.of hF5⟩, _, rfl, _, rfl, (by show 2 ≤ sizeLine; decide), fun tp htp => ?_⟩
        have u6 := same_upd (o := HO.tup [V.int (wr), V.int ns[j]]) htp
        refine ⟨F, ts.map V.ref, _, rfl, rfl, u6 _ _ hF5, by rw [List.length_map, ha3.1, sizeLine_eq]; omega, ?_⟩
        have k6 := keepT_upd (o := .lst (ts.map V.ref ++ [.ref tp])) (u6 _ _ hF5) (fun xs z => by cases z)
        obtain ⟨tf, t2, hf, hat, h3, _⟩ := stt_at (D5.fr M fa) m0 m1
        have kk := (Same.keepT u6).trans k6
        refine ⟨_, rfl, _, rfl, f, _, ns[j], .ref t2, rfl, rfl, SqT.of (kk _ _ hf), hat, t2, _, 2, _, rfl, rfl, SqT.of (kk _ _ h3), atI_nat (j := 2) rfl, _, rfl, _, rfl, W, _, wr, (wr).toNat, rfl, rfl, by rw [upd_ne ws.fw.symm]; exact u6 _ _ hW5, ?_, ?_⟩
        · rw [List.length_map, List.length_take, plc_len]
          unfold ixN
          rw [if_pos wr0, if_pos (by omega)]
        · have ent : Ent fr (wr, ns[j]) := ⟨wr0, by show (wr : Int) < 8; omega, m0, m1⟩
          have ws' := WS.push (e := (wr, ns[j])) hF5 ha5 hW5 nF5 nFm nFc nW5 nWm nWc (kb := k + 1 + 3 * ((i + 1 : Nat) : Int)) (by omega) D5 htp ws.hF ws.hW ws.fw
          refine ⟨_, _, _, _, es ++ [(wr, ns[j])], rfl, wr0, wr1, ws', by rw [List.length_append, le]; rfl, wv_snoc wo (by omega) ent ?_⟩
          show (plc fr es)[(wr).toNat]? = some (stt fr ns[j]).1
          rw [hg, m2]
        
    · rintro σ H2 ⟨wr, v7, v8, v9, es, rfl, wr0, wr1, ws, le, wo⟩
      obtain ⟨ts, l2, k2, hF2, ha2, hW2, nF2, _, _, nW2, _, _, kk2, D2⟩ := ws.ex
      refine ⟨_, rfl, F, _, rfl, .inl ⟨SqL.of hF2, fun p hp => ?_⟩⟩
      have u := same_upd (o := HO.tup (ts.map V.ref)) hp
      rw [Int.toNat_natCast] at kk2
      exact q p es _ l2 k2 ⟨ts, upd_same, ha2.1, fun i t e h1 h2 => u _ _ (ha2.2 i t e h1 h2)⟩ wo (by omega) (D2.same u)
end
end K41

set_option Elab.async false
set_option linter.all false
set_option maxRecDepth 100000
set_option maxHeartbeats 4000000
/-! try: .. except (A, B, ..) as e: the caught error is kept as a value behind the suite. Raising an own exception that was made by its own __init__. -/
namespace L2
namespace EV
open PySem PySem.Spec PyProof.Rows _root_.EV
/-- an exception that was caught, at a -/
def exh (cls : Value) (d : Option Addr) (a : Addr) : HO := .ext fun h => ∃ (oe : Obj) (vs : Array Value), h.get? a = some oe ∧ Zc cls d oe ∧ oe.data = .fields vs
theorem exh_ok {P : Program} {w : World} {H : Hp} {h : Heap} {a : Addr} {cls : Value} {d : Option Addr} {oe : Obj} {vs : Array Value} (e : h.get? a = some oe) (z : Zc cls d oe) (hd : oe.data = .fields vs) : ObjOk P w H h a (exh cls d a) :=
  ⟨⟨oe, vs, e, z, hd⟩, ⟨oe, e⟩, fun _ _ ⟨o, v, q, r⟩ k => ⟨o, v, k o q, r⟩⟩
theorem exh_at {P : Program} {w : World} {H : Hp} {h : Heap} {a : Addr} {cls : Value} {d : Option Addr} (hok : HOk P w H h) (e : H a = some (exh cls d a)) : ∃ (oe : Obj) (vs : Array Value), h.get? a = some oe ∧ Zc cls d oe ∧ oe.data = .fields vs := by
  have q : ObjOk P w H h a (.ext fun h => ∃ (oe : Obj) (vs : Array Value), h.get? a = some oe ∧ Zc cls d oe ∧ oe.data = .fields vs) := hok a _ e
  exact q.1
theorem flies_keeps {B : Heap} {l : List Env} {a : Addr} {Z : Obj → Prop} {h h' : Heap} (f : HandSPX.FlyingZ B l a Z h) (k : ∀ b o, h.get? b = some o → h'.get? b = some o) : HandSPX.FlyingZ B l a Z h' := by
  obtain ⟨f1, f2, f3, oe, vs, T, oT, ts, e1, e2, e3, e4, e5, e6, e7, e8, e9⟩ := f
  exact ⟨fun b o q => k b o (f1 b o q), f2, f3.of_keeps fun b o q _ => ⟨o, k b o q, rfl⟩, oe, vs, T, oT, ts, k _ _ e1, e2, e3, e4, e5, e6, k _ _ e7, e8, e9⟩
/-! ### does one of several classes match -/
section
variable {M : Model} {K : PySem.W.Frag} {h : Heap} {cls : Value}
theorem all_cls : ∀ {cs : List Value} {b : Bool}, PySem.W.exmAny K cls cs = some b → ∀ c ∈ cs, ∃ v, PySem.W.exmOne K cls c = some v
  | c :: r, b, e, x, hx => by
    obtain ⟨b1, d1, h1, h2, _⟩ := PySem.W.exmAny_cons e
    rcases List.mem_cons.mp hx with rfl | hx
    · exact ⟨_, h1⟩
    · exact all_cls h2 x hx
section
variable {A : Around} {E : Value → Shared → Prop} {s : Shared}
theorem loop_exc (X : K.In h) (k0 : ∀ b o, h.get? b = some o → s.heap.get? b = some o) {R : PUnit → Shared → Prop} (r : R ⟨⟩ s) : ∀ l : List Value, (∀ c ∈ l, ∃ v, PySem.W.exmOne K cls c = some v) →
    wpAny M A (forIn l PUnit.unit fun c _ => do
        if (!(← isExcClass c)) = true then do
          rule "try.except-non-exception-class"
          raiseErrorWords "TypeError" "catching classes that do not inherit from BaseException is not allowed"
          pure (ForInStep.yield PUnit.unit)
        else pure (ForInStep.yield PUnit.unit)) R E s := by
  intro l
  induction l with
  | nil => exact fun _ => wpAny_pure r
  | cons c l ih =>
    intro hl
    obtain ⟨v, hv⟩ := hl c (List.mem_cons_self ..)
    obtain ⟨i1, _⟩ := PySem.W.exm_cls (M := M) X hv
    rw [List.forIn_cons]
    refine wpAny_bind (wpAny_bind ((i1.keeps k0).here ?_))
    simp only [Bool.not_true, Bool.false_eq_true, if_false]
    exact wpAny_pure (ih fun x hx => hl x (List.mem_cons_of_mem _ hx))
theorem loop_sub (X : K.In h) (k0 : ∀ b o, h.get? b = some o → s.heap.get? b = some o) {R : Option Bool × Unit → Shared → Prop} : ∀ (l : List Value) (b : Bool), PySem.W.exmAny K cls l = some b → R (if b = true then (some true, ()) else (none, ())) s →
    wpAny M A (forIn l ((none, ()) : Option Bool × Unit) fun c _ => do
        if (← isSubtype cls c) = true then pure (ForInStep.done (some true, ())) else pure (ForInStep.yield (none, ()))) R E s := by
  intro l
  induction l with
  | nil =>
    intro b e r
    have : some false = some b := e
    cases this
    exact wpAny_pure r
  | cons c l ih =>
    intro b e r
    obtain ⟨b1, d1, h1, h2, rfl⟩ := PySem.W.exmAny_cons e
    obtain ⟨_, S1⟩ := PySem.W.exm_cls (M := M) X h1
    rw [List.forIn_cons]
    refine wpAny_bind (wpAny_bind ((S1.keeps k0).here ?_))
    cases b1 with
    | true =>
      rw [Bool.true_or] at r
      simp only [if_true]
      exact wpAny_pure (wpAny_pure r)
    | false =>
      rw [Bool.false_or] at r
      simp only [Bool.false_eq_true, if_false]
      exact wpAny_pure (ih _ h2 r)
end
theorem match_list {cs : List Value} {b : Bool} {tp e : Addr} (X : K.In h) (LT : PySem.W.Looks M h (typeOf (.ref e)) cls) (hp : h.get? tp = some { cls := .type "tuple", data := .seq cs.toArray }) (hx : PySem.W.exmAny K cls cs = some b) :
    PySem.W.Looks M h (excMatches (.ref e) (.ref tp)) b := by
  intro A Q E s k0 q
  have L0 : PySem.W.Looks M h (isInstance (.ref tp) (.type "tuple")) true := ((PySem.W.Looks.ld hp).andThen .now).andThen (PySem.W.Looks.of_pure isSubtype_tuple_tuple)
  have hp' := k0 _ _ hp
  unfold excMatches
  refine wpAny_bind ((L0.keeps k0).here ?_)
  rw [if_pos rfl]
  have ec : ((some cs.toArray).getD #[]).toList = cs := by simp
  refine wpAny_bind ?_
  refine wpAny_seqItems hp' rfl ?_
  refine wpAny_bind (wpAny_pure ?_)
  show wpAny _ _ (do
      forIn ((some cs.toArray).getD #[]).toList PUnit.unit _
      _) _ _ _
  rw [ec]
  refine wpAny_bind (loop_exc X k0 ?_ cs (all_cls hx))
  refine wpAny_bind ((LT.keeps k0).here ?_)
  refine wpAny_bind (loop_sub X k0 cs b hx ?_)
  cases b with
  | true => exact wpAny_pure q
  | false => exact wpAny_pure q
end
/-! ### the rule -/
/-- classes by their names -/
inductive ClsL (X : Cx) : List Expr → List Value → Prop
  | nil : ClsL X [] []
  | cons {x : Str} {c : Value} {p : Pos} {es : List Expr} {cs : List Value} : Names X x c → ClsL X es cs → ClsL X (.Name x p :: es) (c :: cs)
theorem ClsL.suite {X : Cx} {a : Addr} {pn : List (Addr × Obj)} : ∀ {es : List Expr} {cs : List Value}, ClsL X es cs → ClsL (X.suite a pn) es cs
  | _, _, .nil => .nil
  | _, _, .cons hc r => .cons (X := X.suite a pn) hc r.suite
theorem cls_read {Y : Cx} {pins : List (Addr × Obj)} {σ : St} {H : Hp} {s : Shared} (I : Inv Y pins σ H s) {pos : Pos} {E : Value → Shared → Prop} : ∀ {es : List Expr} {cs : List Value} {Q : List Value → Shared → Prop}, ClsL Y es cs → Q cs s →
    wpAny (model Y.prog Y.w) Y.A (spliced (backTo pos (starEach es Y.env))) Q E s
  | _, _, _, .nil, q => wpAny_items_nil q
  | _, _, Q, .cons (c := c) (es := es) (cs := cs) hc r, q => wpAny_items_cons (by
      have rest : wpAny (model Y.prog Y.w) Y.A (spliced (backTo pos (starEach es Y.env))) (fun vs s2 => Q (c :: vs) s2) E s := cls_read I r q
      obtain ⟨hg, hd, hm | ⟨hm, hv, hn⟩⟩ := hc
      · exact ld_glob I hg hm rest hd
      · exact ld_blt I hg hm hv rest hn hd)
theorem ClsL.len {X : Cx} : ∀ {es : List Expr} {cs : List Value}, ClsL X es cs → cs.length = es.length
  | _, _, .nil => rfl
  | _, _, .cons _ r => by rw [List.length_cons, List.length_cons, r.len]
/-- what is pinned is tracked from now on -/
theorem inv_hold {X : Cx} {pins : List (Addr × Obj)} {σ : St} {H : Hp} {s : Shared} {a : Addr} {oe : Obj} {vs : Array Value} {cls : Value} {d : Option Addr} (I : Inv X ((a, oe) :: pins) σ H s) (hm : ∀ p, p ∈ (a, oe) :: (X.pn ++ pins) → p ∈ X.pn ++ ((a, oe) :: pins)) (z : Zc cls d oe) (hd : oe.data = .fields vs)
    (n0 : X.s_0.heap.get? a = none) (np : ∀ p ∈ X.pn ++ pins, p.1 ≠ a) : Inv X pins σ (upd H a (exh cls d a)) s := by
  obtain ⟨e, n, ne, nf, dc⟩ := I.pin (a, oe) (hm _ (List.mem_cons_self ..))
  have ne : a ≠ X.env.locals := ne
  have n : H a = none := n
  have old : ∀ b o, X.s_0.heap.get? b = some o → b ≠ a := fun b o q z => by
    rw [z, n0] at q
    cases q
  refine ⟨I.ok, I.os, I.bare, ⟨I.base.keep, I.base.slot, fun b o q m hx => ?_, I.base.there, fun b xs q => ?_, fun b o u q => ?_, fun b ps q => ?_⟩, I.loc, I.cell, ?_, fun x c q => ?_, fun p hp => ?_, ?_, I.len⟩
  · rw [upd_ne (old b o q)]
    exact I.base.free b o q m hx
  · have z := I.base.tups b xs q
    rw [upd_ne (ne_of_none z n)]
    exact z
  · have z := I.base.frzs b o u q
    rw [upd_ne (ne_of_none z n)]
    exact z
  · obtain ⟨m, z⟩ := I.base.tbls b ps q
    exact ⟨m, by rw [upd_ne (ne_of_none z n)]; exact z⟩
  · rw [upd_ne ne.symm]
    exact I.free
  · have nc : c ≠ a := fun z => by
      obtain ⟨v, o, q1, q2⟩ := I.cell x c q
      rw [z] at q1
      have e' : s.heap.get? a = some oe := e
      rw [e'] at q1
      cases q1
      rw [hd] at q2
      cases q2
    rw [upd_ne nc]
    exact I.freeC x c q
  · obtain ⟨e1, e2, e3, e4, e5⟩ := I.pin p (hm p (List.mem_cons_of_mem _ hp))
    exact ⟨e1, by rw [upd_ne (np p hp)]; exact e2, e3, e4, e5⟩
  · exact I.hok.laidN (fun _ _ q => q) n (exh_ok e z hd)
/-- what the clause wishes of an exception of the body: it is of one of the classes; behind the suite it stands at a -/
def wKeep (K : PySem.W.Frag) (n : Nat) (cs : List Value) (i : Nat) (ts : Addr → Value → Option Addr → TS) (D : Ends) : WX := fun cls d σ H => σ.length = n → PySem.W.exmAny K cls cs = some true ∧
  ∀ a, H a = none → ts a cls d { nx := fun σ' H' => D.nx (σ'.set i none) (upd H' a (exh cls d a)), rt := fun _ _ => False } (σ.set i (some (.ref a))) H
section
variable {X : Cx} {n : Str} {cs : List Value} {es : List Expr} {kx i : Nat} {body suite : List Stmt} {b0 : Stmt} {tpos pos hpos : Pos} {tb : WX → TS} {ts : Addr → Value → Option Addr → TS}
theorem ps_try_keep (hs : X.stack = X.env :: X.outer) (hf : X.env.frame = some X.env.locals) (hex : X.ex = []) (hN : X.N.Nodup) (hi : X.N[i]? = some n) (hln : X.env.kindOf n = some .local) (hc : ClsL X es cs) (hl : es.length ≤ 1000)
    (hb : ∀ (W : WX) (pn : List (Addr × Obj)) (xe : Value → Shared → Prop), Takes (X.tr pn xe) W → PassesOwn (model X.prog X.w) X.A X.env xe → PSs (X.tr pn xe) body (tb W))
    (hsu : ∀ (a : Addr) (oe : Obj) (cls : Value) (d : Option Addr) (pn : List (Addr × Obj)), Zc cls d oe → (∃ vs, oe.data = .fields vs) → PSs (X.suite a ((a, oe) :: pn)) (b0 :: suite) (ts a cls d)) :
    PS X (.Try body [.ExceptHandler (some (.Tuple es kx tpos)) (some n) (b0 :: suite) hpos] [] [] pos) (fun D σ H => tb (wKeep X.K X.N.length cs i ts D) D σ H) := by
  refine ⟨fun pins s σ H D I h => ?_⟩
  have ok := I.ok
  have hfr : X.A.frames = some (X.env :: X.outer) := by rw [ok.frames, hs]
  have loc : Loc X.env.scope n := .inl hln
  have B0 := hb (wKeep X.K X.N.length cs i ts D) (X.pn ++ pins) (fun e s1 => wpAny (model X.prog X.w) X.A (noteFrame e X.env) (fun _ s2 => wpAny (model X.prog X.w) X.A (setFlight e none) (fun _ s3 =>
    wpAny (model X.prog X.w) X.A (handleBy e X.env [.ExceptHandler (some (.Tuple es kx tpos)) (some n) (b0 :: suite) hpos]) (SP X pins D) X.xe s3) X.xe s2) X.xe s1)
  refine wpAny_Try_except (wpAny_mono ((B0 (fun u s' caught => ?_) PassesOwn.looking).run [] s σ H D (I.toTry _) h) (fun f s1 went => ?_) fun _ _ z => z)
  · obtain ⟨a, B, sI, pins', σ', H', cls, d, rfl, J', nb, up, sky, na, os, ag, hW⟩ := caught
    obtain ⟨hit, hyes⟩ := hW J'.len
    have J : Inv X pins σ' H' sI := J'.ofTry ok
    show wpAny (model X.prog X.w) X.A (noteFrame (.ref a) X.env) _ _ _
    refine Sky.land Zc.steady hfr hf (by rw [← hs]; exact sky) fun h3 fl3 up3 => ?_
    have J3 : Inv X pins σ' H' { s' with heap := h3 } := J.landed nb fl3.1 (up.trans up3) os ag
    obtain ⟨oe3, vs3, he3, hz3, hd3⟩ := fl3.there
    have nfr : a ∉ frs (X.env :: X.outer) := fun hm => by
      obtain ⟨_, o, q, nd⟩ := fl3.2.2.1.mem hm
      rw [he3] at q
      cases q
      exact nd _ hd3
    have nL : a ≠ X.env.locals := fun z => nfr (List.mem_filterMap.mpr ⟨X.env, List.mem_cons_self, by rw [hf, z]⟩)
    have nF : a ∉ X.fs := fun hm => by
      obtain ⟨e, he, q⟩ := List.mem_filterMap.mp hm
      exact nfr (List.mem_filterMap.mpr ⟨e, List.mem_cons_of_mem _ he, q⟩)
    have nI : sI.heap.get? a = none := by
      cases q : sI.heap.get? a with
      | none => rfl
      | some o =>
        have z := nb a o q (by rw [hs]; exact nfr)
        rw [fl3.2.1] at z
        cases z
    have n0 : X.s_0.heap.get? a = none := by
      cases q : X.s_0.heap.get? a with
      | none => rfl
      | some o =>
        obtain ⟨o', z⟩ := J.base.there a o q (by rw [hex]; exact fun z => nomatch z)
        rw [nI] at z
        cases z
    have np : ∀ p ∈ X.pn ++ pins, p.1 ≠ a := fun p hp z => by
      have q := (J.pin p hp).1
      rw [z, nI] at q
      cases q
    have S3 := J3.suite he3 hd3 na nL nF
    refine wpAny_handleBy_cons (codeAny_handlers_test ?_) (by intro q; cases q)
    refine wpAny_Tuple (cls_read S3 hc.suite ⟨by rw [hc.len, sizeLine_eq]; omega, ?_⟩)
    have k5 : ∀ b o, h3.get? b = some o → (h3.push { cls := .type "tuple", data := .seq cs.toArray }).get? b = some o := fun _ _ z => Heap.get?_push_of_some _ z
    have LT : PySem.W.Looks (model X.prog X.w) (h3.push { cls := .type "tuple", data := .seq cs.toArray }) (typeOf (.ref a)) cls := fun A Q E s k q => wpAny_typeOf_ref (k _ _ (k5 _ _ he3)) (by rw [hz3.1]; exact q)
    refine (match_list (M := model X.prog X.w) (J3.kIn.keeps k5) LT (Heap.get?_push_size h3 rfl) hit).here ?_
    refine codeAny_handlers_suite_as ?_
    refine HandSPX.lands_againZ (flies_keeps fl3 k5) fun h4 fl4 up4 => ?_
    have J4 : Inv X pins σ' H' { s' with heap := h4 } := J.landed nb fl4.1 (((up.trans up3).trans (Heap.UpToSlots.of_keeps k5)).trans up4) os ag
    obtain ⟨oe4, vs4, he4, hz4, hd4⟩ := fl4.there
    have S4 := J4.suite he4 hd4 na nL nF
    refine store_ok (X := X.suite a ((a, oe4) :: (X.pn ++ pins))) (v := .ref a) S4 hN hi loc rfl (fun s5 S5 => ?_) (.inr hln)
    refine wpAny_mono ((hsu a oe4 cls d (X.pn ++ pins) hz4 ⟨_, hd4⟩).run [] s5 _ H' _ S5 (hyes a na)) (fun f s6 hsp => ?_) (fun _ _ z => False.elim z)
    cases f with
    | next =>
      obtain ⟨σ6, H6, S6, q6⟩ := hsp
      have K6 : Inv X ((a, oe4) :: pins) σ6 H6 s6 := ⟨ok, S6.os, S6.bare, S6.base, S6.loc, S6.cell, S6.free, S6.freeC, fun p hp => S6.pin p (by
        show p ∈ ((a, oe4) :: (X.pn ++ pins)) ++ []
        rw [List.append_nil]
        rcases List.mem_append.mp hp with z | z
        · exact List.mem_cons_of_mem _ (List.mem_append_left _ z)
        · rcases List.mem_cons.mp z with z | z
          · rw [z]
            exact List.mem_cons_self ..
          · exact List.mem_cons_of_mem _ (List.mem_append_right _ z)), S6.hok, S6.len⟩
      refine gone_ok K6 hN hi hln fun s7 J7 => ⟨_, _, inv_hold J7 (fun p hp => ?_) hz4 hd4 n0 np, q6⟩
      rcases List.mem_cons.mp hp with z | z
      · rw [z]
        exact List.mem_append_right _ (List.mem_cons_self ..)
      · rcases List.mem_append.mp z with z | z
        · exact List.mem_append_left _ z
        · exact List.mem_append_right _ (List.mem_cons_of_mem _ z)
    | brk =>
      obtain ⟨_, _, _, z⟩ := hsp
      exact False.elim z
    | cont =>
      obtain ⟨_, _, _, z⟩ := hsp
      exact False.elim z
    | ret u =>
      obtain ⟨_, _, _, _, _, z⟩ := hsp
      exact False.elim z
  · cases f with
    | next =>
      obtain ⟨σ', H', J', q⟩ := went
      exact wpAny_execs_nil ⟨σ', H', J'.ofTry ok, q⟩
    | brk =>
      obtain ⟨σ', H', J', q⟩ := went
      exact ⟨σ', H', J'.ofTry ok, q⟩
    | cont =>
      obtain ⟨σ', H', J', q⟩ := went
      exact ⟨σ', H', J'.ofTry ok, q⟩
    | ret u =>
      obtain ⟨v, σ', H', J', r, q⟩ := went
      exact ⟨v, σ', H', J'.ofTry ok, r, q⟩
end
/-! ### raise C(..), C with its own __init__ -/
theorem pmk_own2 {X : Cx} {e : Expr} {te : TE} (hx : X.ex = []) (he : PE X e te) :
    PMk X e (fun σ H Q => te σ H fun x H1 => ∃ (a C : Addr) (od : Option Addr), x = .ref a ∧ H1 a = some (exo a C od) ∧ Fr0 X.H_0 a ∧ Raises X (.ref C) ∧ Q (.ref C) od (delH H1 a)) := by
  intro pins s σ H Q I h
  refine wpAny_mono (he.run pins s σ H _ I h) (fun u s1 hu => ?_) fun _ _ x => x
  obtain ⟨v, H1, I1, r1, a, C, od, rfl, ha, h0, hr, q⟩ := hu
  cases r1
  obtain ⟨t1, ho⟩ := exo_at I1.hok ha
  obtain ⟨G, gs, ga, J⟩ := I1.untrack ha h0 hx
  exact ⟨a, _, _, { s1 with heap := G }, delH H1 a, .ref C, od, rfl, J, gs, ga, ho, ⟨rfl, rfl⟩, rfl, rfl, delH_same, rfl, I1.bare, hr, q⟩
/-! ### isinstance of a caught one -/
def rIsC (K : PySem.W.Frag) : List V → Hp → VK → Prop := fun xs H Q => ∃ (a C : Addr) (B newId initId : String) (bm : List Value) (c : V) (u : Value) (b : Bool),
  xs = [.ref a, c] ∧ ClsV c u ∧ OxC K C B newId initId bm ∧ H a = some (exh (.ref C) none a) ∧ PySem.W.kitOne K (.ref C) u = some b ∧ Q (.bl b) H
theorem call_isC {X : Cx} : CallR X (.builtin "isinstance") (rIsC X.K) := by
  intro pins s σ H xs us Q I r h
  obtain ⟨a, C, B, newId, initId, bm, c, u, b, rfl, k, T, ea, e, q⟩ := h
  obtain ⟨u1, u2, rfl, r1, r2⟩ := vals2 r
  have e2 := k.eq r2
  subst e2
  obtain rfl : u1 = Value.ref a := r1
  obtain ⟨oe, vs, ho, hz, hd⟩ := exh_at I.hok ea
  obtain ⟨cd, hcl, _⟩ := T.data
  have some_ : (PySem.W.clsIn X.K C).isSome = true := by rw [hcl]; rfl
  have J : PySem.W.InstAt s.heap a oe C none := ⟨ho, hz.1, by unfold PySem.W.notCls; rw [hd], by rw [hz.2]; exact trivial⟩
  exact PySem.W.kia_one (PySem.W.kitx_exc some_ T.ga T.gg T.exC T.ca T.cn T.ct T.om) I.kIn J e (fun z => nomatch z) fun tk => ⟨.bl b, H, I.tok tk, rfl, q⟩
end EV
end L2

set_option Elab.async false
set_option linter.all false
set_option maxRecDepth 100000
set_option maxHeartbeats 4000000
/-! Data of any form; is_number and is_entry of it. -/
namespace K41
open PySem L2 L2.EV
mutual
/-- v stands for d, all of its lists and tuples tracked -/
inductive Da (H : Hp) : V → PyData → Prop
  | non : Da H .non .none
  | bl (b : Bool) : Da H (.bl b) (.bool b)
  | int (i : Int) : Da H (.int i) (.int i)
  | str (x : Str) : Da H (.str x) (.str x)
  | lst {a : Addr} {xs : List V} {ds : List PyData} : H a = some (.lst xs) → DaAll H xs ds → Da H (.ref a) (.list ds)
  | tup {a : Addr} {xs : List V} {ds : List PyData} : H a = some (.tup xs) → DaAll H xs ds → Da H (.ref a) (.tuple ds)
inductive DaAll (H : Hp) : List V → List PyData → Prop
  | nil : DaAll H [] []
  | cons {v : V} {vs : List V} {d : PyData} {ds : List PyData} : Da H v d → DaAll H vs ds → DaAll H (v :: vs) (d :: ds)
end
mutual
theorem Da.same {H H' : Hp} (s : Same H H') : ∀ (d : PyData) (v : V), Da H v d → Da H' v d
  | .none, _, h => by cases h; exact .non
  | .bool b, _, h => by cases h; exact .bl b
  | .int i, _, h => by cases h; exact .int i
  | .str x, _, h => by cases h; exact .str x
  | .list ds, _, h => by
    cases h with
    | lst e ha => exact .lst (s _ _ e) (DaAll.same s ds _ ha)
  | .tuple ds, _, h => by
    cases h with
    | tup e ha => exact .tup (s _ _ e) (DaAll.same s ds _ ha)
  | .dict _, _, h => by cases h
theorem DaAll.same {H H' : Hp} (s : Same H H') : ∀ (ds : List PyData) (vs : List V), DaAll H vs ds → DaAll H' vs ds
  | [], _, h => by cases h; exact .nil
  | d :: ds, _, h => by
    cases h with
    | cons h1 h2 => exact .cons (Da.same s d _ h1) (DaAll.same s ds _ h2)
end
mutual
theorem Da.dp {K : PySem.W.Frag} {H : Hp} : ∀ (d : PyData) (v : V), Da H v d → Dp K H v d
  | .none, _, h => by cases h; exact .non
  | .bool b, _, h => by cases h; exact .bl b
  | .int i, _, h => by cases h; exact .int i
  | .str x, _, h => by cases h; exact .str x
  | .list ds, _, h => by
    cases h with
    | lst e ha => exact .lst (SqL.of e) (DaAll.dp ds _ ha)
  | .tuple ds, _, h => by
    cases h with
    | tup e ha => exact .tup (SqT.of e) (DaAll.dp ds _ ha)
  | .dict _, _, h => by cases h
theorem DaAll.dp {K : PySem.W.Frag} {H : Hp} : ∀ (ds : List PyData) (vs : List V), DaAll H vs ds → DpAll K H vs ds
  | [], _, h => by cases h; exact .nil
  | d :: ds, _, h => by
    cases h with
    | cons h1 h2 => exact .cons (Da.dp d _ h1) (DaAll.dp ds _ h2)
end
theorem DaAll.len {H : Hp} : ∀ {vs : List V} {ds : List PyData}, DaAll H vs ds → vs.length = ds.length
  | _, _, .nil => rfl
  | _, _, .cons _ t => by rw [List.length_cons, List.length_cons, t.len]
theorem DaAll.at_ {H : Hp} : ∀ {vs : List V} {ds : List PyData} {i : Nat} {v : V}, DaAll H vs ds → vs[i]? = some v → ∃ d, ds[i]? = some d ∧ Da H v d
  | _, _, 0, _, .cons h _, e => by
    cases e
    exact ⟨_, rfl, h⟩
  | _, _, i + 1, _, .cons _ t, e => t.at_ (i := i) (by simpa using e)
  | _, _, _, _, .nil, e => by simp at e
theorem DaAll.at' {H : Hp} : ∀ {vs : List V} {ds : List PyData} {i : Nat} {d : PyData}, DaAll H vs ds → ds[i]? = some d → ∃ v, vs[i]? = some v ∧ Da H v d
  | _, _, 0, _, .cons h _, e => by
    cases e
    exact ⟨_, rfl, h⟩
  | _, _, i + 1, _, .cons _ t, e => t.at' (i := i) (by simpa using e)
  | _, _, _, _, .nil, e => by simp at e
theorem DaAll.app {H : Hp} : ∀ {vs ws : List V} {ds es : List PyData}, DaAll H vs ds → DaAll H ws es → DaAll H (vs ++ ws) (ds ++ es)
  | _, _, _, _, .nil, q => q
  | _, _, _, _, .cons h t, q => .cons h (t.app q)
theorem DaAll.drop {H : Hp} : ∀ {vs : List V} {ds : List PyData} (n : Nat), DaAll H vs ds → DaAll H (vs.drop n) (ds.drop n)
  | _, _, 0, h => h
  | _, _, n + 1, .nil => .nil
  | _, _, n + 1, .cons _ t => t.drop n
theorem DaAll.take {H : Hp} : ∀ {vs : List V} {ds : List PyData} (n : Nat), DaAll H vs ds → DaAll H (vs.take n) (ds.take n)
  | _, _, 0, h => .nil
  | _, _, n + 1, .nil => .nil
  | _, _, n + 1, .cons h t => .cons h (t.take n)
theorem DaAll.rev {H : Hp} : ∀ {vs : List V} {ds : List PyData}, DaAll H vs ds → DaAll H vs.reverse ds.reverse
  | _, _, .nil => .nil
  | _, _, .cons h t => by
    rw [List.reverse_cons, List.reverse_cons]
    exact t.rev.app (.cons h .nil)
/-! ### of which type -/
def isTup : PyData → Bool
  | .tuple _ => true
  | _ => false
def isInt : PyData → Bool
  | .int _ => true
  | .bool _ => true
  | _ => false
def isBl : PyData → Bool
  | .bool _ => true
  | _ => false
theorem Da.ty {K : PySem.W.Frag} {H : Hp} {v : V} {d : PyData} (h : Da H v d) : ∃ t : Value, TyX K H v t ∧ PySem.W.kitOne K t (.type "tuple") = some (isTup d) ∧ PySem.W.kitOne K t (.type "int") = some (isInt d) ∧ PySem.W.kitOne K t (.type "bool") = some (isBl d) := by
  cases h with
  | non => exact ⟨_, .base .non, kit_ty (r := false) (by decide +kernel), kit_ty (r := false) (by decide +kernel), kit_ty (r := false) (by decide +kernel)⟩
  | bl b => exact ⟨_, .base (.bl b), kit_ty (r := false) (by decide +kernel), kit_ty (r := true) (by decide +kernel), kit_ty (r := true) (by decide +kernel)⟩
  | int i => exact ⟨_, .base (.int i), kit_ty (r := false) (by decide +kernel), kit_ty (r := true) (by decide +kernel), kit_ty (r := false) (by decide +kernel)⟩
  | str x => exact ⟨_, .base (.str x), kit_ty (r := false) (by decide +kernel), kit_ty (r := false) (by decide +kernel), kit_ty (r := false) (by decide +kernel)⟩
  | lst e _ => exact ⟨_, .base (.lst e), kit_ty (r := false) (by decide +kernel), kit_ty (r := false) (by decide +kernel), kit_ty (r := false) (by decide +kernel)⟩
  | tup e _ => exact ⟨_, .base (.tup e), kit_ty (r := true) (by decide +kernel), kit_ty (r := false) (by decide +kernel), kit_ty (r := false) (by decide +kernel)⟩
/-! ### numbers, entries -/
def numD (m : Int) : PyData → Option Int
  | .int i => if 0 ≤ i ∧ i < m then some i else none
  | _ => none
def entD (n m : Int) : PyData → Option E2
  | .tuple [a, b] => match numD m a, numD n b with
    | some x, some y => some (x, y)
    | _, _ => none
  | _ => none
theorem numD_some {m i : Int} {d : PyData} (h : numD m d = some i) : d = .int i ∧ 0 ≤ i ∧ i < m := by
  cases d with
  | int j =>
    have h : (if 0 ≤ j ∧ j < m then some j else none) = some i := h
    by_cases c : 0 ≤ j ∧ j < m
    · rw [if_pos c] at h
      cases h
      exact ⟨rfl, c⟩
    · rw [if_neg c] at h
      cases h
  | _ => cases h
theorem entD_some {n m : Int} {d : PyData} {e : E2} (h : entD n m d = some e) : d = .tuple [.int e.1, .int e.2] ∧ 0 ≤ e.1 ∧ e.1 < m ∧ 0 ≤ e.2 ∧ e.2 < n := by
  match d, h with
  | .tuple [a, b], h =>
    have h : (match numD m a, numD n b with
      | some x, some y => some (x, y)
      | _, _ => none) = some e := h
    cases ha : numD m a with
    | none =>
      rw [ha] at h
      cases h
    | some x =>
      cases hb : numD n b with
      | none =>
        rw [ha, hb] at h
        cases h
      | some y =>
        rw [ha, hb] at h
        cases h
        obtain ⟨rfl, a1, a2⟩ := numD_some ha
        obtain ⟨rfl, b1, b2⟩ := numD_some hb
        exact ⟨rfl, a1, a2, b1, b2⟩
def spNumD : Sp := fun vs H Q _ => ∃ (v : V) (d : PyData) (m : Int), vs = [v, .int m] ∧ Da H v d ∧ Q (.bl (numD m d).isSome) H
def spEntryD : Sp := fun vs H Q _ => ∃ (f : Addr) (v : V) (d : PyData) (fr : List T3) (m : Int), vs = [.ref f, v, .int m] ∧ FrA H f fr ∧ Da H v d ∧ Q (.bl (entD fr.length m d).isSome) H
section
variable {P : Program} {w : World} {K : PySem.W.Frag} {mg : Str → Option Value} {base : Heap}
theorem ok_numD {f : Addr} {fd : FuncData} (F : Fun K "is_number" "is_number" sNum f fd) (T : TxtF mg) : FnOk P w K mg base CX0 1 f fd ["thing", "many"] spNumD := by
  refine F.ok scNum (fun vs H Q E h => ?_) (fun cdv A outer s H vs Q E hr h => ?_)
  · obtain ⟨v, d, m, rfl, _⟩ := h
    rfl
  · obtain ⟨v, d, m, rfl, da, q⟩ := h
    refine ⟨_, pss_one (ps_ret (pe_and (pe_callB call_isi (by rfl) T.isi PyProof.Rows.boot_isinstance (pa_cons (pv 0) (pa_cons (pe_bltn (v := .ty "int") (by rfl) T.int (by decide +kernel) rfl) pa_nil)))
      (pe_and (pe_not (pe_callB call_isi (by rfl) T.isi PyProof.Rows.boot_isinstance (pa_cons (pv 0) (pa_cons (pe_bltn (v := .ty "bool") (by rfl) T.bool (by decide +kernel) rfl) pa_nil))))
        (pe_one (pe_chain op_le op_lt pe_int (pv 0) (pv 1)))))), ?_⟩
    obtain ⟨t, ty, _, ki, kb⟩ := da.ty (K := K)
    refine ⟨_, rfl, v, .ty "int", t, .type "int", isInt d, rfl, .ty "int", ty, ki, isInt d, rfl, ?_⟩
    cases da with
    | int n =>
      refine iteT ?_
      refine ⟨_, rfl, .int n, .ty "bool", t, .type "bool", false, rfl, .ty "bool", ty, kb, false, rfl, true, rfl, iteT ?_⟩
      refine ⟨_, rfl, 0, n, rfl, rfl, _, rfl, ?_⟩
      have q : Q (.bl (if 0 ≤ n ∧ n < m then some n else none).isSome) H := q
      refine ite2 (fun z => ?_) (fun z => ?_)
      · have z1 : 0 ≤ n := of_decide_eq_true z
        refine ⟨_, rfl, n, m, rfl, rfl, ?_⟩
        by_cases c : n < m
        · rw [if_pos ⟨z1, c⟩] at q
          show Q (.bl (decide (n < m))) H
          rw [decide_eq_true c]
          exact q
        · rw [if_neg (fun k => c k.2)] at q
          show Q (.bl (decide (n < m))) H
          rw [decide_eq_false c]
          exact q
      · have z1 : ¬ 0 ≤ n := fun k => z (decide_eq_true k)
        rw [if_neg (fun k => z1 k.1)] at q
        exact q
    | bl b =>
      refine iteT ?_
      exact ⟨_, rfl, .bl b, .ty "bool", t, .type "bool", true, rfl, .ty "bool", ty, kb, true, rfl, false, rfl, iteF q⟩
    | non => exact iteF q
    | str x => exact iteF q
    | lst e h => exact iteF q
    | tup e h => exact iteF q
theorem ok_entryD (Y : Ws K mg) : FnOk P w K mg base CX0 2 Y.fE Y.dE ["framing", "thing", "many"] spEntryD := by
  have GN : FnOk P w K mg base CX0 1 Y.Z.fN Y.Z.dN ["thing", "many"] spNumD := ok_numD Y.Z.N Y.Z.T
  refine Y.E.ok scEntry (fun vs H Q E h => ?_) (fun cdv A outer s H vs Q E hr h => ?_)
  · obtain ⟨f, v, d, fr, m, rfl, _⟩ := h
    rfl
  · obtain ⟨f, v, d, fr, m, rfl, fa, da, q⟩ := h
    refine ⟨_, pss_cons (ps_if (pw_or (pt_not (pt_val (pe_callB call_isi (by rfl) Y.Z.T.isi PyProof.Rows.boot_isinstance (pa_cons (pv 1) (pa_cons (pe_bltn (v := .ty "tuple") (by rfl) Y.Z.T.tuple (by decide +kernel) rfl) pa_nil)))))
        (pw_or1 (pt_cmpR op_ne (pe_callB call_len_seq (by rfl) Y.Z.T.len PySem.boot_len (pa_cons (pv 1) pa_nil)) pe_int (nomark _)))).pt
        (pss_one (ps_ret pe_bl)) pss_nil)
      (pss_one (ps_ret (pe_and (pe_call GN hr (by rfl) Y.Z.mN Y.Z.N.kp Y.Z.bN .nil pass0 (pa_cons (pe_ix ix_tup (pv 1) pe_int (fun _ _ => rfl)) (pa_cons (pv 2) pa_nil)))
        (pe_one (pe_call GN hr (by rfl) Y.Z.mN Y.Z.N.kp Y.Z.bN .nil pass0 (pa_cons (pe_ix ix_tup (pv 1) pe_int (fun _ _ => rfl)) (pa_cons (pe_callB call_len_seq (by rfl) Y.Z.T.len PySem.boot_len (pa_cons (pv 0) pa_nil)) pa_nil))))))), ?_⟩
    obtain ⟨ts, hf, hl, ht⟩ := id fa
    obtain ⟨t, ty, kt, _, _⟩ := da.ty (K := K)
    refine ⟨_, rfl, v, .ty "tuple", t, .type "tuple", isTup d, rfl, .ty "tuple", ty, kt, isTup d, rfl, ?_⟩
    cases da with
    | @tup a xs ds e all =>
      refine iteF ?_
      refine ⟨_, rfl, a, _, rfl, .inr (SqT.of e), rfl, _, rfl, ?_⟩
      have ln := all.len
      by_cases h2 : xs.length = 2
      · refine iteF' (by simp [h2]) ?_
        match xs, ds, all, h2 with
        | [x, y], [dx, dy], .cons h1 (.cons h3 .nil), _ =>
          refine ⟨_, rfl, a, _, 0, x, rfl, rfl, SqT.of e, atI_nat (j := 0) rfl, _, rfl, x, dx, m, rfl, h1, _, rfl, ?_⟩
          have q : Q (.bl (match numD m dx, numD fr.length dy with
            | some x, some y => some (x, y)
            | _, _ => none).isSome) H := q
          cases ea : numD m dx with
          | none =>
            rw [ea] at q
            exact iteF q
          | some i =>
            refine iteT ?_
            refine ⟨_, rfl, a, _, 1, y, rfl, rfl, SqT.of e, atI_nat (j := 1) rfl, _, rfl, f, _, rfl, .inr (SqT.of hf), y, dy, _, rfl, h3, ?_⟩
            rw [List.length_map, hl]
            cases eb : numD fr.length dy with
            | none =>
              rw [ea, eb] at q
              exact q
            | some j =>
              rw [ea, eb] at q
              exact q
      · refine iteT' (by simp; omega) ?_
        have z : entD fr.length m (.tuple ds) = none := by
          match ds, ln with
          | [], _ => rfl
          | [_], _ => rfl
          | [_, _], l => exact absurd l h2
          | _ :: _ :: _ :: _, _ => rfl
        rw [z] at q
        exact q
    | bl b => exact iteT q
    | non => exact iteT q
    | int i => exact iteT q
    | str x => exact iteT q
    | lst e h => exact iteT q
end
end K41

set_option Elab.async false
set_option linter.all false
set_option maxRecDepth 100000
set_option maxHeartbeats 4000000
/-! first_wrong of any things, the writers standing anywhere at first. -/
namespace K41
open PySem L2 L2.EV
def d2 (e : E2) : PyData := .tuple [.int e.1, .int e.2]
def ov : Option Int → V
  | none => .non
  | some i => .int i
/-- the number of the first thing that can't stand there -/
def wrongF (fr : List T3) : List PyData → List (Option Int) → Nat → Option Nat
  | [], _, _ => none
  | d :: ds, pl, i => match entD fr.length 8 d with
    | none => some i
    | some e => match pl.getD e.1.toNat none with
      | none => wrongF fr ds (pl.set e.1.toNat (some (stt fr e.2).2.2)) (i + 1)
      | some x => if x = (stt fr e.2).1 then wrongF fr ds (pl.set e.1.toNat (some (stt fr e.2).2.2)) (i + 1) else some i
def wv : Option Nat → V
  | none => .non
  | some i => .int (i : Int)
abbrev none8 : List (Option Int) := List.replicate 8 none
abbrev all8 (bg : Option Int) : List (Option Int) := List.replicate 8 bg
def spWrongL : Sp := fun vs H Q _ => ∃ (f w : Addr) (fr : List T3) (ds : List PyData) (bg : Option Int), vs = [.ref f, .ref w, ov bg] ∧ FrA H f fr ∧ Da H (.ref w) (.list ds) ∧ ∀ H', Same H H' → Q (wv (wrongF fr ds (all8 bg) 0)) H'
theorem ov_at {pl : List (Option Int)} {i : Int} (h0 : 0 ≤ i) (h1 : i < 8) (hl : pl.length = 8) : atI (pl.map ov) i = some (ov (pl.getD i.toNat none)) := by
  obtain ⟨k, rfl⟩ := Int.eq_ofNat_of_zero_le h0
  have hk : k < pl.length := by omega
  refine atI_nat ?_
  rw [List.getElem?_map, List.getElem?_eq_getElem hk, List.getD_eq_getElem?_getD, Int.toNat_natCast, List.getElem?_eq_getElem hk]
  rfl
theorem drop_at {α : Type} {l : List α} {i : Nat} {x : α} (h : l[i]? = some x) : l.drop i = x :: l.drop (i + 1) := by
  obtain ⟨hi, e⟩ := List.getElem?_eq_some_iff.mp h
  rw [List.drop_eq_getElem_cons hi, e]
section
variable {P : Program} {w : World} {K : PySem.W.Frag} {mg : Str → Option Value} {base : Heap}
theorem ok_wrongL (Y : Ws K mg) : FnOk P w K mg base CX0 3 Y.fR Y.dR ["framing", "things", "begin"] spWrongL := by
  have GE : FnOk P w K mg base CX0 2 Y.fE Y.dE ["framing", "thing", "many"] spEntryD := ok_entryD Y
  refine Y.R.ok scWrong (fun vs H Q E h => ?_) (fun cdv A outer s H vs Q E hr h => ?_)
  · obtain ⟨f, w, fr, ds, bg, rfl, _⟩ := h
    rfl
  · obtain ⟨f, w, fr, ds, bg, rfl, fa, da, q⟩ := h
    obtain ⟨tm, eM⟩ := Y.marks
    refine ⟨_, pss_cons (ps_setLc (i := 4) (y := "places") (own := [("mark", 3)]) (g := gName 3) (te := tVar 2) rfl scWrong.nd rfl rfl (by rfl) (pi_str (pe_glob (v := .str "ABCDEFGH") (by rfl) eM ⟨_, rfl⟩))
        (blkOk_by (N := ["framing", "things", "begin", "mark", "places", "number", "thing", "writer", "step", "start", "piece", "goal"]) (sc := defScope sWrong) (by decide +kernel))
        (fun _ _ _ _ _ => pg_name (i := 3) scWrong.nd rfl (Or.inl rfl)) (fun _ _ _ _ _ => pts_nil) (fun _ _ _ _ _ => pv 2))
      (pss_cons (ps_for PassesOwn.never rfl (pi_enum (by rfl) Y.Z.en (pa_cons (pv 1) pa_nil)) (pg_tup rfl (pgs_cons (pg_name (i := 5) scWrong.nd rfl (Or.inl rfl)) (pgs_cons (pg_name (i := 6) scWrong.nd rfl (Or.inl rfl)) pgs_nil)))
        (pss_cons (ps_if (pt_not (pt_val (pe_call GE hr (by rfl) Y.mE Y.E.kp Y.bE .nil pass0 (pa_cons (pv 0) (pa_cons (pv 6) (pa_cons (pe_callB call_len_str (by rfl) Y.Z.T.len PySem.boot_len (pa_cons (pe_glob (v := .str "ABCDEFGH") (by rfl) eM ⟨_, rfl⟩) pa_nil)) pa_nil)))))) (pss_one (ps_ret (pv 5))) pss_nil)
        (pss_cons (ps_asg (pv 6) (pg_tup rfl (pgs_cons (pg_name (i := 7) scWrong.nd rfl (Or.inl rfl)) (pgs_cons (pg_name (i := 8) scWrong.nd rfl (Or.inl rfl)) pgs_nil))))
        (pss_cons (ps_asg (pe_ix ix_tup (pv 0) (pv 8) (fun _ _ => rfl)) (pg_tup rfl (pgs_cons (pg_name (i := 9) scWrong.nd rfl (Or.inl rfl)) (pgs_cons (pg_name (i := 10) scWrong.nd rfl (Or.inl rfl)) (pgs_cons (pg_name (i := 11) scWrong.nd rfl (Or.inl rfl)) pgs_nil)))))
        (pss_cons (ps_if (pw_and (pt_cmpR op_notN (pe_ix ix_list (pv 4) (pv 7) (fun _ _ => rfl)) pe_non (nomark _)) (pw_and1 (pt_cmpR op_ne (pe_ix ix_list (pv 4) (pv 7) (fun _ _ => rfl)) (pv 9) (nomark _)))).pt (pss_one (ps_ret (pv 5))) pss_nil)
        (pss_one (ps_asg (pv 11) (pg_sub (pv 4) (pv 7) set_list))))))))
      (pss_one (ps_ret pe_non))), ?_⟩
    obtain ⟨tw, hw, wall⟩ : ∃ tw : List V, H w = some (.lst tw) ∧ DaAll H tw ds := by
      cases da with
      | lst e h => exact ⟨_, e, h⟩
    refine ⟨_, rfl, fun D hD => ?_⟩
    refine lc_it walk_str (fun i H' => H' D = some (.lst ((List.replicate i bg).map ov)) ∧ ∀ b o, H b = some o → H' b = some o) ⟨upd_same, fun b o z => same_upd hD b o z⟩ (fun _ _ _ _ => trivial) ?_ ?_
    · rintro i x H1 H2 hi ⟨hl, kp⟩ ⟨rfl, c, hc, rfl⟩
      refine ⟨rfl, ⟨_, rfl, _, hl, ?_, ?_, fun b o z => ?_⟩⟩
      · have h8 : i < 8 := hi
        rw [List.length_map, List.length_replicate, sizeLine_eq]
        omega
      · rw [List.replicate_succ', List.map_append]
        exact upd_same
      · rw [upd_ne (ne_of_none z hD)]
        exact kp b o z
    · rintro H1 ⟨hl, kp⟩
      refine ⟨_, rfl, w, _, rfl, SqL.of (kp _ _ hw), for_it (walk_enum (xs := tw)) (fun i σ H' => ∃ (v5 v6 v7 v8 v9 v10 v11 : Option V) (pl : List (Option Int)), σ = [some (.ref f), some (.ref w), some (ov bg), none, some (.ref D), v5, v6, v7, v8, v9, v10, v11] ∧ Same H H' ∧ H' D = some (.lst (pl.map ov)) ∧ pl.length = 8 ∧
          wrongF fr ds (all8 bg) 0 = wrongF fr (ds.drop i) pl i)
        ⟨none, none, none, none, none, none, none, (all8 bg), rfl, kp, hl, rfl, rfl⟩ (fun i σ H' _ ⟨_, _, _, _, _, _, _, _, _, z, _⟩ => SqL.of (z _ _ hw)) ?_ ?_⟩
      · rintro i x σ H2 H3 hi ⟨v5, v6, v7, v8, v9, v10, v11, pl, rfl, s2, d2, l8, inv⟩ ⟨T, xi, xo, rfl, nT, rfl, h1, h2⟩
        cases h1
        obtain ⟨d, hd, dv⟩ := wall.at_ h2
        rw [drop_at hd] at inv
        have uT := same_upd (o := HO.tup [V.int (i : Nat), xo]) nT
        have s3 := s2.trans uT
        have d3 := uT _ _ d2
        refine ⟨T, _, rfl, SqT.of upd_same, rfl, _, _, rfl, _, _, rfl, rfl, ?_⟩
        have dv3 := Da.same s3 _ _ dv
        refine ⟨_, rfl, _, rfl, _, rfl, (by decide +kernel), f, xo, d, fr, 8, rfl, fa.same s3, dv3, _, rfl, ?_⟩
        cases ed : entD fr.length 8 d with
        | none =>
          refine iteT ⟨_, rfl, ?_⟩
          have inv : wrongF fr ds (all8 bg) 0 = (match entD fr.length 8 d with
            | none => some i
            | some e => match pl.getD e.1.toNat none with
              | none => wrongF fr (ds.drop (i + 1)) (pl.set e.1.toNat (some (stt fr e.2).2.2)) (i + 1)
              | some x => if x = (stt fr e.2).1 then wrongF fr (ds.drop (i + 1)) (pl.set e.1.toNat (some (stt fr e.2).2.2)) (i + 1) else some i) := inv
          rw [ed] at inv
          have z := q _ s3
          rw [inv] at z
          exact z
        | some e =>
          have inv : wrongF fr ds (all8 bg) 0 = (match entD fr.length 8 d with
            | none => some i
            | some e => match pl.getD e.1.toNat none with
              | none => wrongF fr (ds.drop (i + 1)) (pl.set e.1.toNat (some (stt fr e.2).2.2)) (i + 1)
              | some x => if x = (stt fr e.2).1 then wrongF fr (ds.drop (i + 1)) (pl.set e.1.toNat (some (stt fr e.2).2.2)) (i + 1) else some i) := inv
          rw [ed] at inv
          have inw : wrongF fr ds (all8 bg) 0 = (match pl.getD e.1.toNat none with
              | none => wrongF fr (ds.drop (i + 1)) (pl.set e.1.toNat (some (stt fr e.2).2.2)) (i + 1)
              | some x => if x = (stt fr e.2).1 then wrongF fr (ds.drop (i + 1)) (pl.set e.1.toNat (some (stt fr e.2).2.2)) (i + 1) else some i) := inv
          clear inv
          obtain ⟨rfl, e0, e1, n0, n1⟩ := entD_some ed
          refine iteF ?_
          obtain ⟨a, ea⟩ : ∃ a, xo = .ref a ∧ upd H2 T (.tup [V.int (i : Nat), xo]) a = some (.tup [.int e.1, .int e.2]) := by
            cases dv3 with
            | tup e h =>
              match h with
              | .cons (.int _) (.cons (.int _) .nil) => exact ⟨_, rfl, e⟩
          obtain ⟨rfl, e4⟩ := ea
          obtain ⟨ts, t2, hf, ha, h3, _⟩ := stt_at (fa.same s3) n0 n1
          have pw := ov_at (pl := pl) e0 e1 l8
          refine ⟨_, rfl, a, _, rfl, SqT.of e4, rfl, _, _, rfl, _, _, rfl, rfl, ?_⟩
          refine ⟨_, rfl, _, rfl, f, _, e.2, .ref t2, rfl, rfl, SqT.of hf, ha, t2, _, rfl, SqT.of h3, rfl, _, _, rfl, _, _, rfl, _, _, rfl, rfl, ?_⟩
          refine ⟨_, rfl, _, rfl, D, _, e.1, _, rfl, rfl, SqL.of d3, pw, rfl, _, rfl, ?_⟩
          -- the store behind
          have store : ∀ v5 v6 v7 v8 v9 v10 : Option V, wrongF fr ds (all8 bg) 0 = wrongF fr (ds.drop (i + 1)) (pl.set e.1.toNat (some (stt fr e.2).2.2)) (i + 1) →
              ∃ (v5' v6' v7' v8' v9' v10' v11' : Option V) (pl' : List (Option Int)), [some (V.ref f), some (.ref w), some (ov bg), none, some (.ref D), v5, v6, v7, v8, v9, v10, some (V.int (stt fr e.2).2.2)] = [some (.ref f), some (.ref w), some (ov bg), none, some (.ref D), v5', v6', v7', v8', v9', v10', v11'] ∧
                Same H (upd (upd H2 T (.tup [V.int (i : Nat), .ref a])) D (.lst ((pl.map ov).set e.1.toNat (.int (stt fr e.2).2.2)))) ∧ upd (upd H2 T (.tup [V.int (i : Nat), .ref a])) D (.lst ((pl.map ov).set e.1.toNat (.int (stt fr e.2).2.2))) D = some (.lst (pl'.map ov)) ∧ pl'.length = 8 ∧
                wrongF fr ds (all8 bg) 0 = wrongF fr (ds.drop (i + 1)) pl' (i + 1) := fun _ _ _ _ _ _ hw => ⟨_, _, _, _, _, _, _, pl.set e.1.toNat (some (stt fr e.2).2.2), rfl, same_set hD s3, by rw [List.map_set]; exact upd_same, by rw [List.length_set]; exact l8, hw⟩
          have ix : ixN (pl.map ov).length e.1 = some e.1.toNat := by
            rw [List.length_map, l8]
            unfold ixN
            rw [if_pos e0, if_pos (by omega)]
          cases ep : pl.getD e.1.toNat none with
          | none =>
            rw [ep] at inw
            refine iteF' (by simp [ov]) ?_
            exact ⟨_, rfl, _, rfl, _, rfl, D, _, e.1, e.1.toNat, rfl, rfl, d3, ix, store _ _ _ _ _ _ inw⟩
          | some x =>
            rw [ep] at inw pw
            refine iteT' (by simp [ov]) ?_
            refine ⟨_, rfl, _, rfl, D, _, e.1, _, rfl, rfl, SqL.of d3, pw, _, rfl, rfl, _, rfl, ?_⟩
            by_cases hx : x = (stt fr e.2).1
            · have inw : wrongF fr ds (all8 bg) 0 = if x = (stt fr e.2).1 then wrongF fr (ds.drop (i + 1)) (pl.set e.1.toNat (some (stt fr e.2).2.2)) (i + 1) else some i := inw
              rw [if_pos hx] at inw
              refine iteF' (by simp [ov, hx]) ?_
              exact ⟨_, rfl, _, rfl, _, rfl, D, _, e.1, e.1.toNat, rfl, rfl, d3, ix, store _ _ _ _ _ _ inw⟩
            · have inw : wrongF fr ds (all8 bg) 0 = if x = (stt fr e.2).1 then wrongF fr (ds.drop (i + 1)) (pl.set e.1.toNat (some (stt fr e.2).2.2)) (i + 1) else some i := inw
              rw [if_neg hx] at inw
              refine iteT' (by simp [ov, hx]) ?_
              refine ⟨_, rfl, ?_⟩
              have z := q _ s3
              rw [inw] at z
              exact z
      · rintro σ H2 ⟨v5, v6, v7, v8, v9, v10, v11, pl, rfl, s2, d2, l8, inv⟩
        have e0 : ds.drop tw.length = [] := by
          rw [wall.len]
          exact List.drop_length
        rw [e0] at inv
        have z := q H2 s2
        rw [inv] at z
        exact z
end
end K41

set_option Elab.async false
set_option linter.all false
set_option maxRecDepth 100000
set_option maxHeartbeats 4000000
/-! t[::-1] of a tuple. -/
namespace L2
namespace EV
open PySem PySem.Spec PyProof.Rows _root_.EV PySem.Builtin
theorem rev_adjust (n : Nat) : Slice.sliceAdjust none none (-1) (n : Int) = ((n : Int) - 1, -1) := by
  unfold Slice.sliceAdjust
  simp
theorem rev_places (n : Nat) : Slice.slicePlaces ((n : Int) - 1) (-1) (-1) = n := by
  unfold Slice.slicePlaces
  rw [if_neg (by decide)]
  by_cases h : 0 < n
  · rw [if_pos (by omega)]
    simp only [Int.neg_neg, Int.ediv_one]
    omega
  · rw [if_neg (by omega)]
    omega
theorem fm_congr {α β : Type} {f g : α → Option β} : ∀ {l : List α}, (∀ x ∈ l, f x = g x) → l.filterMap f = l.filterMap g
  | [], _ => rfl
  | x :: l, h => by
    rw [List.filterMap_cons, List.filterMap_cons, h x (List.mem_cons_self ..), fm_congr fun y hy => h y (List.mem_cons_of_mem _ hy)]
theorem rev_pick (xs : Array Value) : ((List.range xs.size).filterMap fun (k : Nat) => xs[((xs.size : Int) - 1 + (k : Int) * -1).toNat]?) = xs.toList.reverse := by
  have e : ∀ k ∈ List.range xs.size, xs[((xs.size : Int) - 1 + (k : Int) * -1).toNat]? = xs.toList.reverse[k]? := fun k hk => by
    have hk := List.mem_range.mp hk
    have z : ((xs.size : Int) - 1 + (k : Int) * -1).toNat = xs.size - 1 - k := by omega
    rw [z, List.getElem?_reverse (by simpa using hk)]
    simp
  rw [fm_congr e]
  have g : ∀ l : List Value, (List.range l.length).filterMap (fun k => l[k]?) = l := fun l => by
    have z := PySem.W.krv_all l.toArray
    simpa using z
  have z := g xs.toList.reverse
  simpa using z
section
variable {prog : Program} {w : World} {A : Around} {E : Value → Shared → Prop} {s : Shared}
theorem rev_applied {sl : Addr} {vk : Value} {n : Nat} {Q : Int × Int × Nat → Shared → Prop} (hs : s.heap.IsSliceOf sl .none .none vk) (pk : IsPart vk (some (-1))) (h : Q ((n : Int) - 1, -1, n) s) :
    wpAny (model prog w) A (Slice.sliceApplied (.ref sl) (pure (n : Int))) Q E s := by
  obtain ⟨os, hos, _, hds⟩ := id hs
  unfold Slice.sliceApplied Slice.sliceFields
  refine wpAny_bind (wpAny_bind (wpAny_field hos hds (x := .none) rfl (wpAny_bind (wpAny_field hos hds (x := .none) rfl (wpAny_bind (wpAny_field hos hds (x := vk) rfl (wpAny_pure ?_)))))))
  refine wpAny_bind (HT.slicePart_ pk ?_)
  show wpAny _ _ (if ((-1 : Int) == 0) = true then _ else _) _ _ s
  rw [if_neg (by decide)]
  refine wpAny_bind (slicePart_none (wpAny_bind (slicePart_none (wpAny_bind (wpAny_pure ?_)))))
  show wpAny _ _ (match Slice.sliceAdjust none none (-1) (n : Int) with | (lo, hi) => pure (lo, (-1 : Int), Slice.slicePlaces lo hi (-1))) _ _ s
  rw [rev_adjust]
  show wpAny _ _ (pure ((n : Int) - 1, (-1 : Int), Slice.slicePlaces ((n : Int) - 1) (-1) (-1))) _ _ s
  rw [rev_places]
  exact wpAny_pure h
theorem rev_item {t sl : Addr} {items : Array Value} {vk : Value} {Q : Value → Shared → Prop} (ht : IsTup s.heap t items) (hs : s.heap.IsSliceOf sl .none .none vk) (pk : IsPart vk (some (-1))) (hz : items.size ≤ sizeLine)
    (h : Q (.ref s.heap.objs.size) { s with heap := s.heap.push { cls := .type "tuple", data := .seq items.toList.reverse.toArray } }) : wpAny (model prog w) A (getItem (.ref t) (.ref sl)) Q E s := by
  have ok : sizeOk (.seq items.toList.reverse.toArray) := by
    show items.toList.reverse.toArray.size ≤ sizeLine
    rw [List.size_toArray, List.length_reverse, Array.length_toList]
    exact hz
  obtain ⟨os, hos, hcs, _⟩ := id hs
  have hTs : s.TypeIs (.ref sl) "slice" := ⟨os, hos, hcs⟩
  unfold getItem
  try with_reducible refine wpAny_holding ?_
  first | refine wpAny_bind (wpAny_pure ?_) | skip
  refine wpAny_bind (wpAny_sequenceKey ht.typeIs (by decide) ?_)
  refine wpAny_bind (wpAny_callSpecial?_slot (name := Str.ofString "__getitem__") ht.typeIs PyProof.Rows.slot_tuple_getitem (wpAny_call_entry PyProof.Rows.slot_tuple_getitem ht.typeIs entry_tuple_getitem ?_ (args_tuple_getitem _ _)))
  show wpAny _ _ (Tuple.tupleItemsOf (.ref t) >>= _) _ _ s
  refine wpAny_bind (tupleItemsOf_ ht (wpAny_bind (wpAny_typeOf hTs ?_)))
  rw [if_pos (by decide)]
  refine wpAny_bind (rev_applied hs pk ?_)
  show wpAny _ _ (if ((((items.size : Nat) : Int) - 1) == 0 && (-1 : Int) == 1 && items.size == items.size) = true then _ else _) _ _ s
  rw [if_neg (by simp), rev_pick]
  first
    | exact wpAny_bind (m := Tuple.tupleExact _) (wpAny_newObj_type (wpAny_pure ⟨_, rfl, wpAny_pure h⟩) ok)
    | exact wpAny_bind (m := Tuple.tupleExact _) (wpAny_newObj_type (wpAny_bind (wpAny_pure (wpAny_pure ⟨_, rfl, wpAny_pure h⟩))) ok)
    | exact wpAny_bind (wpAny_bind (m := Tuple.tupleExact _) (wpAny_newObj_type (wpAny_pure (wpAny_pure ⟨_, rfl, wpAny_pure h⟩)) ok))
    | exact wpAny_bind (wpAny_bind (m := Tuple.tupleExact _) (wpAny_newObj_type (wpAny_pure ⟨_, rfl, wpAny_pure h⟩) ok))
end
def tRevT (K : PySem.W.Frag) (te tk : TE) : TE := fun σ H Q => te σ H fun x H1 => tPart tk σ H1 fun o H2 => o = some (-1) ∧ ∃ a xs, x = .ref a ∧ H2 a = some (.tup xs) ∧ ∀ p, H2 p = none → Q (.ref p) (upd H2 p (.tup xs.reverse))
theorem vals_revs : ∀ {zs : List V} {ws : List Value}, Vals zs ws → Vals zs.reverse ws.reverse
  | _, _, .nil => .nil
  | _, _, .cons r t => by
    rw [List.reverse_cons, List.reverse_cons]
    exact (vals_revs t).append (.cons r .nil)
section
variable {X : Cx} {e k : Expr} {te tk : TE} {pos p2 : Pos}
theorem pe_revT {ops : Value → Value → List Value} (he : PE X e te) (hk : PE X k tk) (hs : ∀ o i : Value, subscripted (.Slice none none (some k) p2) false o i = operate (ops o i) (getItem o i)) : PE X (.Subscript e (.Slice none none (some k) p2) pos) (tRevT X.K te tk) := by
  refine ⟨fun pins s σ H Q I h => ?_⟩
  refine Subscript_ (thn (he.run pins s σ H _ I h) fun v s1 ⟨x, H1, I1, r1, q1⟩ => ?_)
  refine wpAny_Slice (thn (po_none.run pins s1 σ H1 (fun o H' => o = none ∧ H' = H1) I1 ⟨rfl, rfl⟩) fun vl s2 ⟨l, H2, I2, pl, q2⟩ => thn (po_none.run pins s2 σ H2 (fun o H' => o = none ∧ H' = H2) I2 ⟨rfl, rfl⟩) fun vu s3 ⟨u, H3, I3, pu, q3⟩ => ?_)
  obtain ⟨rfl, rfl⟩ := q2
  obtain ⟨rfl, rfl⟩ := q3
  cases pl
  cases pu
  refine thn ((po_some hk).run pins s3 σ _ _ I3 q1) fun vk s4 ⟨o, H4, I4, pk, ho, a, xs, ex, ea, q4⟩ => ?_
  subst ex ho
  obtain rfl : v = Value.ref a := r1
  have I5 : Inv X pins σ H4 { s4 with heap := s4.heap.push { cls := .type "slice", data := .fields #[.none, .none, vk] } } := I4.kept (t' := s4.toks) fun b ob q => Heap.get?_push_of_some _ q
  obtain ⟨its, r, ht, hz⟩ := I5.tuple (SqT.of ea)
  have hg := rev_item (prog := X.prog) (w := X.w) (A := X.A) (E := X.xe) (Q := EP X pins σ Q) (s := { s4 with heap := s4.heap.push { cls := .type "slice", data := .fields #[.none, .none, vk] } }) ht (Heap.IsSliceOf.new ..) pk (by rw [List.size_toArray, ← r.length]; exact hz) ?_
  · exact tail_any ht.typeIs PyProof.Rows.slot_tuple_getitem.lookup hg (hs _ _)
  · rw [List.toList_toArray]
    have fr : H4 (s4.heap.push { cls := .type "slice", data := .fields #[.none, .none, vk] }).objs.size = none := I5.hok.fresh (Nat.le_refl _)
    refine ⟨.ref (s4.heap.push { cls := .type "slice", data := .fields #[.none, .none, vk] }).objs.size, _, I5.laid (t' := s4.toks) (a := (s4.heap.push { cls := .type "slice", data := .fields #[.none, .none, vk] }).objs.size) (o := .tup xs.reverse)
      (h' := (s4.heap.push { cls := .type "slice", data := .fields #[.none, .none, vk] }).push { cls := .type "tuple", data := .seq its.reverse.toArray }) (fun b o q => Heap.get?_push_of_some _ q) (Nat.le_refl _) ?_, rfl, q4 _ fr⟩
    exact ⟨by rw [List.length_reverse]; exact hz, its.reverse, vals_revs r, ⟨_, Heap.get?_push_size _ rfl, rfl, 0, rfl⟩⟩
end
end EV
end L2

set_option Elab.async false
set_option linter.all false
set_option maxRecDepth 100000
set_option maxHeartbeats 4000000
/-! Pairs of an int and a text: <, <=. Raising an own exception whose __init__ has put fields. -/
namespace L2
open PySem PySem.Spec PyProof.Rows
abbrev IS : Type := Int × Str
def ltIS (a b : IS) : Bool := if a.1 = b.1 then decide (sl a.2 < sl b.2) else decide (a.1 < b.1)
def tIS (a : IS) : HO := .tup [.int a.1, .str a.2]
def rLtIS : R2 := fun x y H Q => ∃ (a b : Addr) (m n : IS), x = .ref a ∧ y = .ref b ∧ H a = some (tIS m) ∧ H b = some (tIS n) ∧ Q (.bl (ltIS m n)) H
def rLeIS : R2 := fun x y H Q => ∃ (a b : Addr) (m n : IS), x = .ref a ∧ y = .ref b ∧ H a = some (tIS m) ∧ H b = some (tIS n) ∧ Q (.bl (!ltIS n m)) H
theorem lexP_lt (m n : IS) : Ob.lexAt (fun j => if j = 0 then m.1 == n.1 else m.2 == n.2) (fun j => if j = 0 then decide (m.1 < n.1) else decide (sl m.2 < sl n.2)) false 0 2 = ltIS m n := by
  obtain ⟨m1, m2⟩ := m
  obtain ⟨n1, n2⟩ := n
  simp only [Ob.lexAt, ltIS]
  by_cases e1 : m1 = n1
  · subst e1
    by_cases e2 : m2 = n2
    · subst e2
      have z : ¬ sl m2 < sl m2 := List.lt_irrefl _
      simp
    · simp [e2]
  · simp [e1]
theorem lexP_le (m n : IS) : Ob.lexAt (fun j => if j = 0 then m.1 == n.1 else m.2 == n.2) (fun j => if j = 0 then decide (m.1 ≤ n.1) else decide (sl m.2 ≤ sl n.2)) true 0 2 = !ltIS n m := by
  obtain ⟨m1, m2⟩ := m
  obtain ⟨n1, n2⟩ := n
  simp only [Ob.lexAt, ltIS]
  by_cases e1 : m1 = n1
  · subst e1
    by_cases e2 : m2 = n2
    · subst e2
      have z : ¬ sl m2 < sl m2 := List.lt_irrefl _
      simp
    · have e2' : ¬ n2 = m2 := fun z => e2 z.symm
      simp only [beq_self_eq_true, if_true, Nat.zero_add, Nat.one_ne_zero, if_false, beq_iff_eq, e2]
      by_cases z : sl m2 ≤ sl n2
      · rw [decide_eq_true z, decide_eq_false (List.not_lt.mpr z)]
        rfl
      · rw [decide_eq_false z, decide_eq_true (List.not_le.mp z)]
        rfl
  · have e1' : ¬ n1 = m1 := fun z => e1 z.symm
    simp only [if_true, beq_iff_eq, e1, e1', if_false]
    by_cases z : m1 ≤ n1
    · rw [decide_eq_true z, decide_eq_false (by omega)]
      rfl
    · rw [decide_eq_false z, decide_eq_true (by omega)]
      rfl
theorem lt_strR {A : Around} {s : Shared} (a b : Str) (t u : Tok) : Ob.RcOp .Lt A s (.str a t) (.str b u) (decide (sl a < sl b)) := fun _ _ _ _ h => PyProof.Rows.lt_str h
section
variable {X : Cx}
theorem vals_2 {x y : V} {us : List Value} (r : Vals [x, y] us) : ∃ u w', us = [u, w'] ∧ RelV x u ∧ RelV y w' := by
  cases r with
  | cons r1 r =>
    cases r with
    | cons r2 r =>
      cases r
      exact ⟨_, _, rfl, r1, r2⟩
theorem op_ltIS (hu : X.A.units < cLine) : OpR X (compareOp .Lt) rLtIS := by
  intro pins s σ H x y v u Q I rx ry h
  obtain ⟨a, b, m, n, rfl, rfl, ha, hb, q⟩ := h
  cases rx
  cases ry
  obtain ⟨its, r1, p1, _⟩ := I.tuple (SqT.of ha)
  obtain ⟨its2, r2, p2, _⟩ := I.tuple (SqT.of hb)
  obtain ⟨u1, u2, rfl, ⟨t1, rfl⟩, ⟨t2, rfl⟩⟩ := vals_2 r1
  obtain ⟨v1, v2, rfl, ⟨w1, rfl⟩, ⟨w2, rfl⟩⟩ := vals_2 r2
  have R := Ob.RcOp.tuples_lt (A := X.A) (s := s) (e := fun j => if j = 0 then m.1 == n.1 else m.2 == n.2) (r := fun j => if j = 0 then decide (m.1 < n.1) else decide (sl m.2 < sl n.2)) p1 p2 hu
    (fun j h1 h2 => by
      match j, h1 with
      | 0, _ => exact SeqAt.EqAt.int_int _ _ _ _
      | 1, _ => exact SeqAt.EqAt.str_str _ _ _ _)
    (fun j h1 h2 _ => by
      match j, h1 with
      | 0, _ => exact Ob.RcOp.lt_int _ _ _ _
      | 1, _ => exact lt_strR _ _ _ _)
  have e3 : Ob.lexAt (fun j => if j = 0 then m.1 == n.1 else m.2 == n.2) (fun j => if j = 0 then decide (m.1 < n.1) else decide (sl m.2 < sl n.2)) (decide (2 < 2)) 0 (min 2 2) = ltIS m n := lexP_lt m n
  have z : wpAny (model X.prog X.w) X.A (compareOp .Lt (.ref a) (.ref b)) (EP X pins σ Q) X.xe s := R X.prog X.w X.xe (EP X pins σ Q) ⟨.bl _, H, I, rfl, by
    rw [← e3] at q
    exact q⟩
  exact z
theorem op_leIS (hu : X.A.units < cLine) : OpR X (compareOp .LtE) rLeIS := by
  intro pins s σ H x y v u Q I rx ry h
  obtain ⟨a, b, m, n, rfl, rfl, ha, hb, q⟩ := h
  cases rx
  cases ry
  obtain ⟨its, r1, p1, _⟩ := I.tuple (SqT.of ha)
  obtain ⟨its2, r2, p2, _⟩ := I.tuple (SqT.of hb)
  obtain ⟨u1, u2, rfl, ⟨t1, rfl⟩, ⟨t2, rfl⟩⟩ := vals_2 r1
  obtain ⟨v1, v2, rfl, ⟨w1, rfl⟩, ⟨w2, rfl⟩⟩ := vals_2 r2
  have R := Ob.RcOp.tuples_le (A := X.A) (s := s) (e := fun j => if j = 0 then m.1 == n.1 else m.2 == n.2) (r := fun j => if j = 0 then decide (m.1 ≤ n.1) else decide (sl m.2 ≤ sl n.2)) p1 p2 hu
    (fun j h1 h2 => by
      match j, h1 with
      | 0, _ => exact SeqAt.EqAt.int_int _ _ _ _
      | 1, _ => exact SeqAt.EqAt.str_str _ _ _ _)
    (fun j h1 h2 _ => by
      match j, h1 with
      | 0, _ => exact Ob.RcOp.le_int _ _ _ _
      | 1, _ => exact RcOp.le_str _ _ _ _)
  have e3 : Ob.lexAt (fun j => if j = 0 then m.1 == n.1 else m.2 == n.2) (fun j => if j = 0 then decide (m.1 ≤ n.1) else decide (sl m.2 ≤ sl n.2)) (decide (2 ≤ 2)) 0 (min 2 2) = !ltIS n m := lexP_le m n
  have z : wpAny (model X.prog X.w) X.A (compareOp .LtE (.ref a) (.ref b)) (EP X pins σ Q) X.xe s := R X.prog X.w X.xe (EP X pins σ Q) ⟨.bl _, H, I, rfl, by
    rw [← e3] at q
    exact q⟩
  exact z
end
namespace EV
/-- an exception's fields, told as those of one that flies -/
theorem exd_told {X : Cx} {pins : List (Addr × Obj)} {σ : L2.St} {H : Hp} {s : Shared} {d : Addr} {fs : List (Str × V)} (I : Inv X pins σ H s) (e : H d = some (exd d fs)) : Inv X pins σ (upd H d (.xd fs)) s := by
  obtain ⟨mA, hns, rel⟩ := exd_at I.hok e
  obtain ⟨od, ho, _⟩ := lookIn_ns hns
  exact I.write (h' := s.heap) (t' := s.toks) (x := d) (e := d) (o := .xd fs) (by rw [e]; exact True.intro) (.inl rfl) (fun b u _ q => q) (by
    obtain ⟨o, es, ep, e1, _⟩ := hns
    exact ⟨_, e1⟩) ⟨mA, hns, rel⟩
theorem pmk_own3 {X : Cx} {e : Expr} {te : TE} (hx : X.ex = []) (he : PE X e te) :
    PMk X e (fun σ H Q => te σ H fun x H1 => ∃ (a C d : Addr) (fs : List (Str × V)), x = .ref a ∧ H1 a = some (exo a C (some d)) ∧ d ≠ a ∧ H1 d = some (exd d fs) ∧ Fr0 X.H_0 a ∧ Raises X (.ref C) ∧ Q (.ref C) (some d) (upd (delH H1 a) d (.xd fs))) := by
  intro pins s σ H Q I h
  refine wpAny_mono (he.run pins s σ H _ I h) (fun u s1 hu => ?_) fun _ _ x => x
  obtain ⟨v, H1, I1, r1, a, C, d, fs, rfl, ha, nda, hd, h0, hr, q⟩ := hu
  cases r1
  obtain ⟨t1, ho⟩ := exo_at I1.hok ha
  obtain ⟨G, gs, ga, J⟩ := I1.untrack ha h0 hx
  have hd' : delH H1 a d = some (exd d fs) := by
    rw [delH_ne nda]
    exact hd
  have J2 := exd_told J hd'
  have na : upd (delH H1 a) d (.xd fs) a = none := by
    rw [upd_ne nda.symm]
    exact delH_same
  exact ⟨a, _, _, { s1 with heap := G }, _, .ref C, some d, rfl, J2, gs, ga, ho, ⟨rfl, rfl⟩, rfl, rfl, na, rfl, I1.bare, hr, q⟩
end EV
end L2

set_option Elab.async false
set_option linter.all false
set_option maxRecDepth 100000
set_option maxHeartbeats 4000000
/-! A caught error that has fields: isinstance, its fields. -/
namespace L2
namespace EV
open PySem PySem.Spec PyProof.Rows _root_.EV
/-- isinstance of a caught one with fields -/
def rIsF (K : PySem.W.Frag) : List V → Hp → VK → Prop := fun xs H Q => ∃ (a C d : Addr) (fs : List (Str × V)) (B newId initId : String) (bm : List Value) (c : V) (u : Value) (b : Bool),
  xs = [.ref a, c] ∧ ClsV c u ∧ OxC K C B newId initId bm ∧ H a = some (exh (.ref C) (some d) a) ∧ H d = some (.xd fs) ∧ PySem.W.kitOne K (.ref C) u = some b ∧ Q (.bl b) H
theorem call_isF {X : Cx} : CallR X (.builtin "isinstance") (rIsF X.K) := by
  intro pins s σ H xs us Q I r h
  obtain ⟨a, C, d, fs, B, newId, initId, bm, c, u, b, rfl, k, T, ea, ed, e, q⟩ := h
  obtain ⟨u1, u2, rfl, r1, r2⟩ := vals2 r
  have e2 := k.eq r2
  subst e2
  obtain rfl : u1 = Value.ref a := r1
  obtain ⟨oe, vs, ho, hz, hd⟩ := exh_at I.hok ea
  have hx : ObjOk X.prog X.w H s.heap d (.xd fs) := I.hok d _ ed
  obtain ⟨mA, hns, hr⟩ := hx
  obtain ⟨od, hod, hl⟩ := lookIn_ns hns
  obtain ⟨cd, hcl, _⟩ := T.data
  have some_ : (PySem.W.clsIn X.K C).isSome = true := by rw [hcl]; rfl
  have J : PySem.W.InstAt s.heap a oe C (some od) := ⟨ho, hz.1, by unfold PySem.W.notCls; rw [hd], by rw [hz.2]; exact hod⟩
  exact PySem.W.kia_one (PySem.W.kitx_exc some_ T.ga T.gg T.exC T.ca T.cn T.ct T.om) I.kIn J e (fun z => nomatch z) fun tk => ⟨.bl b, H, I.tok tk, rfl, q⟩
/-- a caught one's field -/
def tXg (K : PySem.W.Frag) (f : Str) (te : TE) : TE := fun σ H Q => te σ H fun x H1 => ∃ (a C d : Addr) (fs : List (Str × V)) (v : V), x = .ref a ∧ XfC K C ∧ PySem.W.findIn K (.ref C) f = some none ∧ H1 a = some (exh (.ref C) (some d) a) ∧ H1 d = some (.xd fs) ∧ fs.lookup f = some v ∧ Q v H1
theorem pe_xg {X : Cx} {e : Expr} {te : TE} {pos : Pos} {n : Str} (he : PE X e te) (hb : attributeBase e n X.env (eval e X.env) = eval e X.env := by rfl) : PE X (.Attribute e n pos) (tXg X.K n te) := by
  refine ⟨fun pins s σ H Q I h => ?_⟩
  refine attr_of hb (thn (he.run pins s σ H _ I h) fun u s1 hh => ?_)
  obtain ⟨x, H1, I1, rx, a, C, d, fs, v, ex, T, hno, ea, ed, l, q⟩ := hh
  subst ex
  obtain rfl : u = Value.ref a := rx
  obtain ⟨oe, vs, ho, hz, hd⟩ := exh_at I1.hok ea
  have hx : ObjOk X.prog X.w H1 s1.heap d (.xd fs) := I1.hok d _ ed
  obtain ⟨mA, hns, hr⟩ := hx
  obtain ⟨od, hod, hl⟩ := lookIn_ns hns
  obtain ⟨u, hu, ru⟩ := RelO.some_of (v := v) (o := mA n) (by rw [← l]; exact hr n)
  have J : PySem.W.InstAt s1.heap a oe C (some od) := ⟨ho, hz.1, by unfold PySem.W.notCls; rw [hd], by rw [hz.2]; exact hod⟩
  exact HandSPX.exc_get I1.kIn J T.ga T.gg T.exC (PySem.W.findObj_own T.hdC hno rfl (by rw [hl, hu])) (handed_of ru) ⟨v, H1, I1.tok _, ru, q⟩
end EV
end L2

set_option Elab.async false
set_option linter.all false
set_option maxRecDepth 100000
set_option maxHeartbeats 4000000
/-! is_word. -/
namespace K41
open PySem L2 L2.EV
abbrev sIsWord : Stmt := top 30
def isStr : PyData → Bool
  | .str _ => true
  | _ => false
abbrev words3 : List V := [.str "turn", .str "copy", .str "cut"]
def isWd : PyData → Bool
  | .str s => inV (.str s) words3
  | _ => false
theorem Da.tyS {K : PySem.W.Frag} {H : Hp} {v : V} {d : PyData} (h : Da H v d) : ∃ t : Value, TyX K H v t ∧ PySem.W.kitOne K t (.type "str") = some (isStr d) := by
  cases h with
  | non => exact ⟨_, .base .non, kit_ty (r := false) (by decide +kernel)⟩
  | bl b => exact ⟨_, .base (.bl b), kit_ty (r := false) (by decide +kernel)⟩
  | int i => exact ⟨_, .base (.int i), kit_ty (r := false) (by decide +kernel)⟩
  | str x => exact ⟨_, .base (.str x), kit_ty (r := true) (by decide +kernel)⟩
  | lst e _ => exact ⟨_, .base (.lst e), kit_ty (r := false) (by decide +kernel)⟩
  | tup e _ => exact ⟨_, .base (.tup e), kit_ty (r := false) (by decide +kernel)⟩
def spIsWord : Sp := fun vs H Q _ => ∃ (v : V) (d : PyData), vs = [v] ∧ Da H v d ∧ ∀ H', Same H H' → Q (.bl (isWd d)) H'
structure Wo (K : PySem.W.Frag) (mg : Str → Option Value) where
  T : TxtF mg
  f : Addr
  d : FuncData
  F : Fun K "is_word" "is_word" sIsWord f d
  b : Binds K d ["thing"] []
  m : mg "is_word" = some (.ref f)
  c1 : ∃ t, mg "TURN" = some (.str "turn" t)
  c2 : ∃ t, mg "COPY" = some (.str "copy" t)
  c3 : ∃ t, mg "CUT" = some (.str "cut" t)
section
variable {P : Program} {w : World} {K : PySem.W.Frag} {mg : Str → Option Value} {base : Heap}
theorem scIsWord : FnScope ["thing"] ["thing"] (defScope sIsWord) := ⟨rfl, rfl, rfl, by decide +kernel, rfl, by decide +kernel, by decide +kernel⟩
theorem ok_isWord (W : Wo K mg) : FnOk P w K mg base CX0 1 W.f W.d ["thing"] spIsWord := by
  refine W.F.ok scIsWord (fun vs H Q E h => ?_) (fun cdv A outer s H vs Q E hr h => ?_)
  · obtain ⟨v, d, rfl, _⟩ := h
    rfl
  · obtain ⟨v, d, rfl, da, q⟩ := h
    obtain ⟨t1, e1⟩ := W.c1
    obtain ⟨t2, e2⟩ := W.c2
    obtain ⟨t3, e3⟩ := W.c3
    refine ⟨_, pss_one (ps_ret (pe_and (pe_callB call_isi (by rfl) W.T.isi PyProof.Rows.boot_isinstance (pa_cons (pv 0) (pa_cons (pe_bltn (v := .ty "str") (by rfl) W.T.str (by decide +kernel) rfl) pa_nil)))
      (pe_one (pe_cmpR op_in_seq (pv 0) (pe_tup (pa_cons (pe_glob (v := .str "turn") (by rfl) e1 ⟨_, rfl⟩) (pa_cons (pe_glob (v := .str "copy") (by rfl) e2 ⟨_, rfl⟩) (pa_cons (pe_glob (v := .str "cut") (by rfl) e3 ⟨_, rfl⟩) pa_nil)))) (by rfl))))), ?_⟩
    obtain ⟨t, ty, kt⟩ := da.tyS (K := K)
    refine ⟨_, rfl, v, .ty "str", t, .type "str", isStr d, rfl, .ty "str", ty, kt, isStr d, rfl, ?_⟩
    cases da with
    | str x =>
      refine iteT ?_
      refine ⟨_, rfl, (by show 3 ≤ sizeLine; decide), fun p hp => ?_⟩
      exact ⟨p, _, rfl, .inr (SqT.of upd_same), rfl, rfl, q _ (same_upd hp)⟩
    | bl b => exact iteF (q H (Same.refl H))
    | non => exact iteF (q H (Same.refl H))
    | int i => exact iteF (q H (Same.refl H))
    | lst e h => exact iteF (q H (Same.refl H))
    | tup e h => exact iteF (q H (Same.refl H))
end
end K41

set_option Elab.async false
set_option linter.all false
set_option maxRecDepth 100000
set_option maxHeartbeats 4000000
/-! e[n].replace(y, m[i]) with a written y. -/
namespace L2
open PySem PySem.Spec PyProof.Rows
def tReplM (r : R2) (ta : TE) (n : Int) (y : Str) (tM ti : TE) : TE := fun σ H Q => tOp r ta (tC (.int n)) σ H fun v H1 => ∃ x, v = .str x ∧ tM σ H1 fun m H2 => ti σ H2 fun iv H3 =>
  ∃ (z : Str) (c : Nat) (i : Int), m = .str z ∧ iv = .int i ∧ z.length ≤ sizeLine ∧ atI z.cps.toList i = some c ∧ (y == ⟨#[c]⟩) = false ∧ x.length + (x.length + 1) * 1 ≤ 16777216 ∧ Q (.str (Txt.replace x y ⟨#[c]⟩)) H3
section
variable {X : Cx} {a m i : Expr} {ta tM ti : TE} {y : Str} {n : Int} {j k : Nat} {c0 p1 p2 p3 apos pos : Pos} {r : R2}
theorem pe_replM (hr : IxR X r) (ha : PE X a ta) (hM : PE X m tM) (hi : PE X i ti) (hs : PlainIx (.Constant (.int n) j p1)) (hs3 : PlainIx i)
    (hst : starEach [.Constant (.str y) k c0, .Subscript m i p3] X.env = [(false, eval (.Constant (.str y) k c0) X.env), (false, eval (.Subscript m i p3) X.env)] := by rfl)
    (hbase : attributeBase (.Subscript a (.Constant (.int n) j p1) p2) "replace" X.env (eval (.Subscript a (.Constant (.int n) j p1) p2) X.env) = eval (.Subscript a (.Constant (.int n) j p1) p2) X.env := by rfl)
    (hline : (apos.endLine == pos.line) = true := by rfl) :
    PE X (.Call (.Attribute (.Subscript a (.Constant (.int n) j p1) p2) "replace" apos) [.Constant (.str y) k c0, .Subscript m i p3] [] pos) (tReplM r ta n y tM ti) := by
  refine ⟨fun pins s σ H Q I h => ?_⟩
  refine PySem.Call_method2 hbase hst hline (Subscript_ (thn (ha.run pins s σ H _ I h) fun v s1 ⟨x, H1, I1, rx, q1⟩ => ?_))
  refine wpAny_Constant_int ?_
  refine wpAny_mono (PySem.wpAny_toks (hr a (.Constant (.int n) j p1) pins _ σ H1 x (.int n) v (.int n s1.toks) _ (I1.tok _) rx ⟨_, rfl⟩ q1 (hs _ _))) (fun v2 s2 q => ?_) fun _ _ z => z.2
  obtain ⟨hk, x2, H2, I2, r2, xs, rfl, q⟩ := q
  obtain ⟨tx, rfl⟩ := r2
  have hk2 : s1.toks + 1 ≤ s2.toks := hk
  refine ⟨"str", _, PySem.F.plainAttrs_str, PySem.F.slot_str_replace, PySem.F.type_str_replace, typeIs_str _ _ _, (fun _ e => nomatch e), Calls.callWith_builtin rfl (Calls.evalArgs_plain (Calls.spliced_cons ?_))⟩
  refine Calls.Constant_str (Calls.spliced_cons (Subscript_ ?_))
  refine wpAny_mono (PySem.wpAny_toks (hM.run pins _ σ H2 _ (I2.tok (s2.toks + 1)) q)) (fun v3 s3 q => ?_) fun _ _ z => z.2
  obtain ⟨hk3, x3, H3, I3, r3, q⟩ := q
  have hk3' : s2.toks + 1 ≤ s3.toks := hk3
  refine wpAny_mono (PySem.wpAny_toks (hi.run pins _ σ H3 _ I3 q)) (fun v4 s4 q => ?_) fun _ _ z => z.2
  obtain ⟨hk4, x4, H4, I4, r4, z, c, ix, rfl, rfl, hz, he, hyz, hb, q⟩ := q
  obtain ⟨t, rfl⟩ := r3
  obtain ⟨t', rfl⟩ := r4
  obtain ⟨j, h1, h2, h3, h4, h5⟩ := atI_get he
  have hl : z.cps.toList.length = z.length := by simp [Str.length]
  rw [hl] at h1 h4 h5
  have hn := line63
  refine tail_any (typeIs_str s4 z t) slot_str_getitem.lookup (getItem_str (c := c) (by
    have e1 : decide (ix < -(2 ^ 63 : Int)) = false := decide_eq_false (by omega)
    have e2 : decide (ix ≥ 2 ^ 63) = false := decide_eq_false (by omega)
    rw [e1, e2, Bool.or_false]) (by rw [h1]; simpa using h2) ?_) (hs3 _ _)
  refine Calls.spliced_nil ?_
  exact PySem.SC.replace (by show s2.toks ≠ 0; omega) (by show s4.toks ≠ 0; omega) (by show s2.toks ≠ s4.toks; omega) hyz hb fun t' k => ⟨.str (Txt.replace xs y ⟨#[c]⟩), H4, I4.tok k, ⟨t', rfl⟩, q⟩
end
end L2

set_option Elab.async false
set_option linter.all false
set_option maxRecDepth 100000
set_option maxHeartbeats 4000000
/-! text_put, line_places. -/
namespace K41
open PySem L2 L2.EV
abbrev sPut : Stmt := top 22
abbrev sPlaces : Stmt := top 23
def mrk (n : Int) : Nat := (sl ("ABCDEFGH" : Str)).getD n.toNat 0
/-- a list of entries -/
def LvA (H : Hp) (w : Addr) (es : List E2) : Prop := ∃ ts : List Addr, H w = some (.lst (ts.map V.ref)) ∧ ts.length = es.length ∧ ∀ (i : Nat) t e, ts[i]? = some t → es[i]? = some e → A2 H t e
theorem LvA.same {H H' : Hp} {f : Addr} {es : List E2} (h : LvA H f es) (s : Same H H') : LvA H' f es := by
  obtain ⟨ts, e, l, c⟩ := h
  exact ⟨ts, s _ _ e, l, fun i t x h1 h2 => s _ _ (c i t x h1 h2)⟩
/-- what an entry puts -/
def putE (fr : List T3) (e : E2) : Str := Txt.replace (stt fr e.2).2.1 "@" ⟨#[mrk e.1]⟩
def textE (fr : List T3) (es : List E2) : Str := Txt.join "" (es.map (putE fr))
theorem mrk_at {n : Int} (h0 : 0 ≤ n) (h1 : n < 8) : atI ("ABCDEFGH" : Str).cps.toList n = some (mrk n) ∧ (("@" : Str) == ⟨#[mrk n]⟩) = false := by
  obtain ⟨k, rfl⟩ := Int.eq_ofNat_of_zero_le h0
  have hk : k < 8 := by omega
  have e : ∀ k : Nat, k < 8 → atI ("ABCDEFGH" : Str).cps.toList (k : Int) = some (mrk (k : Int)) ∧ (("@" : Str) == ⟨#[mrk (k : Int)]⟩) = false := by
    intro k hk
    match k, hk with
    | 0, _ => exact ⟨by decide +kernel, by decide +kernel⟩
    | 1, _ => exact ⟨by decide +kernel, by decide +kernel⟩
    | 2, _ => exact ⟨by decide +kernel, by decide +kernel⟩
    | 3, _ => exact ⟨by decide +kernel, by decide +kernel⟩
    | 4, _ => exact ⟨by decide +kernel, by decide +kernel⟩
    | 5, _ => exact ⟨by decide +kernel, by decide +kernel⟩
    | 6, _ => exact ⟨by decide +kernel, by decide +kernel⟩
    | 7, _ => exact ⟨by decide +kernel, by decide +kernel⟩
  exact e k hk
theorem putE_len {fr : List T3} {e : E2} (h : (stt fr e.2).2.1.length ≤ 8) : (putE fr e).length ≤ 17 := by
  have z := TK.replace_len (stt fr e.2).2.1 "@" ⟨#[mrk e.1]⟩
  have z1 : (⟨#[mrk e.1]⟩ : Str).length = 1 := rfl
  unfold putE
  rw [z1] at z
  omega
def spPut : Sp := fun vs H Q _ => ∃ (f w : Addr) (fr : List T3) (last : Nat) (es : List E2), vs = [.ref f, .ref w] ∧ FrA H f fr ∧ Frm fr last ∧ LvA H w es ∧ (∀ e ∈ es, Ent fr e) ∧ es.length ≤ 200 ∧ ∀ H', Same H H' → Q (.str (textE fr es)) H'
/-- an entry that ends a line -/
def ends (fr : List T3) (e : E2) : Bool := decide ((stt fr e.2).2.2 = 0)
def cuts (fr : List T3) (es : List E2) (i : Nat) : List Int := ((List.range i).filter fun k => ends fr (es.getD k (0, 0))).map fun k : Nat => (k : Int) + 1
def lp (fr : List T3) (es : List E2) : List Int := 0 :: cuts fr es es.length
def spPlaces : Sp := fun vs H Q _ => ∃ (f w : Addr) (fr : List T3) (last : Nat) (es : List E2), vs = [.ref f, .ref w] ∧ FrA H f fr ∧ Frm fr last ∧ LvA H w es ∧ (∀ e ∈ es, Ent fr e) ∧ es.length ≤ 200 ∧ ∀ H' p, Same H H' → H p = none → H' p = some (.lst ((lp fr es).map V.int)) → Q (.ref p) H'
structure Ps (K : PySem.W.Frag) (mg : Str → Option Value) where
  Y : Ws K mg
  fT : Addr
  fL : Addr
  dT : FuncData
  dL : FuncData
  T : Fun K "text_put" "text_put" sPut fT dT
  L : Fun K "line_places" "line_places" sPlaces fL dL
  bT : Binds K dT ["framing", "entries"] []
  bL : Binds K dL ["framing", "entries"] []
  mT : mg "text_put" = some (.ref fT)
  mL : mg "line_places" = some (.ref fL)
section
variable {P : Program} {w : World} {K : PySem.W.Frag} {mg : Str → Option Value} {base : Heap}
theorem scPut : FnScope ["framing", "entries", "writer", "step"] ["framing", "entries"] (defScope sPut) := ⟨rfl, rfl, rfl, by decide +kernel, rfl, by decide +kernel, by decide +kernel⟩
theorem ok_put (U : Ps K mg) : FnOk P w K mg base CX0 1 U.fT U.dT ["framing", "entries"] spPut := by
  refine U.T.ok scPut (fun vs H Q E h => ?_) (fun cdv A outer s H vs Q E hr h => ?_)
  · obtain ⟨f, t, fr, l, e, rfl, _⟩ := h
    rfl
  · obtain ⟨f, wv, fr, last, es, rfl, fa, fm, wa, wo, l60, q⟩ := h
    obtain ⟨tm, eM⟩ := U.Y.marks
    refine ⟨_, pss_one (ps_ret (pe_m1 PySem.F.slot_str_join PySem.F.type_str_join mt_join pe_str (pe_lc (own := [("writer", 2), ("step", 3)]) (g := gTup K 2 (gCons (gName 2) (gCons (gName 3) gNil))) (te := tReplM (rIxT K) (tOp (rIxT K) (tVar 0) (tVar 3)) 1 "@" (tC (.str "ABCDEFGH")) (tVar 2)) rfl scPut.nd (pi_list (pv 1))
      (blkOk_by (N := ["framing", "entries", "writer", "step"]) (sc := defScope sPut) (by decide +kernel))
      (fun _ _ _ _ _ => pg_tup rfl (pgs_cons (pg_name (i := 2) scPut.nd rfl (Or.inl rfl)) (pgs_cons (pg_name (i := 3) scPut.nd rfl (Or.inl rfl)) pgs_nil))) (fun _ _ _ _ _ => pts_nil)
      (fun _ _ _ _ _ => pe_replM ix_tup (pe_ix ix_tup (pv 0) (pv 3) (fun _ _ => rfl)) (pe_glob (v := .str "ABCDEFGH") (by rfl) eM ⟨_, rfl⟩) (pv 2) (fun _ _ => rfl) (fun _ _ => rfl))))), ?_⟩
    obtain ⟨tw, hw, wl, wt⟩ := id wa
    have pl : ∀ e ∈ es, (stt fr e.2).2.1.length ≤ 8 := fun e he => by
      obtain ⟨_, _, n0, n1⟩ := wo e he
      obtain ⟨_, _, _, _, _, hm⟩ := stt_at fa n0 n1
      exact (pc_len (fm.stp _ hm).2.2.1).2
    refine ⟨⟨_, rfl⟩, _, rfl, wv, rfl, ⟨_, SqL.of hw⟩, fun D hD => ?_⟩
    refine lc_it (walk_list (xs := tw.map V.ref)) (fun i H' => H' D = some (.lst (((es.take i).map (putE fr)).map V.str)) ∧ ∀ b o, H b = some o → H' b = some o) ⟨upd_same, fun b o z => same_upd hD b o z⟩ (fun i H' _ z => SqL.of (z.2 _ _ hw)) ?_ ?_
    · rintro i x H1 H2 hi ⟨hl, kp⟩ ⟨rfl, hx⟩
      obtain ⟨t, e, he, _, rfl, e4⟩ := at_ent (i := i) wl wt hx
      have hm := List.mem_of_getElem? he
      obtain ⟨e0, e1, n0, n1⟩ := wo e hm
      obtain ⟨ts, t2, hf, ha, h3, _⟩ := stt_at (fa.same kp) n0 n1
      obtain ⟨m1, m2⟩ := mrk_at e0 e1
      have p8 := pl e hm
      refine ⟨t, _, rfl, SqT.of (kp _ _ e4), rfl, _, _, rfl, _, _, rfl, rfl, rfl, ?_⟩
      refine ⟨_, rfl, _, rfl, f, _, e.2, .ref t2, rfl, rfl, SqT.of hf, ha, t2, _, 1, _, rfl, rfl, SqT.of h3, atI_nat (j := 1) rfl, _, rfl, _, rfl, _, mrk e.1, e.1, rfl, rfl, (by decide +kernel), m1, m2, by omega, _, hl, ?_, ?_, fun b o z => ?_⟩
      · rw [List.length_map, List.length_map, List.length_take, sizeLine_eq]
        omega
      · rw [take_one he, List.map_append, List.map_append]
        exact upd_same
      · rw [upd_ne (ne_of_none z hD)]
        exact kp b o z
    · rintro H1 ⟨hl, kp⟩
      have e0 : es.take (tw.map V.ref).length = es := by
        rw [List.length_map, wl, List.take_length]
      rw [e0] at hl
      refine ⟨"", D, es.map (putE fr), rfl, rfl, .inl (SqL.of hl), ?_, q H1 kp⟩
      have z : ∀ l : List E2, (∀ e ∈ l, (stt fr e.2).2.1.length ≤ 8) → ((l.map (putE fr)).map (·.length)).sum ≤ 17 * l.length := by
        intro l
        induction l with
        | nil => exact fun _ => Nat.le_refl _
        | cons e l ih =>
          intro h
          have h1 := putE_len (h e (List.mem_cons_self ..))
          have h2 := ih fun e he => h e (List.mem_cons_of_mem _ he)
          simp only [List.map_cons, List.sum_cons, List.length_cons]
          omega
      have z1 := z es pl
      have z2 : ("" : Str).length = 0 := by decide +kernel
      rw [z2]
      omega
theorem scPlaces : FnScope ["framing", "entries", "at", "writer", "step"] ["framing", "entries"] (defScope sPlaces) := ⟨rfl, rfl, rfl, by decide +kernel, rfl, by decide +kernel, by decide +kernel⟩
theorem ok_places (U : Ps K mg) : FnOk P w K mg base CX0 1 U.fL U.dL ["framing", "entries"] spPlaces := by
  refine U.L.ok scPlaces (fun vs H Q E h => ?_) (fun cdv A outer s H vs Q E hr h => ?_)
  · obtain ⟨f, t, fr, l, e, rfl, _⟩ := h
    rfl
  · obtain ⟨f, wv, fr, last, es, rfl, fa, fm, wa, wo, l60, q⟩ := h
    refine ⟨_, pss_one (ps_ret (pe_op op_cat (pe_lst (pa_cons pe_int pa_nil)) (pe_lc (own := [("at", 2), ("writer", 3), ("step", 4)]) (g := gTup K 2 (gCons (gName 2) (gCons (gTup K 2 (gCons (gName 3) (gCons (gName 4) gNil))) gNil))) (tt := tTest (tOp rEq (tOp (rIxT K) (tOp (rIxT K) (tVar 0) (tVar 4)) (tC (.int 2))) (tC (.int 0)))) (te := tOp (rI0 fun i j => .int (i + j)) (tVar 2) (tC (.int 1))) rfl scPlaces.nd (pi_enum (by rfl) U.Y.Z.en (pa_cons (pv 1) pa_nil))
      (blkOk_by (N := ["framing", "entries", "at", "writer", "step"]) (sc := defScope sPlaces) (by decide +kernel))
      (fun _ _ _ _ _ => pg_tup rfl (pgs_cons (pg_name (i := 2) scPlaces.nd rfl (Or.inl rfl)) (pgs_cons (pg_tup rfl (pgs_cons (pg_name (i := 3) scPlaces.nd rfl (Or.inl rfl)) (pgs_cons (pg_name (i := 4) scPlaces.nd rfl (Or.inl rfl)) pgs_nil))) pgs_nil)))
      (fun _ _ _ _ _ => pts_one (pt_cmpR op_eq (pe_ix ix_tup (pe_ix ix_tup (pv 0) (pv 4) (fun _ _ => rfl)) pe_int (fun _ _ => rfl)) pe_int (nomark _)))
      (fun _ _ _ _ _ => pe_op op_add (pv 2) pe_int)))), ?_⟩
    obtain ⟨tw, hw, wl, wt⟩ := id wa
    refine ⟨(by show 1 ≤ sizeLine; decide), fun z hz => ?_⟩
    have sz := same_upd (o := HO.lst [V.int 0]) hz
    refine ⟨_, rfl, wv, _, rfl, SqL.of (sz _ _ hw), fun D hD => ?_⟩
    have cl : ∀ i, i ≤ es.length → (cuts fr es i).length ≤ 200 := fun i hi => by
      have := List.length_filter_le (fun k => ends fr (es.getD k (0, 0))) (List.range i)
      unfold cuts
      rw [List.length_map]
      rw [List.length_range] at this
      omega
    refine lc_it (walk_enum (xs := tw.map V.ref)) (fun i H' => H' D = some (.lst ((cuts fr es i).map V.int)) ∧ ∀ b o, upd H z (.lst [V.int 0]) b = some o → H' b = some o) ⟨upd_same, fun b o e => same_upd hD b o e⟩ (fun i H' _ y => SqL.of (y.2 _ _ (sz _ _ hw))) ?_ ?_
    · rintro i x H1 H2 hi ⟨hl, kp⟩ ⟨T, xi, xo, rfl, nT, rfl, h1, h2⟩
      cases h1
      obtain ⟨t, e, he, _, rfl, e4⟩ := at_ent (i := i) wl wt h2
      have hm := List.mem_of_getElem? he
      have uT := same_upd (o := HO.tup [V.int (i : Nat), V.ref t]) nT
      have s3 : Same H _ := (sz.trans kp).trans uT
      have hl3 := uT _ _ hl
      obtain ⟨e0, e1, n0, n1⟩ := wo e hm
      obtain ⟨ts, t2, hf, ha, h3, _⟩ := stt_at (fa.same s3) n0 n1
      have ie : i < es.length := (List.getElem?_eq_some_iff.mp he).1
      have eg : es.getD i (0, 0) = e := by rw [List.getD_eq_getElem?_getD, he]; rfl
      have cs : cuts fr es (i + 1) = cuts fr es i ++ (if ends fr e = true then [(i : Int) + 1] else []) := by
        unfold cuts
        rw [List.range_succ, List.filter_append, List.map_append, List.filter_cons, eg]
        split <;> rfl
      refine ⟨T, _, rfl, SqT.of upd_same, rfl, _, _, rfl, _, _, rfl, ⟨t, _, rfl, SqT.of (s3 _ _ e4), rfl, _, _, rfl, _, _, rfl, rfl, rfl, rfl, ?_⟩⟩
      refine ⟨_, rfl, _, rfl, f, _, e.2, .ref t2, rfl, rfl, SqT.of hf, ha, t2, _, 2, _, rfl, rfl, SqT.of h3, atI_nat (j := 2) rfl, rfl, _, rfl, ?_⟩
      refine ite2 (fun y => ?_) (fun y => ?_)
      · have y1 : (stt fr e.2).2.2 = 0 := V.int.inj (of_decide_eq_true y)
        have en : ends fr e = true := decide_eq_true y1
        refine ⟨_, rfl, _, _, rfl, rfl, _, hl3, ?_, ?_, fun b o q => ?_⟩
        · have := cl i (by omega)
          rw [List.length_map, sizeLine_eq]
          omega
        · rw [cs, if_pos en, List.map_append]
          exact upd_same
        · rw [upd_ne (ne_of_none q hD)]
          exact uT _ _ (kp b o q)
      · have en : ¬ ends fr e = true := fun q => y (decide_eq_true (congrArg V.int (of_decide_eq_true q)))
        refine ⟨?_, fun b o q => uT _ _ (kp b o q)⟩
        rw [cs, if_neg en, List.append_nil]
        exact hl3
    · rintro H1 ⟨hl, kp⟩
      rw [List.length_map, wl] at hl
      have := cl es.length (Nat.le_refl _)
      have z2 := kp _ _ (upd_same (a := z))
      refine ⟨z, D, _, _, rfl, rfl, z2, hl, ?_, fun p hp => ?_⟩
      · rw [List.length_map, sizeLine_eq]
        simp only [List.length_cons, List.length_nil]
        omega
      · refine q _ p (fun b o e => same_upd hp _ _ (kp _ _ (sz _ _ e))) ((sz.trans kp).free hp) ?_
        exact upd_same
end
end K41

set_option Elab.async false
set_option linter.all false
set_option maxRecDepth 100000
set_option maxHeartbeats 4000000
/-! a[i] += t for a list of tuples. -/
namespace L2
open PySem PySem.Spec PyProof.Rows HT
section
variable {prog : Program} {w : World} {A : Around} {E : Value → Shared → Prop} {s : Shared}
theorem noI_tup : typeLookup (.type "tuple") (dunderI "add") = pure none := by rw [typeLookup_type, builtinLookup_eq_fast]; kernel_rfl
theorem icat_meets {T id : String} {B : Builtin} {a b : Value} {S : PySem.Spec} {Q : Value → Shared → Prop} (ha : s.TypeIs a T) (hb : s.TypeIs b T) (hno : typeLookup (.type T) (dunderI "add") = pure none)
    (hfill : fillsNumberSlot (.type T) "add" = pure false) (hseq : seqSlot? (.type T) "__add__" = pure (some (.builtin id))) (slot : Slot T "__add__" id)
    (entry : entryFor table id = some B) (args : argsOk id ⟨[a, b], []⟩) (g : Meets (B ⟨[a, b], []⟩) S) (h : S A (wants Q E) s) : wpAny (model prog w) A (inplaceOp .Add a b) Q E s :=
  wpAny_inplaceOp_concat ha hb hno hfill hseq (call_meets slot ha entry args g h)
theorem icat_tup0 {t b : Addr} {ws : List Value} {Q : Value → Shared → Prop} (ht : IsTup s.heap t ([] : List Value).toArray) (hb : IsTup s.heap b ws.toArray) (h : Q (.ref b) s) : wpAny (model prog w) A (inplaceOp .Add (.ref t) (.ref b)) Q E s := by
  obtain ⟨⟨cls, dd, data, sl⟩, ho, hc, n, hd⟩ := id ht
  obtain ⟨⟨cls2, dd2, data2, sl2⟩, ho2, hc2, n2, hd2⟩ := id hb
  simp only at hc hd hc2 hd2
  subst hc hd hc2 hd2
  exact icat_meets ⟨_, ho, rfl⟩ ⟨_, ho2, rfl⟩ noI_tup noFill_tuple_add seq_tuple_add PySem.F.slot_tuple_add PySem.F.entry_tuple_add (PySem.F.args_tuple_add_2 _ _)
    (tuple_addW0 t b ([] : List Value).toArray ws.toArray n n2 dd dd2 sl sl2 (by simp)) ⟨ho, ho2, h⟩
theorem icat_tup {t b : Addr} {vs ws : List Value} {Q : Value → Shared → Prop} (ht : IsTup s.heap t vs.toArray) (hb : IsTup s.heap b ws.toArray) (hv : vs ≠ []) (hw : ws ≠ [])
    (h2 : Q (.ref s.heap.objs.size) { s with heap := s.heap.push { cls := .type "tuple", data := .seq (vs ++ ws).toArray } })
    (hsz : vs.length + ws.length ≤ sizeLine) : wpAny (model prog w) A (inplaceOp .Add (.ref t) (.ref b)) Q E s := by
  obtain ⟨⟨cls, dd, data, sl⟩, ho, hc, n, hd⟩ := id ht
  obtain ⟨⟨cls2, dd2, data2, sl2⟩, ho2, hc2, n2, hd2⟩ := id hb
  simp only at hc hd hc2 hd2
  subst hc hd hc2 hd2
  have e : vs.toArray ++ ws.toArray = (vs ++ ws).toArray := by simp
  refine icat_meets ⟨_, ho, rfl⟩ ⟨_, ho2, rfl⟩ noI_tup noFill_tuple_add seq_tuple_add PySem.F.slot_tuple_add PySem.F.entry_tuple_add (PySem.F.args_tuple_add_2 _ _)
    (tuple_addW2 t b vs.toArray ws.toArray n n2 dd dd2 sl sl2 (by simpa using hv) (by simpa using hw) (by rw [List.size_toArray, List.size_toArray]; exact hsz)) ⟨ho, ho2, ?_⟩
  rw [e]
  exact h2
end
section
variable {X : Cx}
/-- t += u for tuples, u not empty -/
def ipT (K : PySem.W.Frag) : TIp := fun x y H Q => ∃ a b xs ys, x = .ref a ∧ y = .ref b ∧ SqT K H a xs ∧ SqT K H b ys ∧ ys ≠ [] ∧ xs.length + ys.length ≤ sizeLine ∧
  (xs = [] → Q (.ref b) H) ∧ (xs ≠ [] → ∀ p, H p = none → Q (.ref p) (upd H p (.tup (xs ++ ys))))
theorem ip_catT : PIp X .Add (ipT X.K) := by
  intro pins s σ H x y v u Q I rx ry h
  obtain ⟨a, b, xs, ys, rfl, rfl, ha, hb, hy, hz, q1, q2⟩ := h
  cases rx
  cases ry
  obtain ⟨its, r1, p1, _⟩ := I.tuple ha
  obtain ⟨its2, r2, p2, _⟩ := I.tuple hb
  by_cases hx : xs = []
  · subst hx
    cases r1
    exact icat_tup0 p1 p2 ⟨.ref b, H, I, rfl, q1 rfl⟩
  · refine icat_tup p1 p2 (fun z => hx (r1.nil_iff.mp z)) (fun z => hy (r2.nil_iff.mp z)) ?_ (by rw [← r1.length, ← r2.length]; exact hz)
    refine ⟨.ref s.heap.objs.size, _, I.laid (t' := s.toks) (o := .tup (xs ++ ys)) (fun b ob q => Heap.get?_push_of_some _ q) (Nat.le_refl _) ?_, rfl, q2 hx _ (I.hok.fresh (Nat.le_refl _))⟩
    exact ⟨by rw [List.length_append]; exact hz, _, r1.append r2, IsTup.new _ _⟩
/-- a[i] of a list, i not negative -/
def gtL (K : PySem.W.Frag) : V → V → Hp → VK → Prop := fun x y H Q => ∃ p xs i v, x = .ref p ∧ y = .int i ∧ SqL K H p xs ∧ 0 ≤ i ∧ atI xs i = some v ∧ Q v H
theorem get_list : PGet X (gtL X.K) := by
  intro pins s σ H o i ov iv Q I ro ri h
  obtain ⟨p, xs, k, z, rfl, rfl, hq, h0, he, q⟩ := h
  cases ro
  obtain ⟨t, rfl⟩ := ri
  obtain ⟨its, r, pl, hz⟩ := I.list hq
  obtain ⟨j, h1, h2, h3, h4, h5⟩ := atI_get he
  obtain ⟨w, ew, rw'⟩ := r.get h2
  have hl := r.length
  have hn := line63
  have hj : k.toNat = j := by
    rw [seqIndex_of h0 h5] at h1
    exact Option.some.inj h1
  exact wpAny_getItem_list pl.isList h0 (by omega) (by rw [hj]; simpa using ew) ⟨z, H, I, rw', q⟩
end
end L2

set_option Elab.async false
set_option linter.all false
set_option maxRecDepth 100000
set_option maxHeartbeats 4000000
/-! BadWeaving; need_turned of any data. -/
namespace K41
open PySem L2 L2.EV
def filt (ds : List PyData) : List PyData := ds.filter fun d => !isWd d
def numsN : List PyData → Nat → List Nat
  | [], _ => []
  | d :: ds, i => if isWd d = true then numsN ds (i + 1) else i :: numsN ds (i + 1)
theorem nums_len : ∀ {ds : List PyData} {i : Nat}, (numsN ds i).length ≤ ds.length
  | [], _ => Nat.le_refl _
  | d :: ds, i => by
    have := nums_len (ds := ds) (i := i + 1)
    unfold numsN
    split
    · rw [List.length_cons]; omega
    · rw [List.length_cons, List.length_cons]; omega
theorem nums_lt : ∀ {ds : List PyData} {i : Nat}, ∀ n ∈ numsN ds i, n < i + ds.length
  | [], _, n, h => by cases h
  | d :: ds, i, n, h => by
    unfold numsN at h
    rw [List.length_cons]
    split at h
    · have := nums_lt n h
      omega
    · rcases List.mem_cons.mp h with rfl | h
      · omega
      · have := nums_lt n h
        omega
theorem filt_cons (d : PyData) (ds : List PyData) : filt (d :: ds) = if isWd d = true then filt ds else d :: filt ds := by
  unfold filt
  rw [List.filter_cons]
  cases isWd d <;> rfl
theorem filt_nums : ∀ {ds pre : List PyData}, (numsN ds pre.length).map (fun n => (pre ++ ds).getD n .none) = filt ds
  | [], _ => rfl
  | d :: ds, pre => by
    have ih := filt_nums (ds := ds) (pre := pre ++ [d])
    rw [List.append_assoc, List.length_append] at ih
    rw [filt_cons]
    unfold numsN
    have ih : (numsN ds (pre.length + 1)).map (fun n => (pre ++ d :: ds).getD n .none) = filt ds := ih
    split
    · exact ih
    · rw [List.map_cons, ih]
      congr 1
      rw [List.getD_eq_getElem?_getD, List.getElem?_append_right (Nat.le_refl _), Nat.sub_self]
      rfl
theorem DaAll.append {H : Hp} : ∀ {xs ys : List V} {ds es : List PyData}, DaAll H xs ds → DaAll H ys es → DaAll H (xs ++ ys) (ds ++ es)
  | _, _, _, _, .nil, h => h
  | _, _, _, _, .cons a t, h => .cons a (t.append h)
theorem same_push {H H' : Hp} {D : Addr} {o : HO} (hD : H D = none) (s : Same H H') : Same H (upd H' D o) := fun b x z => by
  rw [upd_ne (ne_of_none z hD)]
  exact s _ _ z
/-- a right turned weaving, as data -/
def spNeedT : Sp := fun vs H Q _ => ∃ (f a : Addr) (fr : List T3) (last : Nat) (ds : List PyData), vs = [.ref f, .ref a] ∧ FrA H f fr ∧ Frm fr last ∧ Da H (.ref a) (.tuple ds) ∧ ds.length ≤ 200 ∧ wrongF fr (filt ds) (all8 (some 0)) 0 = none ∧ ∀ H', Same H H' → Q (.ref a) H'
abbrev sNeedT : Stmt := top 31
structure Wg (K : PySem.W.Frag) (mg : Str → Option Value) where
  Y : Ws K mg
  O : Wo K mg
  f : Addr
  d : FuncData
  F : Fun K "need_turned" "need_turned" sNeedT f d
  b : Binds K d ["framing", "thing"] []
  m : mg "need_turned" = some (.ref f)
section
variable {P : Program} {w : World} {K : PySem.W.Frag} {mg : Str → Option Value} {base : Heap}
theorem scNeedT : FnScope ["framing", "thing", "number", "part", "numbers", "wrong"] ["framing", "thing"] (defScope sNeedT) := ⟨rfl, rfl, rfl, by decide +kernel, rfl, by decide +kernel, by decide +kernel⟩
theorem ok_needT (W : Wg K mg) : FnOk P w K mg base CX0 4 W.f W.d ["framing", "thing"] spNeedT := by
  have GF : FnOk P w K mg base CX0 3 W.Y.Z.fF W.Y.Z.dF ["thing"] spNeedF := ok_needF W.Y.Z
  have GR : FnOk P w K mg base CX0 3 W.Y.fR W.Y.dR ["framing", "things", "begin"] spWrongL := ok_wrongL W.Y
  have GW : FnOk P w K mg base CX0 1 W.O.f W.O.d ["thing"] spIsWord := ok_isWord W.O
  refine W.F.ok scNeedT (fun vs H Q E h => ?_) (fun cdv A outer s H vs Q E hr h => ?_)
  · obtain ⟨f, a, fr, last, ds, rfl, _⟩ := h
    rfl
  · obtain ⟨f, a, fr, last, ds, rfl, fa, fm, da, c, ef, q⟩ := h
    obtain ⟨tm, eM⟩ := W.Y.most
    have r1 := hr.mono (j := 1) (by omega)
    refine ⟨_, pss_cons (ps_expr (pe_call GF hr (by rfl) W.Y.Z.mF W.Y.Z.F.kp W.Y.Z.bF .nil pass0 (pa_cons (pv 0) pa_nil)))
      (pss_cons (ps_if (pw_or (pt_not (pt_val (pe_callB call_isi (by rfl) W.Y.Z.T.isi PyProof.Rows.boot_isinstance (pa_cons (pv 1) (pa_cons (pe_bltn (v := .ty "tuple") (by rfl) W.Y.Z.T.tuple (by decide +kernel) rfl) pa_nil)))))
        (pw_or1 (pt_cmpR op_gt (pe_callB call_len_seq (by rfl) W.Y.Z.T.len PySem.boot_len (pa_cons (pv 1) pa_nil)) (pe_glob (v := .int 200) (by rfl) eM ⟨_, rfl⟩) (nomark _)))).pt
        pss_never pss_nil)
      (pss_cons (ps_setLc (i := 4) (y := "numbers") (own := [("number", 2), ("part", 3)]) (g := gTup K 2 (gCons (gName 2) (gCons (gName 3) gNil))) (te := tVar 2) (tt := tNot (tB (tCall spIsWord [] E0 (tCons (tVar 3) tNil)))) rfl scNeedT.nd rfl rfl (by rfl) (pi_enumT (by rfl) W.Y.Z.en (pa_cons (pv 1) pa_nil))
        (blkOk_by (N := ["framing", "thing", "number", "part", "numbers", "wrong"]) (sc := defScope sNeedT) (by decide +kernel))
        (fun _ _ _ _ _ => pg_tup rfl (pgs_cons (pg_name (i := 2) scNeedT.nd rfl (Or.inl rfl)) (pgs_cons (pg_name (i := 3) scNeedT.nd rfl (Or.inl rfl)) pgs_nil)))
        (fun _ _ _ _ _ => pts_one (pt_not (pt_val (pe_call GW r1 (by rfl) W.O.m W.O.F.kp W.O.b .nil pass0 (pa_cons (pv 3) pa_nil))))) (fun _ _ _ _ _ => pv 2))
      (pss_cons (ps_set (i := 5) scNeedT.nd rfl (Or.inl rfl) (pe_call GR hr (by rfl) W.Y.mR W.Y.R.kp W.Y.bR .nil pass0 (pa_cons (pv 0) (pa_cons (pe_lc (own := [("number", 2)]) (g := gName 2) (te := tOp (rIxT K) (tVar 1) (tVar 2)) rfl scNeedT.nd (pi_list (pv 4))
          (blkOk_by (N := ["framing", "thing", "number", "part", "numbers", "wrong"]) (sc := defScope sNeedT) (by decide +kernel))
          (fun _ _ _ _ _ => pg_name (i := 2) scNeedT.nd rfl (Or.inl rfl)) (fun _ _ _ _ _ => pts_nil) (fun _ _ _ _ _ => pe_ix ix_tup (pv 1) (pv 2) (fun _ _ => rfl))) (pa_cons pe_int pa_nil)))))
      (pss_cons (ps_if (pt_cmpR op_notN (pv 5) pe_non (nomark _)) pss_never pss_nil)
      (pss_one (ps_ret (pv 1))))))), ?_⟩
    refine ⟨_, rfl, f, fr, last, rfl, fa, fm, fun H1 s1 => ?_⟩
    have da1 := Da.same s1 _ _ da
    obtain ⟨t, ty, kt, _, _⟩ := da1.ty (K := K)
    refine ⟨_, rfl, .ref a, .ty "tuple", t, .type "tuple", true, rfl, .ty "tuple", ty, kt, true, rfl, ?_⟩
    cases da1 with
    | @tup a xs ds e all =>
      refine iteF ?_
      have da2 : Da H1 (.ref a) (.tuple ds) := .tup e all
      have ln := all.len
      refine ⟨_, rfl, a, _, rfl, .inr (SqT.of e), _, 200, rfl, rfl, _, rfl, ?_⟩
      refine iteF' (decide_eq_false (by omega)) ?_
      refine ⟨_, rfl, a, _, rfl, SqT.of e, fun D hD => ?_⟩
      refine lc_it (walk_enumT (xs := xs)) (fun i H' => ∃ l : List Nat, H' D = some (.lst (l.map fun n : Nat => V.int n)) ∧ l.length ≤ i ∧ numsN ds 0 = l ++ numsN (ds.drop i) i ∧ Same H1 H')
        ⟨[], upd_same, Nat.le_refl _, rfl, same_upd hD⟩ (fun i H' _ ⟨_, _, _, _, z⟩ => SqT.of (z _ _ e)) ?_ ?_
      · rintro i x H2 H3 hi ⟨l, hl, ll, inv, s2⟩ ⟨T, xi, xo, rfl, nT, rfl, h1, h2⟩
        cases h1
        obtain ⟨d, hd, dv⟩ := all.at_ h2
        have uT := same_upd (o := HO.tup [V.int (i : Nat), xo]) nT
        have s3 := s2.trans uT
        have e1 : numsN (ds.drop i) i = if isWd d = true then numsN (ds.drop (i + 1)) (i + 1) else i :: numsN (ds.drop (i + 1)) (i + 1) := by
          rw [drop_at hd]
          rfl
        refine ⟨T, _, rfl, SqT.of upd_same, rfl, _, _, rfl, _, _, rfl, rfl, rfl, ?_⟩
        refine ⟨_, rfl, xo, d, rfl, Da.same s3 _ _ dv, fun H4 s4 => ⟨_, rfl, ?_⟩⟩
        cases ew : isWd d with
        | true =>
          rw [ew, if_pos rfl] at e1
          refine iteF' rfl ⟨l, s4 _ _ (uT _ _ hl), by omega, by rw [inv, e1], s3.trans s4⟩
        | false =>
          rw [ew, if_neg (by decide)] at e1
          refine iteT' rfl ⟨_, rfl, _, s4 _ _ (uT _ _ hl), ?_, l ++ [i], ?_, ?_, ?_, fun b o w => ?_⟩
          · rw [List.length_map, sizeLine_eq]
            have : xs.length ≤ 200 := by omega
            omega
          · rw [List.map_append]
            exact upd_same
          · rw [List.length_append]
            simp only [List.length_cons, List.length_nil]
            omega
          · rw [inv, e1, List.append_assoc]
            rfl
          · rw [upd_ne (ne_of_none w hD)]
            exact (s3.trans s4) _ _ w
      · rintro H2 ⟨l, hl, ll, inv, s2⟩
        have e0 : ds.drop xs.length = [] := by
          rw [ln]
          exact List.drop_length
        rw [e0] at inv
        have inv : numsN ds 0 = l := by
          rw [inv]
          exact List.append_nil l
        have fl : filt ds = l.map (fun n => ds.getD n .none) := by
          rw [← inv]
          exact (filt_nums (ds := ds) (pre := [])).symm
        have lt : ∀ n ∈ l, n < ds.length := fun n hn => by
          have := nums_lt (ds := ds) (i := 0) n (by rw [inv]; exact hn)
          omega
        refine ⟨_, rfl, _, rfl, D, rfl, ⟨_, SqL.of hl⟩, fun D2 hD2 => ?_⟩
        refine lc_it (walk_list (xs := l.map fun n : Nat => V.int n)) (fun i H' => ∃ ys : List V, H' D2 = some (.lst ys) ∧ ys.length = i ∧ DaAll H1 ys ((l.take i).map fun n => ds.getD n .none) ∧ Same H2 H')
          ⟨[], upd_same, rfl, .nil, same_upd hD2⟩ (fun i H' _ ⟨_, _, _, _, z⟩ => SqL.of (z _ _ hl)) ?_ ?_
        · rintro i x H3 H4 hi ⟨ys, hy, yl, ya, s3⟩ ⟨rfl, h2⟩
          rw [List.length_map] at hi
          have hn : l[i]? = some l[i] := List.getElem?_eq_getElem hi
          rw [List.getElem?_map, hn] at h2
          obtain rfl : V.int (l[i] : Nat) = x := Option.some.inj h2
          have nlt := lt l[i] (List.getElem_mem hi)
          have hd : ds[l[i]]? = some (ds.getD l[i] .none) := by
            rw [List.getD_eq_getElem?_getD, List.getElem?_eq_getElem nlt]
            rfl
          obtain ⟨v, hv, dv⟩ := all.at' hd
          refine ⟨rfl, ?_⟩
          refine ⟨_, rfl, _, rfl, a, xs, (l[i] : Nat), v, rfl, rfl, SqT.of (s3 _ _ (s2 _ _ e)), atI_nat hv, ys, hy, ?_, ys ++ [v], upd_same, by rw [List.length_append, yl]; rfl, ?_, same_push hD2 s3⟩
          · rw [yl, sizeLine_eq]
            have : l.length ≤ 200 := by omega
            omega
          · rw [List.take_succ, hn, List.map_append]
            exact ya.append (.cons dv .nil)
        · rintro H3 ⟨ys, hy, yl, ya, s3⟩
          rw [List.length_map] at yl ya
          rw [List.take_length, ← fl] at ya
          have s13 := s2.trans s3
          refine ⟨f, D2, fr, filt ds, some 0, rfl, fa.same (s1.trans s13), .lst hy (DaAll.same s13 _ _ ya), fun H4 s4 => ?_⟩
          have s14 := (s1.trans s13).trans s4
          rw [ef]
          exact ⟨_, rfl, rfl, _, rfl, iteF' (by simp [wv]) ⟨_, rfl, q H4 s14⟩⟩
end
end K41

set_option Elab.async false
set_option linter.all false
set_option maxRecDepth 100000
set_option maxHeartbeats 4000000
/-! repr of data, of any size. -/
namespace L2
namespace EV
open PySem PySem.Spec PyProof.Rows _root_.EV
/-- repr of data -/
def rShowV (K : PySem.W.Frag) : List V → Hp → VK → Prop := fun xs H Q => ∃ (v : V) (d : PyData), xs = [v] ∧ Dp K H v d ∧ d.showable = true ∧ d.hasDict = false ∧ d.shown.length ≤ sizeLine ∧ d.depth ≤ 5 ∧ Q (.str d.shown) H
theorem call_showV {X : Cx} (hgd : X.A.guards = some []) (hu : X.A.units + 64 < cLine) : CallR X (.builtin "repr") (rShowV X.K) := by
  intro pins s σ H xs us Q I r h
  obtain ⟨v, d, rfl, hd, sh, nd, sz, dp, q⟩ := h
  obtain ⟨u, rfl, ru⟩ := vals1 r
  obtain ⟨as, rd⟩ := Dp.reads I d v u hd ru
  have at_ : ∀ a : Addr, u = .ref a → wpAny (model X.prog X.w) X.A (call (.builtin "repr") [u]) (EP X pins σ Q) X.xe s := fun a e => by
    subst e
    exact repr_of_reads' rd sh (fun z => by rw [nd] at z; cases z) hgd (by omega) (fun _ _ e => e) (fun h' t tk hk => ⟨.str _, H, I.kept (t' := tk) hk, ⟨_, rfl⟩, q⟩) sz
  cases hd with
  | non =>
    obtain rfl : u = Value.none := ru
    simp only [PyData.shown] at q
    exact PySem.P.repr_of_none ⟨.str _, H, I.tok _, ⟨_, rfl⟩, q⟩
  | bl b =>
    obtain rfl : u = Value.bool b := ru
    simp only [PyData.shown] at q
    exact PySem.P.repr_of_bool ⟨.str _, H, I.tok _, ⟨_, rfl⟩, q⟩
  | int i =>
    obtain ⟨t, rfl⟩ := (show ∃ t, u = Value.int i t from ru)
    simp only [PyData.shown] at q
    simp only [PyData.showable, decide_eq_true_eq] at sh
    exact PySem.P.repr_of_int sh ⟨.str _, H, I.tok _, ⟨_, rfl⟩, q⟩
  | str x =>
    obtain ⟨t, rfl⟩ := (show ∃ t, u = Value.str x t from ru)
    simp only [PyData.shown] at q sz
    exact PySem.P.repr_of_str ⟨.str _, H, I.tok _, ⟨_, rfl⟩, q⟩ sz
  | @lst a xs ds h1 h2 => exact at_ a ru
  | @tup a xs ds h1 h2 => exact at_ a ru
end EV
end L2
namespace K41
open PySem L2 L2.EV
structure Okd (d : PyData) (n dp : Nat) : Prop where
  sh : d.showable = true
  nd : d.hasDict = false
  sz : d.shown.length ≤ n
  dp : d.depth ≤ dp
  lay : d.canLay0 = true
theorem Okd.le {d : PyData} {n m dp dq : Nat} (h : Okd d n dp) (a : n ≤ m) (b : dp ≤ dq) : Okd d m dq := ⟨h.sh, h.nd, Nat.le_trans h.sz a, Nat.le_trans h.dp b, h.lay⟩
theorem okd_int {i : Int} (h0 : 0 ≤ i) (h1 : i < 64) : Okd (.int i) 10 0 := by
  obtain ⟨k, rfl⟩ := Int.eq_ofNat_of_zero_le h0
  have hk : k < 64 := by omega
  have z : ∀ k : Fin 64, (PyData.int ((k.val : Nat) : Int)).showable = true ∧ (PyData.int ((k.val : Nat) : Int)).shown.length ≤ 10 := by decide +kernel
  obtain ⟨z1, z2⟩ := z ⟨k, hk⟩
  exact ⟨z1, by simp only [PyData.hasDict], z2, by simp only [PyData.depth]; omega, by simp only [PyData.canLay0]⟩
theorem okd_str {x : Str} {m : Nat} (hs : PyData.strOk x = true) (hl : x.length ≤ m) : Okd (.str x) (10 * m + 2) 0 := by
  refine ⟨by simp only [PyData.showable], by simp only [PyData.hasDict], ?_, by simp only [PyData.depth]; omega, by simp only [PyData.canLay0]; exact hs⟩
  simp only [PyData.shown]
  have z := PySem.StrLaws.reprText_len x (fun c hc => by
    unfold PyData.strOk at hs
    rw [← Array.all_toList, List.all_eq_true] at hs
    have := of_decide_eq_true (hs c hc)
    exact Nat.lt_trans this (by decide))
  omega
theorem okd_all {n dp : Nat} : ∀ {ds : List PyData}, (∀ d ∈ ds, Okd d n dp) → PyData.showableAll ds = true ∧ PyData.hasDictAll ds = false ∧ ((PyData.shownAll ds).map (·.length)).sum ≤ n * ds.length ∧ (PyData.shownAll ds).length = ds.length ∧ PyData.depthAll ds ≤ dp ∧ PyData.canLayAll0 ds = true
  | [], _ => ⟨by simp [PyData.showableAll], by simp [PyData.hasDictAll], by simp [PyData.shownAll], by simp [PyData.shownAll], by simp [PyData.depthAll], by simp [PyData.canLayAll0]⟩
  | d :: ds, h => by
    have h1 := h d (List.mem_cons_self ..)
    obtain ⟨a, b, c, e, f, g⟩ := okd_all (ds := ds) fun d hd => h d (List.mem_cons_of_mem _ hd)
    have h2 := h1.sz
    have h3 := h1.dp
    refine ⟨by simp only [PyData.showableAll, h1.sh, a, Bool.and_self], by simp only [PyData.hasDictAll, h1.nd, b, Bool.or_self], ?_, by simp only [PyData.shownAll, List.length_cons, e], by simp only [PyData.depthAll]; omega, by simp only [PyData.canLayAll0, h1.lay, g, Bool.and_self]⟩
    simp only [PyData.shownAll, List.map_cons, List.sum_cons, List.length_cons, Nat.mul_add, Nat.mul_one]
    omega
theorem okd_list {n dp m : Nat} {ds : List PyData} (h : ∀ d ∈ ds, Okd d n dp) (hl : ds.length ≤ m) : Okd (.list ds) (m * (n + 2) + 3) (dp + 1) := by
  obtain ⟨a, b, c, e, f, g⟩ := okd_all h
  refine ⟨by simp only [PyData.showable, a], by simp only [PyData.hasDict, b], ?_, by simp only [PyData.depth]; omega, by simp only [PyData.canLay0, g]⟩
  simp only [PyData.shown]
  have z := listText_len_le (PyData.shownAll ds)
  rw [e] at z
  have y : n * ds.length ≤ n * m := Nat.mul_le_mul_left _ hl
  rw [Nat.mul_add, Nat.mul_comm m n]
  omega
theorem okd_tuple {n dp m : Nat} {ds : List PyData} (h : ∀ d ∈ ds, Okd d n dp) (hl : ds.length ≤ m) : Okd (.tuple ds) (m * (n + 2) + 3) (dp + 1) := by
  obtain ⟨a, b, c, e, f, g⟩ := okd_all h
  refine ⟨by simp only [PyData.showable, a], by simp only [PyData.hasDict, b], ?_, by simp only [PyData.depth]; omega, by simp only [PyData.canLay0, g]⟩
  simp only [PyData.shown]
  have z := tupleText_len_le (PyData.shownAll ds)
  rw [e] at z
  have y : n * ds.length ≤ n * m := Nat.mul_le_mul_left _ hl
  rw [Nat.mul_add, Nat.mul_comm m n]
  omega
end K41

set_option Elab.async false
set_option linter.all false
set_option maxRecDepth 100000
set_option maxHeartbeats 4000000
/-! Turned weavings; the rows of their files. -/
namespace K41
open PySem L2 L2.EV
/-- a thing of a turned weaving -/
inductive Tn where
  | turn
  | copy
  | cut
  | ent (e : E2)
def dT : Tn → PyData
  | .turn => .str "turn"
  | .copy => .str "copy"
  | .cut => .str "cut"
  | .ent e => d2 e
inductive TnA (H : Hp) : V → Tn → Prop
  | turn : TnA H (.str "turn") .turn
  | copy : TnA H (.str "copy") .copy
  | cut : TnA H (.str "cut") .cut
  | ent {t : Addr} {e : E2} : A2 H t e → TnA H (.ref t) (.ent e)
theorem TnA.same {H H' : Hp} {x : V} {t : Tn} (h : TnA H x t) (s : Same H H') : TnA H' x t := by
  cases h with
  | turn => exact .turn
  | copy => exact .copy
  | cut => exact .cut
  | ent a => exact .ent (s _ _ a)
theorem TnA.da {H : Hp} {x : V} {t : Tn} (h : TnA H x t) : Da H x (dT t) := by
  cases h with
  | turn => exact .str _
  | copy => exact .str _
  | cut => exact .str _
  | ent a => exact .tup a (.cons (.int _) (.cons (.int _) .nil))
inductive TnS (H : Hp) : List V → List Tn → Prop
  | nil : TnS H [] []
  | cons {x : V} {t : Tn} {xs : List V} {ts : List Tn} : TnA H x t → TnS H xs ts → TnS H (x :: xs) (t :: ts)
theorem TnS.same {H H' : Hp} (s : Same H H') : ∀ {xs : List V} {ts : List Tn}, TnS H xs ts → TnS H' xs ts
  | _, _, .nil => .nil
  | _, _, .cons a t => .cons (a.same s) (t.same s)
theorem TnS.len {H : Hp} : ∀ {xs : List V} {ts : List Tn}, TnS H xs ts → xs.length = ts.length
  | _, _, .nil => rfl
  | _, _, .cons _ t => by rw [List.length_cons, List.length_cons, t.len]
theorem TnS.app {H : Hp} : ∀ {xs ys : List V} {ts us : List Tn}, TnS H xs ts → TnS H ys us → TnS H (xs ++ ys) (ts ++ us)
  | _, _, _, _, .nil, q => q
  | _, _, _, _, .cons a t, q => .cons a (t.app q)
theorem TnS.rep {H : Hp} {xs : List V} {ts : List Tn} (h : TnS H xs ts) : ∀ n : Nat, TnS H (List.replicate n xs).flatten (List.replicate n ts).flatten
  | 0 => .nil
  | n + 1 => by
    rw [List.replicate_succ, List.replicate_succ, List.flatten_cons, List.flatten_cons]
    exact h.app (h.rep n)
theorem TnS.das {H : Hp} : ∀ {xs : List V} {ts : List Tn}, TnS H xs ts → DaAll H xs (ts.map dT)
  | _, _, .nil => .nil
  | _, _, .cons a t => .cons a.da t.das
theorem TnS.at_ {H : Hp} : ∀ {xs : List V} {ts : List Tn} {i : Nat} {x : V}, TnS H xs ts → xs[i]? = some x → ∃ t, ts[i]? = some t ∧ TnA H x t
  | _, _, 0, _, .cons a _, e => by
    cases e
    exact ⟨_, rfl, a⟩
  | _, _, i + 1, _, .cons _ t, e => t.at_ (i := i) (by simpa using e)
  | _, _, _, _, .nil, e => by simp at e
theorem TnS.at' {H : Hp} : ∀ {xs : List V} {ts : List Tn} {i : Nat} {t : Tn}, TnS H xs ts → ts[i]? = some t → ∃ x, xs[i]? = some x ∧ TnA H x t
  | _, _, 0, _, .cons a _, e => by
    cases e
    exact ⟨_, rfl, a⟩
  | _, _, i + 1, _, .cons _ t, e => t.at' (i := i) (by simpa using e)
  | _, _, _, _, .nil, e => by simp at e
/-- at w stands a tuple of these things -/
def ThA (H : Hp) (w : Addr) (ts : List Tn) : Prop := ∃ xs, H w = some (.tup xs) ∧ TnS H xs ts
theorem ThA.same {H H' : Hp} {w : Addr} {ts : List Tn} (h : ThA H w ts) (s : Same H H') : ThA H' w ts := by
  obtain ⟨xs, e, t⟩ := h
  exact ⟨xs, s _ _ e, t.same s⟩
theorem ThA.da {H : Hp} {w : Addr} {ts : List Tn} (h : ThA H w ts) : Da H (.ref w) (.tuple (ts.map dT)) := by
  obtain ⟨xs, e, t⟩ := h
  exact .tup e t.das
/-- a right turned weaving -/
structure Rgt (fr : List T3) (ts : List Tn) : Prop where
  l : ts.length ≤ 200
  ent : ∀ e, Tn.ent e ∈ ts → Ent fr e
  go : wrongF fr (filt (ts.map dT)) (all8 (some 0)) 0 = none
/-! ### the rows -/
structure Fst where
  rows : List (List Nat)
  pr : Nat
  hm : List Nat
/-- whether an entry chooses a file -/
def goes (fr : List T3) (byP : Bool) (e : E2) : Bool := byP || decide ((stt fr e.2).1 = 0)
def stepF (fr : List T3) (byP : Bool) (s : Fst) (n : Nat) : Tn → Fst
  | .turn => ⟨s.rows ++ [[]], s.rows.length, s.hm⟩
  | .copy => ⟨s.rows ++ [s.rows.getD s.pr []], s.pr, s.hm⟩
  | .cut => ⟨s.rows.set s.pr [], s.pr, s.hm⟩
  | .ent e =>
    let hm := if goes fr byP e = true then s.hm.set e.1.toNat s.pr else s.hm
    ⟨s.rows.set (hm.getD e.1.toNat 0) (s.rows.getD (hm.getD e.1.toNat 0) [] ++ [n]), s.pr, hm⟩
def runF (fr : List T3) (byP : Bool) : List Tn → Nat → Fst → Fst
  | [], _, s => s
  | t :: ts, n, s => runF fr byP ts (n + 1) (stepF fr byP s n t)
def fs0 : Fst := ⟨[[]], 0, List.replicate 8 0⟩
def rowsF (fr : List T3) (byP : Bool) (ts : List Tn) : List (List Nat) := (runF fr byP ts 0 fs0).rows
/-- behind n things -/
structure Gd (s : Fst) (n : Nat) : Prop where
  p : s.pr < s.rows.length
  l8 : s.hm.length = 8
  h : ∀ k ∈ s.hm, k < s.rows.length
  l : s.rows.length ≤ n + 1
  r : ∀ r ∈ s.rows, r.length ≤ n ∧ ∀ k ∈ r, k < n
theorem Gd.zero : Gd fs0 0 := ⟨by decide, by decide, by decide, by decide, by decide⟩
theorem getD_mem {α : Type} {l : List α} {i : Nat} {d : α} (h : i < l.length) : l.getD i d ∈ l := by
  rw [List.getD_eq_getElem?_getD, List.getElem?_eq_getElem h]
  exact List.getElem_mem h
theorem mem_set {α : Type} {l : List α} {i : Nat} {x y : α} (h : y ∈ l.set i x) : y = x ∨ y ∈ l := by
  rcases List.mem_or_eq_of_mem_set h with z | z
  · exact .inr z
  · exact .inl z
theorem Gd.ent {s : Fst} {n : Nat} {hm : List Nat} (g : Gd s n) (l8 : hm.length = 8) (hh : ∀ k ∈ hm, k < s.rows.length) {w : Nat} (w8 : w < 8) : Gd ⟨s.rows.set (hm.getD w 0) (s.rows.getD (hm.getD w 0) [] ++ [n]), s.pr, hm⟩ (n + 1) := by
  have hk : hm.getD w 0 < s.rows.length := hh _ (getD_mem (by omega))
  obtain ⟨p, _, _, l, r⟩ := g
  refine ⟨by show s.pr < (s.rows.set _ _).length; rw [List.length_set]; exact p, l8, fun k hk => by show k < (s.rows.set _ _).length; rw [List.length_set]; exact hh k hk, by show (s.rows.set _ _).length ≤ _; rw [List.length_set]; omega, fun q hq => ?_⟩
  rcases mem_set hq with rfl | hq
  · obtain ⟨a, b⟩ := r _ (getD_mem (d := []) hk)
    refine ⟨by rw [List.length_append]; simp only [List.length_cons, List.length_nil]; omega, fun k hk => ?_⟩
    rcases List.mem_append.mp hk with z | z
    · have := b k z
      omega
    · rw [List.mem_singleton.mp z]
      omega
  · obtain ⟨a, b⟩ := r q hq
    exact ⟨by omega, fun k hk => by have := b k hk; omega⟩
theorem Gd.step {fr : List T3} {byP : Bool} {s : Fst} {n : Nat} {t : Tn} (g : Gd s n) (ht : ∀ e, t = .ent e → Ent fr e) : Gd (stepF fr byP s n t) (n + 1) := by
  have up : ∀ r ∈ s.rows, r.length ≤ n + 1 ∧ ∀ k ∈ r, k < n + 1 := fun r hr => by
    obtain ⟨a, b⟩ := g.r r hr
    exact ⟨by omega, fun k hk => by have := b k hk; omega⟩
  have p := g.p
  have l := g.l
  cases t with
  | turn =>
    refine ⟨by show s.rows.length < (s.rows ++ [[]]).length; rw [List.length_append]; simp, g.l8, fun k hk => by show k < (s.rows ++ [[]]).length; rw [List.length_append]; have := g.h k hk; omega, by show (s.rows ++ [[]]).length ≤ _; rw [List.length_append]; simp only [List.length_cons, List.length_nil]; omega, fun r hr => ?_⟩
    rcases List.mem_append.mp hr with z | z
    · exact up r z
    · rw [List.mem_singleton.mp z]
      exact ⟨Nat.zero_le _, fun k hk => by cases hk⟩
  | copy =>
    refine ⟨by show s.pr < (s.rows ++ [s.rows.getD s.pr []]).length; rw [List.length_append]; omega, g.l8, fun k hk => by show k < (s.rows ++ [s.rows.getD s.pr []]).length; rw [List.length_append]; have := g.h k hk; omega, by show (s.rows ++ [s.rows.getD s.pr []]).length ≤ _; rw [List.length_append]; simp only [List.length_cons, List.length_nil]; omega, fun r hr => ?_⟩
    rcases List.mem_append.mp hr with z | z
    · exact up r z
    · rw [List.mem_singleton.mp z]
      exact up _ (getD_mem p)
  | cut =>
    refine ⟨by show s.pr < (s.rows.set s.pr []).length; rw [List.length_set]; exact p, g.l8, fun k hk => by show k < (s.rows.set s.pr []).length; rw [List.length_set]; exact g.h k hk, by show (s.rows.set s.pr []).length ≤ _; rw [List.length_set]; omega, fun r hr => ?_⟩
    rcases mem_set hr with rfl | z
    · exact ⟨Nat.zero_le _, fun k hk => by cases hk⟩
    · exact up r z
  | ent e =>
    obtain ⟨e0, e1, _, _⟩ := ht e rfl
    have w8 : e.1.toNat < 8 := by omega
    show Gd ⟨s.rows.set ((if goes fr byP e = true then s.hm.set e.1.toNat s.pr else s.hm).getD e.1.toNat 0) (s.rows.getD ((if goes fr byP e = true then s.hm.set e.1.toNat s.pr else s.hm).getD e.1.toNat 0) [] ++ [n]), s.pr, if goes fr byP e = true then s.hm.set e.1.toNat s.pr else s.hm⟩ (n + 1)
    by_cases c : goes fr byP e = true
    · rw [if_pos c]
      refine g.ent (by rw [List.length_set]; exact g.l8) (fun k hk => ?_) w8
      rcases mem_set hk with rfl | z
      · exact p
      · exact g.h k z
    · rw [if_neg c]
      exact g.ent g.l8 g.h w8
theorem Gd.run {fr : List T3} {byP : Bool} : ∀ {ts : List Tn} {n : Nat} {s : Fst}, Gd s n → (∀ e, Tn.ent e ∈ ts → Ent fr e) → Gd (runF fr byP ts n s) (n + ts.length)
  | [], _, _, g, _ => g
  | t :: ts, n, s, g, h => by
    have z := Gd.run (fr := fr) (byP := byP) (ts := ts) (g.step (fr := fr) (byP := byP) (fun e z => h e (by rw [← z]; exact List.mem_cons_self ..))) (fun e he => h e (List.mem_cons_of_mem _ he))
    rw [List.length_cons]
    have e : n + (ts.length + 1) = n + 1 + ts.length := by omega
    rw [e]
    exact z
abbrev nI (n : Nat) : V := .int (n : Int)
/-- the rows are lists of their own -/
structure FI (H H' : Hp) (R M : Addr) (ads : List Addr) (s : Fst) : Prop where
  same : Same H H'
  r : H' R = some (.lst (ads.map V.ref))
  m : H' M = some (.lst (s.hm.map nI))
  len : ads.length = s.rows.length
  at_ : ∀ (i : Nat) a r, ads[i]? = some a → s.rows[i]? = some r → H' a = some (.lst (r.map nI))
  inj : ∀ (i j : Nat) a, ads[i]? = some a → ads[j]? = some a → i = j
  fr : ∀ a ∈ ads, H a = none ∧ a ≠ R ∧ a ≠ M
  nR : H R = none
  nM : H M = none
  ne : R ≠ M
theorem FI.mono {H H' H'' : Hp} {R M : Addr} {ads : List Addr} {s : Fst} (h : FI H H' R M ads s) (k : Same H' H'') : FI H H'' R M ads s :=
  ⟨h.same.trans k, k _ _ h.r, k _ _ h.m, h.len, fun i a r h1 h2 => k _ _ (h.at_ i a r h1 h2), h.inj, h.fr, h.nR, h.nM, h.ne⟩
theorem FI.got {H H' : Hp} {R M : Addr} {ads : List Addr} {s : Fst} (h : FI H H' R M ads s) {a : Addr} (ha : a ∈ ads) : ∃ o, H' a = some o := by
  obtain ⟨i, hi, e⟩ := List.getElem_of_mem ha
  have e1 : ads[i]? = some a := by rw [List.getElem?_eq_getElem hi, e]
  have e2 := List.getElem?_eq_getElem (l := s.rows) (i := i) (by rw [← h.len]; exact hi)
  exact ⟨_, h.at_ i a _ e1 e2⟩
theorem ne_fresh {H : Hp} {a b : Addr} (h : ∃ o, H a = some o) (n : H b = none) : a ≠ b := by
  rintro rfl
  obtain ⟨o, e⟩ := h
  rw [e] at n
  cases n
/-- a row more -/
theorem FI.add {H H' : Hp} {R M b : Addr} {ads : List Addr} {s : Fst} {r : List Nat} {p : Nat} (h : FI H H' R M ads s) (nb : H' b = none) :
    FI H (upd (upd H' b (.lst (r.map nI))) R (.lst (ads.map V.ref ++ [V.ref b]))) R M (ads ++ [b]) ⟨s.rows ++ [r], p, s.hm⟩ := by
  have bR : R ≠ b := ne_fresh ⟨_, h.r⟩ nb
  have bM : M ≠ b := ne_fresh ⟨_, h.m⟩ nb
  have nb0 : H b = none := by
    cases e : H b with
    | none => rfl
    | some o =>
      rw [h.same _ _ e] at nb
      cases nb
  have get : ∀ {i : Nat} {a : Addr}, (ads ++ [b])[i]? = some a → (ads[i]? = some a ∧ i < ads.length) ∨ (i = ads.length ∧ a = b) := fun {i a} e => by
    by_cases c : i < ads.length
    · rw [List.getElem?_append_left c] at e
      exact .inl ⟨e, c⟩
    · have : i = ads.length := by
        have := (List.getElem?_eq_some_iff.mp e).1
        rw [List.length_append] at this
        simp only [List.length_cons, List.length_nil] at this
        omega
      rw [this, List.getElem?_append_right (Nat.le_refl _), Nat.sub_self] at e
      exact .inr ⟨this, (Option.some.inj e).symm⟩
  refine ⟨fun c o z => ?_, ?_, ?_, ?_, fun i a q h1 h2 => ?_, fun i j a h1 h2 => ?_, fun a ha => ?_, h.nR, h.nM, h.ne⟩
  · rw [upd_ne (ne_of_none z h.nR), upd_ne (ne_of_none z nb0)]
    exact h.same _ _ z
  · rw [List.map_append]
    exact upd_same
  · rw [upd_ne h.ne.symm, upd_ne bM]
    exact h.m
  · rw [List.length_append, h.len]
    show _ = (s.rows ++ [r]).length
    rw [List.length_append]
    rfl
  · rcases get h1 with ⟨e, c⟩ | ⟨rfl, rfl⟩
    · have e2 : s.rows[i]? = some q := by
        have z : (s.rows ++ [r])[i]? = some q := h2
        rwa [List.getElem?_append_left (by rw [← h.len]; exact c)] at z
      have ha := List.mem_of_getElem? e
      obtain ⟨_, a1, a2⟩ := h.fr a ha
      rw [upd_ne a1, upd_ne (ne_fresh (h.got ha) nb)]
      exact h.at_ i a q e e2
    · have z : (s.rows ++ [r])[ads.length]? = some q := h2
      rw [h.len, List.getElem?_append_right (Nat.le_refl _), Nat.sub_self] at z
      rw [← Option.some.inj z, upd_ne bR.symm]
      exact upd_same
  · rcases get h1 with ⟨e, c⟩ | ⟨e, rfl⟩
    · rcases get h2 with ⟨e', c'⟩ | ⟨e', rfl⟩
      · exact h.inj i j a e e'
      · exact absurd rfl (ne_fresh (h.got (List.mem_of_getElem? e)) nb)
    · rcases get h2 with ⟨e', c'⟩ | ⟨e', _⟩
      · exact absurd rfl (ne_fresh (h.got (List.mem_of_getElem? e')) nb)
      · omega
  · rcases List.mem_append.mp ha with z | z
    · exact h.fr a z
    · rw [List.mem_singleton.mp z]
      exact ⟨nb0, bR.symm, bM.symm⟩
/-- a row anew -/
theorem FI.cut {H H' : Hp} {R M b : Addr} {ads : List Addr} {s : Fst} {p : Nat} (h : FI H H' R M ads s) (nb : H' b = none) :
    FI H (upd (upd H' b (.lst [])) R (.lst ((ads.map V.ref).set p (V.ref b)))) R M (ads.set p b) ⟨s.rows.set p [], s.pr, s.hm⟩ := by
  have bR : R ≠ b := ne_fresh ⟨_, h.r⟩ nb
  have bM : M ≠ b := ne_fresh ⟨_, h.m⟩ nb
  have nb0 : H b = none := by
    cases e : H b with
    | none => rfl
    | some o =>
      rw [h.same _ _ e] at nb
      cases nb
  have get : ∀ {i : Nat} {a : Addr}, (ads.set p b)[i]? = some a → (i ≠ p ∧ ads[i]? = some a) ∨ (i = p ∧ a = b) := fun {i a} e => by
    rw [List.getElem?_set] at e
    by_cases c : p = i
    · rw [if_pos c] at e
      split at e
      · exact .inr ⟨c.symm, (Option.some.inj e).symm⟩
      · cases e
    · rw [if_neg c] at e
      exact .inl ⟨fun z => c z.symm, e⟩
  refine ⟨fun c o z => ?_, ?_, ?_, ?_, fun i a q h1 h2 => ?_, fun i j a h1 h2 => ?_, fun a ha => ?_, h.nR, h.nM, h.ne⟩
  · rw [upd_ne (ne_of_none z h.nR), upd_ne (ne_of_none z nb0)]
    exact h.same _ _ z
  · rw [List.map_set]
    exact upd_same
  · rw [upd_ne h.ne.symm, upd_ne bM]
    exact h.m
  · rw [List.length_set, h.len]
    show _ = (s.rows.set p []).length
    rw [List.length_set]
  · have z : (s.rows.set p [])[i]? = some q := h2
    rw [List.getElem?_set] at z
    rcases get h1 with ⟨c, e⟩ | ⟨rfl, rfl⟩
    · rw [if_neg (fun k => c k.symm)] at z
      have ha := List.mem_of_getElem? e
      obtain ⟨_, a1, a2⟩ := h.fr a ha
      rw [upd_ne a1, upd_ne (ne_fresh (h.got ha) nb)]
      exact h.at_ i a q e z
    · rw [if_pos rfl] at z
      split at z
      · rw [← Option.some.inj z, upd_ne bR.symm]
        exact upd_same
      · cases z
  · rcases get h1 with ⟨c, e⟩ | ⟨e, rfl⟩
    · rcases get h2 with ⟨c', e'⟩ | ⟨e', rfl⟩
      · exact h.inj i j a e e'
      · exact absurd rfl (ne_fresh (h.got (List.mem_of_getElem? e)) nb)
    · rcases get h2 with ⟨c', e'⟩ | ⟨e', _⟩
      · exact absurd rfl (ne_fresh (h.got (List.mem_of_getElem? e')) nb)
      · omega
  · rcases mem_set ha with z | z
    · rw [z]
      exact ⟨nb0, bR.symm, bM.symm⟩
    · exact h.fr a z
/-- a writer's file -/
theorem FI.home {H H' : Hp} {R M : Addr} {ads : List Addr} {s : Fst} {k p : Nat} (h : FI H H' R M ads s) : FI H (upd H' M (.lst ((s.hm.map nI).set k (nI p)))) R M ads ⟨s.rows, s.pr, s.hm.set k p⟩ := by
  refine ⟨fun c o z => ?_, ?_, ?_, h.len, fun i a q h1 h2 => ?_, h.inj, h.fr, h.nR, h.nM, h.ne⟩
  · rw [upd_ne (ne_of_none z h.nM)]
    exact h.same _ _ z
  · rw [upd_ne h.ne]
    exact h.r
  · show _ = some (HO.lst ((s.hm.set k p).map nI))
    rw [List.map_set]
    exact upd_same
  · rw [upd_ne (h.fr a (List.mem_of_getElem? h1)).2.2]
    exact h.at_ i a q h1 h2
/-- a number more in a row -/
theorem FI.app {H H' : Hp} {R M a : Addr} {ads : List Addr} {s : Fst} {k n : Nat} {r : List Nat} (h : FI H H' R M ads s) (e1 : ads[k]? = some a) (e2 : s.rows[k]? = some r) :
    FI H (upd H' a (.lst (r.map nI ++ [nI n]))) R M ads ⟨s.rows.set k (r ++ [n]), s.pr, s.hm⟩ := by
  obtain ⟨f0, f1, f2⟩ := h.fr a (List.mem_of_getElem? e1)
  refine ⟨fun c o z => ?_, ?_, ?_, ?_, fun i b q h1 h2 => ?_, h.inj, h.fr, h.nR, h.nM, h.ne⟩
  · rw [upd_ne (ne_of_none z f0)]
    exact h.same _ _ z
  · rw [upd_ne f1.symm]
    exact h.r
  · rw [upd_ne f2.symm]
    exact h.m
  · show _ = (s.rows.set k (r ++ [n])).length
    rw [List.length_set]
    exact h.len
  · have z : (s.rows.set k (r ++ [n]))[i]? = some q := h2
    rw [List.getElem?_set] at z
    by_cases c : k = i
    · rw [if_pos c] at z
      subst c
      rw [e1] at h1
      cases h1
      split at z
      · rw [← Option.some.inj z, List.map_append]
        exact upd_same
      · cases z
    · rw [if_neg c] at z
      have ne : b ≠ a := by
        rintro rfl
        exact c (h.inj k i b e1 h1)
      rw [upd_ne ne]
      exact h.at_ i b q h1 z
/-- at p stands a list of lists of these numbers -/
def RowsA (H : Hp) (p : Addr) (rows : List (List Nat)) : Prop := ∃ ads : List Addr, H p = some (.lst (ads.map V.ref)) ∧ ads.length = rows.length ∧ ∀ (i : Nat) a r, ads[i]? = some a → rows[i]? = some r → H a = some (.lst (r.map nI))
theorem RowsA.same {H H' : Hp} {p : Addr} {rows : List (List Nat)} (h : RowsA H p rows) (s : Same H H') : RowsA H' p rows := by
  obtain ⟨ads, e, l, c⟩ := h
  exact ⟨ads, s _ _ e, l, fun i a r h1 h2 => s _ _ (c i a r h1 h2)⟩
theorem FI.rowsA {H H' : Hp} {R M : Addr} {ads : List Addr} {s : Fst} (h : FI H H' R M ads s) : RowsA H' R s.rows := ⟨ads, h.r, h.len, h.at_⟩
end K41

set_option Elab.async false
set_option linter.all false
set_option maxRecDepth 100000
set_option maxHeartbeats 4000000
/-! filled. -/
namespace K41
open PySem L2 L2.EV
abbrev sFilled : Stmt := top 33
def manS (byP : Bool) : Str := if byP = true then "piece" else "line"
def spFilled : Sp := fun vs H Q _ => ∃ (f w : Addr) (fr : List T3) (last : Nat) (ts : List Tn) (byP : Bool), vs = [.ref f, .ref w, .str (manS byP)] ∧ FrA H f fr ∧ Frm fr last ∧ ThA H w ts ∧ Rgt fr ts ∧ ∀ H' p, Same H H' → RowsA H' p (rowsF fr byP ts) → Q (.ref p) H'
structure Fl (K : PySem.W.Frag) (mg : Str → Option Value) where
  G : Wg K mg
  f : Addr
  d : FuncData
  F : Fun K "filled" "filled" sFilled f d
  b : Binds K d ["framing", "thing", "manner"] []
  m : mg "filled" = some (.ref f)
  cP : ∃ t, mg "BY_PIECE" = some (.str "piece" t)
  li : mg "list" = none
abbrev NF : List Str := ["framing", "thing", "manner", "rows", "present", "mark", "homes", "number", "part", "writer", "step"]
theorem sh_dT (t : Tn) : SeqAt.shaped (dT t) = true := by
  cases t with
  | turn => decide +kernel
  | copy => decide +kernel
  | cut => decide +kernel
  | ent e => rfl
theorem sh_w1 : SeqAt.shaped (.str "turn") = true := by decide +kernel
theorem sh_w2 : SeqAt.shaped (.str "copy") = true := by decide +kernel
theorem sh_w3 : SeqAt.shaped (.str "cut") = true := by decide +kernel
def isT : Tn → Bool
  | .turn => true
  | _ => false
def isC : Tn → Bool
  | .copy => true
  | _ => false
def isX : Tn → Bool
  | .cut => true
  | _ => false
theorem eq_turn (t : Tn) : PyData.eqv (dT t) (.str "turn") = isT t := by
  cases t with
  | turn => decide +kernel
  | copy => decide +kernel
  | cut => decide +kernel
  | ent e => simp [dT, d2, PyData.eqv, isT]
theorem eq_copy (t : Tn) : PyData.eqv (dT t) (.str "copy") = isC t := by
  cases t with
  | turn => decide +kernel
  | copy => decide +kernel
  | cut => decide +kernel
  | ent e => simp [dT, d2, PyData.eqv, isC]
theorem eq_cut (t : Tn) : PyData.eqv (dT t) (.str "cut") = isX t := by
  cases t with
  | turn => decide +kernel
  | copy => decide +kernel
  | cut => decide +kernel
  | ent e => simp [dT, d2, PyData.eqv, isX]
section
variable {P : Program} {w : World} {K : PySem.W.Frag} {mg : Str → Option Value} {base : Heap}
theorem scFilled : FnScope NF ["framing", "thing", "manner"] (defScope sFilled) := ⟨rfl, rfl, rfl, by decide +kernel, rfl, by decide +kernel, by decide +kernel⟩
theorem ok_filled (L : Fl K mg) : FnOk P w K mg base CX0 1 L.f L.d ["framing", "thing", "manner"] spFilled := by
  refine L.F.ok scFilled (fun vs H Q E h => ?_) (fun cdv A outer s H vs Q E hr h => ?_)
  · obtain ⟨f, w, fr, last, ts, byP, rfl, _⟩ := h
    rfl
  · obtain ⟨f, w, fr, last, ts, byP, rfl, fa, fm, ta, rg, q⟩ := h
    obtain ⟨tm, eM⟩ := L.G.Y.marks
    obtain ⟨t1, c1⟩ := L.G.O.c1
    obtain ⟨t2, c2⟩ := L.G.O.c2
    obtain ⟨t3, c3⟩ := L.G.O.c3
    obtain ⟨t4, c4⟩ := L.cP
    have hu64 := hr.units
    refine ⟨_, pss_cons (ps_set (i := 3) scFilled.nd rfl (Or.inl rfl) (pe_lst (pa_cons (pe_lst pa_nil) pa_nil)))
      (pss_cons (ps_set (i := 4) scFilled.nd rfl (Or.inl rfl) pe_int)
      (pss_cons (ps_setLc (i := 6) (y := "homes") (own := [("mark", 5)]) (g := gName 5) (te := tC (.int 0)) rfl scFilled.nd rfl rfl (by rfl) (pi_str (pe_glob (v := .str "ABCDEFGH") (by rfl) eM ⟨_, rfl⟩))
        (blkOk_by (N := NF) (sc := defScope sFilled) (by decide +kernel))
        (fun _ _ _ _ _ => pg_name (i := 5) scFilled.nd rfl (Or.inl rfl)) (fun _ _ _ _ _ => pts_nil) (fun _ _ _ _ _ => pe_int))
      (pss_cons (ps_for PassesOwn.never rfl (pi_enumT (by rfl) L.G.Y.Z.en (pa_cons (pv 1) pa_nil)) (pg_tup rfl (pgs_cons (pg_name (i := 7) scFilled.nd rfl (Or.inl rfl)) (pgs_cons (pg_name (i := 8) scFilled.nd rfl (Or.inl rfl)) pgs_nil)))
        (pss_one (ps_if (pt_cmpR (op_eqD hu64) (pv 8) (pe_glob (v := .str "turn") (by rfl) c1 ⟨_, rfl⟩) (nomark _))
          (pss_cons (ps_set (i := 4) scFilled.nd rfl (Or.inl rfl) (pe_callB call_len_seq (by rfl) L.G.Y.Z.T.len PySem.boot_len (pa_cons (pv 3) pa_nil)))
            (pss_one (ps_expr (pe_bm PySem.F.plainAttrs_list PySem.F.slot_list_append PySem.F.type_list_append mt_append (pv 3) (pa_cons (pe_lst pa_nil) pa_nil)))))
          (pss_one (ps_if (pt_cmpR (op_eqD hu64) (pv 8) (pe_glob (v := .str "copy") (by rfl) c2 ⟨_, rfl⟩) (nomark _))
            (pss_one (ps_expr (pe_bm PySem.F.plainAttrs_list PySem.F.slot_list_append PySem.F.type_list_append mt_append (pv 3) (pa_cons (pe_callTy call_list_of (by rfl) L.li (by decide +kernel) (pa_cons (pe_ix ix_list (pv 3) (pv 4) (fun _ _ => rfl)) pa_nil)) pa_nil))))
            (pss_one (ps_if (pt_cmpR (op_eqD hu64) (pv 8) (pe_glob (v := .str "cut") (by rfl) c3 ⟨_, rfl⟩) (nomark _))
              (pss_one (ps_asg (pe_lst pa_nil) (pg_sub (pv 3) (pv 4) set_list)))
              (pss_cons (ps_asg (pv 8) (pg_tup rfl (pgs_cons (pg_name (i := 9) scFilled.nd rfl (Or.inl rfl)) (pgs_cons (pg_name (i := 10) scFilled.nd rfl (Or.inl rfl)) pgs_nil))))
              (pss_cons (ps_if (pw_or (pt_cmpR op_eq (pv 2) (pe_glob (v := .str "piece") (by rfl) c4 ⟨_, rfl⟩) (nomark _)) (pw_or1 (pt_cmpR op_eq (pe_ix ix_tup (pe_ix ix_tup (pv 0) (pv 10) (fun _ _ => rfl)) pe_int (fun _ _ => rfl)) pe_int (nomark _)))).pt
                (pss_one (ps_asg (pv 4) (pg_sub (pv 6) (pv 9) set_list))) pss_nil)
              (pss_one (ps_expr (pe_bm PySem.F.plainAttrs_list PySem.F.slot_list_append PySem.F.type_list_append mt_append (pe_ix ix_list (pv 3) (pe_ix ix_list (pv 6) (pv 9) (fun _ _ => rfl)) (fun _ _ => rfl)) (pa_cons (pv 7) pa_nil)))))))))))))
      (pss_one (ps_ret (pv 3)))))), ?_⟩
    obtain ⟨xs, hw, tx⟩ := id ta
    have tl := tx.len
    have l200 := rg.l
    refine ⟨(by show 0 ≤ sizeLine; decide), fun r0 nr0 => ⟨(by show 1 ≤ sizeLine; decide), fun R nR => ?_⟩⟩
    have u0 := same_upd (o := HO.lst []) nr0
    have uR := same_upd (o := HO.lst [V.ref r0]) nR
    refine ⟨_, rfl, fun D hD => ?_⟩
    refine lc_it walk_str (fun i H' => H' D = some (.lst ((List.replicate i 0).map nI)) ∧ Same (upd (upd H r0 (.lst [])) R (.lst [V.ref r0])) H') ⟨upd_same, same_upd hD⟩ (fun _ _ _ _ => trivial) ?_ ?_
    · rintro i x H1 H2 hi ⟨hl, kp⟩ ⟨rfl, c, hc, rfl⟩
      have h8 : i < 8 := hi
      refine ⟨rfl, ⟨_, hl, ?_, ?_, same_push hD kp⟩⟩
      · rw [List.length_map, List.length_replicate, sizeLine_eq]
        omega
      · rw [List.replicate_succ', List.map_append]
        exact upd_same
    · rintro H1 ⟨hl, kp⟩
      have f0 : FI H H1 R D [r0] fs0 := by
        have bR : R ≠ r0 := fun z => by
          rw [z, upd_same] at nR
          cases nR
        have nR0 : H R = none := by
          rw [upd_ne bR] at nR
          exact nR
        have s2 := (u0.trans uR)
        have nD : H D = none := by
          cases e : H D with
          | none => rfl
          | some o =>
            rw [s2 _ _ e] at hD
            cases hD
        have hR := kp _ _ (upd_same (a := R))
        have h0 := kp _ _ (uR _ _ (upd_same (a := r0)))
        refine ⟨s2.trans kp, hR, hl, rfl, fun i a r h1 h2 => ?_, fun i j a h1 h2 => ?_, fun a ha => ?_, nR0, nD, ?_⟩
        · match i, h1, h2 with
          | 0, h1, h2 =>
            cases h1
            cases h2
            exact h0
          | i + 1, h1, _ => simp at h1
        · have a1 := (List.getElem?_eq_some_iff.mp h1).1
          have a2 := (List.getElem?_eq_some_iff.mp h2).1
          simp only [List.length_cons, List.length_nil] at a1 a2
          omega
        · rw [List.mem_singleton.mp ha]
          refine ⟨nr0, bR.symm, fun z => ?_⟩
          rw [← z, upd_ne bR.symm, upd_same] at hD
          cases hD
        · intro z
          rw [← z, upd_same] at hD
          cases hD
      refine ⟨_, rfl, w, xs, rfl, SqT.of (f0.same _ _ hw), for_it (walk_enumT (xs := xs)) (fun i σ H' => ∃ (v7 v8 v9 v10 : Option V) (s : Fst) (ads : List Addr), σ = [some (.ref f), some (.ref w), some (.str (manS byP)), some (.ref R), some (nI s.pr), none, some (.ref D), v7, v8, v9, v10] ∧ FI H H' R D ads s ∧ Gd s i ∧ runF fr byP ts 0 fs0 = runF fr byP (ts.drop i) i s)
        ⟨none, none, none, none, fs0, [r0], rfl, f0, Gd.zero, rfl⟩ (fun i σ H' _ ⟨_, _, _, _, _, _, _, z, _⟩ => SqT.of (z.same _ _ hw)) ?_ ?_⟩
      · rintro i x σ H2 H3 hi ⟨v7, v8, v9, v10, st, ads, rfl, fi, gd, inv⟩ ⟨T, xi, xo, rfl, nT, rfl, h1, h2⟩
        cases h1
        obtain ⟨t, ht, tA⟩ := tx.at_ h2
        rw [drop_at ht] at inv
        have uT := same_upd (o := HO.tup [V.int (i : Nat), xo]) nT
        have f2 := fi.mono uT
        have g2 : Gd (stepF fr byP st i t) (i + 1) := gd.step fun e z => rg.ent e (by rw [← z]; exact List.mem_of_getElem? ht)
        have dA := Da.dp (K := K) _ _ (tA.same f2.same).da
        refine ⟨T, _, rfl, SqT.of upd_same, rfl, _, _, rfl, _, _, rfl, rfl, ?_⟩
        refine ⟨_, rfl, dT t, .str "turn", dA, .str _, sh_dT t, sh_w1, _, rfl, ?_⟩
        rw [eq_turn]
        clear uT
        generalize upd H2 T (.tup [V.int (i : Nat), xo]) = HT at f2 dA ⊢
        cases t with
        | turn =>
          refine iteT ?_
          refine ⟨_, rfl, R, _, rfl, .inl (SqL.of f2.r), ?_⟩
          refine ⟨_, rfl, .inl ⟨rfl, _, SqL.of f2.r⟩, (by show 0 ≤ sizeLine; decide), fun b nb => ?_⟩
          have bR : R ≠ b := ne_fresh ⟨_, f2.r⟩ nb
          have e1 : (ads.map V.ref).length = st.rows.length := by rw [List.length_map, f2.len]
          refine ⟨R, _, _, rfl, rfl, by rw [upd_ne bR]; exact f2.r, by rw [e1, sizeLine_eq]; have := gd.l; omega, ?_⟩
          refine ⟨_, _, _, _, stepF fr byP st i .turn, ads ++ [b], by rw [e1]; rfl, f2.add (r := []) (p := st.rows.length) nb, g2, inv⟩
        | copy =>
          refine iteF ?_
          refine ⟨_, rfl, dT .copy, .str "copy", dA, .str _, sh_dT _, sh_w2, _, rfl, ?_⟩
          rw [eq_copy]
          refine iteT ?_
          have pl : st.pr < ads.length := by rw [f2.len]; exact gd.p
          have ea : ads[st.pr]? = some ads[st.pr] := List.getElem?_eq_getElem pl
          have er : st.rows[st.pr]? = some (st.rows.getD st.pr []) := by
            rw [List.getD_eq_getElem?_getD, List.getElem?_eq_getElem gd.p]
            rfl
          have hr0 := f2.at_ _ _ _ ea er
          refine ⟨_, rfl, .inl ⟨rfl, _, SqL.of f2.r⟩, ?_⟩
          refine ⟨_, rfl, _, rfl, R, _, (st.pr : Int), .ref ads[st.pr], rfl, rfl, SqL.of f2.r, atI_nat (by rw [List.getElem?_map, ea]; rfl), ads[st.pr], _, rfl, .inl (SqL.of hr0), fun b nb => ?_⟩
          have bR : R ≠ b := ne_fresh ⟨_, f2.r⟩ nb
          have e1 : (ads.map V.ref).length = st.rows.length := by rw [List.length_map, f2.len]
          refine ⟨R, _, _, rfl, rfl, by rw [upd_ne bR]; exact f2.r, by rw [e1, sizeLine_eq]; have := gd.l; omega, ?_⟩
          exact ⟨_, _, _, _, stepF fr byP st i .copy, ads ++ [b], rfl, f2.add (r := st.rows.getD st.pr []) (p := st.pr) nb, g2, inv⟩
        | cut =>
          refine iteF ?_
          refine ⟨_, rfl, dT .cut, .str "copy", dA, .str _, sh_dT _, sh_w2, _, rfl, ?_⟩
          rw [eq_copy]
          refine iteF ?_
          refine ⟨_, rfl, dT .cut, .str "cut", dA, .str _, sh_dT _, sh_w3, _, rfl, ?_⟩
          rw [eq_cut]
          refine iteT ?_
          refine ⟨(by show 0 ≤ sizeLine; decide), fun b nb => ?_⟩
          have bR : R ≠ b := ne_fresh ⟨_, f2.r⟩ nb
          have ix : ixN (ads.map V.ref).length (st.pr : Int) = some st.pr := by
            have := gd.p
            have := f2.len
            unfold ixN
            rw [List.length_map, if_pos (by omega), if_pos (by omega)]
            rfl
          refine ⟨_, rfl, _, rfl, R, _, (st.pr : Int), st.pr, rfl, rfl, by rw [upd_ne bR]; exact f2.r, ix, ?_⟩
          exact ⟨_, _, _, _, stepF fr byP st i .cut, ads.set st.pr b, rfl, f2.cut nb, g2, inv⟩
        | ent e =>
          cases tA with
          | @ent tp _ a4 =>
          obtain ⟨e0, e1, n0, n1⟩ := rg.ent e (List.mem_of_getElem? ht)
          have w8 : e.1.toNat < 8 := by omega
          refine iteF ?_
          refine ⟨_, rfl, dT (.ent e), .str "copy", dA, .str _, sh_dT _, sh_w2, _, rfl, ?_⟩
          rw [eq_copy]
          refine iteF ?_
          refine ⟨_, rfl, dT (.ent e), .str "cut", dA, .str _, sh_dT _, sh_w3, _, rfl, ?_⟩
          rw [eq_cut]
          refine iteF ?_
          refine ⟨_, rfl, tp, _, rfl, SqT.of (f2.same _ _ a4), rfl, _, _, rfl, _, _, rfl, rfl, ?_⟩
          obtain ⟨fts, t2, hf, ha, h3, _⟩ := stt_at (fa.same f2.same) n0 n1
          have ixM : ixN (st.hm.map nI).length e.1 = some e.1.toNat := by
            rw [List.length_map, gd.l8]
            unfold ixN
            rw [if_pos e0, if_pos (by omega)]
          refine ⟨_, rfl, rfl, _, rfl, ?_⟩
          cases byP with
          | true =>
            have gT : goes fr true e = true := rfl
            refine iteT' (by decide +kernel) (iteT ?_)
            refine ⟨_, rfl, _, rfl, _, rfl, D, _, e.1, e.1.toNat, rfl, rfl, f2.m, ixM, ?_⟩
            have hst : stepF fr true st i (.ent e) = ⟨st.rows.set ((st.hm.set e.1.toNat st.pr).getD e.1.toNat 0) (st.rows.getD ((st.hm.set e.1.toNat st.pr).getD e.1.toNat 0) [] ++ [i]), st.pr, st.hm.set e.1.toNat st.pr⟩ := by
              show Fst.mk _ _ _ = _
              rw [if_pos gT]
            have f4 := f2.home (k := e.1.toNat) (p := st.pr)
            have hh : ∀ k ∈ st.hm.set e.1.toNat st.pr, k < st.rows.length := fun k hk => by
              rcases mem_set hk with rfl | z
              · exact gd.p
              · exact gd.h k z
            have l8 : (st.hm.set e.1.toNat st.pr).length = 8 := by rw [List.length_set]; exact gd.l8
            generalize st.hm.set e.1.toNat st.pr = hm' at hst f4 hh l8
            generalize upd HT D (.lst ((st.hm.map nI).set e.1.toNat (nI st.pr))) = H4 at f4 ⊢
            -- the number is put
            have tk : hm'.getD e.1.toNat 0 < st.rows.length := hh _ (getD_mem (by omega))
            generalize ek : hm'.getD e.1.toNat 0 = k at tk hst
            have er : st.rows[k]? = some (st.rows.getD k []) := by
              rw [List.getD_eq_getElem?_getD, List.getElem?_eq_getElem tk]
              rfl
            have kl : k < ads.length := by rw [f2.len]; exact tk
            have ea : ads[k]? = some ads[k] := List.getElem?_eq_getElem kl
            have em : atI (hm'.map nI) e.1 = some (nI k) := by
              obtain ⟨j, hj⟩ := Int.eq_ofNat_of_zero_le e0
              rw [hj] at ek w8 ⊢
              rw [Int.toNat_natCast] at ek w8
              refine atI_nat ?_
              rw [List.getElem?_map, ← ek, List.getD_eq_getElem?_getD, List.getElem?_eq_getElem (by omega)]
              rfl
            have inv : runF fr _ ts 0 fs0 = runF fr _ (ts.drop (i + 1)) (i + 1) (stepF fr _ st i (.ent e)) := inv
            rw [hst] at g2 inv
            refine ⟨_, rfl, _, rfl, _, rfl, D, _, e.1, nI k, rfl, rfl, SqL.of f4.m, em, R, _, (k : Int), .ref ads[k], rfl, rfl, SqL.of f4.r, atI_nat (by rw [List.getElem?_map, ea]; rfl), .inl ⟨rfl, _, SqL.of (f4.at_ _ _ _ ea er)⟩, _, rfl, ads[k], _, nI i, rfl, rfl, f4.at_ _ _ _ ea er, ?_, ?_⟩
            · have := (gd.r _ (getD_mem (d := []) tk)).1
              rw [List.length_map, sizeLine_eq]
              omega
            · exact ⟨_, _, _, _, ⟨st.rows.set k (st.rows.getD k [] ++ [i]), st.pr, hm'⟩, ads, rfl, f4.app ea er, g2, inv⟩
          | false =>
            refine iteF' (by decide +kernel) ?_
            refine ⟨_, rfl, _, rfl, f, _, e.2, .ref t2, rfl, rfl, SqT.of hf, ha, t2, _, 0, _, rfl, rfl, SqT.of h3, atI_nat (j := 0) rfl, rfl, _, rfl, ?_⟩
            refine ite2 (fun y => ?_) (fun y => ?_)
            · have y1 : (stt fr e.2).1 = 0 := V.int.inj (of_decide_eq_true y)
              have gT : goes fr false e = true := decide_eq_true y1
              refine ⟨_, rfl, _, rfl, _, rfl, D, _, e.1, e.1.toNat, rfl, rfl, f2.m, ixM, ?_⟩
              have hst : stepF fr false st i (.ent e) = ⟨st.rows.set ((st.hm.set e.1.toNat st.pr).getD e.1.toNat 0) (st.rows.getD ((st.hm.set e.1.toNat st.pr).getD e.1.toNat 0) [] ++ [i]), st.pr, st.hm.set e.1.toNat st.pr⟩ := by
                show Fst.mk _ _ _ = _
                rw [if_pos gT]
              have f4 := f2.home (k := e.1.toNat) (p := st.pr)
              have hh : ∀ k ∈ st.hm.set e.1.toNat st.pr, k < st.rows.length := fun k hk => by
                rcases mem_set hk with rfl | z
                · exact gd.p
                · exact gd.h k z
              have l8 : (st.hm.set e.1.toNat st.pr).length = 8 := by rw [List.length_set]; exact gd.l8
              generalize st.hm.set e.1.toNat st.pr = hm' at hst f4 hh l8
              generalize upd HT D (.lst ((st.hm.map nI).set e.1.toNat (nI st.pr))) = H4 at f4 ⊢
              -- the number is put
              have tk : hm'.getD e.1.toNat 0 < st.rows.length := hh _ (getD_mem (by omega))
              generalize ek : hm'.getD e.1.toNat 0 = k at tk hst
              have er : st.rows[k]? = some (st.rows.getD k []) := by
                rw [List.getD_eq_getElem?_getD, List.getElem?_eq_getElem tk]
                rfl
              have kl : k < ads.length := by rw [f2.len]; exact tk
              have ea : ads[k]? = some ads[k] := List.getElem?_eq_getElem kl
              have em : atI (hm'.map nI) e.1 = some (nI k) := by
                obtain ⟨j, hj⟩ := Int.eq_ofNat_of_zero_le e0
                rw [hj] at ek w8 ⊢
                rw [Int.toNat_natCast] at ek w8
                refine atI_nat ?_
                rw [List.getElem?_map, ← ek, List.getD_eq_getElem?_getD, List.getElem?_eq_getElem (by omega)]
                rfl
              have inv : runF fr _ ts 0 fs0 = runF fr _ (ts.drop (i + 1)) (i + 1) (stepF fr _ st i (.ent e)) := inv
              rw [hst] at g2 inv
              refine ⟨_, rfl, _, rfl, _, rfl, D, _, e.1, nI k, rfl, rfl, SqL.of f4.m, em, R, _, (k : Int), .ref ads[k], rfl, rfl, SqL.of f4.r, atI_nat (by rw [List.getElem?_map, ea]; rfl), .inl ⟨rfl, _, SqL.of (f4.at_ _ _ _ ea er)⟩, _, rfl, ads[k], _, nI i, rfl, rfl, f4.at_ _ _ _ ea er, ?_, ?_⟩
              · have := (gd.r _ (getD_mem (d := []) tk)).1
                rw [List.length_map, sizeLine_eq]
                omega
              · exact ⟨_, _, _, _, ⟨st.rows.set k (st.rows.getD k [] ++ [i]), st.pr, hm'⟩, ads, rfl, f4.app ea er, g2, inv⟩
            · have gF : ¬ goes fr false e = true := fun z => y (decide_eq_true (congrArg V.int (of_decide_eq_true z)))
              have hst : stepF fr false st i (.ent e) = ⟨st.rows.set (st.hm.getD e.1.toNat 0) (st.rows.getD (st.hm.getD e.1.toNat 0) [] ++ [i]), st.pr, st.hm⟩ := by
                show Fst.mk _ _ _ = _
                rw [if_neg gF]
              have f4 : FI H HT R D ads ⟨st.rows, st.pr, st.hm⟩ := f2
              have hh := gd.h
              have l8 := gd.l8
              generalize st.hm = hm' at hst f4 hh l8
              -- the number is put
              have tk : hm'.getD e.1.toNat 0 < st.rows.length := hh _ (getD_mem (by omega))
              generalize ek : hm'.getD e.1.toNat 0 = k at tk hst
              have er : st.rows[k]? = some (st.rows.getD k []) := by
                rw [List.getD_eq_getElem?_getD, List.getElem?_eq_getElem tk]
                rfl
              have kl : k < ads.length := by rw [f2.len]; exact tk
              have ea : ads[k]? = some ads[k] := List.getElem?_eq_getElem kl
              have em : atI (hm'.map nI) e.1 = some (nI k) := by
                obtain ⟨j, hj⟩ := Int.eq_ofNat_of_zero_le e0
                rw [hj] at ek w8 ⊢
                rw [Int.toNat_natCast] at ek w8
                refine atI_nat ?_
                rw [List.getElem?_map, ← ek, List.getD_eq_getElem?_getD, List.getElem?_eq_getElem (by omega)]
                rfl
              have inv : runF fr _ ts 0 fs0 = runF fr _ (ts.drop (i + 1)) (i + 1) (stepF fr _ st i (.ent e)) := inv
              rw [hst] at g2 inv
              refine ⟨_, rfl, _, rfl, _, rfl, D, _, e.1, nI k, rfl, rfl, SqL.of f4.m, em, R, _, (k : Int), .ref ads[k], rfl, rfl, SqL.of f4.r, atI_nat (by rw [List.getElem?_map, ea]; rfl), .inl ⟨rfl, _, SqL.of (f4.at_ _ _ _ ea er)⟩, _, rfl, ads[k], _, nI i, rfl, rfl, f4.at_ _ _ _ ea er, ?_, ?_⟩
              · have := (gd.r _ (getD_mem (d := []) tk)).1
                rw [List.length_map, sizeLine_eq]
                omega
              · exact ⟨_, _, _, _, ⟨st.rows.set k (st.rows.getD k [] ++ [i]), st.pr, hm'⟩, ads, rfl, f4.app ea er, g2, inv⟩
      · rintro σ HE ⟨v7, v8, v9, v10, st, ads, rfl, fi, gd, inv⟩
        have e0 : ts.drop xs.length = [] := by
          rw [tl]
          exact List.drop_length
        rw [e0] at inv
        refine ⟨_, rfl, q HE R fi.same ?_⟩
        have e : rowsF fr byP ts = st.rows := congrArg Fst.rows inv
        rw [e]
        exact fi.rowsA
end
end K41

set_option Elab.async false
set_option linter.all false
set_option maxRecDepth 100000
set_option maxHeartbeats 4000000
/-! need_manner, files. -/
namespace K41
open PySem L2 L2.EV
abbrev sManner : Stmt := top 32
abbrev sFiles : Stmt := top 34
def spManner : Sp := fun vs H Q _ => ∃ byP : Bool, vs = [.str (manS byP)] ∧ ∀ H', Same H H' → Q (.str (manS byP)) H'
structure Mn (K : PySem.W.Frag) (mg : Str → Option Value) where
  L : Fl K mg
  f : Addr
  d : FuncData
  M : Fun K "need_manner" "need_manner" sManner f d
  b : Binds K d ["thing"] []
  m : mg "need_manner" = some (.ref f)
  cL : ∃ t, mg "BY_LINE" = some (.str "line" t)
section
variable {P : Program} {w : World} {K : PySem.W.Frag} {mg : Str → Option Value} {base : Heap}
theorem scManner : FnScope ["thing"] ["thing"] (defScope sManner) := ⟨rfl, rfl, rfl, by decide +kernel, rfl, by decide +kernel, by decide +kernel⟩
theorem ok_manner (W : Mn K mg) : FnOk P w K mg base CX0 1 W.f W.d ["thing"] spManner := by
  refine W.M.ok scManner (fun vs H Q E h => ?_) (fun cdv A outer s H vs Q E hr h => ?_)
  · obtain ⟨byP, rfl, _⟩ := h
    rfl
  · obtain ⟨byP, rfl, q⟩ := h
    obtain ⟨t1, e1⟩ := W.cL
    obtain ⟨t2, e2⟩ := W.L.cP
    refine ⟨_, pss_cons (ps_if (pw_or (pt_not (pt_val (pe_callB call_isi (by rfl) W.L.G.Y.Z.T.isi PyProof.Rows.boot_isinstance (pa_cons (pv 0) (pa_cons (pe_bltn (v := .ty "str") (by rfl) W.L.G.Y.Z.T.str (by decide +kernel) rfl) pa_nil)))))
        (pw_or1 (pt_cmpR op_notIn_seq (pv 0) (pe_tup (pa_cons (pe_glob (v := .str "line") (by rfl) e1 ⟨_, rfl⟩) (pa_cons (pe_glob (v := .str "piece") (by rfl) e2 ⟨_, rfl⟩) pa_nil))) (by rfl)))).pt
        pss_never pss_nil) (pss_one (ps_ret (pv 0))), ?_⟩
    refine ⟨_, rfl, .str (manS byP), .ty "str", .type "str", .type "str", true, rfl, .ty "str", .base (.str _), kit_ty (by decide +kernel), true, rfl, iteF ?_⟩
    refine ⟨_, rfl, (by show 2 ≤ sizeLine; decide), fun p hp => ⟨p, _, rfl, .inr (SqT.of upd_same), rfl, rfl, ?_⟩⟩
    refine ⟨_, rfl, iteF' (by cases byP <;> decide +kernel) ⟨_, rfl, q _ (same_upd hp)⟩⟩
end
/-- the entry at a place -/
def entAt (ts : List Tn) (n : Nat) : E2 := match ts[n]? with
  | some (.ent e) => e
  | _ => (0, 0)
def entsAt (ts : List Tn) (r : List Nat) : List E2 := r.map (entAt ts)
/-- each number is that of an entry -/
def EnR (ts : List Tn) (rows : List (List Nat)) : Prop := ∀ r ∈ rows, ∀ k ∈ r, ∃ e, ts[k]? = some (.ent e)
theorem getD_or {rows : List (List Nat)} {k : Nat} : rows.getD k [] ∈ rows ∨ rows.getD k [] = [] := by
  by_cases h : k < rows.length
  · exact .inl (getD_mem h)
  · exact .inr (by rw [List.getD_eq_getElem?_getD, List.getElem?_eq_none (by omega)]; rfl)
theorem EnR.step {fr : List T3} {byP : Bool} {full : List Tn} {s : Fst} {n : Nat} {t : Tn} (h : EnR full s.rows) (e : full[n]? = some t) : EnR full (stepF fr byP s n t).rows := by
  have hd : ∀ j, ∀ k ∈ s.rows.getD j [], ∃ e, full[k]? = some (.ent e) := fun j k hk => by
    rcases getD_or (rows := s.rows) (k := j) with z | z
    · exact h _ z k hk
    · rw [z] at hk
      cases hk
  intro r hr k hk
  cases t with
  | turn =>
    rcases List.mem_append.mp hr with z | z
    · exact h r z k hk
    · rw [List.mem_singleton.mp z] at hk
      cases hk
  | copy =>
    rcases List.mem_append.mp hr with z | z
    · exact h r z k hk
    · rw [List.mem_singleton.mp z] at hk
      exact hd _ k hk
  | cut =>
    rcases mem_set hr with z | z
    · rw [z] at hk
      cases hk
    · exact h r z k hk
  | ent e0 =>
    rcases mem_set hr with z | z
    · rw [z] at hk
      rcases List.mem_append.mp hk with y | y
      · exact hd _ k y
      · rw [List.mem_singleton.mp y]
        exact ⟨e0, e⟩
    · exact h r z k hk
theorem EnR.run {fr : List T3} {byP : Bool} {full : List Tn} : ∀ {ts : List Tn} {n : Nat} {s : Fst}, (∀ i, full[n + i]? = ts[i]?) → EnR full s.rows → EnR full (runF fr byP ts n s).rows
  | [], _, _, _, h => h
  | t :: ts, n, s, e, h => EnR.run (ts := ts) (fun i => by
      have z := e (i + 1)
      rw [List.getElem?_cons_succ] at z
      rw [← z]
      congr 1
      omega) (h.step (e 0))
theorem rows_ent {fr : List T3} {byP : Bool} {ts : List Tn} : EnR ts (rowsF fr byP ts) := EnR.run (fun i => by rw [Nat.zero_add]) (fun r hr k hk => by
  rw [List.mem_singleton.mp hr] at hk
  cases hk)
theorem rows_gd {fr : List T3} {byP : Bool} {ts : List Tn} (h : ∀ e, Tn.ent e ∈ ts → Ent fr e) : Gd (runF fr byP ts 0 fs0) ts.length := by
  have z := Gd.zero.run (fr := fr) (byP := byP) h
  rwa [Nat.zero_add] at z
theorem entAt_of {ts : List Tn} {k : Nat} {e : E2} (h : ts[k]? = some (.ent e)) : entAt ts k = e := by
  unfold entAt
  rw [h]
def filesF (fr : List T3) (byP : Bool) (ts : List Tn) : List Str := (rowsF fr byP ts).map fun r => textE fr (entsAt ts r)
def spFiles : Sp := fun vs H Q _ => ∃ (f w : Addr) (fr : List T3) (last : Nat) (ts : List Tn) (byP : Bool), vs = [.ref f, .ref w, .str (manS byP)] ∧ FrA H f fr ∧ Frm fr last ∧ ThA H w ts ∧ Rgt fr ts ∧
  ∀ H' p, Same H H' → H p = none → H' p = some (.tup ((filesF fr byP ts).map V.str)) → Q (.ref p) H'
structure Fi (K : PySem.W.Frag) (mg : Str → Option Value) where
  M : Mn K mg
  T : Ps K mg
  f : Addr
  d : FuncData
  F : Fun K "files" "files" sFiles f d
  b : Binds K d ["framing", "thing", "manner"] []
  m : mg "files" = some (.ref f)
  tu : mg "tuple" = none
/-- the scope of the outer comprehension -/
abbrev scRow : Scope := { kind := .function, names := [(".0", .local), ("row", .local), ("text_put", .globalImplicit), ("framing", .cell), ("thing", .cell)], isGenerator := false, isCoroutine := false }
abbrev NFi : List Str := ["framing", "thing", "manner", "rows", "row", "number"]
section
variable {P : Program} {w : World} {K : PySem.W.Frag} {mg : Str → Option Value} {base : Heap}
theorem scFiles : FnScope NFi ["framing", "thing", "manner"] (defScope sFiles) := ⟨rfl, rfl, rfl, by decide +kernel, rfl, by decide +kernel, by decide +kernel⟩
theorem ok_files (W : Fi K mg) : FnOk P w K mg base CX0 5 W.f W.d ["framing", "thing", "manner"] spFiles := by
  have GT : FnOk P w K mg base CX0 4 W.M.L.G.f W.M.L.G.d ["framing", "thing"] spNeedT := ok_needT W.M.L.G
  have GM : FnOk P w K mg base CX0 1 W.M.f W.M.d ["thing"] spManner := ok_manner W.M
  have GF : FnOk P w K mg base CX0 1 W.M.L.f W.M.L.d ["framing", "thing", "manner"] spFilled := ok_filled W.M.L
  have GP : FnOk P w K mg base CX0 1 W.T.fT W.T.dT ["framing", "entries"] spPut := ok_put W.T
  refine W.F.ok scFiles (fun vs H Q E h => ?_) (fun cdv A outer s H vs Q E hr h => ?_)
  · obtain ⟨f, w, fr, last, ts, byP, rfl, _⟩ := h
    rfl
  · obtain ⟨f, w, fr, last, ts, byP, rfl, fa, fm, ta, rg, q⟩ := h
    have r1 := hr.mono (j := 1) (by omega)
    refine ⟨_, pss_cons (ps_expr (pe_call GT hr (by rfl) W.M.L.G.m W.M.L.G.F.kp W.M.L.G.b .nil pass0 (pa_cons (pv 0) (pa_cons (pv 1) pa_nil))))
      (pss_cons (ps_expr (pe_call GM r1 (by rfl) W.M.m W.M.M.kp W.M.b .nil pass0 (pa_cons (pv 2) pa_nil)))
      (pss_cons (ps_set (i := 3) scFiles.nd rfl (Or.inl rfl) (pe_call GF r1 (by rfl) W.M.L.m W.M.L.F.kp W.M.L.b .nil pass0 (pa_cons (pv 0) (pa_cons (pv 1) (pa_cons (pv 2) pa_nil)))))
      (pss_one (ps_ret (pe_callTy call_tuple_of (by rfl) W.tu (by decide +kernel) (pa_cons (pe_lc (own := [("row", 4)]) (g := gName 4) (te := tCall spPut [] E0 (tCons (tVar 0) (tCons (tLc (iList K (tVar 4)) (gName 5) tYes (tOp (rIxT K) (tVar 1) (tVar 5)) [5]) tNil))) rfl scFiles.nd (pi_list (pv 3))
        (blkOk_by (N := NFi) (sc := defScope sFiles) (by decide +kernel))
        (fun _ _ _ _ _ => pg_name (i := 4) scFiles.nd rfl (Or.inl rfl)) (fun _ _ _ _ _ => pts_nil)
        (fun _ _ _ _ _ => pe_call GP r1 (by rfl) W.T.mT W.T.T.kp W.T.bT .nil pass0 (pa_cons (pv 0) (pa_cons (pe_lc (own := [("number", 5)]) (g := gName 5) (te := tOp (rIxT K) (tVar 1) (tVar 5)) rfl scFiles.nd (pi_list (pv 4))
          (blkOk_by (N := NFi) (sc := scRow) (by decide +kernel))
          (fun _ _ _ _ _ => pg_name (i := 5) scFiles.nd rfl (Or.inl rfl)) (fun _ _ _ _ _ => pts_nil) (fun _ _ _ _ _ => pe_ix ix_tup (pv 1) (pv 5) (fun _ _ => rfl))) pa_nil)))) pa_nil)))))), ?_⟩
    refine ⟨_, rfl, _, rfl, f, w, fr, last, ts.map dT, rfl, fa, fm, ta.da, by rw [List.length_map]; exact rg.l, rg.go, fun H1 s1 => ?_⟩
    refine ⟨_, rfl, byP, rfl, fun H2 s2 => ?_⟩
    have s02 := s1.trans s2
    refine ⟨_, rfl, _, rfl, _, rfl, f, w, fr, last, ts, byP, rfl, fa.same s02, fm, ta.same s02, rg, fun H3 R s3 rA => ?_⟩
    have s03 := s02.trans s3
    obtain ⟨ads, hR, al, aa⟩ := id rA
    have gd := rows_gd (fr := fr) (byP := byP) rg.ent
    have en := rows_ent (fr := fr) (byP := byP) (ts := ts)
    have l200 := rg.l
    have rl : (rowsF fr byP ts).length ≤ 201 := by
      have := gd.l
      show (runF fr byP ts 0 fs0).rows.length ≤ _
      omega
    have rr : ∀ r ∈ rowsF fr byP ts, r.length ≤ 200 := fun r hr => by
      have := (gd.r r hr).1
      omega
    generalize hrw : rowsF fr byP ts = rows at rl rr en al aa
    obtain ⟨xs, hw, tx⟩ := id ta
    refine ⟨_, rfl, R, rfl, ⟨_, SqL.of hR⟩, fun D hD => ?_⟩
    refine lc_it (walk_list (xs := ads.map V.ref)) (fun i H' => H' D = some (.lst (((rows.take i).map fun r => textE fr (entsAt ts r)).map V.str)) ∧ Same H3 H') ⟨upd_same, same_upd hD⟩ (fun i H' _ z => SqL.of (z.2 _ _ hR)) ?_ ?_
    · rintro i x H4z H4 hi ⟨hd, s4⟩ ⟨rfl, hx⟩
      rw [List.length_map] at hi
      have ha : ads[i]? = some ads[i] := List.getElem?_eq_getElem hi
      rw [List.getElem?_map, ha] at hx
      obtain rfl : V.ref ads[i] = x := Option.some.inj hx
      have ir : i < rows.length := by omega
      have hr : rows[i]? = some rows[i] := List.getElem?_eq_getElem ir
      have hc := aa i _ _ ha hr
      have rm := List.mem_of_getElem? hr
      have r2 := rr _ rm
      have re := en _ rm
      generalize rows[i] = r at hr hc rm r2 re
      refine ⟨rfl, _, rfl, _, rfl, ads[i], rfl, ⟨_, SqL.of (s4 _ _ hc)⟩, fun D2 hD2 => ?_⟩
      refine lc_it (walk_list (xs := r.map nI)) (fun j H' => ∃ tys : List Addr, H' D2 = some (.lst (tys.map V.ref)) ∧ tys.length = j ∧ (∀ (i : Nat) t e, tys[i]? = some t → (entsAt ts (r.take j))[i]? = some e → A2 H t e) ∧ Same H4 H')
        ⟨[], upd_same, rfl, (fun i t e z => by cases z), same_upd hD2⟩ (fun j H' _ ⟨_, _, _, _, z⟩ => SqL.of (z _ _ (s4 _ _ hc))) ?_ ?_
      · rintro j x H6z H6 hj ⟨tys, ht, tl, tA, s6⟩ ⟨rfl, hx⟩
        rw [List.length_map] at hj
        have hk : r[j]? = some r[j] := List.getElem?_eq_getElem hj
        rw [List.getElem?_map, hk] at hx
        obtain rfl : nI r[j] = x := Option.some.inj hx
        obtain ⟨e, he⟩ := re _ (List.mem_of_getElem? hk)
        obtain ⟨y, hy, yA⟩ := tx.at' he
        cases yA with
        | @ent tp _ a4 =>
        refine ⟨rfl, ?_⟩
        refine ⟨_, rfl, _, rfl, w, xs, (r[j] : Nat), .ref tp, rfl, rfl, SqT.of (s6 _ _ (s4 _ _ (s03 _ _ hw))), atI_nat hy, _, ht, by rw [List.length_map, tl, sizeLine_eq]; omega, tys ++ [tp], by rw [List.map_append]; exact upd_same, by rw [List.length_append, tl]; rfl, fun q u e' h1 h2 => ?_, same_push hD2 s6⟩
        have es : entsAt ts (r.take (j + 1)) = entsAt ts (r.take j) ++ [e] := by
          unfold entsAt
          rw [take_one hk, List.map_append, List.map_cons, List.map_nil, entAt_of he]
        rw [es] at h2
        have le : (entsAt ts (r.take j)).length = j := by
          unfold entsAt
          rw [List.length_map, List.length_take]
          omega
        by_cases c : q < j
        · rw [List.getElem?_append_left (by omega)] at h1 h2
          exact tA q u e' h1 h2
        · have : q = j := by
            have := (List.getElem?_eq_some_iff.mp h1).1
            rw [List.length_append] at this
            simp only [List.length_cons, List.length_nil] at this
            omega
          subst this
          rw [List.getElem?_append_right (by omega), tl, Nat.sub_self] at h1
          rw [List.getElem?_append_right (by omega), le, Nat.sub_self] at h2
          cases h1
          cases h2
          exact a4
      · rintro H6 ⟨tys, ht, tl, tA, s6⟩
        rw [List.length_map] at tl tA
        rw [List.take_length] at tA
        have s06 := (s03.trans s4).trans s6
        have el : (entsAt ts r).length = r.length := by
          unfold entsAt
          rw [List.length_map]
        refine ⟨f, D2, fr, last, entsAt ts r, rfl, fa.same s06, fm, ⟨tys, ht, by rw [tl, el], fun q u e' h1 h2 => s06 _ _ (tA q u e' h1 h2)⟩, fun e he => ?_, by rw [el]; exact r2, fun H8 s8 => ?_⟩
        · obtain ⟨k, hk, rfl⟩ := List.mem_map.mp he
          obtain ⟨e, he⟩ := re k hk
          rw [entAt_of he]
          exact rg.ent e (List.mem_of_getElem? he)
        · refine ⟨_, s8 _ _ (s6 _ _ hd), by rw [List.length_map, List.length_map, List.length_take, sizeLine_eq]; omega, ?_, same_push hD (s4.trans (s6.trans s8))⟩
          rw [take_one hr, List.map_append, List.map_append]
          exact upd_same
    · rintro H4 ⟨hd, s4⟩
      rw [List.length_map, al, List.take_length] at hd
      refine ⟨D, _, rfl, .inl ⟨SqL.of hd, fun p hp => ?_⟩⟩
      have s04 := s03.trans s4
      have np : H p = none := by
        cases e : H p with
        | none => rfl
        | some o =>
          rw [s04 _ _ e] at hp
          cases hp
      refine q _ p (s04.trans (same_upd hp)) np ?_
      unfold filesF
      rw [hrw]
      exact upd_same
end
end K41

set_option Elab.async false
set_option linter.all false
set_option maxRecDepth 100000
set_option maxHeartbeats 4000000
/-! ended_lines. -/
namespace L2
open PySem PySem.Spec PyProof.Rows HT
section
variable {X : Cx}
/-- t += u for tracked tuples, u not empty -/
def ipS : TIp := fun x y H Q => ∃ a b xs ys, x = .ref a ∧ y = .ref b ∧ H a = some (.tup xs) ∧ H b = some (.tup ys) ∧ ys ≠ [] ∧ xs.length + ys.length ≤ sizeLine ∧
  ∀ H' p, (∀ b o, H b = some o → H' b = some o) → H' p = some (.tup (xs ++ ys)) → Q (.ref p) H'
theorem ip_catS : PIp X .Add ipS := by
  intro pins s σ H x y v u Q I rx ry h
  obtain ⟨a, b, xs, ys, rfl, rfl, ha, hb, hy, hz, q⟩ := h
  refine ip_catT pins s σ H _ _ v u Q I rx ry ⟨a, b, xs, ys, rfl, rfl, SqT.of ha, SqT.of hb, hy, hz, fun z => q H b (fun _ _ e => e) (by rw [z]; exact hb), fun z p hp => q _ p (fun c o e => ?_) upd_same⟩
  rw [upd_ne (ne_of_none e hp)]
  exact e
end
end L2
namespace K41
open PySem L2 L2.EV
abbrev sEnded : Stmt := top 35
structure ES where
  bg : List (List Nat)
  ln : List (List Nat)
def stepE (fr : List T3) (s : ES) (n : Nat) : Tn → ES
  | .ent e => if (stt fr e.2).2.2 = 0 then ⟨s.bg.set e.1.toNat [], s.ln ++ [s.bg.getD e.1.toNat [] ++ [n]]⟩ else ⟨s.bg.set e.1.toNat (s.bg.getD e.1.toNat [] ++ [n]), s.ln⟩
  | _ => s
def runE (fr : List T3) : List Tn → Nat → ES → ES
  | [], _, s => s
  | t :: ts, n, s => runE fr ts (n + 1) (stepE fr s n t)
def es0 : ES := ⟨List.replicate 8 [], []⟩
def endedF (fr : List T3) (ts : List Tn) : List (List Nat) := (runE fr ts 0 es0).ln
/-- behind n things -/
structure Ge (s : ES) (n : Nat) : Prop where
  l8 : s.bg.length = 8
  b : ∀ r ∈ s.bg, r.length ≤ n ∧ ∀ k ∈ r, k < n
  l : s.ln.length ≤ n
  r : ∀ r ∈ s.ln, r.length ≤ n ∧ r ≠ [] ∧ ∀ k ∈ r, k < n
theorem Ge.zero : Ge es0 0 := ⟨by decide, by decide, by decide, by decide⟩
theorem Ge.step {fr : List T3} {s : ES} {n : Nat} {t : Tn} (g : Ge s n) (ht : ∀ e, t = .ent e → Ent fr e) : Ge (stepE fr s n t) (n + 1) := by
  have ub : ∀ r ∈ s.bg, r.length ≤ n + 1 ∧ ∀ k ∈ r, k < n + 1 := fun r hr => by
    obtain ⟨a, b⟩ := g.b r hr
    exact ⟨by omega, fun k hk => by have := b k hk; omega⟩
  have ul : ∀ r ∈ s.ln, r.length ≤ n + 1 ∧ r ≠ [] ∧ ∀ k ∈ r, k < n + 1 := fun r hr => by
    obtain ⟨a, c, b⟩ := g.r r hr
    exact ⟨by omega, c, fun k hk => by have := b k hk; omega⟩
  have l := g.l
  have l8 := g.l8
  have up : Ge s (n + 1) := ⟨g.l8, ub, by omega, ul⟩
  cases t with
  | turn => exact up
  | copy => exact up
  | cut => exact up
  | ent e =>
    obtain ⟨e0, e1, _, _⟩ := ht e rfl
    have nb : (s.bg.getD e.1.toNat [] ++ [n]).length ≤ n + 1 ∧ ∀ k ∈ s.bg.getD e.1.toNat [] ++ [n], k < n + 1 := by
      obtain ⟨a, b⟩ := g.b _ (getD_mem (l := s.bg) (i := e.1.toNat) (d := []) (by omega))
      refine ⟨by rw [List.length_append]; simp only [List.length_cons, List.length_nil]; omega, fun k hk => ?_⟩
      rcases List.mem_append.mp hk with z | z
      · have := b k z
        omega
      · rw [List.mem_singleton.mp z]
        omega
    unfold stepE
    by_cases c : (stt fr e.2).2.2 = 0
    · simp only [if_pos c]
      refine ⟨by show (s.bg.set _ _).length = 8; rw [List.length_set]; exact l8, fun r hr => ?_, by show (s.ln ++ [_]).length ≤ _; rw [List.length_append]; simp only [List.length_cons, List.length_nil]; omega, fun r hr => ?_⟩
      · rcases mem_set hr with rfl | z
        · exact ⟨Nat.zero_le _, fun k hk => by cases hk⟩
        · exact ub r z
      · rcases List.mem_append.mp hr with z | z
        · exact ul r z
        · rw [List.mem_singleton.mp z]
          exact ⟨nb.1, by simp, nb.2⟩
    · simp only [if_neg c]
      refine ⟨by show (s.bg.set _ _).length = 8; rw [List.length_set]; exact l8, fun r hr => ?_, by show s.ln.length ≤ _; omega, ul⟩
      rcases mem_set hr with rfl | z
      · exact nb
      · exact ub r z
theorem Ge.run {fr : List T3} : ∀ {ts : List Tn} {n : Nat} {s : ES}, Ge s n → (∀ e, Tn.ent e ∈ ts → Ent fr e) → Ge (runE fr ts n s) (n + ts.length)
  | [], _, _, g, _ => g
  | t :: ts, n, s, g, h => by
    have z := Ge.run (fr := fr) (ts := ts) (g.step (fr := fr) (fun e z => h e (by rw [← z]; exact List.mem_cons_self ..))) (fun e he => h e (List.mem_cons_of_mem _ he))
    rw [List.length_cons]
    have e : n + (ts.length + 1) = n + 1 + ts.length := by omega
    rw [e]
    exact z
/-- tuples of these numbers -/
def TupsA (H : Hp) (as : List Addr) (rs : List (List Nat)) : Prop := as.length = rs.length ∧ ∀ (i : Nat) a r, as[i]? = some a → rs[i]? = some r → H a = some (.tup (r.map nI))
theorem TupsA.same {H H' : Hp} {as : List Addr} {rs : List (List Nat)} (h : TupsA H as rs) (s : Same H H') : TupsA H' as rs := ⟨h.1, fun i a r h1 h2 => s _ _ (h.2 i a r h1 h2)⟩
theorem TupsA.upd {H : Hp} {as : List Addr} {rs : List (List Nat)} {D : Addr} {o : HO} {xs : List V} (h : TupsA H as rs) (hD : H D = some (.lst xs)) : TupsA (upd H D o) as rs := ⟨h.1, fun i a r h1 h2 => by
  have e := h.2 i a r h1 h2
  have ne : a ≠ D := by
    rintro rfl
    rw [e] at hD
    cases hD
  rw [upd_ne ne]
  exact e⟩
theorem TupsA.set {H : Hp} {as : List Addr} {rs : List (List Nat)} {p : Nat} {a : Addr} {r : List Nat} (h : TupsA H as rs) (e : H a = some (.tup (r.map nI))) : TupsA H (as.set p a) (rs.set p r) := by
  refine ⟨by rw [List.length_set, List.length_set]; exact h.1, fun i b q h1 h2 => ?_⟩
  rw [List.getElem?_set] at h1 h2
  by_cases c : p = i
  · rw [if_pos c] at h1 h2
    split at h1
    · split at h2
      · cases h1
        cases h2
        exact e
      · cases h2
    · cases h1
  · rw [if_neg c] at h1 h2
    exact h.2 i b q h1 h2
theorem TupsA.snoc {H : Hp} {as : List Addr} {rs : List (List Nat)} {a : Addr} {r : List Nat} (h : TupsA H as rs) (e : H a = some (.tup (r.map nI))) : TupsA H (as ++ [a]) (rs ++ [r]) := by
  refine ⟨by rw [List.length_append, List.length_append, h.1]; rfl, fun i b q h1 h2 => ?_⟩
  by_cases c : i < as.length
  · rw [List.getElem?_append_left c] at h1
    rw [List.getElem?_append_left (by rw [← h.1]; exact c)] at h2
    exact h.2 i b q h1 h2
  · have : i = as.length := by
      have := (List.getElem?_eq_some_iff.mp h1).1
      rw [List.length_append] at this
      simp only [List.length_cons, List.length_nil] at this
      omega
    subst this
    rw [List.getElem?_append_right (Nat.le_refl _), Nat.sub_self] at h1
    rw [h.1, List.getElem?_append_right (Nat.le_refl _), Nat.sub_self] at h2
    cases h1
    cases h2
    exact e
theorem TupsA.at_ {H : Hp} {as : List Addr} {rs : List (List Nat)} {i : Nat} {r : List Nat} (h : TupsA H as rs) (e : rs[i]? = some r) : ∃ a, as[i]? = some a ∧ H a = some (.tup (r.map nI)) := by
  have c := (List.getElem?_eq_some_iff.mp e).1
  have h1 := List.getElem?_eq_getElem (l := as) (i := i) (by rw [h.1]; exact c)
  exact ⟨_, h1, h.2 i _ r h1 e⟩
/-- at p stands a list of tuples of these numbers -/
def LinesA (H : Hp) (p : Addr) (rs : List (List Nat)) : Prop := ∃ as : List Addr, H p = some (.lst (as.map V.ref)) ∧ TupsA H as rs
theorem LinesA.same {H H' : Hp} {p : Addr} {rs : List (List Nat)} (h : LinesA H p rs) (s : Same H H') : LinesA H' p rs := by
  obtain ⟨as, e, t⟩ := h
  exact ⟨as, s _ _ e, t.same s⟩
structure EI (H H' : Hp) (B L : Addr) (bs ls : List Addr) (s : ES) : Prop where
  same : Same H H'
  b : H' B = some (.lst (bs.map V.ref))
  l : H' L = some (.lst (ls.map V.ref))
  tb : TupsA H' bs s.bg
  tl : TupsA H' ls s.ln
  nB : H B = none
  nL : H L = none
  ne : B ≠ L
theorem EI.mono {H H' H'' : Hp} {B L : Addr} {bs ls : List Addr} {s : ES} (h : EI H H' B L bs ls s) (k : Same H' H'') : EI H H'' B L bs ls s :=
  ⟨h.same.trans k, k _ _ h.b, k _ _ h.l, h.tb.same k, h.tl.same k, h.nB, h.nL, h.ne⟩
theorem EI.setB {H H' : Hp} {B L a : Addr} {bs ls : List Addr} {s : ES} {p : Nat} {r : List Nat} (h : EI H H' B L bs ls s) (e : H' a = some (.tup (r.map nI))) : EI H (upd H' B (.lst ((bs.map V.ref).set p (.ref a)))) B L (bs.set p a) ls ⟨s.bg.set p r, s.ln⟩ := by
  refine ⟨fun c o z => ?_, ?_, ?_, (h.tb.set e).upd h.b, h.tl.upd h.b, h.nB, h.nL, h.ne⟩
  · rw [upd_ne (ne_of_none z h.nB)]
    exact h.same _ _ z
  · rw [List.map_set]
    exact upd_same
  · rw [upd_ne h.ne.symm]
    exact h.l
theorem EI.addL {H H' : Hp} {B L a : Addr} {bs ls : List Addr} {s : ES} {r : List Nat} (h : EI H H' B L bs ls s) (e : H' a = some (.tup (r.map nI))) : EI H (upd H' L (.lst (ls.map V.ref ++ [.ref a]))) B L bs (ls ++ [a]) ⟨s.bg, s.ln ++ [r]⟩ := by
  refine ⟨fun c o z => ?_, ?_, ?_, h.tb.upd h.l, (h.tl.snoc e).upd h.l, h.nB, h.nL, h.ne⟩
  · rw [upd_ne (ne_of_none z h.nL)]
    exact h.same _ _ z
  · rw [upd_ne h.ne]
    exact h.b
  · rw [List.map_append]
    exact upd_same
def spEnded : Sp := fun vs H Q _ => ∃ (f w : Addr) (fr : List T3) (last : Nat) (ts : List Tn), vs = [.ref f, .ref w] ∧ FrA H f fr ∧ Frm fr last ∧ ThA H w ts ∧ Rgt fr ts ∧ ∀ H' p, Same H H' → LinesA H' p (endedF fr ts) → Q (.ref p) H'
structure El (K : PySem.W.Frag) (mg : Str → Option Value) where
  G : Wg K mg
  f : Addr
  d : FuncData
  F : Fun K "ended_lines" "ended_lines" sEnded f d
  b : Binds K d ["framing", "thing"] []
  m : mg "ended_lines" = some (.ref f)
abbrev NE : List Str := ["framing", "thing", "mark", "begun", "lines", "number", "part", "writer", "step"]
def isW : Tn → Bool
  | .ent _ => false
  | _ => true
theorem isWd_dT (t : Tn) : isWd (dT t) = isW t := by
  cases t with
  | turn => decide +kernel
  | copy => decide +kernel
  | cut => decide +kernel
  | ent e => rfl
section
variable {P : Program} {w : World} {K : PySem.W.Frag} {mg : Str → Option Value} {base : Heap}
theorem scEnded : FnScope NE ["framing", "thing"] (defScope sEnded) := ⟨rfl, rfl, rfl, by decide +kernel, rfl, by decide +kernel, by decide +kernel⟩
theorem ok_ended (L : El K mg) : FnOk P w K mg base CX0 2 L.f L.d ["framing", "thing"] spEnded := by
  have GW : FnOk P w K mg base CX0 1 L.G.O.f L.G.O.d ["thing"] spIsWord := ok_isWord L.G.O
  refine L.F.ok scEnded (fun vs H Q E h => ?_) (fun cdv A outer s H vs Q E hr h => ?_)
  · obtain ⟨f, w, fr, last, ts, rfl, _⟩ := h
    rfl
  · obtain ⟨f, w, fr, last, ts, rfl, fa, fm, ta, rg, q⟩ := h
    obtain ⟨tm, eM⟩ := L.G.Y.marks
    have r1 := hr.mono (j := 1) (by omega)
    refine ⟨_, pss_cons (ps_setLc (i := 3) (y := "begun") (own := [("mark", 2)]) (g := gName 2) (te := tTup tNil) rfl scEnded.nd rfl rfl (by rfl) (pi_str (pe_glob (v := .str "ABCDEFGH") (by rfl) eM ⟨_, rfl⟩))
        (blkOk_by (N := NE) (sc := defScope sEnded) (by decide +kernel))
        (fun _ _ _ _ _ => pg_name (i := 2) scEnded.nd rfl (Or.inl rfl)) (fun _ _ _ _ _ => pts_nil) (fun _ _ _ _ _ => pe_tup pa_nil))
      (pss_cons (ps_set (i := 4) scEnded.nd rfl (Or.inl rfl) (pe_lst pa_nil))
      (pss_cons (ps_for PassesOwn.never rfl (pi_enumT (by rfl) L.G.Y.Z.en (pa_cons (pv 1) pa_nil)) (pg_tup rfl (pgs_cons (pg_name (i := 5) scEnded.nd rfl (Or.inl rfl)) (pgs_cons (pg_name (i := 6) scEnded.nd rfl (Or.inl rfl)) pgs_nil)))
        (pss_one (ps_if (pt_not (pt_val (pe_call GW r1 (by rfl) L.G.O.m L.G.O.F.kp L.G.O.b .nil pass0 (pa_cons (pv 6) pa_nil))))
          (pss_cons (ps_asg (pv 6) (pg_tup rfl (pgs_cons (pg_name (i := 7) scEnded.nd rfl (Or.inl rfl)) (pgs_cons (pg_name (i := 8) scEnded.nd rfl (Or.inl rfl)) pgs_nil))))
          (pss_cons (ps_augS (pv 3) (pv 7) get_list (pe_tup (pa_cons (pv 5) pa_nil)) ip_catS set_list)
          (pss_one (ps_if (pt_cmpR op_eq (pe_ix ix_tup (pe_ix ix_tup (pv 0) (pv 8) (fun _ _ => rfl)) pe_int (fun _ _ => rfl)) pe_int (nomark _))
            (pss_cons (ps_expr (pe_bm PySem.F.plainAttrs_list PySem.F.slot_list_append PySem.F.type_list_append mt_append (pv 4) (pa_cons (pe_ix ix_list (pv 3) (pv 7) (fun _ _ => rfl)) pa_nil)))
              (pss_one (ps_asg (pe_tup pa_nil) (pg_sub (pv 3) (pv 7) set_list)))) pss_nil)))) pss_nil)))
      (pss_one (ps_ret (pv 4))))), ?_⟩
    obtain ⟨xs, hw, tx⟩ := id ta
    have tl := tx.len
    have l200 := rg.l
    refine ⟨_, rfl, fun B hB => ?_⟩
    refine lc_it walk_str (fun i H' => ∃ bs : List Addr, H' B = some (.lst (bs.map V.ref)) ∧ TupsA H' bs (List.replicate i []) ∧ Same H H') ⟨[], upd_same, ⟨rfl, fun i a r h => by cases h⟩, same_upd hB⟩ (fun _ _ _ _ => trivial) ?_ ?_
    · rintro i x H1 H2 hi ⟨bs, hl, tb, kp⟩ ⟨rfl, c, hc, rfl⟩
      have h8 : i < 8 := hi
      refine ⟨rfl, (by show 0 ≤ sizeLine; decide), fun p np => ?_⟩
      have up := same_upd (o := HO.tup []) np
      have h2 := up _ _ hl
      refine ⟨_, h2, by rw [List.length_map, tb.1, List.length_replicate, sizeLine_eq]; omega, bs ++ [p], by rw [List.map_append]; exact upd_same, ?_, same_push hB (kp.trans up)⟩
      rw [List.replicate_succ']
      exact ((tb.same up).snoc (a := p) (r := []) upd_same).upd h2
    · rintro H1 ⟨bs, hl, tb, kp⟩
      refine ⟨(by show 0 ≤ sizeLine; decide), fun L0 nL => ?_⟩
      have uL := same_upd (o := HO.lst []) nL
      have nL0 : H L0 = none := by
        cases e : H L0 with
        | none => rfl
        | some o =>
          rw [kp _ _ e] at nL
          cases nL
      have f0 : EI H (upd H1 L0 (.lst [])) B L0 bs [] es0 := ⟨kp.trans uL, uL _ _ hl, upd_same, tb.same uL, ⟨rfl, fun i a r h => by cases h⟩, hB, nL0, fun z => by rw [← z, hl] at nL; cases nL⟩
      generalize upd H1 L0 (.lst []) = HS at f0 ⊢
      refine ⟨_, rfl, w, xs, rfl, SqT.of (f0.same _ _ hw), for_it (walk_enumT (xs := xs)) (fun i σ H' => ∃ (v5 v6 v7 v8 : Option V) (s : ES) (bs ls : List Addr), σ = [some (.ref f), some (.ref w), none, some (.ref B), some (.ref L0), v5, v6, v7, v8] ∧ EI H H' B L0 bs ls s ∧ Ge s i ∧ runE fr ts 0 es0 = runE fr (ts.drop i) i s)
        ⟨none, none, none, none, es0, bs, [], rfl, f0, Ge.zero, rfl⟩ (fun i σ H' _ ⟨_, _, _, _, _, _, _, _, z, _⟩ => SqT.of (z.same _ _ hw)) ?_ ?_⟩
      · rintro i x σ H2 H3 hi ⟨v5, v6, v7, v8, st, bs, ls, rfl, fi, gd, inv⟩ ⟨T, xi, xo, rfl, nT, rfl, h1, h2⟩
        cases h1
        obtain ⟨t, ht, tA⟩ := tx.at_ h2
        rw [drop_at ht] at inv
        have uT := same_upd (o := HO.tup [V.int (i : Nat), xo]) nT
        have f2 := fi.mono uT
        have g2 : Ge (stepE fr st i t) (i + 1) := gd.step fun e z => rg.ent e (by rw [← z]; exact List.mem_of_getElem? ht)
        have inv : runE fr ts 0 es0 = runE fr (ts.drop (i + 1)) (i + 1) (stepE fr st i t) := inv
        refine ⟨T, _, rfl, SqT.of upd_same, rfl, _, _, rfl, _, _, rfl, rfl, ?_⟩
        refine ⟨_, rfl, xo, dT t, rfl, (tA.same f2.same).da, fun H4 s4 => ⟨_, rfl, ?_⟩⟩
        rw [isWd_dT]
        have f4 := f2.mono s4
        clear uT f2 fi
        cases t with
        | turn => exact iteF' rfl ⟨_, _, _, _, st, bs, ls, rfl, f4, g2, inv⟩
        | copy => exact iteF' rfl ⟨_, _, _, _, st, bs, ls, rfl, f4, g2, inv⟩
        | cut => exact iteF' rfl ⟨_, _, _, _, st, bs, ls, rfl, f4, g2, inv⟩
        | ent e =>
          cases tA with
          | @ent tp _ a4 =>
          obtain ⟨e0, e1, n0, n1⟩ := rg.ent e (List.mem_of_getElem? ht)
          have w8 : e.1.toNat < 8 := by omega
          refine iteT' rfl ?_
          refine ⟨_, rfl, tp, _, rfl, SqT.of (f4.same _ _ a4), rfl, _, _, rfl, _, _, rfl, rfl, ?_⟩
          have lb : e.1.toNat < st.bg.length := by rw [gd.l8]; exact w8
          have er : st.bg[e.1.toNat]? = some (st.bg.getD e.1.toNat []) := by
            rw [List.getD_eq_getElem?_getD, List.getElem?_eq_getElem lb]
            rfl
          obtain ⟨ab, eb, hb⟩ := f4.tb.at_ er
          have rb := (gd.b _ (getD_mem (d := []) lb)).1
          have at8 : atI (bs.map V.ref) e.1 = some (.ref ab) := by
            obtain ⟨j, hj⟩ := Int.eq_ofNat_of_zero_le e0
            rw [hj] at eb ⊢
            rw [Int.toNat_natCast] at eb
            exact atI_nat (by rw [List.getElem?_map, eb]; rfl)
          have ix : ∀ {cs : List Addr}, cs.length = 8 → ixN (cs.map V.ref).length e.1 = some e.1.toNat := fun {cs} hc => by
            rw [List.length_map, hc]
            unfold ixN
            rw [if_pos e0, if_pos (by omega)]
          have bl : bs.length = 8 := by rw [f4.tb.1, gd.l8]
          refine ⟨_, rfl, _, rfl, B, _, e.1, .ref ab, rfl, rfl, SqL.of f4.b, e0, at8, _, rfl, (by show 1 ≤ sizeLine; decide), fun c nc => ?_⟩
          have uc := same_upd (o := HO.tup [nI i]) nc
          refine ⟨ab, c, (st.bg.getD e.1.toNat []).map nI, [nI i], rfl, rfl, uc _ _ hb, upd_same, (fun z => by cases z), by rw [List.length_map, sizeLine_eq]; simp only [List.length_cons, List.length_nil]; omega, fun H5 z s5 ez => ?_⟩
          have f5 := (f4.mono uc).mono s5
          have ez : H5 z = some (.tup ((st.bg.getD e.1.toNat [] ++ [i]).map nI)) := by
            rw [List.map_append]
            exact ez
          refine ⟨B, _, e.1, e.1.toNat, rfl, rfl, f5.b, ix bl, ?_⟩
          have f6 := f5.setB (p := e.1.toNat) ez
          have ez6 : (upd H5 B (.lst ((bs.map V.ref).set e.1.toNat (.ref z)))) z = some (.tup ((st.bg.getD e.1.toNat [] ++ [i]).map nI)) := by
            have ne : z ≠ B := by
              rintro rfl
              rw [f5.b] at ez
              cases ez
            rw [upd_ne ne]
            exact ez
          generalize upd H5 B (.lst ((bs.map V.ref).set e.1.toNat (.ref z))) = H6 at f6 ez6 ⊢
          obtain ⟨fts, t2, hf, ha, h3, _⟩ := stt_at (fa.same f6.same) n0 n1
          refine ⟨_, rfl, _, rfl, f, _, e.2, .ref t2, rfl, rfl, SqT.of hf, ha, t2, _, 2, _, rfl, rfl, SqT.of h3, atI_nat (j := 2) rfl, rfl, _, rfl, ?_⟩
          refine ite2 (fun y => ?_) (fun y => ?_)
          · have y1 : (stt fr e.2).2.2 = 0 := V.int.inj (of_decide_eq_true y)
            have hst : stepE fr st i (.ent e) = ⟨st.bg.set e.1.toNat [], st.ln ++ [st.bg.getD e.1.toNat [] ++ [i]]⟩ := if_pos y1
            have hst : stepE fr st i (.ent e) = ⟨(st.bg.set e.1.toNat (st.bg.getD e.1.toNat [] ++ [i])).set e.1.toNat [], st.ln ++ [st.bg.getD e.1.toNat [] ++ [i]]⟩ := by
              rw [hst, List.set_set]
            rw [hst] at g2 inv
            have atz : atI ((bs.set e.1.toNat z).map V.ref) e.1 = some (.ref z) := by
              obtain ⟨j, hj⟩ := Int.eq_ofNat_of_zero_le e0
              rw [hj] at w8 ⊢
              rw [Int.toNat_natCast] at w8 ⊢
              exact atI_nat (by rw [List.getElem?_map, List.getElem?_set, if_pos rfl, if_pos (by omega)]; rfl)
            have ll : ls.length < sizeLine := by
              have a := f6.tl.1
              have b := gd.l
              have a : ls.length = st.ln.length := a
              rw [sizeLine_eq]
              omega
            refine ⟨_, rfl, .inl ⟨rfl, _, SqL.of f6.l⟩, _, rfl, _, rfl, B, _, e.1, .ref z, rfl, rfl, SqL.of f6.b, atz, L0, _, .ref z, rfl, rfl, f6.l, by rw [List.length_map]; exact ll, ?_⟩
            have f7 := f6.addL ez6
            generalize upd H6 L0 (.lst (ls.map V.ref ++ [.ref z])) = H7 at f7 ⊢
            refine ⟨(by show 0 ≤ sizeLine; decide), fun b nb => ?_⟩
            have f8 := f7.mono (same_upd (o := HO.tup []) nb)
            have f9 := f8.setB (p := e.1.toNat) (a := b) (r := []) upd_same
            exact ⟨_, rfl, _, rfl, B, _, e.1, e.1.toNat, rfl, rfl, f8.b, ix (by rw [List.length_set]; exact bl), _, _, _, _, _, _, _, rfl, f9, g2, inv⟩
          · have y1 : ¬ (stt fr e.2).2.2 = 0 := fun z => y (decide_eq_true (congrArg V.int z))
            have hst : stepE fr st i (.ent e) = ⟨st.bg.set e.1.toNat (st.bg.getD e.1.toNat [] ++ [i]), st.ln⟩ := if_neg y1
            rw [hst] at g2 inv
            exact ⟨_, _, _, _, _, _, ls, rfl, f6, g2, inv⟩
      · rintro σ HE ⟨v5, v6, v7, v8, st, bs, ls, rfl, fi, gd, inv⟩
        have e0 : ts.drop xs.length = [] := by
          rw [tl]
          exact List.drop_length
        rw [e0] at inv
        refine ⟨_, rfl, q HE L0 fi.same ?_⟩
        have e : endedF fr ts = st.ln := congrArg ES.ln inv
        rw [e]
        exact ⟨ls, fi.l, fi.tl⟩
end
end K41

set_option Elab.async false
set_option linter.all false
set_option maxRecDepth 100000
set_option maxHeartbeats 4000000
/-! lines_read. -/
namespace L2
open PySem PySem.Spec PyProof.Rows
/-- tuple(l) -/
def tTupOf (K : PySem.W.Frag) (ta : TA) : TE := tCB (fun xs H Q => ∃ p ys, xs = [.ref p] ∧ ((SqL K H p ys ∧ ∀ l, H l = none → Q (.ref l) (upd H l (.tup ys))) ∨ (SqT K H p ys ∧ Q (.ref p) H))) ta
end L2
namespace K41
open PySem L2 L2.EV
abbrev sLR : Stmt := top 36
def cutsN (fr : List T3) (es : List E2) (i : Nat) : List Nat := ((List.range i).filter fun k => ends fr (es.getD k (0, 0))).map fun k : Nat => k + 1
def lpN (fr : List T3) (es : List E2) : List Nat := 0 :: cutsN fr es es.length
theorem lp_nat {fr : List T3} {es : List E2} : lp fr es = (lpN fr es).map fun k : Nat => (k : Int) := by
  unfold lp lpN cuts cutsN
  rw [List.map_cons, List.map_map]
  congr 1
def cutE {α : Type} (es : List α) (lo hi : Nat) : List α := (es.drop (min lo es.length)).take (min hi es.length - min lo es.length)
theorem cutV_nI {ns : List Nat} {lo hi : Nat} : cutV (ns.map nI) (some (lo : Int)) (some (hi : Int)) = (cutE ns lo hi).map nI := by
  unfold cutV cutE
  rw [HT.sIx_nat, HT.sIx_nat, List.length_map, List.map_take, List.map_drop]
theorem int_at {l : List Nat} {i : Nat} {x : V} (h : ((l.map (fun k : Nat => (k : Int))).map V.int)[i]? = some x) : ∃ k : Nat, l[i]? = some k ∧ x = .int (k : Int) := by
  rw [List.getElem?_map, List.getElem?_map] at h
  cases e : l[i]? with
  | none =>
    rw [e] at h
    cases h
  | some k =>
    rw [e] at h
    exact ⟨k, rfl, (Option.some.inj h).symm⟩
theorem cut_tail {l : List Nat} : cutV ((l.map (fun k : Nat => (k : Int))).map V.int) (some 1) none = ((l.tail).map (fun k : Nat => (k : Int))).map V.int := by
  rw [cut_one]
  cases l <;> rfl
theorem lpN_len {fr : List T3} {es : List E2} (h : es.length ≤ 200) : (lpN fr es).length ≤ 201 := by
  have := List.length_filter_le (fun k => ends fr (es.getD k (0, 0))) (List.range es.length)
  unfold lpN cutsN
  rw [List.length_cons, List.length_map]
  rw [List.length_range] at this
  omega
/-- the numbers of each read line's entries -/
def linesR (fr : List T3) (ts : List Tn) (r : List Nat) : List (List Nat) := ((lpN fr (entsAt ts r)).zip (lpN fr (entsAt ts r)).tail).map fun q => cutE r q.1 q.2
def spLR : Sp := fun vs H Q _ => ∃ (f w r : Addr) (fr : List T3) (last : Nat) (ts : List Tn) (ns : List Nat), vs = [.ref f, .ref w, .ref r] ∧ FrA H f fr ∧ Frm fr last ∧ ThA H w ts ∧ (∀ e, Tn.ent e ∈ ts → Ent fr e) ∧ H r = some (.lst (ns.map nI)) ∧
  (∀ k ∈ ns, ∃ e, ts[k]? = some (.ent e)) ∧ ns.length ≤ 200 ∧ ∀ H' p, Same H H' → H p = none → LinesA H' p (linesR fr ts ns) → Q (.ref p) H'
structure Lr (K : PySem.W.Frag) (mg : Str → Option Value) where
  T : Ps K mg
  f : Addr
  d : FuncData
  F : Fun K "lines_read" "lines_read" sLR f d
  b : Binds K d ["framing", "thing", "row"] []
  m : mg "lines_read" = some (.ref f)
  tu : mg "tuple" = none
  zip : mg "zip" = none
abbrev NLR : List Str := ["framing", "thing", "row", "number", "places", "low", "high"]
section
variable {P : Program} {w : World} {K : PySem.W.Frag} {mg : Str → Option Value} {base : Heap}
theorem scLR : FnScope NLR ["framing", "thing", "row"] (defScope sLR) := ⟨rfl, rfl, rfl, by decide +kernel, rfl, by decide +kernel, by decide +kernel⟩
theorem ok_lr (L : Lr K mg) : FnOk P w K mg base CX0 2 L.f L.d ["framing", "thing", "row"] spLR := by
  have GL : FnOk P w K mg base CX0 1 L.T.fL L.T.dL ["framing", "entries"] spPlaces := ok_places L.T
  refine L.F.ok scLR (fun vs H Q E h => ?_) (fun cdv A outer s H vs Q E hr h => ?_)
  · obtain ⟨f, w, r, fr, last, ts, ns, rfl, _⟩ := h
    rfl
  · obtain ⟨f, w, r, fr, last, ts, ns, rfl, fa, fm, ta, ent, hR, re, r2, q⟩ := h
    have r1 := hr.mono (j := 1) (by omega)
    refine ⟨_, pss_cons (ps_set (i := 4) scLR.nd rfl (Or.inl rfl) (pe_call GL r1 (by rfl) L.T.mL L.T.L.kp L.T.bL .nil pass0 (pa_cons (pv 0) (pa_cons (pe_lc (own := [("number", 3)]) (g := gName 3) (te := tOp (rIxT K) (tVar 1) (tVar 3)) rfl scLR.nd (pi_list (pv 2))
          (blkOk_by (N := NLR) (sc := defScope sLR) (by decide +kernel))
          (fun _ _ _ _ _ => pg_name (i := 3) scLR.nd rfl (Or.inl rfl)) (fun _ _ _ _ _ => pts_nil) (fun _ _ _ _ _ => pe_ix ix_tup (pv 1) (pv 3) (fun _ _ => rfl))) pa_nil))))
      (pss_one (ps_ret (pe_lc (own := [("low", 5), ("high", 6)]) (g := gTup K 2 (gCons (gName 5) (gCons (gName 6) gNil))) (te := tTupOf K (tCons (tSl (rSlL K) (tVar 2) (tPart (tVar 5)) (tPart (tVar 6))) tNil)) rfl scLR.nd
        (pi_zip (by rfl) L.zip (pa_cons (pv 4) (pa_cons (pe_slice sl_list (pv 4) (po_some pe_int) po_none) pa_nil)))
        (blkOk_by (N := NLR) (sc := defScope sLR) (by decide +kernel))
        (fun _ _ _ _ _ => pg_tup rfl (pgs_cons (pg_name (i := 5) scLR.nd rfl (Or.inl rfl)) (pgs_cons (pg_name (i := 6) scLR.nd rfl (Or.inl rfl)) pgs_nil))) (fun _ _ _ _ _ => pts_nil)
        (fun _ _ _ _ _ => pe_callTy call_tuple_of (by rfl) L.tu (by decide +kernel) (pa_cons (pe_slice sl_list (pv 2) (po_some (pv 5)) (po_some (pv 6))) pa_nil))))), ?_⟩
    obtain ⟨xs, hw, tx⟩ := id ta
    refine ⟨_, rfl, _, rfl, r, rfl, ⟨_, SqL.of hR⟩, fun D2 hD2 => ?_⟩
    refine lc_it (walk_list (xs := ns.map nI)) (fun j H' => ∃ tys : List Addr, H' D2 = some (.lst (tys.map V.ref)) ∧ tys.length = j ∧ (∀ (i : Nat) t e, tys[i]? = some t → (entsAt ts (ns.take j))[i]? = some e → A2 H t e) ∧ Same H H')
      ⟨[], upd_same, rfl, (fun i t e z => by cases z), same_upd hD2⟩ (fun j H' _ ⟨_, _, _, _, z⟩ => SqL.of (z _ _ hR)) ?_ ?_
    · rintro j x H6z H6 hj ⟨tys, ht, tl, tA, s6⟩ ⟨rfl, hx⟩
      rw [List.length_map] at hj
      have hk : ns[j]? = some ns[j] := List.getElem?_eq_getElem hj
      rw [List.getElem?_map, hk] at hx
      obtain rfl : nI ns[j] = x := Option.some.inj hx
      obtain ⟨e, he⟩ := re _ (List.mem_of_getElem? hk)
      obtain ⟨y, hy, yA⟩ := tx.at' he
      cases yA with
      | @ent tp _ a4 =>
      refine ⟨rfl, ?_⟩
      refine ⟨_, rfl, _, rfl, w, xs, (ns[j] : Nat), .ref tp, rfl, rfl, SqT.of (s6 _ _ hw), atI_nat hy, _, ht, by rw [List.length_map, tl, sizeLine_eq]; omega, tys ++ [tp], by rw [List.map_append]; exact upd_same, by rw [List.length_append, tl]; rfl, fun q u e' h1 h2 => ?_, same_push hD2 s6⟩
      have es : entsAt ts (ns.take (j + 1)) = entsAt ts (ns.take j) ++ [e] := by
        unfold entsAt
        rw [take_one hk, List.map_append, List.map_cons, List.map_nil, entAt_of he]
      rw [es] at h2
      have le : (entsAt ts (ns.take j)).length = j := by
        unfold entsAt
        rw [List.length_map, List.length_take]
        omega
      by_cases c : q < j
      · rw [List.getElem?_append_left (by omega)] at h1 h2
        exact tA q u e' h1 h2
      · have : q = j := by
          have := (List.getElem?_eq_some_iff.mp h1).1
          rw [List.length_append] at this
          simp only [List.length_cons, List.length_nil] at this
          omega
        subst this
        rw [List.getElem?_append_right (by omega), tl, Nat.sub_self] at h1
        rw [List.getElem?_append_right (by omega), le, Nat.sub_self] at h2
        cases h1
        cases h2
        exact a4
    · rintro H6 ⟨tys, ht, tl, tA, s6⟩
      rw [List.length_map] at tl tA
      rw [List.take_length] at tA
      have el : (entsAt ts ns).length = ns.length := by
        unfold entsAt
        rw [List.length_map]
      refine ⟨f, D2, fr, last, entsAt ts ns, rfl, fa.same s6, fm, ⟨tys, ht, by rw [tl, el], fun q u e' h1 h2 => s6 _ _ (tA q u e' h1 h2)⟩, fun e he => ?_, by rw [el]; exact r2, fun H2 p s2 np ep => ?_⟩
      · obtain ⟨k, hk, rfl⟩ := List.mem_map.mp he
        obtain ⟨e, he⟩ := re k hk
        rw [entAt_of he]
        exact ent e (List.mem_of_getElem? he)
      · rw [lp_nat] at ep
        refine ⟨_, rfl, _, rfl, 1, rfl, p, _, rfl, SqL.of ep, fun p2 hp2 => ⟨p, p2, _, _, rfl, SqL.of (same_upd hp2 _ _ ep), SqL.of upd_same, fun D hD => ?_⟩⟩
        have u2 := same_upd (o := HO.lst (cutV ((List.map (fun k : Nat => (k : Int)) (lpN fr (entsAt ts ns))).map V.int) (some 1) none)) hp2
        rw [cut_tail] at hD u2 ⊢
        have sA := (s6.trans s2).trans u2
        have ll := lpN_len (fr := fr) (es := entsAt ts ns) (by rw [el]; exact r2)
        have el2 : (linesR fr ts ns).length = min (((lpN fr (entsAt ts ns)).map (fun k : Nat => (k : Int))).map V.int).length ((((lpN fr (entsAt ts ns)).tail).map (fun k : Nat => (k : Int))).map V.int).length := by
          unfold linesR
          simp
        refine lc_it (walk_zip el2) (fun i H' => (∃ qs : List Addr, H' D = some (.lst (qs.map V.ref)) ∧ TupsA H' qs ((linesR fr ts ns).take i)) ∧ Same (upd H2 p2 (.lst ((((lpN fr (entsAt ts ns)).tail).map (fun k : Nat => (k : Int))).map V.int))) H')
          ⟨⟨[], upd_same, rfl, fun k q l z => by cases z⟩, same_upd hD⟩ (fun i H' _ z => ⟨SqL.of (z.2 _ _ (u2 _ _ ep)), SqL.of (z.2 _ _ upd_same)⟩) ?_ ?_
        · rintro i x H3 H4 hi ⟨⟨qs, hl, tq⟩, kp⟩ ⟨T, x1, x2, rfl, nT, rfl, h1, h2⟩
          obtain ⟨lo, hlo, rfl⟩ := int_at h1
          obtain ⟨hi2, hhi, rfl⟩ := int_at h2
          have uT := same_upd (o := HO.tup [V.int (lo : Int), V.int (hi2 : Int)]) nT
          have s3 : Same H _ := (sA.trans kp).trans uT
          refine ⟨T, _, rfl, SqT.of upd_same, rfl, _, _, rfl, _, _, rfl, rfl, rfl, ?_⟩
          have le : (linesR fr ts ns)[i]? = some (cutE ns lo hi2) := by
            unfold linesR
            rw [List.getElem?_map, List.getElem?_zip_eq_some.mpr (show (lpN fr (entsAt ts ns))[i]? = some ((lo, hi2) : Nat × Nat).1 ∧ (lpN fr (entsAt ts ns)).tail[i]? = some ((lo, hi2) : Nat × Nat).2 from ⟨hlo, hhi⟩)]
            rfl
          refine ⟨_, rfl, _, rfl, _, rfl, _, rfl, _, rfl, r, _, rfl, SqL.of (s3 _ _ hR), fun c nc => ?_⟩
          rw [cutV_nI]
          have uc := same_upd (o := HO.lst ((cutE ns lo hi2).map nI)) nc
          refine ⟨c, _, rfl, .inl ⟨SqL.of upd_same, fun z nz => ?_⟩⟩
          have uz := same_upd (o := HO.tup ((cutE ns lo hi2).map nI)) nz
          have d5 := (uc.trans uz) _ _ (uT _ _ hl)
          have ql := tq.1
          rw [List.length_take] at ql
          refine ⟨_, d5, ?_, ⟨qs ++ [z], by rw [List.map_append]; exact upd_same, ?_⟩, same_push hD (kp.trans (uT.trans (uc.trans uz)))⟩
          · rw [el2] at hi
            simp only [List.length_map] at hi
            rw [List.length_map, ql, sizeLine_eq]
            omega
          · rw [take_one le]
            exact ((tq.same (uT.trans (uc.trans uz))).snoc (a := z) upd_same).upd d5
        · rintro H3 ⟨⟨qs, hl, tq⟩, kp⟩
          rw [List.take_length] at tq
          have nD : H D = none := by
            cases e : H D with
            | none => rfl
            | some o =>
              rw [sA _ _ e] at hD
              cases hD
          exact q _ D (sA.trans kp) nD ⟨qs, hl, tq⟩
end
end K41

set_option Elab.async false
set_option linter.all false
set_option maxRecDepth 100000
set_option maxHeartbeats 4000000
/-! fate. -/
namespace L2
open PySem PySem.Spec PyProof.Rows
section
variable {J : It} {n : Nat} {G : Hp → Prop} {Y : Nat → Hp → V → Hp → Prop}
/-- the inner walk of a comprehension with two -/
theorem lc_in (w : Walk J n G Y) {g : TG} {tt : TT} {te : TE} {vs : List Nat} {σ : St} {H1 : Hp} {D : Addr} {Qd : Hp → Prop} (Pv : Nat → Hp → Prop) (h0 : Pv 0 H1) (hG : ∀ i H, i ≤ n → Pv i H → G H)
    (hs : ∀ i x H H', i < n → Pv i H → Y i H x H' → g x (wipe σ vs) H' fun σ2 H2 => wipe σ2 vs = wipe σ vs ∧ tt σ2 H2 fun b H3 =>
      if b = true then te σ2 H3 fun y H4 => ∃ acc, H4 D = some (.lst acc) ∧ acc.length < sizeLine ∧ Pv (i + 1) (upd H4 D (.lst (acc ++ [y]))) else Pv (i + 1) H3) (hd : ∀ H, Pv n H → Qd H) :
    ∃ W : Nat → Nat → Hp → Prop, (∃ m, W 0 m H1) ∧ ∀ i m H, W i m H →
      (J.stop i H ∧ Qd H) ∨ (J.go i H ∧ ∃ Nx : Hp → Prop, (∀ H', Nx H' → ∃ m', m' < m ∧ W (i + 1) m' H') ∧ ∀ x H', J.yld i H x H' → g x (wipe σ vs) H' fun σ2 H2 => wipe σ2 vs = wipe σ vs ∧ tt σ2 H2 fun b H3 =>
        if b = true then te σ2 H3 fun y H4 => ∃ acc, H4 D = some (.lst acc) ∧ acc.length < sizeLine ∧ Nx (upd H4 D (.lst (acc ++ [y]))) else Nx H3) := by
  refine ⟨fun i m H => m = n - i ∧ i ≤ n ∧ Pv i H, ⟨n, by simp, Nat.zero_le _, h0⟩, ?_⟩
  rintro i m H ⟨rfl, hi, p⟩
  have q := hG i H hi p
  by_cases hlt : i < n
  · refine .inr ⟨w.goes i H hlt q, Pv (i + 1), fun H' p' => ⟨n - (i + 1), by omega, rfl, hlt, p'⟩, fun x H' y => hs i x H H' hlt p (w.yields i H x H' hlt q y)⟩
  · have e : i = n := by omega
    subst e
    exact .inl ⟨w.stops H q, hd H p⟩
/-- a walk's turns, each with an own promise R -/
theorem lc2_it (w : Walk J n G Y) {g : TG} {tt : TT} {R : St → Hp → (Hp → Prop) → Prop} {vs : List Nat} {σ : St} {H1 : Hp} {D : Addr} {Qd : Hp → Prop} (Pv : Nat → Hp → Prop) (h0 : Pv 0 (upd H1 D (.lst []))) (hG : ∀ i H, i ≤ n → Pv i H → G H)
    (hs : ∀ i x H H', i < n → Pv i H → Y i H x H' → g x (wipe σ vs) H' fun σ2 H2 => wipe σ2 vs = wipe σ vs ∧ tt σ2 H2 fun b H3 => if b = true then R σ2 H3 (Pv (i + 1)) else Pv (i + 1) H3) (hd : ∀ H, Pv n H → Qd H) :
    ∃ W : Nat → Nat → Hp → Prop, (∃ m, W 0 m (upd H1 D (.lst []))) ∧ ∀ i m H, W i m H →
      (J.stop i H ∧ Qd H) ∨ (J.go i H ∧ ∃ Nx : Hp → Prop, (∀ H', Nx H' → ∃ m', m' < m ∧ W (i + 1) m' H') ∧ ∀ x H', J.yld i H x H' → g x (wipe σ vs) H' fun σ2 H2 => wipe σ2 vs = wipe σ vs ∧ tt σ2 H2 fun b H3 =>
        if b = true then R σ2 H3 Nx else Nx H3) := by
  refine ⟨fun i m H => m = n - i ∧ i ≤ n ∧ Pv i H, ⟨n, by simp, Nat.zero_le _, h0⟩, ?_⟩
  rintro i m H ⟨rfl, hi, p⟩
  have q := hG i H hi p
  by_cases hlt : i < n
  · refine .inr ⟨w.goes i H hlt q, Pv (i + 1), fun H' p' => ⟨n - (i + 1), by omega, rfl, hlt, p'⟩, fun x H' y => hs i x H H' hlt p (w.yields i H x H' hlt q y)⟩
  · have e : i = n := by omega
    subst e
    exact .inl ⟨w.stops H q, hd H p⟩
end
end L2
namespace K41
open PySem L2 L2.EV
abbrev sFate : Stmt := top 37
/-- numbers as data -/
def dN (r : List Nat) : PyData := .tuple (r.map fun n : Nat => .int (n : Int))
theorem eqv_dN : ∀ {a b : List Nat}, PyData.eqv (dN a) (dN b) = decide (a = b)
  | [], [] => by simp [dN, PyData.eqv, PyData.eqvAll]
  | [], _ :: _ => by simp [dN, PyData.eqv, PyData.eqvAll]
  | _ :: _, [] => by simp [dN, PyData.eqv, PyData.eqvAll]
  | x :: a, y :: b => by
    have ih : PyData.eqvAll (a.map fun n : Nat => .int (n : Int)) (b.map fun n : Nat => .int (n : Int)) = decide (a = b) := by
      have z := eqv_dN (a := a) (b := b)
      unfold dN at z
      rw [PyData.eqv] at z
      exact z
    unfold dN
    rw [List.map_cons, List.map_cons, PyData.eqv, PyData.eqvAll, ih, PyData.eqv]
    by_cases h : x = y
    · subst h
      by_cases k : a = b
      · subst k
        simp
      · simp [k]
    · have : ¬ (x : Int) = (y : Int) := fun z => h (by omega)
      simp [h, this]
theorem lay_ints : ∀ r : List Nat, PyData.canLayAll0 (r.map fun n : Nat => .int (n : Int)) = true ∧ PyData.depthAll (r.map fun n : Nat => .int (n : Int)) = 0
  | [] => ⟨by simp [PyData.canLayAll0], by simp [PyData.depthAll]⟩
  | x :: r => by
    obtain ⟨a, b⟩ := lay_ints r
    exact ⟨by simp [PyData.canLayAll0, PyData.canLay0, a], by simp only [List.map_cons, PyData.depthAll, PyData.depth]; omega⟩
theorem sh_dN (r : List Nat) : SeqAt.shaped (dN r) = true := by
  obtain ⟨a, b⟩ := lay_ints r
  show (PyData.canLay0 (dN r) && decide (PyData.depth (dN r) ≤ 64)) = true
  rw [Bool.and_eq_true]
  refine ⟨by unfold dN; simp only [PyData.canLay0]; exact a, decide_eq_true ?_⟩
  unfold dN
  simp only [PyData.depth]
  omega
theorem lay_dNs : ∀ rs : List (List Nat), PyData.canLayAll0 (rs.map dN) = true ∧ PyData.depthAll (rs.map dN) ≤ 1
  | [] => ⟨by simp [PyData.canLayAll0], by simp [PyData.depthAll]⟩
  | r :: rs => by
    obtain ⟨a, b⟩ := lay_dNs rs
    obtain ⟨c, d⟩ := lay_ints r
    refine ⟨by simp [PyData.canLayAll0, dN, PyData.canLay0, a, c], ?_⟩
    simp only [List.map_cons, PyData.depthAll, dN, PyData.depth]
    omega
theorem sh_dNs (rs : List (List Nat)) : SeqAt.shaped (.list (rs.map dN)) = true := by
  obtain ⟨a, b⟩ := lay_dNs rs
  show (PyData.canLay0 (.list (rs.map dN)) && decide (PyData.depth (.list (rs.map dN)) ≤ 64)) = true
  rw [Bool.and_eq_true]
  refine ⟨by simp only [PyData.canLay0]; exact a, decide_eq_true ?_⟩
  simp only [PyData.depth]
  omega
theorem da_ints {H : Hp} : ∀ r : List Nat, DaAll H (r.map nI) (r.map fun n : Nat => .int (n : Int))
  | [] => .nil
  | x :: r => .cons (.int _) (da_ints r)
theorem da_dN {H : Hp} {a : Addr} {r : List Nat} (e : H a = some (.tup (r.map nI))) : Da H (.ref a) (dN r) := .tup e (da_ints r)
theorem da_dNs {H : Hp} : ∀ {as : List Addr} {rs : List (List Nat)}, TupsA H as rs → DaAll H (as.map V.ref) (rs.map dN)
  | [], [], _ => .nil
  | [], _ :: _, h => by cases h.1
  | _ :: _, [], h => by cases h.1
  | a :: as, r :: rs, h => .cons (da_dN (h.2 0 a r rfl rfl)) (da_dNs (as := as) (rs := rs) ⟨by simpa using h.1, fun i b q h1 h2 => h.2 (i + 1) b q (by simpa using h1) (by simpa using h2)⟩)
theorem LinesA.da {H : Hp} {p : Addr} {rs : List (List Nat)} (h : LinesA H p rs) : Da H (.ref p) (.list (rs.map dN)) := by
  obtain ⟨as, e, t⟩ := h
  exact .lst e (da_dNs t)
theorem any_dN {rs : List (List Nat)} {r : List Nat} : ((rs.map dN).any fun z => PyData.eqv z (dN r)) = decide (r ∈ rs) := by
  rw [List.any_map]
  have e : ((fun z => PyData.eqv z (dN r)) ∘ dN) = fun q => decide (q = r) := funext fun q => eqv_dN
  rw [e, List.any_eq]
  exact decide_eq_decide.mpr ⟨fun ⟨x, hx, z⟩ => (of_decide_eq_true z) ▸ hx, fun h => ⟨r, h, decide_eq_true rfl⟩⟩
/-- lists of lists of tuples -/
def LLA (H : Hp) (p : Addr) (lss : List (List (List Nat))) : Prop := ∃ as : List Addr, H p = some (.lst (as.map V.ref)) ∧ as.length = lss.length ∧ ∀ (i : Nat) a ls, as[i]? = some a → lss[i]? = some ls → LinesA H a ls
theorem LLA.same {H H' : Hp} {p : Addr} {lss : List (List (List Nat))} (h : LLA H p lss) (s : Same H H') : LLA H' p lss := by
  obtain ⟨as, e, l, c⟩ := h
  exact ⟨as, s _ _ e, l, fun i a r h1 h2 => (c i a r h1 h2).same s⟩
/-- what becomes of a line -/
def fateF (line : List Nat) (rows : List (List Nat)) (lss : List (List (List Nat))) : Str :=
  let many := (lss.filter fun rd => decide (line ∈ rd)).length
  if 0 < many then (if many = 1 then "kept" else "doubled")
  else if (rows.any fun r => line.any fun n => decide (n ∈ r)) = true then "torn" else "lost"
def spFate : Sp := fun vs H Q _ => ∃ (l r p : Addr) (line : List Nat) (rows : List (List Nat)) (lss : List (List (List Nat))), vs = [.ref l, .ref r, .ref p] ∧ H l = some (.tup (line.map nI)) ∧ line.length ≤ 200 ∧ RowsA H r rows ∧ rows.length ≤ 201 ∧ LLA H p lss ∧ lss.length ≤ 201 ∧
  ∀ H', Same H H' → Q (.str (fateF line rows lss)) H'
theorem inV_nI {n : Nat} : ∀ {r : List Nat}, inV (nI n) (r.map nI) = decide (n ∈ r)
  | [] => by simp [inV]
  | x :: r => by
    have ih := inV_nI (n := n) (r := r)
    unfold inV at ih ⊢
    rw [List.map_cons, List.any_cons, ih]
    have e : eqV (nI x) (nI n) = decide (x = n) := by
      show ((x : Int) == (n : Int)) = decide (x = n)
      by_cases h : x = n
      · subst h
        simp
      · have : ¬ (x : Int) = (n : Int) := fun z => h (by omega)
        simp [h, this]
    rw [e]
    by_cases h : x = n
    · subst h
      simp
    · have h2 : ¬ n = x := fun z => h z.symm
      simp [h, h2]
theorem flat_nI (r : List Nat) : (r.map nI).all flatV = true := by
  rw [List.all_eq_true]
  intro v hv
  obtain ⟨x, _, rfl⟩ := List.mem_map.mp hv
  rfl
structure Ft (K : PySem.W.Frag) (mg : Str → Option Value) where
  f : Addr
  d : FuncData
  F : Fun K "fate" "fate" sFate f d
  b : Binds K d ["line", "rows", "lines"] []
  m : mg "fate" = some (.ref f)
  len : mg "len" = none
  any : mg "any" = none
abbrev NFt : List Str := ["line", "rows", "lines", "read", "many", "row", "number"]
section
variable {P : Program} {w : World} {K : PySem.W.Frag} {mg : Str → Option Value} {base : Heap}
theorem scFate : FnScope NFt ["line", "rows", "lines"] (defScope sFate) := ⟨rfl, rfl, rfl, by decide +kernel, rfl, by decide +kernel, by decide +kernel⟩
theorem ok_fate (L : Ft K mg) : FnOk P w K mg base CX0 1 L.f L.d ["line", "rows", "lines"] spFate := by
  refine L.F.ok scFate (fun vs H Q E h => ?_) (fun cdv A outer s H vs Q E hr h => ?_)
  · obtain ⟨l, r, p, line, rows, lss, rfl, _⟩ := h
    rfl
  · obtain ⟨l, r, p, line, rows, lss, rfl, hl, l2, ra, r2, la, p2, q⟩ := h
    have hu65 : (A.deeper (PyProof.Rows.envOfC "fate" (defScope sFate) s.heap.objs.size L.f cdv)).units + 65 < cLine := by
      have := hr.un
      omega
    refine ⟨_, pss_cons (ps_set (i := 4) scFate.nd rfl (Or.inl rfl) (pe_callB call_len_seq (by rfl) L.len PySem.boot_len (pa_cons (pe_lc (own := [("read", 3)]) (g := gName 3) (tt := tTest (tOp (rInD K) (tVar 0) (tVar 3))) (te := tVar 3) rfl scFate.nd (pi_list (pv 2))
          (blkOk_by (N := NFt) (sc := defScope sFate) (by decide +kernel))
          (fun _ _ _ _ _ => pg_name (i := 3) scFate.nd rfl (Or.inl rfl)) (fun _ _ _ _ _ => pts_one (pt_cmpR (op_inD hu65) (pv 0) (pv 3) (by rfl))) (fun _ _ _ _ _ => pv 3)) pa_nil)))
      (pss_cons (ps_if (pt_cmpR op_gt (pv 4) pe_int (nomark _)) (pss_one (ps_ret (pe_ifExp (pt_cmpR op_eq (pv 4) pe_int (nomark _)) pe_str pe_str))) pss_nil)
      (pss_cons (ps_if (pt_val (pe_callB (cr_any rfl) (by rfl) L.any (by decide +kernel) (pa_cons (pe_lc2 (own := [("row", 5), ("number", 6)]) (vs1 := [6]) (wi1 := iTup K (tVar 0)) (g := gName 5) (g1 := gName 6) (te := tOp (rIn K false) (tVar 6) (tVar 5)) rfl scFate.nd (pi_list (pv 1))
          (blkOk_by (N := NFt) (sc := defScope sFate) (by decide +kernel)) (by decide)
          (fun _ _ _ _ _ => pg_name (i := 5) scFate.nd rfl (Or.inl rfl)) (fun _ _ _ _ _ => pts_nil) (fun _ _ _ _ _ => pi_tup (pv 0)) (fun _ _ _ _ _ => pg_name (i := 6) scFate.nd rfl (Or.inl rfl)) (fun _ _ _ _ _ => pts_nil) (fun _ _ _ _ _ => pe_cmpR op_in_seq (pv 6) (pv 5) (by rfl))) pa_nil)))
        (pss_one (ps_ret pe_str)) pss_nil)
      (pss_one (ps_ret pe_str)))), ?_⟩
    obtain ⟨as, hp, al, ac⟩ := id la
    obtain ⟨ads, hr0, rl, rc⟩ := id ra
    refine ⟨_, rfl, p, rfl, ⟨_, SqL.of hp⟩, fun D hD => ?_⟩
    refine lc_it (walk_list (xs := as.map V.ref)) (fun i H' => ∃ ks : List V, H' D = some (.lst ks) ∧ ks.length = ((lss.take i).filter fun rd => decide (line ∈ rd)).length ∧ Same H H') ⟨[], upd_same, rfl, same_upd hD⟩ (fun i H' _ ⟨_, _, _, z⟩ => SqL.of (z _ _ hp)) ?_ ?_
    · rintro i x H4z H4 hi ⟨ks, hd, kl, s4⟩ ⟨rfl, hx⟩
      rw [List.length_map] at hi
      have ha : as[i]? = some as[i] := List.getElem?_eq_getElem hi
      rw [List.getElem?_map, ha] at hx
      obtain rfl : V.ref as[i] = x := Option.some.inj hx
      have ir : i < lss.length := by omega
      have hrd : lss[i]? = some lss[i] := List.getElem?_eq_getElem ir
      have hc := (ac i _ _ ha hrd).same s4
      have kb : ((lss.take i).filter fun rd => decide (line ∈ rd)).length ≤ i := Nat.le_trans (List.length_filter_le _ _) (by rw [List.length_take]; omega)
      refine ⟨rfl, _, rfl, _, rfl, dN line, (lss[i]).map dN, Da.dp _ _ (da_dN (s4 _ _ hl)), Da.dp _ _ hc.da, sh_dN _, sh_dNs _, _, rfl, ?_⟩
      rw [any_dN]
      refine ite2 (fun y => ?_) (fun y => ?_)
      · refine ⟨_, rfl, ks, hd, by rw [kl, sizeLine_eq]; omega, ks ++ [.ref as[i]], upd_same, ?_, same_push hD s4⟩
        rw [take_one hrd, List.filter_append, List.length_append, List.length_append, kl, List.filter_cons, if_pos y]
        rfl
      · refine ⟨ks, hd, ?_, s4⟩
        rw [take_one hrd, List.filter_append, List.length_append, kl, List.filter_cons, if_neg y]
        rfl
    · rintro H1 ⟨ks, hd, kl, s1⟩
      rw [List.length_map, al, List.take_length] at kl
      have fe : fateF line rows lss = if 0 < ks.length then (if ks.length = 1 then ("kept" : Str) else ("doubled" : Str)) else if (rows.any fun r => line.any fun n => decide (n ∈ r)) = true then ("torn" : Str) else ("lost" : Str) := by
        unfold fateF
        rw [kl]
      rw [fe] at q
      clear fe
      refine ⟨D, ks, rfl, .inl (SqL.of hd), ?_⟩
      refine ⟨_, rfl, _, 0, rfl, rfl, _, rfl, ite2 (fun y => ?_) (fun y => ?_)⟩
      · have y1 : (0 : Int) < (ks.length : Nat) := of_decide_eq_true y
        rw [if_pos (by omega)] at q
        refine ⟨_, rfl, rfl, _, rfl, ite2 (fun z => ?_) (fun z => ?_)⟩
        · have z1 : ((ks.length : Nat) : Int) = 1 := V.int.inj (of_decide_eq_true z)
          rw [if_pos (by omega)] at q
          exact q _ s1
        · have z1 : ¬ ((ks.length : Nat) : Int) = 1 := fun k => z (decide_eq_true (congrArg V.int k))
          rw [if_neg (by omega)] at q
          exact q _ s1
      · have y1 : ¬ (0 : Int) < (ks.length : Nat) := fun k => y (decide_eq_true k)
        rw [if_neg (by omega)] at q
        refine ⟨_, rfl, r, rfl, ⟨_, SqL.of (s1 _ _ hr0)⟩, fun D2 hD2 => ?_⟩
        refine lc2_it (walk_list (xs := ads.map V.ref)) (fun i H' => ∃ bs : List Bool, H' D2 = some (.lst (bs.map V.bl)) ∧ bs.any id = ((rows.take i).any fun r => line.any fun n => decide (n ∈ r)) ∧ bs.length ≤ i * 200 ∧ Same H1 H')
          ⟨[], upd_same, rfl, Nat.zero_le _, same_upd hD2⟩ (fun i H' _ ⟨_, _, _, _, z⟩ => SqL.of (z _ _ (s1 _ _ hr0))) ?_ ?_
        · rintro i x H5z H5 hi ⟨bs, hb, ba, bl, s5⟩ ⟨rfl, hx⟩
          rw [List.length_map] at hi
          have ha : ads[i]? = some ads[i] := List.getElem?_eq_getElem hi
          rw [List.getElem?_map, ha] at hx
          obtain rfl : V.ref ads[i] = x := Option.some.inj hx
          have ir : i < rows.length := by omega
          have hrw : rows[i]? = some rows[i] := List.getElem?_eq_getElem ir
          have hc := rc i _ _ ha hrw
          generalize rows[i] = row at hrw hc
          have s15 := s1.trans s5
          refine ⟨rfl, ?_⟩
          refine ⟨_, rfl, l, rfl, ⟨_, SqT.of (s15 _ _ hl)⟩, ?_⟩
          refine lc_in (walk_tup (xs := line.map nI)) (fun j H' => ∃ cs : List Bool, H' D2 = some (.lst ((bs ++ cs).map V.bl)) ∧ cs.length = j ∧ cs.any id = ((line.take j).any fun n => decide (n ∈ row)) ∧ Same H1 H')
            ⟨[], by rw [List.append_nil]; exact hb, rfl, rfl, s5⟩ (fun j H' _ ⟨_, _, _, _, z⟩ => SqT.of (z _ _ (s1 _ _ hl))) ?_ ?_
          · rintro j y H6z H6 hj ⟨cs, hc6, cl, ca, s6⟩ ⟨rfl, hy⟩
            rw [List.length_map] at hj
            have hk : line[j]? = some line[j] := List.getElem?_eq_getElem hj
            rw [List.getElem?_map, hk] at hy
            obtain rfl : nI line[j] = y := Option.some.inj hy
            refine ⟨rfl, _, rfl, _, rfl, ads[i], _, rfl, .inl (SqL.of ((s1.trans s6) _ _ hc)), rfl, flat_nI row, _, hc6, ?_, cs ++ [inV (nI line[j]) (row.map nI)], ?_, by rw [List.length_append, cl]; rfl, ?_, same_push hD2 s6⟩
            · rw [List.length_map, List.length_append, cl, sizeLine_eq]
              omega
            · rw [← List.append_assoc, List.map_append (l₁ := bs ++ cs)]
              exact upd_same
            · rw [take_one hk, List.any_append, List.any_append, ca, inV_nI]
              simp
          · rintro H6 ⟨cs, hc6, cl, ca, s6⟩
            rw [List.length_map] at cl ca
            rw [List.take_length] at ca
            refine ⟨bs ++ cs, hc6, ?_, ?_, s6⟩
            · rw [take_one hrw, List.any_append, List.any_append, ba, ca]
              simp
            · rw [List.length_append, cl]
              omega
        · rintro H5 ⟨bs, hb, ba, bl, s5⟩
          rw [List.length_map, rl, List.take_length] at ba
          refine ⟨D2, bs, rfl, SqL.of hb, _, rfl, ?_⟩
          rw [ba]
          have s05 := s1.trans s5
          refine ite2 (fun z => ?_) (fun z => ?_)
          · rw [if_pos z] at q
            exact q _ s05
          · rw [if_neg z] at q
            exact q _ s05
end
end K41

set_option Elab.async false
set_option linter.all false
set_option maxRecDepth 100000
set_option maxHeartbeats 4000000
/-! fates. -/
namespace K41
open PySem L2 L2.EV
abbrev sFates : Stmt := top 38
theorem LinesA.upd {H : Hp} {p D : Addr} {rs : List (List Nat)} {o : HO} {xs : List V} (h : LinesA H p rs) (ne : p ≠ D) (hD : H D = some (.lst xs)) : LinesA (upd H D o) p rs := by
  obtain ⟨as, e, t⟩ := h
  exact ⟨as, by rw [upd_ne ne]; exact e, t.upd hD⟩
def fatesF (fr : List T3) (byP : Bool) (ts : List Tn) : List Str := (endedF fr ts).map fun l => fateF l (rowsF fr byP ts) ((rowsF fr byP ts).map (linesR fr ts))
def spFates : Sp := fun vs H Q _ => ∃ (f w : Addr) (fr : List T3) (last : Nat) (ts : List Tn) (byP : Bool), vs = [.ref f, .ref w, .str (manS byP)] ∧ FrA H f fr ∧ Frm fr last ∧ ThA H w ts ∧ Rgt fr ts ∧
  ∀ H' p, Same H H' → H p = none → H' p = some (.tup ((fatesF fr byP ts).map V.str)) → Q (.ref p) H'
structure Fa (K : PySem.W.Frag) (mg : Str → Option Value) where
  M : Mn K mg
  E : El K mg
  R : Lr K mg
  T : Ft K mg
  f : Addr
  d : FuncData
  F : Fun K "fates" "fates" sFates f d
  b : Binds K d ["framing", "thing", "manner"] []
  m : mg "fates" = some (.ref f)
  tu : mg "tuple" = none
abbrev NFa : List Str := ["framing", "thing", "manner", "rows", "row", "lines", "line"]
section
variable {P : Program} {w : World} {K : PySem.W.Frag} {mg : Str → Option Value} {base : Heap}
theorem scFates : FnScope NFa ["framing", "thing", "manner"] (defScope sFates) := ⟨rfl, rfl, rfl, by decide +kernel, rfl, by decide +kernel, by decide +kernel⟩
theorem ok_fates (W : Fa K mg) : FnOk P w K mg base CX0 5 W.f W.d ["framing", "thing", "manner"] spFates := by
  have GT : FnOk P w K mg base CX0 4 W.M.L.G.f W.M.L.G.d ["framing", "thing"] spNeedT := ok_needT W.M.L.G
  have GM : FnOk P w K mg base CX0 1 W.M.f W.M.d ["thing"] spManner := ok_manner W.M
  have GF : FnOk P w K mg base CX0 1 W.M.L.f W.M.L.d ["framing", "thing", "manner"] spFilled := ok_filled W.M.L
  have GE : FnOk P w K mg base CX0 2 W.E.f W.E.d ["framing", "thing"] spEnded := ok_ended W.E
  have GR : FnOk P w K mg base CX0 2 W.R.f W.R.d ["framing", "thing", "row"] spLR := ok_lr W.R
  have GA : FnOk P w K mg base CX0 1 W.T.f W.T.d ["line", "rows", "lines"] spFate := ok_fate W.T
  refine W.F.ok scFates (fun vs H Q E h => ?_) (fun cdv A outer s H vs Q E hr h => ?_)
  · obtain ⟨f, w, fr, last, ts, byP, rfl, _⟩ := h
    rfl
  · obtain ⟨f, w, fr, last, ts, byP, rfl, fa, fm, ta, rg, q⟩ := h
    have r1 := hr.mono (j := 1) (by omega)
    have r2 := hr.mono (j := 2) (by omega)
    refine ⟨_, pss_cons (ps_expr (pe_call GT hr (by rfl) W.M.L.G.m W.M.L.G.F.kp W.M.L.G.b .nil pass0 (pa_cons (pv 0) (pa_cons (pv 1) pa_nil))))
      (pss_cons (ps_expr (pe_call GM r1 (by rfl) W.M.m W.M.M.kp W.M.b .nil pass0 (pa_cons (pv 2) pa_nil)))
      (pss_cons (ps_set (i := 3) scFates.nd rfl (Or.inr rfl) (pe_call GF r1 (by rfl) W.M.L.m W.M.L.F.kp W.M.L.b .nil pass0 (pa_cons (pv 0) (pa_cons (pv 1) (pa_cons (pv 2) pa_nil)))))
      (pss_cons (ps_set (i := 5) scFates.nd rfl (Or.inr rfl) (pe_lc (own := [("row", 4)]) (g := gName 4) (te := tCall spLR [] E0 (tCons (tVar 0) (tCons (tVar 1) (tCons (tVar 4) tNil)))) rfl scFates.nd (pi_list (pv 3))
        (blkOk_by (N := NFa) (sc := defScope sFates) (by decide +kernel))
        (fun _ _ _ _ _ => pg_name (i := 4) scFates.nd rfl (Or.inl rfl)) (fun _ _ _ _ _ => pts_nil) (fun _ _ _ _ _ => pe_call GR r2 (by rfl) W.R.m W.R.F.kp W.R.b .nil pass0 (pa_cons (pv 0) (pa_cons (pv 1) (pa_cons (pv 4) pa_nil))))))
      (pss_one (ps_ret (pe_callTy call_tuple_of (by rfl) W.tu (by decide +kernel) (pa_cons (pe_lc (own := [("line", 6)]) (g := gName 6) (te := tCall spFate [] E0 (tCons (tVar 6) (tCons (tVar 3) (tCons (tVar 5) tNil)))) rfl scFates.nd (pi_list (pe_call GE r2 (by rfl) W.E.m W.E.F.kp W.E.b .nil pass0 (pa_cons (pv 0) (pa_cons (pv 1) pa_nil))))
        (blkOk_by (N := NFa) (sc := defScope sFates) (by decide +kernel))
        (fun _ _ _ _ _ => pg_name (i := 6) scFates.nd rfl (Or.inl rfl)) (fun _ _ _ _ _ => pts_nil) (fun _ _ _ _ _ => pe_call GA r1 (by rfl) W.T.m W.T.F.kp W.T.b .nil pass0 (pa_cons (pv 6) (pa_cons (pv 3) (pa_cons (pv 5) pa_nil))))) pa_nil))))))), ?_⟩
    refine ⟨_, rfl, _, rfl, f, w, fr, last, ts.map dT, rfl, fa, fm, ta.da, by rw [List.length_map]; exact rg.l, rg.go, fun H1 s1 => ?_⟩
    refine ⟨_, rfl, byP, rfl, fun H2 s2 => ?_⟩
    have s02 := s1.trans s2
    refine ⟨_, rfl, _, rfl, _, rfl, f, w, fr, last, ts, byP, rfl, fa.same s02, fm, ta.same s02, rg, fun H3 R s3 rA => ?_⟩
    have s03 := s02.trans s3
    obtain ⟨ads, hR, al, aa⟩ := id rA
    have gd := rows_gd (fr := fr) (byP := byP) rg.ent
    have en := rows_ent (fr := fr) (byP := byP) (ts := ts)
    have ge := Ge.zero.run (fr := fr) rg.ent
    rw [Nat.zero_add] at ge
    have l200 := rg.l
    have rl : (rowsF fr byP ts).length ≤ 201 := by
      have := gd.l
      show (runF fr byP ts 0 fs0).rows.length ≤ _
      omega
    have rr : ∀ r ∈ rowsF fr byP ts, r.length ≤ 200 := fun r hr => by
      have := (gd.r r hr).1
      omega
    have el : (endedF fr ts).length ≤ 200 := by
      have := ge.l
      show (runE fr ts 0 es0).ln.length ≤ _
      omega
    have er : ∀ r ∈ endedF fr ts, r.length ≤ 200 := fun r hr => by
      have := (ge.r r hr).1
      omega
    have q : ∀ H' p, Same H H' → H p = none → H' p = some (.tup (((endedF fr ts).map fun l => fateF l (rowsF fr byP ts) ((rowsF fr byP ts).map (linesR fr ts))).map V.str)) → Q (.ref p) H' := q
    generalize rowsF fr byP ts = rows at rl rr en al aa rA q
    generalize hen : endedF fr ts = ends at el er q
    refine ⟨_, rfl, R, rfl, ⟨_, SqL.of hR⟩, fun D hD => ?_⟩
    refine lc_it (walk_list (xs := ads.map V.ref)) (fun i H' => (∃ as : List Addr, H' D = some (.lst (as.map V.ref)) ∧ as.length = i ∧ (∀ a ∈ as, a ≠ D) ∧ ∀ (k : Nat) a ls, as[k]? = some a → (rows.map (linesR fr ts))[k]? = some ls → LinesA H' a ls) ∧ Same H3 H')
      ⟨⟨[], upd_same, rfl, (fun a h => by cases h), fun k a ls h => by cases h⟩, same_upd hD⟩ (fun i H' _ z => SqL.of (z.2 _ _ hR)) ?_ ?_
    · rintro i x H4z H4 hi ⟨⟨as, hd, asl, nd, ac⟩, s4⟩ ⟨rfl, hx⟩
      rw [List.length_map] at hi
      have ha : ads[i]? = some ads[i] := List.getElem?_eq_getElem hi
      rw [List.getElem?_map, ha] at hx
      obtain rfl : V.ref ads[i] = x := Option.some.inj hx
      have ir : i < rows.length := by omega
      have hrw : rows[i]? = some rows[i] := List.getElem?_eq_getElem ir
      have hc := aa i _ _ ha hrw
      have rm := List.mem_of_getElem? hrw
      have s04 := s03.trans s4
      refine ⟨rfl, _, rfl, _, rfl, _, rfl, f, w, ads[i], fr, last, ts, rows[i], rfl, fa.same s04, fm, ta.same s04, rg.ent, s4 _ _ hc, en _ rm, rr _ rm, fun H5 p s5 np lA => ?_⟩
      have hd5 := s5 _ _ hd
      have pD : p ≠ D := fun z => by
        rw [z, hd] at np
        cases np
      have hls : (rows.map (linesR fr ts))[i]? = some (linesR fr ts rows[i]) := by rw [List.getElem?_map, hrw]; rfl
      refine ⟨_, hd5, by rw [List.length_map, asl, sizeLine_eq]; omega, ⟨⟨as ++ [p], by rw [List.map_append]; exact upd_same, by rw [List.length_append, asl]; rfl, fun a h => ?_, fun k a ls h1 h2 => ?_⟩, same_push hD (s4.trans s5)⟩⟩
      · rcases List.mem_append.mp h with z | z
        · exact nd a z
        · rw [List.mem_singleton.mp z]
          exact pD
      · by_cases c : k < i
        · rw [List.getElem?_append_left (by omega)] at h1
          exact ((ac k a ls h1 h2).same s5).upd (nd a (List.mem_of_getElem? h1)) hd5
        · have : k = i := by
            have := (List.getElem?_eq_some_iff.mp h1).1
            rw [List.length_append] at this
            simp only [List.length_cons, List.length_nil] at this
            omega
          subst this
          rw [List.getElem?_append_right (by omega), asl, Nat.sub_self] at h1
          rw [hls] at h2
          cases h1
          cases h2
          exact lA.upd pD hd5
    · rintro H4 ⟨⟨as, hd, asl, nd, ac⟩, s4⟩
      have s04 := s03.trans s4
      have llA : LLA H4 D (rows.map (linesR fr ts)) := ⟨as, hd, by rw [asl, List.length_map, List.length_map, al], ac⟩
      generalize hlss : rows.map (linesR fr ts) = lss at llA q
      have lsl : lss.length ≤ 201 := by rw [← hlss, List.length_map]; exact rl
      have rA4 := rA.same s4
      refine ⟨_, rfl, _, rfl, f, w, fr, last, ts, rfl, fa.same s04, fm, ta.same s04, rg, fun H5 e0 s5 eA => ?_⟩
      rw [hen] at eA
      obtain ⟨es, hE, tE⟩ := eA
      refine ⟨e0, rfl, ⟨_, SqL.of hE⟩, fun D2 hD2 => ?_⟩
      refine lc_it (walk_list (xs := es.map V.ref)) (fun i H' => H' D2 = some (.lst (((ends.take i).map fun l => fateF l rows lss).map V.str)) ∧ Same H5 H') ⟨upd_same, same_upd hD2⟩ (fun i H' _ z => SqL.of (z.2 _ _ hE)) ?_ ?_
      · rintro i x H6z H6 hi ⟨hd6, s6⟩ ⟨rfl, hx⟩
        rw [List.length_map] at hi
        have ha : es[i]? = some es[i] := List.getElem?_eq_getElem hi
        rw [List.getElem?_map, ha] at hx
        obtain rfl : V.ref es[i] = x := Option.some.inj hx
        have el1 := tE.1
        have hl : ends[i]? = some ends[i] := List.getElem?_eq_getElem (by omega)
        have hc := tE.2 i _ _ ha hl
        refine ⟨rfl, _, rfl, _, rfl, _, rfl, es[i], R, D, ends[i], rows, lss, rfl, s6 _ _ hc, er _ (List.mem_of_getElem? hl), (rA4.same s5).same s6, rl, (llA.same s5).same s6, lsl, fun H7 s7 => ?_⟩
        refine ⟨_, s7 _ _ hd6, by rw [List.length_map, List.length_map, List.length_take, sizeLine_eq]; omega, ?_, same_push hD2 (s6.trans s7)⟩
        rw [take_one hl, List.map_append, List.map_append]
        exact upd_same
      · rintro H6 ⟨hd6, s6⟩
        have el1 := tE.1
        rw [List.length_map, el1, List.take_length] at hd6
        refine ⟨D2, _, rfl, .inl ⟨SqL.of hd6, fun p hp => ?_⟩⟩
        have s06 := s04.trans (s5.trans s6)
        have np : H p = none := by
          cases e : H p with
          | none => rfl
          | some o =>
            rw [s06 _ _ e] at hp
            cases hp
        exact q _ p (s06.trans (same_upd hp)) np upd_same
end
end K41

set_option Elab.async false
set_option linter.all false
set_option maxRecDepth 100000
set_option maxHeartbeats 4000000
/-! tuple * int from 0 on. -/
namespace L2
open PySem PySem.Spec PyProof.Rows
theorem tuple_mul1 (l : Addr) (items : Array Value) (n : Nat) (dd : Option Addr) (sl : Array (Option Value)) (u : Tok) :
    Meets (Builtin.«tuple.__mul__» ⟨[.ref l, .int 1 u], []⟩) (fun _ R s => s.heap.get? l = some { cls := .type "tuple", dict := dd, data := .seq items n, slots := sl } ∧ R (.ok (.ret (.ref l))) s) :=
  .of_wp fun prog w A R s h => by
    obtain ⟨hp, g, d, tk, os⟩ := s
    obtain ⟨hl, h⟩ := h
    have f1 := AutoSeq1.idx_int
    wp_walk using wpAny_loadPart' hl
    exact ⟨_, rfl, h⟩
theorem tuple_mul0 (l : Addr) (items : Array Value) (n : Nat) (dd : Option Addr) (sl : Array (Option Value)) (u : Tok) (c1 : (items.isEmpty || (0 : Int) == 1) = false) :
    Meets (Builtin.«tuple.__mul__» ⟨[.ref l, .int 0 u], []⟩) (fun _ R s => s.heap.get? l = some { cls := .type "tuple", dict := dd, data := .seq items n, slots := sl } ∧
      R (.ok (.ret (Value.ref s.heap.objs.size))) { s with heap := s.heap.push { cls := Value.type "tuple", data := Data.seq #[] }, toks := s.toks }) :=
  .of_wp fun prog w A R s h => by
    obtain ⟨hp, g, d, tk, os⟩ := s
    obtain ⟨hl, h⟩ := h
    have f1 := AutoSeq1.idx_int
    wp_walk using wpAny_loadPart' hl
    repeat (first
      | (refine wpAny_ite_false (decide_eq_false (by rw [c1]; exact Bool.false_ne_true)) ?_; wp_walk using wpAny_loadPart' hl)
      | (refine wpAny_ite_true (decide_eq_true (by decide)) ?_; wp_walk using wpAny_loadPart' hl))
    exact ⟨_, rfl, h⟩
def rRepA : R2 := fun x y H Q => ∃ l k xs, x = .ref l ∧ y = .int k ∧ H l = some (.tup xs) ∧ xs ≠ [] ∧ 0 ≤ k ∧ k ≤ 1000 ∧ xs.length ≤ 1000 ∧
  ∀ H' p, (∀ b o, H b = some o → H' b = some o) → H' p = some (.tup (List.replicate k.toNat xs).flatten) → Q (.ref p) H'
section
variable {X : Cx}
theorem op_repA : OpR X (binaryOp .Mult) rRepA := by
  intro pins s σ H x y v u Q I rx ry h
  obtain ⟨l, k, xs, rfl, rfl, hT, hne, h1, h2, hz, q⟩ := h
  by_cases k2 : 2 ≤ k
  · refine op_repT pins s σ H _ _ v u Q I rx ry ⟨l, k, xs, rfl, rfl, SqT.of hT, hne, k2, h2, hz, fun p hp => q _ p (fun b o e => ?_) upd_same⟩
    rw [upd_ne (ne_of_none e hp)]
    exact e
  · cases rx
    obtain ⟨t, rfl⟩ := ry
    obtain ⟨its, r, ⟨⟨cls, dd, data, sl⟩, ho, hc, n, hd⟩, hs⟩ := I.tuple (SqT.of hT)
    simp only at hc hd
    subst hc hd
    have hle : its.length = xs.length := r.length.symm
    have hn : its ≠ [] := fun e => hne (by
      rw [e] at hle
      exact List.eq_nil_of_length_eq_zero hle.symm)
    have hi : its.toArray.isEmpty = false := by
      cases its with
      | nil => exact absurd rfl hn
      | cons a b => rfl
    rcases (show k = 1 ∨ k = 0 by omega) with rfl | rfl
    · refine wpAny_binaryOp_repeat_ref (T := "tuple") (U := "int") (by decide) ⟨_, ho, rfl⟩ (fun s' => typeIs_int s' 1 t) noFill_tuple_mul F.fills_int_mul F.slot_int_rmul repeat_tuple F.slot_int_index.lookup
        (call_meets F.slot_int_rmul (typeIs_int s 1 t) F.entry_int_rmul (F.args_int_rmul_2 _ _) (int_rmul_tuple 1 t l its.toArray n dd sl)
          ⟨ho, rfl, ⟨_, ho, rfl⟩, call_meets F.slot_tuple_mul ⟨_, ho, rfl⟩ F.entry_tuple_mul (F.args_tuple_mul_2 _ _) (tuple_mul1 l its.toArray n dd sl t) ⟨ho, ?_⟩⟩)
      refine ⟨.ref l, H, I, rfl, q H l (fun _ _ e => e) ?_⟩
      rw [hT]
      simp
    · refine wpAny_binaryOp_repeat_ref (T := "tuple") (U := "int") (by decide) ⟨_, ho, rfl⟩ (fun s' => typeIs_int s' 0 t) noFill_tuple_mul F.fills_int_mul F.slot_int_rmul repeat_tuple F.slot_int_index.lookup
        (call_meets F.slot_int_rmul (typeIs_int s 0 t) F.entry_int_rmul (F.args_int_rmul_2 _ _) (int_rmul_tuple 0 t l its.toArray n dd sl)
          ⟨ho, rfl, ⟨_, ho, rfl⟩, call_meets F.slot_tuple_mul ⟨_, ho, rfl⟩ F.entry_tuple_mul (F.args_tuple_mul_2 _ _) (tuple_mul0 l its.toArray n dd sl t (by rw [hi]; rfl)) ⟨ho, ?_⟩⟩)
      have hf := I.hok.fresh (Nat.le_refl s.heap.objs.size)
      refine ⟨.ref s.heap.objs.size, _, I.laid (t' := s.toks) (o := .tup []) (fun b ob q => Heap.get?_push_of_some _ q) (Nat.le_refl _) ?_, rfl, q _ _ (fun b o e => ?_) upd_same⟩
      · exact ⟨Nat.zero_le _, _, .nil, IsTup.new _ _⟩
      · rw [upd_ne (ne_of_none e hf)]
        exact e
end
end L2

set_option Elab.async false
set_option linter.all false
set_option maxRecDepth 100000
set_option maxHeartbeats 4000000
/-! Literals, comparisons; facts of the turned weavings by hand. -/
namespace L2
open PySem PySem.Spec PyProof.Rows
section
variable {X : Cx}
/-- t + u for tracked tuples -/
def rCatZ : R2 := fun x y H Q => ∃ a b xs ys, x = .ref a ∧ y = .ref b ∧ H a = some (.tup xs) ∧ H b = some (.tup ys) ∧ xs.length + ys.length ≤ sizeLine ∧
  ∀ H' p, (∀ b o, H b = some o → H' b = some o) → H' p = some (.tup (xs ++ ys)) → Q (.ref p) H'
theorem op_catZ : OpR X (binaryOp .Add) rCatZ := by
  intro pins s σ H x y v u Q I rx ry h
  obtain ⟨a, b, xs, ys, rfl, rfl, ha, hb, hz, q⟩ := h
  refine op_catA pins s σ H _ _ v u Q I rx ry ⟨a, b, xs, ys, rfl, rfl, SqT.of ha, SqT.of hb, hz, fun z => q H b (fun _ _ e => e) (by rw [z]; exact hb), fun _ z => q H a (fun _ _ e => e) (by rw [z, List.append_nil]; exact ha), fun _ _ p hp => q _ p (fun c o e => ?_) upd_same⟩
  rw [upd_ne (ne_of_none e hp)]
  exact e
end
end L2
namespace K41
open PySem L2 L2.EV
/-- the literal of such things -/
def litT : List Tn → TA
  | [] => tNil
  | .turn :: r => tCons (tC (.str "turn")) (litT r)
  | .copy :: r => tCons (tC (.str "copy")) (litT r)
  | .cut :: r => tCons (tC (.str "cut")) (litT r)
  | .ent e :: r => tCons (tTup (tCons (tC (.int e.1)) (tCons (tC (.int e.2)) tNil))) (litT r)
theorem lit_ok : ∀ {ts : List Tn} {σ : L2.St} {H : Hp} {R : List V → Hp → Prop}, (∀ xs H', Same H H' → TnS H' xs ts → R xs H') → litT ts σ H R
  | [], σ, H, R, h => h [] H (Same.refl H) .nil
  | .turn :: r, σ, H, R, h => lit_ok (ts := r) fun xs H' s t => h _ _ s (.cons .turn t)
  | .copy :: r, σ, H, R, h => lit_ok (ts := r) fun xs H' s t => h _ _ s (.cons .copy t)
  | .cut :: r, σ, H, R, h => lit_ok (ts := r) fun xs H' s t => h _ _ s (.cons .cut t)
  | .ent e :: r, σ, H, R, h => ⟨(by show 2 ≤ sizeLine; decide), fun p np => lit_ok (ts := r) fun xs H' s t => h _ _ ((same_upd np).trans s) (.cons (.ent (s _ _ upd_same)) t)⟩
theorem lit_tup {ts : List Tn} {σ : L2.St} {H : Hp} {Q : VK} (l : ts.length ≤ 1000) (h : ∀ w H', Same H H' → ThA H' w ts → Q (.ref w) H') : tTup (litT ts) σ H Q := by
  refine lit_ok fun xs H' s t => ⟨by rw [t.len, sizeLine_eq]; omega, fun p np => ?_⟩
  have u := same_upd (o := HO.tup xs) np
  exact h p _ (s.trans u) ⟨xs, upd_same, t.same u⟩
/-- the literal of such texts -/
def strT : List Str → TA
  | [] => tNil
  | s :: r => tCons (tC (.str s)) (strT r)
theorem str_ok : ∀ {ss : List Str} {σ : L2.St} {H : Hp} {R : List V → Hp → Prop}, R (ss.map V.str) H → strT ss σ H R
  | [], _, _, _, h => h
  | s :: r, σ, H, R, h => str_ok (ss := r) h
theorem str_tup {ss : List Str} {σ : L2.St} {H : Hp} {Q : VK} (l : ss.length ≤ 1000) (h : ∀ p H', Same H H' → H' p = some (.tup (ss.map V.str)) → Q (.ref p) H') : tTup (strT ss) σ H Q := by
  refine str_ok ⟨by rw [List.length_map, sizeLine_eq]; omega, fun p np => h p _ (same_upd np) upd_same⟩
/-- texts as data -/
def dS (ss : List Str) : PyData := .tuple (ss.map PyData.str)
theorem da_strs {H : Hp} : ∀ ss : List Str, DaAll H (ss.map V.str) (ss.map PyData.str)
  | [] => .nil
  | s :: r => .cons (.str s) (da_strs r)
theorem da_S {H : Hp} {p : Addr} {ss : List Str} (e : H p = some (.tup (ss.map V.str))) : Da H (.ref p) (dS ss) := .tup e (da_strs ss)
theorem lay_S : ∀ ss : List Str, (∀ s ∈ ss, PyData.strOk s = true) → PyData.canLayAll0 (ss.map PyData.str) = true ∧ PyData.depthAll (ss.map PyData.str) = 0
  | [], _ => ⟨by simp [PyData.canLayAll0], by simp [PyData.depthAll]⟩
  | s :: r, h => by
    obtain ⟨a, b⟩ := lay_S r fun x hx => h x (List.mem_cons_of_mem _ hx)
    exact ⟨by simp [PyData.canLayAll0, PyData.canLay0, a, h s (List.mem_cons_self ..)], by simp only [List.map_cons, PyData.depthAll, PyData.depth]; omega⟩
theorem sh_S {ss : List Str} (h : ∀ s ∈ ss, PyData.strOk s = true) : SeqAt.shaped (dS ss) = true := by
  obtain ⟨a, b⟩ := lay_S ss h
  show (PyData.canLay0 (dS ss) && decide (PyData.depth (dS ss) ≤ 64)) = true
  rw [Bool.and_eq_true]
  refine ⟨by unfold dS; simp only [PyData.canLay0]; exact a, decide_eq_true ?_⟩
  unfold dS
  simp only [PyData.depth]
  omega
theorem eqv_S : ∀ {a b : List Str}, PyData.eqv (dS a) (dS b) = decide (a = b)
  | [], [] => by simp [dS, PyData.eqv, PyData.eqvAll]
  | [], _ :: _ => by simp [dS, PyData.eqv, PyData.eqvAll]
  | _ :: _, [] => by simp [dS, PyData.eqv, PyData.eqvAll]
  | x :: a, y :: b => by
    have ih : PyData.eqvAll (a.map PyData.str) (b.map PyData.str) = decide (a = b) := by
      have z := eqv_S (a := a) (b := b)
      unfold dS at z
      rw [PyData.eqv] at z
      exact z
    unfold dS
    rw [List.map_cons, List.map_cons, PyData.eqv, PyData.eqvAll, ih, PyData.eqv]
    by_cases h : x = y
    · subst h
      by_cases k : a = b
      · subst k
        simp
      · simp [k]
    · have : (x == y) = false := beq_eq_false_iff_ne.mpr h
      simp [h, this]
/-- what a call tells of a turned weaving -/
def Tells (sp : Sp) (g : List T3 → Bool → List Tn → List Str) : Prop := ∀ (f w : Addr) (fr : List T3) (last : Nat) (ts : List Tn) (byP : Bool) (H : Hp) (Q : VK) (E : XK), FrA H f fr → Frm fr last → ThA H w ts → Rgt fr ts →
  (∀ H' p, Same H H' → H' p = some (.tup ((g fr byP ts).map V.str)) → Q (.ref p) H') → sp [.ref f, .ref w, .str (manS byP)] H Q E
theorem tells_files : Tells spFiles filesF := fun f w fr last ts byP H Q E fa fm ta rg q => ⟨f, w, fr, last, ts, byP, rfl, fa, fm, ta, rg, fun H' p s _ e => q H' p s e⟩
theorem tells_fates : Tells spFates fatesF := fun f w fr last ts byP H Q E fa fm ta rg q => ⟨f, w, fr, last, ts, byP, rfl, fa, fm, ta, rg, fun H' p s _ e => q H' p s e⟩
section
variable {K : PySem.W.Frag} {sp : Sp} {g : List T3 → Bool → List Tn → List Str} {σ : L2.St} {H : Hp} {i last : Nat} {f : Addr} {fr : List T3} {ts : List Tn} {byP : Bool} {ss : List Str} {tw t2 : TE} {Q : VK}
theorem cmp_any {r : R2} (tl : Tells sp g) (hf : σ[i]? = some (some (.ref f))) (fa : FrA H f fr) (fm : Frm fr last) (rg : Rgt fr ts) (hw : ∀ Q' : VK, (∀ w H', Same H H' → ThA H' w ts → Q' (.ref w) H') → tw σ H Q')
    (h2 : ∀ (H1 : Hp) (Q' : VK), Same H H1 → (∀ p H', Same H1 H' → H' p = some (.tup (ss.map V.str)) → Q' (.ref p) H') → t2 σ H1 Q')
    (q : ∀ p1 p2 H', Same H H' → H' p1 = some (.tup ((g fr byP ts).map V.str)) → H' p2 = some (.tup (ss.map V.str)) → r (.ref p1) (.ref p2) H' Q) :
    tOp r (tCall sp [] E0 (tCons (tVar i) (tCons tw (tCons (tC (.str (manS byP))) tNil)))) t2 σ H Q := by
  refine ⟨_, hf, hw _ fun w H1 s1 ta => ?_⟩
  refine tl f w fr last ts byP _ _ _ (fa.same s1) fm ta rg fun H2 p1 s2 e1 => ?_
  refine h2 H2 _ (s1.trans s2) fun p2 H3 s3 e2 => ?_
  exact q p1 p2 H3 (s1.trans (s2.trans s3)) (s3 _ _ e1) e2
theorem cmp_ne (tl : Tells sp g) (hf : σ[i]? = some (some (.ref f))) (fa : FrA H f fr) (fm : Frm fr last) (rg : Rgt fr ts) (hw : ∀ Q' : VK, (∀ w H', Same H H' → ThA H' w ts → Q' (.ref w) H') → tw σ H Q')
    (h2 : ∀ (H1 : Hp) (Q' : VK), Same H H1 → (∀ p H', Same H1 H' → H' p = some (.tup (ss.map V.str)) → Q' (.ref p) H') → t2 σ H1 Q') (ok : ∀ s ∈ ss, PyData.strOk s = true) (e : g fr byP ts = ss)
    (q : ∀ H', Same H H' → Q (.bl false) H') :
    tOp (rNeD K) (tCall sp [] E0 (tCons (tVar i) (tCons tw (tCons (tC (.str (manS byP))) tNil)))) t2 σ H Q := by
  refine cmp_any tl hf fa fm rg hw h2 fun p1 p2 H' s e1 e2 => ?_
  rw [e] at e1
  refine ⟨dS ss, dS ss, Da.dp _ _ (da_S e1), Da.dp _ _ (da_S e2), sh_S ok, sh_S ok, ?_⟩
  rw [eqv_S, decide_eq_true rfl]
  exact q H' s
theorem cmp_eq (tl : Tells sp g) (hf : σ[i]? = some (some (.ref f))) (fa : FrA H f fr) (fm : Frm fr last) (rg : Rgt fr ts) (hw : ∀ Q' : VK, (∀ w H', Same H H' → ThA H' w ts → Q' (.ref w) H') → tw σ H Q')
    (h2 : ∀ (H1 : Hp) (Q' : VK), Same H H1 → (∀ p H', Same H1 H' → H' p = some (.tup (ss.map V.str)) → Q' (.ref p) H') → t2 σ H1 Q') (ok : ∀ s ∈ ss, PyData.strOk s = true) (e : g fr byP ts = ss)
    (q : ∀ H', Same H H' → Q (.bl true) H') :
    tOp (rEqD K) (tCall sp [] E0 (tCons (tVar i) (tCons tw (tCons (tC (.str (manS byP))) tNil)))) t2 σ H Q := by
  refine cmp_any tl hf fa fm rg hw h2 fun p1 p2 H' s e1 e2 => ?_
  rw [e] at e1
  refine ⟨dS ss, dS ss, Da.dp _ _ (da_S e1), Da.dp _ _ (da_S e2), sh_S ok, sh_S ok, ?_⟩
  rw [eqv_S, decide_eq_true rfl]
  exact q H' s
end
/-! ### HALF -/
def frH : List T3 := [(0, "@a", 1), (1, "b;", 0)]
theorem frH_ok : Frm frH 1 := by
  have p1 : Pc "@a" (decide ((1 : Int) = 0)) := ⟨[64, 97], by decide +kernel, by decide +kernel, by decide +kernel, fun _ => by simp⟩
  have p2 : Pc "b;" (decide ((0 : Int) = 0)) := ⟨[98], by decide +kernel, by decide +kernel, by decide +kernel, fun _ => by simp⟩
  have cs : ∀ x ∈ frH, x = ((0, "@a", 1) : T3) ∨ x = ((1, "b;", 0) : T3) := fun x hx => by simpa [frH] using hx
  refine ⟨by decide, by decide, fun x hx => ?_, by decide +kernel, fun k hk => ?_, fun x hx => ?_, by decide⟩
  · rcases cs x hx with rfl | rfl
    · exact ⟨by decide, by decide, p1, by decide, by decide⟩
    · exact ⟨by decide, by decide, p2, by decide, by decide⟩
  · match k, hk with
    | 0, _ => exact ⟨((0, "@a", 1) : T3), by simp [frH], rfl, rfl⟩
    | 1, _ => exact ⟨((1, "b;", 0) : T3), by simp [frH], rfl, rfl⟩
  · rcases cs x hx with rfl | rfl
    · exact ⟨by decide, by decide⟩
    · exact ⟨by decide, by decide⟩
abbrev tHalf : TA := tCons (tTup (tCons (tC (.int 0)) (tCons (tC (.str "@a")) (tCons (tC (.int 1)) tNil)))) (tCons (tTup (tCons (tC (.int 1)) (tCons (tC (.str "b;")) (tCons (tC (.int 0)) tNil)))) tNil)
theorem half_tup {σ : L2.St} {H : Hp} {Q : VK} (h : ∀ f H', Same H H' → FrA H' f frH → Q (.ref f) H') : tTup tHalf σ H Q := by
  refine ⟨(by show 3 ≤ sizeLine; decide), fun t1 n1 => ⟨(by show 3 ≤ sizeLine; decide), fun t2 n2 => ⟨(by show 2 ≤ sizeLine; decide), fun f nf => ?_⟩⟩⟩
  have u1 := same_upd (o := HO.tup [V.int 0, V.str "@a", V.int 1]) n1
  have u2 := same_upd (o := HO.tup [V.int 1, V.str "b;", V.int 0]) n2
  have uf := same_upd (o := HO.tup [V.ref t1, V.ref t2]) nf
  refine h f _ (u1.trans (u2.trans uf)) ⟨[t1, t2], upd_same, rfl, fun i t x h1 h2 => ?_⟩
  match i, h1, h2 with
  | 0, h1, h2 =>
    cases h1
    cases h2
    exact uf _ _ (u2 _ _ upd_same)
  | 1, h1, h2 =>
    cases h1
    cases h2
    exact uf _ _ upd_same
  | i + 2, h1, _ => simp at h1
def entB (fr : List T3) : Tn → Bool
  | .ent e => decide (0 ≤ e.1) && decide (e.1 < 8) && decide (0 ≤ e.2) && decide (e.2 < (fr.length : Int))
  | _ => true
def rgtB (fr : List T3) (ts : List Tn) : Bool := decide (ts.length ≤ 200) && ts.all (entB fr) && (wrongF fr (filt (ts.map dT)) (all8 (some 0)) 0).isNone
theorem rgt_of {fr : List T3} {ts : List Tn} (h : rgtB fr ts = true) : Rgt fr ts := by
  unfold rgtB at h
  rw [Bool.and_eq_true, Bool.and_eq_true] at h
  obtain ⟨⟨a, b⟩, c⟩ := h
  refine ⟨of_decide_eq_true a, fun e he => ?_, Option.isNone_iff_eq_none.mp c⟩
  have z := List.all_eq_true.mp b _ he
  have z : (decide (0 ≤ e.1) && decide (e.1 < 8) && decide (0 ≤ e.2) && decide (e.2 < (fr.length : Int))) = true := z
  rw [Bool.and_eq_true, Bool.and_eq_true, Bool.and_eq_true] at z
  exact ⟨of_decide_eq_true z.1.1.1, of_decide_eq_true z.1.1.2, of_decide_eq_true z.1.2, of_decide_eq_true z.2⟩
end K41

set_option Elab.async false
set_option linter.all false
set_option maxRecDepth 100000
set_option maxHeartbeats 4000000
/-! Drawn turned weavings. -/
namespace K41
open PySem L2 L2.EV
abbrev sTurned : Stmt := top 48
theorem TnA.keep {H H' : Hp} {x : V} {t : Tn} (h : TnA H x t) (k : KeepT H H') : TnA H' x t := by
  cases h with
  | turn => exact .turn
  | copy => exact .copy
  | cut => exact .cut
  | ent a => exact .ent (k _ _ a)
theorem TnS.keep {H H' : Hp} (k : KeepT H H') : ∀ {xs : List V} {ts : List Tn}, TnS H xs ts → TnS H' xs ts
  | _, _, .nil => .nil
  | _, _, .cons h t => .cons (h.keep k) (t.keep k)
theorem TnS.snoc {H : Hp} {x : V} {d : Tn} (h : TnA H x d) {xs : List V} {ds : List Tn} (t : TnS H xs ds) : TnS H (xs ++ [x]) (ds ++ [d]) := t.app (.cons h .nil)
/-- the entries of a turned weaving -/
def entsT : List Tn → List E2
  | [] => []
  | .ent e :: r => e :: entsT r
  | .turn :: r => entsT r
  | .copy :: r => entsT r
  | .cut :: r => entsT r
theorem entsT_app : ∀ (a b : List Tn), entsT (a ++ b) = entsT a ++ entsT b
  | [], b => rfl
  | .ent e :: r, b => by
    show e :: entsT (r ++ b) = e :: (entsT r ++ entsT b)
    rw [entsT_app r b]
  | .turn :: r, b => entsT_app r b
  | .copy :: r, b => entsT_app r b
  | .cut :: r, b => entsT_app r b
theorem mem_ents {e : E2} : ∀ {ts : List Tn}, Tn.ent e ∈ ts → e ∈ entsT ts
  | .ent e' :: r, h => by
    rcases List.mem_cons.mp h with z | z
    · cases z
      exact List.mem_cons_self ..
    · exact List.mem_cons_of_mem _ (mem_ents z)
  | .turn :: r, h => by
    rcases List.mem_cons.mp h with z | z
    · cases z
    · exact mem_ents (ts := r) z
  | .copy :: r, h => by
    rcases List.mem_cons.mp h with z | z
    · cases z
    · exact mem_ents (ts := r) z
  | .cut :: r, h => by
    rcases List.mem_cons.mp h with z | z
    · cases z
    · exact mem_ents (ts := r) z
/-- entries that follow their writers' standings -/
structure Go (fr : List T3) (es : List E2) : Prop where
  ent : ∀ e ∈ es, Ent fr e
  go : ∀ (i : Nat) e, es[i]? = some e → (plc fr (es.take i))[e.1.toNat]? = some (stt fr e.2).1
theorem Go.nil {fr : List T3} : Go fr [] := ⟨(fun e h => by cases h), (fun i e h => by cases h)⟩
theorem Go.snoc {fr : List T3} {es : List E2} {e : E2} (g : Go fr es) (en : Ent fr e) (h : (plc fr es)[e.1.toNat]? = some (stt fr e.2).1) : Go fr (es ++ [e]) := by
  refine ⟨fun x hx => ?_, fun i x hx => ?_⟩
  · rcases List.mem_append.mp hx with z | z
    · exact g.ent x z
    · rw [List.mem_singleton.mp z]
      exact en
  · by_cases c : i < es.length
    · rw [List.getElem?_append_left c] at hx
      rw [List.take_append_of_le_length (by omega)]
      exact g.go i x hx
    · have : i = es.length := by
        have := (List.getElem?_eq_some_iff.mp hx).1
        rw [List.length_append] at this
        simp only [List.length_cons, List.length_nil] at this
        omega
      subst this
      rw [List.getElem?_append_right (Nat.le_refl _), Nat.sub_self] at hx
      cases hx
      rw [List.take_append_of_le_length (Nat.le_refl _), List.take_length]
      exact h
theorem wstep {fr : List T3} {d : PyData} {ds : List PyData} {pl : List (Option Int)} {i : Nat} : wrongF fr (d :: ds) pl i = (match entD fr.length 8 d with
    | none => some i
    | some e => match pl.getD e.1.toNat none with
      | none => wrongF fr ds (pl.set e.1.toNat (some (stt fr e.2).2.2)) (i + 1)
      | some x => if x = (stt fr e.2).1 then wrongF fr ds (pl.set e.1.toNat (some (stt fr e.2).2.2)) (i + 1) else some i) := rfl
/-- such entries are none that can't stand there -/
theorem wrong_none {fr : List T3} : ∀ {es pre : List E2}, Go fr (pre ++ es) → ∀ i, wrongF fr (es.map d2) ((plc fr pre).map some) i = none
  | [], pre, g, i => rfl
  | e :: r, pre, g, i => by
    have en := g.ent e (List.mem_append_right _ (List.mem_cons_self ..))
    have h := g.go pre.length e (by rw [List.getElem?_append_right (Nat.le_refl _), Nat.sub_self]; rfl)
    rw [List.take_append_of_le_length (Nat.le_refl _), List.take_length] at h
    obtain ⟨e0, e1, n0, n1⟩ := en
    have ed : entD fr.length 8 (d2 e) = some e := by
      show (match numD 8 (.int e.1), numD fr.length (.int e.2) with
        | some x, some y => some (x, y)
        | _, _ => none) = some e
      have a : numD 8 (.int e.1) = some e.1 := if_pos ⟨e0, e1⟩
      have b : numD fr.length (.int e.2) = some e.2 := if_pos ⟨n0, n1⟩
      rw [a, b]
    have hg : ((plc fr pre).map some).getD e.1.toNat none = some (stt fr e.2).1 := by
      rw [List.getD_eq_getElem?_getD, List.getElem?_map, h]
      rfl
    rw [List.map_cons, wstep, ed]
    show (match ((plc fr pre).map some).getD e.1.toNat none with
      | none => wrongF fr (r.map d2) (((plc fr pre).map some).set e.1.toNat (some (stt fr e.2).2.2)) (i + 1)
      | some x => if x = (stt fr e.2).1 then wrongF fr (r.map d2) (((plc fr pre).map some).set e.1.toNat (some (stt fr e.2).2.2)) (i + 1) else some i) = none
    rw [hg]
    show (if (stt fr e.2).1 = (stt fr e.2).1 then _ else _) = none
    rw [if_pos rfl, ← List.map_set, ← plc_snoc]
    exact wrong_none (es := r) (pre := pre ++ [e]) (by rw [List.append_assoc]; exact g) (i + 1)
theorem filt_dT : ∀ ts : List Tn, filt (ts.map dT) = (entsT ts).map d2
  | [] => rfl
  | .ent e :: r => by
    rw [List.map_cons, filt_cons, isWd_dT, filt_dT r]
    rfl
  | .turn :: r => by rw [List.map_cons, filt_cons, isWd_dT, filt_dT r]; rfl
  | .copy :: r => by rw [List.map_cons, filt_cons, isWd_dT, filt_dT r]; rfl
  | .cut :: r => by rw [List.map_cons, filt_cons, isWd_dT, filt_dT r]; rfl
theorem rgt_go {fr : List T3} {ts : List Tn} (l : ts.length ≤ 200) (g : Go fr (entsT ts)) : Rgt fr ts := by
  refine ⟨l, fun e h => g.ent e (mem_ents h), ?_⟩
  rw [filt_dT]
  exact wrong_none (pre := []) g 0
/-- what is found so far, at F, and where the writers stand, at W -/
structure WT (H H' : Hp) (m c l F W : Addr) (kb : Int) (fr : List T3) (last nw : Nat) (ds : List Tn) : Prop where
  ex : ∃ (xs : List V) (ql : List Int) (l' : Addr) (k' : Int), H' F = some (.lst xs) ∧ TnS H' xs ds ∧ H' W = some (.lst (ql.map V.int)) ∧ ql.length = nw ∧ ql = (plc fr (entsT ds)).take nw ∧ (∀ g ∈ ql, 0 ≤ g ∧ g ≤ last) ∧ F ≠ l' ∧ W ≠ l' ∧ k' ≤ kb ∧ Dr H H' m c l l' k'
  go : Go fr (entsT ds)
theorem Dr.put {H H1 : Hp} {m c l l1 F : Addr} {k1 : Int} {o : HO} (d : Dr H H1 m c l l1 k1) (hF : H F = none) (n1 : F ≠ l1) (n2 : F ≠ m) (n3 : F ≠ c) : Dr H (upd H1 F o) m c l l1 k1 :=
  ⟨d.at_.upd n2 n3 n1, d.hl, fun b o z h1 h2 => by
    rw [upd_ne (ne_of_none z hF)]
    exact d.kp b o z h1 h2⟩
theorem joinIf {P : Int → Hp → Prop} {ok : Int → Hp → Prop} {G : Prop} (a : (∀ wr Hx, ok wr Hx → P wr Hx) → G) (b : ∀ wr Hx, ok wr Hx → P wr Hx) : G := a b
def spTurned : Sp := fun vs H Q _ => ∃ (m c l f : Addr) (k : Int) (fr : List T3) (last nw tot : Nat), vs = [.ref m, .ref f, .int nw, .int tot] ∧ MAt H m c l k ∧ k < 600000 ∧ FrA H f fr ∧ Frm fr last ∧ 1 ≤ nw ∧ nw ≤ 8 ∧ tot ≤ 60 ∧
  ∀ (w : Addr) (xs : List V) (ds : List Tn) (H' : Hp) (l' : Addr) (k' : Int), H' w = some (.tup xs) → TnS H' xs ds → ds.length ≤ tot → Go fr (entsT ds) → k' ≤ k + 300 → Dr H H' m c l l' k' → Q (.ref w) H'
structure Lt (K : PySem.W.Frag) (mg : Str → Option Value) where
  V : Lw K mg
  f : Addr
  d : FuncData
  T : Fun K "_law_turned" "_law_turned" sTurned f d
  b : Binds K d ["m", "framing", "writers", "total"] []
  g : mg "_law_turned" = some (.ref f)
section
variable {P : Program} {w : World} {K : PySem.W.Frag} {mg : Str → Option Value} {base : Heap}
theorem scTurned : FnScope ["m", "framing", "writers", "total", "found", "now", "writer", "k", "some", "number"] ["m", "framing", "writers", "total"] (defScope sTurned) := ⟨rfl, rfl, rfl, by decide +kernel, rfl, by decide +kernel, by decide +kernel⟩
theorem ok_turned (Lx : Lt K mg) : FnOk P w K mg base CX0 2 Lx.f Lx.d ["m", "framing", "writers", "total"] spTurned := by
  have GX : FnOk P w K mg base CX0 1 Lx.V.G.L.f1 Lx.V.G.L.d1 ["m", "total"] spNext := ok_next Lx.V.G.L.N Lx.V.G.L.T
  have GF : FnOk P w K mg base CX0 1 Lx.V.f1 Lx.V.d1 ["framing", "here"] spFrom := ok_from Lx.V
  refine Lx.T.ok scTurned (fun vs H Q E h => ?_) (fun cdv A outer s H vs Q E hr h => ?_)
  · obtain ⟨m, c, l, f, k, fr, last, nw, tot, rfl, _⟩ := h
    rfl
  · obtain ⟨m, c, l, f, k, fr, last, nw, tot, rfl, M, hk, fa, fm, w1, w8, t60, q⟩ := h
    refine ⟨_, pss_cons (ps_par (i := 4) (j := 5) (x := "found") (y := "now") rfl scTurned.nd rfl rfl (by decide) rfl rfl (pa_cons (pe_lst pa_nil) (pa_cons (pe_op op_rep (pe_lst (pa_cons pe_int pa_nil)) (pv 2)) pa_nil)) (by rfl))
      (pss_cons (ps_set (i := 6) scTurned.nd rfl (Or.inl rfl) (pe_call GX hr (by rfl) Lx.V.G.L.mN Lx.V.G.L.N.kp Lx.V.G.L.bN .nil pass0 (pa_cons (pv 0) (pa_cons (pv 2) pa_nil))))
      (pss_cons (ps_for PassesOwn.never rfl (pi_range1 (by rfl) Lx.V.G.L.ra (pa_cons (pv 3) pa_nil)) (pg_name (i := 7) scTurned.nd rfl (Or.inl rfl))
        (pss_cons (ps_if (pt_cmpR op_eq (pe_call GX hr (by rfl) Lx.V.G.L.mN Lx.V.G.L.N.kp Lx.V.G.L.bN .nil pass0 (pa_cons (pv 0) (pa_cons pe_int pa_nil))) pe_int (nomark _))
          (pss_one (ps_set (i := 6) scTurned.nd rfl (Or.inl rfl) (pe_call GX hr (by rfl) Lx.V.G.L.mN Lx.V.G.L.N.kp Lx.V.G.L.bN .nil pass0 (pa_cons (pv 0) (pa_cons (pv 2) pa_nil))))) pss_nil)
        (pss_one (ps_if (pt_cmpR op_eq (pe_call GX hr (by rfl) Lx.V.G.L.mN Lx.V.G.L.N.kp Lx.V.G.L.bN .nil pass0 (pa_cons (pv 0) (pa_cons pe_int pa_nil))) pe_int (nomark _))
          (pss_one (ps_expr (pe_bm PySem.F.plainAttrs_list PySem.F.slot_list_append PySem.F.type_list_append mt_append (pv 4) (pa_cons (pe_ix ix_list (pe_lst (pa_cons pe_str (pa_cons pe_str (pa_cons pe_str pa_nil)))) (pe_call GX hr (by rfl) Lx.V.G.L.mN Lx.V.G.L.N.kp Lx.V.G.L.bN .nil pass0 (pa_cons (pv 0) (pa_cons pe_int pa_nil))) (fun _ _ => rfl)) pa_nil))))
          (pss_cons (ps_set (i := 8) scTurned.nd rfl (Or.inl rfl) (pe_call GF hr (by rfl) Lx.V.gF Lx.V.F.kp Lx.V.bF .nil pass0 (pa_cons (pv 1) (pa_cons (pe_ix ix_list (pv 5) (pv 6) (fun _ _ => rfl)) pa_nil))))
          (pss_cons (ps_set (i := 9) scTurned.nd rfl (Or.inl rfl) (pe_ix ix_list (pv 8) (pe_call GX hr (by rfl) Lx.V.G.L.mN Lx.V.G.L.N.kp Lx.V.G.L.bN .nil pass0 (pa_cons (pv 0) (pa_cons (pe_callB call_len_seq (by rfl) Lx.V.G.L.T.len PySem.boot_len (pa_cons (pv 8) pa_nil)) pa_nil))) (fun _ _ => rfl)))
          (pss_cons (ps_expr (pe_bm PySem.F.plainAttrs_list PySem.F.slot_list_append PySem.F.type_list_append mt_append (pv 4) (pa_cons (pe_tup (pa_cons (pv 6) (pa_cons (pv 9) pa_nil))) pa_nil)))
          (pss_one (ps_asg (pe_ix ix_tup (pe_ix ix_tup (pv 1) (pv 9) (fun _ _ => rfl)) pe_int (fun _ _ => rfl)) (pg_sub (pv 5) (pv 6) set_list)))))))))) 
      (pss_one (ps_ret (pe_callTy call_tuple_of (by rfl) Lx.V.G.tu (by decide +kernel) (pa_cons (pv 4) pa_nil)))))), ?_⟩
    refine ⟨by decide, fun F hF => ⟨(by show 1 ≤ sizeLine; decide), fun z hz => ?_⟩⟩
    refine ⟨_, rfl, z, nw, _, rfl, rfl, upd_same, by omega, by omega, (by rw [sizeLine_eq]; simp; omega), fun W hW => ⟨_, _, rfl, ?_⟩⟩
    have u1 := same_upd (o := HO.lst []) hF
    have u2 := same_upd (o := HO.lst [V.int 0]) hz
    have u3 := same_upd (o := HO.lst (List.replicate (nw : Int).toNat [V.int 0]).flatten) hW
    have sA : Same H _ := u1.trans (u2.trans u3)
    have MA := M.same sA
    have hFA := (u2.trans u3) _ _ (upd_same (H := H) (a := F) (o := HO.lst []))
    have hWA : upd (upd (upd H F (.lst [])) z (.lst [V.int 0])) W (.lst (List.replicate (nw : Int).toNat [V.int 0]).flatten) W = some (.lst ((List.replicate nw (0 : Int)).map V.int)) := by
      rw [upd_same, rep_flat, Int.toNat_natCast]
    have hW0 : H W = none := (u1.trans u2).free hW
    have fw : F ≠ W := ne_of_none ((u2) _ _ (upd_same (H := H) (a := F) (o := HO.lst []))) hW
    have nFm : F ≠ m := (ne_of_none M.hm hF).symm
    have nWm : W ≠ m := (ne_of_none M.hm hW0).symm
    have nFc := M.c_some hF
    have nWc := M.c_some hW0
    refine ⟨_, rfl, _, rfl, m, c, l, k, nw, rfl, MA, by omega, by omega, by omega, fun r H1 l1 k1 a1 b1 g1 N1 f1 q1 => ?_⟩
    have d1 : Dr _ H1 m c l l1 k1 := ⟨N1, f1, q1⟩
    obtain ⟨hF1, nF1⟩ := d1.lst MA hFA (M.l_some hF)
    obtain ⟨hW1, nW1⟩ := d1.lst MA hWA (M.l_some hW0)
    have DA : Dr H H1 m c l l1 k1 := ((Dr.refl M).same sA).trans d1
    have ws0 : WT H H1 m c l F W (k + 1) fr last nw [] := ⟨⟨[], List.replicate nw 0, l1, k1, hF1, .nil, hW1, List.length_replicate, (by show List.replicate nw 0 = (List.replicate 8 (0 : Int)).take nw; rw [List.take_replicate]; congr 1; omega), fun g hg => by
      rw [List.eq_of_mem_replicate hg]
      omega, nF1, nW1, by omega, DA⟩, .nil⟩
    refine ⟨_, rfl, tot, rfl, by omega, by omega, for_it walk_range (fun i σ H' => ∃ (wr : Int) (v7 v8 v9 : Option V) (ds : List Tn), σ = [some (.ref m), some (.ref f), some (.int (nw : Int)), some (.int (tot : Int)), some (.ref F), some (.ref W), some (.int wr), v7, v8, v9] ∧
      0 ≤ wr ∧ wr < nw ∧ WT H H' m c l F W (k + 1 + 4 * i) fr last nw ds ∧ ds.length = i)
      ⟨r, none, none, none, [], rfl, a1, b1, by simpa using ws0, rfl⟩ (fun _ _ _ _ _ => trivial) ?_ ?_⟩
    · rintro i x σ H2z H2 hi ⟨wr, v7, v8, v9, ds, rfl, wr0, wr1, ws, le⟩ ⟨rfl, rfl⟩
      have hi60 : i < 60 := by
        rw [Int.toNat_natCast] at hi
        omega
      apply joinIf (ok := fun wq Hx => 0 ≤ wq ∧ wq < nw ∧ WT H Hx m c l F W (k + 1 + 4 * i + 2) fr last nw ds)
      · intro fin
        obtain ⟨xs, ql, l2, k2, hF2, ha2, hW2, ql2, qe2, qg2, nF2, nW2, kk2, D2⟩ := ws.ex
        refine ⟨_, rfl, m, c, l2, k2, 3, rfl, D2.at_, by decide, by decide, by omega, fun rb Hb lb kb ab bb gb Nb fb qb => ?_⟩
        have db : Dr _ Hb m c l2 lb kb := ⟨Nb, fb, qb⟩
        obtain ⟨hFb, nFb⟩ := db.lst D2.at_ hF2 nF2
        obtain ⟨hWb, nWb⟩ := db.lst D2.at_ hW2 nW2
        have hab := ha2.keep (db.keepT D2.at_)
        have Db := D2.trans db
        refine ⟨rfl, _, rfl, ?_⟩
        refine ite2 (fun _ => ?_) (fun _ => ?_)
        · refine ⟨_, rfl, _, rfl, m, c, lb, kb, nw, rfl, Nb, by omega, by omega, by omega, fun wq H3 l3 k3 wq0 wq1 g3 N3 f3 q3 => ?_⟩
          have d3 : Dr _ H3 m c lb l3 k3 := ⟨N3, f3, q3⟩
          obtain ⟨hF3, nF3⟩ := d3.lst Nb hFb nFb
          obtain ⟨hW3, nW3⟩ := d3.lst Nb hWb nWb
          exact fin wq H3 ⟨wq0, wq1, ⟨⟨xs, ql, l3, k3, hF3, hab.keep (d3.keepT Nb), hW3, ql2, qe2, qg2, nF3, nW3, by omega, Db.trans d3⟩, ws.go⟩⟩
        · exact fin wr Hb ⟨wr0, wr1, ⟨⟨xs, ql, lb, kb, hFb, hab, hWb, ql2, qe2, qg2, nFb, nWb, by omega, Db⟩, ws.go⟩⟩
      · rintro wq H3 ⟨wq0, wq1, ⟨⟨xs, ql, l3, k3, hF3, ha3, hW3, ql3, qe3, qg3, nF3, nW3, kk3, D3⟩, go3⟩⟩
        refine ⟨_, rfl, m, c, l3, k3, 4, rfl, D3.at_, by decide, by decide, by omega, fun rb Hb lb kb ab bb gb Nb fb qb => ?_⟩
        have db : Dr _ Hb m c l3 lb kb := ⟨Nb, fb, qb⟩
        obtain ⟨hFb, nFb⟩ := db.lst D3.at_ hF3 nF3
        obtain ⟨hWb, nWb⟩ := db.lst D3.at_ hW3 nW3
        have hab := ha3.keep (db.keepT D3.at_)
        have Db := D3.trans db
        refine ⟨rfl, _, rfl, ?_⟩
        refine ite2 (fun _ => ?_) (fun _ => ?_)
        · refine ⟨_, rfl, .inl ⟨rfl, _, SqL.of hFb⟩, (by show 3 ≤ sizeLine; decide), fun tp htp => ?_⟩
          have u6 := same_upd (o := HO.lst [V.str "turn", V.str "copy", V.str "cut"]) htp
          refine ⟨_, rfl, m, c, lb, kb, 3, rfl, Nb.same u6, by decide, by decide, by omega, fun r5 H5 l5 k5 a5 b5 g5 N5 f5 q5 => ?_⟩
          have d5 : Dr _ H5 m c lb l5 k5 := ⟨N5, f5, q5⟩
          obtain ⟨ep5, _⟩ := d5.lst (Nb.same u6) upd_same (Nb.l_some htp)
          obtain ⟨hF5, nF5⟩ := d5.lst (Nb.same u6) (u6 _ _ hFb) nFb
          obtain ⟨hW5, nW5⟩ := d5.lst (Nb.same u6) (u6 _ _ hWb) nWb
          have ha5 := (hab.keep (Same.keepT u6)).keep (d5.keepT (Nb.same u6))
          have D5 := (Db.same u6).trans d5
          obtain ⟨s0, t0, es, ws, wn⟩ : ∃ (s0 : Str) (t0 : Tn), atI [V.str "turn", V.str "copy", V.str "cut"] r5 = some (.str s0) ∧ (∀ Hx, TnA Hx (.str s0) t0) ∧ entsT [t0] = [] := by
            obtain ⟨j, rfl⟩ := Int.eq_ofNat_of_zero_le a5
            rcases (show j = 0 ∨ j = 1 ∨ j = 2 by omega) with rfl | rfl | rfl
            · exact ⟨"turn", .turn, rfl, fun _ => .turn, rfl⟩
            · exact ⟨"copy", .copy, rfl, fun _ => .copy, rfl⟩
            · exact ⟨"cut", .cut, rfl, fun _ => .cut, rfl⟩
          have ee : entsT (ds ++ [t0]) = entsT ds := by rw [entsT_app, wn, List.append_nil]
          refine ⟨tp, _, r5, .str s0, rfl, rfl, SqL.of ep5, es, ?_⟩
          refine ⟨F, xs, _, rfl, rfl, hF5, by rw [ha5.len, sizeLine_eq]; omega, ?_⟩
          have kF := keepT_upd (o := .lst (xs ++ [.str s0])) hF5 (fun xs z => by cases z)
          exact ⟨_, _, _, _, ds ++ [t0], rfl, wq0, wq1, ⟨⟨xs ++ [.str s0], ql, l5, k5, upd_same, (ha5.keep kF).snoc (ws _), by rw [upd_ne fw.symm]; exact hW5, ql3, by rw [ee]; exact qe3, qg3, nF5, nW5, by omega,
            D5.put hF nF5 nFm nFc⟩, by rw [ee]; exact go3⟩, by rw [List.length_append, le]; rfl⟩
        · have wn0 : wq.toNat < ql.length := by rw [ql3]; omega
          obtain ⟨g, hg⟩ : ∃ g, ql[wq.toNat]? = some g := ⟨_, List.getElem?_eq_getElem wn0⟩
          obtain ⟨g0, g1⟩ := qg3 g (List.mem_of_getElem? hg)
          have hgi : atI (ql.map V.int) wq = some (.int g) := by
            obtain ⟨j, hj⟩ := Int.eq_ofNat_of_zero_le wq0
            rw [hj] at hg ⊢
            refine atI_nat ?_
            rw [List.getElem?_map]
            have hg' : ql[j]? = some g := hg
            rw [hg']
            rfl
          refine ⟨_, rfl, _, rfl, _, rfl, W, _, wq, .int g, rfl, rfl, SqL.of hWb, hgi, f, fr, last, g, rfl, Db.fr M fa, fm, fun H4 p ns s4 np ep nl nk nz => ?_⟩
          obtain ⟨gn, rfl⟩ := Int.eq_ofNat_of_zero_le g0
          obtain ⟨x0, hx0, ex0, _⟩ := fm.ring gn (by omega)
          have nne := List.length_pos_iff.mpr (nz ⟨x0, hx0, ex0⟩)
          have M4 := Db.at_.same s4
          refine ⟨_, rfl, _, rfl, _, rfl, p, _, rfl, .inl (SqL.of ep), m, c, lb, kb, _, rfl, M4, by rw [List.length_map]; omega, by rw [List.length_map]; omega, by omega, fun r5 H5 l5 k5 a5 b5 g5 N5 f5 q5 => ?_⟩
          have d5 : Dr H4 H5 m c lb l5 k5 := ⟨N5, f5, q5⟩
          rw [List.length_map] at b5
          obtain ⟨ep5, _⟩ := d5.lst M4 ep (Db.at_.l_some np)
          obtain ⟨j, rfl⟩ := Int.eq_ofNat_of_zero_le a5
          have jl : j < ns.length := by omega
          obtain ⟨m0, m1, m2⟩ := nk ns[j] (List.getElem_mem jl)
          have D5 := (Db.same s4).trans d5
          obtain ⟨hF5, nF5⟩ := d5.lst M4 (s4 _ _ hFb) nFb
          obtain ⟨hW5, nW5⟩ := d5.lst M4 (s4 _ _ hWb) nWb
          have ha5 := (hab.keep (Same.keepT s4)).keep (d5.keepT M4)
          refine ⟨p, _, (j : Int), .int ns[j], rfl, rfl, SqL.of ep5, atI_nat (by rw [List.getElem?_map, List.getElem?_eq_getElem jl]; rfl), ?_⟩
          refine ⟨_, rfl, .inl ⟨rfl, _, SqL.of hF5⟩, _, rfl, _, rfl, (by show 2 ≤ sizeLine; decide), fun tp htp => ?_⟩
          have u6 := same_upd (o := HO.tup [V.int wq, V.int ns[j]]) htp
          refine ⟨F, xs, _, rfl, rfl, u6 _ _ hF5, by rw [ha5.len, sizeLine_eq]; omega, ?_⟩
          have k6 := keepT_upd (o := .lst (xs ++ [.ref tp])) (u6 _ _ hF5) (fun xs z => by cases z)
          obtain ⟨tf, t2, hf, hat, h3, _⟩ := stt_at (D5.fr M fa) m0 m1
          have kk := (Same.keepT u6).trans k6
          have hW6 : upd (upd H5 tp (.tup [V.int wq, V.int ns[j]])) F (.lst (xs ++ [.ref tp])) W = some (.lst (ql.map V.int)) := by
            rw [upd_ne fw.symm]
            exact u6 _ _ hW5
          refine ⟨_, rfl, _, rfl, f, _, ns[j], .ref t2, rfl, rfl, SqT.of (kk _ _ hf), hat, t2, _, 2, _, rfl, rfl, SqT.of (kk _ _ h3), atI_nat (j := 2) rfl, _, rfl, _, rfl, W, _, wq, (wq).toNat, rfl, rfl, hW6, ?_, ?_⟩
          · rw [List.length_map, ql3]
            unfold ixN
            rw [if_pos wq0, if_pos (by omega)]
          · have k7 := keepT_upd (o := .lst ((ql.map V.int).set wq.toNat (.int (stt fr ns[j]).2.2))) hW6 (fun xs z => by cases z)
            have ee : entsT (ds ++ [.ent (wq, ns[j])]) = entsT ds ++ [(wq, ns[j])] := by rw [entsT_app]; rfl
            have wnn : wq.toNat < nw := by omega
            have hpl : (plc fr (entsT ds))[wq.toNat]? = some (stt fr ns[j]).1 := by
              rw [m2]
              have z := hg
              rw [qe3, List.getElem?_take, if_pos wnn] at z
              exact z
            refine ⟨_, _, _, _, ds ++ [.ent (wq, ns[j])], rfl, wq0, wq1, ⟨⟨xs ++ [.ref tp], ql.set wq.toNat (stt fr ns[j]).2.2, l5, k5, by rw [upd_ne fw]; exact upd_same,
              ((ha5.keep kk).keep k7).snoc (.ent (k7 _ _ (k6 _ _ upd_same))), by rw [List.map_set]; exact upd_same, by rw [List.length_set, ql3], ?_, fun g hg => ?_, nF5, nW5, by omega,
              ((D5.same u6).put hF nF5 nFm nFc).put hW0 nW5 nWm nWc⟩, by rw [ee]; exact go3.snoc ⟨wq0, by show (wq : Int) < 8; omega, m0, m1⟩ hpl⟩, by rw [List.length_append, le]; rfl⟩
            · rw [ee, plc_snoc, List.take_set, ← qe3]
            · rcases List.mem_or_eq_of_mem_set hg with z | z
              · exact qg3 g z
              obtain ⟨_, _, _, _, _, hm⟩ := stt_at fa m0 m1
              rw [z]
              exact ⟨(fm.stp _ hm).2.2.2.1, (fm.lo _ hm).2⟩
    · rintro σ H2 ⟨wr, v7, v8, v9, ds, rfl, wr0, wr1, ⟨⟨xs, ql, l2, k2, hF2, ha2, hW2, ql2, qe2, qg2, nF2, nW2, kk2, D2⟩, go2⟩, le⟩
      refine ⟨_, rfl, F, _, rfl, .inl ⟨SqL.of hF2, fun p hp => ?_⟩⟩
      have u := same_upd (o := HO.tup xs) hp
      rw [Int.toNat_natCast] at kk2 le
      exact q p xs ds _ l2 k2 upd_same (ha2.keep (Same.keepT u)) (by omega) go2 (by omega) (D2.same u)
end
end K41

set_option Elab.async false
set_option linter.all false
set_option maxRecDepth 100000
set_option maxHeartbeats 4000000
/-! The law's own text and lines. -/
namespace K41
open PySem L2 L2.EV
abbrev sPutL : Stmt := top 46
abbrev sTextL : Stmt := top 47
theorem semi_eq : (";" : Str) = ⟨#[59]⟩ := by decide +kernel
theorem pc_lastc {p : Str} {l : Bool} (h : Pc p l) : ∃ ch, atI p.cps.toList (-1) = some ch ∧ decide (V.str ⟨#[ch]⟩ = V.str ";") = l := by
  have at1 : ∀ (M : List Nat) (y : Nat), sl p = M ++ [y] → atI p.cps.toList (-1) = some y := fun M y e => by
    have e' : p.cps.toList = M ++ [y] := e
    rw [e']
    unfold atI ixN
    simp only [List.length_append, List.length_cons, List.length_nil]
    rw [if_neg (by omega), if_pos (by omega)]
    show (M ++ [y])[((-1 : Int) + ((M.length + (0 + 1) : Nat) : Int)).toNat]? = _
    have e2 : ((-1 : Int) + ((M.length + (0 + 1) : Nat) : Int)).toNat = M.length := by omega
    rw [e2, List.getElem?_append_right (Nat.le_refl _)]
    simp
  obtain ⟨b, e, _, hb, h2⟩ := h
  cases l with
  | true =>
    rw [if_pos rfl] at e
    refine ⟨59, at1 b 59 e, decide_eq_true ?_⟩
    rw [semi_eq]
  | false =>
    rw [if_neg (by simp), List.append_nil] at e
    obtain ⟨M, y, hM⟩ := SrtO.snoc_of (l := b) (List.length_pos_iff.mpr (h2 rfl))
    have hy : y ∈ sgs := hb y (by rw [hM]; simp)
    refine ⟨y, at1 M y (e.trans hM), decide_eq_false fun z => ?_⟩
    have z2 : (⟨#[y]⟩ : Str) = ";" := V.str.inj z
    rw [semi_eq] at z2
    have z3 : y = 59 := by
      have z4 := congrArg (fun s : Str => s.cps.toList) z2
      simpa using z4
    exact no59 (z3 ▸ hy)
def spPutL : Sp := fun vs H Q _ => ∃ (f t : Addr) (fr : List T3) (last : Nat) (e : E2), vs = [.ref f, .ref t] ∧ FrA H f fr ∧ Frm fr last ∧ A2 H t e ∧ Ent fr e ∧ Q (.str (putE fr e)) H
def spPutT : Sp := fun vs H Q _ => ∃ (f w : Addr) (fr : List T3) (last : Nat) (es : List E2), vs = [.ref f, .ref w] ∧ FrA H f fr ∧ Frm fr last ∧ WvA H w es ∧ (∀ e ∈ es, Ent fr e) ∧ es.length ≤ 200 ∧ ∀ H', Same H H' → Q (.str (textE fr es)) H'
section
variable {P : Program} {w : World} {K : PySem.W.Frag} {mg : Str → Option Value} {base : Heap}
structure Lx (K : PySem.W.Frag) (mg : Str → Option Value) where
  f1 : Addr
  f2 : Addr
  d1 : FuncData
  d2 : FuncData
  P : Fun K "_law_put" "_law_put" sPutL f1 d1
  T : Fun K "_law_text" "_law_text" sTextL f2 d2
  bP : Binds K d1 ["framing", "entry"] []
  bT : Binds K d2 ["framing", "entries"] []
  gP : mg "_law_put" = some (.ref f1)
  gT : mg "_law_text" = some (.ref f2)
theorem scPutL : FnScope ["framing", "entry"] ["framing", "entry"] (defScope sPutL) := ⟨rfl, rfl, rfl, by decide +kernel, rfl, by decide +kernel, by decide +kernel⟩
theorem ok_putL (G : Lx K mg) : FnOk P w K mg base CX0 1 G.f1 G.d1 ["framing", "entry"] spPutL := by
  refine G.P.ok scPutL (fun vs H Q E h => ?_) (fun cdv A outer s H vs Q E hr h => ?_)
  · obtain ⟨f, t, fr, last, e, rfl, _⟩ := h
    rfl
  · obtain ⟨f, t, fr, last, e, rfl, fa, fm, ha, ⟨e0, e1, n0, n1⟩, q⟩ := h
    refine ⟨_, pss_one (ps_ret (pe_replM ix_tup (pe_ix ix_tup (pv 0) (pe_ix ix_tup (pv 1) pe_int (fun _ _ => rfl)) (fun _ _ => rfl)) pe_str (pe_ix ix_tup (pv 1) pe_int (fun _ _ => rfl)) (fun _ _ => rfl) (fun _ _ => rfl))), ?_⟩
    obtain ⟨ts, t2, hf, hat, h3, hm⟩ := stt_at fa n0 n1
    obtain ⟨m1, m2⟩ := mrk_at e0 e1
    have p8 := (pc_len (fm.stp _ hm).2.2.1).2
    exact ⟨_, rfl, _, rfl, t, _, 1, _, rfl, rfl, SqT.of ha, atI_nat (j := 1) rfl, f, _, e.2, .ref t2, rfl, rfl, SqT.of hf, hat, t2, _, 1, _, rfl, rfl, SqT.of h3, atI_nat (j := 1) rfl, _, rfl, _, rfl, t, _, 0, _, rfl, rfl, SqT.of ha, atI_nat (j := 0) rfl, _, mrk e.1, e.1, rfl, rfl, (by decide +kernel), m1, m2, by omega, q⟩
theorem scTextL : FnScope ["framing", "entries", "entry"] ["framing", "entries"] (defScope sTextL) := ⟨rfl, rfl, rfl, by decide +kernel, rfl, by decide +kernel, by decide +kernel⟩
theorem ok_textL (G : Lx K mg) : FnOk P w K mg base CX0 2 G.f2 G.d2 ["framing", "entries"] spPut := by
  have GP : FnOk P w K mg base CX0 1 G.f1 G.d1 ["framing", "entry"] spPutL := ok_putL G
  refine G.T.ok scTextL (fun vs H Q E h => ?_) (fun cdv A outer s H vs Q E hr h => ?_)
  · obtain ⟨f, t, fr, l, e, rfl, _⟩ := h
    rfl
  · obtain ⟨f, wv, fr, last, es, rfl, fa, fm, wa, wo, l60, q⟩ := h
    refine ⟨_, pss_one (ps_ret (pe_m1 PySem.F.slot_str_join PySem.F.type_str_join mt_join pe_str (pe_lc (own := [("entry", 2)]) (g := gName 2) rfl scTextL.nd (pi_list (pv 1))
      (blkOk_by (N := ["framing", "entries", "entry"]) (sc := defScope sTextL) (by decide +kernel))
      (fun _ _ _ _ _ => pg_name (i := 2) scTextL.nd rfl (Or.inl rfl)) (fun _ _ _ _ _ => pts_nil)
      (fun _ _ _ _ _ => pe_call GP hr (by rfl) G.gP G.P.kp G.bP .nil pass0 (pa_cons (pv 0) (pa_cons (pv 2) pa_nil)))))), ?_⟩
    obtain ⟨tw, hw, wl, wt⟩ := id wa
    have pl : ∀ e ∈ es, (stt fr e.2).2.1.length ≤ 8 := fun e he => by
      obtain ⟨_, _, n0, n1⟩ := wo e he
      obtain ⟨_, _, _, _, _, hm⟩ := stt_at fa n0 n1
      exact (pc_len (fm.stp _ hm).2.2.1).2
    refine ⟨⟨_, rfl⟩, _, rfl, wv, rfl, ⟨_, SqL.of hw⟩, fun D hD => ?_⟩
    refine lc_it (walk_list (xs := tw.map V.ref)) (fun i H' => H' D = some (.lst (((es.take i).map (putE fr)).map V.str)) ∧ ∀ b o, H b = some o → H' b = some o) ⟨upd_same, fun b o z => same_upd hD b o z⟩ (fun i H' _ z => SqL.of (z.2 _ _ hw)) ?_ ?_
    · rintro i x H1 H2 hi ⟨hl, kp⟩ ⟨rfl, hx⟩
      obtain ⟨t, e, he, _, rfl, e4⟩ := at_ent (i := i) wl wt hx
      have hm := List.mem_of_getElem? he
      refine ⟨rfl, _, rfl, _, rfl, f, t, fr, last, e, rfl, fa.same kp, fm, kp _ _ e4, wo e hm, _, hl, ?_, ?_, fun b o z => ?_⟩
      · rw [List.length_map, List.length_map, List.length_take, sizeLine_eq]
        omega
      · rw [take_one he, List.map_append, List.map_append]
        exact upd_same
      · rw [upd_ne (ne_of_none z hD)]
        exact kp b o z
    · rintro H1 ⟨hl, kp⟩
      have e0 : es.take (tw.map V.ref).length = es := by
        rw [List.length_map, wl, List.take_length]
      rw [e0] at hl
      refine ⟨"", D, es.map (putE fr), rfl, rfl, .inl (SqL.of hl), ?_, q H1 kp⟩
      have z : ∀ l : List E2, (∀ e ∈ l, (stt fr e.2).2.1.length ≤ 8) → ((l.map (putE fr)).map (·.length)).sum ≤ 17 * l.length := by
        intro l
        induction l with
        | nil => exact fun _ => Nat.le_refl _
        | cons e l ih =>
          intro h
          have h1 := putE_len (h e (List.mem_cons_self ..))
          have h2 := ih fun e he => h e (List.mem_cons_of_mem _ he)
          simp only [List.map_cons, List.sum_cons, List.length_cons]
          omega
      have z1 := z es pl
      have z2 : ("" : Str).length = 0 := by decide +kernel
      rw [z2]
      omega
theorem ok_textT (G : Lx K mg) : FnOk P w K mg base CX0 2 G.f2 G.d2 ["framing", "entries"] spPutT := by
  have GP : FnOk P w K mg base CX0 1 G.f1 G.d1 ["framing", "entry"] spPutL := ok_putL G
  refine G.T.ok scTextL (fun vs H Q E h => ?_) (fun cdv A outer s H vs Q E hr h => ?_)
  · obtain ⟨f, t, fr, l, e, rfl, _⟩ := h
    rfl
  · obtain ⟨f, wv, fr, last, es, rfl, fa, fm, wa, wo, l60, q⟩ := h
    refine ⟨_, pss_one (ps_ret (pe_m1 PySem.F.slot_str_join PySem.F.type_str_join mt_join pe_str (pe_lc (own := [("entry", 2)]) (g := gName 2) rfl scTextL.nd (pi_tup (pv 1))
      (blkOk_by (N := ["framing", "entries", "entry"]) (sc := defScope sTextL) (by decide +kernel))
      (fun _ _ _ _ _ => pg_name (i := 2) scTextL.nd rfl (Or.inl rfl)) (fun _ _ _ _ _ => pts_nil)
      (fun _ _ _ _ _ => pe_call GP hr (by rfl) G.gP G.P.kp G.bP .nil pass0 (pa_cons (pv 0) (pa_cons (pv 2) pa_nil)))))), ?_⟩
    obtain ⟨tw, hw, wl, wt⟩ := id wa
    have pl : ∀ e ∈ es, (stt fr e.2).2.1.length ≤ 8 := fun e he => by
      obtain ⟨_, _, n0, n1⟩ := wo e he
      obtain ⟨_, _, _, _, _, hm⟩ := stt_at fa n0 n1
      exact (pc_len (fm.stp _ hm).2.2.1).2
    refine ⟨⟨_, rfl⟩, _, rfl, wv, rfl, ⟨_, SqT.of hw⟩, fun D hD => ?_⟩
    refine lc_it (walk_tup (xs := tw.map V.ref)) (fun i H' => H' D = some (.lst (((es.take i).map (putE fr)).map V.str)) ∧ ∀ b o, H b = some o → H' b = some o) ⟨upd_same, fun b o z => same_upd hD b o z⟩ (fun i H' _ z => SqT.of (z.2 _ _ hw)) ?_ ?_
    · rintro i x H1 H2 hi ⟨hl, kp⟩ ⟨rfl, hx⟩
      obtain ⟨t, e, he, _, rfl, e4⟩ := at_ent (i := i) wl wt hx
      have hm := List.mem_of_getElem? he
      refine ⟨rfl, _, rfl, _, rfl, f, t, fr, last, e, rfl, fa.same kp, fm, kp _ _ e4, wo e hm, _, hl, ?_, ?_, fun b o z => ?_⟩
      · rw [List.length_map, List.length_map, List.length_take, sizeLine_eq]
        omega
      · rw [take_one he, List.map_append, List.map_append]
        exact upd_same
      · rw [upd_ne (ne_of_none z hD)]
        exact kp b o z
    · rintro H1 ⟨hl, kp⟩
      have e0 : es.take (tw.map V.ref).length = es := by
        rw [List.length_map, wl, List.take_length]
      rw [e0] at hl
      refine ⟨"", D, es.map (putE fr), rfl, rfl, .inl (SqL.of hl), ?_, q H1 kp⟩
      have z : ∀ l : List E2, (∀ e ∈ l, (stt fr e.2).2.1.length ≤ 8) → ((l.map (putE fr)).map (·.length)).sum ≤ 17 * l.length := by
        intro l
        induction l with
        | nil => exact fun _ => Nat.le_refl _
        | cons e l ih =>
          intro h
          have h1 := putE_len (h e (List.mem_cons_self ..))
          have h2 := ih fun e he => h e (List.mem_cons_of_mem _ he)
          simp only [List.map_cons, List.sum_cons, List.length_cons]
          omega
      have z1 := z es pl
      have z2 : ("" : Str).length = 0 := by decide +kernel
      rw [z2]
      omega
end
end K41

set_option Elab.async false
set_option linter.all false
set_option maxRecDepth 100000
set_option maxHeartbeats 4000000
/-! _law_filed. -/
namespace K41
open PySem L2 L2.EV
abbrev sFiled : Stmt := top 49
def spFiled : Sp := fun vs H Q _ => ∃ (f w : Addr) (fr : List T3) (last : Nat) (ts : List Tn) (byL : Bool), vs = [.ref f, .ref w, .bl byL] ∧ FrA H f fr ∧ Frm fr last ∧ ThA H w ts ∧ ts.length ≤ 200 ∧ Go fr (entsT ts) ∧ ∀ H' p, Same H H' → H p = none → RowsA H' p (rowsF fr (!byL) ts) → Q (.ref p) H'
structure Lfd (K : PySem.W.Frag) (mg : Str → Option Value) where
  f : Addr
  d : FuncData
  F : Fun K "_law_filed" "_law_filed" sFiled f d
  b : Binds K d ["framing", "thing", "by_line"] []
  m : mg "_law_filed" = some (.ref f)
  en : mg "enumerate" = none
  len : mg "len" = none
abbrev NFd : List Str := ["framing", "thing", "by_line", "stacks", "here", "now", "home", "place", "one", "writer", "number"]
/-- what a dict tells of the writers -/
def DR (kvs : List (Key × V)) (f : Nat → V) (z : Nat → Prop) : Prop := ∀ w : Nat, w < 8 → valV kvs (.inl (w : Int)) = some (f w) ∨ (valV kvs (.inl (w : Int)) = none ∧ z w)
theorem DR.put {kvs : List (Key × V)} {f g : Nat → V} {z y : Nat → Prop} {k : Nat} {v : V} (h : DR kvs f z) (hv : g k = v) (hg : ∀ w, w ≠ k → g w = f w) (hy : ∀ w, w ≠ k → z w → y w) : DR (putK kvs (.inl (k : Int)) v) g y := by
  intro w w8
  rw [valV_put]
  by_cases c : w = k
  · subst c
    rw [if_pos rfl, hv]
    exact .inl rfl
  · have ne : ¬ (Sum.inl (w : Int) : Key) = .inl (k : Int) := fun e => c (by
      have := Sum.inl.inj e
      omega)
    rw [if_neg ne, hg w c]
    rcases h w w8 with a | ⟨a, b⟩
    · exact .inl a
    · exact .inr ⟨a, hy w c b⟩
theorem DR.weak {kvs : List (Key × V)} {f : Nat → V} {z y : Nat → Prop} (h : DR kvs f z) (hy : ∀ w, z w → y w) : DR kvs f y := fun w w8 => by
  rcases h w w8 with a | ⟨a, b⟩
  · exact .inl a
  · exact .inr ⟨a, hy w b⟩
/-- the law's stacks, and its two dicts -/
structure LI (H H' : Hp) (R N M : Addr) (ads : List Addr) (rows : List (List Nat)) (hm : List Nat) (pl : List Int) (n : Nat) : Prop where
  same : Same H H'
  r : H' R = some (.lst (ads.map V.ref))
  len : ads.length = rows.length
  at_ : ∀ (i : Nat) a r, ads[i]? = some a → rows[i]? = some r → H' a = some (.lst (r.map nI))
  fr : ∀ a ∈ ads, a ≠ R
  hN : ∃ kvs, H' N = some (.dK kvs) ∧ kvs.length ≤ n ∧ DR kvs (fun w => .int (pl.getD w 0)) (fun w => pl.getD w 0 = 0)
  hM : ∃ kvs, H' M = some (.dK kvs) ∧ kvs.length ≤ n ∧ DR kvs (fun w => nI (hm.getD w 0)) (fun w => pl.getD w 0 = 0)
  nR : H R = none
  nN : H N = none
  nM : H M = none
  ne : N ≠ M
section
variable {H H' : Hp} {R N M : Addr} {ads : List Addr} {rows : List (List Nat)} {hm : List Nat} {pl : List Int} {n : Nat}
theorem LI.mono {H'' : Hp} (h : LI H H' R N M ads rows hm pl n) (k : Same H' H'') : LI H H'' R N M ads rows hm pl n := by
  obtain ⟨a, b, c, d, e, ⟨k1, f1, f2⟩, ⟨k2, g1, g2⟩, nR, nN, nM, ne⟩ := h
  exact ⟨a.trans k, k _ _ b, c, fun i a r h1 h2 => k _ _ (d i a r h1 h2), e, ⟨k1, k _ _ f1, f2⟩, ⟨k2, k _ _ g1, g2⟩, nR, nN, nM, ne⟩
theorem LI.more (h : LI H H' R N M ads rows hm pl n) : LI H H' R N M ads rows hm pl (n + 1) := by
  obtain ⟨a, b, c, d, e, ⟨k1, f1, f2, f3⟩, ⟨k2, g1, g2, g3⟩, nR, nN, nM, ne⟩ := h
  exact ⟨a, b, c, d, e, ⟨k1, f1, by omega, f3⟩, ⟨k2, g1, by omega, g3⟩, nR, nN, nM, ne⟩
theorem LI.ra (h : LI H H' R N M ads rows hm pl n) : RowsA H' R rows := ⟨ads, h.r, h.len, h.at_⟩
theorem dk_ne {a b : Addr} {xs : List V} {kvs : List (Key × V)} (e : H a = some (.lst xs)) (e2 : H b = some (.dK kvs)) : a ≠ b := by
  rintro rfl
  rw [e] at e2
  cases e2
/-- a row more -/
theorem LI.add {b : Addr} {r : List Nat} (h : LI H H' R N M ads rows hm pl n) (nb : H' b = some (.lst (r.map nI))) (bR : b ≠ R) :
    LI H (upd H' R (.lst (ads.map V.ref ++ [V.ref b]))) R N M (ads ++ [b]) (rows ++ [r]) hm pl n := by
  obtain ⟨hs, hr, hl, ha, hf, ⟨k1, f1, f2⟩, ⟨k2, g1, g2⟩, nR, nN, nM, ne⟩ := h
  refine ⟨fun c o z => ?_, by rw [List.map_append]; exact upd_same, by rw [List.length_append, List.length_append, hl]; rfl, fun i a q h1 h2 => ?_, fun a h1 => ?_, ⟨k1, by rw [upd_ne (dk_ne hr f1).symm]; exact f1, f2⟩, ⟨k2, by rw [upd_ne (dk_ne hr g1).symm]; exact g1, g2⟩, nR, nN, nM, ne⟩
  · rw [upd_ne (ne_of_none z nR)]
    exact hs _ _ z
  · by_cases c : i < ads.length
    · rw [List.getElem?_append_left c] at h1
      rw [List.getElem?_append_left (by omega)] at h2
      rw [upd_ne (hf a (List.mem_of_getElem? h1))]
      exact ha i a q h1 h2
    · have : i = ads.length := by
        have := (List.getElem?_eq_some_iff.mp h1).1
        rw [List.length_append] at this
        simp only [List.length_cons, List.length_nil] at this
        omega
      subst this
      rw [List.getElem?_append_right (Nat.le_refl _), Nat.sub_self] at h1
      rw [hl, List.getElem?_append_right (Nat.le_refl _), Nat.sub_self] at h2
      cases h1
      cases h2
      rw [upd_ne bR]
      exact nb
  · rcases List.mem_append.mp h1 with z | z
    · exact hf a z
    · rw [List.mem_singleton.mp z]
      exact bR
/-- a row anew -/
theorem LI.set {b : Addr} {r : List Nat} {p : Nat} (h : LI H H' R N M ads rows hm pl n) (nb : H' b = some (.lst (r.map nI))) (bR : b ≠ R) :
    LI H (upd H' R (.lst ((ads.map V.ref).set p (V.ref b)))) R N M (ads.set p b) (rows.set p r) hm pl n := by
  obtain ⟨hs, hr, hl, ha, hf, ⟨k1, f1, f2⟩, ⟨k2, g1, g2⟩, nR, nN, nM, ne⟩ := h
  refine ⟨fun c o z => ?_, by rw [List.map_set]; exact upd_same, by rw [List.length_set, List.length_set, hl], fun i a q h1 h2 => ?_, fun a h1 => ?_, ⟨k1, by rw [upd_ne (dk_ne hr f1).symm]; exact f1, f2⟩, ⟨k2, by rw [upd_ne (dk_ne hr g1).symm]; exact g1, g2⟩, nR, nN, nM, ne⟩
  · rw [upd_ne (ne_of_none z nR)]
    exact hs _ _ z
  · rw [List.getElem?_set] at h1 h2
    by_cases c : p = i
    · rw [if_pos c] at h1 h2
      split at h1
      · split at h2
        · cases h1
          cases h2
          rw [upd_ne bR]
          exact nb
        · cases h2
      · cases h1
    · rw [if_neg c] at h1 h2
      rw [upd_ne (hf a (List.mem_of_getElem? h1))]
      exact ha i a q h1 h2
  · rcases mem_set h1 with z | z
    · rw [z]
      exact bR
    · exact hf a z
/-- a writer's file -/
theorem LI.home {w v : Nat} {kvs : List (Key × V)} (h : LI H H' R N M ads rows hm pl n) (e : H' M = some (.dK kvs)) (hw : w < hm.length) : LI H (upd H' M (.dK (putK kvs (.inl (w : Int)) (nI v)))) R N M ads rows (hm.set w v) pl (n + 1) := by
  obtain ⟨hs, hr, hl, ha, hf, ⟨k1, f1, f2, f3⟩, ⟨k2, g1, g2, g3⟩, nR, nN, nM, ne⟩ := h
  rw [g1] at e
  cases e
  refine ⟨fun c o z => ?_, by rw [upd_ne (dk_ne hr g1)]; exact hr, hl, fun i a q h1 h2 => ?_, hf, ⟨k1, by rw [upd_ne ne]; exact f1, by omega, f3⟩, ⟨_, upd_same, ?_, g3.put ?_ (fun x hx => ?_) (fun x _ z => z)⟩, nR, nN, nM, ne⟩
  · rw [upd_ne (ne_of_none z nM)]
    exact hs _ _ z
  · rw [upd_ne (dk_ne (ha i a q h1 h2) g1)]
    exact ha i a q h1 h2
  · have := length_putK kvs (Sum.inl (w : Int) : Key) (nI v)
    omega
  · rw [List.getD_eq_getElem?_getD, List.getElem?_set, if_pos rfl, if_pos hw]
    rfl
  · rw [List.getD_eq_getElem?_getD, List.getElem?_set, if_neg (fun z => hx z.symm), ← List.getD_eq_getElem?_getD]
/-- a writer's standing -/
theorem LI.now {w : Nat} {v : Int} {kvs : List (Key × V)} (h : LI H H' R N M ads rows hm pl n) (e : H' N = some (.dK kvs)) (hw : w < pl.length) (hh : ∀ x, H' M = some (.dK x) → valV x (.inl (w : Int)) = some (nI (hm.getD w 0))) :
    LI H (upd H' N (.dK (putK kvs (.inl (w : Int)) (.int v)))) R N M ads rows hm (pl.set w v) (n + 1) := by
  obtain ⟨hs, hr, hl, ha, hf, ⟨k1, f1, f2, f3⟩, ⟨k2, g1, g2, g3⟩, nR, nN, nM, ne⟩ := h
  rw [f1] at e
  cases e
  have gt : ∀ x, x ≠ w → (pl.set w v).getD x 0 = pl.getD x 0 := fun x hx => by
    rw [List.getD_eq_getElem?_getD, List.getElem?_set, if_neg (fun z => hx z.symm), ← List.getD_eq_getElem?_getD]
  refine ⟨fun c o z => ?_, by rw [upd_ne (dk_ne hr f1)]; exact hr, hl, fun i a q h1 h2 => ?_, hf, ⟨_, upd_same, ?_, f3.put ?_ (fun x hx => by show V.int ((pl.set w v).getD x 0) = _; rw [gt x hx]) (fun x hx z => by show (pl.set w v).getD x 0 = 0; rw [gt x hx]; exact z)⟩, ⟨k2, by rw [upd_ne ne.symm]; exact g1, by omega, fun x x8 => ?_⟩, nR, nN, nM, ne⟩
  · rw [upd_ne (ne_of_none z nN)]
    exact hs _ _ z
  · rw [upd_ne (dk_ne (ha i a q h1 h2) f1)]
    exact ha i a q h1 h2
  · have := length_putK kvs (Sum.inl (w : Int) : Key) (V.int v)
    omega
  · rw [List.getD_eq_getElem?_getD, List.getElem?_set, if_pos rfl, if_pos hw]
    rfl
  · by_cases c : x = w
    · rw [c]
      exact .inl (hh _ g1)
    · rcases g3 x x8 with a | ⟨a, b⟩
      · exact .inl a
      · exact .inr ⟨a, by show (pl.set w v).getD x 0 = 0; rw [gt x c]; exact b⟩
end
theorem take_snoc {α : Type} {l : List α} {i : Nat} {x : α} (h : l[i]? = some x) : l.take (i + 1) = l.take i ++ [x] := by
  rw [List.take_succ, h]
  rfl
theorem go_at {fr : List T3} {ts : List Tn} {i : Nat} {e : E2} (g : Go fr (entsT ts)) (h : ts[i]? = some (.ent e)) : Ent fr e ∧ (plc fr (entsT (ts.take i)))[e.1.toNat]? = some (stt fr e.2).1 := by
  have sp : entsT ts = entsT (ts.take i) ++ e :: entsT (ts.drop (i + 1)) := by
    have z : ts = ts.take i ++ (.ent e :: ts.drop (i + 1)) := by rw [← drop_at h, List.take_append_drop]
    have y := congrArg entsT z
    rw [entsT_app] at y
    exact y
  have h1 : (entsT ts)[(entsT (ts.take i)).length]? = some e := by rw [sp, List.getElem?_append_right (Nat.le_refl _), Nat.sub_self]; rfl
  refine ⟨g.ent e (List.mem_of_getElem? h1), ?_⟩
  have z := g.go _ e h1
  have tk : (entsT ts).take (entsT (ts.take i)).length = entsT (ts.take i) := by rw [sp, List.take_append_of_le_length (Nat.le_refl _), List.take_length]
  rw [tk] at z
  exact z
section
variable {P : Program} {w : World} {K : PySem.W.Frag} {mg : Str → Option Value} {base : Heap}
theorem scFiled : FnScope NFd ["framing", "thing", "by_line"] (defScope sFiled) := ⟨rfl, rfl, rfl, by decide +kernel, rfl, by decide +kernel, by decide +kernel⟩
theorem ok_filed (L : Lfd K mg) : FnOk P w K mg base CX0 1 L.f L.d ["framing", "thing", "by_line"] spFiled := by
  refine L.F.ok scFiled (fun vs H Q E h => ?_) (fun cdv A outer s H vs Q E hr h => ?_)
  · obtain ⟨f, w, fr, last, ts, byL, rfl, _⟩ := h
    rfl
  · obtain ⟨f, w, fr, last, ts, byL, rfl, fa, fm, ta, l200, go, q⟩ := h
    have hu64 := hr.units
    have hu := hu_of hr
    refine ⟨_, pss_cons (ps_asg (pe_tup (pa_cons (pe_lst (pa_cons (pe_lst pa_nil) pa_nil)) (pa_cons pe_int (pa_cons pe_dnewK (pa_cons pe_dnewK pa_nil))))) (pg_tup rfl (pgs_cons (pg_name (i := 3) scFiled.nd rfl (Or.inl rfl)) (pgs_cons (pg_name (i := 4) scFiled.nd rfl (Or.inl rfl)) (pgs_cons (pg_name (i := 5) scFiled.nd rfl (Or.inl rfl)) (pgs_cons (pg_name (i := 6) scFiled.nd rfl (Or.inl rfl)) pgs_nil))))))
      (pss_cons (ps_for PassesOwn.never rfl (pi_enumT (by rfl) L.en (pa_cons (pv 1) pa_nil)) (pg_tup rfl (pgs_cons (pg_name (i := 7) scFiled.nd rfl (Or.inl rfl)) (pgs_cons (pg_name (i := 8) scFiled.nd rfl (Or.inl rfl)) pgs_nil)))
        (pss_one (ps_if (pt_cmpR (op_eqD hu64) (pv 8) pe_str (nomark _))
          (pss_cons (ps_set (i := 4) scFiled.nd rfl (Or.inl rfl) (pe_callB call_len_seq (by rfl) L.len PySem.boot_len (pa_cons (pv 3) pa_nil)))
            (pss_one (ps_expr (pe_bm PySem.F.plainAttrs_list PySem.F.slot_list_append PySem.F.type_list_append mt_append (pv 3) (pa_cons (pe_lst pa_nil) pa_nil)))))
          (pss_one (ps_if (pt_cmpR (op_eqD hu64) (pv 8) pe_str (nomark _))
            (pss_one (ps_expr (pe_bm PySem.F.plainAttrs_list PySem.F.slot_list_append PySem.F.type_list_append mt_append (pv 3) (pa_cons (pe_op op_cat (pe_ix ix_list (pv 3) (pv 4) (fun _ _ => rfl)) (pe_lst pa_nil)) pa_nil))))
            (pss_one (ps_if (pt_cmpR (op_eqD hu64) (pv 8) pe_str (nomark _))
              (pss_one (ps_asg (pe_lst pa_nil) (pg_sub (pv 3) (pv 4) set_list)))
              (pss_cons (ps_asg (pv 8) (pg_tup rfl (pgs_cons (pg_name (i := 9) scFiled.nd rfl (Or.inl rfl)) (pgs_cons (pg_name (i := 10) scFiled.nd rfl (Or.inl rfl)) pgs_nil))))
              (pss_cons (ps_if (pw_or (pt_not (pt_val (pv 2))) (pw_or1 (pt_cmpR op_eq (pe_dget2 hu (pv 5) (pv 9) pe_int ⟨rfl, rfl, rfl, rfl⟩) pe_int (nomark _)))).pt
                (pss_one (ps_dput hu (pv 6) (pv 9) (pv 4) rfl)) pss_nil)
              (pss_cons (ps_asg (pe_op op_cat (pe_ix ix_list (pv 3) (pe_dget hu (pv 6) (pv 9) (fun _ _ => rfl)) (fun _ _ => rfl)) (pe_lst (pa_cons (pv 7) pa_nil))) (pg_sub (pv 3) (pe_dget hu (pv 6) (pv 9) (fun _ _ => rfl)) set_list))
              (pss_one (ps_dput hu (pv 5) (pv 9) (pe_ix ix_tup (pe_ix ix_tup (pv 0) (pv 10) (fun _ _ => rfl)) pe_int (fun _ _ => rfl)) rfl))))))))))))
      (pss_one (ps_ret (pv 3)))), ?_⟩
    obtain ⟨xs, hw, tx⟩ := id ta
    have tl := tx.len
    refine ⟨(by show 0 ≤ sizeLine; decide), fun r0 n0 => ⟨(by show 1 ≤ sizeLine; decide), fun R nR => fun N nN => fun M nM => ⟨(by show 4 ≤ sizeLine; decide), fun T0 nT0 => ?_⟩⟩⟩
    have u0 := same_upd (o := HO.lst []) n0
    have uR := same_upd (o := HO.lst [V.ref r0]) nR
    have uN := same_upd (o := HO.dK []) nN
    have uM := same_upd (o := HO.dK []) nM
    have uT := same_upd (o := HO.tup [V.ref R, V.int 0, V.ref N, V.ref M]) nT0
    have f0 : LI H (upd (upd (upd (upd (upd H r0 (.lst [])) R (.lst [V.ref r0])) N (.dK [])) M (.dK [])) T0 (.tup [V.ref R, V.int 0, V.ref N, V.ref M])) R N M [r0] [[]] (List.replicate 8 0) (plc fr []) 0 := by
      have bR : r0 ≠ R := fun z => by
        rw [← z, upd_same] at nR
        cases nR
      have NM : N ≠ M := fun z => by
        rw [← z, upd_same] at nM
        cases nM
      have up : ∀ {a : Addr} {H0 H1 : Hp}, Same H0 H1 → H1 a = none → H0 a = none := fun {a H0 H1} s n => by
        cases e : H0 a with
        | none => rfl
        | some o =>
          rw [s _ _ e] at n
          cases n
      refine ⟨u0.trans (uR.trans (uN.trans (uM.trans uT))), (uN.trans (uM.trans uT)) _ _ upd_same, rfl, fun i a r h1 h2 => ?_, fun a ha => ?_, ⟨[], (uM.trans uT) _ _ upd_same, Nat.zero_le _, fun w w8 => .inr ⟨rfl, ?_⟩⟩, ⟨[], uT _ _ upd_same, Nat.zero_le _, fun w w8 => .inr ⟨rfl, ?_⟩⟩, up u0 nR, up (u0.trans uR) nN, up (u0.trans (uR.trans uN)) nM, NM⟩
      · match i, h1, h2 with
        | 0, h1, h2 =>
          cases h1
          cases h2
          exact (uR.trans (uN.trans (uM.trans uT))) _ _ upd_same
        | i + 1, h1, _ => simp at h1
      · rw [List.mem_singleton.mp ha]
        exact bR
      · show (List.replicate 8 (0 : Int)).getD w 0 = 0
        rw [List.getD_eq_getElem?_getD, List.getElem?_replicate, if_pos w8]
        rfl
      · show (List.replicate 8 (0 : Int)).getD w 0 = 0
        rw [List.getD_eq_getElem?_getD, List.getElem?_replicate, if_pos w8]
        rfl
    have hT := upd_same (H := upd (upd (upd (upd H r0 (.lst [])) R (.lst [.ref r0])) N (.dK [])) M (.dK [])) (a := T0) (o := HO.tup [V.ref R, V.int 0, V.ref N, V.ref M])
    clear u0 uR uN uM uT n0 nR nN nM nT0
    generalize upd (upd (upd (upd (upd H r0 (.lst [])) R (.lst [.ref r0])) N (.dK [])) M (.dK [])) T0 (.tup [V.ref R, V.int 0, V.ref N, V.ref M]) = HS at f0 hT ⊢
    refine ⟨T0, _, rfl, SqT.of hT, rfl, _, _, rfl, _, _, rfl, _, _, rfl, _, _, rfl, rfl, ?_⟩
    refine ⟨_, rfl, w, xs, rfl, SqT.of (f0.same _ _ hw), for_it (walk_enumT (xs := xs)) (fun i σ H' => ∃ (v7 v8 v9 v10 : Option V) (s : Fst) (ads : List Addr), σ = [some (.ref f), some (.ref w), some (.bl byL), some (.ref R), some (nI s.pr), some (.ref N), some (.ref M), v7, v8, v9, v10] ∧ LI H H' R N M ads s.rows s.hm (plc fr (entsT (ts.take i))) (2 * i) ∧ Gd s i ∧ runF fr (!byL) ts 0 fs0 = runF fr (!byL) (ts.drop i) i s)
      ⟨none, none, none, none, fs0, [r0], rfl, f0, Gd.zero, rfl⟩ (fun i σ H' _ ⟨_, _, _, _, _, _, _, z, _⟩ => SqT.of (z.same _ _ hw)) ?_ ?_⟩
    · rintro i x σ H2 H3 hi ⟨v7, v8, v9, v10, st, ads, rfl, fi, gd, inv⟩ ⟨T, xi, xo, rfl, nT, rfl, h1, h2⟩
      cases h1
      obtain ⟨t, ht, tA⟩ := tx.at_ h2
      have il : i < ts.length := (List.getElem?_eq_some_iff.mp ht).1
      rw [drop_at ht] at inv
      have uT := same_upd (o := HO.tup [V.int (i : Nat), xo]) nT
      have f2 := fi.mono uT
      have g2 : Gd (stepF fr (!byL) st i t) (i + 1) := gd.step fun e z => (go_at go (by rw [← z]; exact ht)).1
      have inv : runF fr (!byL) ts 0 fs0 = runF fr (!byL) (ts.drop (i + 1)) (i + 1) (stepF fr (!byL) st i t) := inv
      have dA := Da.dp (K := K) _ _ (tA.same f2.same).da
      have pe : ∀ {t0 : Tn}, t = t0 → plc fr (entsT (ts.take (i + 1))) = plc fr (entsT (ts.take i) ++ entsT [t0]) := fun {t0} z => by
        rw [take_snoc ht, entsT_app, z]
      have n2 : 2 * (i + 1) = 2 * i + 1 + 1 := by omega
      refine ⟨T, _, rfl, SqT.of upd_same, rfl, _, _, rfl, _, _, rfl, rfl, ?_⟩
      refine ⟨_, rfl, dT t, .str "turn", dA, .str _, sh_dT t, sh_w1, _, rfl, ?_⟩
      rw [eq_turn]
      clear uT fi
      generalize upd H2 T (.tup [V.int (i : Nat), xo]) = HT at f2 dA ⊢
      have e1 : (ads.map V.ref).length = st.rows.length := by rw [List.length_map, f2.len]
      have el : st.rows.length < sizeLine := by
        have := gd.l
        rw [sizeLine_eq]
        omega
      cases t with
      | turn =>
        refine iteT ?_
        refine ⟨_, rfl, R, _, rfl, .inl (SqL.of f2.r), ?_⟩
        refine ⟨_, rfl, .inl ⟨rfl, _, SqL.of f2.r⟩, (by show 0 ≤ sizeLine; decide), fun b nb => ?_⟩
        have f3 := f2.mono (same_upd (o := HO.lst []) nb)
        have bR : b ≠ R := fun z => by
          rw [z, f2.r] at nb
          cases nb
        refine ⟨R, _, _, rfl, rfl, f3.r, by rw [e1]; exact el, ?_⟩
        refine ⟨_, _, _, _, stepF fr (!byL) st i .turn, ads ++ [b], by rw [e1]; rfl, ?_, g2, inv⟩
        rw [pe rfl, n2]
        show LI H _ R N M (ads ++ [b]) (st.rows ++ [[]]) st.hm (plc fr (entsT (ts.take i) ++ [])) _
        rw [List.append_nil]
        exact (f3.add (r := []) upd_same bR).more.more
      | copy =>
        refine iteF ?_
        refine ⟨_, rfl, dT .copy, .str "copy", dA, .str _, sh_dT _, sh_w2, _, rfl, ?_⟩
        rw [eq_copy]
        refine iteT ?_
        have pl : st.pr < ads.length := by rw [f2.len]; exact gd.p
        have ea : ads[st.pr]? = some ads[st.pr] := List.getElem?_eq_getElem pl
        have er : st.rows[st.pr]? = some (st.rows.getD st.pr []) := by
          rw [List.getD_eq_getElem?_getD, List.getElem?_eq_getElem gd.p]
          rfl
        have rl := (gd.r _ (getD_mem (d := []) gd.p)).1
        refine ⟨_, rfl, .inl ⟨rfl, _, SqL.of f2.r⟩, ?_⟩
        refine ⟨_, rfl, _, rfl, R, _, (st.pr : Int), .ref ads[st.pr], rfl, rfl, SqL.of f2.r, atI_nat (by rw [List.getElem?_map, ea]; rfl), (by show 0 ≤ sizeLine; decide), fun z nz => ?_⟩
        have f3 := f2.mono (same_upd (o := HO.lst []) nz)
        refine ⟨ads[st.pr], z, _, [], rfl, rfl, f3.at_ _ _ _ ea er, upd_same, by rw [List.length_map, sizeLine_eq]; simp only [List.length_nil]; omega, fun b nb => ?_⟩
        have f4 := f3.mono (same_upd (o := HO.lst ((st.rows.getD st.pr []).map nI ++ [])) nb)
        have bR : b ≠ R := fun z => by
          rw [z, f3.r] at nb
          cases nb
        refine ⟨R, _, _, rfl, rfl, f4.r, by rw [e1]; exact el, ?_⟩
        refine ⟨_, _, _, _, stepF fr (!byL) st i .copy, ads ++ [b], rfl, ?_, g2, inv⟩
        rw [pe rfl, n2]
        show LI H _ R N M (ads ++ [b]) (st.rows ++ [st.rows.getD st.pr []]) st.hm (plc fr (entsT (ts.take i) ++ [])) _
        rw [List.append_nil (entsT _)]
        exact (f4.add (r := st.rows.getD st.pr []) (by rw [upd_same, List.append_nil]) bR).more.more
      | cut =>
        refine iteF ?_
        refine ⟨_, rfl, dT .cut, .str "copy", dA, .str _, sh_dT _, sh_w2, _, rfl, ?_⟩
        rw [eq_copy]
        refine iteF ?_
        refine ⟨_, rfl, dT .cut, .str "cut", dA, .str _, sh_dT _, sh_w3, _, rfl, ?_⟩
        rw [eq_cut]
        refine iteT ?_
        refine ⟨(by show 0 ≤ sizeLine; decide), fun b nb => ?_⟩
        have f3 := f2.mono (same_upd (o := HO.lst []) nb)
        have bR : b ≠ R := fun z => by
          rw [z, f2.r] at nb
          cases nb
        have ix : ixN (ads.map V.ref).length (st.pr : Int) = some st.pr := by
          have := gd.p
          unfold ixN
          rw [e1, if_pos (by omega), if_pos (by omega)]
          rfl
        refine ⟨_, rfl, _, rfl, R, _, (st.pr : Int), st.pr, rfl, rfl, f3.r, ix, ?_⟩
        refine ⟨_, _, _, _, stepF fr (!byL) st i .cut, ads.set st.pr b, rfl, ?_, g2, inv⟩
        rw [pe rfl, n2]
        show LI H _ R N M (ads.set st.pr b) (st.rows.set st.pr []) st.hm (plc fr (entsT (ts.take i) ++ [])) _
        rw [List.append_nil]
        exact (f3.set (r := []) upd_same bR).more.more
      | ent e =>
        cases tA with
        | @ent tp _ a4 =>
        obtain ⟨⟨e0, e1x, n0, n1⟩, hpl⟩ := go_at go ht
        obtain ⟨ew, e2⟩ := e
        obtain ⟨wn, hwn⟩ := Int.eq_ofNat_of_zero_le e0
        have hwn : ew = (wn : Int) := hwn
        subst hwn
        have w8 : wn < 8 := by
          have z : (wn : Int) < 8 := e1x
          omega
        have hpl : (plc fr (entsT (ts.take i)))[wn]? = some (stt fr e2).1 := hpl
        have gp : (plc fr (entsT (ts.take i))).getD wn 0 = (stt fr e2).1 := by
          rw [List.getD_eq_getElem?_getD, hpl]
          rfl
        refine iteF ?_
        refine ⟨_, rfl, dT (.ent ((wn : Int), e2)), .str "copy", dA, .str _, sh_dT _, sh_w2, _, rfl, ?_⟩
        rw [eq_copy]
        refine iteF ?_
        refine ⟨_, rfl, dT (.ent ((wn : Int), e2)), .str "cut", dA, .str _, sh_dT _, sh_w3, _, rfl, ?_⟩
        rw [eq_cut]
        refine iteF ?_
        refine ⟨_, rfl, tp, _, rfl, SqT.of (f2.same _ _ a4), rfl, _, _, rfl, _, _, rfl, rfl, ?_⟩
        refine ⟨_, rfl, byL, rfl, ?_⟩
        cases byL with
        | false =>
          have gT : goes fr (!false) ((wn : Int), e2) = true := rfl
          refine iteT' rfl (iteT ?_)
          obtain ⟨kv0, h0, l0, _⟩ := f2.hM
          refine ⟨_, rfl, _, rfl, _, rfl, M, _, rfl, DPut.k (k := (Sum.inl (wn : Int) : Key)) h0 (by rw [sizeLine_eq]; omega), ?_⟩
          have hst : stepF fr (!false) st i (.ent ((wn : Int), e2)) = ⟨st.rows.set ((st.hm.set wn st.pr).getD wn 0) (st.rows.getD ((st.hm.set wn st.pr).getD wn 0) [] ++ [i]), st.pr, st.hm.set wn st.pr⟩ := by
            show Fst.mk _ _ _ = _
            rw [if_pos gT]
            rfl
          have wl : wn < st.hm.length := by rw [gd.l8]; exact w8
          have f4 := f2.home (v := st.pr) h0 wl
          have hvm : ∀ x, (upd HT M (.dK (putK kv0 (Sum.inl (wn : Int) : Key) (nI st.pr)))) M = some (.dK x) → valV x (.inl (wn : Int)) = some (nI ((st.hm.set wn st.pr).getD wn 0)) := fun x hx => by
            rw [upd_same] at hx
            cases hx
            rw [valV_put, if_pos rfl, List.getD_eq_getElem?_getD, List.getElem?_set, if_pos rfl, if_pos wl]
            rfl
          have hh : ∀ k ∈ st.hm.set wn st.pr, k < st.rows.length := fun k hk => by
            rcases mem_set hk with rfl | z
            · exact gd.p
            · exact gd.h k z
          have l8 : (st.hm.set wn st.pr).length = 8 := by rw [List.length_set]; exact gd.l8
          generalize st.hm.set wn st.pr = hm' at hst f4 hh l8 hvm
          generalize upd HT M (.dK (putK kv0 (Sum.inl (wn : Int) : Key) (nI st.pr))) = H4 at f4 hvm ⊢
          obtain ⟨kvM, hM, lM, _⟩ := f4.hM
          have hv := hvm _ hM
          have tk : hm'.getD wn 0 < st.rows.length := hh _ (getD_mem (by omega))
          generalize ek : hm'.getD wn 0 = k at tk hst hv
          have er : st.rows[k]? = some (st.rows.getD k []) := by
            rw [List.getD_eq_getElem?_getD, List.getElem?_eq_getElem tk]
            rfl
          have kl : k < ads.length := by rw [f2.len]; exact tk
          have ea : ads[k]? = some ads[k] := List.getElem?_eq_getElem kl
          have rl := (gd.r _ (getD_mem (d := []) tk)).1
          rw [hst] at g2 inv
          have dg : ∀ {Hx : Hp}, Hx M = some (.dK kvM) → DGet Hx M (.int (wn : Int)) (some (nI k)) := fun {Hx} e => by
            have z := DGet.k (k := (Sum.inl (wn : Int) : Key)) e
            rw [hv] at z
            exact z
          refine ⟨_, rfl, _, rfl, _, rfl, M, nI k, rfl, dg hM, R, _, (k : Int), .ref ads[k], rfl, rfl, SqL.of f4.r, atI_nat (by rw [List.getElem?_map, ea]; rfl), _, rfl, (by show 1 ≤ sizeLine; decide), fun z nz => ?_⟩
          have f5 := f4.mono (same_upd (o := HO.lst [nI i]) nz)
          have hM5 := same_upd (o := HO.lst [nI i]) nz _ _ hM
          refine ⟨ads[k], z, _, [nI i], rfl, rfl, f5.at_ _ _ _ ea er, upd_same, by rw [List.length_map, sizeLine_eq]; simp only [List.length_cons, List.length_nil]; omega, fun b nb => ?_⟩
          have ub := same_upd (o := HO.lst ((st.rows.getD k []).map nI ++ [nI i])) nb
          have f6 := f5.mono ub
          have hM6 := ub _ _ hM5
          have bR : b ≠ R := fun z => by
            rw [z, f5.r] at nb
            cases nb
          have ix : ixN (ads.map V.ref).length (k : Int) = some k := by
            unfold ixN
            rw [e1, if_pos (by omega), if_pos (by omega)]
            rfl
          refine ⟨_, rfl, _, rfl, _, rfl, M, nI k, rfl, dg hM6, R, _, (k : Int), k, rfl, rfl, f6.r, ix, ?_⟩
          have f7 := f6.set (p := k) (r := st.rows.getD k [] ++ [i]) (by rw [upd_same, List.map_append]; rfl) bR
          have hM7 : ∀ x, (upd (upd (upd H4 z (.lst [nI i])) b (.lst ((st.rows.getD k []).map nI ++ [nI i]))) R (.lst ((ads.map V.ref).set k (V.ref b)))) M = some (.dK x) → valV x (.inl (wn : Int)) = some (nI (hm'.getD wn 0)) := fun x hx => by
            have y : (upd (upd (upd H4 z (.lst [nI i])) b (.lst ((st.rows.getD k []).map nI ++ [nI i]))) R (.lst ((ads.map V.ref).set k (V.ref b)))) M = some (.dK kvM) := by
              rw [upd_ne (dk_ne f6.r hM6).symm]
              exact hM6
            rw [y] at hx
            cases hx
            rw [ek]
            exact hv
          generalize upd (upd (upd H4 z (.lst [nI i])) b (.lst ((st.rows.getD k []).map nI ++ [nI i]))) R (.lst ((ads.map V.ref).set k (V.ref b))) = H7 at f7 hM7 ⊢
          obtain ⟨fts, t2, hf, ha, h3, _⟩ := stt_at (fa.same f7.same) n0 n1
          obtain ⟨kvN, hN, lN, _⟩ := f7.hN
          refine ⟨_, rfl, _, rfl, f, _, e2, .ref t2, rfl, rfl, SqT.of hf, ha, t2, _, 2, _, rfl, rfl, SqT.of h3, atI_nat (j := 2) rfl, _, rfl, _, rfl, N, _, rfl, DPut.k (k := (Sum.inl (wn : Int) : Key)) hN (by rw [sizeLine_eq]; omega), ?_⟩
          have f8 := f7.now (v := (stt fr e2).2.2) hN (by rw [plc_len]; exact w8) hM7
          refine ⟨_, _, _, _, ⟨st.rows.set k (st.rows.getD k [] ++ [i]), st.pr, hm'⟩, ads.set k b, rfl, ?_, g2, inv⟩
          rw [pe rfl, n2]
          show LI H _ R N M _ _ _ (plc fr (entsT (ts.take i) ++ [((wn : Int), e2)])) _
          rw [plc_snoc]
          exact f8
        | true =>
          refine iteF' rfl ?_
          obtain ⟨kv1, hN1, lN1, drN⟩ := f2.hN
          have gv : ((valV kv1 (Sum.inl (wn : Int) : Key)).getD (.int 0)) = .int (stt fr e2).1 := by
            rcases drN wn w8 with a | ⟨a, b⟩
            · rw [a, ← gp]
              rfl
            · rw [a, ← gp]
              show V.int 0 = V.int _
              rw [show (plc fr (entsT (ts.take i))).getD wn 0 = 0 from b]
          refine ⟨_, rfl, N, rfl, .inl ⟨_, .inl hN1⟩, _, rfl, _, DGet.k (k := (Sum.inl (wn : Int) : Key)) hN1, ?_⟩
          rw [gv]
          refine ⟨rfl, _, rfl, ?_⟩
          refine ite2 (fun y => ?_) (fun y => ?_)
          · have y1 : (stt fr e2).1 = 0 := V.int.inj (of_decide_eq_true y)
            have gT : goes fr (!true) ((wn : Int), e2) = true := decide_eq_true y1
            obtain ⟨kv0, h0, l0, _⟩ := f2.hM
            refine ⟨_, rfl, _, rfl, _, rfl, M, _, rfl, DPut.k (k := (Sum.inl (wn : Int) : Key)) h0 (by rw [sizeLine_eq]; omega), ?_⟩
            have hst : stepF fr (!true) st i (.ent ((wn : Int), e2)) = ⟨st.rows.set ((st.hm.set wn st.pr).getD wn 0) (st.rows.getD ((st.hm.set wn st.pr).getD wn 0) [] ++ [i]), st.pr, st.hm.set wn st.pr⟩ := by
              show Fst.mk _ _ _ = _
              rw [if_pos gT]
              rfl
            have wl : wn < st.hm.length := by rw [gd.l8]; exact w8
            have f4 := f2.home (v := st.pr) h0 wl
            have hvm : ∀ x, (upd HT M (.dK (putK kv0 (Sum.inl (wn : Int) : Key) (nI st.pr)))) M = some (.dK x) → valV x (.inl (wn : Int)) = some (nI ((st.hm.set wn st.pr).getD wn 0)) := fun x hx => by
              rw [upd_same] at hx
              cases hx
              rw [valV_put, if_pos rfl, List.getD_eq_getElem?_getD, List.getElem?_set, if_pos rfl, if_pos wl]
              rfl
            have hh : ∀ k ∈ st.hm.set wn st.pr, k < st.rows.length := fun k hk => by
              rcases mem_set hk with rfl | z
              · exact gd.p
              · exact gd.h k z
            have l8 : (st.hm.set wn st.pr).length = 8 := by rw [List.length_set]; exact gd.l8
            generalize st.hm.set wn st.pr = hm' at hst f4 hh l8 hvm
            generalize upd HT M (.dK (putK kv0 (Sum.inl (wn : Int) : Key) (nI st.pr))) = H4 at f4 hvm ⊢
            obtain ⟨kvM, hM, lM, _⟩ := f4.hM
            have hv := hvm _ hM
            have tk : hm'.getD wn 0 < st.rows.length := hh _ (getD_mem (by omega))
            generalize ek : hm'.getD wn 0 = k at tk hst hv
            have er : st.rows[k]? = some (st.rows.getD k []) := by
              rw [List.getD_eq_getElem?_getD, List.getElem?_eq_getElem tk]
              rfl
            have kl : k < ads.length := by rw [f2.len]; exact tk
            have ea : ads[k]? = some ads[k] := List.getElem?_eq_getElem kl
            have rl := (gd.r _ (getD_mem (d := []) tk)).1
            rw [hst] at g2 inv
            have dg : ∀ {Hx : Hp}, Hx M = some (.dK kvM) → DGet Hx M (.int (wn : Int)) (some (nI k)) := fun {Hx} e => by
              have z := DGet.k (k := (Sum.inl (wn : Int) : Key)) e
              rw [hv] at z
              exact z
            refine ⟨_, rfl, _, rfl, _, rfl, M, nI k, rfl, dg hM, R, _, (k : Int), .ref ads[k], rfl, rfl, SqL.of f4.r, atI_nat (by rw [List.getElem?_map, ea]; rfl), _, rfl, (by show 1 ≤ sizeLine; decide), fun z nz => ?_⟩
            have f5 := f4.mono (same_upd (o := HO.lst [nI i]) nz)
            have hM5 := same_upd (o := HO.lst [nI i]) nz _ _ hM
            refine ⟨ads[k], z, _, [nI i], rfl, rfl, f5.at_ _ _ _ ea er, upd_same, by rw [List.length_map, sizeLine_eq]; simp only [List.length_cons, List.length_nil]; omega, fun b nb => ?_⟩
            have ub := same_upd (o := HO.lst ((st.rows.getD k []).map nI ++ [nI i])) nb
            have f6 := f5.mono ub
            have hM6 := ub _ _ hM5
            have bR : b ≠ R := fun z => by
              rw [z, f5.r] at nb
              cases nb
            have ix : ixN (ads.map V.ref).length (k : Int) = some k := by
              unfold ixN
              rw [e1, if_pos (by omega), if_pos (by omega)]
              rfl
            refine ⟨_, rfl, _, rfl, _, rfl, M, nI k, rfl, dg hM6, R, _, (k : Int), k, rfl, rfl, f6.r, ix, ?_⟩
            have f7 := f6.set (p := k) (r := st.rows.getD k [] ++ [i]) (by rw [upd_same, List.map_append]; rfl) bR
            have hM7 : ∀ x, (upd (upd (upd H4 z (.lst [nI i])) b (.lst ((st.rows.getD k []).map nI ++ [nI i]))) R (.lst ((ads.map V.ref).set k (V.ref b)))) M = some (.dK x) → valV x (.inl (wn : Int)) = some (nI (hm'.getD wn 0)) := fun x hx => by
              have y : (upd (upd (upd H4 z (.lst [nI i])) b (.lst ((st.rows.getD k []).map nI ++ [nI i]))) R (.lst ((ads.map V.ref).set k (V.ref b)))) M = some (.dK kvM) := by
                rw [upd_ne (dk_ne f6.r hM6).symm]
                exact hM6
              rw [y] at hx
              cases hx
              rw [ek]
              exact hv
            generalize upd (upd (upd H4 z (.lst [nI i])) b (.lst ((st.rows.getD k []).map nI ++ [nI i]))) R (.lst ((ads.map V.ref).set k (V.ref b))) = H7 at f7 hM7 ⊢
            obtain ⟨fts, t2, hf, ha, h3, _⟩ := stt_at (fa.same f7.same) n0 n1
            obtain ⟨kvN, hN, lN, _⟩ := f7.hN
            refine ⟨_, rfl, _, rfl, f, _, e2, .ref t2, rfl, rfl, SqT.of hf, ha, t2, _, 2, _, rfl, rfl, SqT.of h3, atI_nat (j := 2) rfl, _, rfl, _, rfl, N, _, rfl, DPut.k (k := (Sum.inl (wn : Int) : Key)) hN (by rw [sizeLine_eq]; omega), ?_⟩
            have f8 := f7.now (v := (stt fr e2).2.2) hN (by rw [plc_len]; exact w8) hM7
            refine ⟨_, _, _, _, ⟨st.rows.set k (st.rows.getD k [] ++ [i]), st.pr, hm'⟩, ads.set k b, rfl, ?_, g2, inv⟩
            rw [pe rfl, n2]
            show LI H _ R N M _ _ _ (plc fr (entsT (ts.take i) ++ [((wn : Int), e2)])) _
            rw [plc_snoc]
            exact f8
          · have y1 : ¬ (stt fr e2).1 = 0 := fun z => y (decide_eq_true (congrArg V.int z))
            have gF : ¬ goes fr (!true) ((wn : Int), e2) = true := fun z => y1 (of_decide_eq_true z)
            have hst : stepF fr (!true) st i (.ent ((wn : Int), e2)) = ⟨st.rows.set (st.hm.getD wn 0) (st.rows.getD (st.hm.getD wn 0) [] ++ [i]), st.pr, st.hm⟩ := by
              show Fst.mk _ _ _ = _
              rw [if_neg gF]
              rfl
            have hvm : ∀ x, HT M = some (.dK x) → valV x (.inl (wn : Int)) = some (nI (st.hm.getD wn 0)) := fun x hx => by
              obtain ⟨kv0, h0, l0, dr⟩ := f2.hM
              rw [h0] at hx
              cases hx
              rcases dr wn w8 with a | ⟨_, b⟩
              · exact a
              · exact absurd (gp.symm.trans b) y1
            have f4 := f2.more
            have hh := gd.h
            have l8 := gd.l8
            generalize st.hm = hm' at hst f4 hh l8 hvm
            generalize HT = H4 at f4 hvm ⊢
            obtain ⟨kvM, hM, lM, _⟩ := f4.hM
            have hv := hvm _ hM
            have tk : hm'.getD wn 0 < st.rows.length := hh _ (getD_mem (by omega))
            generalize ek : hm'.getD wn 0 = k at tk hst hv
            have er : st.rows[k]? = some (st.rows.getD k []) := by
              rw [List.getD_eq_getElem?_getD, List.getElem?_eq_getElem tk]
              rfl
            have kl : k < ads.length := by rw [f2.len]; exact tk
            have ea : ads[k]? = some ads[k] := List.getElem?_eq_getElem kl
            have rl := (gd.r _ (getD_mem (d := []) tk)).1
            rw [hst] at g2 inv
            have dg : ∀ {Hx : Hp}, Hx M = some (.dK kvM) → DGet Hx M (.int (wn : Int)) (some (nI k)) := fun {Hx} e => by
              have z := DGet.k (k := (Sum.inl (wn : Int) : Key)) e
              rw [hv] at z
              exact z
            refine ⟨_, rfl, _, rfl, _, rfl, M, nI k, rfl, dg hM, R, _, (k : Int), .ref ads[k], rfl, rfl, SqL.of f4.r, atI_nat (by rw [List.getElem?_map, ea]; rfl), _, rfl, (by show 1 ≤ sizeLine; decide), fun z nz => ?_⟩
            have f5 := f4.mono (same_upd (o := HO.lst [nI i]) nz)
            have hM5 := same_upd (o := HO.lst [nI i]) nz _ _ hM
            refine ⟨ads[k], z, _, [nI i], rfl, rfl, f5.at_ _ _ _ ea er, upd_same, by rw [List.length_map, sizeLine_eq]; simp only [List.length_cons, List.length_nil]; omega, fun b nb => ?_⟩
            have ub := same_upd (o := HO.lst ((st.rows.getD k []).map nI ++ [nI i])) nb
            have f6 := f5.mono ub
            have hM6 := ub _ _ hM5
            have bR : b ≠ R := fun z => by
              rw [z, f5.r] at nb
              cases nb
            have ix : ixN (ads.map V.ref).length (k : Int) = some k := by
              unfold ixN
              rw [e1, if_pos (by omega), if_pos (by omega)]
              rfl
            refine ⟨_, rfl, _, rfl, _, rfl, M, nI k, rfl, dg hM6, R, _, (k : Int), k, rfl, rfl, f6.r, ix, ?_⟩
            have f7 := f6.set (p := k) (r := st.rows.getD k [] ++ [i]) (by rw [upd_same, List.map_append]; rfl) bR
            have hM7 : ∀ x, (upd (upd (upd H4 z (.lst [nI i])) b (.lst ((st.rows.getD k []).map nI ++ [nI i]))) R (.lst ((ads.map V.ref).set k (V.ref b)))) M = some (.dK x) → valV x (.inl (wn : Int)) = some (nI (hm'.getD wn 0)) := fun x hx => by
              have y : (upd (upd (upd H4 z (.lst [nI i])) b (.lst ((st.rows.getD k []).map nI ++ [nI i]))) R (.lst ((ads.map V.ref).set k (V.ref b)))) M = some (.dK kvM) := by
                rw [upd_ne (dk_ne f6.r hM6).symm]
                exact hM6
              rw [y] at hx
              cases hx
              rw [ek]
              exact hv
            generalize upd (upd (upd H4 z (.lst [nI i])) b (.lst ((st.rows.getD k []).map nI ++ [nI i]))) R (.lst ((ads.map V.ref).set k (V.ref b))) = H7 at f7 hM7 ⊢
            obtain ⟨fts, t2, hf, ha, h3, _⟩ := stt_at (fa.same f7.same) n0 n1
            obtain ⟨kvN, hN, lN, _⟩ := f7.hN
            refine ⟨_, rfl, _, rfl, f, _, e2, .ref t2, rfl, rfl, SqT.of hf, ha, t2, _, 2, _, rfl, rfl, SqT.of h3, atI_nat (j := 2) rfl, _, rfl, _, rfl, N, _, rfl, DPut.k (k := (Sum.inl (wn : Int) : Key)) hN (by rw [sizeLine_eq]; omega), ?_⟩
            have f8 := f7.now (v := (stt fr e2).2.2) hN (by rw [plc_len]; exact w8) hM7
            refine ⟨_, _, _, _, ⟨st.rows.set k (st.rows.getD k [] ++ [i]), st.pr, hm'⟩, ads.set k b, rfl, ?_, g2, inv⟩
            rw [pe rfl, n2]
            show LI H _ R N M _ _ _ (plc fr (entsT (ts.take i) ++ [((wn : Int), e2)])) _
            rw [plc_snoc]
            exact f8
    · rintro σ HE ⟨v7, v8, v9, v10, st, ads, rfl, fi, gd, inv⟩
      have e0 : ts.drop xs.length = [] := by
        rw [tl]
        exact List.drop_length
      rw [e0] at inv
      have e : rowsF fr (!byL) ts = st.rows := congrArg Fst.rows inv
      refine ⟨_, rfl, q HE R fi.same fi.nR ?_⟩
      rw [e]
      exact fi.ra
end
end K41

set_option Elab.async false
set_option linter.all false
set_option maxRecDepth 100000
set_option maxHeartbeats 4000000
/-! _law_fates. -/
namespace K41
open PySem L2 L2.EV
abbrev sFatesL : Stmt := top 50
def stR (fr : List T3) (ts : List Tn) (a : List (List Nat) × List Nat) (k : Nat) : List (List Nat) × List Nat := if ends fr (entAt ts k) = true then (a.1 ++ [a.2 ++ [k]], []) else (a.1, a.2 ++ [k])
def splR (fr : List T3) (ts : List Tn) (r : List Nat) : List (List Nat) × List Nat := r.foldl (stR fr ts) ([], [])
theorem splR_snoc {fr : List T3} {ts : List Tn} (r : List Nat) (k : Nat) : splR fr ts (r ++ [k]) = stR fr ts (splR fr ts r) k := by
  unfold splR
  rw [List.foldl_append]
  rfl
def readsF (fr : List T3) (ts : List Tn) (rows : List (List Nat)) : List (List Nat) := rows.flatMap fun r => (splR fr ts r).1
def fateL (line : List Nat) (rows : List (List Nat)) (reads : List (List Nat)) : Str :=
  let c := (reads.filter fun o => decide (o = line)).length
  if c = 1 then "kept" else if c = 0 then (if (line.filter fun n => !(rows.filter fun r => decide (n ∈ r)).isEmpty) ≠ [] then "torn" else "lost") else "doubled"
def fatesL (fr : List T3) (ts : List Tn) (rows : List (List Nat)) : List Str := (endedF fr ts).map fun l => fateL l rows (readsF fr ts rows)
def spFatesL : Sp := fun vs H Q _ => ∃ (f w p : Addr) (fr : List T3) (last : Nat) (ts : List Tn) (rows : List (List Nat)), vs = [.ref f, .ref w, .ref p] ∧ FrA H f fr ∧ Frm fr last ∧ ThA H w ts ∧ ts.length ≤ 200 ∧ (∀ e, Tn.ent e ∈ ts → Ent fr e) ∧ RowsA H p rows ∧ EnR ts rows ∧ rows.length ≤ 201 ∧ (∀ r ∈ rows, r.length ≤ 200) ∧
  ∀ H' z, Same H H' → H' z = some (.tup ((fatesL fr ts rows).map V.str)) → Q (.ref z) H'
structure Lft (K : PySem.W.Frag) (mg : Str → Option Value) where
  f : Addr
  d : FuncData
  F : Fun K "_law_fates" "_law_fates" sFatesL f d
  b : Binds K d ["framing", "thing", "stacks"] []
  m : mg "_law_fates" = some (.ref f)
  en : mg "enumerate" = none
  len : mg "len" = none
  isi : mg "isinstance" = none
  tu : mg "tuple" = none
abbrev NFl : List Str := ["framing", "thing", "stacks", "read", "begun", "found", "stack", "rest", "place", "one", "line", "own", "total", "there", "word"]
abbrev scOwn : Scope := { kind := .function, names := [(".0", .local), ("own", .cell), ("stacks", .cell)], isGenerator := false, isCoroutine := false }
/-- lists of these numbers -/
def ListsA (H : Hp) (as : List Addr) (rs : List (List Nat)) : Prop := as.length = rs.length ∧ ∀ (i : Nat) a r, as[i]? = some a → rs[i]? = some r → H a = some (.lst (r.map nI))
theorem ListsA.same {H H' : Hp} {as : List Addr} {rs : List (List Nat)} (h : ListsA H as rs) (s : Same H H') : ListsA H' as rs := ⟨h.1, fun i a r h1 h2 => s _ _ (h.2 i a r h1 h2)⟩
theorem ListsA.upd {H : Hp} {as : List Addr} {rs : List (List Nat)} {D : Addr} {o : HO} (h : ListsA H as rs) (nd : ∀ a ∈ as, a ≠ D) : ListsA (upd H D o) as rs := ⟨h.1, fun i a r h1 h2 => by
  rw [upd_ne (nd a (List.mem_of_getElem? h1))]
  exact h.2 i a r h1 h2⟩
theorem ListsA.snoc {H : Hp} {as : List Addr} {rs : List (List Nat)} {a : Addr} {r : List Nat} (h : ListsA H as rs) (e : H a = some (.lst (r.map nI))) : ListsA H (as ++ [a]) (rs ++ [r]) := by
  refine ⟨by rw [List.length_append, List.length_append, h.1]; rfl, fun i b q h1 h2 => ?_⟩
  by_cases c : i < as.length
  · rw [List.getElem?_append_left c] at h1
    rw [List.getElem?_append_left (by rw [← h.1]; exact c)] at h2
    exact h.2 i b q h1 h2
  · have : i = as.length := by
      have := (List.getElem?_eq_some_iff.mp h1).1
      rw [List.length_append] at this
      simp only [List.length_cons, List.length_nil] at this
      omega
    subst this
    rw [List.getElem?_append_right (Nat.le_refl _), Nat.sub_self] at h1
    rw [h.1, List.getElem?_append_right (Nat.le_refl _), Nat.sub_self] at h2
    cases h1
    cases h2
    exact e
/-- while the lines are read -/
structure P1 (H H' : Hp) (D B F : Addr) (as : List Addr) (rs : List (List Nat)) : Prop where
  same : Same H H'
  d : H' D = some (.lst (as.map V.ref))
  la : ListsA H' as rs
  nd : ∀ a ∈ as, a ≠ D ∧ a ≠ F
  b : H' B = some (.dK [])
  f : H' F = some (.lst [])
  nD : H D = none
  nB : H B = none
  nF : H F = none
  ne : D ≠ F
theorem P1.mono {H H' H'' : Hp} {D B F : Addr} {as : List Addr} {rs : List (List Nat)} (h : P1 H H' D B F as rs) (k : Same H' H'') : P1 H H'' D B F as rs :=
  ⟨h.same.trans k, k _ _ h.d, h.la.same k, h.nd, k _ _ h.b, k _ _ h.f, h.nD, h.nB, h.nF, h.ne⟩
theorem P1.push {H H' : Hp} {D B F a : Addr} {as : List Addr} {rs : List (List Nat)} {r : List Nat} (h : P1 H H' D B F as rs) (e : H' a = some (.lst (r.map nI))) (n : a ≠ D ∧ a ≠ F) :
    P1 H (L2.upd H' D (.lst (as.map V.ref ++ [.ref a]))) D B F (as ++ [a]) (rs ++ [r]) := by
  refine ⟨fun c o z => ?_, by rw [List.map_append]; exact upd_same, ?_, fun x hx => ?_, ?_, ?_, h.nD, h.nB, h.nF, h.ne⟩
  · rw [upd_ne (ne_of_none z h.nD)]
    exact h.same _ _ z
  · refine (h.la.snoc e).upd fun x hx => ?_
    rcases List.mem_append.mp hx with z | z
    · exact (h.nd x z).1
    · rw [List.mem_singleton.mp z]
      exact n.1
  · rcases List.mem_append.mp hx with z | z
    · exact h.nd x z
    · rw [List.mem_singleton.mp z]
      exact n
  · rw [upd_ne (dk_ne h.d h.b).symm]
    exact h.b
  · rw [upd_ne h.ne.symm]
    exact h.f
/-- while the fates are told -/
structure P2 (H H' : Hp) (D B F : Addr) (as : List Addr) (rs bg : List (List Nat)) (ss : List Str) (n : Nat) : Prop where
  same : Same H H'
  d : H' D = some (.lst (as.map V.ref))
  la : ListsA H' as rs
  nd : ∀ a ∈ as, a ≠ F
  b : ∃ kvs, H' B = some (.dK kvs) ∧ kvs.length ≤ n ∧ ∀ w : Nat, w < 8 → (∃ a, valV kvs (.inl (w : Int)) = some (.ref a) ∧ H' a = some (.lst ((bg.getD w []).map nI)) ∧ a ≠ F) ∨ (valV kvs (.inl (w : Int)) = none ∧ bg.getD w [] = [])
  f : H' F = some (.lst (ss.map V.str))
  nB : H B = none
  nF : H F = none
  ne : D ≠ F
theorem P2.mono {H H' H'' : Hp} {D B F : Addr} {as : List Addr} {rs bg : List (List Nat)} {ss : List Str} {n : Nat} (h : P2 H H' D B F as rs bg ss n) (k : Same H' H'') : P2 H H'' D B F as rs bg ss n := by
  obtain ⟨kvs, b1, b2, b3⟩ := h.b
  refine ⟨h.same.trans k, k _ _ h.d, h.la.same k, h.nd, ⟨kvs, k _ _ b1, b2, fun w w8 => ?_⟩, k _ _ h.f, h.nB, h.nF, h.ne⟩
  rcases b3 w w8 with ⟨a, x, y, z⟩ | x
  · exact .inl ⟨a, x, k _ _ y, z⟩
  · exact .inr x
theorem P2.put {H H' : Hp} {D B F a : Addr} {as : List Addr} {rs bg : List (List Nat)} {ss : List Str} {n w : Nat} {r : List Nat} {kvs : List (Key × V)} (h : P2 H H' D B F as rs bg ss n) (eb : H' B = some (.dK kvs)) (e : H' a = some (.lst (r.map nI))) (ne : a ≠ F) (hw : w < bg.length) :
    P2 H (L2.upd H' B (.dK (putK kvs (.inl (w : Int)) (.ref a)))) D B F as rs (bg.set w r) ss (n + 1) := by
  obtain ⟨kv, b1, b2, b3⟩ := h.b
  rw [eb] at b1
  cases b1
  have kp : ∀ {x : Addr} {xs : List V}, H' x = some (.lst xs) → L2.upd H' B (.dK (putK kvs (.inl (w : Int)) (.ref a))) x = some (.lst xs) := fun {x xs} z => by
    rw [upd_ne (dk_ne z eb)]
    exact z
  refine ⟨fun c o z => ?_, kp h.d, ⟨h.la.1, fun i x q h1 h2 => kp (h.la.2 i x q h1 h2)⟩, h.nd, ⟨_, upd_same, ?_, fun x x8 => ?_⟩, kp h.f, h.nB, h.nF, h.ne⟩
  · rw [upd_ne (ne_of_none z h.nB)]
    exact h.same _ _ z
  · have := length_putK kvs (Sum.inl (w : Int) : Key) (V.ref a)
    omega
  · rw [valV_put]
    by_cases c : x = w
    · subst c
      rw [if_pos rfl]
      refine .inl ⟨a, rfl, ?_, ne⟩
      rw [List.getD_eq_getElem?_getD, List.getElem?_set, if_pos rfl, if_pos hw]
      exact kp e
    · have ne2 : ¬ (Sum.inl (x : Int) : Key) = .inl (w : Int) := fun e => c (by
        have := Sum.inl.inj e
        omega)
      rw [if_neg ne2]
      have gt : (bg.set w r).getD x [] = bg.getD x [] := by
        rw [List.getD_eq_getElem?_getD, List.getElem?_set, if_neg (fun z => c z.symm), ← List.getD_eq_getElem?_getD]
      rw [gt]
      rcases b3 x x8 with ⟨y, h1, h2, h3⟩ | h1
      · exact .inl ⟨y, h1, kp h2, h3⟩
      · exact .inr h1
theorem P2.push {H H' : Hp} {D B F : Addr} {as : List Addr} {rs bg : List (List Nat)} {ss : List Str} {n : Nat} {s : Str} (h : P2 H H' D B F as rs bg ss n) : P2 H (L2.upd H' F (.lst (ss.map V.str ++ [.str s]))) D B F as rs bg (ss ++ [s]) n := by
  obtain ⟨kvs, b1, b2, b3⟩ := h.b
  refine ⟨fun c o z => ?_, by rw [upd_ne h.ne]; exact h.d, h.la.upd h.nd, h.nd, ⟨kvs, by rw [upd_ne (dk_ne h.f b1).symm]; exact b1, b2, fun w w8 => ?_⟩, by rw [List.map_append]; exact upd_same, h.nB, h.nF, h.ne⟩
  · rw [upd_ne (ne_of_none z h.nF)]
    exact h.same _ _ z
  · rcases b3 w w8 with ⟨a, x, y, z⟩ | x
    · exact .inl ⟨a, x, by rw [upd_ne z]; exact y, z⟩
    · exact .inr x
/-- lists of numbers as data -/
def dLs (r : List Nat) : PyData := .list (r.map fun n : Nat => .int (n : Int))
theorem eqv_dLs {a b : List Nat} : PyData.eqv (dLs a) (dLs b) = decide (a = b) := by
  have z := eqv_dN (a := a) (b := b)
  unfold dN at z
  rw [PyData.eqv] at z
  unfold dLs
  rw [PyData.eqv]
  exact z
theorem da_dLs {H : Hp} {a : Addr} {r : List Nat} (e : H a = some (.lst (r.map nI))) : Da H (.ref a) (dLs r) := .lst e (da_ints r)
theorem sh_dLs (r : List Nat) : SeqAt.shaped (dLs r) = true := by
  obtain ⟨a, b⟩ := lay_ints r
  show (PyData.canLay0 (dLs r) && decide (PyData.depth (dLs r) ≤ 64)) = true
  rw [Bool.and_eq_true]
  refine ⟨by unfold dLs; simp only [PyData.canLay0]; exact a, decide_eq_true ?_⟩
  unfold dLs
  simp only [PyData.depth]
  omega
theorem lay_dLss : ∀ rs : List (List Nat), PyData.canLayAll0 (rs.map dLs) = true ∧ PyData.depthAll (rs.map dLs) ≤ 1
  | [] => ⟨by simp [PyData.canLayAll0], by simp [PyData.depthAll]⟩
  | r :: rs => by
    obtain ⟨a, b⟩ := lay_dLss rs
    obtain ⟨c, d⟩ := lay_ints r
    refine ⟨by simp [PyData.canLayAll0, dLs, PyData.canLay0, a, c], ?_⟩
    simp only [List.map_cons, PyData.depthAll, dLs, PyData.depth]
    omega
theorem sh_dLss (rs : List (List Nat)) : SeqAt.shaped (.list (rs.map dLs)) = true := by
  obtain ⟨a, b⟩ := lay_dLss rs
  show (PyData.canLay0 (.list (rs.map dLs)) && decide (PyData.depth (.list (rs.map dLs)) ≤ 64)) = true
  rw [Bool.and_eq_true]
  refine ⟨by simp only [PyData.canLay0]; exact a, decide_eq_true ?_⟩
  simp only [PyData.depth]
  omega
theorem eqv_nilL (xs : List PyData) : PyData.eqv (.list xs) (.list []) = xs.isEmpty := by
  cases xs <;> simp [PyData.eqv, PyData.eqvAll]
theorem sh_nilL : SeqAt.shaped (.list []) = true := by decide +kernel
section
variable {P : Program} {w : World} {K : PySem.W.Frag} {mg : Str → Option Value} {base : Heap}
theorem scFatesL : FnScope NFl ["framing", "thing", "stacks"] (defScope sFatesL) := ⟨rfl, rfl, rfl, by decide +kernel, rfl, by decide +kernel, by decide +kernel⟩
theorem ok_fatesL (L : Lft K mg) : FnOk P w K mg base CX0 1 L.f L.d ["framing", "thing", "stacks"] spFatesL := by
  refine L.F.ok scFatesL (fun vs H Q E h => ?_) (fun cdv A outer s H vs Q E hr h => ?_)
  · obtain ⟨f, w, p, fr, last, ts, rows, rfl, _⟩ := h
    rfl
  · obtain ⟨f, w, p, fr, last, ts, rows, rfl, fa, fm, ta, l200, ent, rA, en, rl, rr, q⟩ := h
    have hu64 := hr.units
    have hu := hu_of hr
    refine ⟨_, pss_cons (ps_par3 (i := 3) (j := 4) (l := 5) (x := "read") (y := "begun") (z := "found") rfl scFatesL.nd rfl rfl rfl (by decide) (by decide) (by decide) rfl rfl rfl (pa_cons (pe_lst pa_nil) (pa_cons pe_dnewK (pa_cons (pe_lst pa_nil) pa_nil))) (by rfl))
      (pss_cons (ps_for PassesOwn.never rfl (pi_list (pv 2)) (pg_name (i := 6) scFatesL.nd rfl (Or.inl rfl))
        (pss_cons (ps_set (i := 7) scFatesL.nd rfl (Or.inl rfl) (pe_lst pa_nil))
        (pss_one (ps_for PassesOwn.never rfl (pi_list (pv 6)) (pg_name (i := 8) scFatesL.nd rfl (Or.inl rfl))
          (pss_cons (ps_set (i := 7) scFatesL.nd rfl (Or.inl rfl) (pe_op op_cat (pv 7) (pe_lst (pa_cons (pv 8) pa_nil))))
          (pss_one (ps_if (pt_cmpR op_eq (pe_ix ix_str (pe_ix ix_tup (pe_ix ix_tup (pv 0) (pe_ix ix_tup (pe_ix ix_tup (pv 1) (pv 8) (fun _ _ => rfl)) pe_int (fun _ _ => rfl)) (fun _ _ => rfl)) pe_int (fun _ _ => rfl)) (pe_un un_neg pe_int) (fun _ _ => rfl)) pe_str (nomark _))
            (pss_cons (ps_expr (pe_bm PySem.F.plainAttrs_list PySem.F.slot_list_append PySem.F.type_list_append mt_append (pv 3) (pa_cons (pv 7) pa_nil)))
              (pss_one (ps_set (i := 7) scFatesL.nd rfl (Or.inl rfl) (pe_lst pa_nil)))) pss_nil)))))))
      (pss_cons (ps_for PassesOwn.never rfl (pi_enumT (by rfl) L.en (pa_cons (pv 1) pa_nil)) (pg_tup rfl (pgs_cons (pg_name (i := 8) scFatesL.nd rfl (Or.inl rfl)) (pgs_cons (pg_name (i := 9) scFatesL.nd rfl (Or.inl rfl)) pgs_nil)))
        (pss_one (ps_if (pt_val (pe_callB call_isi (by rfl) L.isi PyProof.Rows.boot_isinstance (pa_cons (pv 9) (pa_cons (pe_bltn (v := .ty "tuple") (by rfl) L.tu (by decide +kernel) rfl) pa_nil))))
          (pss_cons (ps_dput hu (pv 4) (pe_ix ix_tup (pv 9) pe_int (fun _ _ => rfl)) (pe_op op_cat (pe_dget2 hu (pv 4) (pe_ix ix_tup (pv 9) pe_int (fun _ _ => rfl)) (pe_lst pa_nil) ⟨rfl, rfl, rfl, rfl⟩) (pe_lst (pa_cons (pv 8) pa_nil))) rfl)
          (pss_one (ps_if (pt_cmpR op_eq (pe_ix ix_str (pe_ix ix_tup (pe_ix ix_tup (pv 0) (pe_ix ix_tup (pv 9) pe_int (fun _ _ => rfl)) (fun _ _ => rfl)) pe_int (fun _ _ => rfl)) (pe_un un_neg pe_int) (fun _ _ => rfl)) pe_str (nomark _))
            (pss_cons (ps_set (i := 10) scFatesL.nd rfl (Or.inr rfl) (pe_dget hu (pv 4) (pe_ix ix_tup (pv 9) pe_int (fun _ _ => rfl)) (fun _ _ => rfl)))
            (pss_cons (ps_dput hu (pv 4) (pe_ix ix_tup (pv 9) pe_int (fun _ _ => rfl)) (pe_lst pa_nil) rfl)
            (pss_cons (ps_set (i := 12) scFatesL.nd rfl (Or.inl rfl) (pe_callB call_len_seq (by rfl) L.len PySem.boot_len (pa_cons (pe_lc (own := [("own", 11)]) (g := gName 11) (tt := tTest (tOp (rEqD K) (tVar 11) (tVar 10))) (te := tVar 11) rfl scFatesL.nd (pi_list (pv 3))
              (blkOk_by (N := NFl) (sc := defScope sFatesL) (by decide +kernel))
              (fun _ _ _ _ _ => pg_name (i := 11) scFatesL.nd rfl (Or.inl rfl)) (fun _ _ _ _ _ => pts_one (pt_cmpR (op_eqD hu64) (pv 11) (pv 10) (nomark _))) (fun _ _ _ _ _ => pv 11)) pa_nil)))
            (pss_cons (ps_setLc (i := 13) (y := "there") (own := [("own", 11)]) (g := gName 11) (tt := tTest (tOp (rNeD K) (tLc (iList K (tVar 2)) (gName 6) (tTest (tOp (rIn K false) (tVar 11) (tVar 6))) (tVar 6) [6]) (tLst tNil))) (te := tVar 11) rfl scFatesL.nd rfl rfl (by rfl) (pi_list (pv 10))
              (blkOk_by (N := NFl) (sc := defScope sFatesL) (by decide +kernel))
              (fun _ _ _ _ _ => pg_name (i := 11) scFatesL.nd rfl (Or.inr rfl)) (fun _ _ _ _ _ => pts_one (pt_cmpR (op_neD hu64) (pe_lc (own := [("stack", 6)]) (g := gName 6) (tt := tTest (tOp (rIn K false) (tVar 11) (tVar 6))) (te := tVar 6) rfl scFatesL.nd (pi_list (pv 2))
                (blkOk_by (N := NFl) (sc := scOwn) (by decide +kernel))
                (fun _ _ _ _ _ => pg_name (i := 6) scFatesL.nd rfl (Or.inl rfl)) (fun _ _ _ _ _ => pts_one (pt_cmpR op_in_seq (pv 11) (pv 6) (by rfl))) (fun _ _ _ _ _ => pv 6)) (pe_lst pa_nil) (nomark _))) (fun _ _ _ _ _ => pv 11))
            (pss_cons (ps_set (i := 14) scFatesL.nd rfl (Or.inl rfl) (pe_ifExp (pt_cmpR (op_neD hu64) (pv 13) (pe_lst pa_nil) (nomark _)) pe_str pe_str))
            (pss_one (ps_expr (pe_bm PySem.F.plainAttrs_list PySem.F.slot_list_append PySem.F.type_list_append mt_append (pv 5) (pa_cons (pe_ix ix_list (pe_lst (pa_cons pe_str (pa_cons pe_str (pa_cons (pv 14) pa_nil)))) (pe_ifExp (pt_cmpR op_eq (pv 12) pe_int (nomark _)) pe_int (pe_ifExp (pt_cmpR op_eq (pv 12) pe_int (nomark _)) pe_int pe_int)) (fun _ _ => rfl)) pa_nil))))))))) pss_nil))) pss_nil)))
      (pss_one (ps_ret (pe_callTy call_tuple_of (by rfl) L.tu (by decide +kernel) (pa_cons (pv 5) pa_nil)))))), ?_⟩
    obtain ⟨xs, hw, tx⟩ := id ta
    have tl := tx.len
    obtain ⟨ads, hp, al, aa⟩ := id rA
    refine ⟨(by show 0 ≤ sizeLine; decide), fun D nD => fun B nB => ⟨(by show 0 ≤ sizeLine; decide), fun F nF => ⟨_, _, _, rfl, ?_⟩⟩⟩
    have uD := same_upd (o := HO.lst []) nD
    have uB := same_upd (o := HO.dK []) nB
    have uF := same_upd (o := HO.lst []) nF
    have p0 : P1 H (upd (upd (upd H D (.lst [])) B (.dK [])) F (.lst [])) D B F [] [] := by
      have up : ∀ {a : Addr} {H0 H1 : Hp}, Same H0 H1 → H1 a = none → H0 a = none := fun {a H0 H1} s n => by
        cases e : H0 a with
        | none => rfl
        | some o =>
          rw [s _ _ e] at n
          cases n
      refine ⟨uD.trans (uB.trans uF), (uB.trans uF) _ _ upd_same, ⟨rfl, fun i a r h => by cases h⟩, (fun a h => by cases h), uF _ _ upd_same, upd_same, nD, up uD nB, up (uD.trans uB) nF, fun z => ?_⟩
      rw [← z, uB _ _ upd_same] at nF
      cases nF
    clear uD uB uF nD nB nF
    generalize upd (upd (upd H D (.lst [])) B (.dK [])) F (.lst []) = HS at p0 ⊢
    refine ⟨_, rfl, p, rfl, ⟨_, SqL.of (p0.same _ _ hp)⟩, for_it (walk_list (xs := ads.map V.ref)) (fun i σ H' => ∃ (v6 v7 v8 : Option V) (as : List Addr), σ = [some (.ref f), some (.ref w), some (.ref p), some (.ref D), some (.ref B), some (.ref F), v6, v7, v8, none, none, none, none, none, none] ∧ P1 H H' D B F as (readsF fr ts (rows.take i)) ∧ as.length ≤ 200 * i)
      ⟨none, none, none, [], rfl, p0, Nat.zero_le _⟩ (fun i σ H' _ ⟨_, _, _, _, _, z, _⟩ => SqL.of (z.same _ _ hp)) ?_ ?_⟩
    · rintro i x σ H1z H1 hi ⟨v6, v7, v8, as, rfl, pi, asl⟩ ⟨rfl, hx⟩
      rw [List.length_map] at hi
      have ha : ads[i]? = some ads[i] := List.getElem?_eq_getElem hi
      rw [List.getElem?_map, ha] at hx
      obtain rfl : V.ref ads[i] = x := Option.some.inj hx
      have hrw : rows[i]? = some rows[i] := List.getElem?_eq_getElem (by omega)
      have hc := aa i _ _ ha hrw
      have rm := List.mem_of_getElem? hrw
      have r2 := rr _ rm
      have re := en _ rm
      have rdE : readsF fr ts (rows.take (i + 1)) = readsF fr ts (rows.take i) ++ (splR fr ts rows[i]).1 := by
        rw [take_snoc hrw]
        unfold readsF
        rw [List.flatMap_append]
        simp
      generalize rows[i] = r at hrw hc rm r2 re rdE
      refine ⟨(by show 0 ≤ sizeLine; decide), fun R nR => ?_⟩
      have p1 := pi.mono (same_upd (o := HO.lst []) nR)
      have RD : R ≠ D := fun z => by
        rw [z, pi.d] at nR
        cases nR
      have RF : R ≠ F := fun z => by
        rw [z, pi.f] at nR
        cases nR
      refine ⟨_, rfl, ads[i], rfl, ⟨_, SqL.of (p1.same _ _ hc)⟩, for_it (walk_list (xs := r.map nI)) (fun j σ H' => ∃ (v8 : Option V) (R : Addr) (as : List Addr), σ = [some (.ref f), some (.ref w), some (.ref p), some (.ref D), some (.ref B), some (.ref F), some (.ref ads[i]), some (.ref R), v8, none, none, none, none, none, none] ∧ P1 H H' D B F as (readsF fr ts (rows.take i) ++ (splR fr ts (r.take j)).1) ∧ as.length ≤ 200 * i + j ∧ H' R = some (.lst ((splR fr ts (r.take j)).2.map nI)) ∧ R ≠ D ∧ R ≠ F ∧ (splR fr ts (r.take j)).2.length ≤ j)
        ⟨_, R, as, rfl, by show P1 H _ D B F as (_ ++ []); rw [List.append_nil]; exact p1, by omega, upd_same, RD, RF, Nat.zero_le _⟩ (fun j σ H' _ ⟨_, _, _, _, z, _⟩ => SqL.of (z.same _ _ hc)) ?_ ?_⟩
      · rintro j x σ H2z H2 hj ⟨v8, R, as, rfl, pj, asl, hR, RD, RF, sl2⟩ ⟨rfl, hx⟩
        rw [List.length_map] at hj
        have hk : r[j]? = some r[j] := List.getElem?_eq_getElem hj
        rw [List.getElem?_map, hk] at hx
        obtain rfl : nI r[j] = x := Option.some.inj hx
        obtain ⟨e, he⟩ := re _ (List.mem_of_getElem? hk)
        obtain ⟨y, hy, yA⟩ := tx.at' he
        cases yA with
        | @ent tp _ a4 =>
        have ee : entAt ts r[j] = e := entAt_of he
        have tk : r.take (j + 1) = r.take j ++ [r[j]] := take_snoc hk
        have sps : splR fr ts (r.take (j + 1)) = stR fr ts (splR fr ts (r.take j)) r[j] := by rw [tk, splR_snoc]
        obtain ⟨e0, e1, n0, n1⟩ := ent e (List.mem_of_getElem? he)
        generalize splR fr ts (r.take j) = sp at pj hR sps sl2
        refine ⟨_, rfl, _, rfl, (by show 1 ≤ sizeLine; decide), fun z nz => ?_⟩
        have p2 := pj.mono (same_upd (o := HO.lst [nI r[j]]) nz)
        have hR2 := same_upd (o := HO.lst [nI r[j]]) nz _ _ hR
        refine ⟨R, z, _, [nI r[j]], rfl, rfl, hR2, upd_same, by rw [List.length_map, sizeLine_eq]; simp only [List.length_cons, List.length_nil]; omega, fun b nb => ?_⟩
        have p3 := p2.mono (same_upd (o := HO.lst (sp.2.map nI ++ [nI r[j]])) nb)
        have bD : b ≠ D := fun z => by
          rw [z, p2.d] at nb
          cases nb
        have bF : b ≠ F := fun z => by
          rw [z, p2.f] at nb
          cases nb
        have hb : (upd (upd H2 z (.lst [nI r[j]])) b (.lst (sp.2.map nI ++ [nI r[j]]))) b = some (.lst ((sp.2 ++ [r[j]]).map nI)) := by
          rw [List.map_append]
          exact upd_same
        generalize upd (upd H2 z (.lst [nI r[j]])) b (.lst (sp.2.map nI ++ [nI r[j]])) = H3 at p3 hb ⊢
        obtain ⟨fts, t2, hf, hat, h3, hm⟩ := stt_at (fa.same p3.same) n0 n1
        have hpc := (fm.stp _ hm).2.2.1
        obtain ⟨ch, hch, hdec⟩ := pc_lastc hpc
        have p8 := (pc_len hpc).2
        refine ⟨_, rfl, _, rfl, _, rfl, w, xs, (r[j] : Nat), .ref tp, rfl, rfl, SqT.of (p3.same _ _ hw), atI_nat hy, tp, _, 1, _, rfl, rfl, SqT.of (p3.same _ _ a4), atI_nat (j := 1) rfl, f, _, e.2, .ref t2, rfl, rfl, SqT.of hf, hat, t2, _, 1, _, rfl, rfl, SqT.of h3, atI_nat (j := 1) rfl, 1, rfl, _, -1, ch, rfl, rfl, by rw [sizeLine_eq]; omega, hch, rfl, _, rfl, ?_⟩
        rw [hdec]
        have ll : (sp.2 ++ [r[j]]).length ≤ j + 1 := by
          rw [List.length_append]
          simp only [List.length_cons, List.length_nil]
          omega
        refine ite2 (fun y => ?_) (fun y => ?_)
        · have en : ends fr (entAt ts r[j]) = true := by rw [ee]; exact y
          have s1 : splR fr ts (r.take (j + 1)) = (sp.1 ++ [sp.2 ++ [r[j]]], []) := by rw [sps]; exact if_pos en
          refine ⟨_, rfl, .inl ⟨rfl, _, SqL.of p3.d⟩, _, rfl, D, _, _, rfl, rfl, p3.d, by rw [List.length_map, sizeLine_eq]; omega, ?_⟩
          have p4 := p3.push hb ⟨bD, bF⟩
          refine ⟨(by show 0 ≤ sizeLine; decide), fun R2 nR2 => ?_⟩
          have p5 := p4.mono (same_upd (o := HO.lst []) nR2)
          refine ⟨_, R2, as ++ [b], rfl, ?_, by rw [List.length_append]; simp only [List.length_cons, List.length_nil]; omega, by rw [s1]; exact upd_same, fun z => ?_, fun z => ?_, by rw [s1]; exact Nat.zero_le _⟩
          · rw [s1]
            show P1 H _ D B F (as ++ [b]) (_ ++ (sp.1 ++ [sp.2 ++ [r[j]]]))
            rw [← List.append_assoc]
            exact p5
          · rw [z, p4.d] at nR2
            cases nR2
          · rw [z, p4.f] at nR2
            cases nR2
        · have en : ¬ ends fr (entAt ts r[j]) = true := by rw [ee]; exact y
          have s1 : splR fr ts (r.take (j + 1)) = (sp.1, sp.2 ++ [r[j]]) := by rw [sps]; exact if_neg en
          refine ⟨_, b, as, rfl, ?_, by omega, ?_, bD, bF, ?_⟩
          · rw [s1]
            exact p3
          · rw [s1]
            exact hb
          · rw [s1]
            exact ll
      · rintro σ H2 ⟨v8, R, as, rfl, pj, asl, hR, RD, RF, sl2⟩
        rw [List.length_map, List.take_length] at pj
        rw [List.length_map] at asl
        refine ⟨_, _, _, as, rfl, by rw [rdE]; exact pj, by omega⟩
    · rintro σ H1 ⟨v6, v7, v8, as, rfl, pi, asl⟩
      rw [List.length_map] at pi asl
      rw [al, List.take_length] at pi
      have q : ∀ H' z, Same H H' → H' z = some (.tup (((endedF fr ts).map fun l => fateL l rows (readsF fr ts rows)).map V.str)) → Q (.ref z) H' := q
      generalize readsF fr ts rows = reads at pi q
      have rdl : reads.length ≤ 50000 := by
        have := pi.la.1
        omega
      have p2 : P2 H H1 D B F as reads (List.replicate 8 []) [] 0 := ⟨pi.same, pi.d, pi.la, fun a ha => (pi.nd a ha).2, ⟨[], pi.b, Nat.le_refl _, fun w w8 => .inr ⟨rfl, by rw [List.getD_eq_getElem?_getD, List.getElem?_replicate, if_pos w8]; rfl⟩⟩, pi.f, pi.nB, pi.nF, pi.ne⟩
      refine ⟨_, rfl, w, xs, rfl, SqT.of (p2.same _ _ hw), for_it (walk_enumT (xs := xs)) (fun i σ H' => ∃ (v6 v7 v8 v9 v10 v12 v13 v14 : Option V) (s : ES), σ = [some (.ref f), some (.ref w), some (.ref p), some (.ref D), some (.ref B), some (.ref F), v6, v7, v8, v9, v10, none, v12, v13, v14] ∧ P2 H H' D B F as reads s.bg (s.ln.map fun l => fateL l rows reads) (2 * i) ∧ Ge s i ∧ runE fr ts 0 es0 = runE fr (ts.drop i) i s)
        ⟨v6, v7, v8, none, none, none, none, none, es0, rfl, p2, Ge.zero, rfl⟩ (fun i σ H' _ ⟨_, _, _, _, _, _, _, _, _, _, z, _⟩ => SqT.of (z.same _ _ hw)) ?_ ?_⟩
      · rintro i x σ H2 H3 hi ⟨v6, v7, v8, v9, v10, v12, v13, v14, st, rfl, fi, gd, inv⟩ ⟨T, xi, xo, rfl, nT, rfl, h1, h2⟩
        cases h1
        obtain ⟨t, ht, tA⟩ := tx.at_ h2
        have il : i < ts.length := (List.getElem?_eq_some_iff.mp ht).1
        rw [drop_at ht] at inv
        have f2 := fi.mono (same_upd (o := HO.tup [V.int (i : Nat), xo]) nT)
        have g2 : Ge (stepE fr st i t) (i + 1) := gd.step fun e z => ent e (by rw [← z]; exact List.mem_of_getElem? ht)
        have inv : runE fr ts 0 es0 = runE fr (ts.drop (i + 1)) (i + 1) (stepE fr st i t) := inv
        have n2 : 2 * (i + 1) = 2 * i + 1 + 1 := by omega
        refine ⟨T, _, rfl, SqT.of upd_same, rfl, _, _, rfl, _, _, rfl, rfl, ?_⟩
        clear fi
        generalize upd H2 T (.tup [V.int (i : Nat), xo]) = HT at f2 ⊢
        have dA := (tA.same f2.same).da
        obtain ⟨ty, tyx, kt, _, _⟩ := dA.ty (K := K)
        refine ⟨_, rfl, xo, .ty "tuple", ty, .type "tuple", isTup (dT t), rfl, .ty "tuple", tyx, kt, isTup (dT t), rfl, ?_⟩
        have more : ∀ {Hx : Hp} {bg : List (List Nat)} {ss : List Str} {n m : Nat}, n ≤ m → P2 H Hx D B F as reads bg ss n → P2 H Hx D B F as reads bg ss m := fun {Hx bg ss n m} l h => by
          obtain ⟨kv, b1, b2, b3⟩ := h.b
          exact ⟨h.same, h.d, h.la, h.nd, ⟨kv, b1, by omega, b3⟩, h.f, h.nB, h.nF, h.ne⟩
        cases t with
        | turn => exact iteF' rfl ⟨_, _, _, _, _, _, _, _, st, rfl, more (by omega) f2, g2, inv⟩
        | copy => exact iteF' rfl ⟨_, _, _, _, _, _, _, _, st, rfl, more (by omega) f2, g2, inv⟩
        | cut => exact iteF' rfl ⟨_, _, _, _, _, _, _, _, st, rfl, more (by omega) f2, g2, inv⟩
        | ent e =>
          cases tA with
          | @ent tp _ a4 =>
          refine iteT' rfl ?_
          obtain ⟨e0, e1x, n0, n1⟩ := ent e (List.mem_of_getElem? ht)
          obtain ⟨ew, e2⟩ := e
          obtain ⟨wn, hwn⟩ := Int.eq_ofNat_of_zero_le e0
          have hwn : ew = (wn : Int) := hwn
          subst hwn
          have w8 : wn < 8 := by
            have z : (wn : Int) < 8 := e1x
            omega
          have lb : wn < st.bg.length := by rw [gd.l8]; exact w8
          have rb := (gd.b _ (getD_mem (d := []) lb)).1
          obtain ⟨kvs, b1, b2, b3⟩ := f2.b
          refine ⟨_, rfl, B, rfl, .inl ⟨_, .inl b1⟩, _, rfl, tp, _, 0, _, rfl, rfl, SqT.of (f2.same _ _ a4), atI_nat (j := 0) rfl, (by show 0 ≤ sizeLine; decide), fun z0 nz0 => ?_⟩
          have u0 := same_upd (o := HO.lst []) nz0
          have f3 := f2.mono u0
          refine ⟨_, DGet.k (k := (Sum.inl (wn : Int) : Key)) (u0 _ _ b1), ?_⟩
          have z0F : z0 ≠ F := fun z => by
            rw [z, f2.f] at nz0
            cases nz0
          obtain ⟨a1, ea1, ha1⟩ : ∃ a1, (valV kvs (Sum.inl (wn : Int) : Key)).getD (.ref z0) = .ref a1 ∧ upd HT z0 (.lst []) a1 = some (.lst ((st.bg.getD wn []).map nI)) := by
            rcases b3 wn w8 with ⟨a, x, y, z⟩ | ⟨x, y⟩
            · rw [x]
              exact ⟨a, rfl, u0 _ _ y⟩
            · rw [x, y]
              exact ⟨z0, rfl, upd_same⟩
          rw [ea1]
          refine ⟨_, rfl, (by show 1 ≤ sizeLine; decide), fun z1 nz1 => ?_⟩
          have u1 := same_upd (o := HO.lst [nI i]) nz1
          have f4 := f3.mono u1
          refine ⟨a1, z1, _, [nI i], rfl, rfl, u1 _ _ ha1, upd_same, by rw [List.length_map, sizeLine_eq]; simp only [List.length_cons, List.length_nil]; omega, fun b nb => ?_⟩
          have u2 := same_upd (o := HO.lst ((st.bg.getD wn []).map nI ++ [nI i])) nb
          have f5 := f4.mono u2
          have bF : b ≠ F := fun z => by
            rw [z, f4.f] at nb
            cases nb
          have hb : (upd (upd (upd HT z0 (.lst [])) z1 (.lst [nI i])) b (.lst ((st.bg.getD wn []).map nI ++ [nI i]))) b = some (.lst ((st.bg.getD wn [] ++ [i]).map nI)) := by
            rw [List.map_append]
            exact upd_same
          have b5 := (u0.trans (u1.trans u2)) _ _ b1
          have f6 := f5.put b5 hb bF lb
          refine ⟨_, rfl, _, rfl, tp, _, 0, _, rfl, rfl, SqT.of (f5.same _ _ a4), atI_nat (j := 0) rfl, B, _, rfl, DPut.k (k := (Sum.inl (wn : Int) : Key)) b5 (by rw [sizeLine_eq]; omega), ?_⟩
          have hb6 : (upd (upd (upd (upd HT z0 (.lst [])) z1 (.lst [nI i])) b (.lst ((st.bg.getD wn []).map nI ++ [nI i]))) B (.dK (putK kvs (Sum.inl (wn : Int) : Key) (.ref b)))) b = some (.lst ((st.bg.getD wn [] ++ [i]).map nI)) := by
            rw [upd_ne (dk_ne hb b5)]
            exact hb
          have hB6 := upd_same (H := upd (upd (upd HT z0 (.lst [])) z1 (.lst [nI i])) b (.lst ((st.bg.getD wn []).map nI ++ [nI i]))) (a := B) (o := HO.dK (putK kvs (Sum.inl (wn : Int) : Key) (.ref b)))
          have kl : (putK kvs (Sum.inl (wn : Int) : Key) (V.ref b)).length ≤ 2 * i + 1 := by
            have := length_putK kvs (Sum.inl (wn : Int) : Key) (V.ref b)
            omega
          have vB : valV (putK kvs (Sum.inl (wn : Int) : Key) (V.ref b)) (.inl (wn : Int)) = some (.ref b) := by rw [valV_put, if_pos rfl]
          generalize putK kvs (Sum.inl (wn : Int) : Key) (V.ref b) = kv6 at f6 hb6 hB6 kl vB ⊢
          generalize upd (upd (upd (upd HT z0 (.lst [])) z1 (.lst [nI i])) b (.lst ((st.bg.getD wn []).map nI ++ [nI i]))) B (.dK kv6) = H6 at f6 hb6 hB6 ⊢
          obtain ⟨fts, t2, hf, hat, h3, hm⟩ := stt_at (fa.same f6.same) n0 n1
          have hpc := (fm.stp _ hm).2.2.1
          obtain ⟨ch, hch, hdec⟩ := pc_lastc hpc
          have p8 := (pc_len hpc).2
          refine ⟨_, rfl, _, rfl, tp, _, 1, _, rfl, rfl, SqT.of (f6.same _ _ a4), atI_nat (j := 1) rfl, f, _, e2, .ref t2, rfl, rfl, SqT.of hf, hat, t2, _, 1, _, rfl, rfl, SqT.of h3, atI_nat (j := 1) rfl, 1, rfl, _, -1, ch, rfl, rfl, by rw [sizeLine_eq]; omega, hch, rfl, _, rfl, ?_⟩
          rw [hdec]
          refine ite2 (fun y => ?_) (fun y => ?_)
          · have y1 : (stt fr e2).2.2 = 0 := of_decide_eq_true y
            have hst : stepE fr st i (.ent ((wn : Int), e2)) = ⟨st.bg.set wn [], st.ln ++ [st.bg.getD wn [] ++ [i]]⟩ := if_pos y1
            rw [hst] at g2 inv
            have ll : (st.bg.getD wn [] ++ [i]).length ≤ 201 := by
              rw [List.length_append]
              simp only [List.length_cons, List.length_nil]
              omega
            have bset : (st.bg.set wn (st.bg.getD wn [] ++ [i])).set wn [] = st.bg.set wn [] := List.set_set ..
            have lb2 : wn < (st.bg.set wn (st.bg.getD wn [] ++ [i])).length := by rw [List.length_set]; exact lb
            have dg : DGet H6 B (.int (wn : Int)) (some (.ref b)) := by
              have z := DGet.k (k := (Sum.inl (wn : Int) : Key)) hB6
              rw [vB] at z
              exact z
            refine ⟨_, rfl, _, rfl, tp, _, 0, _, rfl, rfl, SqT.of (f6.same _ _ a4), atI_nat (j := 0) rfl, B, .ref b, rfl, dg, ?_⟩
            refine ⟨(by show 0 ≤ sizeLine; decide), fun z2 nz2 => ?_⟩
            have u7 := same_upd (o := HO.lst []) nz2
            have f7 := f6.mono u7
            have z2F : z2 ≠ F := fun z => by
              rw [z, f6.f] at nz2
              cases nz2
            have hB7 := u7 _ _ hB6
            refine ⟨_, rfl, _, rfl, tp, _, 0, _, rfl, rfl, SqT.of (f7.same _ _ a4), atI_nat (j := 0) rfl, B, _, rfl, DPut.k (k := (Sum.inl (wn : Int) : Key)) hB7 (by rw [sizeLine_eq]; omega), ?_⟩
            have f8 := f7.put (a := z2) (r := []) hB7 upd_same z2F lb2
            have hb8 : (upd (upd H6 z2 (.lst [])) B (.dK (putK kv6 (Sum.inl (wn : Int) : Key) (.ref z2)))) b = some (.lst ((st.bg.getD wn [] ++ [i]).map nI)) := by
              rw [upd_ne (dk_ne (u7 _ _ hb6) hB7)]
              exact u7 _ _ hb6
            rw [bset] at f8
            clear f7 u7 hB7
            generalize upd (upd H6 z2 (.lst [])) B (.dK (putK kv6 (Sum.inl (wn : Int) : Key) (.ref z2))) = H8 at f8 hb8 ⊢
            generalize st.bg.getD wn [] ++ [i] = ln at g2 inv ll hb8
            refine ⟨_, rfl, D, rfl, ⟨_, SqL.of f8.d⟩, fun C hC => ?_⟩
            refine lc_it (walk_list (xs := as.map V.ref)) (fun k H' => ∃ ks : List V, H' C = some (.lst ks) ∧ ks.length = ((reads.take k).filter fun o => decide (o = ln)).length ∧ Same H8 H') ⟨[], upd_same, rfl, same_upd hC⟩ (fun k H' _ ⟨_, _, _, z⟩ => SqL.of (z _ _ f8.d)) ?_ ?_
            · rintro k x H9z H9 hk ⟨ks, hd, kl9, s9⟩ ⟨rfl, hx⟩
              rw [List.length_map] at hk
              have ha : as[k]? = some as[k] := List.getElem?_eq_getElem hk
              rw [List.getElem?_map, ha] at hx
              obtain rfl : V.ref as[k] = x := Option.some.inj hx
              have kr : k < reads.length := by
                have := f8.la.1
                omega
              have hrd : reads[k]? = some reads[k] := List.getElem?_eq_getElem kr
              have hc := s9 _ _ (f8.la.2 k _ _ ha hrd)
              have kb : ((reads.take k).filter fun o => decide (o = ln)).length ≤ k := Nat.le_trans (List.length_filter_le _ _) (by rw [List.length_take]; omega)
              refine ⟨rfl, _, rfl, _, rfl, dLs reads[k], dLs ln, Da.dp _ _ (da_dLs hc), Da.dp _ _ (da_dLs (s9 _ _ hb8)), sh_dLs _, sh_dLs _, _, rfl, ?_⟩
              rw [eqv_dLs]
              refine ite2 (fun y => ?_) (fun y => ?_)
              · refine ⟨_, rfl, ks, hd, by rw [kl9, sizeLine_eq]; omega, ks ++ [.ref as[k]], upd_same, ?_, same_push hC s9⟩
                rw [take_snoc hrd, List.filter_append, List.length_append, List.length_append, kl9, List.filter_cons, if_pos y]
                rfl
              · refine ⟨ks, hd, ?_, s9⟩
                rw [take_snoc hrd, List.filter_append, List.length_append, kl9, List.filter_cons, if_neg y]
                rfl
            · rintro H9 ⟨ks, hd, kl9, s9⟩
              rw [List.length_map, f8.la.1, List.take_length] at kl9
              refine ⟨C, ks, rfl, .inl (SqL.of hd), ?_⟩
              generalize hcc : ks.length = c at kl9
              have f9 := f8.mono s9
              have hb9 := s9 _ _ hb8
              refine ⟨_, rfl, b, rfl, ⟨_, SqL.of hb9⟩, fun C2 hC2 => ?_⟩
              refine lc_it (walk_list (xs := ln.map nI)) (fun k H' => H' C2 = some (.lst (((ln.take k).filter fun n => !(rows.filter fun r => decide (n ∈ r)).isEmpty).map nI)) ∧ Same H9 H') ⟨upd_same, same_upd hC2⟩ (fun k H' _ z => SqL.of (z.2 _ _ hb9)) ?_ ?_
              · rintro k x HAz HA hk ⟨hd2, sA⟩ ⟨rfl, hx⟩
                rw [List.length_map] at hk
                have hn : ln[k]? = some ln[k] := List.getElem?_eq_getElem hk
                rw [List.getElem?_map, hn] at hx
                obtain rfl : nI ln[k] = x := Option.some.inj hx
                generalize ln[k] = n at hn
                have pA := (f9.mono sA).same _ _ hp
                refine ⟨rfl, ?_⟩
                refine ⟨_, rfl, p, rfl, ⟨_, SqL.of pA⟩, fun C3 hC3 => ?_⟩
                refine lc_it (walk_list (xs := ads.map V.ref)) (fun q H' => ∃ vs : List V, H' C3 = some (.lst vs) ∧ DaAll HA vs (((rows.take q).filter fun r => decide (n ∈ r)).map dLs) ∧ vs.length ≤ q ∧ Same HA H') ⟨[], upd_same, .nil, Nat.zero_le _, same_upd hC3⟩ (fun q H' _ ⟨_, _, _, _, z⟩ => SqL.of (z _ _ pA)) ?_ ?_
                · rintro q x HBz HB hq ⟨vs, hd3, vA, vl, sB⟩ ⟨rfl, hx⟩
                  rw [List.length_map] at hq
                  have ha : ads[q]? = some ads[q] := List.getElem?_eq_getElem hq
                  rw [List.getElem?_map, ha] at hx
                  obtain rfl : V.ref ads[q] = x := Option.some.inj hx
                  have hrw : rows[q]? = some rows[q] := List.getElem?_eq_getElem (by omega)
                  have hcA := (f9.mono sA).same _ _ (aa q _ _ ha hrw)
                  generalize rows[q] = row at hrw hcA
                  refine ⟨rfl, _, rfl, _, rfl, ads[q], _, rfl, .inl (SqL.of (sB _ _ hcA)), rfl, flat_nI row, _, rfl, ?_⟩
                  by_cases hm : n ∈ row
                  · refine iteT' (by show inV _ _ = true; rw [inV_nI, decide_eq_true hm]) ?_
                    refine ⟨_, rfl, vs, hd3, by rw [sizeLine_eq]; omega, vs ++ [.ref ads[q]], upd_same, ?_, by rw [List.length_append]; simp only [List.length_cons, List.length_nil]; omega, same_push hC3 sB⟩
                    rw [take_snoc hrw, List.filter_append, List.map_append, List.filter_cons, if_pos (decide_eq_true hm)]
                    exact vA.append (.cons (da_dLs hcA) .nil)
                  · refine iteF' (by show inV _ _ = false; rw [inV_nI, decide_eq_false hm]) ⟨vs, hd3, ?_, by omega, sB⟩
                    rw [take_snoc hrw, List.filter_append, List.map_append, List.filter_cons, if_neg (fun z => hm (of_decide_eq_true z)), List.filter_nil, List.map_nil, List.append_nil]
                    exact vA
                · rintro HB ⟨vs, hd3, vA, vl, sB⟩
                  rw [List.length_map, al, List.take_length] at vA
                  refine ⟨(by show 0 ≤ sizeLine; decide), fun C4 nC4 => ?_⟩
                  have u4 := same_upd (o := HO.lst []) nC4
                  refine ⟨.list ((rows.filter fun r => decide (n ∈ r)).map dLs), .list [], Da.dp _ _ (Da.same u4 _ _ (.lst hd3 (DaAll.same sB _ _ vA))), .lst (SqL.of upd_same) .nil, sh_dLss _, sh_nilL, _, rfl, ?_⟩
                  rw [eqv_nilL]
                  have eI : ((rows.filter fun r => decide (n ∈ r)).map dLs).isEmpty = (rows.filter fun r => decide (n ∈ r)).isEmpty := by
                    cases rows.filter fun r => decide (n ∈ r) <;> rfl
                  rw [eI]
                  have sC := sA.trans (sB.trans u4)
                  have hd4 := (sB.trans u4) _ _ hd2
                  refine ite2 (fun y => ?_) (fun y => ?_)
                  · refine ⟨_, rfl, _, hd4, ?_, ?_, same_push hC2 sC⟩
                    · have := List.length_filter_le (fun n => !(rows.filter fun r => decide (n ∈ r)).isEmpty) (ln.take k)
                      rw [List.length_take] at this
                      rw [List.length_map, sizeLine_eq]
                      omega
                    · rw [take_snoc hn, List.filter_append, List.map_append, List.filter_cons, if_pos y]
                      exact upd_same
                  · refine ⟨?_, sC⟩
                    rw [take_snoc hn, List.filter_append, List.map_append, List.filter_cons, if_neg y, List.filter_nil, List.map_nil, List.append_nil]
                    exact hd4
              · rintro HA ⟨hd2, sA⟩
                rw [List.length_map, List.take_length] at hd2
                have fA := f9.mono sA
                have hcl : ((reads.filter fun o => decide (o = ln)).length : Nat) = c := kl9.symm
                have lss : (List.map V.str (List.map (fun l => fateL l rows reads) st.ln)).length < sizeLine := by
                  have := gd.l
                  rw [List.length_map, List.length_map, sizeLine_eq]
                  omega
                refine ⟨_, rfl, (by show 0 ≤ sizeLine; decide), fun C5 nC5 => ?_⟩
                have u5 := same_upd (o := HO.lst []) nC5
                have fB := fA.mono u5
                refine ⟨dLs (ln.filter fun n => !(rows.filter fun r => decide (n ∈ r)).isEmpty), .list [], Da.dp _ _ (da_dLs (u5 _ _ hd2)), .lst (SqL.of upd_same) .nil, sh_dLs _, sh_nilL, _, rfl, ?_⟩
                have hfl : fateL ln rows reads = if c = 1 then ("kept" : Str) else if c = 0 then (if (ln.filter fun n => !(rows.filter fun r => decide (n ∈ r)).isEmpty) ≠ [] then ("torn" : Str) else ("lost" : Str)) else ("doubled" : Str) := by
                  unfold fateL
                  rw [hcl]
                by_cases ew : (ln.filter fun n => !(rows.filter fun r => decide (n ∈ r)).isEmpty) = []
                · have wv : (if (ln.filter fun n => !(rows.filter fun r => decide (n ∈ r)).isEmpty) ≠ [] then ("torn" : Str) else ("lost" : Str)) = ("lost" : Str) := if_neg (fun z => z ew)
                  rw [wv] at hfl
                  refine iteF' (by unfold dLs; rw [eqv_nilL, ew]; rfl) ?_
                  refine ⟨_, rfl, .inl ⟨rfl, _, SqL.of fB.f⟩, _, rfl, (by show 3 ≤ sizeLine; decide), fun C6 nC6 => ?_⟩
                  have uC := same_upd (o := HO.lst [V.str "doubled", V.str "kept", V.str "lost"]) nC6
                  have fC := fB.mono uC
                  refine ⟨_, rfl, rfl, _, rfl, ?_⟩
                  by_cases c1 : c = 1
                  · have fin : fateL ln rows reads = "kept" := hfl.trans (if_pos c1)
                    refine iteT' (decide_eq_true (by rw [c1]; rfl)) ?_
                    refine ⟨C6, _, 1, .str "kept", rfl, rfl, SqL.of upd_same, rfl, F, _, _, rfl, rfl, fC.f, lss, ?_⟩
                    refine ⟨_, _, _, _, _, _, _, _, ⟨st.bg.set wn [], st.ln ++ [ln]⟩, rfl, ?_, g2, inv⟩
                    rw [List.map_append, List.map_cons, List.map_nil, fin, n2]
                    exact fC.push
                  · refine iteF' (decide_eq_false (fun z => c1 (by have := V.int.inj z; omega))) ?_
                    refine ⟨_, rfl, rfl, _, rfl, ?_⟩
                    by_cases c0 : c = 0
                    · have fin : fateL ln rows reads = "lost" := hfl.trans ((if_neg c1).trans (if_pos c0))
                      refine iteT' (decide_eq_true (by rw [c0]; rfl)) ?_
                      refine ⟨C6, _, 2, .str "lost", rfl, rfl, SqL.of upd_same, rfl, F, _, _, rfl, rfl, fC.f, lss, ?_⟩
                      refine ⟨_, _, _, _, _, _, _, _, ⟨st.bg.set wn [], st.ln ++ [ln]⟩, rfl, ?_, g2, inv⟩
                      rw [List.map_append, List.map_cons, List.map_nil, fin, n2]
                      exact fC.push
                    · have fin : fateL ln rows reads = "doubled" := hfl.trans ((if_neg c1).trans (if_neg c0))
                      refine iteF' (decide_eq_false (fun z => c0 (by have := V.int.inj z; omega))) ?_
                      refine ⟨C6, _, 0, .str "doubled", rfl, rfl, SqL.of upd_same, rfl, F, _, _, rfl, rfl, fC.f, lss, ?_⟩
                      refine ⟨_, _, _, _, _, _, _, _, ⟨st.bg.set wn [], st.ln ++ [ln]⟩, rfl, ?_, g2, inv⟩
                      rw [List.map_append, List.map_cons, List.map_nil, fin, n2]
                      exact fC.push
                · have wv : (if (ln.filter fun n => !(rows.filter fun r => decide (n ∈ r)).isEmpty) ≠ [] then ("torn" : Str) else ("lost" : Str)) = ("torn" : Str) := if_pos ew
                  rw [wv] at hfl
                  refine iteT' (by
                    unfold dLs
                    rw [eqv_nilL]
                    cases hz : (ln.filter fun n => !(rows.filter fun r => decide (n ∈ r)).isEmpty) with
                    | nil => exact absurd hz ew
                    | cons a b => rfl) ?_
                  refine ⟨_, rfl, .inl ⟨rfl, _, SqL.of fB.f⟩, _, rfl, (by show 3 ≤ sizeLine; decide), fun C6 nC6 => ?_⟩
                  have uC := same_upd (o := HO.lst [V.str "doubled", V.str "kept", V.str "torn"]) nC6
                  have fC := fB.mono uC
                  refine ⟨_, rfl, rfl, _, rfl, ?_⟩
                  by_cases c1 : c = 1
                  · have fin : fateL ln rows reads = "kept" := hfl.trans (if_pos c1)
                    refine iteT' (decide_eq_true (by rw [c1]; rfl)) ?_
                    refine ⟨C6, _, 1, .str "kept", rfl, rfl, SqL.of upd_same, rfl, F, _, _, rfl, rfl, fC.f, lss, ?_⟩
                    refine ⟨_, _, _, _, _, _, _, _, ⟨st.bg.set wn [], st.ln ++ [ln]⟩, rfl, ?_, g2, inv⟩
                    rw [List.map_append, List.map_cons, List.map_nil, fin, n2]
                    exact fC.push
                  · refine iteF' (decide_eq_false (fun z => c1 (by have := V.int.inj z; omega))) ?_
                    refine ⟨_, rfl, rfl, _, rfl, ?_⟩
                    by_cases c0 : c = 0
                    · have fin : fateL ln rows reads = "torn" := hfl.trans ((if_neg c1).trans (if_pos c0))
                      refine iteT' (decide_eq_true (by rw [c0]; rfl)) ?_
                      refine ⟨C6, _, 2, .str "torn", rfl, rfl, SqL.of upd_same, rfl, F, _, _, rfl, rfl, fC.f, lss, ?_⟩
                      refine ⟨_, _, _, _, _, _, _, _, ⟨st.bg.set wn [], st.ln ++ [ln]⟩, rfl, ?_, g2, inv⟩
                      rw [List.map_append, List.map_cons, List.map_nil, fin, n2]
                      exact fC.push
                    · have fin : fateL ln rows reads = "doubled" := hfl.trans ((if_neg c1).trans (if_neg c0))
                      refine iteF' (decide_eq_false (fun z => c0 (by have := V.int.inj z; omega))) ?_
                      refine ⟨C6, _, 0, .str "doubled", rfl, rfl, SqL.of upd_same, rfl, F, _, _, rfl, rfl, fC.f, lss, ?_⟩
                      refine ⟨_, _, _, _, _, _, _, _, ⟨st.bg.set wn [], st.ln ++ [ln]⟩, rfl, ?_, g2, inv⟩
                      rw [List.map_append, List.map_cons, List.map_nil, fin, n2]
                      exact fC.push
          · have y1 : ¬ (stt fr e2).2.2 = 0 := fun z => y (decide_eq_true z)
            have hst : stepE fr st i (.ent ((wn : Int), e2)) = ⟨st.bg.set wn (st.bg.getD wn [] ++ [i]), st.ln⟩ := if_neg y1
            rw [hst] at g2 inv
            exact ⟨_, _, _, _, _, _, _, _, _, rfl, more (by omega) f6, g2, inv⟩
      · rintro σ HE ⟨v6, v7, v8, v9, v10, v12, v13, v14, st, rfl, fi, gd, inv⟩
        have e0 : ts.drop xs.length = [] := by
          rw [tl]
          exact List.drop_length
        rw [e0] at inv
        refine ⟨_, rfl, F, _, rfl, .inl ⟨SqL.of fi.f, fun z nz => ?_⟩⟩
        refine q _ z (fi.same.trans (same_upd nz)) ?_
        have e : endedF fr ts = st.ln := congrArg ES.ln inv
        rw [e]
        exact upd_same
end
end K41

set_option Elab.async false
set_option linter.all false
set_option maxRecDepth 100000
set_option maxHeartbeats 4000000
/-! The law's own fates are those of the program. -/
namespace K41
open PySem L2 L2.EV
theorem cutsN_snoc (fr : List T3) (es : List E2) (e : E2) : cutsN fr (es ++ [e]) (es ++ [e]).length = cutsN fr es es.length ++ (if ends fr e = true then [es.length + 1] else []) := by
  unfold cutsN
  have h1 : ((List.range es.length).filter fun k => ends fr ((es ++ [e]).getD k (0, 0))) = ((List.range es.length).filter fun k => ends fr (es.getD k (0, 0))) := by
    refine List.filter_congr fun k hk => ?_
    have hk2 : k < es.length := List.mem_range.mp hk
    rw [List.getD_eq_getElem?_getD, List.getD_eq_getElem?_getD, List.getElem?_append_left hk2]
  have h2 : (es ++ [e]).getD es.length (0, 0) = e := by
    rw [List.getD_eq_getElem?_getD, List.getElem?_append_right (Nat.le_refl _), Nat.sub_self]
    rfl
  rw [List.length_append, List.length_cons, List.length_nil, Nat.zero_add, List.range_succ, List.filter_append, List.map_append, h1, List.filter_cons, h2]
  split <;> rfl
theorem lpN_snoc (fr : List T3) (es : List E2) (e : E2) : lpN fr (es ++ [e]) = lpN fr es ++ (if ends fr e = true then [es.length + 1] else []) := by
  unfold lpN
  rw [cutsN_snoc]
  rfl
theorem lpN_le {fr : List T3} {es : List E2} : ∀ x ∈ lpN fr es, x ≤ es.length := by
  intro x hx
  unfold lpN cutsN at hx
  rcases List.mem_cons.mp hx with h | h
  · omega
  · obtain ⟨k, hk, rfl⟩ := List.mem_map.mp h
    have := List.mem_range.mp (List.mem_filter.mp hk).1
    omega
theorem zip_snoc (l : List Nat) (M : List Nat) (y x : Nat) (h : l = M ++ [y]) : (l ++ [x]).zip (l ++ [x]).tail = l.zip l.tail ++ [(y, x)] := by
  subst h
  induction M with
  | nil => rfl
  | cons a M ih =>
    cases M with
    | nil => rfl
    | cons b M =>
      have ih' := ih
      simp only [List.cons_append, List.tail_cons, List.zip_cons_cons] at ih' ⊢
      rw [ih']
theorem cutE_snoc {α : Type} {es : List α} {e : α} {lo hi : Nat} (h1 : lo ≤ es.length) (h2 : hi ≤ es.length) : cutE (es ++ [e]) lo hi = cutE es lo hi := by
  unfold cutE
  rw [List.length_append, List.length_cons, List.length_nil, Nat.min_eq_left (by omega), Nat.min_eq_left (by omega), Nat.min_eq_left h1, Nat.min_eq_left h2, List.drop_append_of_le_length h1, List.take_append_of_le_length (by rw [List.length_drop]; omega)]
theorem entsAt_snoc {ts : List Tn} {r : List Nat} {k : Nat} : entsAt ts (r ++ [k]) = entsAt ts r ++ [entAt ts k] := by
  unfold entsAt
  rw [List.map_append]
  rfl
theorem entsAt_len {ts : List Tn} {r : List Nat} : (entsAt ts r).length = r.length := by
  unfold entsAt
  rw [List.length_map]
theorem split_is {fr : List T3} {ts : List Tn} (r : List Nat) : linesR fr ts r = (splR fr ts r).1 ∧ (∀ M y, lpN fr (entsAt ts r) = M ++ [y] → (splR fr ts r).2 = r.drop y) := by
  refine snoc_ind (p := fun r => linesR fr ts r = (splR fr ts r).1 ∧ (∀ M y, lpN fr (entsAt ts r) = M ++ [y] → (splR fr ts r).2 = r.drop y)) ⟨rfl, fun M y h => ?_⟩ (fun r k ih => ?_) r
  · show [] = ([] : List Nat).drop y
    rw [List.drop_nil]
  · obtain ⟨i1, i2⟩ := ih
    obtain ⟨M, y, hM⟩ := SrtO.snoc_of (l := lpN fr (entsAt ts r)) (by unfold lpN; simp)
    have hy : y ≤ r.length := by
      have z := lpN_le (fr := fr) (es := entsAt ts r) y (by rw [hM]; simp)
      rwa [entsAt_len] at z
    have hr := i2 M y hM
    have old : ((lpN fr (entsAt ts r)).zip (lpN fr (entsAt ts r)).tail).map (fun q => cutE (r ++ [k]) q.1 q.2) = linesR fr ts r := by
      unfold linesR
      refine List.map_congr_left fun q hq => ?_
      have h1 := lpN_le q.1 (List.of_mem_zip (show (q.1, q.2) ∈ (lpN fr (entsAt ts r)).zip (lpN fr (entsAt ts r)).tail from hq)).1
      have h2 := lpN_le q.2 (List.mem_of_mem_tail (List.of_mem_zip (show (q.1, q.2) ∈ (lpN fr (entsAt ts r)).zip (lpN fr (entsAt ts r)).tail from hq)).2)
      rw [entsAt_len] at h1 h2
      exact cutE_snoc h1 h2
    rw [splR_snoc]
    by_cases en : ends fr (entAt ts k) = true
    · have es : stR fr ts (splR fr ts r) k = ((splR fr ts r).1 ++ [(splR fr ts r).2 ++ [k]], []) := if_pos en
      rw [es]
      refine ⟨?_, fun M2 y2 h2 => ?_⟩
      · show ((lpN fr (entsAt ts (r ++ [k]))).zip (lpN fr (entsAt ts (r ++ [k]))).tail).map (fun q => cutE (r ++ [k]) q.1 q.2) = _
        rw [entsAt_snoc, lpN_snoc, if_pos en, zip_snoc _ M y _ hM, List.map_append, old, i1, hr, entsAt_len]
        show _ ++ [cutE (r ++ [k]) y (r.length + 1)] = _
        have z : cutE (r ++ [k]) y (r.length + 1) = r.drop y ++ [k] := by
          unfold cutE
          rw [List.length_append, List.length_cons, List.length_nil, Nat.min_eq_left (by omega), Nat.min_eq_left (by omega), List.drop_append_of_le_length hy]
          exact List.take_of_length_le (by rw [List.length_append, List.length_drop]; simp only [List.length_cons, List.length_nil]; omega)
        rw [z]
      · rw [entsAt_snoc, lpN_snoc, if_pos en, entsAt_len] at h2
        have e := congrArg (fun l => l.getLastD 0) h2
        simp at e
        rw [← e]
        show [] = (r ++ [k]).drop (r.length + 1)
        exact (List.drop_of_length_le (by rw [List.length_append]; simp)).symm
    · have es : stR fr ts (splR fr ts r) k = ((splR fr ts r).1, (splR fr ts r).2 ++ [k]) := if_neg en
      rw [es]
      refine ⟨?_, fun M2 y2 h2 => ?_⟩
      · show ((lpN fr (entsAt ts (r ++ [k]))).zip (lpN fr (entsAt ts (r ++ [k]))).tail).map (fun q => cutE (r ++ [k]) q.1 q.2) = _
        rw [entsAt_snoc, lpN_snoc, if_neg en, List.append_nil, old, i1]
      · rw [entsAt_snoc, lpN_snoc, if_neg en, List.append_nil, hM] at h2
        have e := congrArg (fun l => l.getLastD 0) h2
        simp at e
        rw [← e]
        show (splR fr ts r).2 ++ [k] = (r ++ [k]).drop y
        rw [hr, List.drop_append_of_le_length hy]
/-- what is read, and the rest, are the row -/
theorem spl_flat {fr : List T3} {ts : List Tn} (r : List Nat) : (splR fr ts r).1.flatten ++ (splR fr ts r).2 = r := by
  refine snoc_ind (p := fun r => (splR fr ts r).1.flatten ++ (splR fr ts r).2 = r) rfl (fun r k ih => ?_) r
  rw [splR_snoc]
  by_cases en : ends fr (entAt ts k) = true
  · have es : stR fr ts (splR fr ts r) k = ((splR fr ts r).1 ++ [(splR fr ts r).2 ++ [k]], []) := if_pos en
    rw [es]
    show ((splR fr ts r).1 ++ [(splR fr ts r).2 ++ [k]]).flatten ++ [] = _
    rw [List.flatten_append, List.append_nil, List.flatten_cons, List.flatten_nil, List.append_nil, ← List.append_assoc, ih]
  · have es : stR fr ts (splR fr ts r) k = ((splR fr ts r).1, (splR fr ts r).2 ++ [k]) := if_neg en
    rw [es]
    show (splR fr ts r).1.flatten ++ ((splR fr ts r).2 ++ [k]) = _
    rw [← List.append_assoc, ih]
theorem once {l : List Nat} (ne : l ≠ []) : ∀ {L : List (List Nat)}, L.flatten.Nodup → (L.filter fun o => decide (o = l)).length = if l ∈ L then 1 else 0
  | [], _ => rfl
  | x :: L, h => by
    rw [List.flatten_cons, List.nodup_append] at h
    obtain ⟨h1, h2, h3⟩ := h
    have ih := once ne h2
    by_cases c : x = l
    · subst c
      have nl : x ∉ L := fun hm => by
        cases x with
        | nil => exact ne rfl
        | cons a b => exact h3 a (List.mem_cons_self ..) a (List.mem_flatten.mpr ⟨_, hm, List.mem_cons_self ..⟩) rfl
      rw [if_neg nl] at ih
      rw [List.filter_cons, if_pos (decide_eq_true rfl), List.length_cons, ih, if_pos (List.mem_cons_self ..)]
    · rw [List.filter_cons, if_neg (fun z => c (of_decide_eq_true z)), ih]
      by_cases m : l ∈ L
      · rw [if_pos m, if_pos (List.mem_cons_of_mem _ m)]
      · rw [if_neg m, if_neg (fun z => by
          rcases List.mem_cons.mp z with y | y
          · exact c y.symm
          · exact m y)]
theorem counts {fr : List T3} {ts : List Tn} {l : List Nat} (ne : l ≠ []) : ∀ {rows : List (List Nat)}, (∀ r ∈ rows, r.Nodup) → ((readsF fr ts rows).filter fun o => decide (o = l)).length = ((rows.map (linesR fr ts)).filter fun rd => decide (l ∈ rd)).length
  | [], _ => rfl
  | r :: rows, h => by
    have ih := counts (fr := fr) (ts := ts) ne fun x hx => h x (List.mem_cons_of_mem _ hx)
    have e : readsF fr ts (r :: rows) = (splR fr ts r).1 ++ readsF fr ts rows := by
      unfold readsF
      rw [List.flatMap_cons]
    have fl : ((splR fr ts r).1.flatten).Nodup := by
      have z := h r (List.mem_cons_self ..)
      rw [← spl_flat (fr := fr) (ts := ts) r] at z
      exact (List.nodup_append.mp z).1
    rw [e, List.filter_append, List.length_append, ih, once ne fl, List.map_cons, List.filter_cons, (split_is (fr := fr) (ts := ts) r).1]
    by_cases m : l ∈ (splR fr ts r).1
    · rw [if_pos m, if_pos (decide_eq_true m), List.length_cons, Nat.add_comm]
    · rw [if_neg m, if_neg (fun z => m (of_decide_eq_true z)), Nat.zero_add]
theorem there_is {l : List Nat} {rows : List (List Nat)} : (l.filter fun n => !(rows.filter fun r => decide (n ∈ r)).isEmpty) ≠ [] ↔ (rows.any fun r => l.any fun n => decide (n ∈ r)) = true := by
  rw [List.any_eq_true]
  constructor
  · intro h
    obtain ⟨n, hn⟩ := List.exists_mem_of_ne_nil _ h
    obtain ⟨h1, h2⟩ := List.mem_filter.mp hn
    have h2 : (rows.filter fun r => decide (n ∈ r)) ≠ [] := fun z => by
      rw [z] at h2
      cases h2
    obtain ⟨r, hr⟩ := List.exists_mem_of_ne_nil _ h2
    obtain ⟨h3, h4⟩ := List.mem_filter.mp hr
    exact ⟨r, h3, List.any_eq_true.mpr ⟨n, h1, h4⟩⟩
  · rintro ⟨r, hr, h⟩ z
    obtain ⟨n, hn, h4⟩ := List.any_eq_true.mp h
    have m : n ∈ l.filter fun n => !(rows.filter fun r => decide (n ∈ r)).isEmpty := by
      refine List.mem_filter.mpr ⟨hn, ?_⟩
      have m2 : r ∈ rows.filter fun r => decide (n ∈ r) := List.mem_filter.mpr ⟨hr, h4⟩
      cases e : rows.filter fun r => decide (n ∈ r) with
      | nil =>
        rw [e] at m2
        cases m2
      | cons a b => rfl
    rw [z] at m
    cases m
theorem fate_is {fr : List T3} {ts : List Tn} {l : List Nat} {rows : List (List Nat)} (ne : l ≠ []) (h : ∀ r ∈ rows, r.Nodup) : fateL l rows (readsF fr ts rows) = fateF l rows (rows.map (linesR fr ts)) := by
  have c := counts (fr := fr) (ts := ts) ne h
  unfold fateL fateF
  rw [c]
  generalize ((rows.map (linesR fr ts)).filter fun rd => decide (l ∈ rd)).length = n
  show (if n = 1 then ("kept" : Str) else if n = 0 then (if (l.filter fun n => !(rows.filter fun r => decide (n ∈ r)).isEmpty) ≠ [] then ("torn" : Str) else ("lost" : Str)) else ("doubled" : Str)) = if 0 < n then (if n = 1 then ("kept" : Str) else ("doubled" : Str)) else if (rows.any fun r => l.any fun n => decide (n ∈ r)) = true then ("torn" : Str) else ("lost" : Str)
  by_cases n0 : n = 0
  · rw [if_neg (show ¬ n = 1 by omega), if_pos n0, if_neg (show ¬ 0 < n by omega)]
    by_cases t : (l.filter fun n => !(rows.filter fun r => decide (n ∈ r)).isEmpty) ≠ []
    · rw [if_pos t, if_pos (there_is.mp t)]
    · rw [if_neg t, if_neg (fun z => t (there_is.mpr z))]
  · rw [if_pos (show 0 < n by omega)]
    by_cases n1 : n = 1
    · rw [if_pos n1, if_pos n1]
    · rw [if_neg n1, if_neg n0, if_neg n1]
theorem rows_nd {fr : List T3} {byP : Bool} : ∀ {ts : List Tn} {n : Nat} {s : Fst}, Gd s n → (∀ e, Tn.ent e ∈ ts → Ent fr e) → (∀ r ∈ s.rows, r.Nodup) → ∀ r ∈ (runF fr byP ts n s).rows, r.Nodup
  | [], _, _, _, _, h => h
  | t :: ts, n, s, g, en, h => by
    refine rows_nd (ts := ts) (g.step (byP := byP) (fr := fr) fun e z => en e (by rw [← z]; exact List.mem_cons_self ..)) (fun e he => en e (List.mem_cons_of_mem _ he)) ?_
    intro r hr
    have hd : ∀ j, (s.rows.getD j []).Nodup ∧ ∀ k ∈ s.rows.getD j [], k < n := fun j => by
      rcases getD_or (rows := s.rows) (k := j) with z | z
      · exact ⟨h _ z, (g.r _ z).2⟩
      · rw [z]
        exact ⟨List.nodup_nil, fun k hk => by cases hk⟩
    cases t with
    | turn =>
      rcases List.mem_append.mp hr with z | z
      · exact h r z
      · rw [List.mem_singleton.mp z]
        exact List.nodup_nil
    | copy =>
      rcases List.mem_append.mp hr with z | z
      · exact h r z
      · rw [List.mem_singleton.mp z]
        exact (hd _).1
    | cut =>
      rcases mem_set hr with z | z
      · rw [z]
        exact List.nodup_nil
      · exact h r z
    | ent e =>
      rcases mem_set hr with z | z
      · rw [z, List.nodup_append]
        obtain ⟨a, b⟩ := hd ((if goes fr byP e = true then s.hm.set e.1.toNat s.pr else s.hm).getD e.1.toNat 0)
        refine ⟨a, by simp, fun x hx y hy => ?_⟩
        have := b x hx
        rw [List.mem_singleton.mp hy]
        omega
      · exact h r z
theorem fates_is {fr : List T3} {ts : List Tn} {byP : Bool} (en : ∀ e, Tn.ent e ∈ ts → Ent fr e) : fatesL fr ts (rowsF fr byP ts) = fatesF fr byP ts := by
  have ge := Ge.zero.run (fr := fr) en
  have nd := rows_nd (byP := byP) (fr := fr) Gd.zero en (fun r hr => by rw [List.mem_singleton.mp hr]; exact List.nodup_nil)
  unfold fatesL fatesF
  refine List.map_congr_left fun l hl => ?_
  exact fate_is (ge.r l hl).2.1 nd
end K41

set_option Elab.async false
set_option linter.all false
set_option maxRecDepth 100000
set_option maxHeartbeats 4000000
/-! _law_right. -/
namespace L2
open PySem PySem.Spec PyProof.Rows EV
section
variable {X : Cx} {CX : CXT} {k : Nat} {f : Addr} {fd : FuncData} {ps : List Str} {sp : Sp} {x : Str} {p pos : Pos} {E : XK}
/-- f() of a def in which repr may run -/
theorem pe_callG0 (F : FnG X.prog X.w X.K X.mg X.base CX k f fd ps sp) (hr : Room k X.A) (hgd : X.A.guards = some []) (hg : Gl X x) (hm : X.mg x = some (.ref f))
    (hk : PySem.W.keepIn X.K (.ref f) = true) (hb : Binds X.K fd ps []) (hx : Passes CX X E) (hdb : (x == ("__debug__" : Str)) = false := by decide) :
    PE X (.Call (.Name x p) [] [] pos) (fun σ H Q => sp [] H Q E) := by
  refine ⟨fun pins s σ H Q I h => ?_⟩
  refine wpAny_Call_Name_kw (ld_glob I hg hm ?_ hdb)
  refine PySem.W.callWith_K0 I.kIn hk ?_
  have hl : ([] : List Value).length = ps.length := F.len _ _ _ _ h
  have bn := hb s [] I.kIn (by rw [List.append_nil]; exact hl)
  rw [List.append_nil] at bn
  refine wpAny_call (codeAny_mono (F.run X.A X.stack s H ⟨[], []⟩ [] [] Q E hr hgd I.env0 bn .nil h) fun r2 s2 hq => ?_)
  cases r2 with
  | error er => exact hx pins σ H s er s2 I hq
  | ok fl =>
    cases fl with
    | ret u => exact I.after hq
    | next => exact False.elim hq
    | brk => exact False.elim hq
    | cont => exact False.elim hq
end
end L2
namespace K41
open PySem L2 L2.EV
theorem replL_mem {a d : Nat} {z : List Nat} : ∀ {l : List Nat}, d ∈ StrLaws.replL [a] z l → d ∈ z ∨ d ∈ l
  | [], h => by
    rw [StrLaws.replL_nil] at h
    cases h
  | c :: r, h => by
    by_cases e : (c :: r).take ([a] : List Nat).length = [a]
    · rw [StrLaws.replL_hit (by simp) e] at h
      rcases List.mem_append.mp h with h | h
      · exact .inl h
      · exact (replL_mem (l := r) h).imp id fun z => List.mem_cons_of_mem _ z
    · rw [StrLaws.replL_miss e] at h
      rcases List.mem_cons.mp h with h | h
      · exact .inr (by rw [h]; exact List.mem_cons_self ..)
      · exact (replL_mem (l := r) h).imp id fun z => List.mem_cons_of_mem _ z
theorem at_eq : ("@" : Str) = ⟨#[64]⟩ := by decide +kernel
theorem mrk_low {n : Int} : mrk n < 0x110000 := by
  unfold mrk
  by_cases h : n.toNat < 8
  · have z : ∀ k : Fin 8, (sl ("ABCDEFGH" : Str)).getD k.val 0 < 0x110000 := by decide +kernel
    exact z ⟨n.toNat, h⟩
  · rw [List.getD_eq_getElem?_getD, List.getElem?_eq_none (by
      have : (sl ("ABCDEFGH" : Str)).length = 8 := by decide +kernel
      omega)]
    decide
theorem ok_low {p : Str} (h : PyData.strOk p = true) : ∀ c ∈ sl p, c < 0x110000 := fun c hc => by
  unfold PyData.strOk at h
  rw [← Array.all_toList, List.all_eq_true] at h
  exact of_decide_eq_true (h c hc)
theorem putE_low {fr : List T3} {e : E2} (h : PyData.strOk (stt fr e.2).2.1 = true) : ∀ c ∈ sl (putE fr e), c < 0x110000 := by
  intro c hc
  unfold putE at hc
  rw [at_eq, show sl (Txt.replace (stt fr e.2).2.1 ⟨#[64]⟩ ⟨#[mrk e.1]⟩) = StrLaws.replL [64] [mrk e.1] (sl (stt fr e.2).2.1) from StrLaws.replace_list (by decide)] at hc
  rcases replL_mem hc with z | z
  · have : c = mrk e.1 := by simpa using z
    rw [this]
    exact mrk_low
  · exact ok_low h c z
theorem okd_text {fr : List T3} {es : List E2} {last : Nat} (F : Frm fr last) (he : ∀ e ∈ es, Ent fr e) (hl : es.length ≤ 200) : Okd (.str (textE fr es)) 40000 0 := by
  have hm : ∀ e ∈ es, stt fr e.2 ∈ fr := fun e h => by
    obtain ⟨_, _, n0, n1⟩ := he e h
    obtain ⟨k, hk⟩ := Int.eq_ofNat_of_zero_le n0
    unfold stt
    rw [hk] at n1 ⊢
    have kl : k < fr.length := by omega
    rw [List.getD_eq_getElem?_getD, Int.toNat_natCast, List.getElem?_eq_getElem kl]
    exact List.getElem_mem kl
  have ll : ∀ l : List E2, (∀ e ∈ l, e ∈ es) → ((l.map (putE fr)).map sl).flatten.length ≤ 17 * l.length ∧ ∀ c, c ∈ ((l.map (putE fr)).map sl).flatten → c < 0x110000 := by
    intro l
    induction l with
    | nil => exact fun _ => ⟨Nat.le_refl _, fun c h => by cases h⟩
    | cons e l ih =>
      intro h
      obtain ⟨i1, i2⟩ := ih fun x hx => h x (List.mem_cons_of_mem _ hx)
      have e1 := h e (List.mem_cons_self ..)
      have sp := (F.stp _ (hm e e1)).2.2.1
      have h1 := putE_len (pc_len sp).2
      rw [len_sl] at h1
      rw [List.map_cons, List.map_cons, List.flatten_cons]
      refine ⟨by rw [List.length_append, List.length_cons]; omega, fun c hc => ?_⟩
      rcases List.mem_append.mp hc with hc | hc
      · exact putE_low (pc_ok sp) c hc
      · exact i2 c hc
  obtain ⟨z1, z2⟩ := ll es fun e h => h
  have es1 : sl (textE fr es) = ((es.map (putE fr)).map sl).flatten := txt_join _
  rw [← es1] at z1 z2
  refine (okd_str (m := 3400) ?_ (by rw [len_sl]; omega)).le (by decide) (by decide)
  unfold PyData.strOk
  rw [← Array.all_toList, List.all_eq_true]
  exact fun c hc => decide_eq_true (z2 c hc)
theorem okd_dT {fr : List T3} {t : Tn} (h : ∀ e, t = .ent e → Ent fr e) (hf : fr.length ≤ 16) : Okd (dT t) 100 1 := by
  cases t with
  | turn => exact (okd_str (m := 4) (by decide +kernel) (by decide +kernel)).le (by decide) (by decide)
  | copy => exact (okd_str (m := 4) (by decide +kernel) (by decide +kernel)).le (by decide) (by decide)
  | cut => exact (okd_str (m := 4) (by decide +kernel) (by decide +kernel)).le (by decide) (by decide)
  | ent e =>
    obtain ⟨e0, e1, n0, n1⟩ := h e rfl
    refine (okd_tuple (n := 10) (dp := 0) (m := 2) (fun d hd => ?_) (Nat.le_refl _)).le (by decide) (Nat.le_refl _)
    have cs : d = .int e.1 ∨ d = .int e.2 := by simpa using hd
    rcases cs with rfl | rfl
    · exact okd_int e0 (by omega)
    · exact okd_int n0 (by omega)
theorem okd_th {fr : List T3} {ts : List Tn} (h : ∀ e, Tn.ent e ∈ ts → Ent fr e) (hf : fr.length ≤ 16) (l : ts.length ≤ 200) : Okd (.tuple (ts.map dT)) 30000 2 := by
  refine (okd_tuple (n := 100) (dp := 1) (m := 200) (fun d hd => ?_) (by rw [List.length_map]; exact l)).le (by decide) (Nat.le_refl _)
  obtain ⟨t, ht, rfl⟩ := List.mem_map.mp hd
  exact okd_dT (fun e z => h e (z ▸ ht)) hf
theorem okd_S {ss : List Str} {m : Nat} (h : ∀ s ∈ ss, Okd (.str s) m 0) (l : ss.length ≤ 201) : Okd (dS ss) (201 * (m + 2) + 3) 1 := by
  refine okd_tuple (n := m) (dp := 0) (m := 201) (fun d hd => ?_) (by rw [List.length_map]; exact l)
  obtain ⟨t, ht, rfl⟩ := List.mem_map.mp hd
  exact h t ht
theorem pick4 (p q r : Prop) [Decidable p] [Decidable q] [Decidable r] : (if p then (if q then ("kept" : Str) else ("doubled" : Str)) else if r then ("torn" : Str) else ("lost" : Str)) = "kept" ∨ (if p then (if q then ("kept" : Str) else ("doubled" : Str)) else if r then ("torn" : Str) else ("lost" : Str)) = "doubled" ∨ (if p then (if q then ("kept" : Str) else ("doubled" : Str)) else if r then ("torn" : Str) else ("lost" : Str)) = "torn" ∨ (if p then (if q then ("kept" : Str) else ("doubled" : Str)) else if r then ("torn" : Str) else ("lost" : Str)) = "lost" := by
  by_cases hp : p
  · rw [if_pos hp]
    by_cases hq : q
    · rw [if_pos hq]
      exact .inl rfl
    · rw [if_neg hq]
      exact .inr (.inl rfl)
  · rw [if_neg hp]
    by_cases hr : r
    · rw [if_pos hr]
      exact .inr (.inr (.inl rfl))
    · rw [if_neg hr]
      exact .inr (.inr (.inr rfl))
theorem okd_fate {l : List Nat} {rows : List (List Nat)} {lss : List (List (List Nat))} : Okd (.str (fateF l rows lss)) 100 0 := by
  have key : ∀ s : Str, s = "kept" ∨ s = "doubled" ∨ s = "torn" ∨ s = "lost" → Okd (.str s) 100 0 := fun s h => by
    rcases h with rfl | rfl | rfl | rfl
    · exact (okd_str (m := 8) (by decide +kernel) (by decide +kernel)).le (by decide) (by decide)
    · exact (okd_str (m := 8) (by decide +kernel) (by decide +kernel)).le (by decide) (by decide)
    · exact (okd_str (m := 8) (by decide +kernel) (by decide +kernel)).le (by decide) (by decide)
    · exact (okd_str (m := 8) (by decide +kernel) (by decide +kernel)).le (by decide) (by decide)
  exact key _ (pick4 (0 < (lss.filter fun rd => decide (l ∈ rd)).length) ((lss.filter fun rd => decide (l ∈ rd)).length = 1) ((rows.any fun r => l.any fun n => decide (n ∈ r)) = true))
theorem st_and {ta tb : TE} {σ : L2.St} {H : Hp} {D : Ends} (h : ta σ H fun x H1 => ∃ c, x = .bl c ∧ if c = true then tb σ H1 D.rt else D.rt (.bl false) H1) : tRet (tAndV ta tb) D σ H := h
abbrev sRight : Stmt := top 51
def spRight : Sp := fun vs H Q _ => ∃ (f w : Addr) (fr : List T3) (last : Nat) (ts : List Tn), vs = [.ref f, .ref w] ∧ FrA H f fr ∧ Frm fr last ∧ ThA H w ts ∧ ts.length ≤ 200 ∧ Go fr (entsT ts) ∧ ∀ H', Same H H' → Q (.bl true) H'
structure Lr2 (K : PySem.W.Frag) (mg : Str → Option Value) where
  I : Fi K mg
  A : Fa K mg
  D : Lfd K mg
  T : Lft K mg
  X : Lx K mg
  f : Addr
  d : FuncData
  F : Fun K "_law_right" "_law_right" sRight f d
  b : Binds K d ["framing", "thing"] []
  m : mg "_law_right" = some (.ref f)
  re : mg "repr" = none
  tu : mg "tuple" = none
abbrev NR : List Str := ["framing", "thing", "kept", "manner", "stacks", "stack", "place", "due"]
abbrev scStk : Scope := { kind := .function, names := [(".0", .local), ("stack", .local), ("_law_text", .globalImplicit), ("framing", .cell), ("thing", .cell)], isGenerator := false, isCoroutine := false }
section
variable {P : Program} {w : World} {K : PySem.W.Frag} {mg : Str → Option Value} {base : Heap}
theorem scRight : FnScope NR ["framing", "thing"] (defScope sRight) := ⟨rfl, rfl, rfl, by decide +kernel, rfl, by decide +kernel, by decide +kernel⟩
theorem ok_right (L : Lr2 K mg) : FnG P w K mg base CX0 6 L.f L.d ["framing", "thing"] spRight := by
  have GI : FnOk P w K mg base CX0 5 L.I.f L.I.d ["framing", "thing", "manner"] spFiles := ok_files L.I
  have GA : FnOk P w K mg base CX0 5 L.A.f L.A.d ["framing", "thing", "manner"] spFates := ok_fates L.A
  have GN : FnOk P w K mg base CX0 4 L.I.M.L.G.f L.I.M.L.G.d ["framing", "thing"] spNeedT := ok_needT L.I.M.L.G
  have GD : FnOk P w K mg base CX0 1 L.D.f L.D.d ["framing", "thing", "by_line"] spFiled := ok_filed L.D
  have GT : FnOk P w K mg base CX0 1 L.T.f L.T.d ["framing", "thing", "stacks"] spFatesL := ok_fatesL L.T
  have GX : FnOk P w K mg base CX0 2 L.X.f2 L.X.d2 ["framing", "entries"] spPut := ok_textL L.X
  refine okG L.F scRight (fun vs H Q E h => ?_) (fun cdv A outer s H vs Q E r5 hgd h => ?_)
  · obtain ⟨f, w, fr, last, ts, rfl, _⟩ := h
    rfl
  · obtain ⟨f, w, fr, last, ts, rfl, fa, fm, ta, l200, go, q⟩ := h
    have gd : (A.deeper (PyProof.Rows.envOfC "_law_right" (defScope sRight) s.heap.objs.size L.f cdv)).guards = some [] := hgd
    have hu64 := r5.units
    have r1 := r5.mono (j := 1) (by decide)
    have r2 := r5.mono (j := 2) (by decide)
    have r4 := r5.mono (j := 4) (by decide)
    refine ⟨_, pss_cons (ps_set (i := 2) scRight.nd rfl (Or.inl rfl) (pe_callB (call_showV gd hu64) (by rfl) L.re (by decide +kernel) (pa_cons (pv 1) pa_nil)))
      (pss_cons (ps_for PassesOwn.never rfl (pi_tup (pe_tup (pa_cons pe_str (pa_cons pe_str pa_nil)))) (pg_name (i := 3) scRight.nd rfl (Or.inl rfl))
        (pss_cons (ps_set (i := 4) scRight.nd rfl (Or.inl rfl) (pe_call GD r1 (by rfl) L.D.m L.D.F.kp L.D.b .nil pass0 (pa_cons (pv 0) (pa_cons (pv 1) (pa_cons (pe_cmpR op_eq (pv 3) pe_str (nomark _)) pa_nil)))))
        (pss_cons (ps_set (i := 7) scRight.nd rfl (Or.inl rfl) (pe_callTy call_tuple_of (by rfl) L.tu (by decide +kernel) (pa_cons (pe_lc (own := [("stack", 5)]) (g := gName 5) (te := tCall spPut [] E0 (tCons (tVar 0) (tCons (tLc (iList K (tVar 5)) (gName 6) tYes (tOp (rIxT K) (tVar 1) (tVar 6)) [6]) tNil))) rfl scRight.nd (pi_list (pv 4))
          (blkOk_by (N := NR) (sc := defScope sRight) (by decide +kernel))
          (fun _ _ _ _ _ => pg_name (i := 5) scRight.nd rfl (Or.inl rfl)) (fun _ _ _ _ _ => pts_nil)
          (fun _ _ _ _ _ => pe_call GX r2 (by rfl) L.X.gT L.X.T.kp L.X.bT .nil pass0 (pa_cons (pv 0) (pa_cons (pe_lc (own := [("place", 6)]) (g := gName 6) (te := tOp (rIxT K) (tVar 1) (tVar 6)) rfl scRight.nd (pi_list (pv 5))
            (blkOk_by (N := NR) (sc := scStk) (by decide +kernel))
            (fun _ _ _ _ _ => pg_name (i := 6) scRight.nd rfl (Or.inl rfl)) (fun _ _ _ _ _ => pts_nil) (fun _ _ _ _ _ => pe_ix ix_tup (pv 1) (pv 6) (fun _ _ => rfl))) pa_nil)))) pa_nil)))
        (pss_cons (ps_if (pt_cmpR op_ne (pe_callB (call_showV gd hu64) (by rfl) L.re (by decide +kernel) (pa_cons (pe_call GI r5 (by rfl) L.I.m L.I.F.kp L.I.b .nil pass0 (pa_cons (pv 0) (pa_cons (pv 1) (pa_cons (pv 3) pa_nil)))) pa_nil)) (pe_callB (call_showV gd hu64) (by rfl) L.re (by decide +kernel) (pa_cons (pv 7) pa_nil)) (nomark _)) (pss_one (ps_ret pe_bl)) pss_nil)
        (pss_one (ps_if (pt_cmpR op_ne (pe_callB (call_showV gd hu64) (by rfl) L.re (by decide +kernel) (pa_cons (pe_call GA r5 (by rfl) L.A.m L.A.F.kp L.A.b .nil pass0 (pa_cons (pv 0) (pa_cons (pv 1) (pa_cons (pv 3) pa_nil)))) pa_nil)) (pe_callB (call_showV gd hu64) (by rfl) L.re (by decide +kernel) (pa_cons (pe_call GT r1 (by rfl) L.T.m L.T.F.kp L.T.b .nil pass0 (pa_cons (pv 0) (pa_cons (pv 1) (pa_cons (pv 4) pa_nil)))) pa_nil)) (nomark _)) (pss_one (ps_ret pe_bl)) pss_nil))))))
      (pss_one (ps_ret (pe_and (pe_cmpR op_eq (pe_callB (call_showV gd hu64) (by rfl) L.re (by decide +kernel) (pa_cons (pe_call GN r4 (by rfl) L.I.M.L.G.m L.I.M.L.G.F.kp L.I.M.L.G.b .nil pass0 (pa_cons (pv 0) (pa_cons (pv 1) pa_nil))) pa_nil)) (pv 2) (nomark _)) (pe_one (pe_cmpR op_eq (pe_callB (call_showV gd hu64) (by rfl) L.re (by decide +kernel) (pa_cons (pv 1) pa_nil)) (pv 2) (nomark _))))))), ?_⟩
    have entT : ∀ e, Tn.ent e ∈ ts → Ent fr e := fun e he => go.ent e (mem_ents he)
    have rg := rgt_go l200 go
    have okTh := okd_th entT fm.l1 l200
    have szT : (PyData.tuple (ts.map dT)).shown.length ≤ sizeLine := Nat.le_trans okTh.sz (by rw [sizeLine_eq]; omega)
    have dpT : (PyData.tuple (ts.map dT)).depth ≤ 5 := Nat.le_trans okTh.dp (by decide)
    obtain ⟨xs, hw, tx⟩ := id ta
    refine ⟨_, rfl, .ref w, .tuple (ts.map dT), rfl, Da.dp _ _ ta.da, okTh.sh, okTh.nd, szT, dpT, ?_⟩
    refine ⟨(by show 2 ≤ sizeLine; decide), fun t0 n0 => ⟨t0, rfl, ⟨_, SqT.of upd_same⟩, ?_⟩⟩
    have u0 := same_upd (o := HO.tup [V.str "line", V.str "piece"]) n0
    have e0 := upd_same (H := H) (a := t0) (o := HO.tup [V.str "line", V.str "piece"])
    generalize upd H t0 (.tup [V.str "line", V.str "piece"]) = HS at u0 e0 ⊢
    refine for_it (walk_tup (xs := [V.str "line", V.str "piece"])) (fun i σ H' => ∃ (v3 v4 v7 : Option V), σ = [some (.ref f), some (.ref w), some (.str (PyData.tuple (ts.map dT)).shown), v3, v4, none, none, v7] ∧ Same HS H')
      ⟨none, none, none, rfl, Same.refl _⟩ (fun i σ H' _ ⟨_, _, _, _, z⟩ => SqT.of (z _ _ e0)) ?_ ?_
    · rintro i0 x0 σ H1z H1 hi0 ⟨v3, v4, v7, rfl, s1⟩ ⟨rfl, hx0⟩
      obtain ⟨byP, rfl⟩ : ∃ b, x0 = .str (manS b) := by
        match i0, hx0 with
        | 0, h => exact ⟨false, (Option.some.inj h).symm⟩
        | 1, h => exact ⟨true, (Option.some.inj h).symm⟩
        | i + 2, h => simp at h
      have s01 := u0.trans s1
      have em : decide (V.str (manS byP) = V.str "line") = !byP := by cases byP <;> decide +kernel
      refine ⟨_, rfl, _, rfl, _, rfl, rfl, f, w, fr, last, ts, !byP, by rw [em]; rfl, fa.same s01, fm, ta.same s01, l200, go, fun H3 R s3 nR rA => ?_⟩
      rw [Bool.not_not] at rA
      have s03 := s01.trans s3
      obtain ⟨ads, hR, al, aa⟩ := id rA
      have gdr := rows_gd (fr := fr) (byP := byP) entT
      have en := rows_ent (fr := fr) (byP := byP) (ts := ts)
      have rl : (rowsF fr byP ts).length ≤ 201 := by
        have := gdr.l
        show (runF fr byP ts 0 fs0).rows.length ≤ _
        omega
      have rr : ∀ r ∈ rowsF fr byP ts, r.length ≤ 200 := fun r hr => by
        have := (gdr.r r hr).1
        omega
      have fis : filesF fr byP ts = (rowsF fr byP ts).map fun r => textE fr (entsAt ts r) := rfl
      have ftis := fates_is (fr := fr) (byP := byP) entT
      have okI : ∀ s ∈ filesF fr byP ts, Okd (.str s) 40000 0 := fun s hs => by
        obtain ⟨r, hr, rfl⟩ := List.mem_map.mp hs
        refine okd_text fm (fun e he => ?_) (by rw [entsAt_len]; exact rr r hr)
        obtain ⟨k, hk, rfl⟩ := List.mem_map.mp he
        obtain ⟨e, he⟩ := en r hr k hk
        rw [entAt_of he]
        exact entT e (List.mem_of_getElem? he)
      have lI : (filesF fr byP ts).length ≤ 201 := by
        rw [fis, List.length_map]
        exact rl
      have okIS := okd_S okI lI
      have szI : (dS (filesF fr byP ts)).shown.length ≤ sizeLine := Nat.le_trans okIS.sz (by rw [sizeLine_eq]; omega)
      have dpI : (dS (filesF fr byP ts)).depth ≤ 5 := Nat.le_trans okIS.dp (by decide)
      have ge := Ge.zero.run (fr := fr) entT
      rw [Nat.zero_add] at ge
      have okA : ∀ s ∈ fatesF fr byP ts, Okd (.str s) 100 0 := fun s hs => by
        obtain ⟨l, hl, rfl⟩ := List.mem_map.mp hs
        exact okd_fate
      have lA : (fatesF fr byP ts).length ≤ 201 := by
        have := ge.l
        unfold fatesF
        rw [List.length_map]
        show (runE fr ts 0 es0).ln.length ≤ _
        omega
      have okAS := okd_S okA lA
      have szA : (dS (fatesF fr byP ts)).shown.length ≤ sizeLine := Nat.le_trans okAS.sz (by rw [sizeLine_eq]; omega)
      have dpA : (dS (fatesF fr byP ts)).depth ≤ 5 := Nat.le_trans okAS.dp (by decide)
      generalize hrw : rowsF fr byP ts = rows at rl rr en al aa rA fis ftis
      refine ⟨_, rfl, R, rfl, ⟨_, SqL.of hR⟩, fun D hD => ?_⟩
      refine lc_it (walk_list (xs := ads.map V.ref)) (fun i H' => H' D = some (.lst (((rows.take i).map fun r => textE fr (entsAt ts r)).map V.str)) ∧ Same H3 H') ⟨upd_same, same_upd hD⟩ (fun i H' _ z => SqL.of (z.2 _ _ hR)) ?_ ?_
      · rintro i x H4z H4 hi ⟨hd, s4⟩ ⟨rfl, hx⟩
        rw [List.length_map] at hi
        have ha : ads[i]? = some ads[i] := List.getElem?_eq_getElem hi
        rw [List.getElem?_map, ha] at hx
        obtain rfl : V.ref ads[i] = x := Option.some.inj hx
        have ir : i < rows.length := by omega
        have hr : rows[i]? = some rows[i] := List.getElem?_eq_getElem ir
        have hc := aa i _ _ ha hr
        have rm := List.mem_of_getElem? hr
        have r2 := rr _ rm
        have re := en _ rm
        generalize rows[i] = r at hr hc rm r2 re
        refine ⟨rfl, _, rfl, _, rfl, ads[i], rfl, ⟨_, SqL.of (s4 _ _ hc)⟩, fun D2 hD2 => ?_⟩
        refine lc_it (walk_list (xs := r.map nI)) (fun j H' => ∃ tys : List Addr, H' D2 = some (.lst (tys.map V.ref)) ∧ tys.length = j ∧ (∀ (i : Nat) t e, tys[i]? = some t → (entsAt ts (r.take j))[i]? = some e → A2 H t e) ∧ Same H4 H')
          ⟨[], upd_same, rfl, (fun i t e z => by cases z), same_upd hD2⟩ (fun j H' _ ⟨_, _, _, _, z⟩ => SqL.of (z _ _ (s4 _ _ hc))) ?_ ?_
        · rintro j x H6z H6 hj ⟨tys, ht, tl, tA, s6⟩ ⟨rfl, hx⟩
          rw [List.length_map] at hj
          have hk : r[j]? = some r[j] := List.getElem?_eq_getElem hj
          rw [List.getElem?_map, hk] at hx
          obtain rfl : nI r[j] = x := Option.some.inj hx
          obtain ⟨e, he⟩ := re _ (List.mem_of_getElem? hk)
          obtain ⟨y, hy, yA⟩ := tx.at' he
          cases yA with
          | @ent tp _ a4 =>
          refine ⟨rfl, ?_⟩
          refine ⟨_, rfl, _, rfl, w, xs, (r[j] : Nat), .ref tp, rfl, rfl, SqT.of (s6 _ _ (s4 _ _ (s03 _ _ hw))), atI_nat hy, _, ht, by rw [List.length_map, tl, sizeLine_eq]; omega, tys ++ [tp], by rw [List.map_append]; exact upd_same, by rw [List.length_append, tl]; rfl, fun q u e' h1 h2 => ?_, same_push hD2 s6⟩
          have es : entsAt ts (r.take (j + 1)) = entsAt ts (r.take j) ++ [e] := by
            unfold entsAt
            rw [take_one hk, List.map_append, List.map_cons, List.map_nil, entAt_of he]
          rw [es] at h2
          have le : (entsAt ts (r.take j)).length = j := by
            unfold entsAt
            rw [List.length_map, List.length_take]
            omega
          by_cases c : q < j
          · rw [List.getElem?_append_left (by omega)] at h1 h2
            exact tA q u e' h1 h2
          · have : q = j := by
              have := (List.getElem?_eq_some_iff.mp h1).1
              rw [List.length_append] at this
              simp only [List.length_cons, List.length_nil] at this
              omega
            subst this
            rw [List.getElem?_append_right (by omega), tl, Nat.sub_self] at h1
            rw [List.getElem?_append_right (by omega), le, Nat.sub_self] at h2
            cases h1
            cases h2
            exact a4
        · rintro H6 ⟨tys, ht, tl, tA, s6⟩
          rw [List.length_map] at tl tA
          rw [List.take_length] at tA
          have s06 := (s03.trans s4).trans s6
          have el : (entsAt ts r).length = r.length := by
            unfold entsAt
            rw [List.length_map]
          refine ⟨f, D2, fr, last, entsAt ts r, rfl, fa.same s06, fm, ⟨tys, ht, by rw [tl, el], fun q u e' h1 h2 => s06 _ _ (tA q u e' h1 h2)⟩, fun e he => ?_, by rw [el]; exact r2, fun H8 s8 => ?_⟩
          · obtain ⟨k, hk, rfl⟩ := List.mem_map.mp he
            obtain ⟨e, he⟩ := re k hk
            rw [entAt_of he]
            exact entT e (List.mem_of_getElem? he)
          · refine ⟨_, s8 _ _ (s6 _ _ hd), by rw [List.length_map, List.length_map, List.length_take, sizeLine_eq]; omega, ?_, same_push hD (s4.trans (s6.trans s8))⟩
            rw [take_one hr, List.map_append, List.map_append]
            exact upd_same
      · rintro H4 ⟨hd, s4⟩
        rw [List.length_map, al, List.take_length, ← fis] at hd
        refine ⟨D, _, rfl, .inl ⟨SqL.of hd, fun p hp => ?_⟩⟩
        have up := same_upd (o := HO.tup ((filesF fr byP ts).map V.str)) hp
        have ep := upd_same (H := H4) (a := p) (o := HO.tup ((filesF fr byP ts).map V.str))
        have s04 := (s03.trans s4).trans up
        have s34 := s4.trans up
        generalize upd H4 p (.tup ((filesF fr byP ts).map V.str)) = HP at up ep s04 s34 ⊢
        refine ⟨_, rfl, _, rfl, _, rfl, f, w, fr, last, ts, byP, rfl, fa.same s04, fm, ta.same s04, rg, fun H5 p5 s5 _ e5 => ?_⟩
        refine ⟨.ref p5, dS (filesF fr byP ts), rfl, Da.dp _ _ (da_S e5), okIS.sh, okIS.nd, szI, dpI, ?_⟩
        refine ⟨_, rfl, .ref p, dS (filesF fr byP ts), rfl, Da.dp _ _ (da_S (s5 _ _ ep)), okIS.sh, okIS.nd, szI, dpI, rfl, _, rfl, iteF' (by simp) ?_⟩
        have s05 := s04.trans s5
        refine ⟨_, rfl, _, rfl, _, rfl, f, w, fr, last, ts, byP, rfl, fa.same s05, fm, ta.same s05, rg, fun H6 p6 s6 _ e6 => ?_⟩
        refine ⟨.ref p6, dS (fatesF fr byP ts), rfl, Da.dp _ _ (da_S e6), okAS.sh, okAS.nd, szA, dpA, ?_⟩
        have s06 := s05.trans s6
        refine ⟨_, rfl, _, rfl, _, rfl, f, w, R, fr, last, ts, rows, rfl, fa.same s06, fm, ta.same s06, l200, entT, rA.same (s34.trans (s5.trans s6)), en, rl, rr, fun H7 p7 s7 e7 => ?_⟩
        rw [ftis] at e7
        refine ⟨.ref p7, dS (fatesF fr byP ts), rfl, Da.dp _ _ (da_S e7), okAS.sh, okAS.nd, szA, dpA, rfl, _, rfl, iteF' (by simp) ?_⟩
        exact ⟨_, _, _, rfl, s1.trans (s3.trans (s34.trans (s5.trans (s6.trans s7))))⟩
    · rintro σ H1 ⟨v3, v4, v7, rfl, s1⟩
      have s01 := u0.trans s1
      refine ⟨_, rfl, _, rfl, f, w, fr, last, ts.map dT, rfl, fa.same s01, fm, (ta.same s01).da, by rw [List.length_map]; exact l200, rg.go, fun H2 s2 => ?_⟩
      have s02 := s01.trans s2
      refine ⟨.ref w, .tuple (ts.map dT), rfl, Da.dp _ _ (ta.same s02).da, okTh.sh, okTh.nd, szT, dpT, ?_⟩
      refine ⟨_, rfl, rfl, _, rfl, iteT' (decide_eq_true rfl) ?_⟩
      refine ⟨_, rfl, .ref w, .tuple (ts.map dT), rfl, Da.dp _ _ (ta.same s02).da, okTh.sh, okTh.nd, szT, dpT, ?_⟩
      refine ⟨_, rfl, rfl, ?_⟩
      rw [decide_eq_true rfl]
      exact q _ s02
end
end K41

set_option Elab.async false
set_option linter.all false
set_option maxRecDepth 100000
set_option maxHeartbeats 4000000
/-! _law_many_right. -/
namespace K41
open PySem L2 L2.EV
/-- an expression that makes these texts, or things -/
def GS (t : TE) (σ : L2.St) (ss : List Str) : Prop := ∀ (H : Hp) (Q : VK), (∀ p H', Same H H' → H' p = some (.tup (ss.map V.str)) → Q (.ref p) H') → t σ H Q
def GT (t : TE) (σ : L2.St) (ts : List Tn) : Prop := ∀ (H : Hp) (Q : VK), (∀ w H', Same H H' → ThA H' w ts → Q (.ref w) H') → t σ H Q
def GN (t : TE) (σ : L2.St) (n : Nat) : Prop := ∀ (H : Hp) (Q : VK), Q (.int (n : Int)) H → t σ H Q
theorem gs_lit {σ : L2.St} {ss : List Str} (l : ss.length ≤ 1000) : GS (tTup (strT ss)) σ ss := fun H Q h => str_tup l h
theorem gt_lit {σ : L2.St} {ts : List Tn} (l : ts.length ≤ 1000) : GT (tTup (litT ts)) σ ts := fun H Q h => lit_tup l h
theorem gs_rep {σ : L2.St} {t tn : TE} {ss : List Str} {n : Nat} (h : GS t σ ss) (hn : GN tn σ n) (ne : ss ≠ []) (l : ss.length ≤ 1000) (l2 : n ≤ 1000) : GS (tOp rRepA t tn) σ (List.replicate n ss).flatten := fun H Q q => by
  refine h H _ fun p H1 s1 e1 => hn H1 _ ⟨p, n, ss.map V.str, rfl, rfl, e1, fun z => ne (by simpa using z), by omega, by omega, by rw [List.length_map]; exact l, fun H2 p2 s2 e2 => q p2 H2 (s1.trans s2) ?_⟩
  rw [Int.toNat_natCast] at e2
  rw [e2, List.map_flatten, List.map_replicate]
theorem gt_rep {σ : L2.St} {t tn : TE} {ts : List Tn} {n : Nat} (h : GT t σ ts) (hn : GN tn σ n) (ne : ts ≠ []) (l : ts.length ≤ 1000) (l2 : n ≤ 1000) : GT (tOp rRepA t tn) σ (List.replicate n ts).flatten := fun H Q q => by
  refine h H _ fun w H1 s1 ta => hn H1 _ ?_
  obtain ⟨xs, e1, tx⟩ := ta
  have le := tx.len
  refine ⟨w, n, xs, rfl, rfl, e1, fun z => ne (by rw [z] at le; exact List.eq_nil_of_length_eq_zero le.symm), by omega, by omega, by omega, fun H2 p2 s2 e2 => q p2 H2 (s1.trans s2) ⟨_, e2, ?_⟩⟩
  rw [Int.toNat_natCast]
  exact (tx.same s2).rep n
theorem gs_cat {σ : L2.St} {t u : TE} {ss rs : List Str} (h1 : GS t σ ss) (h2 : GS u σ rs) (l : ss.length + rs.length ≤ 1000) : GS (tOp rCatZ t u) σ (ss ++ rs) := fun H Q q => by
  refine h1 H _ fun p H1 s1 e1 => h2 H1 _ fun p2 H2 s2 e2 => ⟨p, p2, _, _, rfl, rfl, s2 _ _ e1, e2, by rw [List.length_map, List.length_map, sizeLine_eq]; omega, fun H3 p3 s3 e3 => q p3 H3 (s1.trans (s2.trans s3)) ?_⟩
  rw [e3, List.map_append]
theorem gt_cat {σ : L2.St} {t u : TE} {ts us : List Tn} (h1 : GT t σ ts) (h2 : GT u σ us) (l : ts.length + us.length ≤ 1000) : GT (tOp rCatZ t u) σ (ts ++ us) := fun H Q q => by
  refine h1 H _ fun p H1 s1 ta => h2 H1 _ fun p2 H2 s2 tb => ?_
  obtain ⟨xs, e1, tx⟩ := ta
  obtain ⟨ys, e2, ty⟩ := tb
  exact ⟨p, p2, _, _, rfl, rfl, s2 _ _ e1, e2, by rw [tx.len, ty.len, sizeLine_eq]; omega, fun H3 p3 s3 e3 => q p3 H3 (s1.trans (s2.trans s3)) ⟨_, e3, ((tx.same s2).same s3).app (ty.same s3)⟩⟩
theorem gn_var {σ : L2.St} {j n : Nat} (h : σ[j]? = some (some (.int (n : Int)))) : GN (tVar j) σ n := fun H Q q => ⟨_, h, q⟩
theorem ok_rep {s : Str} (h : PyData.strOk s = true) (n : Nat) : ∀ x ∈ (List.replicate n [s]).flatten, PyData.strOk x = true := fun x hx => by
  obtain ⟨l, hl, hx⟩ := List.mem_flatten.mp hx
  rw [(List.mem_replicate.mp hl).2] at hx
  rw [List.mem_singleton.mp hx]
  exact h
theorem gn_less {σ : L2.St} {j n : Nat} (h : σ[j]? = some (some (.int ((n + 1 : Nat) : Int)))) : GN (tOp (rI0 fun i j => V.int (i - j)) (tVar j) (tC (.int 1))) σ n := fun H Q q => ⟨_, h, _, 1, rfl, rfl, by
  have e : ((n + 1 : Nat) : Int) - 1 = (n : Int) := by omega
  show Q (.int (((n + 1 : Nat) : Int) - 1)) H
  rw [e]
  exact q⟩
theorem len_rep {α : Type} (x : α) (n : Nat) : (List.replicate n [x]).flatten.length = n := by simp
theorem and_v {ta tb : TE} {σ : L2.St} {H : Hp} {Q : VK} (h : ta σ H fun x H1 => ∃ c, x = .bl c ∧ if c = true then tb σ H1 Q else Q (.bl false) H1) : tAndV ta tb σ H Q := h
theorem TnS.drop {H : Hp} : ∀ {xs : List V} {ts : List Tn} (n : Nat), TnS H xs ts → TnS H (xs.drop n) (ts.drop n)
  | _, _, 0, h => h
  | _, _, n + 1, .nil => .nil
  | _, _, n + 1, .cons _ t => t.drop n
theorem TnS.take {H : Hp} : ∀ {xs : List V} {ts : List Tn} (n : Nat), TnS H xs ts → TnS H (xs.take n) (ts.take n)
  | _, _, 0, h => .nil
  | _, _, n + 1, .nil => .nil
  | _, _, n + 1, .cons h t => .cons h (t.take n)
/-- a part of a thing -/
theorem gt_cut {kk : PySem.W.Frag} {H0 : Hp} {w : Addr} {ts : List Tn} {lo hi : Nat} (ta : ThA H0 w ts) : ∀ (H : Hp) (Q : VK), Same H0 H → (∀ p H', Same H H' → ThA H' p ((ts.drop (min lo ts.length)).take (min hi ts.length - min lo ts.length)) → Q (.ref p) H') →
    rSlW kk (.ref w) (some (lo : Int)) (some (hi : Int)) H Q := fun H Q s q => by
  obtain ⟨xs, hw, tx⟩ := ta
  refine ⟨w, xs, rfl, s _ _ hw, fun p H' s' e => q p H' s' ?_⟩
  have cv : cutV xs (some (lo : Int)) (some (hi : Int)) = (xs.drop (min lo xs.length)).take (min hi xs.length - min lo xs.length) := by
    unfold cutV
    rw [HT.sIx_nat, HT.sIx_nat]
  rw [cv, tx.len] at e
  exact ⟨_, e, ((tx.same (s.trans s')).drop _).take _⟩
theorem gt_upto {kk : PySem.W.Frag} {H0 : Hp} {w : Addr} {ts : List Tn} {hi : Nat} (ta : ThA H0 w ts) : ∀ (H : Hp) (Q : VK), Same H0 H → (∀ p H', Same H H' → ThA H' p (ts.take (min hi ts.length)) → Q (.ref p) H') →
    rSlW kk (.ref w) none (some (hi : Int)) H Q := fun H Q s q => by
  obtain ⟨xs, hw, tx⟩ := ta
  refine ⟨w, xs, rfl, s _ _ hw, fun p H' s' e => q p H' s' ?_⟩
  have cv : cutV xs none (some (hi : Int)) = xs.take (min hi xs.length) := by
    unfold cutV
    rw [HT.sIx_none, HT.sIx_nat, List.drop_zero, Nat.sub_zero]
  rw [cv, tx.len] at e
  exact ⟨_, e, (tx.same (s.trans s')).take _⟩
theorem cat_th {H : Hp} {a b : Addr} {ts us : List Tn} {Q : VK} (ta : ThA H a ts) (tb : ThA H b us) (l : ts.length + us.length ≤ 1000) (q : ∀ p H', Same H H' → ThA H' p (ts ++ us) → Q (.ref p) H') : rCatZ (.ref a) (.ref b) H Q := by
  obtain ⟨xs, e1, tx⟩ := ta
  obtain ⟨ys, e2, ty⟩ := tb
  exact ⟨a, b, _, _, rfl, rfl, e1, e2, by rw [tx.len, ty.len, sizeLine_eq]; omega, fun H3 p3 s3 e3 => q p3 H3 s3 ⟨_, e3, (tx.same s3).app (ty.same s3)⟩⟩
theorem st_asg {σ : L2.St} {H : Hp} {te : TE} {gg : TG} {D : Ends} {ts : TS} (h : te σ H fun x H1 => gg x σ H1 (ts D)) : tSeq (tAsg te gg) ts D σ H := h
theorem op_ab {r : R2} {ta tb : TE} {σ : L2.St} {H : Hp} {Q : VK} (h : ta σ H fun x H1 => tb σ H1 fun y H2 => r x y H2 Q) : tOp r ta tb σ H Q := h
/-- the literal of a framing -/
def litF : List T3 → TA
  | [] => tNil
  | x :: r => tCons (tTup (tCons (tC (.int x.1)) (tCons (tC (.str x.2.1)) (tCons (tC (.int x.2.2)) tNil)))) (litF r)
theorem At3.cons {H : Hp} {t : Addr} {x : T3} {ts : List Addr} {xs : List T3} (e : S3 H t x) (h : At3 H ts xs) : At3 H (t :: ts) (x :: xs) := by
  refine ⟨by rw [List.length_cons, List.length_cons, h.1], fun i u y h1 h2 => ?_⟩
  cases i with
  | zero =>
    cases h1
    cases h2
    exact e
  | succ i => exact h.2 i u y (by simpa using h1) (by simpa using h2)
theorem litF_ok : ∀ {fr : List T3} {σ : L2.St} {H : Hp} {R : List V → Hp → Prop}, (∀ ts H', Same H H' → At3 H' ts fr → R (ts.map V.ref) H') → litF fr σ H R
  | [], σ, H, R, h => h [] H (Same.refl H) ⟨rfl, fun i t x h => by cases h⟩
  | x :: r, σ, H, R, h => ⟨(by show 3 ≤ sizeLine; decide), fun p np => litF_ok (fr := r) fun ts H' s t => h (p :: ts) _ ((same_upd np).trans s) (At3.cons (s _ _ upd_same) t)⟩
theorem fr_tup {fr : List T3} {σ : L2.St} {H : Hp} {Q : VK} (l : fr.length ≤ 1000) (h : ∀ f H', Same H H' → FrA H' f fr → Q (.ref f) H') : tTup (litF fr) σ H Q := by
  refine litF_ok fun ts H' s t => ⟨by rw [List.length_map, t.1, sizeLine_eq]; omega, fun p np => ?_⟩
  have u := same_upd (o := HO.tup (ts.map V.ref)) np
  exact h p _ (s.trans u) ⟨ts, upd_same, t.1, fun i a x h1 h2 => u _ _ (t.2 i a x h1 h2)⟩
def goB (fr : List T3) (es : List E2) : Bool := (es.all fun e => decide (0 ≤ e.1) && decide (e.1 < 8) && decide (0 ≤ e.2) && decide (e.2 < (fr.length : Int))) && (List.range es.length).all fun i => decide ((plc fr (es.take i))[(es.getD i (0, 0)).1.toNat]? = some (stt fr (es.getD i (0, 0)).2).1)
theorem go_of {fr : List T3} {es : List E2} (h : goB fr es = true) : Go fr es := by
  unfold goB at h
  rw [Bool.and_eq_true] at h
  obtain ⟨a, b⟩ := h
  refine ⟨fun e he => ?_, fun i e he => ?_⟩
  · have z := List.all_eq_true.mp a e he
    rw [Bool.and_eq_true, Bool.and_eq_true, Bool.and_eq_true] at z
    exact ⟨of_decide_eq_true z.1.1.1, of_decide_eq_true z.1.1.2, of_decide_eq_true z.1.2, of_decide_eq_true z.2⟩
  · have il := (List.getElem?_eq_some_iff.mp he).1
    have z := of_decide_eq_true (List.all_eq_true.mp b i (List.mem_range.mpr il))
    have g : es.getD i (0, 0) = e := by
      rw [List.getD_eq_getElem?_getD, he]
      rfl
    rw [g] at z
    exact z
def frR : List T3 := [(0, "@a", 1), (1, "b", 2), (2, "@", 3), (3, "c", 4), (4, "1", 5), (5, "x;", 0)]
theorem frR_ok : Frm frR 5 := by
  have p0 : Pc "@a" (decide ((1 : Int) = 0)) := ⟨[64, 97], by decide +kernel, by decide +kernel, by decide +kernel, fun _ => by simp⟩
  have p1 : Pc "b" (decide ((2 : Int) = 0)) := ⟨[98], by decide +kernel, by decide +kernel, by decide +kernel, fun _ => by simp⟩
  have p2 : Pc "@" (decide ((3 : Int) = 0)) := ⟨[64], by decide +kernel, by decide +kernel, by decide +kernel, fun _ => by simp⟩
  have p3 : Pc "c" (decide ((4 : Int) = 0)) := ⟨[99], by decide +kernel, by decide +kernel, by decide +kernel, fun _ => by simp⟩
  have p4 : Pc "1" (decide ((5 : Int) = 0)) := ⟨[49], by decide +kernel, by decide +kernel, by decide +kernel, fun _ => by simp⟩
  have p5 : Pc "x;" (decide ((0 : Int) = 0)) := ⟨[120], by decide +kernel, by decide +kernel, by decide +kernel, fun _ => by simp⟩
  have cs : ∀ x ∈ frR, x = ((0, "@a", 1) : T3) ∨ x = ((1, "b", 2) : T3) ∨ x = ((2, "@", 3) : T3) ∨ x = ((3, "c", 4) : T3) ∨ x = ((4, "1", 5) : T3) ∨ x = ((5, "x;", 0) : T3) := fun x hx => by simpa [frR] using hx
  refine ⟨by decide, by decide, fun x hx => ?_, by decide +kernel, fun k hk => ?_, fun x hx => ?_, by decide⟩
  · rcases cs x hx with rfl | rfl | rfl | rfl | rfl | rfl
    · exact ⟨by decide, by decide, p0, by decide, by decide⟩
    · exact ⟨by decide, by decide, p1, by decide, by decide⟩
    · exact ⟨by decide, by decide, p2, by decide, by decide⟩
    · exact ⟨by decide, by decide, p3, by decide, by decide⟩
    · exact ⟨by decide, by decide, p4, by decide, by decide⟩
    · exact ⟨by decide, by decide, p5, by decide, by decide⟩
  · match k, hk with
    | 0, _ => exact ⟨((0, "@a", 1) : T3), by simp [frR], rfl, rfl⟩
    | 1, _ => exact ⟨((1, "b", 2) : T3), by simp [frR], rfl, rfl⟩
    | 2, _ => exact ⟨((2, "@", 3) : T3), by simp [frR], rfl, rfl⟩
    | 3, _ => exact ⟨((3, "c", 4) : T3), by simp [frR], rfl, rfl⟩
    | 4, _ => exact ⟨((4, "1", 5) : T3), by simp [frR], rfl, rfl⟩
    | 5, _ => exact ⟨((5, "x;", 0) : T3), by simp [frR], rfl, rfl⟩
  · rcases cs x hx with rfl | rfl | rfl | rfl | rfl | rfl <;> exact ⟨by decide, by decide⟩
abbrev five : List Int := [7, 4, 6, 5, 0]
abbrev tA5 : List Tn := five.map fun i => Tn.ent (i, 0)
abbrev tB5 : List Tn := [.turn, .ent (7, 1), .ent (4, 1), .ent (7, 2), .ent (6, 1), .copy]
abbrev tC5 : List Tn := [.ent (7, 3), .ent (5, 1), .ent (7, 4), .turn, .ent (7, 5), .ent (4, 2), .ent (7, 0), .cut, .ent (4, 3), .ent (4, 4), .ent (4, 5), .ent (6, 2)]
abbrev tAll : List Tn := (tA5 ++ tB5) ++ tC5
abbrev tMix : List Tn := ((tAll.drop (min 5 tAll.length)).take (min 6 tAll.length - min 5 tAll.length)) ++ tAll.take (min 5 tAll.length)
theorem goAll : Go frR (entsT tAll) := go_of (by decide +kernel)
theorem goMix : Go frR (entsT tMix) := go_of (by decide +kernel)
abbrev sMany : Stmt := top 52
def spMany : Sp := fun vs H Q _ => vs = [] ∧ ∀ H', Same H H' → Q (.bl true) H'
structure Lm (K : PySem.W.Frag) (mg : Str → Option Value) where
  R : Lr2 K mg
  f : Addr
  d : FuncData
  F : Fun K "_law_many_right" "_law_many_right" sMany f d
  b : Binds K d [] []
  m : mg "_law_many_right" = some (.ref f)
abbrev NM : List Str := ["ring", "writer", "thing"]
section
variable {P : Program} {w : World} {K : PySem.W.Frag} {mg : Str → Option Value} {base : Heap}
theorem scMany : FnScope NM [] (defScope sMany) := ⟨rfl, rfl, rfl, by decide +kernel, rfl, by decide +kernel, by decide +kernel⟩
theorem ok_many (L : Lm K mg) : FnG P w K mg base CX0 7 L.f L.d [] spMany := by
  have GR : FnG P w K mg base CX0 6 L.R.f L.R.d ["framing", "thing"] spRight := ok_right L.R
  refine okG L.F scMany (fun vs H Q E h => ?_) (fun cdv A outer s H vs Q E r6 hgd h => ?_)
  · rw [h.1]
    rfl
  · obtain ⟨rfl, q⟩ := h
    have gd : (A.deeper (PyProof.Rows.envOfC "_law_many_right" (defScope sMany) s.heap.objs.size L.f cdv)).guards = some [] := hgd
    refine ⟨_, pss_cons (ps_set (i := 0) scMany.nd rfl (Or.inl rfl) (pe_tup (pa_cons (pe_tup (pa_cons pe_int (pa_cons pe_str (pa_cons pe_int pa_nil)))) (pa_cons (pe_tup (pa_cons pe_int (pa_cons pe_str (pa_cons pe_int pa_nil)))) (pa_cons (pe_tup (pa_cons pe_int (pa_cons pe_str (pa_cons pe_int pa_nil)))) (pa_cons (pe_tup (pa_cons pe_int (pa_cons pe_str (pa_cons pe_int pa_nil)))) (pa_cons (pe_tup (pa_cons pe_int (pa_cons pe_str (pa_cons pe_int pa_nil)))) (pa_cons (pe_tup (pa_cons pe_int (pa_cons pe_str (pa_cons pe_int pa_nil)))) pa_nil))))))))
      (pss_cons (ps_set (i := 2) scMany.nd rfl (Or.inl rfl) (pe_op op_catZ (pe_callTy call_tuple_of (by rfl) L.R.tu (by decide +kernel) (pa_cons (pe_lc (own := [("writer", 1)]) (g := gName 1) (te := tTup (tCons (tVar 1) (tCons (tC (.int 0)) tNil))) rfl scMany.nd (pi_tup (pe_tup (pa_cons pe_int (pa_cons pe_int (pa_cons pe_int (pa_cons pe_int (pa_cons pe_int pa_nil)))))))
          (blkOk_by (N := NM) (sc := defScope sMany) (by decide +kernel))
          (fun _ _ _ _ _ => pg_name (i := 1) scMany.nd rfl (Or.inl rfl)) (fun _ _ _ _ _ => pts_nil) (fun _ _ _ _ _ => pe_tup (pa_cons (pv 1) (pa_cons pe_int pa_nil)))) pa_nil)) (pe_tup (pa_cons pe_str (pa_cons (pe_tup (pa_cons pe_int (pa_cons pe_int pa_nil))) (pa_cons (pe_tup (pa_cons pe_int (pa_cons pe_int pa_nil))) (pa_cons (pe_tup (pa_cons pe_int (pa_cons pe_int pa_nil))) (pa_cons (pe_tup (pa_cons pe_int (pa_cons pe_int pa_nil))) (pa_cons pe_str pa_nil)))))))))
      (pss_cons (ps_set (i := 2) scMany.nd rfl (Or.inl rfl) (pe_op op_catZ (pv 2) (pe_tup (pa_cons (pe_tup (pa_cons pe_int (pa_cons pe_int pa_nil))) (pa_cons (pe_tup (pa_cons pe_int (pa_cons pe_int pa_nil))) (pa_cons (pe_tup (pa_cons pe_int (pa_cons pe_int pa_nil))) (pa_cons pe_str (pa_cons (pe_tup (pa_cons pe_int (pa_cons pe_int pa_nil))) (pa_cons (pe_tup (pa_cons pe_int (pa_cons pe_int pa_nil))) (pa_cons (pe_tup (pa_cons pe_int (pa_cons pe_int pa_nil))) (pa_cons pe_str (pa_cons (pe_tup (pa_cons pe_int (pa_cons pe_int pa_nil))) (pa_cons (pe_tup (pa_cons pe_int (pa_cons pe_int pa_nil))) (pa_cons (pe_tup (pa_cons pe_int (pa_cons pe_int pa_nil))) (pa_cons (pe_tup (pa_cons pe_int (pa_cons pe_int pa_nil))) pa_nil)))))))))))))))
      (pss_one (ps_ret (pe_and (pe_callG GR r6 gd (by rfl) L.R.m L.R.F.kp L.R.b pass0 (pa_cons (pv 0) (pa_cons (pv 2) pa_nil)))
        (pe_one (pe_callG GR r6 gd (by rfl) L.R.m L.R.F.kp L.R.b pass0 (pa_cons (pv 0) (pa_cons (pe_op op_catZ (pe_slice sl_tupS (pv 2) (po_some pe_int) (po_some pe_int)) (pe_slice sl_tupS (pv 2) po_none (po_some pe_int))) pa_nil))))))))), ?_⟩
    refine st_asg (fr_tup (fr := frR) (by decide) fun f H1 s1 fa => ?_)
    refine st_asg (op_ab ?_)
    refine ⟨(by show 5 ≤ sizeLine; decide), fun t0 n0 => ⟨t0, rfl, ⟨_, SqT.of upd_same⟩, fun D hD => ?_⟩⟩
    have u0 := same_upd (o := HO.tup [V.int 7, V.int 4, V.int 6, V.int 5, V.int 0]) n0
    have e0 := upd_same (H := H1) (a := t0) (o := HO.tup (five.map V.int))
    have e0 : (upd H1 t0 (.tup [V.int 7, V.int 4, V.int 6, V.int 5, V.int 0])) t0 = some (.tup (five.map V.int)) := e0
    generalize upd H1 t0 (.tup [V.int 7, V.int 4, V.int 6, V.int 5, V.int 0]) = HS at u0 e0 hD ⊢
    refine lc_it (walk_tup (xs := five.map V.int)) (fun i H' => ∃ ys : List V, H' D = some (.lst ys) ∧ TnS H' ys (tA5.take i) ∧ ys.length = i ∧ Same HS H') ⟨[], upd_same, .nil, rfl, same_upd hD⟩ (fun i H' _ ⟨_, _, _, _, z⟩ => SqT.of (z _ _ e0)) ?_ ?_
    · rintro i x H2z H2 hi ⟨ys, hd, ty, yl, s2⟩ ⟨rfl, hx⟩
      have hi5 : i < 5 := hi
      obtain ⟨v, hv, rfl⟩ : ∃ v, five[i]? = some v ∧ x = .int v := by
        rw [List.getElem?_map] at hx
        cases e : five[i]? with
        | none =>
          rw [e] at hx
          cases hx
        | some v =>
          rw [e] at hx
          exact ⟨v, rfl, (Option.some.inj hx).symm⟩
      refine ⟨rfl, _, rfl, (by show 2 ≤ sizeLine; decide), fun p np => ?_⟩
      have up := same_upd (o := HO.tup [V.int v, V.int 0]) np
      have hd2 := up _ _ hd
      refine ⟨_, hd2, by rw [yl, sizeLine_eq]; omega, ys ++ [.ref p], upd_same, ?_, by rw [List.length_append, yl]; rfl, same_push hD (s2.trans up)⟩
      have ht : tA5[i]? = some (Tn.ent (v, 0)) := by
        show (five.map fun i => Tn.ent (i, 0))[i]? = _
        rw [List.getElem?_map, hv]
        rfl
      rw [take_snoc ht]
      exact ((ty.same up).snoc (.ent (e := (v, 0)) upd_same)).keep (keepT_upd hd2 (fun xs z => by cases z))
    · rintro H2 ⟨ys, hd, ty, yl, s2⟩
      have ty : TnS H2 ys tA5 := ty
      refine ⟨D, _, rfl, .inl ⟨SqL.of hd, fun p hp => ?_⟩⟩
      have up := same_upd (o := HO.tup ys) hp
      have tp : ThA (upd H2 p (.tup ys)) p tA5 := ⟨ys, upd_same, ty.same up⟩
      generalize upd H2 p (.tup ys) = H3 at up tp ⊢
      refine lit_tup (ts := tB5) (by decide) fun w4 H4 s4 t4 => ?_
      refine cat_th (tp.same s4) t4 (by decide) fun w5 H5 s5 t5 => ?_
      refine st_asg (op_ab ?_)
      refine ⟨_, rfl, lit_tup (ts := tC5) (by decide) fun w6 H6 s6 t6 => ?_⟩
      refine cat_th (t5.same s6) t6 (by decide) fun w7 H7 s7 t7 => ?_
      have s17 := u0.trans (s2.trans (up.trans (s4.trans (s5.trans (s6.trans s7)))))
      have fa7 := fa.same s17
      refine ⟨_, rfl, _, rfl, f, w7, frR, 5, tAll, rfl, fa7, frR_ok, t7, by decide, goAll, fun H8 s8 => ⟨_, rfl, iteT' rfl ?_⟩⟩
      have t8 := t7.same s8
      refine ⟨_, rfl, op_ab ?_⟩
      refine ⟨_, rfl, _, rfl, _, rfl, gt_cut (lo := 5) (hi := 6) t8 _ _ (Same.refl _) fun p1 H9 s9 t9 => ?_⟩
      refine ⟨_, rfl, _, rfl, gt_upto (hi := 5) (t8.same s9) _ _ (Same.refl _) fun p2 HA sA tA => ?_⟩
      refine cat_th (t9.same sA) tA (by decide) fun p3 HB sB tB => ?_
      refine ⟨f, p3, frR, 5, tMix, rfl, fa7.same (s8.trans (s9.trans (sA.trans sB))), frR_ok, tB, by decide, goMix, fun HC sC => ?_⟩
      exact q _ (s1.trans (s17.trans (s8.trans (s9.trans (sA.trans (sB.trans sC))))))
end
end K41

set_option Elab.async false
set_option linter.all false
set_option maxRecDepth 100000
set_option maxHeartbeats 8000000
/-! The law. -/
namespace K41
open PySem L2 L2.EV
abbrev sLaw : Stmt := top 53
theorem alone_run {fr : List T3} {byP : Bool} : ∀ {es : List E2} {n : Nat} {r hm : List Nat}, (∀ k, hm.getD k 0 = 0) → (runF fr byP (es.map Tn.ent) n ⟨[r], 0, hm⟩).rows = [r ++ List.range' n es.length]
  | [], n, r, hm, h => by
    show [r] = [r ++ []]
    rw [List.append_nil]
  | e :: es, n, r, hm, h => by
    have h2 : ∀ k, (if goes fr byP e = true then hm.set e.1.toNat 0 else hm).getD k 0 = 0 := fun k => by
      split
      · rw [List.getD_eq_getElem?_getD, List.getElem?_set]
        split
        · split <;> rfl
        · rw [← List.getD_eq_getElem?_getD]
          exact h k
      · exact h k
    have st : stepF fr byP ⟨[r], 0, hm⟩ n (.ent e) = ⟨[r ++ [n]], 0, if goes fr byP e = true then hm.set e.1.toNat 0 else hm⟩ := by
      show Fst.mk (List.set [r] _ _) _ _ = _
      rw [h2]
      rfl
    show (runF fr byP (es.map Tn.ent) (n + 1) (stepF fr byP ⟨[r], 0, hm⟩ n (.ent e))).rows = _
    rw [st, alone_run h2, List.append_assoc, List.length_cons, List.range'_succ]
    rfl
theorem alone_rows {fr : List T3} {byP : Bool} {es : List E2} : rowsF fr byP (es.map Tn.ent) = [List.range es.length] := by
  have z := alone_run (fr := fr) (byP := byP) (es := es) (n := 0) (r := []) (hm := List.replicate 8 0) (fun k => by
    rw [List.getD_eq_getElem?_getD, List.getElem?_replicate]
    split <;> rfl)
  rw [List.nil_append, ← List.range_eq_range'] at z
  exact z
theorem alone_ents {es : List E2} : entsAt (es.map Tn.ent) (List.range es.length) = es := by
  unfold entsAt
  apply List.ext_getElem?
  intro i
  rw [List.getElem?_map]
  by_cases c : i < es.length
  · rw [List.getElem?_range c, List.getElem?_eq_getElem c]
    show some (entAt (es.map Tn.ent) i) = _
    rw [entAt_of (e := es[i]) (by rw [List.getElem?_map, List.getElem?_eq_getElem c]; rfl)]
  · rw [List.getElem?_eq_none (l := List.range es.length) (by rw [List.length_range]; omega), List.getElem?_eq_none (by omega)]
    rfl
theorem alone_files {fr : List T3} {es : List E2} : filesF fr false (es.map Tn.ent) = [textE fr es] := by
  unfold filesF
  rw [alone_rows]
  show [textE fr (entsAt (es.map Tn.ent) (List.range es.length))] = _
  rw [alone_ents]
theorem alone_entsT : ∀ es : List E2, entsT (es.map Tn.ent) = es
  | [] => rfl
  | e :: es => by
    show e :: entsT (es.map Tn.ent) = _
    rw [alone_entsT es]
theorem alone_th {H : Hp} {w : Addr} {es : List E2} (h : WvA H w es) : ThA H w (es.map Tn.ent) := by
  obtain ⟨ts, e, l, c⟩ := h
  refine ⟨_, e, ?_⟩
  have key : ∀ (es : List E2) (ts : List Addr), ts.length = es.length → (∀ (i : Nat) t e, ts[i]? = some t → es[i]? = some e → A2 H t e) → TnS H (ts.map V.ref) (es.map Tn.ent) := by
    intro es
    induction es with
    | nil =>
      intro ts l c
      cases ts with
      | nil => exact .nil
      | cons t ts => cases l
    | cons x es ih =>
      intro ts l c
      cases ts with
      | nil => cases l
      | cons t ts => exact .cons (.ent (c 0 t x rfl rfl)) (ih ts (by simpa using l) fun i t e h1 h2 => c (i + 1) t e (by simpa using h1) (by simpa using h2))
  exact key es ts l c
structure Lall (K : PySem.W.Frag) (mg : Str → Option Value) where
  M : Lm K mg
  V : Lw K mg
  T : Lt K mg
  I : Fi K mg
  X : Lx K mg
  fB : Addr
  dB : FuncData
  Be : Fun K "_law_begun" "_law_begun" sBegun fB dB
  bB : Binds K dB ["script"] []
  mB : mg "_law_begun" = some (.ref fB)
  mi : mg "min" = none
def spLaw (K : PySem.W.Frag) : Sp := fun vs H Q _ => ∃ (a : Addr) (ns : List Int), vs = [.ref a] ∧ SqL K H a (ns.map V.int) ∧ ns.length ≤ 63 ∧ ∀ H', Q (.bl true) H'
abbrev NL : List Str := ["script", "m", "turn", "framing", "thing", "alone"]
section
variable {P : Program} {w : World} {K : PySem.W.Frag} {mg : Str → Option Value} {base : Heap}
theorem scLaw : FnScope NL ["script"] (defScope sLaw) := ⟨rfl, rfl, rfl, by decide +kernel, rfl, by decide +kernel, by decide +kernel⟩
theorem ok_law {f : Addr} {fd : FuncData} (F : Fun K "law" "law" sLaw f fd) (L : Lall K mg) : FnG P w K mg base CX0 8 f fd ["script"] (spLaw K) := by
  have GB : FnOk P w K mg base CX0 1 L.fB L.dB ["script"] (spBegun K) := ok_begun L.Be L.V.G.L.T
  have GX : FnOk P w K mg base CX0 1 L.V.G.L.f1 L.V.G.L.d1 ["m", "total"] spNext := ok_next L.V.G.L.N L.V.G.L.T
  have GF : FnOk P w K mg base CX0 3 L.V.G.f L.V.G.d ["m", "most"] spFraming := ok_framing L.V.G
  have GW : FnOk P w K mg base CX0 2 L.V.f2 L.V.d2 ["m", "framing", "writers", "total"] spWeave := ok_weave L.V
  have GT : FnOk P w K mg base CX0 2 L.T.f L.T.d ["m", "framing", "writers", "total"] spTurned := ok_turned L.T
  have GI : FnOk P w K mg base CX0 5 L.I.f L.I.d ["framing", "thing", "manner"] spFiles := ok_files L.I
  have GP : FnOk P w K mg base CX0 2 L.X.f2 L.X.d2 ["framing", "entries"] spPutT := ok_textT L.X
  have GR : FnG P w K mg base CX0 6 L.M.R.f L.M.R.d ["framing", "thing"] spRight := ok_right L.M.R
  have GM : FnG P w K mg base CX0 7 L.M.f L.M.d [] spMany := ok_many L.M
  refine okG F scLaw (fun vs H Q E h => ?_) (fun cdv A outer s H vs Q E r7 hgd h => ?_)
  · obtain ⟨a, ns, rfl, _⟩ := h
    rfl
  · obtain ⟨a, ns, rfl, hS, hlen, q⟩ := h
    have gd : (A.deeper (PyProof.Rows.envOfC "law" (defScope sLaw) s.heap.objs.size f cdv)).guards = some [] := hgd
    have hu64 := r7.units
    have r1 := r7.mono (j := 1) (by decide)
    have r2 := r7.mono (j := 2) (by decide)
    have r3 := r7.mono (j := 3) (by decide)
    have r5 := r7.mono (j := 5) (by decide)
    have r6 := r7.mono (j := 6) (by decide)
    refine ⟨_, pss_cons (ps_set (i := 1) scLaw.nd rfl (Or.inl rfl) (pe_call GB r1 (by rfl) L.mB L.Be.kp L.bB .nil pass0 (pa_cons (pv 0) pa_nil)))
      (pss_cons (ps_if (pt_not (pt_val (pe_callG0 GM r7 gd (by rfl) L.M.m L.M.F.kp L.M.b pass0))) (pss_one (ps_ret pe_bl)) pss_nil)
      (pss_cons (ps_for PassesOwn.never rfl (pi_range1 (by rfl) L.V.G.L.ra (pa_cons (pe_op op_add pe_int (pe_callB (call_min2 rfl) (by rfl) L.mi (by decide +kernel) (pa_cons (pe_callB call_len_seq (by rfl) L.V.G.L.T.len PySem.boot_len (pa_cons (pv 0) pa_nil)) (pa_cons pe_int pa_nil)))) pa_nil))
          (pg_name (i := 2) scLaw.nd rfl (Or.inl rfl))
        (pss_cons (ps_set (i := 3) scLaw.nd rfl (Or.inl rfl) (pe_call GF r3 (by rfl) L.V.G.g L.V.G.F.kp L.V.G.b .nil pass0 (pa_cons (pv 1) (pa_cons pe_int pa_nil))))
        (pss_cons (ps_set (i := 4) scLaw.nd rfl (Or.inl rfl) (pe_call GT r2 (by rfl) L.T.g L.T.T.kp L.T.b .nil pass0 (pa_cons (pv 1) (pa_cons (pv 3) (pa_cons (pe_op op_add pe_int (pe_call GX r1 (by rfl) L.V.G.L.mN L.V.G.L.N.kp L.V.G.L.bN .nil pass0 (pa_cons (pv 1) (pa_cons pe_int pa_nil)))) (pa_cons (pe_call GX r1 (by rfl) L.V.G.L.mN L.V.G.L.N.kp L.V.G.L.bN .nil pass0 (pa_cons (pv 1) (pa_cons pe_int pa_nil))) pa_nil))))))
        (pss_cons (ps_if (pt_not (pt_val (pe_callG GR r6 gd (by rfl) L.M.R.m L.M.R.F.kp L.M.R.b pass0 (pa_cons (pv 3) (pa_cons (pv 4) pa_nil))))) (pss_one (ps_ret pe_bl)) pss_nil)
        (pss_cons (ps_set (i := 5) scLaw.nd rfl (Or.inl rfl) (pe_call GW r2 (by rfl) L.V.gW L.V.W.kp L.V.bW .nil pass0 (pa_cons (pv 1) (pa_cons (pv 3) (pa_cons pe_int (pa_cons pe_int pa_nil))))))
        (pss_one (ps_if (pt_cmpR (op_neD hu64) (pe_call GI r5 (by rfl) L.I.m L.I.F.kp L.I.b .nil pass0 (pa_cons (pv 3) (pa_cons (pv 5) (pa_cons pe_str pa_nil)))) (pe_tup (pa_cons (pe_call GP r2 (by rfl) L.X.gT L.X.T.kp L.X.bT .nil pass0 (pa_cons (pv 3) (pa_cons (pv 5) pa_nil))) pa_nil)) (nomark _)) (pss_one (ps_ret pe_bl)) pss_nil)))))))
      (pss_one (ps_ret pe_bl)))), ?_⟩
    refine st_asg ?_
    refine ⟨_, rfl, a, ns, rfl, hS, by omega, fun m mc l0 H0 M0 hm hmc hl sm0 => ?_⟩
    refine ⟨rfl, fun H1 s1 => ⟨_, rfl, iteF' rfl ?_⟩⟩
    have M1 := M0.same s1
    have sm1 := sm0.trans s1
    have nl : (ns.map V.int).length ≤ 63 := by rw [List.length_map]; exact hlen
    refine ⟨_, rfl, a, _, rfl, .inl (sm1.seq hS), _, 6, rfl, 3, _, rfl, rfl, _, rfl, by split <;> omega, by split <;> omega, ?_⟩
    have hN : (3 + if (6 : Int) < ((ns.map V.int).length : Nat) then 6 else (((ns.map V.int).length : Nat) : Int)).toNat ≤ 9 := by split <;> omega
    generalize (3 + if (6 : Int) < ((ns.map V.int).length : Nat) then 6 else (((ns.map V.int).length : Nat) : Int)).toNat = N at hN ⊢
    refine for_it walk_range (fun i σ H' => ∃ (v2 v3 v4 v5 : Option V) (l : Addr) (k : Int), σ = [some (.ref a), some (.ref m), v2, v3, v4, v5] ∧ MAt H' m mc l k ∧ k ≤ 1000 * i)
      ⟨none, none, none, none, l0, 0, rfl, M1, by omega⟩ (fun _ _ _ _ _ => trivial) ?_ ?_
    · rintro i x σ H1z HX hi ⟨v2, v3, v4, v5, l1, k1, rfl, MX, kk1⟩ ⟨rfl, rfl⟩
      refine ⟨_, rfl, m, mc, l1, k1, rfl, MX, by omega, fun ff fr last H2 l2 k2 fa fm l12 d2 => ?_⟩
      refine ⟨_, rfl, _, rfl, _, rfl, m, mc, l2, k2, 4, rfl, d2.at_, by decide, by decide, by omega, fun r3 H3 l3 k3 a3 b3 g3 N3 f3 q3 => ?_⟩
      have d3 : Dr H2 H3 m mc l2 l3 k3 := ⟨N3, f3, q3⟩
      refine ⟨1, r3, rfl, rfl, ?_⟩
      refine ⟨_, rfl, m, mc, l3, k3, 41, rfl, N3, by decide, by decide, by omega, fun r4 H4 l4 k4 a4 b4 g4 N4 f4 q4 => ?_⟩
      have d4 : Dr H3 H4 m mc l3 l4 k4 := ⟨N4, f4, q4⟩
      have fa4 := d4.fr N3 (d3.fr d2.at_ fa)
      obtain ⟨nw, hnw⟩ : ∃ n : Nat, (1 : Int) + r3 = n := ⟨(1 + r3).toNat, by omega⟩
      obtain ⟨tot, htot⟩ : ∃ n : Nat, r4 = (n : Int) := ⟨r4.toNat, by omega⟩
      refine ⟨m, mc, l4, ff, k4, fr, last, nw, tot, by rw [← hnw, ← htot]; rfl, N4, by omega, fa4, fm, by omega, by omega, by omega, fun w5 xs ts H5 l5 k5 hw5 tx5 tl5 go5 kk5 d5 => ?_⟩
      have fa5 := d5.fr N4 fa4
      refine ⟨_, rfl, _, rfl, ff, w5, fr, last, ts, rfl, fa5, fm, ⟨xs, hw5, tx5⟩, by omega, go5, fun H6 s6 => ⟨_, rfl, iteF' rfl ?_⟩⟩
      have fa6 := fa5.same s6
      refine ⟨_, rfl, _, rfl, m, mc, l5, ff, k5, fr, last, 3, 20, rfl, d5.at_.same s6, by omega, fa6, fm, by decide, by decide, by decide, fun w7 es H7 l7 k7 wa wo kk7 d7 => ?_⟩
      have fa7 := d7.fr (d5.at_.same s6) fa6
      have go7 : Go fr (entsT (es.map Tn.ent)) := by
        rw [alone_entsT]
        exact ⟨wo.ent, wo.go⟩
      have le := wo.l
      refine ⟨_, rfl, _, rfl, ff, w7, fr, last, es.map Tn.ent, false, rfl, fa7, fm, alone_th wa, rgt_go (by rw [List.length_map]; omega) go7, fun H8 p8 s8 _ e8 => ?_⟩
      rw [alone_files] at e8
      refine ⟨_, rfl, _, rfl, ff, w7, fr, last, es, rfl, fa7.same s8, fm, wa.same s8, wo.ent, by omega, fun H9 s9 => ⟨(by show 1 ≤ sizeLine; decide), fun p9 n9 => ?_⟩⟩
      have u9 := same_upd (o := HO.tup [V.str (textE fr es)]) n9
      have okS : ∀ s ∈ [textE fr es], PyData.strOk s = true := fun s hs => by
        rw [List.mem_singleton.mp hs]
        have z := (okd_text fm wo.ent (show es.length ≤ 200 by omega)).lay
        simpa [PyData.canLay0] using z
      refine ⟨dS [textE fr es], dS [textE fr es], Da.dp _ _ (da_S ((s9.trans u9) _ _ e8)), Da.dp _ _ (da_S upd_same), sh_S okS, sh_S okS, _, rfl, iteF' (by rw [eqv_S, decide_eq_true rfl]; rfl) ?_⟩
      exact ⟨_, _, _, _, l7, k7, rfl, d7.at_.same (s8.trans (s9.trans u9)), by push_cast; omega⟩
    · rintro σ HE ⟨v2, v3, v4, v5, l, k, rfl, ME, kkE⟩
      exact q _
end
end K41

set_option Elab.async false
set_option linter.all false
set_option maxRecDepth 100000
set_option maxHeartbeats 8000000
/-! What the top has written. -/
namespace K41
open PySem L2 L2.EV PySem.Spec PyProof.Rows

theorem all_mk {P : Program} {w : World} {K : PySem.W.Frag} {h : Heap} {mg : Str → Option Value} {fa f_iN f_iP f_iS f_iL f_iW f_iJ f_iF f_wE f_wR f_pT f_pL f_tW f_tN f_tM f_tF f_tI f_tE f_tL f_tX f_tA f_lB f_lN f_lP f_lF f_lG f_lW f_lU f_lT f_lV f_lD f_lA f_lR f_lM f_la : Addr}
    {od_iN an_iN : Option Addr} {sl_iN : Array (Option Value)} {oc_iN kV_iN dc_iN pm_iN cd_iN ct_iN : Value}
    {od_iP an_iP : Option Addr} {sl_iP : Array (Option Value)} {oc_iP kV_iP dc_iP pm_iP cd_iP ct_iP : Value}
    {od_iS an_iS : Option Addr} {sl_iS : Array (Option Value)} {oc_iS kV_iS dc_iS pm_iS cd_iS ct_iS : Value}
    {od_iL an_iL : Option Addr} {sl_iL : Array (Option Value)} {oc_iL kV_iL dc_iL pm_iL cd_iL ct_iL : Value}
    {od_iW an_iW : Option Addr} {sl_iW : Array (Option Value)} {oc_iW kV_iW dc_iW pm_iW cd_iW ct_iW : Value}
    {od_iJ an_iJ : Option Addr} {sl_iJ : Array (Option Value)} {oc_iJ kV_iJ dc_iJ pm_iJ cd_iJ ct_iJ : Value}
    {od_iF an_iF : Option Addr} {sl_iF : Array (Option Value)} {oc_iF kV_iF dc_iF pm_iF cd_iF ct_iF : Value}
    {od_wE an_wE : Option Addr} {sl_wE : Array (Option Value)} {oc_wE kV_wE dc_wE pm_wE cd_wE ct_wE : Value}
    {od_wR an_wR : Option Addr} {sl_wR : Array (Option Value)} {oc_wR kV_wR dc_wR pm_wR cd_wR ct_wR : Value}
    {od_pT an_pT : Option Addr} {sl_pT : Array (Option Value)} {oc_pT kV_pT dc_pT pm_pT cd_pT ct_pT : Value}
    {od_pL an_pL : Option Addr} {sl_pL : Array (Option Value)} {oc_pL kV_pL dc_pL pm_pL cd_pL ct_pL : Value}
    {od_tW an_tW : Option Addr} {sl_tW : Array (Option Value)} {oc_tW kV_tW dc_tW pm_tW cd_tW ct_tW : Value}
    {od_tN an_tN : Option Addr} {sl_tN : Array (Option Value)} {oc_tN kV_tN dc_tN pm_tN cd_tN ct_tN : Value}
    {od_tM an_tM : Option Addr} {sl_tM : Array (Option Value)} {oc_tM kV_tM dc_tM pm_tM cd_tM ct_tM : Value}
    {od_tF an_tF : Option Addr} {sl_tF : Array (Option Value)} {oc_tF kV_tF dc_tF pm_tF cd_tF ct_tF : Value}
    {od_tI an_tI : Option Addr} {sl_tI : Array (Option Value)} {oc_tI kV_tI dc_tI pm_tI cd_tI ct_tI : Value}
    {od_tE an_tE : Option Addr} {sl_tE : Array (Option Value)} {oc_tE kV_tE dc_tE pm_tE cd_tE ct_tE : Value}
    {od_tL an_tL : Option Addr} {sl_tL : Array (Option Value)} {oc_tL kV_tL dc_tL pm_tL cd_tL ct_tL : Value}
    {od_tX an_tX : Option Addr} {sl_tX : Array (Option Value)} {oc_tX kV_tX dc_tX pm_tX cd_tX ct_tX : Value}
    {od_tA an_tA : Option Addr} {sl_tA : Array (Option Value)} {oc_tA kV_tA dc_tA pm_tA cd_tA ct_tA : Value}
    {od_lB an_lB : Option Addr} {sl_lB : Array (Option Value)} {oc_lB kV_lB dc_lB pm_lB cd_lB ct_lB : Value}
    {od_lN an_lN : Option Addr} {sl_lN : Array (Option Value)} {oc_lN kV_lN dc_lN pm_lN cd_lN ct_lN : Value}
    {od_lP an_lP : Option Addr} {sl_lP : Array (Option Value)} {oc_lP kV_lP dc_lP pm_lP cd_lP ct_lP : Value}
    {od_lF an_lF : Option Addr} {sl_lF : Array (Option Value)} {oc_lF kV_lF dc_lF pm_lF cd_lF ct_lF : Value}
    {od_lG an_lG : Option Addr} {sl_lG : Array (Option Value)} {oc_lG kV_lG dc_lG pm_lG cd_lG ct_lG : Value}
    {od_lW an_lW : Option Addr} {sl_lW : Array (Option Value)} {oc_lW kV_lW dc_lW pm_lW cd_lW ct_lW : Value}
    {od_lU an_lU : Option Addr} {sl_lU : Array (Option Value)} {oc_lU kV_lU dc_lU pm_lU cd_lU ct_lU : Value}
    {od_lT an_lT : Option Addr} {sl_lT : Array (Option Value)} {oc_lT kV_lT dc_lT pm_lT cd_lT ct_lT : Value}
    {od_lV an_lV : Option Addr} {sl_lV : Array (Option Value)} {oc_lV kV_lV dc_lV pm_lV cd_lV ct_lV : Value}
    {od_lD an_lD : Option Addr} {sl_lD : Array (Option Value)} {oc_lD kV_lD dc_lD pm_lD cd_lD ct_lD : Value}
    {od_lA an_lA : Option Addr} {sl_lA : Array (Option Value)} {oc_lA kV_lA dc_lA pm_lA cd_lA ct_lA : Value}
    {od_lR an_lR : Option Addr} {sl_lR : Array (Option Value)} {oc_lR kV_lR dc_lR pm_lR cd_lR ct_lR : Value}
    {od_lM an_lM : Option Addr} {sl_lM : Array (Option Value)} {oc_lM kV_lM dc_lM pm_lM cd_lM ct_lM : Value}
    {od_la an_la : Option Addr} {sl_la : Array (Option Value)} {oc_la kV_la dc_la pm_la cd_la ct_la : Value}
    {t_vS : Tok}
    {t_vM : Tok}
    {t_vT : Tok}
    {t_vD : Tok}
    {t_vK : Tok}
    {t_vE : Tok}
    {t_c1 : Tok}
    {t_c2 : Tok}
    {t_c3 : Tok}
    {t_cL : Tok}
    {t_cP : Tok}
    (X : K.In h) (G : h.Ns mainGlobals mg) (hfa : mg "law" = some (.ref fa))
    (a_iN : PySem.W.nsIn K mainGlobals "is_number" = some (some (.ref f_iN)))
    (l_iN : K.lookup f_iN = some ⟨oc_iN, od_iN, .func (PySem.W.fnOf "is_number" "is_number" (defArgs sNum) (defBody sNum) (defScope sNum) .none kV_iN dc_iN pm_iN an_iN cd_iN ct_iN), sl_iN⟩) (c_iN : PySem.W.codeIn K cd_iN "is_number" = true) (k_iN : PySem.W.keepIn K (.ref f_iN) = true)
    (a_iP : PySem.W.nsIn K mainGlobals "is_piece" = some (some (.ref f_iP)))
    (l_iP : K.lookup f_iP = some ⟨oc_iP, od_iP, .func (PySem.W.fnOf "is_piece" "is_piece" (defArgs sPc) (defBody sPc) (defScope sPc) .none kV_iP dc_iP pm_iP an_iP cd_iP ct_iP), sl_iP⟩) (c_iP : PySem.W.codeIn K cd_iP "is_piece" = true) (k_iP : PySem.W.keepIn K (.ref f_iP) = true)
    (a_iS : PySem.W.nsIn K mainGlobals "is_step" = some (some (.ref f_iS)))
    (l_iS : K.lookup f_iS = some ⟨oc_iS, od_iS, .func (PySem.W.fnOf "is_step" "is_step" (defArgs sStep) (defBody sStep) (defScope sStep) .none kV_iS dc_iS pm_iS an_iS cd_iS ct_iS), sl_iS⟩) (c_iS : PySem.W.codeIn K cd_iS "is_step" = true) (k_iS : PySem.W.keepIn K (.ref f_iS) = true)
    (a_iL : PySem.W.nsIn K mainGlobals "listed_standings" = some (some (.ref f_iL)))
    (l_iL : K.lookup f_iL = some ⟨oc_iL, od_iL, .func (PySem.W.fnOf "listed_standings" "listed_standings" (defArgs sListed) (defBody sListed) (defScope sListed) .none kV_iL dc_iL pm_iL an_iL cd_iL ct_iL), sl_iL⟩) (c_iL : PySem.W.codeIn K cd_iL "listed_standings" = true) (k_iL : PySem.W.keepIn K (.ref f_iL) = true)
    (a_iW : PySem.W.nsIn K mainGlobals "ways_from" = some (some (.ref f_iW)))
    (l_iW : K.lookup f_iW = some ⟨oc_iW, od_iW, .func (PySem.W.fnOf "ways_from" "ways_from" (defArgs sWays) (defBody sWays) (defScope sWays) .none kV_iW dc_iW pm_iW an_iW cd_iW ct_iW), sl_iW⟩) (c_iW : PySem.W.codeIn K cd_iW "ways_from" = true) (k_iW : PySem.W.keepIn K (.ref f_iW) = true)
    (a_iJ : PySem.W.nsIn K mainGlobals "is_joined" = some (some (.ref f_iJ)))
    (l_iJ : K.lookup f_iJ = some ⟨oc_iJ, od_iJ, .func (PySem.W.fnOf "is_joined" "is_joined" (defArgs sJoined) (defBody sJoined) (defScope sJoined) .none kV_iJ dc_iJ pm_iJ an_iJ cd_iJ ct_iJ), sl_iJ⟩) (c_iJ : PySem.W.codeIn K cd_iJ "is_joined" = true) (k_iJ : PySem.W.keepIn K (.ref f_iJ) = true)
    (a_iF : PySem.W.nsIn K mainGlobals "need_framing" = some (some (.ref f_iF)))
    (l_iF : K.lookup f_iF = some ⟨oc_iF, od_iF, .func (PySem.W.fnOf "need_framing" "need_framing" (defArgs sNeedF) (defBody sNeedF) (defScope sNeedF) .none kV_iF dc_iF pm_iF an_iF cd_iF ct_iF), sl_iF⟩) (c_iF : PySem.W.codeIn K cd_iF "need_framing" = true) (k_iF : PySem.W.keepIn K (.ref f_iF) = true)
    (a_wE : PySem.W.nsIn K mainGlobals "is_entry" = some (some (.ref f_wE)))
    (l_wE : K.lookup f_wE = some ⟨oc_wE, od_wE, .func (PySem.W.fnOf "is_entry" "is_entry" (defArgs sEntry) (defBody sEntry) (defScope sEntry) .none kV_wE dc_wE pm_wE an_wE cd_wE ct_wE), sl_wE⟩) (c_wE : PySem.W.codeIn K cd_wE "is_entry" = true) (k_wE : PySem.W.keepIn K (.ref f_wE) = true)
    (a_wR : PySem.W.nsIn K mainGlobals "first_wrong" = some (some (.ref f_wR)))
    (l_wR : K.lookup f_wR = some ⟨oc_wR, od_wR, .func (PySem.W.fnOf "first_wrong" "first_wrong" (defArgs sWrong) (defBody sWrong) (defScope sWrong) .none kV_wR dc_wR pm_wR an_wR cd_wR ct_wR), sl_wR⟩) (c_wR : PySem.W.codeIn K cd_wR "first_wrong" = true) (k_wR : PySem.W.keepIn K (.ref f_wR) = true)
    (a_pT : PySem.W.nsIn K mainGlobals "text_put" = some (some (.ref f_pT)))
    (l_pT : K.lookup f_pT = some ⟨oc_pT, od_pT, .func (PySem.W.fnOf "text_put" "text_put" (defArgs sPut) (defBody sPut) (defScope sPut) .none kV_pT dc_pT pm_pT an_pT cd_pT ct_pT), sl_pT⟩) (c_pT : PySem.W.codeIn K cd_pT "text_put" = true) (k_pT : PySem.W.keepIn K (.ref f_pT) = true)
    (a_pL : PySem.W.nsIn K mainGlobals "line_places" = some (some (.ref f_pL)))
    (l_pL : K.lookup f_pL = some ⟨oc_pL, od_pL, .func (PySem.W.fnOf "line_places" "line_places" (defArgs sPlaces) (defBody sPlaces) (defScope sPlaces) .none kV_pL dc_pL pm_pL an_pL cd_pL ct_pL), sl_pL⟩) (c_pL : PySem.W.codeIn K cd_pL "line_places" = true) (k_pL : PySem.W.keepIn K (.ref f_pL) = true)
    (a_tW : PySem.W.nsIn K mainGlobals "is_word" = some (some (.ref f_tW)))
    (l_tW : K.lookup f_tW = some ⟨oc_tW, od_tW, .func (PySem.W.fnOf "is_word" "is_word" (defArgs sIsWord) (defBody sIsWord) (defScope sIsWord) .none kV_tW dc_tW pm_tW an_tW cd_tW ct_tW), sl_tW⟩) (c_tW : PySem.W.codeIn K cd_tW "is_word" = true) (k_tW : PySem.W.keepIn K (.ref f_tW) = true)
    (a_tN : PySem.W.nsIn K mainGlobals "need_turned" = some (some (.ref f_tN)))
    (l_tN : K.lookup f_tN = some ⟨oc_tN, od_tN, .func (PySem.W.fnOf "need_turned" "need_turned" (defArgs sNeedT) (defBody sNeedT) (defScope sNeedT) .none kV_tN dc_tN pm_tN an_tN cd_tN ct_tN), sl_tN⟩) (c_tN : PySem.W.codeIn K cd_tN "need_turned" = true) (k_tN : PySem.W.keepIn K (.ref f_tN) = true)
    (a_tM : PySem.W.nsIn K mainGlobals "need_manner" = some (some (.ref f_tM)))
    (l_tM : K.lookup f_tM = some ⟨oc_tM, od_tM, .func (PySem.W.fnOf "need_manner" "need_manner" (defArgs sManner) (defBody sManner) (defScope sManner) .none kV_tM dc_tM pm_tM an_tM cd_tM ct_tM), sl_tM⟩) (c_tM : PySem.W.codeIn K cd_tM "need_manner" = true) (k_tM : PySem.W.keepIn K (.ref f_tM) = true)
    (a_tF : PySem.W.nsIn K mainGlobals "filled" = some (some (.ref f_tF)))
    (l_tF : K.lookup f_tF = some ⟨oc_tF, od_tF, .func (PySem.W.fnOf "filled" "filled" (defArgs sFilled) (defBody sFilled) (defScope sFilled) .none kV_tF dc_tF pm_tF an_tF cd_tF ct_tF), sl_tF⟩) (c_tF : PySem.W.codeIn K cd_tF "filled" = true) (k_tF : PySem.W.keepIn K (.ref f_tF) = true)
    (a_tI : PySem.W.nsIn K mainGlobals "files" = some (some (.ref f_tI)))
    (l_tI : K.lookup f_tI = some ⟨oc_tI, od_tI, .func (PySem.W.fnOf "files" "files" (defArgs sFiles) (defBody sFiles) (defScope sFiles) .none kV_tI dc_tI pm_tI an_tI cd_tI ct_tI), sl_tI⟩) (c_tI : PySem.W.codeIn K cd_tI "files" = true) (k_tI : PySem.W.keepIn K (.ref f_tI) = true)
    (a_tE : PySem.W.nsIn K mainGlobals "ended_lines" = some (some (.ref f_tE)))
    (l_tE : K.lookup f_tE = some ⟨oc_tE, od_tE, .func (PySem.W.fnOf "ended_lines" "ended_lines" (defArgs sEnded) (defBody sEnded) (defScope sEnded) .none kV_tE dc_tE pm_tE an_tE cd_tE ct_tE), sl_tE⟩) (c_tE : PySem.W.codeIn K cd_tE "ended_lines" = true) (k_tE : PySem.W.keepIn K (.ref f_tE) = true)
    (a_tL : PySem.W.nsIn K mainGlobals "lines_read" = some (some (.ref f_tL)))
    (l_tL : K.lookup f_tL = some ⟨oc_tL, od_tL, .func (PySem.W.fnOf "lines_read" "lines_read" (defArgs sLR) (defBody sLR) (defScope sLR) .none kV_tL dc_tL pm_tL an_tL cd_tL ct_tL), sl_tL⟩) (c_tL : PySem.W.codeIn K cd_tL "lines_read" = true) (k_tL : PySem.W.keepIn K (.ref f_tL) = true)
    (a_tX : PySem.W.nsIn K mainGlobals "fate" = some (some (.ref f_tX)))
    (l_tX : K.lookup f_tX = some ⟨oc_tX, od_tX, .func (PySem.W.fnOf "fate" "fate" (defArgs sFate) (defBody sFate) (defScope sFate) .none kV_tX dc_tX pm_tX an_tX cd_tX ct_tX), sl_tX⟩) (c_tX : PySem.W.codeIn K cd_tX "fate" = true) (k_tX : PySem.W.keepIn K (.ref f_tX) = true)
    (a_tA : PySem.W.nsIn K mainGlobals "fates" = some (some (.ref f_tA)))
    (l_tA : K.lookup f_tA = some ⟨oc_tA, od_tA, .func (PySem.W.fnOf "fates" "fates" (defArgs sFates) (defBody sFates) (defScope sFates) .none kV_tA dc_tA pm_tA an_tA cd_tA ct_tA), sl_tA⟩) (c_tA : PySem.W.codeIn K cd_tA "fates" = true) (k_tA : PySem.W.keepIn K (.ref f_tA) = true)
    (a_lB : PySem.W.nsIn K mainGlobals "_law_begun" = some (some (.ref f_lB)))
    (l_lB : K.lookup f_lB = some ⟨oc_lB, od_lB, .func (PySem.W.fnOf "_law_begun" "_law_begun" (defArgs sBegun) (defBody sBegun) (defScope sBegun) .none kV_lB dc_lB pm_lB an_lB cd_lB ct_lB), sl_lB⟩) (c_lB : PySem.W.codeIn K cd_lB "_law_begun" = true) (k_lB : PySem.W.keepIn K (.ref f_lB) = true)
    (a_lN : PySem.W.nsIn K mainGlobals "_law_next" = some (some (.ref f_lN)))
    (l_lN : K.lookup f_lN = some ⟨oc_lN, od_lN, .func (PySem.W.fnOf "_law_next" "_law_next" (defArgs sNext) (defBody sNext) (defScope sNext) .none kV_lN dc_lN pm_lN an_lN cd_lN ct_lN), sl_lN⟩) (c_lN : PySem.W.codeIn K cd_lN "_law_next" = true) (k_lN : PySem.W.keepIn K (.ref f_lN) = true)
    (a_lP : PySem.W.nsIn K mainGlobals "_law_piece" = some (some (.ref f_lP)))
    (l_lP : K.lookup f_lP = some ⟨oc_lP, od_lP, .func (PySem.W.fnOf "_law_piece" "_law_piece" (defArgs sPiece) (defBody sPiece) (defScope sPiece) .none kV_lP dc_lP pm_lP an_lP cd_lP ct_lP), sl_lP⟩) (c_lP : PySem.W.codeIn K cd_lP "_law_piece" = true) (k_lP : PySem.W.keepIn K (.ref f_lP) = true)
    (a_lF : PySem.W.nsIn K mainGlobals "_law_framing" = some (some (.ref f_lF)))
    (l_lF : K.lookup f_lF = some ⟨oc_lF, od_lF, .func (PySem.W.fnOf "_law_framing" "_law_framing" (defArgs sFraming) (defBody sFraming) (defScope sFraming) .none kV_lF dc_lF pm_lF an_lF cd_lF ct_lF), sl_lF⟩) (c_lF : PySem.W.codeIn K cd_lF "_law_framing" = true) (k_lF : PySem.W.keepIn K (.ref f_lF) = true)
    (a_lG : PySem.W.nsIn K mainGlobals "_law_from" = some (some (.ref f_lG)))
    (l_lG : K.lookup f_lG = some ⟨oc_lG, od_lG, .func (PySem.W.fnOf "_law_from" "_law_from" (defArgs sFrom) (defBody sFrom) (defScope sFrom) .none kV_lG dc_lG pm_lG an_lG cd_lG ct_lG), sl_lG⟩) (c_lG : PySem.W.codeIn K cd_lG "_law_from" = true) (k_lG : PySem.W.keepIn K (.ref f_lG) = true)
    (a_lW : PySem.W.nsIn K mainGlobals "_law_weaving" = some (some (.ref f_lW)))
    (l_lW : K.lookup f_lW = some ⟨oc_lW, od_lW, .func (PySem.W.fnOf "_law_weaving" "_law_weaving" (defArgs sWeave) (defBody sWeave) (defScope sWeave) .none kV_lW dc_lW pm_lW an_lW cd_lW ct_lW), sl_lW⟩) (c_lW : PySem.W.codeIn K cd_lW "_law_weaving" = true) (k_lW : PySem.W.keepIn K (.ref f_lW) = true)
    (a_lU : PySem.W.nsIn K mainGlobals "_law_put" = some (some (.ref f_lU)))
    (l_lU : K.lookup f_lU = some ⟨oc_lU, od_lU, .func (PySem.W.fnOf "_law_put" "_law_put" (defArgs sPutL) (defBody sPutL) (defScope sPutL) .none kV_lU dc_lU pm_lU an_lU cd_lU ct_lU), sl_lU⟩) (c_lU : PySem.W.codeIn K cd_lU "_law_put" = true) (k_lU : PySem.W.keepIn K (.ref f_lU) = true)
    (a_lT : PySem.W.nsIn K mainGlobals "_law_text" = some (some (.ref f_lT)))
    (l_lT : K.lookup f_lT = some ⟨oc_lT, od_lT, .func (PySem.W.fnOf "_law_text" "_law_text" (defArgs sTextL) (defBody sTextL) (defScope sTextL) .none kV_lT dc_lT pm_lT an_lT cd_lT ct_lT), sl_lT⟩) (c_lT : PySem.W.codeIn K cd_lT "_law_text" = true) (k_lT : PySem.W.keepIn K (.ref f_lT) = true)
    (a_lV : PySem.W.nsIn K mainGlobals "_law_turned" = some (some (.ref f_lV)))
    (l_lV : K.lookup f_lV = some ⟨oc_lV, od_lV, .func (PySem.W.fnOf "_law_turned" "_law_turned" (defArgs sTurned) (defBody sTurned) (defScope sTurned) .none kV_lV dc_lV pm_lV an_lV cd_lV ct_lV), sl_lV⟩) (c_lV : PySem.W.codeIn K cd_lV "_law_turned" = true) (k_lV : PySem.W.keepIn K (.ref f_lV) = true)
    (a_lD : PySem.W.nsIn K mainGlobals "_law_filed" = some (some (.ref f_lD)))
    (l_lD : K.lookup f_lD = some ⟨oc_lD, od_lD, .func (PySem.W.fnOf "_law_filed" "_law_filed" (defArgs sFiled) (defBody sFiled) (defScope sFiled) .none kV_lD dc_lD pm_lD an_lD cd_lD ct_lD), sl_lD⟩) (c_lD : PySem.W.codeIn K cd_lD "_law_filed" = true) (k_lD : PySem.W.keepIn K (.ref f_lD) = true)
    (a_lA : PySem.W.nsIn K mainGlobals "_law_fates" = some (some (.ref f_lA)))
    (l_lA : K.lookup f_lA = some ⟨oc_lA, od_lA, .func (PySem.W.fnOf "_law_fates" "_law_fates" (defArgs sFatesL) (defBody sFatesL) (defScope sFatesL) .none kV_lA dc_lA pm_lA an_lA cd_lA ct_lA), sl_lA⟩) (c_lA : PySem.W.codeIn K cd_lA "_law_fates" = true) (k_lA : PySem.W.keepIn K (.ref f_lA) = true)
    (a_lR : PySem.W.nsIn K mainGlobals "_law_right" = some (some (.ref f_lR)))
    (l_lR : K.lookup f_lR = some ⟨oc_lR, od_lR, .func (PySem.W.fnOf "_law_right" "_law_right" (defArgs sRight) (defBody sRight) (defScope sRight) .none kV_lR dc_lR pm_lR an_lR cd_lR ct_lR), sl_lR⟩) (c_lR : PySem.W.codeIn K cd_lR "_law_right" = true) (k_lR : PySem.W.keepIn K (.ref f_lR) = true)
    (a_lM : PySem.W.nsIn K mainGlobals "_law_many_right" = some (some (.ref f_lM)))
    (l_lM : K.lookup f_lM = some ⟨oc_lM, od_lM, .func (PySem.W.fnOf "_law_many_right" "_law_many_right" (defArgs sMany) (defBody sMany) (defScope sMany) .none kV_lM dc_lM pm_lM an_lM cd_lM ct_lM), sl_lM⟩) (c_lM : PySem.W.codeIn K cd_lM "_law_many_right" = true) (k_lM : PySem.W.keepIn K (.ref f_lM) = true)
    (a_la : PySem.W.nsIn K mainGlobals "law" = some (some (.ref f_la)))
    (l_la : K.lookup f_la = some ⟨oc_la, od_la, .func (PySem.W.fnOf "law" "law" (defArgs sLaw) (defBody sLaw) (defScope sLaw) .none kV_la dc_la pm_la an_la cd_la ct_la), sl_la⟩) (c_la : PySem.W.codeIn K cd_la "law" = true) (k_la : PySem.W.keepIn K (.ref f_la) = true)
    (g_vS : PySem.W.nsIn K mainGlobals "SIGNS" = some (some (.str "abcdefghijklmnopqrstuvwxyz0123456789@" t_vS)))
    (g_vM : PySem.W.nsIn K mainGlobals "MOST_SIGNS" = some (some (.int 8 t_vM)))
    (g_vT : PySem.W.nsIn K mainGlobals "MOST_STEPS" = some (some (.int 16 t_vT)))
    (g_vD : PySem.W.nsIn K mainGlobals "MANY_STANDINGS" = some (some (.int 6 t_vD)))
    (g_vK : PySem.W.nsIn K mainGlobals "MARKS" = some (some (.str "ABCDEFGH" t_vK)))
    (g_vE : PySem.W.nsIn K mainGlobals "MOST_ENTRIES" = some (some (.int 200 t_vE)))
    (g_c1 : PySem.W.nsIn K mainGlobals "TURN" = some (some (.str "turn" t_c1)))
    (g_c2 : PySem.W.nsIn K mainGlobals "COPY" = some (some (.str "copy" t_c2)))
    (g_c3 : PySem.W.nsIn K mainGlobals "CUT" = some (some (.str "cut" t_c3)))
    (g_cL : PySem.W.nsIn K mainGlobals "BY_LINE" = some (some (.str "line" t_cL)))
    (g_cP : PySem.W.nsIn K mainGlobals "BY_PIECE" = some (some (.str "piece" t_cP)))
    (z_isinstance : PySem.W.nsIn K mainGlobals "isinstance" = some none)
    (z_int : PySem.W.nsIn K mainGlobals "int" = some none)
    (z_bool : PySem.W.nsIn K mainGlobals "bool" = some none)
    (z_str : PySem.W.nsIn K mainGlobals "str" = some none)
    (z_tuple : PySem.W.nsIn K mainGlobals "tuple" = some none)
    (z_len : PySem.W.nsIn K mainGlobals "len" = some none)
    (z_all : PySem.W.nsIn K mainGlobals "all" = some none)
    (z_sorted : PySem.W.nsIn K mainGlobals "sorted" = some none)
    (z_enumerate : PySem.W.nsIn K mainGlobals "enumerate" = some none)
    (z_zip : PySem.W.nsIn K mainGlobals "zip" = some none)
    (z_list : PySem.W.nsIn K mainGlobals "list" = some none)
    (z_any : PySem.W.nsIn K mainGlobals "any" = some none)
    (z_range : PySem.W.nsIn K mainGlobals "range" = some none)
    (z_min : PySem.W.nsIn K mainGlobals "min" = some none)
    (z_repr : PySem.W.nsIn K mainGlobals "repr" = some none) :
    ∃ fd : FuncData, (∀ (s : Shared) (u : Value), BindsTo s fd ⟨[u], []⟩ [("script", u)]) ∧ ∀ base : Heap, K.In base → base.Ns mainGlobals mg → FnG P w K mg base CX0 8 fa fd ["script"] (spLaw K) := by
  have e := hfa.symm.trans (PySem.W.mg_of X G a_la)
  cases e
  have F_iN := fun_mk (st := sNum) l_iN c_iN k_iN
  have b_iN := F_iN.binds (ps := ["thing", "many"]) fun _ _ _ _ _ _ us hl => match us, hl with | [_, _], _ => rfl
  have m_iN := PySem.W.mg_of X G a_iN
  have F_iP := fun_mk (st := sPc) l_iP c_iP k_iP
  have b_iP := F_iP.binds (ps := ["thing"]) fun _ _ _ _ _ _ us hl => match us, hl with | [_], _ => rfl
  have m_iP := PySem.W.mg_of X G a_iP
  have F_iS := fun_mk (st := sStep) l_iS c_iS k_iS
  have b_iS := F_iS.binds (ps := ["thing"]) fun _ _ _ _ _ _ us hl => match us, hl with | [_], _ => rfl
  have m_iS := PySem.W.mg_of X G a_iS
  have F_iL := fun_mk (st := sListed) l_iL c_iL k_iL
  have b_iL := F_iL.binds (ps := ["framing"]) fun _ _ _ _ _ _ us hl => match us, hl with | [_], _ => rfl
  have m_iL := PySem.W.mg_of X G a_iL
  have F_iW := fun_mk (st := sWays) l_iW c_iW k_iW
  have b_iW := F_iW.binds (ps := ["framing", "begin"]) fun _ _ _ _ _ _ us hl => match us, hl with | [_, _], _ => rfl
  have m_iW := PySem.W.mg_of X G a_iW
  have F_iJ := fun_mk (st := sJoined) l_iJ c_iJ k_iJ
  have b_iJ := F_iJ.binds (ps := ["framing"]) fun _ _ _ _ _ _ us hl => match us, hl with | [_], _ => rfl
  have m_iJ := PySem.W.mg_of X G a_iJ
  have F_iF := fun_mk (st := sNeedF) l_iF c_iF k_iF
  have b_iF := F_iF.binds (ps := ["thing"]) fun _ _ _ _ _ _ us hl => match us, hl with | [_], _ => rfl
  have m_iF := PySem.W.mg_of X G a_iF
  have F_wE := fun_mk (st := sEntry) l_wE c_wE k_wE
  have b_wE := F_wE.binds (ps := ["framing", "thing", "many"]) fun _ _ _ _ _ _ us hl => match us, hl with | [_, _, _], _ => rfl
  have m_wE := PySem.W.mg_of X G a_wE
  have F_wR := fun_mk (st := sWrong) l_wR c_wR k_wR
  have b_wR := F_wR.binds (ps := ["framing", "things", "begin"]) fun _ _ _ _ _ _ us hl => match us, hl with | [_, _, _], _ => rfl
  have m_wR := PySem.W.mg_of X G a_wR
  have F_pT := fun_mk (st := sPut) l_pT c_pT k_pT
  have b_pT := F_pT.binds (ps := ["framing", "entries"]) fun _ _ _ _ _ _ us hl => match us, hl with | [_, _], _ => rfl
  have m_pT := PySem.W.mg_of X G a_pT
  have F_pL := fun_mk (st := sPlaces) l_pL c_pL k_pL
  have b_pL := F_pL.binds (ps := ["framing", "entries"]) fun _ _ _ _ _ _ us hl => match us, hl with | [_, _], _ => rfl
  have m_pL := PySem.W.mg_of X G a_pL
  have F_tW := fun_mk (st := sIsWord) l_tW c_tW k_tW
  have b_tW := F_tW.binds (ps := ["thing"]) fun _ _ _ _ _ _ us hl => match us, hl with | [_], _ => rfl
  have m_tW := PySem.W.mg_of X G a_tW
  have F_tN := fun_mk (st := sNeedT) l_tN c_tN k_tN
  have b_tN := F_tN.binds (ps := ["framing", "thing"]) fun _ _ _ _ _ _ us hl => match us, hl with | [_, _], _ => rfl
  have m_tN := PySem.W.mg_of X G a_tN
  have F_tM := fun_mk (st := sManner) l_tM c_tM k_tM
  have b_tM := F_tM.binds (ps := ["thing"]) fun _ _ _ _ _ _ us hl => match us, hl with | [_], _ => rfl
  have m_tM := PySem.W.mg_of X G a_tM
  have F_tF := fun_mk (st := sFilled) l_tF c_tF k_tF
  have b_tF := F_tF.binds (ps := ["framing", "thing", "manner"]) fun _ _ _ _ _ _ us hl => match us, hl with | [_, _, _], _ => rfl
  have m_tF := PySem.W.mg_of X G a_tF
  have F_tI := fun_mk (st := sFiles) l_tI c_tI k_tI
  have b_tI := F_tI.binds (ps := ["framing", "thing", "manner"]) fun _ _ _ _ _ _ us hl => match us, hl with | [_, _, _], _ => rfl
  have m_tI := PySem.W.mg_of X G a_tI
  have F_tE := fun_mk (st := sEnded) l_tE c_tE k_tE
  have b_tE := F_tE.binds (ps := ["framing", "thing"]) fun _ _ _ _ _ _ us hl => match us, hl with | [_, _], _ => rfl
  have m_tE := PySem.W.mg_of X G a_tE
  have F_tL := fun_mk (st := sLR) l_tL c_tL k_tL
  have b_tL := F_tL.binds (ps := ["framing", "thing", "row"]) fun _ _ _ _ _ _ us hl => match us, hl with | [_, _, _], _ => rfl
  have m_tL := PySem.W.mg_of X G a_tL
  have F_tX := fun_mk (st := sFate) l_tX c_tX k_tX
  have b_tX := F_tX.binds (ps := ["line", "rows", "lines"]) fun _ _ _ _ _ _ us hl => match us, hl with | [_, _, _], _ => rfl
  have m_tX := PySem.W.mg_of X G a_tX
  have F_tA := fun_mk (st := sFates) l_tA c_tA k_tA
  have b_tA := F_tA.binds (ps := ["framing", "thing", "manner"]) fun _ _ _ _ _ _ us hl => match us, hl with | [_, _, _], _ => rfl
  have m_tA := PySem.W.mg_of X G a_tA
  have F_lB := fun_mk (st := sBegun) l_lB c_lB k_lB
  have b_lB := F_lB.binds (ps := ["script"]) fun _ _ _ _ _ _ us hl => match us, hl with | [_], _ => rfl
  have m_lB := PySem.W.mg_of X G a_lB
  have F_lN := fun_mk (st := sNext) l_lN c_lN k_lN
  have b_lN := F_lN.binds (ps := ["m", "total"]) fun _ _ _ _ _ _ us hl => match us, hl with | [_, _], _ => rfl
  have m_lN := PySem.W.mg_of X G a_lN
  have F_lP := fun_mk (st := sPiece) l_lP c_lP k_lP
  have b_lP := F_lP.binds (ps := ["m", "last"]) fun _ _ _ _ _ _ us hl => match us, hl with | [_, _], _ => rfl
  have m_lP := PySem.W.mg_of X G a_lP
  have F_lF := fun_mk (st := sFraming) l_lF c_lF k_lF
  have b_lF := F_lF.binds (ps := ["m", "most"]) fun _ _ _ _ _ _ us hl => match us, hl with | [_, _], _ => rfl
  have m_lF := PySem.W.mg_of X G a_lF
  have F_lG := fun_mk (st := sFrom) l_lG c_lG k_lG
  have b_lG := F_lG.binds (ps := ["framing", "here"]) fun _ _ _ _ _ _ us hl => match us, hl with | [_, _], _ => rfl
  have m_lG := PySem.W.mg_of X G a_lG
  have F_lW := fun_mk (st := sWeave) l_lW c_lW k_lW
  have b_lW := F_lW.binds (ps := ["m", "framing", "writers", "total"]) fun _ _ _ _ _ _ us hl => match us, hl with | [_, _, _, _], _ => rfl
  have m_lW := PySem.W.mg_of X G a_lW
  have F_lU := fun_mk (st := sPutL) l_lU c_lU k_lU
  have b_lU := F_lU.binds (ps := ["framing", "entry"]) fun _ _ _ _ _ _ us hl => match us, hl with | [_, _], _ => rfl
  have m_lU := PySem.W.mg_of X G a_lU
  have F_lT := fun_mk (st := sTextL) l_lT c_lT k_lT
  have b_lT := F_lT.binds (ps := ["framing", "entries"]) fun _ _ _ _ _ _ us hl => match us, hl with | [_, _], _ => rfl
  have m_lT := PySem.W.mg_of X G a_lT
  have F_lV := fun_mk (st := sTurned) l_lV c_lV k_lV
  have b_lV := F_lV.binds (ps := ["m", "framing", "writers", "total"]) fun _ _ _ _ _ _ us hl => match us, hl with | [_, _, _, _], _ => rfl
  have m_lV := PySem.W.mg_of X G a_lV
  have F_lD := fun_mk (st := sFiled) l_lD c_lD k_lD
  have b_lD := F_lD.binds (ps := ["framing", "thing", "by_line"]) fun _ _ _ _ _ _ us hl => match us, hl with | [_, _, _], _ => rfl
  have m_lD := PySem.W.mg_of X G a_lD
  have F_lA := fun_mk (st := sFatesL) l_lA c_lA k_lA
  have b_lA := F_lA.binds (ps := ["framing", "thing", "stacks"]) fun _ _ _ _ _ _ us hl => match us, hl with | [_, _, _], _ => rfl
  have m_lA := PySem.W.mg_of X G a_lA
  have F_lR := fun_mk (st := sRight) l_lR c_lR k_lR
  have b_lR := F_lR.binds (ps := ["framing", "thing"]) fun _ _ _ _ _ _ us hl => match us, hl with | [_, _], _ => rfl
  have m_lR := PySem.W.mg_of X G a_lR
  have F_lM := fun_mk (st := sMany) l_lM c_lM k_lM
  have b_lM := F_lM.binds (ps := []) fun _ _ _ _ _ _ us hl => match us, hl with | [], _ => rfl
  have m_lM := PySem.W.mg_of X G a_lM
  have F_la := fun_mk (st := sLaw) l_la c_la k_la
  have y_isinstance := PySem.W.mg_none_of X G z_isinstance
  have y_int := PySem.W.mg_none_of X G z_int
  have y_bool := PySem.W.mg_none_of X G z_bool
  have y_str := PySem.W.mg_none_of X G z_str
  have y_tuple := PySem.W.mg_none_of X G z_tuple
  have y_len := PySem.W.mg_none_of X G z_len
  have y_all := PySem.W.mg_none_of X G z_all
  have y_sorted := PySem.W.mg_none_of X G z_sorted
  have y_enumerate := PySem.W.mg_none_of X G z_enumerate
  have y_zip := PySem.W.mg_none_of X G z_zip
  have y_list := PySem.W.mg_none_of X G z_list
  have y_any := PySem.W.mg_none_of X G z_any
  have y_range := PySem.W.mg_none_of X G z_range
  have y_min := PySem.W.mg_none_of X G z_min
  have y_repr := PySem.W.mg_none_of X G z_repr
  have x_vS := PySem.W.mg_of X G g_vS
  have x_vM := PySem.W.mg_of X G g_vM
  have x_vT := PySem.W.mg_of X G g_vT
  have x_vD := PySem.W.mg_of X G g_vD
  have x_vK := PySem.W.mg_of X G g_vK
  have x_vE := PySem.W.mg_of X G g_vE
  have x_c1 := PySem.W.mg_of X G g_c1
  have x_c2 := PySem.W.mg_of X G g_c2
  have x_c3 := PySem.W.mg_of X G g_c3
  have x_cL := PySem.W.mg_of X G g_cL
  have x_cP := PySem.W.mg_of X G g_cP
  have TF : TxtF mg := ⟨y_isinstance, y_int, y_bool, y_str, y_tuple, y_len, y_all, ⟨_, x_vS⟩, ⟨_, x_vM⟩, ⟨_, x_vD⟩⟩
  have TD : TxtD mg := ⟨y_list, y_int, y_len⟩
  let zF : Fs K mg := { fN := f_iN, dN := _, N := F_iN, bN := b_iN, mN := m_iN, fP := f_iP, dP := _, P := F_iP, bP := b_iP, mP := m_iP, fS := f_iS, dS := _, S := F_iS, bS := b_iS, mS := m_iS, fL := f_iL, dL := _, L := F_iL, bL := b_iL, mL := m_iL, fW := f_iW, dW := _, W := F_iW, bW := b_iW, mW := m_iW, fJ := f_iJ, dJ := _, J := F_iJ, bJ := b_iJ, mJ := m_iJ, fF := f_iF, dF := _, F := F_iF, bF := b_iF, mF := m_iF, T := TF, so := y_sorted, en := y_enumerate, ms := ⟨_, x_vT⟩ }
  let zW : Ws K mg := { Z := zF, fE := f_wE, fR := f_wR, dE := _, dR := _, E := F_wE, R := F_wR, bE := b_wE, bR := b_wR, mE := m_wE, mR := m_wR, marks := ⟨_, x_vK⟩, most := ⟨_, x_vE⟩ }
  let zP : Ps K mg := { Y := zW, fT := f_pT, fL := f_pL, dT := _, dL := _, T := F_pT, L := F_pL, bT := b_pT, bL := b_pL, mT := m_pT, mL := m_pL }
  let zO : Wo K mg := { T := TF, f := f_tW, d := _, F := F_tW, b := b_tW, m := m_tW, c1 := ⟨_, x_c1⟩, c2 := ⟨_, x_c2⟩, c3 := ⟨_, x_c3⟩ }
  let zG : Wg K mg := { Y := zW, O := zO, f := f_tN, d := _, F := F_tN, b := b_tN, m := m_tN }
  let zL : Fl K mg := { G := zG, f := f_tF, d := _, F := F_tF, b := b_tF, m := m_tF, cP := ⟨_, x_cP⟩, li := y_list }
  let zM : Mn K mg := { L := zL, f := f_tM, d := _, M := F_tM, b := b_tM, m := m_tM, cL := ⟨_, x_cL⟩ }
  let zI : Fi K mg := { M := zM, T := zP, f := f_tI, d := _, F := F_tI, b := b_tI, m := m_tI, tu := y_tuple }
  let zE : El K mg := { G := zG, f := f_tE, d := _, F := F_tE, b := b_tE, m := m_tE }
  let zR : Lr K mg := { T := zP, f := f_tL, d := _, F := F_tL, b := b_tL, m := m_tL, tu := y_tuple, zip := y_zip }
  let zX : Ft K mg := { f := f_tX, d := _, F := F_tX, b := b_tX, m := m_tX, len := y_len, any := y_any }
  let zA : Fa K mg := { M := zM, E := zE, R := zR, T := zX, f := f_tA, d := _, F := F_tA, b := b_tA, m := m_tA, tu := y_tuple }
  let zLs : Ls K mg := { f1 := f_lN, d1 := _, N := F_lN, bN := b_lN, mN := m_lN, T := TD, ra := y_range, f2 := f_lP, d2 := _, P := F_lP, bP := b_lP, mP := m_lP }
  let zLf : Lf K mg := { L := zLs, f := f_lF, d := _, F := F_lF, b := b_lF, g := m_lF, so := y_sorted, tu := y_tuple, en := y_enumerate }
  let zV : Lw K mg := { G := zLf, f1 := f_lG, f2 := f_lW, d1 := _, d2 := _, F := F_lG, W := F_lW, bF := b_lG, bW := b_lW, gF := m_lG, gW := m_lW }
  let zT : Lt K mg := { V := zV, f := f_lV, d := _, T := F_lV, b := b_lV, g := m_lV }
  let zXx : Lx K mg := { f1 := f_lU, f2 := f_lT, d1 := _, d2 := _, P := F_lU, T := F_lT, bP := b_lU, bT := b_lT, gP := m_lU, gT := m_lT }
  let zD : Lfd K mg := { f := f_lD, d := _, F := F_lD, b := b_lD, m := m_lD, en := y_enumerate, len := y_len }
  let zFt : Lft K mg := { f := f_lA, d := _, F := F_lA, b := b_lA, m := m_lA, en := y_enumerate, len := y_len, isi := y_isinstance, tu := y_tuple }
  let zRr : Lr2 K mg := { I := zI, A := zA, D := zD, T := zFt, X := zXx, f := f_lR, d := _, F := F_lR, b := b_lR, m := m_lR, re := y_repr, tu := y_tuple }
  let zMm : Lm K mg := { R := zRr, f := f_lM, d := _, F := F_lM, b := b_lM, m := m_lM }
  let zZ : Lall K mg := { M := zMm, V := zV, T := zT, I := zI, X := zXx, fB := f_lB, dB := _, Be := F_lB, bB := b_lB, mB := m_lB, mi := y_min }
  exact ⟨PySem.W.fnOf "law" "law" (defArgs sLaw) (defBody sLaw) (defScope sLaw) .none kV_la dc_la pm_la an_la cd_la ct_la, fun s u => .of_eq rfl, fun base _ _ => ok_law F_la zZ⟩
theorem walk {l : PySem.W.OpenLaw} {q : Program} {loose : List Str} {XP : (Str → Option Value) → Heap → Prop} {YP : World → Heap → Prop} {d : DefRec} {K : Params → PySem.W.Frag} (hn : l.most = some 63) (hdf : d.params.defaults = [])
    (hY : ∀ (w : World) (h : Heap), YP w h → (K w.params).In h)
    (F : ∀ (w : World) (mg : Str → Option Value) (fa : Addr) (h : Heap), (K w.params).In h → h.Ns mainGlobals mg → mg d.name = some (.ref fa) →
      ∃ fd : FuncData, (∀ (s : Shared) (u : Value), BindsTo s fd ⟨[u], []⟩ [("script", u)]) ∧ ∀ base : Heap, (K w.params).In base → base.Ns mainGlobals mg → FnG l.prog w (K w.params) mg base CX0 8 fa fd ["script"] (spLaw (K w.params))) :
    PySem.W.WalkO q loose XP YP l.row.toRowW d [] (fun f vs => PySem.call f vs) :=
  walk_ofG (n := 63) (k := 8) (x := "script") (sp := spLaw) hn (by decide) hdf ⟨rfl, by decide, by decide⟩ hY F (fun _ _ a ns hl _ hS => ⟨a, ns, rfl, hS, hl, fun _ => rfl⟩)
end K41

set_option Elab.async false
set_option maxRecDepth 100000
open PySem PySem.W PyProof.Rows
set_option maxRecDepth 100000 in
set_option maxHeartbeats 0 in
theorem PySem.Challenge.cw_tornlines_k41_whole_turned_files_holds : PySem.Challenge.rw_tornlines_k41_whole_turned_files.Holds := by
  w_on; o_law; k_head; (case hw => w_witness2)
  k_fill
  refine K41.walk (l := PySem.Challenge.rw_tornlines_k41_whole_turned_files) rfl rfl (fun w h Y => PySem.W.kIn_of Y) ?F
  case F =>
    intro w mg fa h KX G hmg
    refine' K41.all_mk KX G hmg ?a_iN ?l_iN ?c_iN ?k_iN ?a_iP ?l_iP ?c_iP ?k_iP ?a_iS ?l_iS ?c_iS ?k_iS ?a_iL ?l_iL ?c_iL ?k_iL ?a_iW ?l_iW ?c_iW ?k_iW ?a_iJ ?l_iJ ?c_iJ ?k_iJ ?a_iF ?l_iF ?c_iF ?k_iF ?a_wE ?l_wE ?c_wE ?k_wE ?a_wR ?l_wR ?c_wR ?k_wR ?a_pT ?l_pT ?c_pT ?k_pT ?a_pL ?l_pL ?c_pL ?k_pL ?a_tW ?l_tW ?c_tW ?k_tW ?a_tN ?l_tN ?c_tN ?k_tN ?a_tM ?l_tM ?c_tM ?k_tM ?a_tF ?l_tF ?c_tF ?k_tF ?a_tI ?l_tI ?c_tI ?k_tI ?a_tE ?l_tE ?c_tE ?k_tE ?a_tL ?l_tL ?c_tL ?k_tL ?a_tX ?l_tX ?c_tX ?k_tX ?a_tA ?l_tA ?c_tA ?k_tA ?a_lB ?l_lB ?c_lB ?k_lB ?a_lN ?l_lN ?c_lN ?k_lN ?a_lP ?l_lP ?c_lP ?k_lP ?a_lF ?l_lF ?c_lF ?k_lF ?a_lG ?l_lG ?c_lG ?k_lG ?a_lW ?l_lW ?c_lW ?k_lW ?a_lU ?l_lU ?c_lU ?k_lU ?a_lT ?l_lT ?c_lT ?k_lT ?a_lV ?l_lV ?c_lV ?k_lV ?a_lD ?l_lD ?c_lD ?k_lD ?a_lA ?l_lA ?c_lA ?k_lA ?a_lR ?l_lR ?c_lR ?k_lR ?a_lM ?l_lM ?c_lM ?k_lM ?a_la ?l_la ?c_la ?k_la ?g_vS ?g_vM ?g_vT ?g_vD ?g_vK ?g_vE ?g_c1 ?g_c2 ?g_c3 ?g_cL ?g_cP ?z_isinstance ?z_int ?z_bool ?z_str ?z_tuple ?z_len ?z_all ?z_sorted ?z_enumerate ?z_zip ?z_list ?z_any ?z_range ?z_min ?z_repr
    (case a_iN => k_is)
    (case l_iN => k_is)
    (case c_iN => k_is)
    (case k_iN => k_is)
    (case a_iP => k_is)
    (case l_iP => k_is)
    (case c_iP => k_is)
    (case k_iP => k_is)
    (case a_iS => k_is)
    (case l_iS => k_is)
    (case c_iS => k_is)
    (case k_iS => k_is)
    (case a_iL => k_is)
    (case l_iL => k_is)
    (case c_iL => k_is)
    (case k_iL => k_is)
    (case a_iW => k_is)
    (case l_iW => k_is)
    (case c_iW => k_is)
    (case k_iW => k_is)
    (case a_iJ => k_is)
    (case l_iJ => k_is)
    (case c_iJ => k_is)
    (case k_iJ => k_is)
    (case a_iF => k_is)
    (case l_iF => k_is)
    (case c_iF => k_is)
    (case k_iF => k_is)
    (case a_wE => k_is)
    (case l_wE => k_is)
    (case c_wE => k_is)
    (case k_wE => k_is)
    (case a_wR => k_is)
    (case l_wR => k_is)
    (case c_wR => k_is)
    (case k_wR => k_is)
    (case a_pT => k_is)
    (case l_pT => k_is)
    (case c_pT => k_is)
    (case k_pT => k_is)
    (case a_pL => k_is)
    (case l_pL => k_is)
    (case c_pL => k_is)
    (case k_pL => k_is)
    (case a_tW => k_is)
    (case l_tW => k_is)
    (case c_tW => k_is)
    (case k_tW => k_is)
    (case a_tN => k_is)
    (case l_tN => k_is)
    (case c_tN => k_is)
    (case k_tN => k_is)
    (case a_tM => k_is)
    (case l_tM => k_is)
    (case c_tM => k_is)
    (case k_tM => k_is)
    (case a_tF => k_is)
    (case l_tF => k_is)
    (case c_tF => k_is)
    (case k_tF => k_is)
    (case a_tI => k_is)
    (case l_tI => k_is)
    (case c_tI => k_is)
    (case k_tI => k_is)
    (case a_tE => k_is)
    (case l_tE => k_is)
    (case c_tE => k_is)
    (case k_tE => k_is)
    (case a_tL => k_is)
    (case l_tL => k_is)
    (case c_tL => k_is)
    (case k_tL => k_is)
    (case a_tX => k_is)
    (case l_tX => k_is)
    (case c_tX => k_is)
    (case k_tX => k_is)
    (case a_tA => k_is)
    (case l_tA => k_is)
    (case c_tA => k_is)
    (case k_tA => k_is)
    (case a_lB => k_is)
    (case l_lB => k_is)
    (case c_lB => k_is)
    (case k_lB => k_is)
    (case a_lN => k_is)
    (case l_lN => k_is)
    (case c_lN => k_is)
    (case k_lN => k_is)
    (case a_lP => k_is)
    (case l_lP => k_is)
    (case c_lP => k_is)
    (case k_lP => k_is)
    (case a_lF => k_is)
    (case l_lF => k_is)
    (case c_lF => k_is)
    (case k_lF => k_is)
    (case a_lG => k_is)
    (case l_lG => k_is)
    (case c_lG => k_is)
    (case k_lG => k_is)
    (case a_lW => k_is)
    (case l_lW => k_is)
    (case c_lW => k_is)
    (case k_lW => k_is)
    (case a_lU => k_is)
    (case l_lU => k_is)
    (case c_lU => k_is)
    (case k_lU => k_is)
    (case a_lT => k_is)
    (case l_lT => k_is)
    (case c_lT => k_is)
    (case k_lT => k_is)
    (case a_lV => k_is)
    (case l_lV => k_is)
    (case c_lV => k_is)
    (case k_lV => k_is)
    (case a_lD => k_is)
    (case l_lD => k_is)
    (case c_lD => k_is)
    (case k_lD => k_is)
    (case a_lA => k_is)
    (case l_lA => k_is)
    (case c_lA => k_is)
    (case k_lA => k_is)
    (case a_lR => k_is)
    (case l_lR => k_is)
    (case c_lR => k_is)
    (case k_lR => k_is)
    (case a_lM => k_is)
    (case l_lM => k_is)
    (case c_lM => k_is)
    (case k_lM => k_is)
    (case a_la => k_is)
    (case l_la => k_is)
    (case c_la => k_is)
    (case k_la => k_is)
    (case g_vS => k_is)
    (case g_vM => k_is)
    (case g_vT => k_is)
    (case g_vD => k_is)
    (case g_vK => k_is)
    (case g_vE => k_is)
    (case g_c1 => k_is)
    (case g_c2 => k_is)
    (case g_c3 => k_is)
    (case g_cL => k_is)
    (case g_cP => k_is)
    (case z_isinstance => k_is)
    (case z_int => k_is)
    (case z_bool => k_is)
    (case z_str => k_is)
    (case z_tuple => k_is)
    (case z_len => k_is)
    (case z_all => k_is)
    (case z_sorted => k_is)
    (case z_enumerate => k_is)
    (case z_zip => k_is)
    (case z_list => k_is)
    (case z_any => k_is)
    (case z_range => k_is)
    (case z_min => k_is)
    (case z_repr => k_is)
#print axioms PySem.Challenge.cw_tornlines_k41_whole_turned_files_holds
