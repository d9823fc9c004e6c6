import PyProof.Rows.All
import Wide.All
import OpenK.AllK
import Wide.FinOn
import KE.KExcInit
import KE.KExcIs
import HandS.ForMost
import HandS.Exc
import HandS.ExcInit
import HandS.Defaults
import HandS.IsInst
import HandS.Conv
import HandS.Small
import HandS.SortRule
import HandS.TupLe
import HandS.NamedTupSort
import PyProof.Rows.SortKeyStr
import PyProof.FString5
import HandS.StrMore
import HandS.Walk
import PyProof.Rows.StrLen
import PyProof.StrLawsAffix
import HandS.Set
import HandS.Strs
import HandS.SetBool
import KE.GoesMore
import HandS.TupAny
import HandS.TryMany
import HandS.ExcValue
import HandS.ExcOwn
import HandS.ExcField
import HandS.WordsExc
import HandS.TupSets
import HandS.Deep
import HandS.TryOnly
import HandS.ExcIs
import HandS.TupMul
import PyProof.ReprRoads
import PySem.Challenge.RW_tornlines_k04_whole_lines
set_option Elab.async false
set_option linter.all false
set_option maxRecDepth 100000
set_option maxHeartbeats 4000000
/-! Own exception classes over any built-in base: made with positional or keyword arguments, kept as values, their fields read, asked by isinstance. -/
namespace EV
open PySem PySem.W PySem.Calls PyProof.Rows PySem.HandSPX
open Builtin Builtin.ObjectAttr
section
variable {prog : Program} {w : World} {A : Around} {E : Value → Shared → Prop} {R : Result → Shared → Prop}
variable {hp : Heap} {g : Array GenState} {d : Drawn} {t : Nat} {os : OsState}
/-- an exception's first field, whatever its base -/
theorem put_first {K : W.Frag} {nm : Str} {tk : Tok} {v : Value} {x C : Addr} {fv : Array Value} {cd : ClassData}
    (X : K.In hp) (hx : hp.get? x = some { cls := .ref C, data := .fields fv }) (hcd : W.clsIn K C = some cd)
    (pas : refuseLoop (.ref x) "__setattr__" cd.mro = pure ()) (hob : cd.mro.contains (.type "object") = true) (hne : cd.mro.isEmpty = false)
    (hh : cd.hasDict = true) (ha : W.findIn K (.ref C) nm = some none)
    (hq : ∀ h' tk' dx, (∀ b o, b ≠ x → hp.get? b = some o → h'.get? b = some o) → hp.objs.size ≤ dx → dx ≠ x →
      h'.get? x = some { cls := .ref C, dict := some dx, data := .fields fv } → h'.Ns1 dx (fun y => if y = nm then some v else none) →
      R (.ok (.ret .none)) ⟨h', g, d, tk', os⟩) :
    codeAny (model prog w) A (.call (.builtin "object.__setattr__") ⟨[.ref x, .str nm tk, v], []⟩) R ⟨hp, g, d, t, os⟩ := by
  have J : W.InstAt hp x { cls := .ref C, data := .fields fv } C none := ⟨hx, rfl, rfl, trivial⟩
  have hxs : x ≠ hp.objs.size := Nat.ne_of_lt (Heap.lt_size hx)
  have isO : W.Looks (model prog w) hp (isInstance (.ref x) (.type "object")) true :=
    J.type.andThen (W.looks_mroIn X (by unfold W.mroIn; rw [hcd, Option.bind_some, if_neg (by rw [hne]; decide), hob]))
  refine codeAny_call_builtin F.store_object.slot.plain F.store_object.entry
    (@W.check_slot (model prog w) _ _ ⟨hp, g, d, t, os⟩ "object.__setattr__" "object" "__setattr__" (.ref x) [.str nm tk, v] [] _
      F.store_object.kind F.store_object.split isO (F.store_object.args (.ref x) (.str nm tk) v) ?_)
  have order : W.Looks (model prog w) hp (mroOf (.ref C)) cd.mro := (W.looks_clsIn X hcd).andThen .now
  have taker : W.Looks (model prog w) hp (storeTaker? none) none := .now
  have data : W.Looks (model prog w) hp (classData C) cd := W.looks_clsIn X hcd
  rw [W.osa_eq, refuse_eq]
  refine wpAny_bind (wpAny_bind (J.type.at (wpAny_bind (order.at ?_))))
  rw [pas]
  refine wpAny_pure (wpAny_bind (J.type.at (wpAny_bind ((W.looks_findIn X ha).at (wpAny_bind (taker.at ?_))))))
  show wpAny _ _ (storeInOwnDict (.ref x) (.ref C) (.str nm tk) nm v false) _ _ _
  obtain ⟨q1, q2, q3, q4, q5, q6, q7, q8, q9, q10, q11⟩ := cd
  dsimp only at hh
  subst hh
  unfold storeInOwnDict ownDictForStores
  repeat (first
    | with_reducible refine store_in_new ?_ ?_
    | with_reducible refine wpAny_loadPart_at hx ?_
    | with_reducible refine data.at ?_
    | wp_step)
  · exact ⟨_, #[], _, (Heap.get?_update_ne _ _ _ _ hxs.symm).trans (Heap.get?_push_at rfl rfl), rfl, fun e he => absurd he (by simp), fun _ => rfl⟩
  · intro h' tk' nsd same
    have hx1 : (hp.push { cls := .type "dict", data := .dict #[] }).get? x = some { cls := .ref C, data := .fields fv } := Heap.get?_push_of_some _ hx
    refine hq h' tk' hp.objs.size (fun b o nb q => ?_) (Nat.le_refl _) hxs.symm ?_ nsd
    · exact (same.2 b (Nat.ne_of_lt (Heap.lt_size q))).trans
        ((Heap.get?_update_ne _ _ _ _ nb).trans (Heap.get?_push_of_some _ q))
    · exact (same.2 x hxs).trans (Heap.get?_update_self _ hx1 rfl)
/-- a further field -/
theorem put_more {K : W.Frag} {nm : Str} {tk : Tok} {v : Value} {x C dx : Addr} {fv : Array Value} {cd : ClassData} {m0 : Str → Option Value} {nl : List Str}
    (X : K.In hp) (hx : hp.get? x = some { cls := .ref C, dict := some dx, data := .fields fv }) (nsd : hp.Ns1 dx m0) (wi : Within m0 nl) (hz : nl.length ≤ 1000)
    (hcd : W.clsIn K C = some cd) (pas : refuseLoop (.ref x) "__setattr__" cd.mro = pure ()) (hob : cd.mro.contains (.type "object") = true)
    (hne : cd.mro.isEmpty = false) (hh : cd.hasDict = true) (ha : W.findIn K (.ref C) nm = some none)
    (hq : ∀ h' tk', (∀ b o, b ≠ dx → hp.get? b = some o → h'.get? b = some o) → h'.Ns1 dx (fun y => if y = nm then some v else m0 y) →
      R (.ok (.ret .none)) ⟨h', g, d, tk', os⟩) :
    codeAny (model prog w) A (.call (.builtin "object.__setattr__") ⟨[.ref x, .str nm tk, v], []⟩) R ⟨hp, g, d, t, os⟩ := by
  obtain ⟨oD, _, _, hoD, _, _⟩ := nsd.count wi
  have J : W.InstAt hp x { cls := .ref C, dict := some dx, data := .fields fv } C (some oD) := ⟨hx, rfl, rfl, hoD⟩
  have isO : W.Looks (model prog w) hp (isInstance (.ref x) (.type "object")) true :=
    J.type.andThen (W.looks_mroIn X (by unfold W.mroIn; rw [hcd, Option.bind_some, if_neg (by rw [hne]; decide), hob]))
  refine codeAny_call_builtin F.store_object.slot.plain F.store_object.entry
    (@W.check_slot (model prog w) _ _ ⟨hp, g, d, t, os⟩ "object.__setattr__" "object" "__setattr__" (.ref x) [.str nm tk, v] [] _
      F.store_object.kind F.store_object.split isO (F.store_object.args (.ref x) (.str nm tk) v) ?_)
  have order : W.Looks (model prog w) hp (mroOf (.ref C)) cd.mro := (W.looks_clsIn X hcd).andThen .now
  have taker : W.Looks (model prog w) hp (storeTaker? none) none := .now
  have data : W.Looks (model prog w) hp (classData C) cd := W.looks_clsIn X hcd
  rw [W.osa_eq, refuse_eq]
  refine wpAny_bind (wpAny_bind (J.type.at (wpAny_bind (order.at ?_))))
  rw [pas]
  refine wpAny_pure (wpAny_bind (J.type.at (wpAny_bind ((W.looks_findIn X ha).at (wpAny_bind (taker.at ?_))))))
  show wpAny _ _ (storeInOwnDict (.ref x) (.ref C) (.str nm tk) nm v false) _ _ _
  obtain ⟨q1, q2, q3, q4, q5, q6, q7, q8, q9, q10, q11⟩ := cd
  dsimp only at hh
  subst hh
  unfold storeInOwnDict ownDictForStores
  repeat (first
    | with_reducible refine OEX.store_in_old nsd wi hz ?_
    | with_reducible refine wpAny_loadPart_at hx ?_
    | with_reducible refine data.at ?_
    | wp_step)
  intro h' tk' ns' same
  exact hq h' tk' (fun b o nb q => (same.2 b nb).trans q) ns'
end
/-! ### an own exception class called with keywords -/
section
variable {M : Model} {A : Around} {E : Value → Shared → Prop} {h : Heap} {g : Array GenState} {d : Drawn} {t : Nat} {os : OsState}
variable {nm q : Str} {C N : Addr} {bs bm : List Value} {hd : Bool} {sn : List Str} {sub : List Value} {ab : Bool} {col : Option Bool} {dd : Option Addr}
variable {k0 k1 k2 k3 k5 : Option Value} {B newId initId : String}
theorem check_newK (F : ExcBaseFacts B newId initId bm) {rest : List Value} {kw : List (Str × Value)} {Q : Unit → Shared → Prop}
    (hC : h.get? C = some (excClassObj nm q C N bs bm hd sn sub ab col dd k0 k1 k2 k3 k5 newId)) (hq : Q () ⟨h, g, d, t, os⟩) :
    wpAny M A (checkBuiltinCall newId ⟨.ref C :: rest, kw⟩) Q E ⟨h, g, d, t, os⟩ := by
  have hasIt : (Value.ref C :: bm).contains (.type B) = true := by rw [List.contains_cons, F.hasB, Bool.or_true]
  have star := F.noStar
  simp only [checkBuiltinCall, F.newKind, F.newSplit, F.newRow]
  repeat (first
    | refine wpAny_loadPart_at hC ?_
    | (refine wpAny_isSubtype_exc hC ?_; rw [hasIt])
    | refine wpAny_staticBase_exc hC ?_
    | refine wpAny_madeBy_exc hC ?_
    | simp only [bne_self_eq_false, Bool.false_eq_true, if_false]
    | wp_step)
  exact hq
end
section
variable {prog : Program} {w : World} {A : Around} {E : Value → Shared → Prop} {R : Result → Shared → Prop}
variable {h : Heap} {g : Array GenState} {d : Drawn} {t : Nat} {os : OsState}
variable {nm q : Str} {C N : Addr} {bs bm : List Value} {hd : Bool} {sn : List Str} {sub : List Value} {ab : Bool} {col : Option Bool} {dd : Option Addr}
variable {k0 k1 k2 k3 k5 : Option Value} {B newId initId : String}
theorem newK (F : ExcBaseFacts B newId initId bm) {rest : List Value} {kw : List (Str × Value)}
    (hC : h.get? C = some (excClassObj nm q C N bs bm hd sn sub ab col dd k0 k1 k2 k3 k5 newId))
    (hq : R (.ok (.ret (.ref (h.objs.size + 1)))) ⟨(h.push (W.kdv_tup rest)).push (excO C h.objs.size), g, d, t, os⟩) (hrest : rest.length ≤ sizeLine) :
    codeAny (model prog w) A (.builtin newId ⟨.ref C :: rest, kw⟩) R ⟨h, g, d, t, os⟩ := by
  have ends := F.ends
  have b1 : (Value.ref C :: bm).contains (.type B) = true := by rw [List.contains_cons, F.hasB, Bool.or_true]
  have b2 : (Value.ref C :: bm).contains (.type "AttributeError") = false := by rw [List.contains_cons, F.noAttr]; rfl
  have b3 : (Value.ref C :: bm).contains (.type "NameError") = false := by rw [List.contains_cons, F.noName]; rfl
  refine codeAny_builtinAt F.entry ?_
  unfold Builtin.«BaseException.__new__»
  refine PySem.wpAt_bind ?_
  show PySem.wpAt _ _ _ (stack >>= _) _ _ _
  refine PySem.wpAt_bind (PySem.wpAt_stack fun p below => PySem.wpAt_of_wpAny ?_)
  wp_walk
  refine PySem.wpAt_of_wpAny ?_
  rw [F.owner]
  repeat (first
    | with_reducible refine wpAny_madeHere_exc F.canon hC ?_
    | with_reducible refine wpAny_loadPart_at hC ?_
    | (with_reducible refine wpAny_isSubtype_exc hC ?_; first | rw [b1] | rw [b2] | rw [b3])
    | wp_step)
  show R _ _
  rw [Heap.size_push]
  exact hq
theorem typeCallK (F : ExcBaseFacts B newId initId bm) {rest : List Value} {kw : List (Str × Value)} {fI : Addr} {Q : Fin → Shared → Prop}
    (hC : h.get? C = some (excClassObj nm q C N bs bm hd sn sub ab col dd k0 k1 k2 k3 k5 newId))
    (hi : W.Looks (model prog w) h (typeLookup (.ref C) "__init__") (some (.ref fI)))
    (hb : ∀ self, W.Looks (model prog w) h (bindSpecial (.ref fI) self) (.ref fI, [self])) (hrest : rest.length ≤ sizeLine)
    (hq : codeAny (model prog w) A (.call (.ref fI) ⟨.ref (h.objs.size + 1) :: rest, kw⟩)
      (fun r s' => match r with | .ok (.ret v) => v = .none ∧ Q (.done (.ret (.ref (h.objs.size + 1)))) s' | .ok _ => False | .error e => E e s')
      ⟨(h.push (W.kdv_tup rest)).push (excO C h.objs.size), g, d, t, os⟩) :
    wpAny (model prog w) A (Builtin.«type.__call__» ⟨.ref C :: rest, kw⟩) Q E ⟨h, g, d, t, os⟩ := by
  repeat (first
    | with_reducible refine wpAny_loadPart_at hC ?_
    | with_reducible refine wpAny_madeBy_exc hC ?_
    | wp_step)
  refine codeAny_call_builtin_code (Code.quiet_builtin _ F.quiet) (check_newK F hC ?_)
  refine newK F hC ?_ hrest
  show wpAny _ _ _ _ _ _
  have kp : ∀ b o, h.get? b = some o → ((h.push (W.kdv_tup rest)).push (excO C h.objs.size)).get? b = some o :=
    fun b o e => Heap.get?_push_of_some _ (Heap.get?_push_of_some _ e)
  have hC1 := kp _ _ hC
  have new : ((h.push (W.kdv_tup rest)).push (excO C h.objs.size)).get? (h.objs.size + 1) = some (excO C h.objs.size) := by heap_get
  have self : (Value.ref C :: bm).contains (.ref C) = true := by simp
  have i1 := hi.keeps kp
  have b1 := (hb (.ref (h.objs.size + 1))).keeps kp
  unfold isInstance
  repeat (first
    | with_reducible refine wpAny_loadPart_at new ?_
    | (with_reducible refine wpAny_isSubtype_exc hC1 ?_; rw [self])
    | wp_step)
  show wpAny _ _ (typeLookup (.ref C) _) _ _ _
  refine i1.at ?_
  refine wpAny_holding (wpAny_bind (b1.at ?_))
  refine wpAny_bind (wpAny_call (codeAny_mono hq fun r s' z => ?_))
  rcases r with e | (v | _ | _ | _) <;> first | exact z | exact z.elim | skip
  obtain ⟨rfl, z⟩ := z
  first
    | exact wpAny_pure (wpAny_pure z)
    | (wp_walk; exact z)
theorem callK (F : ExcBaseFacts B newId initId bm) {rest : List Value} {kw : List (Str × Value)} {fI : Addr}
    (hC : h.get? C = some (excClassObj nm q C N bs bm hd sn sub ab col dd k0 k1 k2 k3 k5 newId))
    (hi : W.Looks (model prog w) h (typeLookup (.ref C) "__init__") (some (.ref fI)))
    (hb : ∀ self, W.Looks (model prog w) h (bindSpecial (.ref fI) self) (.ref fI, [self])) (hrest : rest.length ≤ sizeLine)
    (hq : codeAny (model prog w) (A.under (.builtin "type.__call__" ⟨.ref C :: rest, kw⟩)) (.call (.ref fI) ⟨.ref (h.objs.size + 1) :: rest, kw⟩)
      (W.InitBack (h.objs.size + 1) R) ⟨(h.push (W.kdv_tup rest)).push (excO C h.objs.size), g, d, t, os⟩) :
    codeAny (model prog w) A (.call (.ref C) ⟨rest, kw⟩) R ⟨h, g, d, t, os⟩ := by
  have f1 := tc_lookup
  have f2 := tc_bind (.ref C)
  have ty : (⟨h, g, d, t, os⟩ : Shared).TypeIs (.ref C) "type" := ⟨_, hC, rfl⟩
  refine codeAny_of_tree ?_
  show wpAny _ _ (callAny (.ref C) _) _ _ _
  repeat (any_goals (first
    | assumption
    | with_reducible refine wpAny_loadPart_at hC ?_
    | wp_step))
  refine ⟨rfl, ?_⟩
  refine codeAny_call_builtin_at (Code.quiet_builtin _ (by decide +kernel)) entry_typeCall ?_
  refine wpAny_check_type_call_sub hC ?_
  refine typeCallK F hC hi hb hrest (codeAny_mono hq fun r s' z => ?_)
  rcases r with e | (v | _ | _ | _) <;> exact z
end
end EV

set_option Elab.async false
set_option linter.all false
set_option maxRecDepth 100000
set_option maxHeartbeats 4000000
namespace L2
namespace EV
open PySem PySem.Spec PyProof.Rows _root_.EV
/-- what the written part says of an own exception class at C, straight under the built-in base B -/
structure OxC (K : PySem.W.Frag) (C : Addr) (B newId initId : String) (bm : List Value) : Prop where
  F : ExcBaseFacts B newId initId bm
  cls : ∃ nm q N bs sn sub ab col dd k0 k1 k2 k3 k5, K.lookup C = some (excClassObj nm q C N bs bm true sn sub ab col dd k0 k1 k2 k3 k5 newId)
  pas : ∀ self, refuseLoop self "__setattr__" bm = pure ()
  obj : bm.contains (.type "object") = true
  sa : PySem.W.findIn K (.ref C) "__setattr__" = some (some (.builtin "object.__setattr__"))
  ga : PySem.W.findIn K (.ref C) "__getattribute__" = some (some (.builtin "BaseException.__getattribute__"))
  gg : PySem.W.findIn K (.ref C) "__getattr__" = some none
  exC : PySem.W.subIn K (.ref C) (.type "BaseException") = some true
  kC : PySem.W.keepIn K (.ref C) = true
  hd : PySem.W.hasDictIn K C = true
  ca : PySem.W.findIn K (.ref C) "__class__" = some (some (.builtin "object.__class__"))
  cn : PySem.W.specialIn K (.builtin "object.__class__") "__get__" = some (some (.builtin "getset_descriptor.__get__"))
  ct : PySem.W.takesIn K (.builtin "object.__class__") = some true
  om : PySem.W.mroIn K C (.type "object") = some true
section
variable {X : Cx} {pins : List (Addr × Obj)} {σ : St} {H : Hp} {s : Shared} {a C dx : Addr} {f : Str} {y : V} {u : Value} {fs : List (Str × V)}
variable {Q : Unit → Shared → Prop} {E : Value → Shared → Prop} {A : Around} {B newId initId : String} {bm : List Value}
theorem OxC.data {K : PySem.W.Frag} (T : OxC K C B newId initId bm) : ∃ cd, PySem.W.clsIn K C = some cd ∧ cd.mro = .ref C :: bm ∧ cd.hasDict = true := by
  obtain ⟨nm, q, N, bs, sn, sub, ab, col, dd, k0, k1, k2, k3, k5, hC⟩ := T.cls
  refine ⟨{ name := nm, bases := bs, mro := .ref C :: bm, ns := N, qualname := q, hasDict := true, slotNames := sn, subclasses := sub, abstract := ab, collection := col, hasDel := false }, ?_, rfl, rfl⟩
  unfold PySem.W.clsIn
  rw [hC] <;> rfl
theorem OxC.look {K : PySem.W.Frag} (T : OxC K C B newId initId bm) {cd : ClassData} (e : cd.mro = .ref C :: bm) (self : Value) :
    refuseLoop self "__setattr__" cd.mro = pure () ∧ cd.mro.contains (.type "object") = true ∧ cd.mro.isEmpty = false := by
  rw [e, refuseLoop_ref]
  refine ⟨T.pas self, ?_, rfl⟩
  rw [List.contains_cons, T.obj, Bool.or_true]
/-- self.f = y, the first field -/
theorem ox_first (T : OxC X.K C B newId initId bm) (I : Inv X pins σ H s) (e : H a = some (exo a C none)) (no : PySem.W.findIn X.K (.ref C) f = some none) (ry : RelV y u)
    (h : ∀ dx s', H dx = none → dx ≠ a → Inv X pins σ (upd (upd H dx (exd dx [(f, y)])) a (exo a C (some dx))) s' → Q () s') :
    wpAny (model X.prog X.w) A (setAttr (.ref a) f u) Q E s := by
  obtain ⟨cd, hcl, hmr, hdi⟩ := T.data
  obtain ⟨l1, l2, l3⟩ := T.look hmr (.ref a)
  obtain ⟨t1, ho⟩ := exo_at I.hok e
  obtain ⟨hp, g, d, t, os⟩ := s
  refine PySem.W.set_plain I.kIn (ox := { cls := .ref C, dict := none, data := .fields #[.ref t1, .none, .none, .none, .bool false, .none] })
    (od := none) ⟨ho, rfl, rfl, trivial⟩ T.sa ?_
  refine put_first I.kIn ho hcl l1 l2 l3 hdi no fun h' tk' dx k big ne hx hn => ?_
  have free : H dx = none := I.hok.fresh big
  have old : ∀ {b : Addr} {o : Obj}, hp.get? b = some o → b ≠ dx := fun {b o} q => Nat.ne_of_lt (Nat.lt_of_lt_of_le (Heap.lt_size q) big)
  have nota : ∀ {b : Addr}, H b = none → b ≠ a := fun {b} n z => by
    subst z
    rw [e] at n
    cases n
  have un : Un X.fs [] H (upd (upd H dx (exd dx [(f, y)])) a (exo a C (some dx))) hp h' := by
    refine ⟨fun b o q n _ _ => k b o (nota n) q, fun b o q n _ _ => ⟨o.slots, k b o (nota n) q⟩, fun b o q n _ => ?_, fun b o q _ => ?_, fun b xs q => ?_, fun b o v q => ?_, fun b ps q => ⟨#[], ?_⟩⟩
    · rw [upd_ne (nota n), upd_ne (old q)]
      exact n
    · by_cases hb : b = a
      · subst hb
        exact ⟨_, hx⟩
      · exact ⟨o, k b o hb q⟩
    · rw [upd_ne (at_ne e q exo_tup), upd_ne (ne_of_none q free)]
      exact q
    · rw [upd_ne (at_ne e q exo_frz), upd_ne (ne_of_none q free)]
      exact q
    · rw [upd_ne (at_ne e q exo_tbl), upd_ne (ne_of_none q free), q]
      simp
  refine h dx _ free ne (I.un (t' := tk') un fun b o q => ?_)
  by_cases hb : b = a
  · subst hb
    rw [upd_same] at q
    cases q
    exact exo_ok hx
  · rw [upd_ne hb] at q
    by_cases hd : b = dx
    · subst hd
      rw [upd_same] at q
      cases q
      exact exd_ok hn (relO_put (fs := []) ry fun g => True.intro)
    · rw [upd_ne hd] at q
      refine (I.hok b o q).stay (fun c v hc z => k c v ?_ z) (fun c hc => ?_) fun c xs hc => ?_
      · rcases hc with hc | hc
        · subst hc
          exact hb
        · exact at_ne e hc exo_own
      · rw [upd_ne (at_ne e hc exo_own), upd_ne (ne_of_none hc free)]
        exact hc
      · rw [upd_ne (at_ne e hc exo_tup), upd_ne (ne_of_none hc free)]
        exact hc
/-- self.f = y, a further field -/
theorem ox_more (T : OxC X.K C B newId initId bm) (I : Inv X pins σ H s) (e : H a = some (exo a C (some dx))) (ed : H dx = some (exd dx fs)) (hl : fs.length ≤ 900)
    (no : PySem.W.findIn X.K (.ref C) f = some none) (ry : RelV y u) (h : ∀ s', Inv X pins σ (upd H dx (exd dx ((f, y) :: fs))) s' → Q () s') :
    wpAny (model X.prog X.w) A (setAttr (.ref a) f u) Q E s := by
  obtain ⟨cd, hcl, hmr, hdi⟩ := T.data
  obtain ⟨l1, l2, l3⟩ := T.look hmr (.ref a)
  obtain ⟨t1, ho⟩ := exo_at I.hok e
  obtain ⟨mA, hns, rel⟩ := exd_at I.hok ed
  have hw := within_of rel
  obtain ⟨hp, g, d, t, os⟩ := s
  obtain ⟨oD, _, _, hoD, _, _⟩ := hns.count hw
  refine PySem.W.set_plain I.kIn (ox := { cls := .ref C, dict := some dx, data := .fields #[.ref t1, .none, .none, .none, .bool false, .none] })
    (od := some oD) ⟨ho, rfl, rfl, hoD⟩ T.sa ?_
  refine put_more I.kIn ho hns hw (by rw [List.length_map]; omega) hcl l1 l2 l3 hdi no fun h' tk' k hn => ?_
  have there : ∃ o, h'.get? dx = some o := by
    obtain ⟨o, _, _, e', _⟩ := hn
    exact ⟨o, e'⟩
  refine h _ (I.write (t' := tk') (x := dx) (e := dx) (o := exd dx ((f, y) :: fs)) ?_ (.inl rfl) k there (exd_ok hn (relO_put ry rel)))
  rw [ed]
  exact True.intro
/-- B.__init__(self, ..) of an exception without fields: nothing of it is told -/
theorem ox_init {us : List Value} {Q : Value → Shared → Prop} (T : OxC X.K C B newId initId bm) (I : Inv X pins σ H s) (e : H a = some (exo a C none)) (hl : us.length ≤ sizeLine)
    (h : ∀ s', Inv X pins σ H s' → Q .none s') : wpAny (model X.prog X.w) A (call (.builtin initId) (.ref a :: us)) Q E s := by
  obtain ⟨nm, q, N, bs, sn, sub, ab, col, dd, k0, k1, k2, k3, k5, hC⟩ := T.cls
  obtain ⟨t1, ho⟩ := exo_at I.hok e
  obtain ⟨hp, g, d, t, os⟩ := s
  refine wpAny_call (PySem.HandSPX.init_base T.F (fun _ => rfl) (I.kIn _ _ hC) ho hl fun h' t2 k hx => ?_)
  have J := I.write (t' := t) (x := a) (e := a) (o := exo a C none) (by rw [e]; exact True.intro) (.inl rfl) k ⟨_, hx⟩ (exo_ok hx)
  have eu : upd H a (exo a C none) = H := by
    funext b
    by_cases hb : b = a
    · subst hb
      rw [upd_same, e]
    · rw [upd_ne hb]
  rw [eu] at J
  exact h _ J
end
/-! ### the readings -/
def tBin (K : PySem.W.Frag) (B newId initId : String) (bm : List Value) (ta : TA) : TE := fun σ H Q => ta σ H fun vs H1 =>
  ∃ (a C : Addr) (ws : List V), vs = .ref a :: ws ∧ ws.length ≤ 1000 ∧ OxC K C B newId initId bm ∧ H1 a = some (exo a C none) ∧ Q .non H1
def tPut (K : PySem.W.Frag) (B newId initId : String) (bm : List Value) (f : Str) (to te : TE) : TS := fun D σ H => te σ H fun y H1 => to σ H1 fun x H2 =>
  ∃ a C : Addr, x = .ref a ∧ OxC K C B newId initId bm ∧ PySem.W.findIn K (.ref C) f = some none ∧
    ((H2 a = some (exo a C none) ∧ ∀ dx, H2 dx = none → dx ≠ a → D.nx σ (upd (upd H2 dx (exd dx [(f, y)])) a (exo a C (some dx)))) ∨
      ∃ (dx : Addr) (fs : List (Str × V)), H2 a = some (exo a C (some dx)) ∧ H2 dx = some (exd dx fs) ∧ fs.length ≤ 900 ∧ D.nx σ (upd H2 dx (exd dx ((f, y) :: fs))))
/-- C(..) as a value: gV puts the exception itself, the values by position and those by name in the parameters' order -/
def tNew (C : Addr) (n m : Nat) (sp : Sp) (gV : List V → List V → List V) (t tk : TA) : TE := fun σ H Q => t σ H fun vs H1 => tk σ H1 fun zs H2 =>
  vs.length = n ∧ zs.length = m ∧ vs.length ≤ 1000 ∧ ∀ a, H2 a = none → sp (gV (.ref a :: vs) zs) (upd H2 a (exo a C none)) (fun v H3 => v = .non ∧ Q (.ref a) H3) (fun _ _ _ => False)
/-- e.f, e such an exception -/
def tFld (K : PySem.W.Frag) (f : Str) (te : TE) : TE := fun σ H Q => te σ H fun x H1 =>
  ∃ (a C dx : Addr) (B newId initId : String) (bm : List Value) (fs : List (Str × V)) (v : V), x = .ref a ∧ OxC K C B newId initId bm ∧ PySem.W.findIn K (.ref C) f = some none ∧
    H1 a = some (exo a C (some dx)) ∧ H1 dx = some (exd dx fs) ∧ fs.lookup f = some v ∧ Q v H1
/-- isinstance(e, c) -/
def rIsX (K : PySem.W.Frag) : List V → Hp → VK → Prop := fun xs H Q => ∃ (a C : Addr) (od : Option Addr) (fs : List (Str × V)) (B newId initId : String) (bm : List Value) (c : V) (u : Value) (b : Bool),
  xs = [.ref a, c] ∧ ClsV c u ∧ OxC K C B newId initId bm ∧ H a = some (exo a C od) ∧ (∀ dx, od = some dx → H dx = some (exd dx fs)) ∧ PySem.W.kitOne K (.ref C) u = some b ∧ Q (.bl b) H
section
variable {X : Cx} {o e : Expr} {es : List Expr} {to te : TE} {ta : TA} {f : Str} {p p' p1 p2 pos : Pos} {B newId initId : String} {bm : List Value}
theorem pe_bin {nB : Str} {pl : Sem Bool} (hg : Gl X nB) (hm : X.mg nB = none) (hv : bootBuiltins nB = some (.type B)) (ty : typeOf (.type B) = pure (.type "type"))
    (vV : PySem.W.findCls X.K (.type B) (.type "type") "__init__" = some (.val (.builtin initId))) (q4 : Manifest.isStub B = false) (ha : PA X (e :: es) ta) (q3 : PySem.W.handedIn (.builtin initId) = true)
    (hn1 : nB ≠ "__name__" := by decide) (hn2 : (nB == ("__debug__" : Str)) = false := by decide)
    (hc : eval (.Call (.Attribute (.Name nB p1) "__init__" p2) (e :: es) [] pos) X.env = (do
      let ov ← eval (.Name nB p1) X.env
      standAt p2.atName
      let (f, first) ← holding [ov] (getMethod ov "__init__" pl)
      callWith pos f first (backTo pos (starEach (e :: es) X.env)) (backToKw pos (keywordEach [] X.env))) := by rfl)
    (he : starEach (e :: es) X.env = (false, eval e X.env) :: starEach es X.env := by rfl) (hpl : (backTo pos (starEach es X.env)).any (·.1) = false := by rfl) :
    PE X (.Call (.Attribute (.Name nB p1) "__init__" p2) (e :: es) [] pos) (tBin X.K B newId initId bm ta) := by
  refine ⟨fun pins s σ H Q I h => ?_⟩
  refine PySem.W.methodCall_KW (ld_blt I hg hm hv ?_ hn1 hn2) hc
  obtain ⟨m, fr⟩ := I.fr
  refine PySem.W.method_type fr I.ok.mod.kin ty q4 vV q3 ?_
  show wpAny _ _ (callWith pos (Value.builtin initId) [] (backTo pos (starEach (e :: es) X.env)) []) _ _ _
  refine PyProof.Rows.callWith_method1 (thn (ha.run pos pins _ σ H _ (I.tok _) h) fun us s1 ⟨vs, H1, I1, r1, a, C, ws, ev, hl, T, ea, q⟩ => ?_) he hpl
  subst ev
  cases r1 with
  | @cons _ u0 _ ur ra rr =>
    obtain rfl : u0 = Value.ref a := ra
    have len : ur.length ≤ sizeLine := by
      have e1 := Paired.length rr
      rw [← e1, sizeLine_eq]
      omega
    exact ox_init T I1 ea len fun s' J => ⟨.non, H1, J, rfl, q⟩
/-- self.f = e -/
theorem ps_put (ho : PE X o to) (he : PE X e te) (hs : swapsWith e (some (.Attribute o f p')) pos.line X.env = pure false := by rfl) :
    PS X (.Assign [.Attribute o f p'] e pos) (tPut X.K B newId initId bm f to te) := by
  refine ⟨fun pins s σ H D I h => ?_⟩
  refine plainObj_wpAny_Assign_Attribute (thn (he.run pins s σ H _ I h) fun v s1 ⟨y, H1, I1, r1, q1⟩ => ?_) hs
  refine thn (ho.run pins s1 σ H1 _ I1 q1) fun u s2 ⟨x, H2, I2, r2, a, C, ex, T, no, q⟩ => ?_
  subst ex
  obtain rfl : u = Value.ref a := r2
  rcases q with ⟨ea, q⟩ | ⟨dx, fs, ea, ed, hl, q⟩
  · exact ox_first T I2 ea no r1 fun dx s' n ne J => ⟨σ, _, J, q dx n ne⟩
  · exact ox_more T I2 ea ed hl no r1 fun s' J => ⟨σ, _, J, q⟩
/-- e.f -/
theorem pe_xfld (he : PE X e te) (hb : attributeBase e f X.env (eval e X.env) = eval e X.env := by rfl) : PE X (.Attribute e f pos) (tFld X.K f te) := by
  refine ⟨fun pins s σ H Q I h => ?_⟩
  refine attr_of hb (thn (he.run pins s σ H _ I h) fun u s1 ⟨x, H1, I1, rx, a, C, dx, B, newId, initId, bm, fs, v, ex, T, no, ea, ed, l, q⟩ => ?_)
  subst ex
  obtain rfl : u = Value.ref a := rx
  obtain ⟨t1, ho⟩ := exo_at I1.hok ea
  obtain ⟨mA, hns, hr⟩ := exd_at I1.hok ed
  obtain ⟨od, hod, hl⟩ := lookIn_ns hns
  obtain ⟨u, hu, ru⟩ := RelO.some_of (v := v) (o := mA f) (by rw [← l]; exact hr f)
  have J : PySem.W.InstAt s1.heap a { cls := .ref C, dict := some dx, data := .fields #[.ref t1, .none, .none, .none, .bool false, .none] } C (some od) := ⟨ho, rfl, rfl, hod⟩
  exact HandSPX.exc_get I1.kIn J T.ga T.gg T.exC (PySem.W.findObj_own T.hd no rfl (by rw [hl, hu])) (handed_of ru) ⟨v, H1, I1.tok _, ru, q⟩
theorem call_isX : CallR X (.builtin "isinstance") (rIsX X.K) := by
  intro pins s σ H xs us Q I r h
  obtain ⟨a, C, od, fs, B, newId, initId, bm, c, u, b, rfl, k, T, ea, ed, e, q⟩ := h
  obtain ⟨u1, u2, rfl, r1, r2⟩ := vals2 r
  have e2 := k.eq r2
  subst e2
  obtain rfl : u1 = Value.ref a := r1
  obtain ⟨t1, ho⟩ := exo_at I.hok ea
  obtain ⟨cd, hcl, _⟩ := T.data
  have some_ : (PySem.W.clsIn X.K C).isSome = true := by rw [hcl]; rfl
  have fin : ∀ tk, EP X pins σ Q (.bool b) { s with toks := tk } := fun tk => ⟨.bl b, H, I.tok tk, rfl, q⟩
  cases od with
  | none =>
    have J : PySem.W.InstAt s.heap a { cls := .ref C, dict := none, data := .fields #[.ref t1, .none, .none, .none, .bool false, .none] } C none := ⟨ho, rfl, rfl, trivial⟩
    exact PySem.W.kia_one (PySem.W.kitx_exc some_ T.ga T.gg T.exC T.ca T.cn T.ct T.om) I.kIn J e (fun z => nomatch z) fin
  | some dx =>
    obtain ⟨mA, hns, hr⟩ := exd_at I.hok (ed dx rfl)
    obtain ⟨o', hod, hl⟩ := lookIn_ns hns
    have J : PySem.W.InstAt s.heap a { cls := .ref C, dict := some dx, data := .fields #[.ref t1, .none, .none, .none, .bool false, .none] } C (some o') := ⟨ho, rfl, rfl, hod⟩
    exact PySem.W.kia_one (PySem.W.kitx_exc some_ T.ga T.gg T.exC T.ca T.cn T.ct T.om) I.kIn J e (fun z => nomatch z) fin
end
/-! ### making one, kept as a value -/
section
variable {X : Cx} {CX : CXT} {k n : Nat} {fI C : Addr} {fd : FuncData} {ps ks : List Str} {sp : Sp} {x : Str} {p pos : Pos} {e : Expr} {es : List Expr} {kws : List Keyword}
variable {t tk : TA} {g : List Value → List Value → List Value} {gV : List V → List V → List V} {B newId initId : String} {bm : List Value}
theorem run_new {pins : List (Addr × Obj)} {σ : St} {H : Hp} {s : Shared} {Q : VK} {us ws : List Value} {vs zs : List V} (T : OxC X.K C B newId initId bm)
    (iC : PySem.W.findIn X.K (.ref C) "__init__" = some (some (.ref fI))) (tI : PySem.W.typeIn X.K (.ref fI) = some (.type "function"))
    (F : FnOk X.prog X.w X.K X.mg X.base CX k fI fd ps sp) (hr : Room (k + 1) X.A) (hb : KBn X.K fd ps (n + 1) ks g gV) (hx : Passes CX X (fun _ _ _ => False))
    (I : Inv X pins σ H s) (r : Vals vs us) (rz : Vals zs ws) (l1 : vs.length = n) (l2 : zs.length = ks.length) (l3 : vs.length ≤ 1000)
    (h : ∀ a, H a = none → sp (gV (.ref a :: vs) zs) (upd H a (exo a C none)) (fun v H3 => v = .non ∧ Q (.ref a) H3) (fun _ _ _ => False)) :
    wpAny (model X.prog X.w) X.A (call (.ref C) us (ks.zip ws)) (EP X pins σ Q) X.xe s := by
  obtain ⟨nm, q, N, bs, sn, sub, ab, col, dd, k0, k1, k2, k3, k5, hC⟩ := T.cls
  obtain ⟨hp, g1, dr, tk, os⟩ := s
  have big : hp.objs.size ≤ hp.objs.size + 1 := Nat.le_succ _
  have free : H (hp.objs.size + 1) = none := I.hok.fresh big
  have hq := h (hp.objs.size + 1) free
  have kp : ∀ b o, hp.get? b = some o → ((hp.push (PySem.W.kdv_tup us)).push (PySem.HandSPX.excO C hp.objs.size)).get? b = some o := fun b o e =>
    Heap.get?_push_of_some _ (Heap.get?_push_of_some _ e)
  have new : ((hp.push (PySem.W.kdv_tup us)).push (PySem.HandSPX.excO C hp.objs.size)).get? (hp.objs.size + 1) = some (PySem.HandSPX.excO C hp.objs.size) := by heap_get
  have I2 : Inv X pins σ (upd H (hp.objs.size + 1) (exo (hp.objs.size + 1) C none))
      ⟨(hp.push (PySem.W.kdv_tup us)).push (PySem.HandSPX.excO C hp.objs.size), g1, dr, tk, os⟩ :=
    I.laid (t' := tk) (a := hp.objs.size + 1) (o := exo (hp.objs.size + 1) C none) (h' := (hp.push (PySem.W.kdv_tup us)).push (PySem.HandSPX.excO C hp.objs.size)) kp big (exo_ok new)
  have ra : Vals (V.ref (hp.objs.size + 1) :: vs) (Value.ref (hp.objs.size + 1) :: us) := .cons rfl r
  have lu : us.length ≤ sizeLine := by
    have e1 := Paired.length r
    rw [← e1, sizeLine_eq]
    omega
  have n1 : (Value.ref (hp.objs.size + 1) :: us).length = n + 1 := by
    rw [List.length_cons, ← r.length, l1]
  refine wpAny_call (EV.callK T.F (I.kIn _ _ hC) (PySem.W.looks_findIn I.kIn iC) (fun self => PySem.W.bind_fn I.kIn self tI) lu
    (codeAny_mono (F.run _ X.stack _ _ ⟨Value.ref (hp.objs.size + 1) :: us, ks.zip ws⟩ (g (Value.ref (hp.objs.size + 1) :: us) ws) _ _ (fun _ _ _ => False)
      (hr.make C us (ks.zip ws)) (I2.env0.make C us (ks.zip ws)) (hb.to _ _ ws I2.kIn n1 (rz.length.symm.trans l2)) (hb.rel ra rz) hq) fun r s' hq' => ?_))
  cases r with
  | error er => exact hx pins σ _ _ er s' I2 hq'
  | ok fl =>
    cases fl with
    | ret u =>
      obtain ⟨v, H3, I3, rv, ev, q3⟩ := I2.after hq'
      subst ev
      exact ⟨rv, ⟨V.ref (hp.objs.size + 1), H3, I3, rfl, q3⟩⟩
    | next => exact False.elim hq'
    | brk => exact False.elim hq'
    | cont => exact False.elim hq'
/-- C(e, ..) -/
theorem pe_new (T : OxC X.K C B newId initId bm) (iC : PySem.W.findIn X.K (.ref C) "__init__" = some (some (.ref fI))) (tI : PySem.W.typeIn X.K (.ref fI) = some (.type "function"))
    (F : FnOk X.prog X.w X.K X.mg X.base CX k fI fd ps sp) (hr : Room (k + 1) X.A) (hb : KBn X.K fd ps (n + 1) [] g gV) (hx : Passes CX X (fun _ _ _ => False))
    (hg : Gl X x) (hm : X.mg x = some (.ref C)) (ha : PA X (e :: es) t) (hdb : (x == ("__debug__" : Str)) = false := by decide)
    (he : starEach (e :: es) X.env = (false, eval e X.env) :: starEach es X.env := by rfl) (hpl : (backTo pos (starEach es X.env)).any (·.1) = false := by rfl) :
    PE X (.Call (.Name x p) (e :: es) [] pos) (tNew C n 0 sp gV t tNil) := by
  refine ⟨fun pins s σ H Q I h => ?_⟩
  refine wpAny_Call_Name_kw (ld_glob I hg hm ?_ hdb)
  refine PySem.W.callWith_K (h₀ := X.base) I.ok.mod.kin T.kC (thn (ha.run pos pins s σ H _ I h) fun us s1 ⟨vs, H1, I1, r1, q1⟩ => ⟨I1.kIn, ?_⟩) he hpl
  obtain ⟨l1, _, l3, q2⟩ := q1
  exact run_new (ws := []) (zs := []) T iC tI F hr hb hx I1 r1 .nil l1 rfl l3 q2
/-- C(k = v, ..) -/
theorem pe_newK (T : OxC X.K C B newId initId bm) (iC : PySem.W.findIn X.K (.ref C) "__init__" = some (some (.ref fI))) (tI : PySem.W.typeIn X.K (.ref fI) = some (.type "function"))
    (F : FnOk X.prog X.w X.K X.mg X.base CX k fI fd ps sp) (hr : Room (k + 1) X.A) (hb : KBn X.K fd ps 1 ks g gV) (hx : Passes CX X (fun _ _ _ => False))
    (hg : Gl X x) (hm : X.mg x = some (.ref C)) (hkw : PK X kws tk) (hall : (backToKw pos (keywordEach kws X.env)).all (·.1.isSome) = true := by rfl)
    (hks : (backToKw pos (keywordEach kws X.env)).filterMap (·.1) = ks := by rfl) (hdb : (x == ("__debug__" : Str)) = false := by decide)
    (hpl : ((backTo pos (starEach [] X.env)).any (·.1) || (backToKw pos (keywordEach kws X.env)).any (·.1.isNone)) = false := by rfl) :
    PE X (.Call (.Name x p) [] kws pos) (tNew C 0 ks.length sp gV tNil tk) := by
  refine ⟨fun pins s σ H Q I h => ?_⟩
  refine wpAny_Call_Name_kw (ld_glob I hg hm ?_ hdb)
  refine PySem.W.callWith_KW0 (h₀ := X.base) I.ok.mod.kin T.kC hall ?_ hpl
  refine thn (hkw.run pos pins s σ H _ I h) fun ws s2 ⟨zs, H2, I2, rz, l1, l2, l3, q2⟩ => ⟨I2.kIn, ?_⟩
  rw [hks]
  exact run_new (us := []) (vs := []) T iC tI F hr hb hx I2 .nil rz rfl l2 (by decide) q2
end
end EV
end L2

set_option Elab.async false
set_option linter.all false
set_option maxRecDepth 100000
set_option maxHeartbeats 4000000
/-! Defs that show values by repr: a promise that is kept where no repr runs yet. -/
namespace L2
namespace EV
open PySem PySem.Spec PyProof.Rows _root_.EV
/-- FnOk, where no repr runs yet -/
structure FnG (P : Program) (w : World) (K : PySem.W.Frag) (mg : Str → Option Value) (base : Heap) (CX : CXT) (k : Nat) (f : Addr) (fd : FuncData) (ps : List Str) (sp : Sp) : Prop where
  len : ∀ vs H Q E, sp vs H Q E → vs.length = ps.length
  run : ∀ (A : Around) (outer : List Env) (s : Shared) (H : Hp) (args : Args) (us : List Value) (vs : List V) (Q : VK) (E : XK), Room k A → A.guards = some [] →
    Env0 P w K mg base A outer s H → BindsTo s fd args (ps.zip us) → Vals vs us → sp vs H Q E → codeAny (model P w) A (.call (.ref f) args) (CR CX outer P w H s Q E) s
section
variable {P : Program} {w : World} {K : PySem.W.Frag} {mg : Str → Option Value} {base : Heap}
theorem okG {x qual : Str} {st : Stmt} {f : Addr} {fd : FuncData} {N ps : List Str} {k : Nat} {sp : Sp} (F : Fun K x qual st f fd) (S : FnScope N ps (defScope st))
    (len : ∀ vs H Q E, sp vs H Q E → vs.length = ps.length)
    (hbody : ∀ (cdv : Value) (A : Around) (outer : List Env) (s : Shared) (H : Hp) (vs : List V) (Q : VK) (E : XK), Room k (A.deeper (envOfC qual (defScope st) s.heap.objs.size f cdv)) →
      A.guards = some [] → sp vs H Q E →
      ∃ t, PSs (cxOf CX0 P w K mg base N qual (defScope st) f cdv A outer s H E).nox (defBody st) t ∧ t { nx := fun _ H' => Q .non H', rt := Q } (start N vs) H) :
    FnG P w K mg base CX0 (k + 1) f fd ps sp := by
  obtain ⟨oc, od, kV, doc, pm, an, cdv, ct, osl, rfl, lk, hcd⟩ := F.ex
  refine ⟨len, fun A outer s H args us vs Q E hr hgd e0 hb r hsp => ?_⟩
  have hl := len _ _ _ _ hsp
  have keptB : ∀ b o, base.get? b = some o → s.heap.get? b = some o := fun b o e => (e0.bs b o e).1
  have KX : K.In s.heap := e0.mod.kin.keeps keptB
  have lim : s.heap.NoLimit := e0.mod.nolimit.keeps keptB
  have kinds : ∀ y ∈ ps.zip us, (defScope st).names.lookup y.1 = some .local ∨
      ((defScope st).names.lookup y.1 = some .cell ∧ ((cellsFrom (s.heap.objs.size + 1) (defScope st).names []).lookup y.1).isSome = true) := fun ⟨n, v⟩ hy =>
    (S.par n (List.of_mem_zip hy).1).elim .inl fun q => .inr ⟨q, PySem.W.cellsFrom_some _ _ _ (.inl q)⟩
  refine codeAny_call_function hr.depth (KX _ _ lk) rfl S.co S.gen rfl (PySem.W.codeRec_of KX hcd) (hb _ _ _ _ ?_)
  refine wpAny_newFunctionEnv_cells S.kind kinds fun env he s1 x => ?_
  subst he
  refine ⟨lim.keeps x.toInCall.keep, codeAny_func ?_⟩
  obtain ⟨t, ht0, hq⟩ := hbody cdv A outer s H vs Q E (hr.deeper _) hgd hsp
  have ht := ht0.nox
  have I : Inv (cxOf CX0 P w K mg base N qual (defScope st) f cdv A outer s H E) [] (start N vs) H s1 := inv_start S hr.hd e0 hl r x
  refine wpAny_mono (ht.run [] s1 (start N vs) H _ I hq) (fun fl s' hs => ?_) fun e s' hs => hs
  cases fl with
  | ret u =>
    obtain ⟨v, σ', H', J, rv, q⟩ := hs
    exact ⟨v, H', J.os, J.bare, J.base, J.hok, rv, q⟩
  | next =>
    obtain ⟨σ', H', J, q⟩ := hs
    exact ⟨V.non, H', J.os, J.bare, J.base, J.hok, rfl, q⟩
  | brk =>
    obtain ⟨_, _, _, q⟩ := hs
    exact False.elim q
  | cont =>
    obtain ⟨_, _, _, q⟩ := hs
    exact False.elim q
end
section
variable {X : Cx} {CX : CXT} {k : Nat} {f : Addr} {fd : FuncData} {ps : List Str} {sp : Sp} {x : Str} {p pos : Pos} {e : Expr} {es : List Expr} {t : TA} {E : XK}
/-- f(e, ..) of such a def -/
theorem pe_callG (F : FnG X.prog X.w X.K X.mg X.base CX k f fd ps sp) (hr : Room k X.A) (hgd : X.A.guards = some []) (hg : Gl X x) (hm : X.mg x = some (.ref f))
    (hk : PySem.W.keepIn X.K (.ref f) = true) (hb : Binds X.K fd ps []) (hx : Passes CX X E) (ha : PA X (e :: es) t) (hdb : (x == ("__debug__" : Str)) = false := by decide)
    (he : starEach (e :: es) X.env = (false, eval e X.env) :: starEach es X.env := by rfl) (hpl : (backTo pos (starEach es X.env)).any (·.1) = false := by rfl) :
    PE X (.Call (.Name x p) (e :: es) [] pos) (fun σ H Q => t σ H fun vs H1 => sp vs H1 Q E) := by
  refine ⟨fun pins s σ H Q I h => ?_⟩
  refine wpAny_Call_Name_kw (ld_glob I hg hm ?_ hdb)
  refine PySem.W.callWith_K (h₀ := X.base) I.ok.mod.kin hk (thn (ha.run pos pins s σ H _ I h) fun us s1 ⟨vs, H1, I1, r, q⟩ => ⟨I1.kIn, ?_⟩) he hpl
  have hl : us.length = ps.length := by
    rw [← r.length]
    exact F.len _ _ _ _ q
  have bn := hb s1 us I1.kIn (by rw [List.append_nil]; exact hl)
  rw [List.append_nil] at bn
  refine wpAny_call (codeAny_mono (F.run X.A X.stack s1 H1 ⟨us, []⟩ us vs Q E hr hgd I1.env0 bn r q) fun r2 s2 hq => ?_)
  cases r2 with
  | error er => exact hx pins σ H1 s1 er s2 I1 hq
  | ok fl =>
    cases fl with
    | ret u => exact I1.after hq
    | next => exact False.elim hq
    | brk => exact False.elim hq
    | cont => exact False.elim hq
end
/-- the law's own call, of a promise that is kept where no repr runs -/
theorem law_callG {P : Program} {w : World} {K : PySem.W.Frag} {mg mb : Str → Option Value} {k : Nat} {fa a : Addr} {fd : FuncData} {x : Str} {sp : Sp} {s1 : Shared} {vs : List Value} {ns : List Int}
    (KX : K.In s1.heap) (hns : s1.heap.Ns mainGlobals mg) (hb : s1.heap.Ns builtinsNs mb) (hbb : ∀ x : Str, x ≠ "__name__" → mb x = bootBuiltins x) (hlim : s1.heap.NoLimit) (hg : s1.gens = #[])
    (ha : s1.heap.get? a = some { cls := .type "list", data := .seq vs.toArray }) (hi : IntsAre vs ns) (hl : ns.length ≤ sizeLine) (hr : Room k callerA)
    (F : ∀ base : Heap, K.In base → base.Ns mainGlobals mg → FnG P w K mg base CX0 k fa fd [x] sp) (hbind : ∀ (s : Shared) (u : Value), BindsTo s fd ⟨[u], []⟩ [(x, u)])
    (hsp : ∀ H : Hp, Only H → SqL K H a (ns.map V.int) → sp [.ref a] H (fun v _ => v = .bl true) fun _ _ _ => False) :
    codeAny (model P w) callerA (.call (.ref fa) ⟨[.ref a], []⟩) (fun r s' => r = .ok (.ret (.bool true)) ∧ OldK s1.heap s'.heap ∧ s'.os = s1.os ∧ AllBare s'.gens) s1 := by
  have rv := vals_ints hi
  have lenV := hi.length
  have core : ∀ H : Hp, Only H → SqL K H a (ns.map V.int) → HOk P w H s1.heap → (∀ b, H b ≠ none → b = a) → (H a ≠ none → K.lookup a = none) →
      codeAny (model P w) callerA (.call (.ref fa) ⟨[.ref a], []⟩) (fun r s' => r = .ok (.ret (.bool true)) ∧ OldK s1.heap s'.heap ∧ s'.os = s1.os ∧ AllBare s'.gens) s1 := by
    intro H hO hS hok onlyA notK
    have noDict : ∀ {b : Addr} {o : Obj} {es : Array DictEntry} {ep : Nat}, s1.heap.get? b = some o → o.data = .dict es ep → H b = none := fun {b o es ep} e d => by
      cases q : H b with
      | none => rfl
      | some u =>
        obtain rfl : b = a := onlyA b (by rw [q]; simp)
        rw [ha] at e
        cases e
        exact nomatch (show Data.seq vs.toArray _ = Data.dict es ep from d)
    have nsK : ∀ {b : Addr} {m : Str → Option Value}, s1.heap.Ns b m → (hidT s1.heap H).Ns b m := fun {b m} ⟨o, es, ep, e, d, r⟩ => ⟨o, es, ep, hidT_get e (noDict e d), d, r⟩
    have kin : K.In (hidT s1.heap H) := fun b o e => hidT_get (KX b o e) (by
      cases q : H b with
      | none => rfl
      | some u =>
        obtain rfl : b = a := onlyA b (by rw [q]; simp)
        rw [notK (by rw [q]; simp)] at e
        cases e)
    obtain ⟨mc, c1, c2⟩ := hlim
    have hM : Mod K mg (hidT s1.heap H) := ⟨kin, nsK hns, ⟨mb, nsK hb, hbb⟩, ⟨mc, nsK c1, c2⟩⟩
    have noF : ∀ b, b ∉ frs [] := fun b z => absurd (show b ∈ ([] : List Addr) from z) (by simp)
    have e0 : Env0 P w K mg (hidT s1.heap H) callerA [] s1 H :=
      ⟨rfl, hM, fun b o e => of_hidT e, Nat.le_of_eq (hidT_size _ _), trivial, fun b z => absurd z (noF b), hok, .of_eq hg⟩
    refine codeAny_mono ((F _ kin (nsK hns)).run callerA [] s1 H ⟨[.ref a], []⟩ [.ref a] [.ref a] _ _ hr rfl e0 (hbind s1 (.ref a)) (.cons rfl .nil) (hsp H hO hS)) fun r s' h => ?_
    cases r with
    | error e => exact False.elim h
    | ok fl =>
      cases fl with
      | next => exact False.elim h
      | brk => exact False.elim h
      | cont => exact False.elim h
      | ret u =>
        obtain ⟨v, H', os, bare, un, hok', r', q⟩ := h
        obtain rfl : v = .bl true := q
        obtain rfl : u = Value.bool true := r'
        refine ⟨rfl, OldK.of_keep fun b o e => ?_, os, bare⟩
        cases q : H b with
        | none => exact un.keep b o e q (noF b) (by simp)
        | some u =>
          rcases hO b with z | ⟨ob, xs, z⟩
          · rw [q] at z
            cases z
          · obtain ⟨e1, _⟩ := hok b _ z
            obtain ⟨e2, _⟩ := hok' b _ (un.frzs b ob _ z)
            rw [e] at e1
            cases e1
            exact e2
  cases hk : K.lookup a with
  | some o =>
    have e := KX a o hk
    rw [ha] at e
    cases e
    refine core (fun _ => none) (fun _ => .inl rfl) (.inr ⟨_, vs.toArray, _, hk, rfl, rfl, rfl, ?_, by simpa using rv⟩) (fun b u z => ?_) (fun b z => absurd rfl z) fun z => absurd rfl z
    · rw [List.size_toArray, lenV]
      exact hl
    · exact nomatch (show (none : Option HO) = some u from z)
  | none =>
    refine core (fun b => if b = a then some (.frz { cls := .type "list", data := .seq vs.toArray } (.lst (ns.map V.int))) else none) (fun b => ?_)
      (.inl (.inr ⟨{ cls := .type "list", data := .seq vs.toArray }, if_pos rfl⟩)) (fun b u z => ?_) (fun b z => ?_) fun _ => hk
    · by_cases hb : b = a
      · exact .inr ⟨_, _, if_pos hb⟩
      · exact .inl (if_neg hb)
    · by_cases hb : b = a
      · have z2 := (if_pos hb).symm.trans z
        cases z2
        subst hb
        exact ⟨ha, by rw [List.length_map]; exact hl, vs, _, rv, ha⟩
      · exact nomatch (if_neg hb).symm.trans z
    · by_cases hb : b = a
      · exact hb
      · exact absurd (if_neg hb) z
theorem walk_ofG {l : PySem.W.OpenLaw} {n k : Nat} {q : Program} {loose : List Str} {XP : (Str → Option Value) → Heap → Prop} {YP : World → Heap → Prop} {d : DefRec} {K : Params → PySem.W.Frag} {sp : PySem.W.Frag → Sp} {x : Str}
    (hn : l.most = some n) (hn2 : n ≤ sizeLine) (hdf : d.params.defaults = []) (hr : Room k callerA) (hY : ∀ (w : World) (h : Heap), YP w h → (K w.params).In h)
    (F : ∀ (w : World) (mg : Str → Option Value) (fa : Addr) (h : Heap), (K w.params).In h → h.Ns mainGlobals mg → mg d.name = some (.ref fa) →
      ∃ fd : FuncData, (∀ (s : Shared) (u : Value), BindsTo s fd ⟨[u], []⟩ [(x, u)]) ∧
        ∀ base : Heap, (K w.params).In base → base.Ns mainGlobals mg → FnG l.prog w (K w.params) mg base CX0 k fa fd [x] (sp (K w.params)))
    (hsp : ∀ (K : PySem.W.Frag) (H : Hp) (a : Addr) (ns : List Int), ns.length ≤ n → Only H → SqL K H a (ns.map V.int) → sp K [.ref a] H (fun v _ => v = .bl true) fun _ _ _ => False) :
    PySem.W.WalkO q loose XP YP l.row.toRowW d [] (fun f vs => PySem.call f vs) := by
  refine Att.attach_call hn hdf fun w s0 s1 mg mb fa o pm cd doc a vs ns G Y ho hd hcd hmg hobj hints hlen hg => ?_
  have KX := hY w _ Y
  obtain ⟨fd, hb, hF⟩ := F w mg fa _ KX G.T.g hmg
  exact law_callG KX G.T.g G.T.b G.T.builtins G.T.nolimit hg hobj hints (Nat.le_trans hlen hn2) hr hF hb fun H hO hS => hsp _ H a ns hlen hO hS
end EV
end L2

set_option Elab.async false
set_option linter.all false
set_option maxRecDepth 100000
set_option maxHeartbeats 4000000
/-! repr of a list of data. -/
namespace L2
namespace EV
open PySem PySem.Spec PyProof.Rows _root_.EV
/-- v stands for d: data without dicts, or the dict {"a": 1} -/
inductive Sh (K : PySem.W.Frag) (H : Hp) : V → PyData → Prop
  | plain {v : V} {d : PyData} : Dp K H v d → d.hasDict = false → Sh K H v d
  | one {a : Addr} : H a = some (.dK [(Sum.inr "a", V.int 1)]) → Sh K H (.ref a) (.dict [(.str "a", .int 1)])
def Small (d : PyData) : Prop := d.showable = true ∧ d.shown.length ≤ 60 ∧ d.depth ≤ 5
inductive ShAll (K : PySem.W.Frag) (H : Hp) : List V → List PyData → Prop
  | nil : ShAll K H [] []
  | cons {v : V} {vs : List V} {d : PyData} {ds : List PyData} : Sh K H v d → Small d → ShAll K H vs ds → ShAll K H (v :: vs) (d :: ds)
section
variable {X : Cx} {pins : List (Addr × Obj)} {σ : St} {H : Hp} {s : Shared}
theorem sh_reads (I : Inv X pins σ H s) {v : V} {d : PyData} {u : Value} (h : Sh X.K H v d) (r : RelV v u) : ∃ as, Reads s.heap u d as ∧ (d.hasDict = true → sysModules ∉ as) := by
  cases h with
  | plain hd no =>
    obtain ⟨as, q⟩ := Dp.reads I d v u hd r
    exact ⟨as, q, fun z => by rw [no] at z; cases z⟩
  | @one a e =>
    obtain rfl : u = Value.ref a := r
    obtain ⟨_, nsys, vs, kv, o, es, ep, ho, ex, hd, _, pr, _⟩ := (show ObjOk X.prog X.w H s.heap a (.dK [(Sum.inr "a", V.int 1)]) from I.hok a _ e)
    cases kv with
    | @cons _ p _ ps hk kr =>
      cases kr
      obtain ⟨k, v⟩ := p
      obtain ⟨ek, t, ev⟩ := hk
      dsimp only at ek ev
      subst ek ev
      generalize hes : es.toList = l at pr
      cases pr with
      | @cons e1 _ l2 _ k1 k2 k3 =>
        cases k3
        obtain ⟨t2, ek⟩ : ∃ t2, e1.key = Value.str "a" t2 := Value.isStrOf_shape k1
        refine ⟨[a], Reads.dict (as := []) (bs := []) ho ex.1 hd ?_ ?_, fun _ z => ?_⟩
        · rw [hes]
          show ReadsAll s.heap [e1.key] [PyData.str "a"] []
          rw [ek]
          exact ReadsAll.cons (Reads.str _ _) ReadsAll.nil
        · rw [hes]
          show ReadsAll s.heap [e1.val] [PyData.int 1] []
          rw [k2]
          exact ReadsAll.cons (Reads.int _ _) ReadsAll.nil
        · obtain rfl : sysModules = a := by simpa using z
          simp at nsys
theorem sh_all (I : Inv X pins σ H s) : ∀ {vs : List V} {ds : List PyData} {us : List Value}, ShAll X.K H vs ds → Vals vs us →
    ∃ as bs, ReadsAll s.heap us ds as ∧ ReadAtMost s.heap (PyData.depthAll ds) bs ∧ ReprAllK X.prog X.w bs s.heap (PyData.depthAll ds) us (PyData.shownAll ds)
  | _, _, _, .nil, .nil => ⟨[], [], ReadsAll.nil, (fun _ h => nomatch h), by simp only [PyData.shownAll]; exact .nil⟩
  | _, _, _, .cons (d := d) (ds := ds) h sm t, .cons r rt => by
    obtain ⟨as1, q1, hsm⟩ := sh_reads I h r
    obtain ⟨as2, b2, q2, m2, k2⟩ := sh_all I t rt
    obtain ⟨b1, m1, k1⟩ := ReprK.of_reads (prog := X.prog) (w := X.w) q1 sm.1 hsm (Nat.le_trans sm.2.1 (by decide))
    refine ⟨as1 ++ as2, b1 ++ b2, ReadsAll.cons q1 q2, ?_, ?_⟩
    · simp only [PyData.depthAll]
      exact (m1.mono (Nat.le_max_left _ _)).append (m2.mono (Nat.le_max_right _ _))
    · simp only [PyData.depthAll, PyData.shownAll]
      exact .cons ((k1.more fun b hb => List.mem_append_left _ hb).level_le (Nat.le_max_left _ _)) (k2.more_le (fun b hb => List.mem_append_right _ hb) (Nat.le_max_right _ _))
theorem shall_depth {K : PySem.W.Frag} {H : Hp} : ∀ {vs : List V} {ds : List PyData}, ShAll K H vs ds → PyData.depthAll ds ≤ 5 ∧ (∀ t ∈ PyData.shownAll ds, t.length ≤ 60) ∧ (PyData.shownAll ds).length = vs.length
  | _, _, .nil => ⟨by simp only [PyData.depthAll]; omega, by simp [PyData.shownAll], by simp [PyData.shownAll]⟩
  | _, _, .cons h sm t => by
    obtain ⟨h1, h2, h3⟩ := shall_depth t
    refine ⟨by simp only [PyData.depthAll]; have := sm.2.2; omega, ?_, by simp [PyData.shownAll, h3]⟩
    intro t ht
    simp only [PyData.shownAll, List.mem_cons] at ht
    rcases ht with rfl | ht
    · exact sm.2.1
    · exact h2 t ht
theorem sum_le60 : ∀ {ts : List Str}, (∀ t ∈ ts, t.length ≤ 60) → (ts.map (·.length)).sum ≤ 60 * ts.length
  | [], _ => by simp
  | t :: ts, h => by
    have h1 := h t (List.mem_cons_self ..)
    have h2 := sum_le60 (ts := ts) fun t ht => h t (List.mem_cons_of_mem _ ht)
    simp only [List.map_cons, List.sum_cons, List.length_cons]
    omega
/-- repr(l), l a list of some data -/
def rShow (K : PySem.W.Frag) : List V → Hp → VK → Prop := fun xs H Q => ∃ (l : Addr) (v : V) (vs : List V) (ds : List PyData), xs = [.ref l] ∧ H l = some (.lst (v :: vs)) ∧ ShAll K H (v :: vs) ds ∧ vs.length ≤ 1000 ∧
  Q (.str (listText (PyData.shownAll ds))) H
theorem call_show (hgd : X.A.guards = some []) (hu : X.A.units + 64 < cLine) : CallR X (.builtin "repr") (rShow X.K) := by
  intro pins s σ H xs us Q I r h
  obtain ⟨l, v, vs, ds, rfl, e, sh, lz, q⟩ := h
  obtain ⟨u, rfl, ru⟩ := vals1 r
  obtain rfl : u = Value.ref l := ru
  obtain ⟨_, its, n, rv, ho⟩ := (show ObjOk X.prog X.w H s.heap l (.lst (v :: vs)) from I.hok l _ e)
  obtain ⟨as, bs, q1, m1, k1⟩ := sh_all I sh rv
  obtain ⟨dp, sz, ln⟩ := shall_depth sh
  have whole : Reads s.heap (.ref l) (.list ds) (l :: as) := Reads.list ho rfl rfl (by simpa using q1)
  have hna : l ∉ bs := not_mem_of_deeper whole (by simp only [PyData.depth]; omega) m1
  have hz : (listText (PyData.shownAll ds)).length ≤ sizeLine := by
    have h1 := listText_len_le (PyData.shownAll ds)
    have h2 := sum_le60 sz
    rw [ln, List.length_cons] at *
    rw [sizeLine_eq]
    omega
  cases rv with
  | @cons _ u1 _ ut r1 r2 =>
    refine call_repr_slot (by omega) ⟨_, ho, rfl⟩ PySem.F.slot_list_repr.toG ?_
    refine call_list_reprK ho rfl rfl hna (by simpa using k1.length_eq) (fun i y ey => k1.item i y (by simpa using ey)) (A := X.A.in1) hgd (fun b _ => Clear.nil b) ?_ (fun _ _ z => z) (fun h' t tk hk => ⟨_, _, rfl, ?_⟩) hz
    · show X.A.units + 1 + (PyData.depthAll ds + 1) < cLine
      omega
    · exact ⟨.str _, H, I.kept (t' := tk) hk, ⟨_, rfl⟩, q⟩
end
end EV
end L2

set_option Elab.async false
set_option linter.all false
set_option maxRecDepth 100000
set_option maxHeartbeats 4000000
/-! Tuples of an int, a text and an int: sorted, and <=. -/
namespace L2
open PySem PySem.Spec PyProof.Rows
abbrev T3 : Type := Int × Str × Int
abbrev sl (a : Str) : List Nat := a.cps.toList
theorem sl_inj {a b : Str} (h : sl a = sl b) : a = b := by
  cases a with
  | mk x =>
    cases b with
    | mk y =>
      have : x = y := Array.toList_inj.mp h
      rw [this]
/-- x is ahead of y -/
def lt3 (a b : T3) : Bool := if a.1 = b.1 then (if a.2.1 = b.2.1 then decide (a.2.2 < b.2.2) else decide (sl a.2.1 < sl b.2.1)) else decide (a.1 < b.1)
theorem lt3_iff {a b : T3} : lt3 a b = true ↔ a.1 < b.1 ∨ (a.1 = b.1 ∧ (sl a.2.1 < sl b.2.1 ∨ (a.2.1 = b.2.1 ∧ a.2.2 < b.2.2))) := by
  unfold lt3
  by_cases e1 : a.1 = b.1
  · rw [if_pos e1]
    by_cases e2 : a.2.1 = b.2.1
    · rw [if_pos e2, decide_eq_true_eq]
      refine ⟨fun h => .inr ⟨e1, .inr ⟨e2, h⟩⟩, ?_⟩
      rintro (h | ⟨_, h | ⟨_, h⟩⟩)
      · omega
      · rw [e2] at h
        exact absurd h (List.lt_irrefl _)
      · exact h
    · rw [if_neg e2, decide_eq_true_eq]
      refine ⟨fun h => .inr ⟨e1, .inl h⟩, ?_⟩
      rintro (h | ⟨_, h | ⟨h, _⟩⟩)
      · omega
      · exact h
      · exact absurd h e2
  · rw [if_neg e1, decide_eq_true_eq]
    refine ⟨fun h => .inl h, ?_⟩
    rintro (h | ⟨h, _⟩)
    · exact h
    · exact absurd h e1
theorem lt3_no {a b : T3} : lt3 a b = false ↔ ¬ (a.1 < b.1 ∨ (a.1 = b.1 ∧ (sl a.2.1 < sl b.2.1 ∨ (a.2.1 = b.2.1 ∧ a.2.2 < b.2.2)))) := by
  rw [← lt3_iff]
  cases lt3 a b <;> simp
theorem swo3 : SrtO.Swo lt3 := by
  refine ⟨fun x y h => ?_, fun x y z h1 h2 => ?_⟩
  · have a := lt3_iff.mp h
    refine lt3_no.mpr ?_
    rintro (h1 | ⟨h1, h2⟩)
    · rcases a with a | ⟨a, _⟩ <;> omega
    · rcases a with a | ⟨_, a⟩
      · omega
      · rcases h2 with h2 | ⟨h2, h3⟩
        · rcases a with a | ⟨a, _⟩
          · exact List.lt_asymm a h2
          · rw [a] at h2
            exact List.lt_irrefl _ h2
        · rcases a with a | ⟨_, a⟩
          · rw [h2] at a
            exact List.lt_irrefl _ a
          · omega
  · have a := lt3_no.mp h1
    have b := lt3_no.mp h2
    refine lt3_no.mpr ?_
    have a1 : ¬ y.1 < x.1 := fun q => a (.inl q)
    have b1 : ¬ z.1 < y.1 := fun q => b (.inl q)
    rintro (q | ⟨q1, q2⟩)
    · omega
    · have e1 : y.1 = x.1 := by omega
      have e2 : z.1 = y.1 := by omega
      have a2 : ¬ sl y.2.1 < sl x.2.1 := fun q => a (.inr ⟨e1, .inl q⟩)
      have b2 : ¬ sl z.2.1 < sl y.2.1 := fun q => b (.inr ⟨e2, .inl q⟩)
      have l1 : sl x.2.1 ≤ sl y.2.1 := List.not_lt.mp a2
      have l2 : sl y.2.1 ≤ sl z.2.1 := List.not_lt.mp b2
      rcases q2 with q2 | ⟨q2, q3⟩
      · exact absurd q2 (List.not_lt.mpr (List.le_trans l1 l2))
      · have e3 : sl y.2.1 = sl x.2.1 := by
          rw [q2] at l2
          exact List.le_antisymm l2 l1
        have e4 := sl_inj e3
        have a3 : ¬ y.2.2 < x.2.2 := fun q => a (.inr ⟨e1, .inr ⟨e4, q⟩⟩)
        have b3 : ¬ z.2.2 < y.2.2 := fun q => b (.inr ⟨e2, .inr ⟨q2.trans e4.symm, q⟩⟩)
        omega
theorem swo3k {α : Type} (k : α → T3) : SrtO.Swo fun v u : α => lt3 (k v) (k u) := ⟨fun x y => swo3.asym (k x) (k y), fun x y z => swo3.tr (k x) (k y) (k z)⟩
/-- v is a tuple of an int, a text and an int in the heap -/
def IsTrip (h : Heap) (v : Value) (x : T3) : Prop := ∃ a o t u r n, v = .ref a ∧ h.get? a = some o ∧ o.cls = .type "tuple" ∧ o.data = .seq #[.int x.1 t, .str x.2.1 u, .int x.2.2 r] n
theorem IsTrip.keeps {h h' : Heap} {v : Value} {x : T3} (p : IsTrip h v x) (k : ∀ b o, h.get? b = some o → o.cls = .type "tuple" → h'.get? b = some o) : IsTrip h' v x := by
  obtain ⟨a, o, t, u, r, n, e, ho, hc, hd⟩ := p
  exact ⟨a, o, t, u, r, n, e, k _ _ ho hc, hc, hd⟩
theorem firsts3 {h : Heap} : ∀ {vs : List Value}, (∀ v ∈ vs, ∃ x, IsTrip h v x) → ∃ fs : List Value, PySem.W.KatTups h vs fs ∧ fs.length = vs.length ∧ ∀ f ∈ fs, ∃ x t, f = Value.int x t
  | [], _ => ⟨[], PySem.W.KatTups.nil, rfl, fun _ hm => by simp at hm⟩
  | v :: vs, hp => by
    obtain ⟨fs, h1, h2, h3⟩ := firsts3 (vs := vs) fun v' hm => hp v' (List.mem_cons_of_mem _ hm)
    obtain ⟨x, a, o, t, u, r, n, e, ho, hc, hd⟩ := hp v (List.mem_cons_self ..)
    subst e
    refine ⟨.int x.1 t :: fs, PySem.W.KatTups.cons ho hc hd rfl h1, by rw [List.length_cons, List.length_cons, h2], fun f hm => ?_⟩
    rcases List.mem_cons.mp hm with rfl | hm
    · exact ⟨x.1, t, rfl⟩
    · exact h3 f hm
section
variable {prog : Program} {w : World} {A : Around} {E : Value → Shared → Prop} {s : Shared}
theorem trip_cmp {vs : List Value} {k : Value → T3} (hp : ∀ v ∈ vs, IsTrip s.heap v (k v)) : SrtO.Cmp prog w A s (tuples' true) (fun p => p.1 ∈ vs) (SrtO.lt2 fun v u => lt3 (k v) (k u)) := by
  intro p q hm hm'
  have h1 := hp _ hm
  have h2 := hp _ hm'
  show wpAny (model prog w) A (keyLt' (tuples' true) p.1 q.1) (fun r s' => s' = s ∧ r = lt3 (k p.1) (k q.1)) (fun _ _ => False) s
  generalize k p.1 = x at h1 ⊢
  generalize k q.1 = y at h2 ⊢
  obtain ⟨x1, x2, x3⟩ := x
  obtain ⟨y1, y2, y3⟩ := y
  obtain ⟨a, o, t, u, r, n, e, ho, hc, hd⟩ := h1
  obtain ⟨a', o', t', u', r', n', e', ho', hc', hd'⟩ := h2
  rw [e, e']
  unfold lt3
  refine PySem.W.kat_lt ho hd ho' hd' ?_
  show PySem.W.KatLex prog w A true (decide (3 < 3)) _ [(.int x1 t, .int y1 t'), (.str x2 u, .str y2 u'), (.int x3 r, .int y3 r')] 0 s
  refine PySem.W.kat_cons (SeqAt.EqAt.int_int x1 t y1 t' prog w _ _ ?_)
  refine PySem.W.kat_go (fun e1 => ?_) (fun e1 => ?_)
  · have ex : x1 = y1 := by simpa using e1
    subst ex
    refine PySem.W.kat_yes (PySem.W.kat_cons (SeqAt.EqAt.str_str x2 u y2 u' prog w _ _ ?_))
    refine PySem.W.kat_go (fun e2 => ?_) (fun e2 => ?_)
    · have ey : x2 = y2 := by simpa using e2
      subst ey
      refine PySem.W.kat_yes (PySem.W.kat_cons (SeqAt.EqAt.int_int x3 r y3 r' prog w _ _ ?_))
      refine PySem.W.kat_go (fun e3 => ?_) (fun e3 => ?_)
      · have ez : x3 = y3 := by simpa using e3
        subst ez
        refine PySem.W.kat_yes (PySem.W.kat_nil ⟨rfl, ?_⟩)
        simp
      · refine PySem.W.kat_no (PySem.W.kat_one _ _ (PyProof.Rows.lt_int ?_))
        refine (show s = s ∧ _ from ⟨rfl, ?_⟩)
        simp
    · have ey : ¬ x2 = y2 := by simpa using e2
      refine PySem.W.kat_no (PySem.W.kat_one _ _ (PyProof.Rows.lt_str ?_))
      refine (show s = s ∧ _ from ⟨rfl, ?_⟩)
      simp [ey]
  · have ex : ¬ x1 = y1 := by simpa using e1
    refine PySem.W.kat_no (oneLt_int ⟨rfl, ?_⟩)
    simp [ex]
theorem trips_sortable {a : Addr} {vs : List Value} {k : Value → T3} (h0 : 0 < vs.length) (hp : ∀ v ∈ vs, IsTrip s.heap v (k v)) (ha : ∀ o, s.heap.get? a = some o → o.cls ≠ .type "tuple") : SrtO.SortableO prog w A s a vs fun v u => lt3 (k v) (k u) := by
  intro h' keep
  have hp' : ∀ v ∈ vs, IsTrip h' v (k v) := fun v hm => (hp v hm).keeps fun b o e c => keep b o (fun z => by subst z; exact ha o e c) e
  obtain ⟨fs, h1, h2, h3⟩ := firsts3 fun v hm => ⟨_, hp' v hm⟩
  refine ⟨tuples' true, fun Q E hq => ?_, trip_cmp hp'⟩
  refine PySem.W.kat_kind (T := .type "int") h1 (by omega) (fun f hm => ?_) (by rfl) ?_
  · obtain ⟨x, t, rfl⟩ := h3 f hm
    exact PySem.W.Looks.now
  · have e : (Value.type "int" != Value.type "tuple") = true := by first | decide +kernel | rfl | decide
    rw [e]
    exact hq
theorem sorted_trips {l : Addr} {vs : List Value} {k : Value → T3} {Q : Value → Shared → Prop} (hl : s.heap.IsList l vs.toArray) (hz : vs.length ≤ sizeLine) (hp : ∀ v ∈ vs, IsTrip s.heap v (k v))
    (h : ∀ (h' : Heap) (d : Addr) (out : List Value), SrtO.Srtd (fun v u => lt3 (k v) (k u)) out → SrtO.Stb (fun v u => lt3 (k v) (k u)) out vs → (∀ b o, s.heap.get? b = some o → h'.get? b = some o) → s.heap.objs.size ≤ d → (∃ n, h'.get? d = some (seqObj "list" out.toArray n)) → Q (.ref d) { s with heap := h' }) :
    wpAny (model prog w) A (call (.builtin "sorted") [.ref l]) Q E s := by
  refine SrtO.sorted_ord (swo3k k) hl hz (fun h2 h₁ a ha kk => ?_) fun out hs hb => ?_
  · refine trips_sortable (s := { s with heap := h₁ }) (by omega) (fun v hm => (hp v hm).keeps fun b o e _ => (kk b o e).2) fun o e => ?_
    have e' : some o = some (seqObj "list" vs.toArray 0) := e.symm.trans ha
    cases e'
    intro c
    exact absurd (Value.type.inj c) (by decide)
  · exact h _ _ out hs hb (fun b o e => sortedAll_old e) (Nat.le_succ _) (sortedAll_at s.heap vs out.toArray)
end
/-- sorted(xs), xs a list of such tuples (k says which): a new list of the same ones -/
def rSorted3 (K : PySem.W.Frag) : List V → Hp → VK → Prop := fun vs H Q => ∃ (a : Addr) (xs : List V) (k : V → T3), vs = [V.ref a] ∧ SqL K H a xs ∧ (∀ x ∈ xs, ∃ t, x = V.ref t ∧ H t = some (.tup [.int (k x).1, .str (k x).2.1, .int (k x).2.2])) ∧
  ∀ ys p, SrtO.Srtd (fun x y => lt3 (k x) (k y)) ys → ys.Perm xs → H p = none → Q (.ref p) (upd H p (.lst ys))
theorem vals_3 {x y z : V} {us : List Value} (r : Vals [x, y, z] us) : ∃ u w' t', us = [u, w', t'] ∧ RelV x u ∧ RelV y w' ∧ RelV z t' := by
  cases r with
  | cons r1 r2 =>
    obtain ⟨u, w', rfl, r3, r4⟩ := vals2 r2
    exact ⟨_, u, w', rfl, r1, r3, r4⟩
section
variable {X : Cx}
theorem cr_sorted3 : CallR X (.builtin "sorted") (rSorted3 X.K) := by
  intro pins s σ H vs us Q I r h
  obtain ⟨a, xs, k, rfl, hs, hx, q⟩ := h
  obtain ⟨its, rv, hl, hz⟩ := I.list hs
  obtain ⟨u, rfl, ru⟩ := vals1 r
  obtain rfl : u = Value.ref a := ru
  obtain ⟨e1, e2⟩ := refs_back rv fun x m => by
    obtain ⟨t, e, _⟩ := hx x m
    exact ⟨t, e⟩
  refine sorted_trips (k := fun u => k (backV u)) hl.isList (by rw [← rv.length]; exact hz) (fun v hv => ?_) fun h' d out h1 h2 kp hd hn => ?_
  · obtain ⟨t, rfl⟩ := e2 v hv
    have hm : V.ref t ∈ xs := by rw [e1]; exact List.mem_map.mpr ⟨_, hv, rfl⟩
    obtain ⟨t', e, ht⟩ := hx _ hm
    cases e
    obtain ⟨_, its2, r2, o, ho, hc, n, hd⟩ := I.hok _ _ ht
    obtain ⟨u1, u2, u3, rfl, ri, rj, rk⟩ := vals_3 r2
    obtain ⟨t1, rfl⟩ := ri
    obtain ⟨t2, rfl⟩ := rj
    obtain ⟨t3, rfl⟩ := rk
    exact ⟨t, o, t1, t2, t3, n, rfl, ho, hc, hd⟩
  · have h3 : ∀ u ∈ out, ∃ a, u = Value.ref a := fun u hu => e2 u (h2.perm.mem_iff.mp hu)
    obtain ⟨n, hn⟩ := hn
    have hb : SrtO.Stb (fun x y => lt3 (k x) (k y)) (out.map backV) xs := by
      rw [e1]
      exact SrtO.Stb.map (swo3k k) backV h2
    refine ⟨.ref d, upd H d (.lst (out.map backV)), I.laid (t' := s.toks) kp hd ⟨?_, out, n, vals_back h3, hn⟩, rfl, q _ d (SrtO.srtd_map h1) hb.perm (I.hok.fresh hd)⟩
    rw [hb.len]
    exact hz
/-- x <= y of two such tuples -/
def rLe3 : R2 := fun x y H Q => ∃ (a b : Addr) (m n : T3), x = .ref a ∧ y = .ref b ∧ H a = some (.tup [.int m.1, .str m.2.1, .int m.2.2]) ∧ H b = some (.tup [.int n.1, .str n.2.1, .int n.2.2]) ∧ Q (.bl (!lt3 n m)) H
theorem le_lex (m n : T3) : Ob.lexAt (fun j => if j = 0 then m.1 == n.1 else if j = 1 then m.2.1 == n.2.1 else m.2.2 == n.2.2)
    (fun j => if j = 0 then decide (m.1 ≤ n.1) else if j = 1 then decide (sl m.2.1 ≤ sl n.2.1) else decide (m.2.2 ≤ n.2.2)) true 0 3 = !lt3 n m := by
  obtain ⟨m1, m2, m3⟩ := m
  obtain ⟨n1, n2, n3⟩ := n
  simp only [Ob.lexAt, lt3]
  by_cases e1 : m1 = n1
  · subst e1
    by_cases e2 : m2 = n2
    · subst e2
      by_cases e3 : m3 = n3
      · subst e3
        simp
      · simp only [beq_self_eq_true, if_true, Nat.zero_add, Nat.one_ne_zero, if_false, Nat.reduceAdd, Nat.reduceEqDiff, beq_iff_eq, e3]
        by_cases z : m3 ≤ n3
        · rw [decide_eq_true z, decide_eq_false (by omega)]
          rfl
        · rw [decide_eq_false z, decide_eq_true (by omega)]
          rfl
    · have e2' : ¬ n2 = m2 := fun z => e2 z.symm
      simp only [beq_self_eq_true, if_true, Nat.zero_add, Nat.one_ne_zero, if_false, beq_iff_eq, e2, e2']
      by_cases z : sl m2 ≤ sl n2
      · rw [decide_eq_true z, decide_eq_false (List.not_lt.mpr z)]
        rfl
      · rw [decide_eq_false z, decide_eq_true (List.not_le.mp z)]
        rfl
  · have e1' : ¬ n1 = m1 := fun z => e1 z.symm
    simp only [if_true, beq_iff_eq, e1, e1', if_false]
    by_cases z : m1 ≤ n1
    · rw [decide_eq_true z, decide_eq_false (by omega)]
      rfl
    · rw [decide_eq_false z, decide_eq_true (by omega)]
      rfl
theorem RcOp.le_str {A : Around} {s : Shared} (a b : Str) (t u : Tok) : Ob.RcOp .LtE A s (.str a t) (.str b u) (decide (sl a ≤ sl b)) := fun _ _ _ _ h => PySem.P.le_str (by
  have e : (!decide (b.cps.toList < a.cps.toList)) = decide (sl a ≤ sl b) := by
    by_cases z : sl a ≤ sl b
    · rw [decide_eq_true z, decide_eq_false (List.not_lt.mpr z)]
      rfl
    · rw [decide_eq_false z, decide_eq_true (List.not_le.mp z)]
      rfl
  rw [e]
  exact h)
theorem op_le3 (hu : X.A.units < cLine) : OpR X (compareOp .LtE) rLe3 := by
  intro pins s σ H x y v u Q I rx ry h
  obtain ⟨a, b, m, n, rfl, rfl, ha, hb, q⟩ := h
  cases rx
  cases ry
  obtain ⟨its, r1, p1, _⟩ := I.tuple (SqT.of ha)
  obtain ⟨its2, r2, p2, _⟩ := I.tuple (SqT.of hb)
  obtain ⟨u1, u2, u3, rfl, ⟨t1, rfl⟩, ⟨t2, rfl⟩, ⟨t3, rfl⟩⟩ := vals_3 r1
  obtain ⟨v1, v2, v3, rfl, ⟨w1, rfl⟩, ⟨w2, rfl⟩, ⟨w3, rfl⟩⟩ := vals_3 r2
  have R := Ob.RcOp.tuples_le (A := X.A) (s := s) (e := fun j => if j = 0 then m.1 == n.1 else if j = 1 then m.2.1 == n.2.1 else m.2.2 == n.2.2)
    (r := fun j => if j = 0 then decide (m.1 ≤ n.1) else if j = 1 then decide (sl m.2.1 ≤ sl n.2.1) else decide (m.2.2 ≤ n.2.2)) p1 p2 hu (fun j h1 h2 => by
    match j, h1 with
    | 0, _ => exact SeqAt.EqAt.int_int _ _ _ _
    | 1, _ => exact SeqAt.EqAt.str_str _ _ _ _
    | 2, _ => exact SeqAt.EqAt.int_int _ _ _ _) (fun j h1 h2 _ => by
    match j, h1 with
    | 0, _ => exact Ob.RcOp.le_int _ _ _ _
    | 1, _ => exact RcOp.le_str _ _ _ _
    | 2, _ => exact Ob.RcOp.le_int _ _ _ _)
  have e3 : Ob.lexAt (fun j => if j = 0 then m.1 == n.1 else if j = 1 then m.2.1 == n.2.1 else m.2.2 == n.2.2)
    (fun j => if j = 0 then decide (m.1 ≤ n.1) else if j = 1 then decide (sl m.2.1 ≤ sl n.2.1) else decide (m.2.2 ≤ n.2.2)) (decide (3 ≤ 3)) 0 (min 3 3) = !lt3 n m := le_lex m n
  have z : wpAny (model X.prog X.w) X.A (compareOp .LtE (.ref a) (.ref b)) (EP X pins σ Q) X.xe s := R X.prog X.w X.xe (EP X pins σ Q) ⟨.bl _, H, I, rfl, by
    rw [← e3] at q
    exact q⟩
  exact z
end
end L2

set_option Elab.async false
set_option linter.all false
set_option maxRecDepth 100000
set_option maxHeartbeats 4000000
/-! The law's draws. -/
namespace K04
open PySem L2 L2.EV
def top (i : Nat) : Stmt := PySem.Challenge.pw_tornlines_k04_whole_lines.main.body.getD i (.Pass ⟨0, 0, 0, 0⟩)
abbrev sBegun : Stmt := top 20
abbrev sNext : Stmt := top 21
/-! ### data of ints -/
theorem canLay_ints : ∀ ns : List Int, PyData.canLayAll0 (ns.map PyData.int) = true
  | [] => by simp [PyData.canLayAll0]
  | n :: ns => by simp [PyData.canLayAll0, PyData.canLay0, canLay_ints ns]
theorem depth_ints : ∀ ns : List Int, PyData.depthAll (ns.map PyData.int) = 0
  | [] => by simp [PyData.depthAll]
  | n :: ns => by simp [PyData.depthAll, PyData.depth, depth_ints ns]
theorem shaped_ints (ns : List Int) : SeqAt.shaped (.list (ns.map PyData.int)) = true := by
  show (PyData.canLay0 (.list (ns.map PyData.int)) && decide (PyData.depth (.list (ns.map PyData.int)) ≤ 64)) = true
  rw [Bool.and_eq_true]
  refine ⟨by simp only [PyData.canLay0]; exact canLay_ints ns, decide_eq_true ?_⟩
  simp only [PyData.depth, depth_ints]
  omega
theorem dp_ints {K : PySem.W.Frag} {H : Hp} : ∀ ns : List Int, DpAll K H (ns.map V.int) (ns.map PyData.int)
  | [] => .nil
  | n :: ns => .cons (.int n) (dp_ints ns)
theorem dp_list {K : PySem.W.Frag} {H : Hp} {a : Addr} {ns : List Int} (h : H a = some (.lst (ns.map V.int))) : Dp K H (.ref a) (.list (ns.map PyData.int)) := .lst (SqL.of h) (dp_ints ns)
theorem eqv_nil (ns : List Int) : PyData.eqv (.list (ns.map PyData.int)) (.list []) = ns.isEmpty := by
  cases ns <;> simp [PyData.eqv, PyData.eqvAll]
/-! ### the draws' dict -/
def mkv (c l : Addr) (k : Int) : List (Key × V) := [(Sum.inr "cells", .ref c), (Sum.inr "left", .ref l), (Sum.inr "at", .int k)]
theorem n1 : ¬ (("cells" : Str) = "left") := by decide +kernel
theorem n2 : ¬ (("cells" : Str) = "at") := by decide +kernel
theorem n3 : ¬ (("left" : Str) = "at") := by decide +kernel
theorem n1' : ¬ (("left" : Str) = "cells") := by decide +kernel
theorem n2' : ¬ (("at" : Str) = "cells") := by decide +kernel
theorem n3' : ¬ (("at" : Str) = "left") := by decide +kernel
theorem k1 {a b : Str} (h : ¬ a = b) : ¬ ((Sum.inr a : Key) = Sum.inr b) := fun z => h (Sum.inr.inj z)
theorem v_cells (c l : Addr) (k : Int) : valV (mkv c l k) (Sum.inr "cells" : Key) = some (.ref c) := by simp [valV, mkv, List.find?_cons]
theorem v_left (c l : Addr) (k : Int) : valV (mkv c l k) (Sum.inr "left" : Key) = some (.ref l) := by simp [valV, mkv, List.find?_cons, n1]
theorem v_at (c l : Addr) (k : Int) : valV (mkv c l k) (Sum.inr "at" : Key) = some (.int k) := by simp [valV, mkv, List.find?_cons, n2, n3]
theorem p_left (c l l' : Addr) (k : Int) : putK (mkv c l k) (Sum.inr "left" : Key) (.ref l') = mkv c l' k := by simp [putK, mkv, n1, n3']
theorem p_at (c l : Addr) (k k' : Int) : putK (mkv c l k) (Sum.inr "at" : Key) (.int k') = mkv c l k' := by simp [putK, mkv, n2, n3]
theorem mk_merge (c l : Addr) (k : Int) : mergeK [] (mkv c l k) = mkv c l k := by simp [mergeK, putK, mkv, n1, n2, n3]
structure MAt (H : Hp) (m c l : Addr) (k : Int) : Prop where
  hm : H m = some (.dK (mkv c l k))
  hc : ∃ cs : List Int, H c = some (.lst (cs.map V.int)) ∧ cs.length ≤ 1000
  hl : ∃ ls : List Int, H l = some (.lst (ls.map V.int)) ∧ ls.length ≤ 1000
  ne : c ≠ l
  k0 : 0 ≤ k
  k1 : k ≤ 1000000
/-- a drawn number from 0 to n - 1; only the dict and its list of great cells have changed -/
def spNext : Sp := fun vs H Q _ => ∃ (m c l : Addr) (k n : Int), vs = [.ref m, .int n] ∧ MAt H m c l k ∧ 0 < n ∧ n < 1000000 ∧ k < 1000000 ∧
  ∀ (r : Int) (H' : Hp) (l' : Addr) (k' : Int), 0 ≤ r → r < n → k' ≤ k + 1 → MAt H' m c l' k' → (l' = l ∨ H l' = none) → (∀ b o, H b = some o → b ≠ m → b ≠ l → H' b = some o) → Q (.int r) H'
/-- the beginning -/
def spBegun (K : PySem.W.Frag) : Sp := fun vs H Q _ => ∃ (a : Addr) (ns : List Int), vs = [.ref a] ∧ SqL K H a (ns.map V.int) ∧ ns.length ≤ 1000 ∧
  ∀ (m c l : Addr) (H' : Hp), MAt H' m c l 0 → H m = none → H c = none → H l = none → Same H H' → Q (.ref m) H'
structure TxtD (mg : Str → Option Value) : Prop where
  list : mg "list" = none
  int : mg "int" = none
  len : mg "len" = none
theorem same_upd {H : Hp} {p : Addr} {o : HO} (h : H p = none) : Same H (upd H p o) := fun b u e => by
  rw [upd_ne (ne_of_none e h)]
  exact e
theorem MAt.same {H H' : Hp} {m c l : Addr} {k : Int} (M : MAt H m c l k) (s : Same H H') : MAt H' m c l k := by
  obtain ⟨h1, ⟨cs, h2, h3⟩, ⟨ls, h4, h5⟩, h6, h7, h8⟩ := M
  exact ⟨s _ _ h1, ⟨cs, s _ _ h2, h3⟩, ⟨ls, s _ _ h4, h5⟩, h6, h7, h8⟩
theorem MAt.set {H : Hp} {m c l : Addr} {k : Int} {ls : List Int} (M : MAt H m c l k) (hz : ls.length ≤ 1000) : MAt (upd H l (.lst (ls.map V.int))) m c l k := by
  obtain ⟨h1, ⟨cs, h2, h3⟩, ⟨ls0, h4, h5⟩, h6, h7, h8⟩ := M
  have ml : m ≠ l := ne_of h1 h4 (fun z => by cases z)
  exact ⟨by rw [upd_ne ml]; exact h1, ⟨cs, by rw [upd_ne h6]; exact h2, h3⟩, ⟨ls, upd_same, hz⟩, h6, h7, h8⟩
/-- another list of great cells -/
theorem MAt.turn {H : Hp} {m c l p : Addr} {k : Int} {ls : List Int} (M : MAt H m c l k) (hp : H p = none) (hz : ls.length ≤ 1000) : MAt (upd (upd H p (.lst (ls.map V.int))) m (.dK (mkv c p k))) m c p k := by
  obtain ⟨h1, ⟨cs, h2, h3⟩, ⟨ls0, h4, h5⟩, h6, h7, h8⟩ := M
  have mp : p ≠ m := (ne_of_none h1 hp).symm
  have cp : c ≠ p := ne_of_none h2 hp
  have cm : c ≠ m := ne_of h2 h1 (fun z => by cases z)
  exact ⟨upd_same, ⟨cs, by rw [upd_ne cm, upd_ne cp]; exact h2, h3⟩, ⟨ls, by rw [upd_ne mp]; exact upd_same, hz⟩, cp, h7, h8⟩
/-- another counter -/
theorem MAt.count {H : Hp} {m c l : Addr} {k k' : Int} (M : MAt H m c l k) (h0 : 0 ≤ k') (h1' : k' ≤ 1000000) : MAt (upd H m (.dK (mkv c l k'))) m c l k' := by
  obtain ⟨h1, ⟨cs, h2, h3⟩, ⟨ls0, h4, h5⟩, h6, h7, h8⟩ := M
  have lm : l ≠ m := ne_of h4 h1 (fun z => by cases z)
  have cm : c ≠ m := ne_of h2 h1 (fun z => by cases z)
  exact ⟨upd_same, ⟨cs, by rw [upd_ne cm]; exact h2, h3⟩, ⟨ls0, by rw [upd_ne lm]; exact h4, h5⟩, h6, h0, h1'⟩
section
variable {K : PySem.W.Frag} {σ : St} {H : Hp} {m c l : Addr} {k : Int}
theorem rd_left {Q : VK} (h0 : σ[0]? = some (some (.ref m))) (M : MAt H m c l k) (q : Q (.ref l) H) : tDGet (tVar 0) (tC (.str "left")) σ H Q := by
  have z : DGet H m (.str "left") (valV (mkv c l k) (Sum.inr "left" : Key)) := DGet.k (k := Sum.inr "left") M.hm
  rw [v_left] at z
  exact ⟨_, h0, m, _, rfl, z, q⟩
theorem rd_cells {Q : VK} (h0 : σ[0]? = some (some (.ref m))) (M : MAt H m c l k) (q : Q (.ref c) H) : tDGet (tVar 0) (tC (.str "cells")) σ H Q := by
  have z : DGet H m (.str "cells") (valV (mkv c l k) (Sum.inr "cells" : Key)) := DGet.k (k := Sum.inr "cells") M.hm
  rw [v_cells] at z
  exact ⟨_, h0, m, _, rfl, z, q⟩
theorem rd_at {Q : VK} (h0 : σ[0]? = some (some (.ref m))) (M : MAt H m c l k) (q : Q (.int k) H) : tDGet (tVar 0) (tC (.str "at")) σ H Q := by
  have z : DGet H m (.str "at") (valV (mkv c l k) (Sum.inr "at" : Key)) := DGet.k (k := Sum.inr "at") M.hm
  rw [v_at] at z
  exact ⟨_, h0, m, _, rfl, z, q⟩
/-- a list of ints against the empty one -/
theorem ne_empty {Q : Bool → Hp → Prop} {a : Addr} {ls : List Int} (hl : H a = some (.lst (ls.map V.int))) (q : ∀ p, H p = none → Q (!ls.isEmpty) (upd H p (.lst []))) :
    tLst tNil σ H fun y H2 => rNeD K (.ref a) y H2 fun x H' => ∃ k, x = .bl k ∧ Q k H' := by
  refine ⟨by decide, fun p hp => ⟨.list (ls.map PyData.int), .list [], dp_list (same_upd hp _ _ hl), .lst (SqL.of upd_same) .nil, shaped_ints ls, shaped_ints [], _, rfl, ?_⟩⟩
  rw [eqv_nil]
  exact q p hp
theorem cut_one (ls : List Int) : cutV (ls.map V.int) (some 1) none = (ls.drop 1).map V.int := by
  unfold cutV
  have e1 : HT.sIx (ls.map V.int).length 0 (some 1) = min 1 (ls.map V.int).length := HT.sIx_nat _ _ 1
  rw [e1, HT.sIx_none]
  cases ls with
  | nil => rfl
  | cons x r =>
    have e2 : min 1 ((x :: r).map V.int).length = 1 := by simp
    rw [e2]
    show List.take ((x :: r).map V.int).length.pred (r.map V.int) = r.map V.int
    exact List.take_of_length_le (by simp)
end
theorem byAll {P : Int → Prop} {G : Prop} (a : (∀ x, P x) → G) (b : ∀ x, P x) : G := a b
theorem iteF' {b : Bool} {A B : Prop} (h : b = false) (q : B) : if b = true then A else B := by
  rw [h]
  exact iteF q
theorem iteT' {b : Bool} {A B : Prop} (h : b = true) (q : A) : if b = true then A else B := by
  rw [h]
  exact iteT q
theorem seq_while {tc : TT} {tb u : TS} {D : Ends} {σ : St} {H : Hp} (W : Nat → Hp → Prop) (R : Hp → Prop) {j0 : Nat} (h0 : W j0 H) (hr : ∀ H2, R H2 → u D σ H2)
    (turn : (∀ H2, R H2 → u D σ H2) → ∀ j H1, W j H1 → tc σ H1 fun b H2 => if b = true then
      ∃ N : St → Hp → Prop, (∀ σ' H', N σ' H' → ∃ j', j' < j ∧ (σ' = σ ∧ W j' H')) ∧ tb { nx := N, rt := D.rt, bk := u D, ct := N } σ H2 else u D σ H2) :
    tSeq (tWhile tc tb) u D σ H := by
  refine ⟨fun j σ' H' => σ' = σ ∧ W j H', ⟨j0, rfl, h0⟩, ?_⟩
  rintro j σ' H1 ⟨rfl, w⟩
  exact turn hr j H1 w
section
variable {P : Program} {w : World} {K : PySem.W.Frag} {mg : Str → Option Value} {base : Heap}
theorem scN : FnScope ["m", "many", "rest", "k", "cell", "mixed"] ["m", "many"] (defScope sNext) := ⟨rfl, rfl, rfl, by decide +kernel, rfl, by decide +kernel, by decide +kernel⟩
theorem ok_next {f : Addr} {fd : FuncData} (F : Fun K "_law_next" "_law_next" sNext f fd) (T : TxtD mg) : FnOk P w K mg base CX0 1 f fd ["m", "many"] spNext := by
  refine F.ok scN (fun vs H Q E h => ?_) (fun cdv A outer s H vs Q E hr h => ?_)
  · obtain ⟨m, c, l, k, n, rfl, _⟩ := h
    rfl
  · obtain ⟨m, c, l, k, n, rfl, M, n0, n1, kk, q⟩ := h
    have hu := hu_of hr
    have hu2 := hr.units
    refine ⟨_, pss_cons (ps_while PassesOwn.never
        (pw_and (pt_cmpR (op_neD hu2) (pe_dget hu (pv 0) pe_str (fun _ _ => rfl)) (pe_lst pa_nil) (nomark _))
          (pw_and1 (pt_cmpR op_eq (pe_ix ix_list (pe_dget hu (pv 0) pe_str (fun _ _ => rfl)) pe_int (fun _ _ => rfl)) pe_int (nomark _)))).pt
        (pss_one (ps_dput hu (pv 0) pe_str (pe_slice sl_list (pe_dget hu (pv 0) pe_str (fun _ _ => rfl)) (po_some pe_int) po_none) rfl)))
      (pss_cons (ps_if (pt_cmpR (op_neD hu2) (pe_dget hu (pv 0) pe_str (fun _ _ => rfl)) (pe_lst pa_nil) (nomark _))
        (pss_cons (ps_set (i := 2) scN.nd rfl (Or.inl rfl) (pe_callTy call_int1 (by rfl) T.int (by decide +kernel) (pa_cons (pe_ix ix_list (pe_dget hu (pv 0) pe_str (fun _ _ => rfl)) pe_int (fun _ _ => rfl)) pa_nil)))
        (pss_cons (ps_asg (pe_op op_fdiv (pv 2) (pv 1)) (pg_sub (pe_dget hu (pv 0) pe_str (fun _ _ => rfl)) pe_int set_list))
        (pss_one (ps_ret (pe_op op_mod (pv 2) (pv 1)))))) pss_nil)
      (pss_cons (ps_set (i := 3) scN.nd rfl (Or.inl rfl) (pe_op op_add (pe_dget hu (pv 0) pe_str (fun _ _ => rfl)) pe_int))
      (pss_cons (ps_dput hu (pv 0) pe_str (pv 3) rfl)
      (pss_cons (ps_set (i := 4) scN.nd rfl (Or.inl rfl) (pe_ifExp (pt_cmpR (op_neD hu2) (pe_dget hu (pv 0) pe_str (fun _ _ => rfl)) (pe_lst pa_nil) (nomark _))
        (pe_ix ix_list (pe_dget hu (pv 0) pe_str (fun _ _ => rfl))
          (pe_op op_mod (pe_callTy call_int1 (by rfl) T.int (by decide +kernel) (pa_cons (pv 3) pa_nil)) (pe_callB call_len_seq (by rfl) T.len PySem.boot_len (pa_cons (pe_dget hu (pv 0) pe_str (fun _ _ => rfl)) pa_nil))) (fun _ _ => rfl))
        pe_int))
      (pss_cons (ps_set (i := 5) scN.nd rfl (Or.inl rfl) (pe_op op_mul (pe_callTy call_int1 (by rfl) T.int (by decide +kernel) (pa_cons
        (pe_op op_add (pe_op op_add (pe_op op_mod (pe_callTy call_int1 (by rfl) T.int (by decide +kernel) (pa_cons (pv 4) pa_nil)) pe_int) (pe_op op_mul pe_int (pv 3))) (pe_op op_mul (pe_op op_mul pe_int (pv 3)) (pv 3))) pa_nil)) pe_int))
      (pss_cons (ps_set (i := 5) scN.nd rfl (Or.inl rfl) (pe_op op_mul (pe_callTy call_int1 (by rfl) T.int (by decide +kernel) (pa_cons
        (pe_op op_add (pe_op op_mod (pe_callTy call_int1 (by rfl) T.int (by decide +kernel) (pa_cons (pv 5) pa_nil)) pe_int) (pe_op op_mul pe_int (pv 3))) pa_nil)) pe_int))
      (pss_one (ps_ret (pe_op op_mod (pe_callTy call_int1 (by rfl) T.int (by decide +kernel) (pa_cons
        (pe_op op_fdiv (pe_op op_mod (pe_callTy call_int1 (by rfl) T.int (by decide +kernel) (pa_cons (pv 5) pa_nil)) pe_int) pe_int) pa_nil)) (pv 1)))))))))), ?_⟩
    obtain ⟨ls0, hl0, ll0⟩ := id M.hl
    refine seq_while (fun j H1 => ∃ (l1 : Addr) (ls : List Int), MAt H1 m c l1 k ∧ H1 l1 = some (.lst (ls.map V.int)) ∧ ls.length = j ∧ (l1 = l ∨ H l1 = none) ∧ (∀ b o, H b = some o → b ≠ m → b ≠ l → H1 b = some o) ∧ ∃ o, H1 l = some o)
      (fun H1 => ∃ (l1 : Addr) (ls : List Int), MAt H1 m c l1 k ∧ H1 l1 = some (.lst (ls.map V.int)) ∧ (l1 = l ∨ H l1 = none) ∧ (∀ b o, H b = some o → b ≠ m → b ≠ l → H1 b = some o))
      ⟨l, ls0, M, hl0, rfl, .inl rfl, fun b o e _ _ => e, _, hl0⟩ ?_ ?_
    · rintro H1 ⟨l1, ls, M1, hl, fl, kp⟩
      refine rd_left rfl M1 (ne_empty hl fun p hp => ?_)
      have M2 := MAt.same M1 (same_upd (o := .lst []) hp)
      have hl2 : upd H1 p (.lst []) l1 = some (.lst (ls.map V.int)) := same_upd hp _ _ hl
      cases ls with
      | cons x r =>
        refine iteT' rfl ?_
        refine rd_left rfl M2 ?_
        refine ⟨l1, _, 0, .int x, rfl, rfl, SqL.of hl2, atI_nat (j := 0) rfl, .inl ⟨x, rfl, ?_⟩⟩
        refine ⟨_, rfl, _, rfl, x, n, rfl, rfl, ⟨n0, by omega⟩, ?_⟩
        refine rd_left rfl M2 ?_
        refine ⟨l1, _, 0, 0, rfl, rfl, hl2, by simp [ixN], ?_⟩
        refine ⟨_, rfl, _, rfl, x, n, rfl, rfl, n0, ?_⟩
        show Q (.int (x % n)) _
        have hz : ((x / n) :: r).length ≤ 1000 := by
          obtain ⟨ls', e1, e2⟩ := M2.hl
          rw [hl2] at e1
          have e3 := congrArg List.length (HO.lst.inj (Option.some.inj e1))
          simp only [List.length_map] at e3
          rw [List.length_cons] at e3 ⊢
          omega
        refine q (x % n) _ l1 k (Int.emod_nonneg _ (by omega)) (Int.emod_lt_of_pos _ n0) (by omega) (M2.set hz) fl fun b o e h1 h2 => ?_
        have h3 : b ≠ l1 := by
          rcases fl with z | z
          · rw [z]
            exact h2
          · exact ne_of_none e z
        rw [upd_ne h3]
        exact same_upd hp _ _ (kp b o e h1 h2)
      | nil =>
        refine iteF' rfl ?_
        refine rd_at rfl M2 ⟨k, 1, rfl, rfl, ?_⟩
        refine ⟨_, rfl, _, rfl, m, _, rfl, DPut.k (k := Sum.inr "at") M2.hm (small1000 (by show 3 ≤ 1000; decide)), ?_⟩
        rw [p_at]
        have M3 := M2.count (k' := k + 1) (by have := M2.k0; omega) (by omega)
        obtain ⟨cs, hc, lc⟩ := id M3.hc
        have k0 := M.k0
        have kp3 : ∀ b o, H b = some o → b ≠ m → b ≠ l → upd (upd H1 p (.lst [])) m (.dK (mkv c l1 (k + 1))) b = some o := fun b o e h1 h2 => by
          rw [upd_ne h1]
          exact same_upd hp _ _ (kp b o e h1 h2)
        refine rd_cells rfl M3 (ne_empty hc fun p3 hp3 => ?_)
        have M4 := MAt.same M3 (same_upd (o := .lst []) hp3)
        have hc4 := same_upd (o := .lst []) hp3 _ _ hc
        have kp4 : ∀ b o, H b = some o → b ≠ m → b ≠ l → upd (upd (upd H1 p (.lst [])) m (.dK (mkv c l1 (k + 1)))) p3 (.lst []) b = some o := fun b o e h1 h2 => same_upd hp3 _ _ (kp3 b o e h1 h2)
        apply byAll
        case a =>
          intro fin
          by_cases he : cs.isEmpty = true
          · refine iteF' (by rw [he]; rfl) ?_
            generalize (3 : Int) = x
            exact fin x
          · refine iteT' (by simpa using he) ?_
            refine rd_cells rfl M4 ?_
            have ne0 : 0 < cs.length := List.length_pos_iff.mpr (fun z => he (by rw [z]; rfl))
            have pos : (0 : Int) < ((cs.map V.int).length : Nat) := by
              simp only [List.length_map]
              omega
            refine ⟨_, rfl, .inl ⟨k + 1, rfl, ?_⟩⟩
            refine rd_cells rfl M4 ?_
            refine ⟨c, _, rfl, .inl (SqL.of hc4), k + 1, _, rfl, rfl, pos, ?_⟩
            have i0 := Int.emod_nonneg (k + 1) (Int.ne_of_gt pos)
            have i1 := Int.emod_lt_of_pos (k + 1) pos
            obtain ⟨j, hj⟩ := Int.eq_ofNat_of_zero_le i0
            have jl : j < cs.length := by
              simp only [List.length_map] at i1 hj
              omega
            obtain ⟨x, hx⟩ : ∃ x : Int, cs[j]? = some x := ⟨cs[j], List.getElem?_eq_getElem jl⟩
            refine ⟨c, _, _, V.int x, rfl, rfl, SqL.of hc4, ?_, ?_⟩
            · rw [hj]
              refine atI_nat ?_
              rw [List.getElem?_map, hx]
              rfl
            · exact fin x
        case b =>
          intro x
          have k2 : -(2 ^ 64) < k + 1 ∧ k + 1 < 2 ^ 64 := ⟨by omega, by omega⟩
          refine ⟨_, rfl, .inl ⟨x, rfl, _, _, rfl, rfl, (by show (0 : Int) < 2147483629; decide), _, rfl, _, _, rfl, rfl, .inl ⟨by decide, by decide⟩, _, _, rfl, rfl, _, rfl, _, _, rfl, rfl, .inl ⟨by decide, by decide⟩,
            _, rfl, _, _, rfl, rfl, .inr k2, _, _, rfl, rfl, .inl ⟨_, rfl, _, _, rfl, rfl, .inr ⟨by decide, by decide⟩, ?_⟩⟩⟩
          refine ⟨_, rfl, .inl ⟨_, rfl, _, _, rfl, rfl, (by show (0 : Int) < 2147483647; decide), _, rfl, _, _, rfl, rfl, .inl ⟨by decide, by decide⟩, _, _, rfl, rfl, .inl ⟨_, rfl, _, _, rfl, rfl, .inr ⟨by decide, by decide⟩, ?_⟩⟩⟩
          refine ⟨_, rfl, .inl ⟨_, rfl, _, _, rfl, rfl, (by show (0 : Int) < 2147483587; decide), _, _, rfl, rfl, ⟨by decide, by decide⟩, .inl ⟨_, rfl, _, rfl, _, _, rfl, rfl, n0, ?_⟩⟩⟩
          exact q _ _ l1 (k + 1) (Int.emod_nonneg _ (by omega)) (Int.emod_lt_of_pos _ n0) (by omega) M4 fl kp4
    · rintro out j H1 ⟨l1, ls, M1, hl, lj, fl, kp, lo⟩
      refine rd_left rfl M1 (ne_empty hl fun p hp => ?_)
      have M2 := MAt.same M1 (same_upd (o := .lst []) hp)
      have hl2 : upd H1 p (.lst []) l1 = some (.lst (ls.map V.int)) := same_upd hp _ _ hl
      have kp2 : ∀ b o, H b = some o → b ≠ m → b ≠ l → upd H1 p (.lst []) b = some o := fun b o e h1 h2 => same_upd hp _ _ (kp b o e h1 h2)
      have lo2 : ∃ o, upd H1 p (.lst []) l = some o := lo.elim fun o e => ⟨o, same_upd hp _ _ e⟩
      cases ls with
      | nil =>
        refine iteF' rfl (iteF' rfl ?_)
        exact out _ ⟨l1, [], M2, hl2, fl, kp2⟩
      | cons x r =>
        refine iteT' rfl (rd_left rfl M2 ⟨l1, _, 0, .int x, rfl, rfl, SqL.of hl2, atI_nat (j := 0) rfl, rfl, _, rfl, ?_⟩)
        refine ite2 (fun z => ?_) (fun z => ?_)
        · refine ⟨_, fun _ _ z => z, ?_⟩
          refine rd_left rfl M2 ⟨1, rfl, l1, _, rfl, SqL.of hl2, fun p2 hp2 => ?_⟩
          have M3 : MAt (upd (upd H1 p (.lst [])) p2 (.lst (cutV ((x :: r).map V.int) (some 1) none))) m c l1 k := MAt.same M2 (same_upd hp2)
          refine ⟨_, rfl, m, _, rfl, DPut.k (k := Sum.inr "left") M3.hm (small1000 (by show 3 ≤ 1000; decide)), ?_⟩
          rw [p_left, cut_one]
          have hz : ((x :: r).drop 1).length ≤ 1000 := by
            obtain ⟨ls', e1, e2⟩ := M2.hl
            rw [hl2] at e1
            have e3 := congrArg List.length (HO.lst.inj (Option.some.inj e1))
            simp only [List.length_map] at e3
            rw [List.length_cons] at e3
            simp only [List.drop_succ_cons, List.drop_zero]
            omega
          have mp : p2 ≠ m := (ne_of_none M2.hm hp2).symm
          refine ⟨r.length, by rw [← lj]; simp, rfl, p2, r, M2.turn hp2 hz, by rw [upd_ne mp]; exact upd_same, rfl, .inr ?_, fun b o e h1 h2 => ?_, ?_⟩
          · cases q0 : H p2 with
            | none => rfl
            | some o =>
              have a2 : p2 ≠ l := by
                obtain ⟨o, e⟩ := lo2
                exact (ne_of_none e hp2).symm
              rw [kp2 p2 o q0 mp a2] at hp2
              cases hp2
          · rw [upd_ne h1]
            exact same_upd hp2 _ _ (kp2 b o e h1 h2)
          · obtain ⟨o, e⟩ := lo2
            refine ⟨o, ?_⟩
            by_cases lm : l = m
            · subst lm
              rw [M.hm] at hl0
              cases hl0
            · rw [upd_ne lm]
              exact same_upd hp2 _ _ e
        · exact out _ ⟨l1, x :: r, M2, hl2, fl, kp2⟩
theorem scB : FnScope ["script", "cell"] ["script"] (defScope sBegun) := ⟨rfl, rfl, rfl, by decide +kernel, rfl, by decide +kernel, by decide +kernel⟩
theorem ok_begun {f : Addr} {fd : FuncData} (F : Fun K "_law_begun" "_law_begun" sBegun f fd) (T : TxtD mg) : FnOk P w K mg base CX0 1 f fd ["script"] (spBegun K) := by
  refine F.ok scB (fun vs H Q E h => ?_) (fun cdv A outer s H vs Q E hr h => ?_)
  · obtain ⟨a, ns, rfl, _⟩ := h
    rfl
  · obtain ⟨a, ns, rfl, hS, hl, q⟩ := h
    refine ⟨_, pss_one (ps_ret (pe_disp (pps_cons pe_str (pe_callTy call_list_of (by rfl) T.list (by decide +kernel) (pa_cons (pv 0) pa_nil))
      (pps_cons pe_str (pe_lc (own := [("cell", 1)]) (g := gName 1) rfl scB.nd (pi_list (pv 0)) (blkOk_by (N := ["script", "cell"]) (sc := defScope sBegun) (by decide +kernel))
        (fun _ _ _ _ _ => pg_name (i := 1) scB.nd rfl (Or.inl rfl)) (fun _ _ _ _ _ => pts_one (pt_cmpR op_ge (pv 1) (pe_op op_pow pe_int pe_int) (nomark _))) (fun _ _ _ _ _ => pv 1))
      (pps_cons pe_str pe_int pps_nil))) rfl rfl (by simp) (by decide))), ?_⟩
    intro m hm
    have s1 : Same H (upd H m (.dK [])) := same_upd hm
    refine ⟨_, rfl, a, ns.map V.int, rfl, .inl (s1.seq hS), fun c hc => ?_⟩
    have s2 := s1.trans (same_upd (o := .lst (ns.map V.int)) hc)
    refine ⟨_, rfl, a, rfl, ⟨_, s2.seq hS⟩, fun l hl0 => ?_⟩
    have mc : m ≠ c := ne_of_none upd_same hc
    have hm2 : upd (upd H m (.dK [])) c (.lst (ns.map V.int)) m = some (.dK []) := by
      rw [upd_ne mc]
      exact upd_same
    have ml : m ≠ l := ne_of_none hm2 hl0
    have cl : c ≠ l := ne_of_none (upd_same) hl0
    refine lc_list (K := K) (a := a) (xs := ns.map V.int) (fun i H' => ∃ acc : List Int, H' l = some (.lst (acc.map V.int)) ∧ acc.length ≤ i ∧ ∀ b o, upd (upd H m (.dK [])) c (.lst (ns.map V.int)) b = some o → H' b = some o)
      ⟨[], upd_same, Nat.le_refl _, fun b o e => same_upd hl0 _ _ e⟩ (fun i H' _ ⟨acc, _, _, k⟩ => Same.seq (s2.trans k) hS) ?_ ?_
    · rintro i x H' hi ⟨acc, ha, la, kp⟩
      obtain ⟨z, rfl⟩ : ∃ z, x = V.int z := by
        rw [List.getElem?_map] at hi
        cases e : ns[i]? with
        | none =>
          rw [e] at hi
          cases hi
        | some z =>
          rw [e] at hi
          exact ⟨z, (Option.some.inj hi).symm⟩
      have il : i < ns.length := by
        have := (List.getElem?_eq_some_iff.mp hi).1
        simpa using this
      refine ⟨rfl, _, rfl, 10, 18, rfl, rfl, ⟨by decide, by decide, by decide⟩, _, _, rfl, rfl, _, rfl, ?_⟩
      refine ite2 (fun _ => ⟨_, rfl, acc.map V.int, ha, ?_, acc ++ [z], ?_, ?_, fun b o e => ?_⟩) (fun _ => ⟨acc, ha, Nat.le_succ_of_le la, kp⟩)
      · rw [List.length_map]
        exact small1000 (by omega)
      · rw [List.map_append]
        exact upd_same
      · simp only [List.length_append, List.length_cons, List.length_nil]
        omega
      · rw [upd_ne (ne_of_none e hl0)]
        exact kp b o e
    · rintro H' ⟨acc, ha, la, kp⟩
      rw [List.length_map] at la
      refine ⟨kp _ _ hm2, mkv c l 0, rfl, (by show 3 ≤ 15; decide), ?_⟩
      rw [mk_merge]
      have lm : l ≠ m := ml.symm
      have cm : c ≠ m := mc.symm
      refine q m c l _ ⟨upd_same, ⟨ns, by rw [upd_ne cm]; exact kp _ _ upd_same, hl⟩, ⟨acc, by rw [upd_ne lm]; exact ha, by omega⟩, cl, by decide, by decide⟩ hm (s1.free hc) (s2.free hl0) fun b o e => ?_
      rw [upd_ne (ne_of_none e hm)]
      exact kp _ _ (s2 _ _ e)
end
end K04

set_option Elab.async false
set_option linter.all false
set_option maxRecDepth 100000
set_option maxHeartbeats 4000000
/-! is_number, is_piece, is_step: of what a framing holds. -/
namespace K04
open PySem L2 L2.EV
abbrev sNum : Stmt := top 9
abbrev sPc : Stmt := top 10
abbrev sStep : Stmt := top 11
def sgs : List Nat := sl ("abcdefghijklmnopqrstuvwxyz0123456789@" : Str)
theorem no59 : ¬ (59 ∈ sgs) := by decide +kernel
theorem semi : sl (";" : Str) = [59] := by decide +kernel
theorem semi1 : (";" : Str).length = 1 := by decide +kernel
/-- a piece; it ends a line if last -/
def Pc (p : Str) (last : Bool) : Prop := ∃ b : List Nat, sl p = b ++ (if last = true then [59] else []) ∧ b.length + (if last = true then 1 else 0) ≤ 8 ∧ (∀ c ∈ b, c ∈ sgs) ∧ (last = false → b ≠ [])
theorem len_sl (p : Str) : p.length = (sl p).length := by
  show p.cps.size = p.cps.toList.length
  simp
theorem pc_len {p : Str} {l : Bool} (h : Pc p l) : 1 ≤ p.length ∧ p.length ≤ 8 := by
  obtain ⟨b, e, h1, _, h2⟩ := h
  rw [len_sl, e, List.length_append]
  cases l with
  | true =>
    rw [if_pos rfl] at h1 ⊢
    simp only [List.length_cons, List.length_nil]
    omega
  | false =>
    have := List.length_pos_iff.mpr (h2 rfl)
    rw [if_neg (by simp)] at h1 ⊢
    simp only [List.length_nil]
    omega
theorem at_end {p : Str} : Builtin.Str.subAt p ";" (p.length - (";" : Str).length) = (((sl p).drop ((sl p).length - 1)).take 1 == [59]) := by
  rw [StrLaws.subAt_eq, semi1, len_sl]
  show (((sl p).drop _).take 1 == sl (";" : Str)) = _
  rw [semi]
theorem pc_last {p : Str} {l : Bool} (h : Pc p l) : (decide (0 + (";" : Str).length ≤ p.length) && Builtin.Str.subAt p ";" (p.length - (";" : Str).length)) = l := by
  have z := pc_len h
  rw [at_end]
  have d : decide (0 + (";" : Str).length ≤ p.length) = true := decide_eq_true (by rw [semi1]; omega)
  rw [d, Bool.true_and]
  obtain ⟨b, e, h1, hb, h2⟩ := h
  rw [e]
  cases l with
  | true =>
    rw [if_pos rfl]
    simp
  | false =>
    rw [if_neg (by simp), List.append_nil]
    obtain ⟨M, y, rfl⟩ := SrtO.snoc_of (l := b) (List.length_pos_iff.mpr (h2 rfl))
    have hy : y ∈ sgs := hb y (by simp)
    have ne : ¬ y = 59 := fun q => no59 (q ▸ hy)
    simp [ne]
theorem pc_ends {p : Str} {l : Bool} (h : Pc p l) : Txt.endswith p ";" = l := pc_last h
theorem pc_cut {p : Str} {l : Bool} (h : Pc p l) : ∀ c ∈ sl (Txt.removesuffix p ";"), c ∈ sgs := by
  have z := pc_last h
  rw [StrLaws.removesuffix_eq]
  rw [show (decide (0 + (";" : Str).length ≤ p.length) && Builtin.Str.subAt p ";" (p.length - (";" : Str).length)) = l from z]
  obtain ⟨b, e, h1, hb, h2⟩ := h
  intro c hc
  cases l with
  | true =>
    rw [if_pos rfl] at hc e
    rw [semi1, len_sl] at hc
    have e' : p.cps.toList = b ++ [59] := e
    simp only [e, e', List.drop_zero, List.length_append, List.length_cons, List.length_nil] at hc
    have : (b ++ [59]).take (b.length + (0 + 1) - 1 - 0) = b := by simp
    rw [this] at hc
    exact hb c (by simpa using hc)
  | false =>
    rw [if_neg (by simp)] at hc
    rw [e, if_neg (by simp), List.append_nil] at hc
    exact hb c hc
/-- is_number(n, many) -/
def spNum : Sp := fun vs H Q _ => ∃ n m : Int, vs = [.int n, .int m] ∧ Q (.bl (decide (0 ≤ n) && decide (n < m))) H
/-- is_piece(p), p a piece -/
def spPc : Sp := fun vs H Q _ => ∃ (p : Str) (l : Bool), vs = [.str p] ∧ Pc p l ∧ ∀ H', Same H H' → Q (.bl true) H'
/-- what a step is -/
def Stp (x : T3) : Prop := 0 ≤ x.1 ∧ x.1 < 6 ∧ Pc x.2.1 (decide (x.2.2 = 0)) ∧ 0 ≤ x.2.2 ∧ x.2.2 < 6
/-- a step at t -/
abbrev S3 (H : Hp) (t : Addr) (x : T3) : Prop := H t = some (.tup [.int x.1, .str x.2.1, .int x.2.2])
def spStep : Sp := fun vs H Q _ => ∃ (t : Addr) (x : T3), vs = [.ref t] ∧ S3 H t x ∧ Stp x ∧ ∀ H', Same H H' → Q (.bl true) H'
structure TxtF (mg : Str → Option Value) : Prop where
  isi : mg "isinstance" = none
  int : mg "int" = none
  bool : mg "bool" = none
  str : mg "str" = none
  tuple : mg "tuple" = none
  len : mg "len" = none
  all : mg "all" = none
  signs : ∃ t, mg "SIGNS" = some (.str "abcdefghijklmnopqrstuvwxyz0123456789@" t)
  mSigns : ∃ t, mg "MOST_SIGNS" = some (.int 8 t)
  many : ∃ t, mg "MANY_STANDINGS" = some (.int 6 t)
section
variable {P : Program} {w : World} {K : PySem.W.Frag} {mg : Str → Option Value} {base : Heap}
theorem scNum : FnScope ["thing", "many"] ["thing", "many"] (defScope sNum) := ⟨rfl, rfl, rfl, by decide +kernel, rfl, by decide +kernel, by decide +kernel⟩
theorem ok_num {f : Addr} {fd : FuncData} (F : Fun K "is_number" "is_number" sNum f fd) (T : TxtF mg) : FnOk P w K mg base CX0 1 f fd ["thing", "many"] spNum := by
  refine F.ok scNum (fun vs H Q E h => ?_) (fun cdv A outer s H vs Q E hr h => ?_)
  · obtain ⟨n, m, rfl, _⟩ := h
    rfl
  · obtain ⟨n, m, rfl, q⟩ := h
    refine ⟨_, pss_one (ps_ret (pe_and (pe_callB call_isi (by rfl) T.isi PyProof.Rows.boot_isinstance (pa_cons (pv 0) (pa_cons (pe_bltn (v := .ty "int") (by rfl) T.int (by decide +kernel) rfl) pa_nil)))
      (pe_and (pe_not (pe_callB call_isi (by rfl) T.isi PyProof.Rows.boot_isinstance (pa_cons (pv 0) (pa_cons (pe_bltn (v := .ty "bool") (by rfl) T.bool (by decide +kernel) rfl) pa_nil))))
        (pe_one (pe_chain op_le op_lt pe_int (pv 0) (pv 1)))))), ?_⟩
    refine ⟨_, rfl, .int n, .ty "int", .type "int", .type "int", true, rfl, .ty "int", .base (.int n), kit_ty (by decide +kernel), true, rfl, iteT ?_⟩
    refine ⟨_, rfl, .int n, .ty "bool", .type "int", .type "bool", false, rfl, .ty "bool", .base (.int n), kit_ty (by decide +kernel), false, rfl, true, rfl, iteT ?_⟩
    refine ⟨_, rfl, 0, n, rfl, rfl, _, rfl, ?_⟩
    refine ite2 (fun z => ?_) (fun z => ?_)
    · refine ⟨_, rfl, n, m, rfl, rfl, ?_⟩
      rw [z, Bool.true_and] at q
      exact q
    · rw [eq_false_of_ne_true z, Bool.false_and] at q
      exact q
theorem scPc : FnScope ["thing", "sign"] ["thing"] (defScope sPc) := ⟨rfl, rfl, rfl, by decide +kernel, rfl, by decide +kernel, by decide +kernel⟩
theorem ok_pc {f : Addr} {fd : FuncData} (F : Fun K "is_piece" "is_piece" sPc f fd) (T : TxtF mg) : FnOk P w K mg base CX0 1 f fd ["thing"] spPc := by
  refine F.ok scPc (fun vs H Q E h => ?_) (fun cdv A outer s H vs Q E hr h => ?_)
  · obtain ⟨p, l, rfl, _⟩ := h
    rfl
  · obtain ⟨p, l, rfl, hp, q⟩ := h
    obtain ⟨ts, eS⟩ := T.signs
    obtain ⟨tm, eM⟩ := T.mSigns
    refine ⟨_, pss_cons (ps_if (pw_or (pt_not (pt_val (pe_callB call_isi (by rfl) T.isi PyProof.Rows.boot_isinstance (pa_cons (pv 0) (pa_cons (pe_bltn (v := .ty "str") (by rfl) T.str (by decide +kernel) rfl) pa_nil)))))
        (pw_or1 (pt_not (pt_chain op_le op_le pe_int (pe_callB call_len_str (by rfl) T.len PySem.boot_len (pa_cons (pv 0) pa_nil)) (pe_glob (v := .int 8) (by rfl) eM ⟨_, rfl⟩))))).pt
        (pss_one (ps_ret pe_bl)) pss_nil)
      (pss_one (ps_ret (pe_callB (cr_all rfl) (by rfl) T.all (by decide +kernel) (pa_cons (pe_lc (own := [("sign", 1)]) (g := gName 1) rfl scPc.nd
        (pi_str (pe_m1 PySem.F.slot_str_removesuffix PySem.F.type_str_removesuffix mt_removesuffix (pv 0) pe_str)) (blkOk_by (N := ["thing", "sign"]) (sc := defScope sPc) (by decide +kernel))
        (fun _ _ _ _ _ => pg_name (i := 1) scPc.nd rfl (Or.inl rfl)) (fun _ _ _ _ _ => pts_nil) (fun _ _ _ _ _ => pe_cmpR op_in_sign (pv 1) (pe_glob (v := .str "abcdefghijklmnopqrstuvwxyz0123456789@") (by rfl) eS ⟨_, rfl⟩) (by rfl))) pa_nil)))), ?_⟩
    have z := pc_len hp
    refine ⟨_, rfl, .str p, .ty "str", .type "str", .type "str", true, rfl, .ty "str", .base (.str p), kit_ty (by decide +kernel), true, rfl, iteF ?_⟩
    refine ⟨.str p, rfl, p, rfl, by rw [sizeLine_eq]; omega, 1, p.length, rfl, rfl, _, rfl, iteT' (decide_eq_true (by omega)) ⟨p.length, 8, rfl, rfl, _, rfl, ?_⟩⟩
    refine iteF' (by rw [decide_eq_true (by omega)]; rfl) ?_
    refine ⟨_, rfl, ⟨p, rfl⟩, p, ";", rfl, rfl, by rw [sizeLine_eq]; omega, _, rfl, fun D hD => ?_⟩
    refine lc_it walk_str (fun i H' => H' D = some (.lst ((List.replicate i true).map V.bl)) ∧ ∀ b o, H b = some o → H' b = some o) ⟨upd_same, fun b o z => same_upd hD b o z⟩ (fun _ _ _ _ => trivial) ?_ ?_
    · rintro i x H1 H2 hi ⟨hl, kp⟩ ⟨rfl, c, hc, rfl⟩
      refine ⟨rfl, ⟨_, rfl, c, _, rfl, rfl, ?_⟩⟩
      have hm : c ∈ sgs := pc_cut hp c (List.mem_of_getElem? (by simpa using hc))
      refine ⟨_, hl, ?_, ?_, fun b o z => ?_⟩
      · rw [List.length_map, List.length_replicate, sizeLine_eq]
        have l1 := PyProof.Rows.len_removesuffix p ";"
        have l2 : (Txt.removesuffix p ";").cps.size = (Txt.removesuffix p ";").length := rfl
        omega
      · have e : decide (c ∈ ("abcdefghijklmnopqrstuvwxyz0123456789@" : Str).cps.toList) = true := decide_eq_true hm
        rw [e, List.replicate_succ', List.map_append]
        exact upd_same
      · rw [upd_ne (ne_of_none z hD)]
        exact kp b o z
    · rintro H1 ⟨hl, kp⟩
      refine ⟨D, _, rfl, SqL.of hl, ?_⟩
      rw [show (List.replicate (Txt.removesuffix p ";").cps.size true).all id = true by simp]
      exact q H1 kp
theorem scStep : FnScope ["thing", "start", "piece", "goal"] ["thing"] (defScope sStep) := ⟨rfl, rfl, rfl, by decide +kernel, rfl, by decide +kernel, by decide +kernel⟩
theorem ok_step {f fN fP : Addr} {fd fdN fdP : FuncData} (F : Fun K "is_step" "is_step" sStep f fd) (T : TxtF mg) (FN : Fun K "is_number" "is_number" sNum fN fdN) (bN : Binds K fdN ["thing", "many"] []) (mN : mg "is_number" = some (.ref fN))
    (FP : Fun K "is_piece" "is_piece" sPc fP fdP) (bP : Binds K fdP ["thing"] []) (mP : mg "is_piece" = some (.ref fP)) : FnOk P w K mg base CX0 2 f fd ["thing"] spStep := by
  have GN : FnOk P w K mg base CX0 1 fN fdN ["thing", "many"] spNum := ok_num FN T
  have GP : FnOk P w K mg base CX0 1 fP fdP ["thing"] spPc := ok_pc FP T
  refine F.ok scStep (fun vs H Q E h => ?_) (fun cdv A outer s H vs Q E hr h => ?_)
  · obtain ⟨t, x, rfl, _⟩ := h
    rfl
  · obtain ⟨t, x, rfl, e, hx, q⟩ := h
    obtain ⟨tm, eM⟩ := T.many
    refine ⟨_, pss_cons (ps_if (pw_or (pt_not (pt_val (pe_callB call_isi (by rfl) T.isi PyProof.Rows.boot_isinstance (pa_cons (pv 0) (pa_cons (pe_bltn (v := .ty "tuple") (by rfl) T.tuple (by decide +kernel) rfl) pa_nil)))))
        (pw_or1 (pt_cmpR op_ne (pe_callB call_len_seq (by rfl) T.len PySem.boot_len (pa_cons (pv 0) pa_nil)) pe_int (nomark _)))).pt
        (pss_one (ps_ret pe_bl)) pss_nil)
      (pss_cons (ps_asg (pv 0) (pg_tup rfl (pgs_cons (pg_name (i := 1) scStep.nd rfl (Or.inl rfl)) (pgs_cons (pg_name (i := 2) scStep.nd rfl (Or.inl rfl)) (pgs_cons (pg_name (i := 3) scStep.nd rfl (Or.inl rfl)) pgs_nil)))))
      (pss_cons (ps_if (pw_or (pt_not (pt_val (pe_call GN hr (by rfl) mN FN.kp bN .nil pass0 (pa_cons (pv 1) (pa_cons (pe_glob (v := .int 6) (by rfl) eM ⟨_, rfl⟩) pa_nil)))))
        (pw_or (pt_not (pt_val (pe_call GP hr (by rfl) mP FP.kp bP .nil pass0 (pa_cons (pv 2) pa_nil))))
          (pw_or1 (pt_not (pt_val (pe_call GN hr (by rfl) mN FN.kp bN .nil pass0 (pa_cons (pv 3) (pa_cons (pe_glob (v := .int 6) (by rfl) eM ⟨_, rfl⟩) pa_nil)))))))).pt
        (pss_one (ps_ret pe_bl)) pss_nil)
      (pss_one (ps_ret (pe_cmpR op_eq (pe_m1 PySem.F.slot_str_endswith PySem.F.type_str_endswith mt_endswith (pv 2) pe_str) (pe_cmpR op_eq (pv 3) pe_int (nomark _)) (nomark _)))))), ?_⟩
    obtain ⟨h0, h6, hp, g0, g6⟩ := hx
    refine ⟨_, rfl, .ref t, .ty "tuple", .type "tuple", .type "tuple", true, rfl, .ty "tuple", .base (.tup e), kit_ty (by decide +kernel), true, rfl, iteF ?_⟩
    refine ⟨_, rfl, t, _, rfl, .inr (SqT.of e), rfl, _, rfl, iteF ?_⟩
    refine ⟨_, rfl, t, _, rfl, SqT.of e, rfl, _, _, rfl, _, _, rfl, _, _, rfl, rfl, ?_⟩
    refine ⟨_, rfl, x.1, 6, rfl, _, rfl, ?_⟩
    refine iteF' (by rw [decide_eq_true h0, decide_eq_true h6]; rfl) ?_
    refine ⟨_, rfl, x.2.1, _, rfl, hp, fun H1 s1 => ⟨_, rfl, iteF ?_⟩⟩
    refine ⟨_, rfl, x.2.2, 6, rfl, _, rfl, ?_⟩
    refine iteF' (by rw [decide_eq_true g0, decide_eq_true g6]; rfl) ?_
    refine ⟨_, rfl, ⟨_, rfl⟩, x.2.1, _, rfl, rfl, ⟨_, rfl, rfl, rfl, ?_⟩⟩
    rw [pc_ends hp]
    have e1 : decide (V.int x.2.2 = V.int 0) = decide (x.2.2 = 0) := by
      rw [dec_int]
      by_cases z : x.2.2 = 0
      · rw [z]
        rfl
      · rw [decide_eq_false z]
        exact beq_eq_false_iff_ne.mpr z
    rw [e1, decide_eq_true rfl]
    exact q H1 s1
end
end K04

set_option Elab.async false
set_option linter.all false
set_option maxRecDepth 100000
set_option maxHeartbeats 4000000
/-! {elt for tg in iter if .. for tg1 in iter1 if ..}: a set of ints by a comprehension of two clauses. -/
namespace L2
namespace EV
open PySem PySem.Spec PyProof.Rows
/-- the comprehension itself -/
abbrev sc2 (elt t0 i0 t1 i1 : Expr) (f0 f1 : List Expr) (sc : Scope) (pos : Pos) : Expr := .SetComp elt [⟨t0, i0, f0, 0⟩, ⟨t1, i1, f1, 0⟩] sc pos
section
variable (elt t0 i0 t1 i1 : Expr) (f0 f1 : List Expr) (sc : Scope) (pos : Pos) (it acc : Value) (env : Env)
theorem turn_outer : compTurn (sc2 elt t0 i0 t1 i1 f0 f1 sc pos) 0 it acc env = (do
    standAt i0.pos
    match ← pyNext it with
    | none => pure (.done .next)
    | some u =>
      letOwnedTupleGo t0 it u
      assign t0 env u
      let mut go := true
      for c in f0 do
        if go then go ← isTrue c env (eval c env)
      if go then
        let xs ← eval i1 env
        standAt i1.pos
        let xs ← foldedSetIterable i1 env xs
        let _ ← runOwn (.compStart (sc2 elt t0 i0 t1 i1 f0 f1 sc pos) 1 (← holding [xs] (pyIter xs)) acc env) env
      again (.compLoop (sc2 elt t0 i0 t1 i1 f0 f1 sc pos) 0 it acc env)) := by rfl
theorem turn_inner : compTurn (sc2 elt t0 i0 t1 i1 f0 f1 sc pos) 1 it acc env = (do
    standAt i1.pos
    match ← pyNext it with
    | none => pure (.done .next)
    | some u =>
      letOwnedTupleGo t1 it u
      assign t1 env u
      let mut go := true
      for c in f1 do
        if go then go ← isTrue c env (eval c env)
      if go then
        (do let y ← eval elt env; standAt elt.pos; let _ ← call (.builtin "set.add") [acc, y])
      again (.compLoop (sc2 elt t0 i0 t1 i1 f0 f1 sc pos) 1 it acc env)) := by rfl
end
section
variable {prog : Program} {w : World} {A : Around} {R : Result → Shared → Prop} {s : Shared} {elt t0 i0 t1 i1 : Expr} {f0 f1 : List Expr} {sc : Scope} {pos : Pos} {it acc : Value} {env : Env}
/-- what is wanted of an error in the block -/
abbrev Erx (prog : Program) (w : World) (A : Around) (env : Env) (R : Result → Shared → Prop) : Value → Shared → Prop := notedBy (model prog w) A env fun e s' => R (.error e) s'
/-- the tests of a clause -/
abbrev tests (fs : List Expr) (env : Env) : Sem Bool := forIn fs true fun c r => if r = true then do let ok ← isTrue c env (eval c env); pure (ForInStep.yield ok) else pure (ForInStep.yield r)
theorem loop_outer (fold : ∀ x, foldedSetIterable i1 env x = pure x) (J : Nat → Shared → Prop)
    (turn : ∀ n s, J n s → wpAny (model prog w) A (pyNext it) (fun r s1 => match r with
      | none => R (.ok .next) s1
      | some u => wpAny (model prog w) A (letOwnedTupleGo t0 it u) (fun _ s2 => wpAny (model prog w) A (assign t0 env u) (fun _ s3 => wpAny (model prog w) A (tests f0 env) (fun ok s4 =>
          if ok = true then wpAny (model prog w) A (eval i1 env) (fun xs s5 => wpAny (model prog w) A (pyIter xs) (fun itv s6 =>
            codeAny (model prog w) A (.compStart (sc2 elt t0 i0 t1 i1 f0 f1 sc pos) 1 itv acc env) (fun r s' => (∃ fl, r = .ok fl) ∧ ∃ m, m < n ∧ J m s') s6) (Erx prog w A env R) s5) (Erx prog w A env R) s4
          else ∃ m, m < n ∧ J m s4) (Erx prog w A env R) s3) (Erx prog w A env R) s2) (Erx prog w A env R) s1) (Erx prog w A env R) s) (n : Nat) (h : J n s) :
    codeAny (model prog w) A (.compLoop (sc2 elt t0 i0 t1 i1 f0 f1 sc pos) 0 it acc env) R s := by
  refine codeAny_loop rfl J (fun n s hJ => ?_) n h
  show wpAny _ A ((compTurn (sc2 elt t0 i0 t1 i1 f0 f1 sc pos) 0 it acc env).onRaise (fun x => do noteFrame x env; theTreesLotGoes x)) _ _ s
  refine wpAny_noted ?_
  rw [turn_outer]
  refine wpAny_bind (wpAny_standAt (wpAny_bind (wpAny_mono (turn n s hJ) (fun r s1 q1 => ?_) fun _ _ z => z)))
  cases r with
  | none => exact wpAny_pure q1
  | some u =>
    refine wpAny_bind (wpAny_mono q1 (fun _ s2 q2 => ?_) fun _ _ z => z)
    refine wpAny_bind (wpAny_mono q2 (fun _ s3 q3 => ?_) fun _ _ z => z)
    refine wpAny_bind (wpAny_mono q3 (fun ok s4 q4 => ?_) fun _ _ z => z)
    cases ok with
    | false => exact wpAny_pure ⟨rfl, q4⟩
    | true =>
      refine wpAny_bind (wpAny_mono q4 (fun xs s5 q5 => ?_) fun _ _ z => z)
      refine wpAny_bind (wpAny_standAt (wpAny_bind (wpAny_of_eq (fold xs) ?_)))
      refine wpAny_bind (wpAny_holding (wpAny_mono q5 (fun itv s6 q6 => ?_) fun _ _ z => z))
      refine wpAny_bind (wpAny_runOwn ?_)
      rw [Around.mark_none]
      refine codeAny_mono q6 fun r s' hr => ?_
      obtain ⟨⟨fl, rfl⟩, hm⟩ := hr
      first
        | exact wpAny_pure ⟨rfl, hm⟩
        | exact wpAny_bind (wpAny_pure (wpAny_pure ⟨rfl, hm⟩))
theorem loop_inner (J : Nat → Shared → Prop)
    (turn : ∀ n s, J n s → wpAny (model prog w) A (pyNext it) (fun r s1 => match r with
      | none => R (.ok .next) s1
      | some u => wpAny (model prog w) A (letOwnedTupleGo t1 it u) (fun _ s2 => wpAny (model prog w) A (assign t1 env u) (fun _ s3 => wpAny (model prog w) A (tests f1 env) (fun ok s4 =>
          if ok = true then wpAny (model prog w) A (eval elt env) (fun y s5 => wpAny (model prog w) A (call (.builtin "set.add") [acc, y]) (fun _ s6 => ∃ m, m < n ∧ J m s6) (Erx prog w A env R) s5) (Erx prog w A env R) s4
          else ∃ m, m < n ∧ J m s4) (Erx prog w A env R) s3) (Erx prog w A env R) s2) (Erx prog w A env R) s1) (Erx prog w A env R) s) (n : Nat) (h : J n s) :
    codeAny (model prog w) A (.compLoop (sc2 elt t0 i0 t1 i1 f0 f1 sc pos) 1 it acc env) R s := by
  refine codeAny_loop rfl J (fun n s hJ => ?_) n h
  show wpAny _ A ((compTurn (sc2 elt t0 i0 t1 i1 f0 f1 sc pos) 1 it acc env).onRaise (fun x => do noteFrame x env; theTreesLotGoes x)) _ _ s
  refine wpAny_noted ?_
  rw [turn_inner]
  refine wpAny_bind (wpAny_standAt (wpAny_bind (wpAny_mono (turn n s hJ) (fun r s1 q1 => ?_) fun _ _ z => z)))
  cases r with
  | none => exact wpAny_pure q1
  | some u =>
    refine wpAny_bind (wpAny_mono q1 (fun _ s2 q2 => ?_) fun _ _ z => z)
    refine wpAny_bind (wpAny_mono q2 (fun _ s3 q3 => ?_) fun _ _ z => z)
    refine wpAny_bind (wpAny_mono q3 (fun ok s4 q4 => ?_) fun _ _ z => z)
    cases ok with
    | false => exact wpAny_pure ⟨rfl, q4⟩
    | true =>
      refine wpAny_bind (wpAny_bind (wpAny_mono q4 (fun y s5 q5 => ?_) fun _ _ z => z))
      refine wpAny_bind (wpAny_standAt (wpAny_bind (wpAny_mono q5 (fun _ s6 q6 => ?_) fun _ _ z => z)))
      exact wpAny_pure (wpAny_pure ⟨rfl, q6⟩)
/-- a clause's start: its walk is begun already, or begins here -/
theorem start_inner (h0 : codeAny (model prog w) A (.compLoop (sc2 elt t0 i0 t1 i1 f0 f1 sc pos) 1 it acc env) R s)
    (h : wpAny (model prog w) A (pyIter it) (fun itv s' => codeAny (model prog w) A (.compLoop (sc2 elt t0 i0 t1 i1 f0 f1 sc pos) 1 itv acc env) R s') (Erx prog w A env R) s) :
    codeAny (model prog w) A (.compStart (sc2 elt t0 i0 t1 i1 f0 f1 sc pos) 1 it acc env) R s := by
  refine codeAny_of_tree ?_
  show wpAny _ _ ((compStart (sc2 elt t0 i0 t1 i1 f0 f1 sc pos) 1 it acc env).onRaise (fun x => do noteFrame x env; standAt theWindowsPlace)) _ _ s
  refine wpAny_notedAt ?_
  unfold compStart
  show wpAny _ _ (ask >>= _) _ _ s
  refine wpAny_bind (wpAny_askSetting (wpAny_ite ?_))
  split
  · first
      | exact wpAny_bind (wpAny_pure (wpAny_pure (And.intro rfl h0)))
      | exact wpAny_pure (And.intro rfl h0)
  · refine wpAny_bind (wpAny_rule ?_)
    show wpAny _ _ (standAt i1.pos >>= _) _ _ s
    exact wpAny_bind (wpAny_standAt (wpAny_bind (wpAny_mono h (fun itv s' q => wpAny_pure (And.intro rfl q)) fun _ _ z => z)))
end
/-- the set at D has got y -/
def addedS (w : World) (D : Addr) (y : V) (H : Hp) (N : Hp → Prop) : Prop := ∃ (k : Int) (S : Int → Bool) (n : Nat), y = .int k ∧ H D = some (SetO w D S n) ∧ n + 1 < scanBound ∧
  N (upd H D (SetO w D (fun j => S j || decide (j = k)) (if S k = true then n else n + 1)))
/-- the reading: D the new set; behind the first clause's store and tests the second walk, from which Nx is reached -/
def tSc2 (w : World) (wi : TI) (g : TG) (tt : TT) (wi1 : TI) (g1 : TG) (tt1 : TT) (te : TE) (vs vs1 : List Nat) : TE := fun σ H Q => wi σ H fun J H1 => ∀ D, H1 D = none →
  ∃ W : Nat → Nat → Hp → Prop, (∃ m, W 0 m (upd H1 D (SetO w D (fun _ => false) 0))) ∧ ∀ i m H, W i m H →
    (J.stop i H ∧ Q (.ref D) H) ∨ (J.go i H ∧ ∃ Nx : Hp → Prop, (∀ H', Nx H' → ∃ m', m' < m ∧ W (i + 1) m' H') ∧ ∀ x H', J.yld i H x H' → g x (wipe σ vs) H' fun σ2 H2 => wipe σ2 vs = wipe σ vs ∧ tt σ2 H2 fun b H3 =>
      if b = true then wi1 σ2 H3 fun J1 H4 => ∃ W1 : Nat → Nat → Hp → Prop, (∃ m, W1 0 m H4) ∧ ∀ j k H, W1 j k H →
        (J1.stop j H ∧ Nx H) ∨ (J1.go j H ∧ ∃ Nx1 : Hp → Prop, (∀ H', Nx1 H' → ∃ k', k' < k ∧ W1 (j + 1) k' H') ∧ ∀ x H', J1.yld j H x H' → g1 x (wipe σ2 vs1) H' fun σ3 H5 => wipe σ3 vs1 = wipe σ2 vs1 ∧ tt1 σ3 H5 fun b H6 =>
          if b = true then te σ3 H6 fun y H7 => addedS w D y H7 Nx1 else Nx1 H6)
      else Nx H3)
section
variable {X : Cx}
theorem add_in {pins : List (Addr × Obj)} {σ : L2.St} {H : Hp} {s : Shared} {D : Addr} {y : V} {u : Value} {N : Hp → Prop} {Q : Value → Shared → Prop} (I : Inv X pins σ H s) (r : RelV y u) (a : addedS X.w D y H N)
    (h : ∀ H' s', Inv X pins σ H' s' → N H' → Q .none s') : wpAny (model X.prog X.w) X.A (call (.builtin "set.add") [.ref D, u]) Q X.xe s := by
  obtain ⟨k, S, n, rfl, hD, room, nx⟩ := a
  refine thn (mt_sadd pins s σ H (.ref D) [.int k] (.ref D) [u] (fun v H' => v = .non ∧ N H') I rfl (.cons r .nil) ⟨D, k, S, n, rfl, rfl, hD, room, rfl, nx⟩) fun v s' q => ?_
  obtain ⟨v', H', I', rv, rfl, nx'⟩ := q
  obtain rfl : v = Value.none := rv
  exact h H' s' I' nx'
variable {elt tg iter tg1 iter1 : Expr} {ifs ifs1 : List Expr} {scope : Scope} {own : List (Str × Nat)} {vs1 : List Nat} {pos : Pos} {wi wi1 : TI} {g g1 : TG} {tt tt1 : TT} {te : TE}
theorem pe_sc2 (hc : X.calm = true) (hN : X.N.Nodup) (hi : PI X tg iter wi) (ok : BlkOk X.N X.env.scope scope own) (hv : ∀ i ∈ vs1, i ∈ own.map (·.2))
    (blk : ∀ (s : Shared) (H : Hp) (C : Addr) (cl : List (Str × Addr)) (fp : List Addr), PG (X.blk s H scope (compEnvC scope cl C X.env) fp) tg g ∧ PTs (X.blk s H scope (compEnvC scope cl C X.env) fp) ifs tt ∧
      PI (X.blk s H scope (compEnvC scope cl C X.env) fp) tg1 iter1 wi1 ∧ PG (X.blk s H scope (compEnvC scope cl C X.env) fp) tg1 g1 ∧ PTs (X.blk s H scope (compEnvC scope cl C X.env) fp) ifs1 tt1 ∧
      PE (X.blk s H scope (compEnvC scope cl C X.env) fp) elt te)
    (fold : ∀ x, foldedSetIterable iter X.env x = pure x := by intro _; rfl) (fold1 : ∀ env x, foldedSetIterable iter1 env x = pure x := by intro _ _; rfl) :
    PE X (sc2 elt tg iter tg1 iter1 ifs ifs1 scope pos) (tSc2 X.w wi g tt wi1 g1 tt1 te (own.map (·.2)) vs1) := by
  refine ⟨fun pins s σ H Q I h => ?_⟩
  rw [PpSet.eval_SetComp]
  have cellOf : ∀ y ∈ scope.names, y.2 = .free → ∃ c, X.env.cells.lookup y.1 = some c := fun y hy e => (ok.free y hy e).elim (fun k => I.ok.has _ (.inl k)) fun k => I.ok.has _ (.inr k)
  refine wpAny_comprehension_free (use := none) rfl fold (closure_ok cellOf) ok.kind (fun y hy e => by rw [ok.uniq y hy, e]) (thn (hi.run pins s σ H _ I h) fun xv s1 hx => thn hx fun itv s2 h2 => ?_)
  obtain ⟨it, fp, tn, J, H2, e, I2, T, st2, f2, q⟩ := h2
  subst e
  refine PpSet.newSet_ok (newEnv_comp ?_)
  generalize hD : s2.heap.objs.size = D
  have freeD : H2 D = none := I2.hok.fresh (Nat.le_of_eq hD)
  obtain ⟨W, ⟨m0, w0⟩, turn⟩ := q D freeD
  generalize hso : ({ cls := .type "set", dict := none, data := .set #[] 0 (.fresh 0 0 (!X.w.params.followText "set-order")) } : Obj) = so
  have keepSo : ∀ b o, s2.heap.get? b = some o → (s2.heap.push so).get? b = some o := fun b o e => Heap.get?_push_of_some _ e
  have I3 : Inv X pins σ (upd H2 D (SetO X.w D (fun _ => false) 0)) { s2 with heap := s2.heap.push so } := by
    refine I2.laid (t' := s2.toks) keepSo (Nat.le_of_eq hD) ?_
    rw [← hD, ← hso]
    exact setO_new (setR_fresh X.w)
  generalize hs3 : ({ s2 with heap := s2.heap.push so } : Shared) = s3 at I3 ⊢
  have h3 : s3.heap = s2.heap.push so := by rw [← hs3]
  have below : ∀ b ∈ fp, b < s2.heap.objs.size := fun b hb => (T.obj _ _ st2 b hb).elim fun o e => Heap.lt_size e.1
  generalize hH3 : upd H2 D (SetO X.w D (fun _ => false) 0) = H3 at I3 w0 ⊢
  have f3 : ∀ b ∈ fp, FpOk X pins H3 b ∧ b < s3.heap.objs.size := fun b hb => by
    have lt := below b hb
    refine ⟨⟨?_, (f2 b hb).2⟩, by rw [h3, Heap.size_push]; exact Nat.lt_succ_of_lt lt⟩
    rw [← hH3, upd_ne (by rw [← hD]; exact Nat.ne_of_lt lt)]
    exact (f2 b hb).1
  have st3 : tn 0 s3.heap := T.keep _ _ _ st2 fun b _ o e => by rw [h3]; exact keepSo b o e
  have I4 := block_start I3 ok hN f3
  obtain ⟨pg, pt, pi1, pg1, pt1, pe⟩ := blk s3 H3 s3.heap.objs.size (cellsFrom (s3.heap.objs.size + 1) scope.names (cloFrom X.env.cells scope.names [])) fp
  show codeAny _ _ (.compStart (sc2 elt tg iter tg1 iter1 ifs ifs1 scope pos) 0 (.ref it) (.ref D) (compEnvC scope (cellsFrom (s3.heap.objs.size + 1) scope.names (cloFrom X.env.cells scope.names [])) s3.heap.objs.size X.env))
    (compPost (model X.prog X.w) X.A X.xe none (EP X pins σ Q) (.ref D) s3.heap.objs.size) { s3 with heap := pushCells (s3.heap.push { cls := .type "dict", data := .dict #[] }) scope.names }
  generalize hce : compEnvC scope (cellsFrom (s3.heap.objs.size + 1) scope.names (cloFrom X.env.cells scope.names [])) s3.heap.objs.size X.env = ce at I4 pg pt pi1 pg1 pt1 pe ⊢
  have locals : ce.locals = s3.heap.objs.size := by
    subst hce
    rfl
  generalize hs4 : ({ s3 with heap := pushCells (s3.heap.push { cls := .type "dict", data := .dict #[] }) scope.names } : Shared) = s4 at I4 ⊢
  have st4 : tn 0 s4.heap := T.keep _ _ _ st3 fun b _ o e => by
    rw [← hs4]
    exact pushCells_keeps _ _ _ _ (Heap.get?_push_of_some _ e)
  have clearOf : ∀ {H' : Hp}, H3 = H' → ∀ b ∈ fp, H' b = none := fun e b hb => by
    rw [← e]
    exact (f3 b hb).1.1
  -- a record of the outer walk, within the block
  have outer : ∀ {σ' : L2.St} {H' : Hp} {s' : Shared}, Inv (X.blk s3 H3 scope ce fp) [] σ' H' s' → (∀ b ∈ fp, H' b = none) → ∀ b ∈ fp, FpOk (X.blk s3 H3 scope ce fp) [] H' b := fun I' clear b hb =>
    ⟨clear b hb, (I'.ok.exf b hb).1, I'.ok.exfs b hb, .inl hb, fun x c e => (I'.ok.exf b hb).2 x c e, fun p hp => by simp at hp⟩
  -- what the outer loop keeps
  let Keep : Nat → Shared → Prop := fun n s' => ∃ i H', Inv (X.blk s3 H3 scope ce fp) [] (wipe σ (own.map (·.2))) H' s' ∧ tn i s'.heap ∧ (∀ b ∈ fp, H' b = none) ∧ W i n H'
  have loop : codeAny (model X.prog X.w) X.A (.compLoop (sc2 elt tg iter tg1 iter1 ifs ifs1 scope pos) 0 (.ref it) (.ref D) ce) (compPost (model X.prog X.w) X.A X.xe none (EP X pins σ Q) (.ref D) s3.heap.objs.size) s4 := by
    refine loop_outer (fold1 ce) Keep ?_ m0 ⟨0, H3, I4, st4, clearOf rfl, w0⟩
    rintro n s5 ⟨i, H5, I5, st5, n5, w5⟩
    rcases turn i n H5 w5 with ⟨stop, done⟩ | ⟨go, Nx, hNx, one⟩
    · refine thnF (T.done (X.blk s3 H3 scope ce fp) rfl rfl rfl hc i [] s5 _ H5 (fun _ _ => False) I5 (outer I5 n5) st5 stop) fun r s6 ⟨hr, I6⟩ => ?_
      subst hr
      have I7 : Inv X pins σ H5 s6 := I3.call' (ch := fp) I6.os I6.base I6.hok I6.bare fun b hb => by
        obtain ⟨⟨z1, z2, z3, z4, z5, z6⟩, _⟩ := f3 b hb
        exact ⟨z4, z2, z5, z6⟩
      have free5 : H5 s3.heap.objs.size = none := by
        have z : H5 ce.locals = none := I6.free
        rw [locals] at z
        exact z
      obtain ⟨m, hn, _⟩ := I6.loc
      have hn : s6.heap.Ns ce.locals m := hn
      rw [locals] at hn
      obtain ⟨y0, y1, y2, y3, y4, y5⟩ := I3.fpOk (Nat.le_refl _) free5
      refine ⟨m, hn, fun h'' sb => ?_⟩
      exact ⟨.ref D, H5, I7.turned (t' := s6.toks) (fun b o nb e => (sb.2 b nb).trans e) y0 y1 y3 y4 y5, rfl, done⟩
    · refine thnF (T.item (X.blk s3 H3 scope ce fp) rfl rfl rfl hc i [] s5 _ H5 (fun _ _ => False) I5 (outer I5 n5) st5 go) fun r s6 ⟨u, hr, h6⟩ => ?_
      subst hr
      refine thnF h6 fun _ s7 ⟨x, H7, I7, r7, y7, st7, n7⟩ => ?_
      refine thnF (pg.run _ s7 _ H7 x u _ (I7.pinned (outer I7 n7) (T.obj _ _ st7)) r7 (one x H7 y7)) fun _ s8 ⟨σ8, H8, I8, hw8, q8⟩ => ?_
      refine thnF (pt.run _ s8 σ8 H8 _ I8 q8) fun b s9 ⟨H9, I9, q9⟩ => ?_
      have len8 : (wipe σ (own.map (·.2))).length = σ8.length := by rw [← hw8, wipe_length]
      have know8 : ∀ (j : Nat) v, (wipe σ (own.map (·.2)))[j]? = some (some v) → σ8[j]? = some (some v) ∧ j ∉ own.map (·.2) := fun j v e => by
        rw [← hw8] at e
        exact wipe_some e
      -- the turn's end, from any slots that know what the block knew
      have fin : ∀ {σ9 : L2.St} {s' : Shared} {H' : Hp}, Inv (X.blk s3 H3 scope ce fp) ([] ++ pinsAt fp s7.heap) σ9 H' s' → (wipe σ (own.map (·.2))).length = σ9.length →
          (∀ (j : Nat) v, (wipe σ (own.map (·.2)))[j]? = some (some v) → σ9[j]? = some (some v)) → Nx H' → ∃ m, m < n ∧ Keep m s' := fun {σ9 s' H'} I' hl hk nx => by
        obtain ⟨m', lt, w'⟩ := hNx H' nx
        have pinned : ∀ b ∈ fp, ∀ o, s7.heap.get? b = some o → s'.heap.get? b = some o ∧ H' b = none := fun b hb o e => by
          have z := I'.pin (b, o) (List.mem_append_right _ (List.mem_append_right _ (mem_pinsAt hb e)))
          exact ⟨z.1, z.2.1⟩
        refine ⟨m', lt, i + 1, H', (I'.unpinned (pins := [])).weak hl hk, T.keep _ _ _ st7 fun b hb o e => (pinned b hb o e).1, fun b hb => ?_, w'⟩
        obtain ⟨o, e, _⟩ := T.obj _ _ st7 b hb
        exact (pinned b hb o e).2
      cases b with
      | false =>
        simp only [Bool.false_eq_true, if_false] at q9 ⊢
        exact fin I9 len8 (fun j v e => (know8 j v e).1) q9
      | true =>
        simp only [if_true] at q9 ⊢
        refine thnF (pi1.run _ s9 σ8 H9 _ I9 q9) fun xv s10 hx => thnF hx fun itv s11 h11 => ?_
        obtain ⟨it1, fp1, tn1, J1, H11, e1, I11, T1, st11, f11, W1, ⟨m1, w1⟩, turn1⟩ := h11
        subst e1
        have inner : ∀ {H' : Hp}, (∀ b ∈ fp1, H' b = none) → ∀ b ∈ fp1, FpOk (X.blk s3 H3 scope ce fp) ([] ++ pinsAt fp s7.heap) H' b := fun clear b hb => ⟨clear b hb, (f11 b hb).2⟩
        let Keep1 : Nat → Shared → Prop := fun k s' => ∃ j H', Inv (X.blk s3 H3 scope ce fp) ([] ++ pinsAt fp s7.heap) (wipe σ8 vs1) H' s' ∧ tn1 j s'.heap ∧ (∀ b ∈ fp1, H' b = none) ∧ W1 j k H'
        have loop1 : codeAny (model X.prog X.w) X.A (.compLoop (sc2 elt tg iter tg1 iter1 ifs ifs1 scope pos) 1 (.ref it1) (.ref D) ce) (fun r s' => (∃ fl, r = .ok fl) ∧ ∃ m, m < n ∧ Keep m s') s11 := by
          refine loop_inner Keep1 ?_ m1 ⟨0, H11, I11.weak (wipe_length _ _) (fun j v e => (wipe_some e).1), st11, fun b hb => (f11 b hb).1, w1⟩
          rintro k s12 ⟨j, H12, I12, st12, n12, w12⟩
          rcases turn1 j k H12 w12 with ⟨stop1, nx1⟩ | ⟨go1, Nx1, hNx1, one1⟩
          · refine thnF (T1.done (X.blk s3 H3 scope ce fp) rfl rfl rfl hc j _ s12 (wipe σ8 vs1) H12 (fun _ _ => False) I12 (inner n12) st12 stop1) fun r s13 ⟨hr, I13⟩ => ?_
            subst hr
            refine ⟨⟨_, rfl⟩, fin I13 (len8.trans (wipe_length σ8 vs1).symm) (fun j v e => ?_) nx1⟩
            obtain ⟨z1, z2⟩ := know8 j v e
            rw [wipe_out fun z => z2 (hv j z)]
            exact z1
          · refine thnF (T1.item (X.blk s3 H3 scope ce fp) rfl rfl rfl hc j _ s12 (wipe σ8 vs1) H12 (fun _ _ => False) I12 (inner n12) st12 go1) fun r s13 ⟨u1, hr, h13⟩ => ?_
            subst hr
            refine thnF h13 fun _ s14 ⟨x1, H14, I14, r14, y14, st14, n14⟩ => ?_
            refine thnF (pg1.run _ s14 (wipe σ8 vs1) H14 x1 u1 _ (I14.pinned (inner n14) (T1.obj _ _ st14)) r14 (one1 x1 H14 y14)) fun _ s15 ⟨σ15, H15, I15, hw15, q15⟩ => ?_
            refine thnF (pt1.run _ s15 σ15 H15 _ I15 q15) fun b1 s16 ⟨H16, I16, q16⟩ => ?_
            have fin1 : ∀ {s' : Shared} {H' : Hp}, Inv (X.blk s3 H3 scope ce fp) (([] ++ pinsAt fp s7.heap) ++ pinsAt fp1 s14.heap) σ15 H' s' → Nx1 H' → ∃ m, m < k ∧ Keep1 m s' := fun {s' H'} I' nx => by
              obtain ⟨m', lt, w'⟩ := hNx1 H' nx
              have pinned : ∀ b ∈ fp1, ∀ o, s14.heap.get? b = some o → s'.heap.get? b = some o ∧ H' b = none := fun b hb o e => by
                have z := I'.pin (b, o) (List.mem_append_right _ (List.mem_append_right _ (mem_pinsAt hb e)))
                exact ⟨z.1, z.2.1⟩
              refine ⟨m', lt, j + 1, H', I'.unpinned.weak (by rw [← hw15, wipe_length]) (fun j v e => by rw [← hw15] at e; exact (wipe_some e).1), T1.keep _ _ _ st14 fun b hb o e => (pinned b hb o e).1, fun b hb => ?_, w'⟩
              obtain ⟨o, e, _⟩ := T1.obj _ _ st14 b hb
              exact (pinned b hb o e).2
            cases b1 with
            | false =>
              simp only [Bool.false_eq_true, if_false] at q16 ⊢
              exact fin1 I16 q16
            | true =>
              simp only [if_true] at q16 ⊢
              refine thnF (pe.run _ s16 σ15 H16 _ I16 q16) fun z s17 ⟨yv, H17, I17, r17, ad⟩ => ?_
              exact thnF (add_in (X := X.blk s3 H3 scope ce fp) (Q := fun _ s' => ∃ m, m < k ∧ Keep1 m s') I17 r17 ad fun H' s18 I18 nx => fin1 I18 nx) fun _ _ z => z
        exact start_inner loop1 (T1.self X.A 0 _ _ _ st11 loop1)
  exact PpSet.codeAny_compStart_set loop (T.self X.A 0 _ _ _ st4 loop)
end
end EV
end L2

set_option Elab.async false
set_option linter.all false
set_option maxRecDepth 100000
set_option maxHeartbeats 4000000
/-! enumerate over a tuple. -/
namespace PySem
open Sem (wp)
open AutoSeq1 (wpAny_loadPart')
theorem meets_enumerate_newT (l : Addr) (items : Array Value) (n : Nat) (dct : Option Addr) (sl : Array (Option Value)) :
    Meets (Builtin.«enumerate.__new__» ⟨[.type "enumerate", .ref l], []⟩) (fun _ R s => s.heap.get? l = some { cls := .type "tuple", dict := dct, data := .seq items n, slots := sl } ∧
      R (.ok (.ret (.ref (s.heap.push { cls := .type "tuple_iterator", data := .fields #[.ref l, .int 0 0] }).objs.size)))
        { s with heap := (s.heap.push { cls := .type "tuple_iterator", data := .fields #[.ref l, .int 0 0] }).push { cls := .type "enumerate", data := .fields #[.none, .bool false, .ref s.heap.objs.size, rawInt 0, .none, .none] } }) :=
  .of_wp fun prog w A R s h => by
    obtain ⟨hp, g, d, tk, os⟩ := s; obtain ⟨hl, h⟩ := h
    have hsub := sub_enumerate
    have hL : Heap.IsTuple (Shared.heap ⟨hp, g, d, tk, os⟩) l items := ⟨_, hl, rfl, n, rfl⟩
    wp_walk using wpAny_loadPart' hl
    refine wpAny_stack_any fun st => wpAny_pure ?_
    split
    · rename_i c _ _ _ _ _
      cases (c == Value.type "enumerate")
      · wp_walk using wpAny_loadPart' hl, wpAny_pyIter_tuple hL
        exact ⟨_, rfl, h⟩
      · wp_walk using wpAny_loadPart' hl, wpAny_pyIter_tuple hL
        exact ⟨_, rfl, h⟩
    · wp_walk using wpAny_loadPart' hl, wpAny_pyIter_tuple hL
      exact ⟨_, rfl, h⟩
section
variable {prog : Program} {w : World} {A : Around} {E : Value → Shared → Prop} {s : Shared}
theorem call_enumerate_tuple {l : Addr} {items : Array Value} {Q : Value → Shared → Prop} (hL : s.heap.IsTuple l items)
    (h : ∀ h', IsEnum h' (s.heap.objs.size + 1) s.heap.objs.size 0 .none → h'.IsTupleIter s.heap.objs.size l 0 → h'.objs.size = s.heap.objs.size + 2 →
      (∀ b o, s.heap.get? b = some o → h'.get? b = some o) → Q (.ref (s.heap.objs.size + 1)) { s with heap := h' }) :
    wpAny (model prog w) A (call (.type "enumerate") [.ref l]) Q E s := by
  obtain ⟨⟨c, dct, dt, sl⟩, hl, hc, n, hd⟩ := hL
  replace hc : c = .type "tuple" := hc
  replace hd : dt = .seq items n := hd
  subst hc hd
  refine callType_new F.called_enumerate (by decide) (F.typeCall_enumerate_1 _) (F.newCall_enumerate_1 _) (fun obj => F.args_object_init_2 obj _) F.entry_enumerate_new
    (meets_enumerate_newT l items n dct sl) ⟨hl, ?_⟩
  have hz : (s.heap.push { cls := .type "tuple_iterator", data := .fields #[.ref l, .int 0 0] }).objs.size = s.heap.objs.size + 1 := Heap.size_push ..
  show _ ∧ _
  rw [hz]
  have he : IsEnum ((s.heap.push { cls := .type "tuple_iterator", data := .fields #[.ref l, .int 0 0] }).push
      { cls := .type "enumerate", data := .fields #[.none, .bool false, .ref s.heap.objs.size, rawInt 0, .none, .none] }) (s.heap.objs.size + 1) s.heap.objs.size 0 .none := by
    have := Heap.get?_push_size (s.heap.push { cls := .type "tuple_iterator", data := .fields #[.ref l, .int 0 0] })
      (o := { cls := .type "enumerate", data := .fields #[.none, .bool false, .ref s.heap.objs.size, rawInt 0, .none, .none] }) rfl
    rw [hz] at this; exact this
  refine ⟨⟨_, he, rfl⟩, h _ he ⟨_, Heap.get?_push_of_some _ (Heap.get?_push_size _ rfl), rfl, rfl⟩ (by rw [Heap.size_push, hz]) fun b o x => Heap.get?_push_of_some _ (Heap.get?_push_of_some _ x)⟩
end
end PySem
namespace L2
open PySem PySem.Spec PyProof.Rows
def IteT (K : PySem.W.Frag) (a : Addr) : It :=
  ⟨fun i H => ∃ (xs : List V) (x : V), SqT K H a xs ∧ xs[i]? = some x, fun i H v H' => ∃ T x, v = .ref T ∧ H T = none ∧ H' = upd H T (.tup [.int (i : Nat), x]) ∧ ∀ xs, SqT K H a xs → xs[i]? = some x, fun i H => ∃ xs : List V, SqT K H a xs ∧ xs.length = i⟩
theorem turn_enumT {P : Program} {w : World} {K : PySem.W.Frag} {elts : List Expr} {kk : Nat} {tpos : Pos} (a e it : Addr) (hai : a ≠ it) (hae : a ≠ e) :
    Turn P w K (.Tuple elts kk tpos) (IteT K a) [e, it] e (fun i h => (∃ old, IsEnum h e it ((i : Nat) : Int) old) ∧ h.IsTupleIter it a i ∧ e ≠ it) where
  mem := by simp
  obj := fun i h st b hb => by
    obtain ⟨⟨old, he⟩, ⟨o, ho, hc, hd⟩, _⟩ := st
    have e' : b = e ∨ b = it := by simpa using hb
    rcases e' with z | z
    · rw [z]; exact ⟨_, he, fun v q => nomatch q⟩
    · rw [z]; exact ⟨o, ho, fun v q => by rw [hd] at q; cases q⟩
  keep := fun i h h' st k => let ⟨⟨old, he⟩, hi, hne⟩ := st; ⟨⟨old, k e (by simp) _ he⟩, hi.at fun o q => k it (by simp) o q, hne⟩
  item := by
    intro X hP hw hK hc i pins s σ H E I hf st hg
    subst hP hw hK
    obtain ⟨⟨old, he⟩, hit, hne⟩ := st
    obtain ⟨xs, x, hq, hx⟩ := hg
    obtain ⟨its, rv, p, hz⟩ := I.tuple hq
    obtain ⟨u, hu, ru⟩ := rv.get hx
    have hel : e < s.heap.objs.size := Heap.lt_size he
    have hil : it < s.heap.objs.size := by obtain ⟨_, q, _⟩ := hit; exact Heap.lt_size q
    have hlt : i < its.toArray.size := by
      have := (List.getElem?_eq_some_iff.mp hu).1
      simpa using this
    refine wpAny_pyNext_enum_itemD (Draws.tuple (A := X.A.in1) (show X.A.in1.handled = none from I.ok.hd hc) it a hai its.toArray) he ⟨hit, show s.heap.IsTuple a its.toArray from p⟩ hlt hne (by simp [hne, Ne.symm hae]) fun u' h' tk hu' ho st' hT hsz hk => ?_
    have e0 : u' = u := by
      have q1 : its[i]? = some u' := by simpa using hu'
      rw [hu] at q1
      exact (Option.some.inj q1).symm
    subst e0
    obtain ⟨hit', _⟩ := st'
    refine ⟨_, rfl, wpAny_letOwnedTupleGo_enum (s := { s with heap := h', toks := tk + 1 }) ho fun h'' he' sb => ?_⟩
    have hT2 : h''.get? s.heap.objs.size = some { cls := .type "tuple", data := .seq #[.int i tk, u'] } := (sb.2 _ (Nat.ne_of_gt hel)).trans hT
    have new : ObjOk X.prog X.w (upd H s.heap.objs.size (.tup [.int (i : Nat), x])) h'' s.heap.objs.size (.tup [.int (i : Nat), x]) :=
      ⟨by show 2 ≤ sizeLine; decide, [.int i tk, u'], .cons ⟨_, rfl⟩ (.cons ru .nil), ⟨_, hT2, rfl, _, rfl⟩⟩
    have I1 : Inv X pins σ (upd H s.heap.objs.size (.tup [.int (i : Nat), x])) { s with heap := h'', toks := tk + 1 } :=
      I.turnedNew (ch := [e, it]) (fun b ob hb q => (sb.2 b (fun z => hb (by simp [z]))).trans (hk b ob (fun z => hb (by simp [z])) (fun z => hb (by simp [z])) q)) hf (Nat.le_refl _) new
    refine ⟨.ref s.heap.objs.size, _, I1, rfl, ⟨_, x, rfl, I.hok.fresh (Nat.le_refl _), rfl, fun ys hy => by rw [I.tuple_inj hy hq]; exact hx⟩, ⟨⟨u', ?_⟩, hit'.at fun o q => (sb.2 it (Ne.symm hne)).trans q, hne⟩, fun b hb => ?_⟩
    · have e1 : ((i + 1 : Nat) : Int) = (i : Int) + 1 := by omega
      rw [e1]; exact he'
    · have hb' : b < s.heap.objs.size := by
        have e' : b = e ∨ b = it := by simpa using hb
        rcases e' with z | z
        · rw [z]; exact hel
        · rw [z]; exact hil
      rw [upd_ne (Nat.ne_of_lt hb')]
      exact (hf b hb).1
  done := by
    intro X hP hw hK hc i pins s σ H E I hf st hg
    subst hP hw hK
    obtain ⟨⟨old, he⟩, hit, hne⟩ := st
    obtain ⟨xs, hq, hx⟩ := hg
    obtain ⟨its, rv, p, hz⟩ := I.tuple hq
    obtain ⟨f0, f1, f2, f3, f4, f5⟩ := hf it (by simp)
    have hl := rv.length
    have hn : its.toArray.size = i := by simp; omega
    exact wpAny_pyNext_enum_endD (Draws.tuple (A := X.A.in1) (show X.A.in1.handled = none from I.ok.hd hc) it a hai its.toArray) he ⟨hn.symm ▸ hit, show s.heap.IsTuple a its.toArray from p⟩ fun h' eb => ⟨rfl, I.turned (t' := s.toks) (fun b o hb q => eb b o hb q) f0 f1 f3 f4 f5⟩
  self := fun A i s Q E st h => let ⟨⟨_, he⟩, _⟩ := st; wpAny_pyIter_enum he h
def iEnumT (K : PySem.W.Frag) (ta : TA) : TI := fun σ H R => ta σ H fun vs H1 => ∃ a xs, vs = [.ref a] ∧ SqT K H1 a xs ∧ R (IteT K a) H1
theorem pi_enumT {X : Cx} {e : Expr} {ta : TA} {p pos tpos : Pos} {elts : List Expr} {kk : Nat} (hg : Gl X "enumerate") (hm : X.mg "enumerate" = none) (ha : PA X [e] ta) (hs : starEach [e] X.env = [(false, eval e X.env)] := by rfl) :
    PI X (.Tuple elts kk tpos) (.Call (.Name "enumerate" p) [e] [] pos) (iEnumT X.K ta) := by
  refine ⟨fun pins s σ H R I h => ?_⟩
  refine Call_ (ld_blt I hg hm boot_enumerate (PyProof.Rows.callWith_type1 (thn (ha.run pos pins s σ H _ I h) fun us s1 ⟨vs, H1, I1, r1, q1⟩ => ?_) hs rfl))
  obtain ⟨a, xs, ex, hq, q⟩ := q1
  subst ex
  cases r1 with
  | cons r rr =>
    cases rr
    cases r
    obtain ⟨its, rv, p', hz⟩ := I1.tuple hq
    have hal : a < s1.heap.objs.size := by
      obtain ⟨o, q, _⟩ := id p'
      exact Heap.lt_size q
    refine call_enumerate_tuple (show s1.heap.IsTuple a its.toArray from p') fun h' he hit hsz hk => wpAny_pyIter_enum he ?_
    have I2 : Inv X pins σ H1 { s1 with heap := h' } := I1.kept (t' := s1.toks) hk
    refine ⟨s1.heap.objs.size + 1, [s1.heap.objs.size + 1, s1.heap.objs.size], _, _, H1, rfl, I2, turn_enumT a (s1.heap.objs.size + 1) s1.heap.objs.size (Nat.ne_of_lt hal) (Nat.ne_of_lt (Nat.lt_succ_of_lt hal)), ⟨⟨.none, he⟩, hit, Nat.succ_ne_self _⟩, fun b hb => ?_, q⟩
    have e' : b = s1.heap.objs.size + 1 ∨ b = s1.heap.objs.size := by simpa using hb
    have hle : s1.heap.objs.size ≤ b := by
      rcases e' with z | z
      · rw [z]; exact Nat.le_add_right _ _
      · rw [z]; exact Nat.le_refl _
    exact I1.fpOk hle (I1.hok.fresh hle)
theorem walk_enumT {K : PySem.W.Frag} {a : Addr} {xs : List V} : Walk (IteT K a) xs.length (fun H => SqT K H a xs) (YPair (fun i => some (.int (i : Nat))) (fun i => xs[i]?)) := by
  refine ⟨fun i _ hi q => ⟨xs, xs[i], q, by simp [hi]⟩, fun _ q => ⟨xs, q, rfl⟩, fun i H v H' _ q y => ?_⟩
  obtain ⟨T, x, h1, h2, h3, h4⟩ := y
  exact ⟨T, .int (i : Nat), x, h1, h2, h3, rfl, h4 xs q⟩
end L2

set_option Elab.async false
set_option linter.all false
set_option maxRecDepth 100000
set_option maxHeartbeats 4000000
/-! Framings; listed_standings. -/
namespace K04
open PySem L2 L2.EV
abbrev sListed : Stmt := top 12
/-- a framing at f -/
def FrA (H : Hp) (f : Addr) (fr : List T3) : Prop := ∃ ts : List Addr, H f = some (.tup (ts.map V.ref)) ∧ ts.length = fr.length ∧ ∀ (i : Nat) t x, ts[i]? = some t → fr[i]? = some x → S3 H t x
theorem FrA.same {H H' : Hp} {f : Addr} {fr : List T3} (h : FrA H f fr) (s : Same H H') : FrA H' f fr := by
  obtain ⟨ts, e, l, c⟩ := h
  exact ⟨ts, s _ _ e, l, fun i t x h1 h2 => s _ _ (c i t x h1 h2)⟩
structure Frm (fr : List T3) (last : Nat) : Prop where
  l0 : 1 ≤ fr.length
  l1 : fr.length ≤ 16
  stp : ∀ x ∈ fr, Stp x
  srt : fr.Pairwise (fun x y => lt3 x y = true)
  up : ∀ k : Nat, 1 ≤ k → k ≤ last → ∃ x ∈ fr, x.2.2 = (k : Int) ∧ 0 ≤ x.1 ∧ x.1 < k
  dn : ∀ k : Nat, k ≤ last → ∃ x ∈ fr, x.1 = (k : Int) ∧ (x.2.2 = 0 ∨ ((k : Int) < x.2.2 ∧ x.2.2 ≤ last))
  lo : ∀ x ∈ fr, x.1 ≤ last ∧ x.2.2 ≤ last
  l5 : last ≤ 5
/-- a framing's bounds -/
structure Fb (fr : List T3) (last : Nat) : Prop where
  l1 : fr.length ≤ 16
  lo : ∀ x ∈ fr, 0 ≤ x.1 ∧ x.1 ≤ last ∧ 0 ≤ x.2.2 ∧ x.2.2 ≤ last
  l5 : last ≤ 5
/-- what is closed under the steps, from b on, holds all standings -/
theorem Frm.all {fr : List T3} {last : Nat} (F : Frm fr last) {S : Int → Prop} {b : Nat} (hb : b ≤ last) (c0 : ∀ x ∈ fr, x.1 = (b : Int) → S x.2.2) (c : ∀ x ∈ fr, S x.1 → S x.2.2) : ∀ k : Nat, k ≤ last → S k := by
  have go : ∀ n k : Nat, last - k ≤ n → k ≤ last → (k = b ∨ S (k : Int)) → S 0 := by
    intro n
    induction n with
    | zero =>
      intro k h hk z
      obtain ⟨x, hx, e1, e2⟩ := F.dn k hk
      have e3 : S x.2.2 := by
        rcases z with z | z
        · subst z
          exact c0 x hx e1
        · exact c x hx (by rw [e1]; exact z)
      rcases e2 with e2 | ⟨e2, e4⟩
      · rw [← e2]
        exact e3
      · omega
    | succ n ih =>
      intro k h hk z
      obtain ⟨x, hx, e1, e2⟩ := F.dn k hk
      have e3 : S x.2.2 := by
        rcases z with z | z
        · subst z
          exact c0 x hx e1
        · exact c x hx (by rw [e1]; exact z)
      rcases e2 with e2 | ⟨e2, e4⟩
      · rw [← e2]
        exact e3
      · obtain ⟨j, hj⟩ := Int.eq_ofNat_of_zero_le (show 0 ≤ x.2.2 by omega)
        rw [hj] at e2 e3 e4
        exact ih j (by omega) (by omega) (.inr e3)
  have s0 : S 0 := go (last - b) b (Nat.le_refl _) hb (.inl rfl)
  have al : ∀ n k : Nat, k ≤ n → k ≤ last → S (k : Int) := by
    intro n
    induction n with
    | zero =>
      intro k h _
      obtain rfl : k = 0 := by omega
      exact s0
    | succ n ih =>
      intro k h hk
      by_cases z : k = 0
      · subst z
        exact s0
      · obtain ⟨x, hx, e1, e2, e3⟩ := F.up k (by omega) hk
        rw [← e1]
        obtain ⟨j, hj⟩ := Int.eq_ofNat_of_zero_le e2
        exact c x hx (by
          rw [hj]
          exact ih j (by omega) (by omega))
  exact fun k hk => al k k (Nat.le_refl _) hk
theorem sc_it {J : It} {n : Nat} {G : Hp → Prop} {Y : Nat → Hp → V → Hp → Prop} (w : Walk J n G Y) {H0 : Hp} {Qd : Hp → Prop} {body : V → Hp → (Hp → Prop) → Prop} (Pv : Nat → Hp → Prop) (h0 : Pv 0 H0) (hG : ∀ i H, i ≤ n → Pv i H → G H)
    (hs : ∀ i x H H', i < n → Pv i H → Y i H x H' → body x H' (Pv (i + 1))) (hd : ∀ H, Pv n H → Qd H) :
    ∃ W : Nat → Nat → Hp → Prop, (∃ m, W 0 m H0) ∧ ∀ i m H, W i m H → (J.stop i H ∧ Qd H) ∨ (J.go i H ∧ ∃ Nx : Hp → Prop, (∀ H', Nx H' → ∃ m', m' < m ∧ W (i + 1) m' H') ∧ ∀ x H', J.yld i H x H' → body x H' Nx) := by
  refine ⟨fun i m H => m = n - i ∧ i ≤ n ∧ Pv i H, ⟨n, by simp, Nat.zero_le _, h0⟩, ?_⟩
  rintro i m H ⟨rfl, hi, p⟩
  have q := hG i H hi p
  by_cases hlt : i < n
  · exact .inr ⟨w.goes i H hlt q, Pv (i + 1), fun H' p' => ⟨n - (i + 1), by omega, rfl, hlt, p'⟩, fun x H' y => hs i x H H' hlt p (w.yields i H x H' hlt q y)⟩
  · have e : i = n := by omega
    subst e
    exact .inl ⟨w.stops H q, hd H p⟩
theorem at_step {H : Hp} {ts : List Addr} {fr : List T3} {i : Nat} {x : V} (hl : ts.length = fr.length) (ht : ∀ (i : Nat) t x, ts[i]? = some t → fr[i]? = some x → S3 H t x) (hx : (ts.map V.ref)[i]? = some x) :
    ∃ t y, fr[i]? = some y ∧ x = .ref t ∧ S3 H t y := by
  rw [List.getElem?_map] at hx
  cases e : ts[i]? with
  | none =>
    rw [e] at hx
    cases hx
  | some t =>
    rw [e] at hx
    have il : i < fr.length := by
      have := (List.getElem?_eq_some_iff.mp e).1
      omega
    exact ⟨t, fr[i], List.getElem?_eq_getElem il, (Option.some.inj hx).symm, ht i t _ e (List.getElem?_eq_getElem il)⟩
/-- listed_standings(framing): a new list of numbers up to last -/
def spListed : Sp := fun vs H Q _ => ∃ (f : Addr) (fr : List T3) (last : Nat), vs = [.ref f] ∧ FrA H f fr ∧ Fb fr last ∧
  ∀ (H' : Hp) (p : Addr) (ns : List Int), Same H H' → H p = none → H' p = some (.lst (ns.map V.int)) → ns.length ≤ 32 → (∀ k ∈ ns, 0 ≤ k ∧ k ≤ last) → (∀ x ∈ fr, x.1 ∈ ns ∧ x.2.2 ∈ ns) → Q (.ref p) H'
theorem pe_sc2s {X : Cx} {elt tg iter tg1 iter1 : Expr} {ifs ifs1 : List Expr} {scope : Scope} {own : List (Str × Nat)} {vs1 : List Nat} {pos : Pos} {wi wi1 : TI} {g g1 : TG} {tt tt1 : TT} {te : TE} (hc : X.calm = true) (hN : X.N.Nodup) (hi : PI X tg iter wi) (ok : BlkOk X.N X.env.scope scope own) (hv : ∀ i ∈ vs1, i ∈ own.map (·.2))
    (b1 : ∀ (s : Shared) (H : Hp) (C : Addr) (cl : List (Str × Addr)) (fp : List Addr), PG (X.blk s H scope (compEnvC scope cl C X.env) fp) tg g)
    (b2 : ∀ (s : Shared) (H : Hp) (C : Addr) (cl : List (Str × Addr)) (fp : List Addr), PTs (X.blk s H scope (compEnvC scope cl C X.env) fp) ifs tt)
    (b3 : ∀ (s : Shared) (H : Hp) (C : Addr) (cl : List (Str × Addr)) (fp : List Addr), PI (X.blk s H scope (compEnvC scope cl C X.env) fp) tg1 iter1 wi1)
    (b4 : ∀ (s : Shared) (H : Hp) (C : Addr) (cl : List (Str × Addr)) (fp : List Addr), PG (X.blk s H scope (compEnvC scope cl C X.env) fp) tg1 g1)
    (b5 : ∀ (s : Shared) (H : Hp) (C : Addr) (cl : List (Str × Addr)) (fp : List Addr), PTs (X.blk s H scope (compEnvC scope cl C X.env) fp) ifs1 tt1)
    (b6 : ∀ (s : Shared) (H : Hp) (C : Addr) (cl : List (Str × Addr)) (fp : List Addr), PE (X.blk s H scope (compEnvC scope cl C X.env) fp) elt te)
    (fold : ∀ x, foldedSetIterable iter X.env x = pure x := by intro _; rfl) (fold1 : ∀ env x, foldedSetIterable iter1 env x = pure x := by intro _ _; rfl) :
    PE X (.SetComp elt [⟨tg, iter, ifs, 0⟩, ⟨tg1, iter1, ifs1, 0⟩] scope pos) (tSc2 X.w wi g tt wi1 g1 tt1 te (own.map (·.2)) vs1) :=
  pe_sc2 hc hN hi ok hv (fun s H C cl fp => ⟨b1 s H C cl fp, b2 s H C cl fp, b3 s H C cl fp, b4 s H C cl fp, b5 s H C cl fp, b6 s H C cl fp⟩) fold fold1
theorem same_set {D : Addr} {H H' : Hp} {o : HO} (hD : H D = none) (k : Same H H') : Same H (upd H' D o) := fun b u e => by
  rw [upd_ne (ne_of_none e hD)]
  exact k _ _ e
theorem scan64 : 64 < scanBound := by decide +kernel
section
variable {P : Program} {w : World} {K : PySem.W.Frag} {mg : Str → Option Value} {base : Heap}
theorem scListed : FnScope ["framing", "start", "piece", "goal", "standing"] ["framing"] (defScope sListed) := ⟨rfl, rfl, rfl, by decide +kernel, rfl, by decide +kernel, by decide +kernel⟩
theorem ok_listed {f : Addr} {fd : FuncData} (F : Fun K "listed_standings" "listed_standings" sListed f fd) (hs : mg "sorted" = none) : FnOk P w K mg base CX0 1 f fd ["framing"] spListed := by
  refine F.ok scListed (fun vs H Q E h => ?_) (fun cdv A outer s H vs Q E hr h => ?_)
  · obtain ⟨f, fr, last, rfl, _⟩ := h
    rfl
  · obtain ⟨f, fr, last, rfl, fa, fm, q⟩ := h
    refine ⟨_, pss_one (ps_ret (pe_callB (cr_sortedSet rfl) (by rfl) hs (by decide +kernel) (pa_cons (pe_sc2s (g := gTup K 3 (gCons (gName 1) (gCons (gName 2) (gCons (gName 3) gNil)))) (tt := tYes) (wi1 := iTup K (tTup (tCons (tVar 1) (tCons (tVar 3) tNil)))) (g1 := gName 4) (tt1 := tYes) (te := tVar 4) (own := [("start", 1), ("piece", 2), ("goal", 3), ("standing", 4)]) (vs1 := [4]) rfl scListed.nd (pi_tup (pv 0))
      (blkOk_by (N := ["framing", "start", "piece", "goal", "standing"]) (sc := defScope sListed) (by decide +kernel)) (by decide)
      (fun _ _ _ _ _ => pg_tup rfl (pgs_cons (pg_name (i := 1) scListed.nd rfl (Or.inl rfl)) (pgs_cons (pg_name (i := 2) scListed.nd rfl (Or.inl rfl)) (pgs_cons (pg_name (i := 3) scListed.nd rfl (Or.inl rfl)) pgs_nil)))) (fun _ _ _ _ _ => pts_nil)
      (fun _ _ _ _ _ => pi_tup (pe_tup (pa_cons (pv 1) (pa_cons (pv 3) pa_nil)))) (fun _ _ _ _ _ => pg_name (i := 4) scListed.nd rfl (Or.inl rfl)) (fun _ _ _ _ _ => pts_nil) (fun _ _ _ _ _ => pv 4)) pa_nil))), ?_⟩
    obtain ⟨ts, hf, hl, ht⟩ := id fa
    refine ⟨_, rfl, f, rfl, ⟨_, SqT.of hf⟩, fun D hD => ?_⟩
    refine sc_it (walk_tup (xs := ts.map V.ref)) (fun i H' => Same H H' ∧ ∃ (S : Int → Bool) (n : Nat), H' D = some (SetO w D S n) ∧ n ≤ 2 * i ∧ (∀ k, S k = true → 0 ≤ k ∧ k ≤ last) ∧ ∀ x ∈ fr.take i, S x.1 = true ∧ S x.2.2 = true)
      ⟨same_upd hD, _, _, upd_same, Nat.le_refl _, (fun k z => by cases z), fun x z => by cases z⟩ (fun i H' _ z => SqT.of (z.1 _ _ hf)) ?_ ?_
    · rintro i x H1 H2 hi ⟨sm, S, n, hS, hn, hk, hall⟩ ⟨rfl, hx⟩
      obtain ⟨t, y, hy, rfl, e3⟩ := at_step (i := i) hl ht hx
      have e4 : H2 t = _ := sm _ _ e3
      obtain ⟨b1, b5, b3, b6⟩ := fm.lo y (List.mem_of_getElem? hy)
      refine ⟨t, _, rfl, SqT.of e4, rfl, _, _, rfl, _, _, rfl, _, _, rfl, rfl, rfl, ?_⟩
      refine ⟨_, rfl, _, rfl, (by show 2 ≤ sizeLine; decide), fun p hp => ⟨p, rfl, ⟨_, SqT.of upd_same⟩, ?_⟩⟩
      refine sc_it (walk_tup (xs := [V.int y.1, V.int y.2.2])) (fun j H' => Same H H' ∧ H' p = some (.tup [V.int y.1, V.int y.2.2]) ∧ ∃ (S : Int → Bool) (n : Nat), H' D = some (SetO w D S n) ∧ n ≤ 2 * i + j ∧ (∀ k, S k = true → 0 ≤ k ∧ k ≤ last) ∧ (∀ x ∈ fr.take i, S x.1 = true ∧ S x.2.2 = true) ∧ (0 < j → S y.1 = true) ∧ (1 < j → S y.2.2 = true))
        ⟨fun b u e => same_upd hp _ _ (sm _ _ e), upd_same, S, n, by rw [upd_ne (ne_of_none hS hp)]; exact hS, hn, hk, hall, (fun z => absurd z (by omega)), fun z => absurd z (by omega)⟩ (fun j H' _ z => SqT.of z.2.1) ?_ ?_
      · rintro j x H2 H3 hj ⟨sm2, hp2, S2, n2, hS2, hn2, hk2, ha2, hy1, hy2⟩ ⟨rfl, hx2⟩
        have hj2 : j < 2 := hj
        obtain ⟨k, rfl, k0, k1, kj0, kj1⟩ : ∃ k : Int, x = .int k ∧ 0 ≤ k ∧ k ≤ last ∧ (j = 0 → k = y.1) ∧ (j = 1 → k = y.2.2) := by
          match j, hj2 with
          | 0, _ => exact ⟨y.1, (Option.some.inj hx2).symm, b1, b5, fun _ => rfl, fun z => by cases z⟩
          | 1, _ => exact ⟨y.2.2, (Option.some.inj hx2).symm, b3, b6, (fun z => by cases z), fun _ => rfl⟩
        have sc := scan64
        have l1 := fm.l1
        have hi2 : i < fr.length := (List.getElem?_eq_some_iff.mp hy).1
        refine ⟨rfl, _, rfl, k, S2, n2, rfl, hS2, by omega, same_set hD sm2, ?_, _, _, upd_same, ?_, (fun k2 z => ?_), (fun x2 z2 => ?_), (fun z2 => ?_), fun z2 => ?_⟩
        · rw [upd_ne (ne_of hp2 hS2 (fun z => by cases z))]
          exact hp2
        · split <;> omega
        · rw [Bool.or_eq_true] at z
          rcases z with z | z
          · exact hk2 k2 z
          · have e5 : k2 = k := of_decide_eq_true z
            rw [e5]
            exact ⟨k0, k1⟩
        · obtain ⟨c1, c2⟩ := ha2 x2 z2
          exact ⟨by rw [c1, Bool.true_or], by rw [c2, Bool.true_or]⟩
        · by_cases c : j = 0
          · rw [kj0 c, decide_eq_true rfl, Bool.or_true]
          · rw [hy1 (by omega), Bool.true_or]
        · have c : j = 1 := by omega
          rw [kj1 c, decide_eq_true rfl, Bool.or_true]
      · rintro H2 ⟨sm2, hp2, S2, n2, hS2, hn2, hk2, ha2, hy1, hy2⟩
        refine ⟨sm2, S2, n2, hS2, ?_, hk2, fun x2 z2 => ?_⟩
        · have hn3 : n2 ≤ 2 * i + 2 := hn2
          omega
        · have il := (List.getElem?_eq_some_iff.mp hy).1
          rw [List.take_succ, hy] at z2
          rcases List.mem_append.mp z2 with z2 | z2
          · exact ha2 x2 z2
          · have e9 : x2 = y := by simpa using z2
            rw [e9]
            exact ⟨hy1 (by simp), hy2 (by simp)⟩
    · rintro H1 ⟨sm, S, n, hS, hn, hk, hall⟩
      refine ⟨D, S, n, rfl, hS, ?_, fun ns p _ h2 h3 h4 => ?_⟩
      · have := fm.l1
        simp only [List.length_map] at hn
        omega
      · refine q _ p ns ?_ ?_ upd_same ?_ ?_ ?_
        · exact fun b u e => by
            rw [upd_ne (ne_of_none (sm _ _ e) h4)]
            exact sm _ _ e
        · exact sm.free h4
        · have := fm.l1
          simp only [List.length_map] at hn
          omega
        · exact fun k z => hk k ((h2 k).mp z)
        · intro x hx
          have e9 : fr.take (ts.map V.ref).length = fr := by rw [List.length_map, hl, List.take_length]
          rw [e9] at hall
          exact ⟨(h2 _).mpr (hall x hx).1, (h2 _).mpr (hall x hx).2⟩
end
end K04

set_option Elab.async false
set_option linter.all false
set_option maxRecDepth 100000
set_option maxHeartbeats 4000000
/-! ways_from: all standings are found. -/
namespace K04
open PySem L2 L2.EV
abbrev sWays : Stmt := top 13
abbrev has (kvs : List (Key × V)) (g : Int) : Bool := (valV kvs (Sum.inl g : Key)).isSome
/-- ways_from(framing, b): a new dict that has all standings -/
def spWays : Sp := fun vs H Q _ => ∃ (f : Addr) (fr : List T3) (last b : Nat) (S : Int → Prop), vs = [.ref f, .int b] ∧ FrA H f fr ∧ Fb fr last ∧ b ≤ last ∧ (∀ x ∈ fr, x.1 = (b : Int) → S x.2.2) ∧ (∀ x ∈ fr, S x.1 → S x.2.2) ∧
  ∀ (H' : Hp) (d : Addr) (kvs : List (Key × V)), Same H H' → H d = none → H' d = some (.dK kvs) → (∀ x ∈ fr, (x.1 = (b : Int) ∨ has kvs x.1 = true) → has kvs x.2.2 = true) → (∀ g : Int, has kvs g = true → S g) → Q (.ref d) H'
/-- the standings up to last that are not found -/
def miss (last : Nat) (kvs : List (Key × V)) : Nat := ((List.range (last + 1)).filter fun k : Nat => !has kvs k).length
theorem miss_le {last : Nat} {kvs : List (Key × V)} : miss last kvs ≤ last + 1 := by
  have := List.length_filter_le (fun k : Nat => !has kvs k) (List.range (last + 1))
  rw [List.length_range] at this
  exact this
theorem filt_lt {α : Type} {p q : α → Bool} : ∀ {l : List α} {a : α}, a ∈ l → p a = true → q a = false → (∀ x, q x = true → p x = true) → (l.filter q).length < (l.filter p).length
  | x :: l, a, hm, hp, hq, h => by
    have le : ∀ m : List α, (m.filter q).length ≤ (m.filter p).length := fun m => by
      induction m with
      | nil => exact Nat.le_refl _
      | cons y m ih =>
        rw [List.filter_cons, List.filter_cons]
        by_cases z : q y = true
        · rw [if_pos z, if_pos (h y z), List.length_cons, List.length_cons]
          omega
        · rw [if_neg z]
          split
          · rw [List.length_cons]
            omega
          · exact ih
    rw [List.filter_cons, List.filter_cons]
    rcases List.mem_cons.mp hm with z | z
    · subst z
      rw [if_pos hp, if_neg (by rw [hq]; simp), List.length_cons]
      have := le l
      omega
    · have ih := filt_lt z hp hq h
      by_cases y : q x = true
      · rw [if_pos y, if_pos (h x y), List.length_cons, List.length_cons]
        omega
      · rw [if_neg y]
        split
        · rw [List.length_cons]
          omega
        · exact ih
theorem has_put {kvs : List (Key × V)} {g k : Int} {v : V} : has (putK kvs (Sum.inl g) v) k = (decide (k = g) || has kvs k) := by
  unfold has
  rw [valV_put]
  by_cases e : k = g
  · subst e
    rw [if_pos rfl, decide_eq_true rfl]
    rfl
  · rw [if_neg (fun z => e (Sum.inl.inj z)), decide_eq_false e, Bool.false_or]
theorem miss_put {last : Nat} {kvs : List (Key × V)} {g : Int} {v : V} (h0 : 0 ≤ g) (h1 : g ≤ last) (n : has kvs g = false) : miss last (putK kvs (Sum.inl g) v) < miss last kvs := by
  obtain ⟨a, rfl⟩ := Int.eq_ofNat_of_zero_le h0
  refine filt_lt (a := a) (List.mem_range.mpr (by omega)) (by simp only [n, Bool.not_false]) ?_ ?_
  · rw [has_put, decide_eq_true rfl]
    rfl
  · intro x hx
    rw [has_put] at hx
    cases z : has kvs x with
    | false => rfl
    | true =>
      rw [z] at hx
      simp at hx
/-- the rows: tuples of a way and a standing -/
def Rows (H : Hp) (last n : Nat) (ps : List (Addr × Int)) : Prop := ∀ q ∈ ps, 0 ≤ q.2 ∧ q.2 ≤ last ∧ ∃ (wy : Addr) (xs : List V), H q.1 = some (.tup [.ref wy, .int q.2]) ∧ H wy = some (.tup xs) ∧ xs.length ≤ n
def KeepT (H H' : Hp) : Prop := ∀ a xs, H a = some (.tup xs) → H' a = some (.tup xs)
theorem Rows.keep {H H' : Hp} {last n m : Nat} {ps : List (Addr × Int)} (h : Rows H last n ps) (k : KeepT H H') (l : n ≤ m) : Rows H' last m ps := fun q hq => by
  obtain ⟨h0, h1, wy, xs, e1, e2, e3⟩ := h q hq
  exact ⟨h0, h1, wy, xs, k _ _ e1, k _ _ e2, Nat.le_trans e3 l⟩
theorem Same.keepT {H H' : Hp} (s : Same H H') : KeepT H H' := fun a xs e => s _ _ e
theorem KeepT.trans {H H' H2 : Hp} (a : KeepT H H') (b : KeepT H' H2) : KeepT H H2 := fun x xs e => b _ _ (a _ _ e)
theorem keepT_upd {H : Hp} {d : Addr} {o : HO} {o' : HO} (e : H d = some o') (n : ∀ xs, o' ≠ .tup xs) : KeepT H (upd H d o) := fun a xs h => by
  by_cases z : a = d
  · subst z
    rw [e] at h
    exact absurd (Option.some.inj h) (n xs)
  · rw [upd_ne z]
    exact h
/-- t + u, u not empty: the result is somewhere, all else stays -/
def rCatS (K : PySem.W.Frag) : R2 := fun x y H Q => ∃ a b xs ys, x = .ref a ∧ y = .ref b ∧ SqT K H a xs ∧ H b = some (.tup ys) ∧ ys ≠ [] ∧ xs.length + ys.length ≤ sizeLine ∧ ∀ p H', Same H H' → H' p = some (.tup (xs ++ ys)) → Q (.ref p) H'
theorem op_catS {X : Cx} : OpR X (binaryOp .Add) (rCatS X.K) := by
  intro pins s σ H x y v u Q I rx ry h
  obtain ⟨a, b, xs, ys, rfl, rfl, ha, hb, hn, hz, q⟩ := h
  refine op_catA pins s σ H _ _ v u Q I rx ry ⟨a, b, xs, ys, rfl, rfl, ha, SqT.of hb, hz, fun z => ?_, fun _ z => absurd z hn, fun _ _ p hp => q p _ (same_upd hp) upd_same⟩
  subst z
  exact q b H (fun _ _ e => e) (by rw [hb]; rfl)
structure Co (H0 H : Hp) (d r u : Addr) (last m0 : Nat) (ps qs : List (Addr × Int)) (kvs : List (Key × V)) : Prop where
  sm : Same H0 H
  hd : H d = some (.dK kvs)
  hr : H r = some (.lst (ps.map fun q => V.ref q.1))
  hu : H u = some (.lst (qs.map fun q => V.ref q.1))
  rp : Rows H last kvs.length ps
  rq : Rows H last kvs.length qs
  cnt : kvs.length + miss last kvs ≤ last + 1
  me : (qs = [] ∧ miss last kvs ≤ m0) ∨ miss last kvs < m0
  ql : qs.length ≤ kvs.length
theorem Co.same {H0 H H' : Hp} {d r u : Addr} {last m0 : Nat} {ps qs : List (Addr × Int)} {kvs : List (Key × V)} (C : Co H0 H d r u last m0 ps qs kvs) (s : Same H H') : Co H0 H' d r u last m0 ps qs kvs :=
  ⟨C.sm.trans s, s _ _ C.hd, s _ _ C.hr, s _ _ C.hu, C.rp.keep (Same.keepT s) (Nat.le_refl _), C.rq.keep (Same.keepT s) (Nat.le_refl _), C.cnt, C.me, C.ql⟩
/-- what is reached from a standing that stands in the rows, or is found -/
def Clo (fr : List T3) (b : Nat) (kvs : List (Key × V)) (open_ : Int → T3 → Prop) : Prop := ∀ x ∈ fr, (x.1 = (b : Int) ∨ has kvs x.1 = true) → open_ x.1 x ∨ has kvs x.2.2 = true
def Sd (S : Int → Prop) (b : Nat) (ps : List (Addr × Int)) : Prop := ∀ q ∈ ps, q.2 = (b : Int) ∨ S q.2
def Sk (S : Int → Prop) (kvs : List (Key × V)) : Prop := ∀ g : Int, has kvs g = true → S g
section
variable {P : Program} {w : World} {K : PySem.W.Frag} {mg : Str → Option Value} {base : Heap}
theorem scWays : FnScope ["framing", "begin", "found", "rows", "further", "way", "standing", "number", "start", "piece", "goal"] ["framing", "begin"] (defScope sWays) := ⟨rfl, rfl, rfl, by decide +kernel, rfl, by decide +kernel, by decide +kernel⟩
theorem ok_ways {f : Addr} {fd : FuncData} (F : Fun K "ways_from" "ways_from" sWays f fd) (he : mg "enumerate" = none) : FnOk P w K mg base CX0 1 f fd ["framing", "begin"] spWays := by
  refine F.ok scWays (fun vs H Q E h => ?_) (fun cdv A outer s H vs Q E hr h => ?_)
  · obtain ⟨f, fr, last, b, S, rfl, _⟩ := h
    rfl
  · obtain ⟨f, fr, last, b, S, rfl, fa, fm, hb, cl0, cl1, q⟩ := h
    have hu := hu_of hr
    refine ⟨_, pss_cons (ps_set (i := 2) scWays.nd rfl (Or.inl rfl) pe_dnewK)
      (pss_cons (ps_set (i := 3) scWays.nd rfl (Or.inl rfl) (pe_lst (pa_cons (pe_tup (pa_cons (pe_tup pa_nil) (pa_cons (pv 1) pa_nil))) pa_nil)))
      (pss_cons (ps_while PassesOwn.never (pt_truth (pv 3) (fun _ => rfl))
        (pss_cons (ps_set (i := 4) scWays.nd rfl (Or.inl rfl) (pe_lst pa_nil))
        (pss_cons (ps_for PassesOwn.never rfl (pi_list (pv 3)) (pg_tup rfl (pgs_cons (pg_name (i := 5) scWays.nd rfl (Or.inl rfl)) (pgs_cons (pg_name (i := 6) scWays.nd rfl (Or.inl rfl)) pgs_nil)))
          (pss_one (ps_for PassesOwn.never rfl (pi_enumT (by rfl) he (pa_cons (pv 0) pa_nil)) (pg_tup rfl (pgs_cons (pg_name (i := 7) scWays.nd rfl (Or.inl rfl)) (pgs_cons (pg_tup rfl (pgs_cons (pg_name (i := 8) scWays.nd rfl (Or.inl rfl)) (pgs_cons (pg_name (i := 9) scWays.nd rfl (Or.inl rfl)) (pgs_cons (pg_name (i := 10) scWays.nd rfl (Or.inl rfl)) pgs_nil)))) pgs_nil)))
            (pss_one (ps_if (pw_and (pt_cmpR op_eq (pv 8) (pv 6) (nomark _)) (pw_and1 (pt_cmp (pc_dnotin hu (pv 10) (pv 2)) (by rfl)))).pt
              (pss_cons (ps_dput hu (pv 2) (pv 10) (pe_op op_catS (pv 5) (pe_tup (pa_cons (pv 7) pa_nil))) rfl)
                (pss_one (ps_expr (pe_bm PySem.F.plainAttrs_list PySem.F.slot_list_append PySem.F.type_list_append mt_append (pv 4) (pa_cons (pe_tup (pa_cons (pe_dget hu (pv 2) (pv 10) (fun _ _ => rfl)) (pa_cons (pv 10) pa_nil))) pa_nil)))))
              pss_nil)))))
        (pss_one (ps_set (i := 3) scWays.nd rfl (Or.inl rfl) (pv 4))))))
      (pss_one (ps_ret (pv 2))))), ?_⟩
    intro d hd0
    have sd := same_upd (o := HO.dK []) hd0
    refine ⟨by decide, fun e0 he0 => ⟨_, rfl, (by show 2 ≤ sizeLine; decide), fun p0 hp0 => ⟨(by show 1 ≤ sizeLine; decide), fun r hr0 => ?_⟩⟩⟩
    have s1 := same_upd (o := HO.tup []) he0
    have s2 := same_upd (o := HO.tup [V.ref e0, V.int (b : Int)]) hp0
    have s3 := same_upd (o := HO.lst [V.ref p0]) hr0
    refine ⟨fun j σ H' => ∃ (r : Addr) (kvs : List (Key × V)) (ps : List (Addr × Int)) (v4 v5 v6 v7 v8 v9 v10 : Option V), σ = [some (.ref f), some (.int b), some (.ref d), some (.ref r), v4, v5, v6, v7, v8, v9, v10] ∧
      Same H H' ∧ H' d = some (.dK kvs) ∧ H' r = some (.lst (ps.map fun q => V.ref q.1)) ∧ Rows H' last kvs.length ps ∧ kvs.length + miss last kvs ≤ last + 1 ∧ Clo fr b kvs (fun g _ => ∃ q ∈ ps, q.2 = g) ∧ Sd S b ps ∧ Sk S kvs ∧ j = 2 * miss last kvs + (if ps = [] then 0 else 1), ⟨_, r, [], [(p0, (b : Int))], none, none, none, none, none, none, none, rfl, ?_, ?_, ?_, ?_, ?_, ?_, (fun q hq => .inl (by rw [List.mem_singleton.mp hq])), (fun g z => by cases z), rfl⟩, ?_⟩
    · exact sd.trans (s1.trans (s2.trans s3))
    · exact s3 _ _ (s2 _ _ (s1 _ _ upd_same))
    · exact upd_same
    · intro q hq
      have e : q = (p0, (b : Int)) := by simpa using hq
      subst e
      refine ⟨by show (0 : Int) ≤ (b : Int); omega, by show (b : Int) ≤ last; omega, e0, [], s3 _ _ upd_same, s3 _ _ (s2 _ _ upd_same), Nat.le_refl _⟩
    · have := miss_le (last := last) (kvs := [])
      simp only [List.length_nil]
      omega
    · intro x hx h
      rcases h with h | h
      · exact .inl ⟨_, List.mem_singleton.mpr rfl, h.symm⟩
      · cases h
    · rintro j σ H1 ⟨r, kvs, ps, v4, v5, v6, v7, v8, v9, v10, rfl, sm, hd, hr, rp, cnt, clo, sd0, sk0, rfl⟩
      refine ⟨_, rfl, _, .inl ⟨_, SqL.of hr, rfl⟩, ?_⟩
      by_cases hps : ps = []
      · subst hps
        refine iteF' rfl ?_
        refine ⟨_, rfl, q H1 d kvs sm hd0 hd ?_ sk0⟩
        have c2 : ∀ x ∈ fr, (x.1 = (b : Int) ∨ has kvs x.1 = true) → has kvs x.2.2 = true := fun x hx h => by
          rcases clo x hx h with ⟨_, z, _⟩ | z
          · cases z
          · exact z
        exact c2
      · refine iteT' (by cases ps; exact absurd rfl hps; rfl) ?_
        refine ⟨_, fun _ _ z => z, ?_⟩
        refine ⟨by decide, fun u hu0 => ?_⟩
        have su := same_upd (o := HO.lst []) hu0
        have hur : u ≠ r := (ne_of_none hr hu0).symm
        have hu00 : H u = none := sm.free hu0
        refine ⟨_, rfl, r, rfl, ⟨_, SqL.of (su _ _ hr)⟩, for_it (walk_list (xs := ps.map fun q => V.ref q.1)) (fun i σ H' => ∃ (kvs2 : List (Key × V)) (qs : List (Addr × Int)) (v5 v6 v7 v8 v9 v10 : Option V), σ = [some (.ref f), some (.int b), some (.ref d), some (.ref r), some (.ref u), v5, v6, v7, v8, v9, v10] ∧
          Co H H' d r u last (miss last kvs) ps qs kvs2 ∧ Clo fr b kvs2 (fun g _ => (∃ q ∈ ps.drop i, q.2 = g) ∨ ∃ q ∈ qs, q.2 = g) ∧ Sd S b qs ∧ Sk S kvs2)
          ⟨kvs, [], v5, v6, v7, v8, v9, v10, rfl, ⟨sm.trans su, su _ _ hd, su _ _ hr, upd_same, rp.keep (Same.keepT su) (Nat.le_refl _), (fun q hq => by cases hq), cnt, .inl ⟨rfl, Nat.le_refl _⟩, Nat.zero_le _⟩, (fun x hx h => (clo x hx h).imp (fun z => .inl z) id), (fun q hq => by cases hq), sk0⟩
          (fun i σ H' _ ⟨_, _, _, _, _, _, _, _, _, C, _⟩ => SqL.of C.hr) ?_ ?_⟩
        · rintro i v σ H2 H3 hi ⟨kvs2, qs, v5, v6, v7, v8, v9, v10, rfl, C, cl, sd2, sk2⟩ ⟨rfl, hv⟩
          obtain ⟨q1, hq1, rfl⟩ : ∃ q1, ps[i]? = some q1 ∧ v = V.ref q1.1 := by
            rw [List.getElem?_map] at hv
            cases e : ps[i]? with
            | none =>
              rw [e] at hv
              cases hv
            | some q1 =>
              rw [e] at hv
              exact ⟨q1, rfl, (Option.some.inj hv).symm⟩
          obtain ⟨g0, g1, wy, xs, e1, e2, e3⟩ := C.rp q1 (List.mem_of_getElem? hq1)
          have dq : ps.drop i = q1 :: ps.drop (i + 1) := by
            have il := (List.getElem?_eq_some_iff.mp hq1).1
            rw [List.drop_eq_getElem_cons il]
            have := (List.getElem?_eq_some_iff.mp hq1).2
            rw [this]
          obtain ⟨ts, hf, hl, ht⟩ := id fa
          refine ⟨_, _, rfl, SqT.of e1, rfl, _, _, rfl, _, _, rfl, rfl, ?_⟩
          refine ⟨_, rfl, f, _, rfl, SqT.of (C.sm _ _ hf), for_it (walk_enumT (xs := ts.map V.ref)) (fun k σ H' => ∃ (kvs3 : List (Key × V)) (qs3 : List (Addr × Int)) (v7 v8 v9 v10 : Option V), σ = [some (.ref f), some (.int b), some (.ref d), some (.ref r), some (.ref u), some (.ref wy), some (.int q1.2), v7, v8, v9, v10] ∧
            Co H H' d r u last (miss last kvs) ps qs3 kvs3 ∧ H' wy = some (.tup xs) ∧ xs.length ≤ kvs3.length ∧ Clo fr b kvs3 (fun g x => ((∃ q ∈ ps.drop (i + 1), q.2 = g) ∨ ∃ q ∈ qs3, q.2 = g) ∨ (g = q1.2 ∧ x ∈ fr.drop k)) ∧ Sd S b qs3 ∧ Sk S kvs3)
            ⟨kvs2, qs, v7, v8, v9, v10, rfl, C, e2, e3, (fun x hx h => ?_), sd2, sk2⟩
            (fun k σ H' _ ⟨_, _, _, _, _, _, _, C', _⟩ => SqT.of (C'.sm _ _ hf)) ?_ ?_⟩
          · rcases cl x hx h with (⟨q, z, e⟩ | z) | z
            · rw [dq] at z
              rcases List.mem_cons.mp z with z | z
              · subst z
                exact .inl (.inr ⟨e.symm, by simpa using hx⟩)
              · exact .inl (.inl (.inl ⟨q, z, e⟩))
            · exact .inl (.inl (.inr z))
            · exact .inr z
          · rintro k x σ H3 H4 hk ⟨kvs3, qs3, v7, v8, v9, v10, rfl, C3, w3, wl, cl3, sd3, sk3⟩ ⟨T, xi, xo, rfl, nT, rfl, h1, h2⟩
            cases h1
            obtain ⟨t, y, hy, rfl, e4⟩ := at_step (i := k) hl ht h2
            have uT := same_upd (o := HO.tup [V.int (k : Nat), V.ref t]) nT
            have C4 := C3.same uT
            have t4 := uT _ _ (C3.sm _ _ e4)
            have w4 := uT _ _ w3
            have hym : y ∈ fr := List.mem_of_getElem? hy
            obtain ⟨b1, b5, b3, b6⟩ := fm.lo y hym
            have dk : fr.drop k = y :: fr.drop (k + 1) := by
              have il := (List.getElem?_eq_some_iff.mp hy).1
              rw [List.drop_eq_getElem_cons il]
              have := (List.getElem?_eq_some_iff.mp hy).2
              rw [this]
            -- the step is done with
            have go : ∀ (kvs4 : List (Key × V)) (qs4 : List (Addr × Int)), (∀ g : Int, has kvs4 g = true → has kvs3 g = true ∨ ∃ q ∈ qs4, q.2 = g) → (∀ g : Int, has kvs3 g = true → has kvs4 g = true) → (∀ q ∈ qs3, q ∈ qs4) → (y.1 = q1.2 → has kvs4 y.2.2 = true) →
                Clo fr b kvs4 (fun g x => ((∃ q ∈ ps.drop (i + 1), q.2 = g) ∨ ∃ q ∈ qs4, q.2 = g) ∨ (g = q1.2 ∧ x ∈ fr.drop (k + 1))) := fun kvs4 qs4 n1 n2 n3 n4 x hx h => by
              have old : x.1 = (b : Int) ∨ has kvs3 x.1 = true → ((((∃ q ∈ ps.drop (i + 1), q.2 = x.1) ∨ ∃ q ∈ qs4, q.2 = x.1) ∨ (x.1 = q1.2 ∧ x ∈ fr.drop (k + 1))) ∨ has kvs4 x.2.2 = true) := fun h => by
                rcases cl3 x hx h with ((z | ⟨q, z, e⟩) | ⟨z1, z2⟩) | z
                · exact .inl (.inl (.inl z))
                · exact .inl (.inl (.inr ⟨q, n3 q z, e⟩))
                · rw [dk] at z2
                  rcases List.mem_cons.mp z2 with z2 | z2
                  · subst z2
                    exact .inr (n4 z1)
                  · exact .inl (.inr ⟨z1, z2⟩)
                · exact .inr (n2 _ z)
              rcases h with h | h
              · exact old (.inl h)
              · rcases n1 _ h with z | z
                · exact old (.inr z)
                · exact .inl (.inl (.inr z))
            refine ⟨T, _, rfl, SqT.of upd_same, rfl, _, _, rfl, _, _, rfl, ⟨t, _, rfl, SqT.of t4, rfl, _, _, rfl, _, _, rfl, _, _, rfl, rfl, rfl, ?_⟩⟩
            refine ⟨_, rfl, _, rfl, rfl, _, rfl, ?_⟩
            refine ite2 (fun z => ?_) (fun z => ?_)
            · have z1 : y.1 = q1.2 := V.int.inj (of_decide_eq_true z)
              refine ⟨_, rfl, _, rfl, d, _, rfl, DGet.k (k := Sum.inl y.2.2) C4.hd, _, rfl, ?_⟩
              refine ite2 (fun y1 => ?_) (fun y1 => ?_)
              · have no : has kvs3 y.2.2 = false := by
                  cases e : has kvs3 y.2.2 with
                  | false => rfl
                  | true =>
                    have e' : (valV kvs3 (Sum.inl y.2.2 : Key)).isSome = true := e
                    rw [e'] at y1
                    cases y1
                have mp := miss_put (v := V.non) b3 b6 no
                have l5 := fm.l5
                have c3 := C3.cnt
                refine ⟨_, rfl, ⟨_, rfl, (by show 1 ≤ sizeLine; decide), fun p hp => ⟨wy, p, xs, [V.int (k : Nat)], rfl, rfl, SqT.of (same_upd hp _ _ w4), upd_same, (fun z => by cases z), ?_, fun nw H5 s5 n5 => ?_⟩⟩⟩
                · rw [sizeLine_eq]
                  simp only [List.length_cons, List.length_nil]
                  omega
                have C5 := (C4.same (same_upd (o := HO.tup [V.int (k : Nat)]) hp)).same s5
                have hdu : d ≠ u := ne_of C5.hd C5.hu (fun z => by cases z)
                have hdr : d ≠ r := ne_of C5.hd C5.hr (fun z => by cases z)
                refine ⟨_, rfl, _, rfl, d, _, rfl, DPut.k (k := Sum.inl y.2.2) C5.hd (by rw [sizeLine_eq]; omega), ?_⟩
                have hn : valV kvs3 (Sum.inl y.2.2 : Key) = none := by
                  cases e : valV kvs3 (Sum.inl y.2.2 : Key) with
                  | none => rfl
                  | some v =>
                    have e' : has kvs3 y.2.2 = true := by
                      show (valV kvs3 (Sum.inl y.2.2 : Key)).isSome = true
                      rw [e]
                      rfl
                    rw [e'] at no
                    cases no
                generalize hH6 : upd H5 d (.dK (putK kvs3 (Sum.inl y.2.2) (.ref nw))) = H6
                have k6 : KeepT H5 H6 := by
                  rw [← hH6]
                  exact keepT_upd C5.hd (fun xs z => by cases z)
                have d6 : H6 d = some (.dK (putK kvs3 (Sum.inl y.2.2) (.ref nw))) := by
                  rw [← hH6]
                  exact upd_same
                have u6 : H6 u = some (.lst (qs3.map fun q => V.ref q.1)) := by
                  rw [← hH6, upd_ne hdu.symm]
                  exact C5.hu
                have r6 : H6 r = some (.lst (ps.map fun q => V.ref q.1)) := by
                  rw [← hH6, upd_ne hdr.symm]
                  exact C5.hr
                have m6 : Same H H6 := by
                  rw [← hH6]
                  exact same_set hd0 C5.sm
                have g6 : valV (putK kvs3 (Sum.inl y.2.2) (V.ref nw)) (Sum.inl y.2.2 : Key) = some (.ref nw) := by
                  rw [valV_put, if_pos rfl]
                have n6 := k6 _ _ n5
                have ml := miss_le (last := last) (kvs := kvs3)
                have mp2 := miss_put (v := V.ref nw) b3 b6 no
                have pe : (putK kvs3 (Sum.inl y.2.2 : Key) (V.ref nw)).length = kvs3.length + 1 := by
                  rw [putK_new _ hn, List.length_append]
                  rfl
                have ql := C3.ql
                have sy : S y.2.2 := by
                  rcases sd0 q1 (List.mem_of_getElem? hq1) with z | z
                  · exact cl0 y hym (by rw [z1, z])
                  · exact cl1 y hym (by rw [z1]; exact z)
                have sd4 : ∀ p7 : Addr, Sd S b (qs3 ++ [(p7, y.2.2)]) := fun p7 q hq => by
                  rcases List.mem_append.mp hq with hq | hq
                  · exact sd3 q hq
                  · rw [List.mem_singleton.mp hq]
                    exact .inr sy
                have sk4 : Sk S (putK kvs3 (Sum.inl y.2.2) (V.ref nw)) := fun g h => by
                  rw [has_put] at h
                  rcases (Bool.or_eq_true _ _).mp h with h | h
                  · rw [of_decide_eq_true h]
                    exact sy
                  · exact sk3 g h
                refine ⟨_, rfl, ?_, _, rfl, _, rfl, ⟨d, _, rfl, by rw [← g6]; exact DGet.k (k := Sum.inl y.2.2) d6, _, rfl, (by show 2 ≤ sizeLine; decide), fun p7 hp7 => ⟨u, qs3.map (fun q => V.ref q.1), _, rfl, rfl, same_upd hp7 _ _ u6, by rw [sizeLine_eq, List.length_map]; omega, ?_⟩⟩⟩
                · exact .inl ⟨rfl, _, SqL.of u6⟩
                have k7 := Same.keepT (same_upd (o := HO.tup [V.ref nw, V.int y.2.2]) hp7)
                have hd7 := same_upd (o := HO.tup [V.ref nw, V.int y.2.2]) hp7 _ _ d6
                have hu7 := same_upd (o := HO.tup [V.ref nw, V.int y.2.2]) hp7 _ _ u6
                have hr7 := same_upd (o := HO.tup [V.ref nw, V.int y.2.2]) hp7 _ _ r6
                have k8 := keepT_upd (o := .lst (qs3.map (fun q => V.ref q.1) ++ [V.ref p7])) hu7 (fun xs z => by cases z)
                have kk : KeepT H5 _ := (k6.trans k7).trans k8
                refine ⟨putK kvs3 (Sum.inl y.2.2) (.ref nw), qs3 ++ [(p7, y.2.2)], _, _, _, _, rfl, ⟨same_set hu00 (m6.trans (same_upd hp7)), ?_, ?_, ?_, ?_, ?_, by rw [pe]; omega, .inr ?_, by rw [pe, List.length_append]; simp only [List.length_cons, List.length_nil]; omega⟩, ?_, by rw [pe]; omega, ?_⟩
                · rw [upd_ne hdu]
                  exact hd7
                · rw [upd_ne hur.symm]
                  exact hr7
                · rw [List.map_append]
                  exact upd_same
                · exact C5.rp.keep kk (by rw [pe]; omega)
                · intro q hq
                  rcases List.mem_append.mp hq with hq | hq
                  · exact C5.rq.keep kk (by rw [pe]; omega) q hq
                  · have e : q = (p7, y.2.2) := by simpa using hq
                    subst e
                    refine ⟨b3, b6, nw, xs ++ [V.int (k : Nat)], k8 _ _ upd_same, k8 _ _ (k7 _ _ n6), ?_⟩
                    rw [pe, List.length_append]
                    simp only [List.length_cons, List.length_nil]
                    omega
                · rcases C3.me with ⟨_, z⟩ | z <;> omega
                · exact kk _ _ ((same_upd (o := HO.tup [V.int (k : Nat)]) hp |>.trans s5) _ _ w4)
                · refine ⟨go _ _ (fun g h => ?_) (fun g h => ?_) (fun q h => List.mem_append_left _ h) (fun _ => ?_), sd4 _, sk4⟩
                  · rw [has_put] at h
                    rcases (Bool.or_eq_true _ _).mp h with h | h
                    · exact .inr ⟨_, List.mem_append_right _ (List.mem_singleton.mpr rfl), (of_decide_eq_true h).symm⟩
                    · exact .inl h
                  · rw [has_put, h, Bool.or_true]
                  · rw [has_put, decide_eq_true rfl]
                    rfl
              · have yes : has kvs3 y.2.2 = true := by
                  cases e : has kvs3 y.2.2 with
                  | true => rfl
                  | false =>
                    have e' : (valV kvs3 (Sum.inl y.2.2 : Key)).isSome = false := e
                    rw [e'] at y1
                    exact absurd rfl y1
                exact ⟨kvs3, qs3, _, _, _, _, rfl, C4, w4, wl, go kvs3 qs3 (fun g h => .inl h) (fun g h => h) (fun q h => h) (fun _ => yes), sd3, sk3⟩
            · have z1 : ¬ y.1 = q1.2 := fun e => z (decide_eq_true (congrArg V.int e))
              refine iteF ?_
              exact ⟨kvs3, qs3, _, _, _, _, rfl, C4, w4, wl, go kvs3 qs3 (fun g h => .inl h) (fun g h => h) (fun q h => h) (fun e => absurd e z1), sd3, sk3⟩
          · rintro σ H3 ⟨kvs3, qs3, v7, v8, v9, v10, rfl, C3, w3, wl, cl3, sd3, sk3⟩
            refine ⟨kvs3, qs3, _, _, v7, v8, v9, v10, rfl, C3, (fun x hx h => ?_), sd3, sk3⟩
            rcases cl3 x hx h with (z | ⟨_, z⟩) | z
            · exact .inl z
            · rw [show (ts.map V.ref).length = fr.length by simp [hl], List.drop_length] at z
              cases z
            · exact .inr z
        · rintro σ H2 ⟨kvs2, qs, v5, v6, v7, v8, v9, v10, rfl, C, cl, sd2, sk2⟩
          refine ⟨_, rfl, _, ?_, u, kvs2, qs, some (.ref u), v5, v6, v7, v8, v9, v10, rfl, C.sm, C.hd, C.hu, C.rq, C.cnt, (fun x hx h => ?_), sd2, sk2, rfl⟩
          · rw [if_neg hps]
            rcases C.me with ⟨z, y⟩ | z
            · rw [if_pos z]
              omega
            · split <;> omega
          · rcases cl x hx h with (z | z) | z
            · rw [List.length_map, List.drop_length] at z
              obtain ⟨_, z, _⟩ := z
              cases z
            · exact .inl z
            · exact .inr z
end
end K04

set_option Elab.async false
set_option linter.all false
set_option maxRecDepth 100000
set_option maxHeartbeats 4000000
/-! try: .. except (A, B, ..) as e: the caught error is kept as a value behind the suite. Raising an own exception that was made by its own __init__. -/
namespace L2
namespace EV
open PySem PySem.Spec PyProof.Rows _root_.EV
/-- an exception that was caught, at a -/
def exh (cls : Value) (d : Option Addr) (a : Addr) : HO := .ext fun h => ∃ (oe : Obj) (vs : Array Value), h.get? a = some oe ∧ Zc cls d oe ∧ oe.data = .fields vs
theorem exh_ok {P : Program} {w : World} {H : Hp} {h : Heap} {a : Addr} {cls : Value} {d : Option Addr} {oe : Obj} {vs : Array Value} (e : h.get? a = some oe) (z : Zc cls d oe) (hd : oe.data = .fields vs) : ObjOk P w H h a (exh cls d a) :=
  ⟨⟨oe, vs, e, z, hd⟩, ⟨oe, e⟩, fun _ _ ⟨o, v, q, r⟩ k => ⟨o, v, k o q, r⟩⟩
theorem exh_at {P : Program} {w : World} {H : Hp} {h : Heap} {a : Addr} {cls : Value} {d : Option Addr} (hok : HOk P w H h) (e : H a = some (exh cls d a)) : ∃ (oe : Obj) (vs : Array Value), h.get? a = some oe ∧ Zc cls d oe ∧ oe.data = .fields vs := by
  have q : ObjOk P w H h a (.ext fun h => ∃ (oe : Obj) (vs : Array Value), h.get? a = some oe ∧ Zc cls d oe ∧ oe.data = .fields vs) := hok a _ e
  exact q.1
theorem flies_keeps {B : Heap} {l : List Env} {a : Addr} {Z : Obj → Prop} {h h' : Heap} (f : HandSPX.FlyingZ B l a Z h) (k : ∀ b o, h.get? b = some o → h'.get? b = some o) : HandSPX.FlyingZ B l a Z h' := by
  obtain ⟨f1, f2, f3, oe, vs, T, oT, ts, e1, e2, e3, e4, e5, e6, e7, e8, e9⟩ := f
  exact ⟨fun b o q => k b o (f1 b o q), f2, f3.of_keeps fun b o q _ => ⟨o, k b o q, rfl⟩, oe, vs, T, oT, ts, k _ _ e1, e2, e3, e4, e5, e6, k _ _ e7, e8, e9⟩
/-! ### does one of several classes match -/
section
variable {M : Model} {K : PySem.W.Frag} {h : Heap} {cls : Value}
theorem all_cls : ∀ {cs : List Value} {b : Bool}, PySem.W.exmAny K cls cs = some b → ∀ c ∈ cs, ∃ v, PySem.W.exmOne K cls c = some v
  | c :: r, b, e, x, hx => by
    obtain ⟨b1, d1, h1, h2, _⟩ := PySem.W.exmAny_cons e
    rcases List.mem_cons.mp hx with rfl | hx
    · exact ⟨_, h1⟩
    · exact all_cls h2 x hx
section
variable {A : Around} {E : Value → Shared → Prop} {s : Shared}
theorem loop_exc (X : K.In h) (k0 : ∀ b o, h.get? b = some o → s.heap.get? b = some o) {R : PUnit → Shared → Prop} (r : R ⟨⟩ s) : ∀ l : List Value, (∀ c ∈ l, ∃ v, PySem.W.exmOne K cls c = some v) →
    wpAny M A (forIn l PUnit.unit fun c _ => do
        if (!(← isExcClass c)) = true then do
          rule "try.except-non-exception-class"
          raiseErrorWords "TypeError" "catching classes that do not inherit from BaseException is not allowed"
          pure (ForInStep.yield PUnit.unit)
        else pure (ForInStep.yield PUnit.unit)) R E s := by
  intro l
  induction l with
  | nil => exact fun _ => wpAny_pure r
  | cons c l ih =>
    intro hl
    obtain ⟨v, hv⟩ := hl c (List.mem_cons_self ..)
    obtain ⟨i1, _⟩ := PySem.W.exm_cls (M := M) X hv
    rw [List.forIn_cons]
    refine wpAny_bind (wpAny_bind ((i1.keeps k0).here ?_))
    simp only [Bool.not_true, Bool.false_eq_true, if_false]
    exact wpAny_pure (ih fun x hx => hl x (List.mem_cons_of_mem _ hx))
theorem loop_sub (X : K.In h) (k0 : ∀ b o, h.get? b = some o → s.heap.get? b = some o) {R : Option Bool × Unit → Shared → Prop} : ∀ (l : List Value) (b : Bool), PySem.W.exmAny K cls l = some b → R (if b = true then (some true, ()) else (none, ())) s →
    wpAny M A (forIn l ((none, ()) : Option Bool × Unit) fun c _ => do
        if (← isSubtype cls c) = true then pure (ForInStep.done (some true, ())) else pure (ForInStep.yield (none, ()))) R E s := by
  intro l
  induction l with
  | nil =>
    intro b e r
    have : some false = some b := e
    cases this
    exact wpAny_pure r
  | cons c l ih =>
    intro b e r
    obtain ⟨b1, d1, h1, h2, rfl⟩ := PySem.W.exmAny_cons e
    obtain ⟨_, S1⟩ := PySem.W.exm_cls (M := M) X h1
    rw [List.forIn_cons]
    refine wpAny_bind (wpAny_bind ((S1.keeps k0).here ?_))
    cases b1 with
    | true =>
      rw [Bool.true_or] at r
      simp only [if_true]
      exact wpAny_pure (wpAny_pure r)
    | false =>
      rw [Bool.false_or] at r
      simp only [Bool.false_eq_true, if_false]
      exact wpAny_pure (ih _ h2 r)
end
theorem match_list {cs : List Value} {b : Bool} {tp e : Addr} (X : K.In h) (LT : PySem.W.Looks M h (typeOf (.ref e)) cls) (hp : h.get? tp = some { cls := .type "tuple", data := .seq cs.toArray }) (hx : PySem.W.exmAny K cls cs = some b) :
    PySem.W.Looks M h (excMatches (.ref e) (.ref tp)) b := by
  intro A Q E s k0 q
  have L0 : PySem.W.Looks M h (isInstance (.ref tp) (.type "tuple")) true := ((PySem.W.Looks.ld hp).andThen .now).andThen (PySem.W.Looks.of_pure isSubtype_tuple_tuple)
  have hp' := k0 _ _ hp
  unfold excMatches
  refine wpAny_bind ((L0.keeps k0).here ?_)
  rw [if_pos rfl]
  have ec : ((some cs.toArray).getD #[]).toList = cs := by simp
  refine wpAny_bind ?_
  refine wpAny_seqItems hp' rfl ?_
  refine wpAny_bind (wpAny_pure ?_)
  show wpAny _ _ (do
      forIn ((some cs.toArray).getD #[]).toList PUnit.unit _
      _) _ _ _
  rw [ec]
  refine wpAny_bind (loop_exc X k0 ?_ cs (all_cls hx))
  refine wpAny_bind ((LT.keeps k0).here ?_)
  refine wpAny_bind (loop_sub X k0 cs b hx ?_)
  cases b with
  | true => exact wpAny_pure q
  | false => exact wpAny_pure q
end
/-! ### the rule -/
/-- classes by their names -/
inductive ClsL (X : Cx) : List Expr → List Value → Prop
  | nil : ClsL X [] []
  | cons {x : Str} {c : Value} {p : Pos} {es : List Expr} {cs : List Value} : Names X x c → ClsL X es cs → ClsL X (.Name x p :: es) (c :: cs)
theorem ClsL.suite {X : Cx} {a : Addr} {pn : List (Addr × Obj)} : ∀ {es : List Expr} {cs : List Value}, ClsL X es cs → ClsL (X.suite a pn) es cs
  | _, _, .nil => .nil
  | _, _, .cons hc r => .cons (X := X.suite a pn) hc r.suite
theorem cls_read {Y : Cx} {pins : List (Addr × Obj)} {σ : St} {H : Hp} {s : Shared} (I : Inv Y pins σ H s) {pos : Pos} {E : Value → Shared → Prop} : ∀ {es : List Expr} {cs : List Value} {Q : List Value → Shared → Prop}, ClsL Y es cs → Q cs s →
    wpAny (model Y.prog Y.w) Y.A (spliced (backTo pos (starEach es Y.env))) Q E s
  | _, _, _, .nil, q => wpAny_items_nil q
  | _, _, Q, .cons (c := c) (es := es) (cs := cs) hc r, q => wpAny_items_cons (by
      have rest : wpAny (model Y.prog Y.w) Y.A (spliced (backTo pos (starEach es Y.env))) (fun vs s2 => Q (c :: vs) s2) E s := cls_read I r q
      obtain ⟨hg, hd, hm | ⟨hm, hv, hn⟩⟩ := hc
      · exact ld_glob I hg hm rest hd
      · exact ld_blt I hg hm hv rest hn hd)
theorem ClsL.len {X : Cx} : ∀ {es : List Expr} {cs : List Value}, ClsL X es cs → cs.length = es.length
  | _, _, .nil => rfl
  | _, _, .cons _ r => by rw [List.length_cons, List.length_cons, r.len]
/-- what is pinned is tracked from now on -/
theorem inv_hold {X : Cx} {pins : List (Addr × Obj)} {σ : St} {H : Hp} {s : Shared} {a : Addr} {oe : Obj} {vs : Array Value} {cls : Value} {d : Option Addr} (I : Inv X ((a, oe) :: pins) σ H s) (hm : ∀ p, p ∈ (a, oe) :: (X.pn ++ pins) → p ∈ X.pn ++ ((a, oe) :: pins)) (z : Zc cls d oe) (hd : oe.data = .fields vs)
    (n0 : X.s_0.heap.get? a = none) (np : ∀ p ∈ X.pn ++ pins, p.1 ≠ a) : Inv X pins σ (upd H a (exh cls d a)) s := by
  obtain ⟨e, n, ne, nf, dc⟩ := I.pin (a, oe) (hm _ (List.mem_cons_self ..))
  have ne : a ≠ X.env.locals := ne
  have n : H a = none := n
  have old : ∀ b o, X.s_0.heap.get? b = some o → b ≠ a := fun b o q z => by
    rw [z, n0] at q
    cases q
  refine ⟨I.ok, I.os, I.bare, ⟨I.base.keep, I.base.slot, fun b o q m hx => ?_, I.base.there, fun b xs q => ?_, fun b o u q => ?_, fun b ps q => ?_⟩, I.loc, I.cell, ?_, fun x c q => ?_, fun p hp => ?_, ?_, I.len⟩
  · rw [upd_ne (old b o q)]
    exact I.base.free b o q m hx
  · have z := I.base.tups b xs q
    rw [upd_ne (ne_of_none z n)]
    exact z
  · have z := I.base.frzs b o u q
    rw [upd_ne (ne_of_none z n)]
    exact z
  · obtain ⟨m, z⟩ := I.base.tbls b ps q
    exact ⟨m, by rw [upd_ne (ne_of_none z n)]; exact z⟩
  · rw [upd_ne ne.symm]
    exact I.free
  · have nc : c ≠ a := fun z => by
      obtain ⟨v, o, q1, q2⟩ := I.cell x c q
      rw [z] at q1
      have e' : s.heap.get? a = some oe := e
      rw [e'] at q1
      cases q1
      rw [hd] at q2
      cases q2
    rw [upd_ne nc]
    exact I.freeC x c q
  · obtain ⟨e1, e2, e3, e4, e5⟩ := I.pin p (hm p (List.mem_cons_of_mem _ hp))
    exact ⟨e1, by rw [upd_ne (np p hp)]; exact e2, e3, e4, e5⟩
  · exact I.hok.laidN (fun _ _ q => q) n (exh_ok e z hd)
/-- what the clause wishes of an exception of the body: it is of one of the classes; behind the suite it stands at a -/
def wKeep (K : PySem.W.Frag) (n : Nat) (cs : List Value) (i : Nat) (ts : Addr → Value → Option Addr → TS) (D : Ends) : WX := fun cls d σ H => σ.length = n → PySem.W.exmAny K cls cs = some true ∧
  ∀ a, H a = none → ts a cls d { nx := fun σ' H' => D.nx (σ'.set i none) (upd H' a (exh cls d a)), rt := fun _ _ => False } (σ.set i (some (.ref a))) H
section
variable {X : Cx} {n : Str} {cs : List Value} {es : List Expr} {kx i : Nat} {body suite : List Stmt} {b0 : Stmt} {tpos pos hpos : Pos} {tb : WX → TS} {ts : Addr → Value → Option Addr → TS}
theorem ps_try_keep (hs : X.stack = X.env :: X.outer) (hf : X.env.frame = some X.env.locals) (hex : X.ex = []) (hN : X.N.Nodup) (hi : X.N[i]? = some n) (hln : X.env.kindOf n = some .local) (hc : ClsL X es cs) (hl : es.length ≤ 1000)
    (hb : ∀ (W : WX) (pn : List (Addr × Obj)) (xe : Value → Shared → Prop), Takes (X.tr pn xe) W → PassesOwn (model X.prog X.w) X.A X.env xe → PSs (X.tr pn xe) body (tb W))
    (hsu : ∀ (a : Addr) (oe : Obj) (cls : Value) (d : Option Addr) (pn : List (Addr × Obj)), Zc cls d oe → (∃ vs, oe.data = .fields vs) → PSs (X.suite a ((a, oe) :: pn)) (b0 :: suite) (ts a cls d)) :
    PS X (.Try body [.ExceptHandler (some (.Tuple es kx tpos)) (some n) (b0 :: suite) hpos] [] [] pos) (fun D σ H => tb (wKeep X.K X.N.length cs i ts D) D σ H) := by
  refine ⟨fun pins s σ H D I h => ?_⟩
  have ok := I.ok
  have hfr : X.A.frames = some (X.env :: X.outer) := by rw [ok.frames, hs]
  have loc : Loc X.env.scope n := .inl hln
  have B0 := hb (wKeep X.K X.N.length cs i ts D) (X.pn ++ pins) (fun e s1 => wpAny (model X.prog X.w) X.A (noteFrame e X.env) (fun _ s2 => wpAny (model X.prog X.w) X.A (setFlight e none) (fun _ s3 =>
    wpAny (model X.prog X.w) X.A (handleBy e X.env [.ExceptHandler (some (.Tuple es kx tpos)) (some n) (b0 :: suite) hpos]) (SP X pins D) X.xe s3) X.xe s2) X.xe s1)
  refine wpAny_Try_except (wpAny_mono ((B0 (fun u s' caught => ?_) PassesOwn.looking).run [] s σ H D (I.toTry _) h) (fun f s1 went => ?_) fun _ _ z => z)
  · obtain ⟨a, B, sI, pins', σ', H', cls, d, rfl, J', nb, up, sky, na, os, ag, hW⟩ := caught
    obtain ⟨hit, hyes⟩ := hW J'.len
    have J : Inv X pins σ' H' sI := J'.ofTry ok
    show wpAny (model X.prog X.w) X.A (noteFrame (.ref a) X.env) _ _ _
    refine Sky.land Zc.steady hfr hf (by rw [← hs]; exact sky) fun h3 fl3 up3 => ?_
    have J3 : Inv X pins σ' H' { s' with heap := h3 } := J.landed nb fl3.1 (up.trans up3) os ag
    obtain ⟨oe3, vs3, he3, hz3, hd3⟩ := fl3.there
    have nfr : a ∉ frs (X.env :: X.outer) := fun hm => by
      obtain ⟨_, o, q, nd⟩ := fl3.2.2.1.mem hm
      rw [he3] at q
      cases q
      exact nd _ hd3
    have nL : a ≠ X.env.locals := fun z => nfr (List.mem_filterMap.mpr ⟨X.env, List.mem_cons_self, by rw [hf, z]⟩)
    have nF : a ∉ X.fs := fun hm => by
      obtain ⟨e, he, q⟩ := List.mem_filterMap.mp hm
      exact nfr (List.mem_filterMap.mpr ⟨e, List.mem_cons_of_mem _ he, q⟩)
    have nI : sI.heap.get? a = none := by
      cases q : sI.heap.get? a with
      | none => rfl
      | some o =>
        have z := nb a o q (by rw [hs]; exact nfr)
        rw [fl3.2.1] at z
        cases z
    have n0 : X.s_0.heap.get? a = none := by
      cases q : X.s_0.heap.get? a with
      | none => rfl
      | some o =>
        obtain ⟨o', z⟩ := J.base.there a o q (by rw [hex]; exact fun z => nomatch z)
        rw [nI] at z
        cases z
    have np : ∀ p ∈ X.pn ++ pins, p.1 ≠ a := fun p hp z => by
      have q := (J.pin p hp).1
      rw [z, nI] at q
      cases q
    have S3 := J3.suite he3 hd3 na nL nF
    refine wpAny_handleBy_cons (codeAny_handlers_test ?_) (by intro q; cases q)
    refine wpAny_Tuple (cls_read S3 hc.suite ⟨by rw [hc.len, sizeLine_eq]; omega, ?_⟩)
    have k5 : ∀ b o, h3.get? b = some o → (h3.push { cls := .type "tuple", data := .seq cs.toArray }).get? b = some o := fun _ _ z => Heap.get?_push_of_some _ z
    have LT : PySem.W.Looks (model X.prog X.w) (h3.push { cls := .type "tuple", data := .seq cs.toArray }) (typeOf (.ref a)) cls := fun A Q E s k q => wpAny_typeOf_ref (k _ _ (k5 _ _ he3)) (by rw [hz3.1]; exact q)
    refine (match_list (M := model X.prog X.w) (J3.kIn.keeps k5) LT (Heap.get?_push_size h3 rfl) hit).here ?_
    refine codeAny_handlers_suite_as ?_
    refine HandSPX.lands_againZ (flies_keeps fl3 k5) fun h4 fl4 up4 => ?_
    have J4 : Inv X pins σ' H' { s' with heap := h4 } := J.landed nb fl4.1 (((up.trans up3).trans (Heap.UpToSlots.of_keeps k5)).trans up4) os ag
    obtain ⟨oe4, vs4, he4, hz4, hd4⟩ := fl4.there
    have S4 := J4.suite he4 hd4 na nL nF
    refine store_ok (X := X.suite a ((a, oe4) :: (X.pn ++ pins))) (v := .ref a) S4 hN hi loc rfl (fun s5 S5 => ?_) (.inr hln)
    refine wpAny_mono ((hsu a oe4 cls d (X.pn ++ pins) hz4 ⟨_, hd4⟩).run [] s5 _ H' _ S5 (hyes a na)) (fun f s6 hsp => ?_) (fun _ _ z => False.elim z)
    cases f with
    | next =>
      obtain ⟨σ6, H6, S6, q6⟩ := hsp
      have K6 : Inv X ((a, oe4) :: pins) σ6 H6 s6 := ⟨ok, S6.os, S6.bare, S6.base, S6.loc, S6.cell, S6.free, S6.freeC, fun p hp => S6.pin p (by
        show p ∈ ((a, oe4) :: (X.pn ++ pins)) ++ []
        rw [List.append_nil]
        rcases List.mem_append.mp hp with z | z
        · exact List.mem_cons_of_mem _ (List.mem_append_left _ z)
        · rcases List.mem_cons.mp z with z | z
          · rw [z]
            exact List.mem_cons_self ..
          · exact List.mem_cons_of_mem _ (List.mem_append_right _ z)), S6.hok, S6.len⟩
      refine gone_ok K6 hN hi hln fun s7 J7 => ⟨_, _, inv_hold J7 (fun p hp => ?_) hz4 hd4 n0 np, q6⟩
      rcases List.mem_cons.mp hp with z | z
      · rw [z]
        exact List.mem_append_right _ (List.mem_cons_self ..)
      · rcases List.mem_append.mp z with z | z
        · exact List.mem_append_left _ z
        · exact List.mem_append_right _ (List.mem_cons_of_mem _ z)
    | brk =>
      obtain ⟨_, _, _, z⟩ := hsp
      exact False.elim z
    | cont =>
      obtain ⟨_, _, _, z⟩ := hsp
      exact False.elim z
    | ret u =>
      obtain ⟨_, _, _, _, _, z⟩ := hsp
      exact False.elim z
  · cases f with
    | next =>
      obtain ⟨σ', H', J', q⟩ := went
      exact wpAny_execs_nil ⟨σ', H', J'.ofTry ok, q⟩
    | brk =>
      obtain ⟨σ', H', J', q⟩ := went
      exact ⟨σ', H', J'.ofTry ok, q⟩
    | cont =>
      obtain ⟨σ', H', J', q⟩ := went
      exact ⟨σ', H', J'.ofTry ok, q⟩
    | ret u =>
      obtain ⟨v, σ', H', J', r, q⟩ := went
      exact ⟨v, σ', H', J'.ofTry ok, r, q⟩
end
/-! ### raise C(..), C with its own __init__ -/
theorem pmk_own2 {X : Cx} {e : Expr} {te : TE} (hx : X.ex = []) (he : PE X e te) :
    PMk X e (fun σ H Q => te σ H fun x H1 => ∃ (a C : Addr) (od : Option Addr), x = .ref a ∧ H1 a = some (exo a C od) ∧ Fr0 X.H_0 a ∧ Raises X (.ref C) ∧ Q (.ref C) od (delH H1 a)) := by
  intro pins s σ H Q I h
  refine wpAny_mono (he.run pins s σ H _ I h) (fun u s1 hu => ?_) fun _ _ x => x
  obtain ⟨v, H1, I1, r1, a, C, od, rfl, ha, h0, hr, q⟩ := hu
  cases r1
  obtain ⟨t1, ho⟩ := exo_at I1.hok ha
  obtain ⟨G, gs, ga, J⟩ := I1.untrack ha h0 hx
  exact ⟨a, _, _, { s1 with heap := G }, delH H1 a, .ref C, od, rfl, J, gs, ga, ho, ⟨rfl, rfl⟩, rfl, rfl, delH_same, rfl, I1.bare, hr, q⟩
/-! ### isinstance of a caught one -/
def rIsC (K : PySem.W.Frag) : List V → Hp → VK → Prop := fun xs H Q => ∃ (a C : Addr) (B newId initId : String) (bm : List Value) (c : V) (u : Value) (b : Bool),
  xs = [.ref a, c] ∧ ClsV c u ∧ OxC K C B newId initId bm ∧ H a = some (exh (.ref C) none a) ∧ PySem.W.kitOne K (.ref C) u = some b ∧ Q (.bl b) H
theorem call_isC {X : Cx} : CallR X (.builtin "isinstance") (rIsC X.K) := by
  intro pins s σ H xs us Q I r h
  obtain ⟨a, C, B, newId, initId, bm, c, u, b, rfl, k, T, ea, e, q⟩ := h
  obtain ⟨u1, u2, rfl, r1, r2⟩ := vals2 r
  have e2 := k.eq r2
  subst e2
  obtain rfl : u1 = Value.ref a := r1
  obtain ⟨oe, vs, ho, hz, hd⟩ := exh_at I.hok ea
  obtain ⟨cd, hcl, _⟩ := T.data
  have some_ : (PySem.W.clsIn X.K C).isSome = true := by rw [hcl]; rfl
  have J : PySem.W.InstAt s.heap a oe C none := ⟨ho, hz.1, by unfold PySem.W.notCls; rw [hd], by rw [hz.2]; exact trivial⟩
  exact PySem.W.kia_one (PySem.W.kitx_exc some_ T.ga T.gg T.exC T.ca T.cn T.ct T.om) I.kIn J e (fun z => nomatch z) fun tk => ⟨.bl b, H, I.tok tk, rfl, q⟩
end EV
end L2

set_option Elab.async false
set_option linter.all false
set_option maxRecDepth 100000
set_option maxHeartbeats 4000000
/-! Data of any form; is_number of it. -/
namespace K04
open PySem L2 L2.EV
mutual
/-- v stands for d, all of its lists and tuples tracked -/
inductive Da (H : Hp) : V → PyData → Prop
  | non : Da H .non .none
  | bl (b : Bool) : Da H (.bl b) (.bool b)
  | int (i : Int) : Da H (.int i) (.int i)
  | str (x : Str) : Da H (.str x) (.str x)
  | lst {a : Addr} {xs : List V} {ds : List PyData} : H a = some (.lst xs) → DaAll H xs ds → Da H (.ref a) (.list ds)
  | tup {a : Addr} {xs : List V} {ds : List PyData} : H a = some (.tup xs) → DaAll H xs ds → Da H (.ref a) (.tuple ds)
inductive DaAll (H : Hp) : List V → List PyData → Prop
  | nil : DaAll H [] []
  | cons {v : V} {vs : List V} {d : PyData} {ds : List PyData} : Da H v d → DaAll H vs ds → DaAll H (v :: vs) (d :: ds)
end
mutual
theorem Da.same {H H' : Hp} (s : Same H H') : ∀ (d : PyData) (v : V), Da H v d → Da H' v d
  | .none, _, h => by cases h; exact .non
  | .bool b, _, h => by cases h; exact .bl b
  | .int i, _, h => by cases h; exact .int i
  | .str x, _, h => by cases h; exact .str x
  | .list ds, _, h => by
    cases h with
    | lst e ha => exact .lst (s _ _ e) (DaAll.same s ds _ ha)
  | .tuple ds, _, h => by
    cases h with
    | tup e ha => exact .tup (s _ _ e) (DaAll.same s ds _ ha)
  | .dict _, _, h => by cases h
theorem DaAll.same {H H' : Hp} (s : Same H H') : ∀ (ds : List PyData) (vs : List V), DaAll H vs ds → DaAll H' vs ds
  | [], _, h => by cases h; exact .nil
  | d :: ds, _, h => by
    cases h with
    | cons h1 h2 => exact .cons (Da.same s d _ h1) (DaAll.same s ds _ h2)
end
mutual
theorem Da.dp {K : PySem.W.Frag} {H : Hp} : ∀ (d : PyData) (v : V), Da H v d → Dp K H v d
  | .none, _, h => by cases h; exact .non
  | .bool b, _, h => by cases h; exact .bl b
  | .int i, _, h => by cases h; exact .int i
  | .str x, _, h => by cases h; exact .str x
  | .list ds, _, h => by
    cases h with
    | lst e ha => exact .lst (SqL.of e) (DaAll.dp ds _ ha)
  | .tuple ds, _, h => by
    cases h with
    | tup e ha => exact .tup (SqT.of e) (DaAll.dp ds _ ha)
  | .dict _, _, h => by cases h
theorem DaAll.dp {K : PySem.W.Frag} {H : Hp} : ∀ (ds : List PyData) (vs : List V), DaAll H vs ds → DpAll K H vs ds
  | [], _, h => by cases h; exact .nil
  | d :: ds, _, h => by
    cases h with
    | cons h1 h2 => exact .cons (Da.dp d _ h1) (DaAll.dp ds _ h2)
end
theorem DaAll.len {H : Hp} : ∀ {vs : List V} {ds : List PyData}, DaAll H vs ds → vs.length = ds.length
  | _, _, .nil => rfl
  | _, _, .cons _ t => by rw [List.length_cons, List.length_cons, t.len]
theorem DaAll.at_ {H : Hp} : ∀ {vs : List V} {ds : List PyData} {i : Nat} {v : V}, DaAll H vs ds → vs[i]? = some v → ∃ d, ds[i]? = some d ∧ Da H v d
  | _, _, 0, _, .cons h _, e => by
    cases e
    exact ⟨_, rfl, h⟩
  | _, _, i + 1, _, .cons _ t, e => t.at_ (i := i) (by simpa using e)
  | _, _, _, _, .nil, e => by simp at e
theorem DaAll.at' {H : Hp} : ∀ {vs : List V} {ds : List PyData} {i : Nat} {d : PyData}, DaAll H vs ds → ds[i]? = some d → ∃ v, vs[i]? = some v ∧ Da H v d
  | _, _, 0, _, .cons h _, e => by
    cases e
    exact ⟨_, rfl, h⟩
  | _, _, i + 1, _, .cons _ t, e => t.at' (i := i) (by simpa using e)
  | _, _, _, _, .nil, e => by simp at e
theorem DaAll.app {H : Hp} : ∀ {vs ws : List V} {ds es : List PyData}, DaAll H vs ds → DaAll H ws es → DaAll H (vs ++ ws) (ds ++ es)
  | _, _, _, _, .nil, q => q
  | _, _, _, _, .cons h t, q => .cons h (t.app q)
theorem DaAll.drop {H : Hp} : ∀ {vs : List V} {ds : List PyData} (n : Nat), DaAll H vs ds → DaAll H (vs.drop n) (ds.drop n)
  | _, _, 0, h => h
  | _, _, n + 1, .nil => .nil
  | _, _, n + 1, .cons _ t => t.drop n
theorem DaAll.take {H : Hp} : ∀ {vs : List V} {ds : List PyData} (n : Nat), DaAll H vs ds → DaAll H (vs.take n) (ds.take n)
  | _, _, 0, h => .nil
  | _, _, n + 1, .nil => .nil
  | _, _, n + 1, .cons h t => .cons h (t.take n)
theorem DaAll.rev {H : Hp} : ∀ {vs : List V} {ds : List PyData}, DaAll H vs ds → DaAll H vs.reverse ds.reverse
  | _, _, .nil => .nil
  | _, _, .cons h t => by
    rw [List.reverse_cons, List.reverse_cons]
    exact t.rev.app (.cons h .nil)
/-! ### of which type -/
def isTup : PyData → Bool
  | .tuple _ => true
  | _ => false
def isInt : PyData → Bool
  | .int _ => true
  | .bool _ => true
  | _ => false
def isBl : PyData → Bool
  | .bool _ => true
  | _ => false
theorem Da.ty {K : PySem.W.Frag} {H : Hp} {v : V} {d : PyData} (h : Da H v d) : ∃ t : Value, TyX K H v t ∧ PySem.W.kitOne K t (.type "tuple") = some (isTup d) ∧ PySem.W.kitOne K t (.type "int") = some (isInt d) ∧ PySem.W.kitOne K t (.type "bool") = some (isBl d) := by
  cases h with
  | non => exact ⟨_, .base .non, kit_ty (r := false) (by decide +kernel), kit_ty (r := false) (by decide +kernel), kit_ty (r := false) (by decide +kernel)⟩
  | bl b => exact ⟨_, .base (.bl b), kit_ty (r := false) (by decide +kernel), kit_ty (r := true) (by decide +kernel), kit_ty (r := true) (by decide +kernel)⟩
  | int i => exact ⟨_, .base (.int i), kit_ty (r := false) (by decide +kernel), kit_ty (r := true) (by decide +kernel), kit_ty (r := false) (by decide +kernel)⟩
  | str x => exact ⟨_, .base (.str x), kit_ty (r := false) (by decide +kernel), kit_ty (r := false) (by decide +kernel), kit_ty (r := false) (by decide +kernel)⟩
  | lst e _ => exact ⟨_, .base (.lst e), kit_ty (r := false) (by decide +kernel), kit_ty (r := false) (by decide +kernel), kit_ty (r := false) (by decide +kernel)⟩
  | tup e _ => exact ⟨_, .base (.tup e), kit_ty (r := true) (by decide +kernel), kit_ty (r := false) (by decide +kernel), kit_ty (r := false) (by decide +kernel)⟩
def isSt : PyData → Bool
  | .str _ => true
  | _ => false
theorem Da.tyS {K : PySem.W.Frag} {H : Hp} {v : V} {d : PyData} (h : Da H v d) : ∃ t : Value, TyX K H v t ∧ PySem.W.kitOne K t (.type "str") = some (isSt d) := by
  cases h with
  | non => exact ⟨_, .base .non, kit_ty (r := false) (by decide +kernel)⟩
  | bl b => exact ⟨_, .base (.bl b), kit_ty (r := false) (by decide +kernel)⟩
  | int i => exact ⟨_, .base (.int i), kit_ty (r := false) (by decide +kernel)⟩
  | str x => exact ⟨_, .base (.str x), kit_ty (r := true) (by decide +kernel)⟩
  | lst e _ => exact ⟨_, .base (.lst e), kit_ty (r := false) (by decide +kernel)⟩
  | tup e _ => exact ⟨_, .base (.tup e), kit_ty (r := false) (by decide +kernel)⟩
/-! ### numbers -/
def numD (m : Int) : PyData → Option Int
  | .int i => if 0 ≤ i ∧ i < m then some i else none
  | _ => none
theorem numD_some {m i : Int} {d : PyData} (h : numD m d = some i) : d = .int i ∧ 0 ≤ i ∧ i < m := by
  cases d with
  | int j =>
    have h : (if 0 ≤ j ∧ j < m then some j else none) = some i := h
    by_cases c : 0 ≤ j ∧ j < m
    · rw [if_pos c] at h
      cases h
      exact ⟨rfl, c⟩
    · rw [if_neg c] at h
      cases h
  | _ => cases h
def spNumD : Sp := fun vs H Q _ => ∃ (v : V) (d : PyData) (m : Int), vs = [v, .int m] ∧ Da H v d ∧ Q (.bl (numD m d).isSome) H
section
variable {P : Program} {w : World} {K : PySem.W.Frag} {mg : Str → Option Value} {base : Heap}
theorem ok_numD {f : Addr} {fd : FuncData} (F : Fun K "is_number" "is_number" sNum f fd) (T : TxtF mg) : FnOk P w K mg base CX0 1 f fd ["thing", "many"] spNumD := by
  refine F.ok scNum (fun vs H Q E h => ?_) (fun cdv A outer s H vs Q E hr h => ?_)
  · obtain ⟨v, d, m, rfl, _⟩ := h
    rfl
  · obtain ⟨v, d, m, rfl, da, q⟩ := h
    refine ⟨_, pss_one (ps_ret (pe_and (pe_callB call_isi (by rfl) T.isi PyProof.Rows.boot_isinstance (pa_cons (pv 0) (pa_cons (pe_bltn (v := .ty "int") (by rfl) T.int (by decide +kernel) rfl) pa_nil)))
      (pe_and (pe_not (pe_callB call_isi (by rfl) T.isi PyProof.Rows.boot_isinstance (pa_cons (pv 0) (pa_cons (pe_bltn (v := .ty "bool") (by rfl) T.bool (by decide +kernel) rfl) pa_nil))))
        (pe_one (pe_chain op_le op_lt pe_int (pv 0) (pv 1)))))), ?_⟩
    obtain ⟨t, ty, _, ki, kb⟩ := da.ty (K := K)
    refine ⟨_, rfl, v, .ty "int", t, .type "int", isInt d, rfl, .ty "int", ty, ki, isInt d, rfl, ?_⟩
    cases da with
    | int n =>
      refine iteT ?_
      refine ⟨_, rfl, .int n, .ty "bool", t, .type "bool", false, rfl, .ty "bool", ty, kb, false, rfl, true, rfl, iteT ?_⟩
      refine ⟨_, rfl, 0, n, rfl, rfl, _, rfl, ?_⟩
      have q : Q (.bl (if 0 ≤ n ∧ n < m then some n else none).isSome) H := q
      refine ite2 (fun z => ?_) (fun z => ?_)
      · have z1 : 0 ≤ n := of_decide_eq_true z
        refine ⟨_, rfl, n, m, rfl, rfl, ?_⟩
        by_cases c : n < m
        · rw [if_pos ⟨z1, c⟩] at q
          show Q (.bl (decide (n < m))) H
          rw [decide_eq_true c]
          exact q
        · rw [if_neg (fun k => c k.2)] at q
          show Q (.bl (decide (n < m))) H
          rw [decide_eq_false c]
          exact q
      · have z1 : ¬ 0 ≤ n := fun k => z (decide_eq_true k)
        rw [if_neg (fun k => z1 k.1)] at q
        exact q
    | bl b =>
      refine iteT ?_
      exact ⟨_, rfl, .bl b, .ty "bool", t, .type "bool", true, rfl, .ty "bool", ty, kb, true, rfl, false, rfl, iteF q⟩
    | non => exact iteF q
    | str x => exact iteF q
    | lst e h => exact iteF q
    | tup e h => exact iteF q
end
end K04

set_option Elab.async false
set_option linter.all false
set_option maxRecDepth 100000
set_option maxHeartbeats 4000000
/-! is_piece and is_step of any data. -/
namespace K04
open PySem L2 L2.EV
/-- is_piece of a text -/
def pcS (p : Str) : Bool := decide (1 ≤ p.length) && decide (p.length ≤ 8) && (sl (Txt.removesuffix p ";")).all fun c => decide (c ∈ sgs)
def pcD : PyData → Bool
  | .str p => pcS p
  | _ => false
/-- a step by itself -/
def stpD : PyData → Option T3
  | .tuple [a, .str p, b] => match numD 6 a, numD 6 b with
    | some i, some j => if pcS p = true ∧ Txt.endswith p ";" = decide (j = 0) then some (i, p, j) else none
    | _, _ => none
  | _ => none
theorem stpD_some {d : PyData} {x : T3} (h : stpD d = some x) : d = .tuple [.int x.1, .str x.2.1, .int x.2.2] ∧ 0 ≤ x.1 ∧ x.1 < 6 ∧ 0 ≤ x.2.2 ∧ x.2.2 < 6 := by
  match d, h with
  | .tuple [a, .str p, b], h =>
    have h : (match numD 6 a, numD 6 b with
      | some i, some j => if pcS p = true ∧ Txt.endswith p ";" = decide (j = 0) then some (i, p, j) else none
      | _, _ => none) = some x := h
    cases ea : numD 6 a with
    | none =>
      rw [ea] at h
      cases h
    | some i =>
      cases eb : numD 6 b with
      | none =>
        rw [ea, eb] at h
        cases h
      | some j =>
        rw [ea, eb] at h
        have h : (if pcS p = true ∧ Txt.endswith p ";" = decide (j = 0) then some (i, p, j) else none) = some x := h
        by_cases c : pcS p = true ∧ Txt.endswith p ";" = decide (j = 0)
        · rw [if_pos c] at h
          cases h
          obtain ⟨rfl, a1, a2⟩ := numD_some ea
          obtain ⟨rfl, b1, b2⟩ := numD_some eb
          exact ⟨rfl, a1, a2, b1, b2⟩
        · rw [if_neg c] at h
          cases h
/-- texts that are no long ones -/
def szT (d : PyData) : Prop := ∀ s, d = .str s → s.length ≤ 1000
/-- a step's text is no long one -/
def szS (d : PyData) : Prop := ∀ a x b, d = .tuple [a, x, b] → szT x
def spPcD : Sp := fun vs H Q _ => ∃ (v : V) (d : PyData), vs = [v] ∧ Da H v d ∧ szT d ∧ ∀ H', Same H H' → Q (.bl (pcD d)) H'
def spStpD : Sp := fun vs H Q _ => ∃ (v : V) (d : PyData), vs = [v] ∧ Da H v d ∧ szS d ∧ ∀ H', Same H H' → Q (.bl (stpD d).isSome) H'
section
variable {P : Program} {w : World} {K : PySem.W.Frag} {mg : Str → Option Value} {base : Heap}
theorem ok_pcD {f : Addr} {fd : FuncData} (F : Fun K "is_piece" "is_piece" sPc f fd) (T : TxtF mg) : FnOk P w K mg base CX0 1 f fd ["thing"] spPcD := by
  refine F.ok scPc (fun vs H Q E h => ?_) (fun cdv A outer s H vs Q E hr h => ?_)
  · obtain ⟨v, d, rfl, _⟩ := h
    rfl
  · obtain ⟨v, d, rfl, da, sz, q⟩ := h
    obtain ⟨ts, eS⟩ := T.signs
    obtain ⟨tm, eM⟩ := T.mSigns
    refine ⟨_, pss_cons (ps_if (pw_or (pt_not (pt_val (pe_callB call_isi (by rfl) T.isi PyProof.Rows.boot_isinstance (pa_cons (pv 0) (pa_cons (pe_bltn (v := .ty "str") (by rfl) T.str (by decide +kernel) rfl) pa_nil)))))
        (pw_or1 (pt_not (pt_chain op_le op_le pe_int (pe_callB call_len_str (by rfl) T.len PySem.boot_len (pa_cons (pv 0) pa_nil)) (pe_glob (v := .int 8) (by rfl) eM ⟨_, rfl⟩))))).pt
        (pss_one (ps_ret pe_bl)) pss_nil)
      (pss_one (ps_ret (pe_callB (cr_all rfl) (by rfl) T.all (by decide +kernel) (pa_cons (pe_lc (own := [("sign", 1)]) (g := gName 1) rfl scPc.nd
        (pi_str (pe_m1 PySem.F.slot_str_removesuffix PySem.F.type_str_removesuffix mt_removesuffix (pv 0) pe_str)) (blkOk_by (N := ["thing", "sign"]) (sc := defScope sPc) (by decide +kernel))
        (fun _ _ _ _ _ => pg_name (i := 1) scPc.nd rfl (Or.inl rfl)) (fun _ _ _ _ _ => pts_nil) (fun _ _ _ _ _ => pe_cmpR op_in_sign (pv 1) (pe_glob (v := .str "abcdefghijklmnopqrstuvwxyz0123456789@") (by rfl) eS ⟨_, rfl⟩) (by rfl))) pa_nil)))), ?_⟩
    obtain ⟨t, ty, kt⟩ := da.tyS (K := K)
    refine ⟨_, rfl, v, .ty "str", t, .type "str", isSt d, rfl, .ty "str", ty, kt, isSt d, rfl, ?_⟩
    cases da with
    | str p =>
      refine iteF ?_
      have szp := sz p rfl
      have q : ∀ H', Same H H' → Q (.bl (pcS p)) H' := q
      refine ⟨.str p, rfl, p, rfl, by rw [sizeLine_eq]; omega, 1, p.length, rfl, rfl, _, rfl, ?_⟩
      by_cases c1 : 1 ≤ p.length
      · refine iteT' (decide_eq_true (by omega)) ⟨p.length, 8, rfl, rfl, _, rfl, ?_⟩
        by_cases c2 : p.length ≤ 8
        · refine iteF' (by rw [decide_eq_true (by omega)]; rfl) ?_
          refine ⟨_, rfl, ⟨p, rfl⟩, p, ";", rfl, rfl, by rw [sizeLine_eq]; omega, _, rfl, fun D hD => ?_⟩
          refine lc_it walk_str (fun i H' => H' D = some (.lst ((((sl (Txt.removesuffix p ";")).take i).map fun c => decide (c ∈ sgs)).map V.bl)) ∧ ∀ b o, H b = some o → H' b = some o) ⟨upd_same, fun b o z => same_upd hD b o z⟩ (fun _ _ _ _ => trivial) ?_ ?_
          · rintro i x H1 H2 hi ⟨hl, kp⟩ ⟨rfl, c, hc, rfl⟩
            refine ⟨rfl, ⟨_, rfl, c, _, rfl, rfl, ?_⟩⟩
            have hc' : (sl (Txt.removesuffix p ";"))[i]? = some c := by simpa using hc
            refine ⟨_, hl, ?_, ?_, fun b o z => ?_⟩
            · rw [List.length_map, List.length_map, List.length_take, sizeLine_eq]
              have l1 := PyProof.Rows.len_removesuffix p ";"
              have l2 : (Txt.removesuffix p ";").cps.size = (Txt.removesuffix p ";").length := rfl
              omega
            · rw [List.take_succ, hc', List.map_append, List.map_append]
              exact upd_same
            · rw [upd_ne (ne_of_none z hD)]
              exact kp b o z
          · rintro H1 ⟨hl, kp⟩
            refine ⟨D, _, rfl, SqL.of hl, ?_⟩
            have z := q H1 kp
            unfold pcS at z
            rw [decide_eq_true c1, decide_eq_true c2, Bool.true_and, Bool.true_and] at z
            have e9 : (sl (Txt.removesuffix p ";")).take (Txt.removesuffix p ";").cps.size = sl (Txt.removesuffix p ";") := by
              have e : (Txt.removesuffix p ";").cps.size = (sl (Txt.removesuffix p ";")).length := by show _ = (Txt.removesuffix p ";").cps.toList.length; simp
              rw [e, List.take_length]
            rw [e9, List.all_map]
            exact z
        · refine iteT' (by rw [decide_eq_false (by omega)]; rfl) ?_
          have z := q H (Same.refl H)
          unfold pcS at z
          rw [decide_eq_false c2, Bool.and_false, Bool.false_and] at z
          exact z
      · refine iteF' (decide_eq_false (by omega)) ⟨_, rfl, iteT ?_⟩
        have z := q H (Same.refl H)
        unfold pcS at z
        rw [decide_eq_false c1, Bool.false_and, Bool.false_and] at z
        exact z
    | bl b => exact iteT (q H (Same.refl H))
    | non => exact iteT (q H (Same.refl H))
    | int i => exact iteT (q H (Same.refl H))
    | lst e h => exact iteT (q H (Same.refl H))
    | tup e h => exact iteT (q H (Same.refl H))
theorem ok_stpD {f fN fP : Addr} {fd fdN fdP : FuncData} (F : Fun K "is_step" "is_step" sStep f fd) (T : TxtF mg) (FN : Fun K "is_number" "is_number" sNum fN fdN) (bN : Binds K fdN ["thing", "many"] []) (mN : mg "is_number" = some (.ref fN))
    (FP : Fun K "is_piece" "is_piece" sPc fP fdP) (bP : Binds K fdP ["thing"] []) (mP : mg "is_piece" = some (.ref fP)) : FnOk P w K mg base CX0 2 f fd ["thing"] spStpD := by
  have GN : FnOk P w K mg base CX0 1 fN fdN ["thing", "many"] spNumD := ok_numD FN T
  have GP : FnOk P w K mg base CX0 1 fP fdP ["thing"] spPcD := ok_pcD FP T
  refine F.ok scStep (fun vs H Q E h => ?_) (fun cdv A outer s H vs Q E hr h => ?_)
  · obtain ⟨v, d, rfl, _⟩ := h
    rfl
  · obtain ⟨v, d, rfl, da, sz, q⟩ := h
    obtain ⟨tm, eM⟩ := T.many
    refine ⟨_, pss_cons (ps_if (pw_or (pt_not (pt_val (pe_callB call_isi (by rfl) T.isi PyProof.Rows.boot_isinstance (pa_cons (pv 0) (pa_cons (pe_bltn (v := .ty "tuple") (by rfl) T.tuple (by decide +kernel) rfl) pa_nil)))))
        (pw_or1 (pt_cmpR op_ne (pe_callB call_len_seq (by rfl) T.len PySem.boot_len (pa_cons (pv 0) pa_nil)) pe_int (nomark _)))).pt
        (pss_one (ps_ret pe_bl)) pss_nil)
      (pss_cons (ps_asg (pv 0) (pg_tup rfl (pgs_cons (pg_name (i := 1) scStep.nd rfl (Or.inl rfl)) (pgs_cons (pg_name (i := 2) scStep.nd rfl (Or.inl rfl)) (pgs_cons (pg_name (i := 3) scStep.nd rfl (Or.inl rfl)) pgs_nil)))))
      (pss_cons (ps_if (pw_or (pt_not (pt_val (pe_call GN hr (by rfl) mN FN.kp bN .nil pass0 (pa_cons (pv 1) (pa_cons (pe_glob (v := .int 6) (by rfl) eM ⟨_, rfl⟩) pa_nil)))))
        (pw_or (pt_not (pt_val (pe_call GP hr (by rfl) mP FP.kp bP .nil pass0 (pa_cons (pv 2) pa_nil))))
          (pw_or1 (pt_not (pt_val (pe_call GN hr (by rfl) mN FN.kp bN .nil pass0 (pa_cons (pv 3) (pa_cons (pe_glob (v := .int 6) (by rfl) eM ⟨_, rfl⟩) pa_nil)))))))).pt
        (pss_one (ps_ret pe_bl)) pss_nil)
      (pss_one (ps_ret (pe_cmpR op_eq (pe_m1 PySem.F.slot_str_endswith PySem.F.type_str_endswith mt_endswith (pv 2) pe_str) (pe_cmpR op_eq (pv 3) pe_int (nomark _)) (nomark _)))))), ?_⟩
    obtain ⟨t, ty, kt, _, _⟩ := da.ty (K := K)
    refine ⟨_, rfl, v, .ty "tuple", t, .type "tuple", isTup d, rfl, .ty "tuple", ty, kt, isTup d, rfl, ?_⟩
    cases da with
    | @tup a xs ds e all =>
      refine iteF ?_
      refine ⟨_, rfl, a, _, rfl, .inr (SqT.of e), rfl, _, rfl, ?_⟩
      have ln := all.len
      by_cases h3 : xs.length = 3
      · refine iteF' (by simp [h3]) ?_
        match xs, ds, all, h3 with
        | [x, y, z], [dx, dy, dz], .cons h1 (.cons h2 (.cons h4 .nil)), _ =>
          refine ⟨_, rfl, a, _, rfl, SqT.of e, rfl, _, _, rfl, _, _, rfl, _, _, rfl, rfl, ?_⟩
          have no : (numD 6 dx = none ∨ numD 6 dz = none ∨ pcD dy = false) → stpD (.tuple [dx, dy, dz]) = none := fun c => by
            cases dy with
            | str s =>
              show (match numD 6 dx, numD 6 dz with
                | some i, some j => if pcS s = true ∧ Txt.endswith s ";" = decide (j = 0) then some (i, s, j) else none
                | _, _ => none) = none
              rcases c with c | c | c
              · rw [c]
              · rw [c]
                cases numD 6 dx <;> rfl
              · have c : pcS s = false := c
                rw [c]
                cases numD 6 dx with
                | none => rfl
                | some i =>
                  cases numD 6 dz with
                  | none => rfl
                  | some j => exact if_neg (fun z => nomatch z.1)
            | _ => rfl
          have q0 := q H (Same.refl H)
          refine ⟨_, rfl, x, dx, 6, rfl, h1, _, rfl, ?_⟩
          cases ea : numD 6 dx with
          | none =>
            rw [no (.inl ea)] at q0
            exact iteT q0
          | some i =>
            refine iteF ?_
            refine ⟨_, rfl, y, dy, rfl, h2, sz dx dy dz rfl, fun H1 s1 => ⟨_, rfl, ?_⟩⟩
            have q1 := q H1 s1
            cases ec : pcD dy with
            | false =>
              rw [no (.inr (.inr ec))] at q1
              exact iteT q1
            | true =>
              refine iteF ?_
              refine ⟨_, rfl, z, dz, 6, rfl, Da.same s1 _ _ h4, _, rfl, ?_⟩
              cases eb : numD 6 dz with
              | none =>
                rw [no (.inr (.inl eb))] at q1
                exact iteT q1
              | some j =>
                refine iteF ?_
                cases h2 with
                | str p =>
                  obtain ⟨rfl, _, _⟩ := numD_some eb
                  cases h4
                  refine ⟨_, rfl, ⟨_, rfl⟩, p, _, rfl, rfl, ⟨_, rfl, rfl, rfl, ?_⟩⟩
                  have q1 : Q (.bl (match numD 6 dx, numD 6 (.int j) with
                    | some i, some j => if pcS p = true ∧ Txt.endswith p ";" = decide (j = 0) then some (i, p, j) else none
                    | _, _ => none).isSome) H1 := q1
                  rw [ea, eb] at q1
                  have q1 : Q (.bl (if pcS p = true ∧ Txt.endswith p ";" = decide (j = 0) then some (i, p, j) else none).isSome) H1 := q1
                  have ec : pcS p = true := ec
                  have e1 : decide (V.int j = V.int 0) = decide (j = 0) := by
                    by_cases z : j = 0
                    · rw [z]
                      rfl
                    · rw [decide_eq_false z]
                      exact decide_eq_false fun k => z (V.int.inj k)
                  rw [e1]
                  by_cases c : Txt.endswith p ";" = decide (j = 0)
                  · rw [if_pos ⟨ec, c⟩] at q1
                    rw [c, decide_eq_true rfl]
                    exact q1
                  · rw [if_neg (fun k => c k.2)] at q1
                    rw [decide_eq_false (fun k => c (V.bl.inj k))]
                    exact q1
                | bl b => cases ec
                | non => cases ec
                | int i => cases ec
                | lst e h => cases ec
                | tup e h => cases ec
      · refine iteT' (by simp; omega) ?_
        have z : stpD (.tuple ds) = none := by
          match ds, ln with
          | [], _ => rfl
          | [_], _ => rfl
          | [_, dy], _ => cases dy <;> rfl
          | [_, _, _], l => exact absurd l h3
          | _ :: dy :: _ :: _ :: _, _ => cases dy <;> rfl
        have q0 := q H (Same.refl H)
        rw [z] at q0
        exact q0
    | bl b => exact iteT (q H (Same.refl H))
    | non => exact iteT (q H (Same.refl H))
    | int i => exact iteT (q H (Same.refl H))
    | str x => exact iteT (q H (Same.refl H))
    | lst e h => exact iteT (q H (Same.refl H))
end
end K04

set_option Elab.async false
set_option linter.all false
set_option maxRecDepth 100000
set_option maxHeartbeats 4000000
/-! A caught error that has fields: isinstance, its fields. -/
namespace L2
namespace EV
open PySem PySem.Spec PyProof.Rows _root_.EV
/-- isinstance of a caught one with fields -/
def rIsF (K : PySem.W.Frag) : List V → Hp → VK → Prop := fun xs H Q => ∃ (a C d : Addr) (fs : List (Str × V)) (B newId initId : String) (bm : List Value) (c : V) (u : Value) (b : Bool),
  xs = [.ref a, c] ∧ ClsV c u ∧ OxC K C B newId initId bm ∧ H a = some (exh (.ref C) (some d) a) ∧ H d = some (.xd fs) ∧ PySem.W.kitOne K (.ref C) u = some b ∧ Q (.bl b) H
theorem call_isF {X : Cx} : CallR X (.builtin "isinstance") (rIsF X.K) := by
  intro pins s σ H xs us Q I r h
  obtain ⟨a, C, d, fs, B, newId, initId, bm, c, u, b, rfl, k, T, ea, ed, e, q⟩ := h
  obtain ⟨u1, u2, rfl, r1, r2⟩ := vals2 r
  have e2 := k.eq r2
  subst e2
  obtain rfl : u1 = Value.ref a := r1
  obtain ⟨oe, vs, ho, hz, hd⟩ := exh_at I.hok ea
  have hx : ObjOk X.prog X.w H s.heap d (.xd fs) := I.hok d _ ed
  obtain ⟨mA, hns, hr⟩ := hx
  obtain ⟨od, hod, hl⟩ := lookIn_ns hns
  obtain ⟨cd, hcl, _⟩ := T.data
  have some_ : (PySem.W.clsIn X.K C).isSome = true := by rw [hcl]; rfl
  have J : PySem.W.InstAt s.heap a oe C (some od) := ⟨ho, hz.1, by unfold PySem.W.notCls; rw [hd], by rw [hz.2]; exact hod⟩
  exact PySem.W.kia_one (PySem.W.kitx_exc some_ T.ga T.gg T.exC T.ca T.cn T.ct T.om) I.kIn J e (fun z => nomatch z) fun tk => ⟨.bl b, H, I.tok tk, rfl, q⟩
/-- a caught one's field -/
def tXg (K : PySem.W.Frag) (f : Str) (te : TE) : TE := fun σ H Q => te σ H fun x H1 => ∃ (a C d : Addr) (fs : List (Str × V)) (v : V), x = .ref a ∧ XfC K C ∧ PySem.W.findIn K (.ref C) f = some none ∧ H1 a = some (exh (.ref C) (some d) a) ∧ H1 d = some (.xd fs) ∧ fs.lookup f = some v ∧ Q v H1
theorem pe_xg {X : Cx} {e : Expr} {te : TE} {pos : Pos} {n : Str} (he : PE X e te) (hb : attributeBase e n X.env (eval e X.env) = eval e X.env := by rfl) : PE X (.Attribute e n pos) (tXg X.K n te) := by
  refine ⟨fun pins s σ H Q I h => ?_⟩
  refine attr_of hb (thn (he.run pins s σ H _ I h) fun u s1 hh => ?_)
  obtain ⟨x, H1, I1, rx, a, C, d, fs, v, ex, T, hno, ea, ed, l, q⟩ := hh
  subst ex
  obtain rfl : u = Value.ref a := rx
  obtain ⟨oe, vs, ho, hz, hd⟩ := exh_at I1.hok ea
  have hx : ObjOk X.prog X.w H1 s1.heap d (.xd fs) := I1.hok d _ ed
  obtain ⟨mA, hns, hr⟩ := hx
  obtain ⟨od, hod, hl⟩ := lookIn_ns hns
  obtain ⟨u, hu, ru⟩ := RelO.some_of (v := v) (o := mA n) (by rw [← l]; exact hr n)
  have J : PySem.W.InstAt s1.heap a oe C (some od) := ⟨ho, hz.1, by unfold PySem.W.notCls; rw [hd], by rw [hz.2]; exact hod⟩
  exact HandSPX.exc_get I1.kIn J T.ga T.gg T.exC (PySem.W.findObj_own T.hdC hno rfl (by rw [hl, hu])) (handed_of ru) ⟨v, H1, I1.tok _, ru, q⟩
end EV
end L2

set_option Elab.async false
set_option linter.all false
set_option maxRecDepth 100000
set_option maxHeartbeats 4000000
/-! t[::-1] of a tuple. -/
namespace L2
namespace EV
open PySem PySem.Spec PyProof.Rows _root_.EV PySem.Builtin
theorem rev_adjust (n : Nat) : Slice.sliceAdjust none none (-1) (n : Int) = ((n : Int) - 1, -1) := by
  unfold Slice.sliceAdjust
  simp
theorem rev_places (n : Nat) : Slice.slicePlaces ((n : Int) - 1) (-1) (-1) = n := by
  unfold Slice.slicePlaces
  rw [if_neg (by decide)]
  by_cases h : 0 < n
  · rw [if_pos (by omega)]
    simp only [Int.neg_neg, Int.ediv_one]
    omega
  · rw [if_neg (by omega)]
    omega
theorem fm_congr {α β : Type} {f g : α → Option β} : ∀ {l : List α}, (∀ x ∈ l, f x = g x) → l.filterMap f = l.filterMap g
  | [], _ => rfl
  | x :: l, h => by
    rw [List.filterMap_cons, List.filterMap_cons, h x (List.mem_cons_self ..), fm_congr fun y hy => h y (List.mem_cons_of_mem _ hy)]
theorem rev_pick (xs : Array Value) : ((List.range xs.size).filterMap fun (k : Nat) => xs[((xs.size : Int) - 1 + (k : Int) * -1).toNat]?) = xs.toList.reverse := by
  have e : ∀ k ∈ List.range xs.size, xs[((xs.size : Int) - 1 + (k : Int) * -1).toNat]? = xs.toList.reverse[k]? := fun k hk => by
    have hk := List.mem_range.mp hk
    have z : ((xs.size : Int) - 1 + (k : Int) * -1).toNat = xs.size - 1 - k := by omega
    rw [z, List.getElem?_reverse (by simpa using hk)]
    simp
  rw [fm_congr e]
  have g : ∀ l : List Value, (List.range l.length).filterMap (fun k => l[k]?) = l := fun l => by
    have z := PySem.W.krv_all l.toArray
    simpa using z
  have z := g xs.toList.reverse
  simpa using z
section
variable {prog : Program} {w : World} {A : Around} {E : Value → Shared → Prop} {s : Shared}
theorem rev_applied {sl : Addr} {vk : Value} {n : Nat} {Q : Int × Int × Nat → Shared → Prop} (hs : s.heap.IsSliceOf sl .none .none vk) (pk : IsPart vk (some (-1))) (h : Q ((n : Int) - 1, -1, n) s) :
    wpAny (model prog w) A (Slice.sliceApplied (.ref sl) (pure (n : Int))) Q E s := by
  obtain ⟨os, hos, _, hds⟩ := id hs
  unfold Slice.sliceApplied Slice.sliceFields
  refine wpAny_bind (wpAny_bind (wpAny_field hos hds (x := .none) rfl (wpAny_bind (wpAny_field hos hds (x := .none) rfl (wpAny_bind (wpAny_field hos hds (x := vk) rfl (wpAny_pure ?_)))))))
  refine wpAny_bind (HT.slicePart_ pk ?_)
  show wpAny _ _ (if ((-1 : Int) == 0) = true then _ else _) _ _ s
  rw [if_neg (by decide)]
  refine wpAny_bind (slicePart_none (wpAny_bind (slicePart_none (wpAny_bind (wpAny_pure ?_)))))
  show wpAny _ _ (match Slice.sliceAdjust none none (-1) (n : Int) with | (lo, hi) => pure (lo, (-1 : Int), Slice.slicePlaces lo hi (-1))) _ _ s
  rw [rev_adjust]
  show wpAny _ _ (pure ((n : Int) - 1, (-1 : Int), Slice.slicePlaces ((n : Int) - 1) (-1) (-1))) _ _ s
  rw [rev_places]
  exact wpAny_pure h
theorem rev_item {t sl : Addr} {items : Array Value} {vk : Value} {Q : Value → Shared → Prop} (ht : IsTup s.heap t items) (hs : s.heap.IsSliceOf sl .none .none vk) (pk : IsPart vk (some (-1))) (hz : items.size ≤ sizeLine)
    (h : Q (.ref s.heap.objs.size) { s with heap := s.heap.push { cls := .type "tuple", data := .seq items.toList.reverse.toArray } }) : wpAny (model prog w) A (getItem (.ref t) (.ref sl)) Q E s := by
  have ok : sizeOk (.seq items.toList.reverse.toArray) := by
    show items.toList.reverse.toArray.size ≤ sizeLine
    rw [List.size_toArray, List.length_reverse, Array.length_toList]
    exact hz
  obtain ⟨os, hos, hcs, _⟩ := id hs
  have hTs : s.TypeIs (.ref sl) "slice" := ⟨os, hos, hcs⟩
  unfold getItem
  try with_reducible refine wpAny_holding ?_
  first | refine wpAny_bind (wpAny_pure ?_) | skip
  refine wpAny_bind (wpAny_sequenceKey ht.typeIs (by decide) ?_)
  refine wpAny_bind (wpAny_callSpecial?_slot (name := Str.ofString "__getitem__") ht.typeIs PyProof.Rows.slot_tuple_getitem (wpAny_call_entry PyProof.Rows.slot_tuple_getitem ht.typeIs entry_tuple_getitem ?_ (args_tuple_getitem _ _)))
  show wpAny _ _ (Tuple.tupleItemsOf (.ref t) >>= _) _ _ s
  refine wpAny_bind (tupleItemsOf_ ht (wpAny_bind (wpAny_typeOf hTs ?_)))
  rw [if_pos (by decide)]
  refine wpAny_bind (rev_applied hs pk ?_)
  show wpAny _ _ (if ((((items.size : Nat) : Int) - 1) == 0 && (-1 : Int) == 1 && items.size == items.size) = true then _ else _) _ _ s
  rw [if_neg (by simp), rev_pick]
  first
    | exact wpAny_bind (m := Tuple.tupleExact _) (wpAny_newObj_type (wpAny_pure ⟨_, rfl, wpAny_pure h⟩) ok)
    | exact wpAny_bind (m := Tuple.tupleExact _) (wpAny_newObj_type (wpAny_bind (wpAny_pure (wpAny_pure ⟨_, rfl, wpAny_pure h⟩))) ok)
    | exact wpAny_bind (wpAny_bind (m := Tuple.tupleExact _) (wpAny_newObj_type (wpAny_pure (wpAny_pure ⟨_, rfl, wpAny_pure h⟩)) ok))
    | exact wpAny_bind (wpAny_bind (m := Tuple.tupleExact _) (wpAny_newObj_type (wpAny_pure ⟨_, rfl, wpAny_pure h⟩) ok))
end
def tRevT (K : PySem.W.Frag) (te tk : TE) : TE := fun σ H Q => te σ H fun x H1 => tPart tk σ H1 fun o H2 => o = some (-1) ∧ ∃ a xs, x = .ref a ∧ H2 a = some (.tup xs) ∧ ∀ p, H2 p = none → Q (.ref p) (upd H2 p (.tup xs.reverse))
theorem vals_revs : ∀ {zs : List V} {ws : List Value}, Vals zs ws → Vals zs.reverse ws.reverse
  | _, _, .nil => .nil
  | _, _, .cons r t => by
    rw [List.reverse_cons, List.reverse_cons]
    exact (vals_revs t).append (.cons r .nil)
section
variable {X : Cx} {e k : Expr} {te tk : TE} {pos p2 : Pos}
theorem pe_revT {ops : Value → Value → List Value} (he : PE X e te) (hk : PE X k tk) (hs : ∀ o i : Value, subscripted (.Slice none none (some k) p2) false o i = operate (ops o i) (getItem o i)) : PE X (.Subscript e (.Slice none none (some k) p2) pos) (tRevT X.K te tk) := by
  refine ⟨fun pins s σ H Q I h => ?_⟩
  refine Subscript_ (thn (he.run pins s σ H _ I h) fun v s1 ⟨x, H1, I1, r1, q1⟩ => ?_)
  refine wpAny_Slice (thn (po_none.run pins s1 σ H1 (fun o H' => o = none ∧ H' = H1) I1 ⟨rfl, rfl⟩) fun vl s2 ⟨l, H2, I2, pl, q2⟩ => thn (po_none.run pins s2 σ H2 (fun o H' => o = none ∧ H' = H2) I2 ⟨rfl, rfl⟩) fun vu s3 ⟨u, H3, I3, pu, q3⟩ => ?_)
  obtain ⟨rfl, rfl⟩ := q2
  obtain ⟨rfl, rfl⟩ := q3
  cases pl
  cases pu
  refine thn ((po_some hk).run pins s3 σ _ _ I3 q1) fun vk s4 ⟨o, H4, I4, pk, ho, a, xs, ex, ea, q4⟩ => ?_
  subst ex ho
  obtain rfl : v = Value.ref a := r1
  have I5 : Inv X pins σ H4 { s4 with heap := s4.heap.push { cls := .type "slice", data := .fields #[.none, .none, vk] } } := I4.kept (t' := s4.toks) fun b ob q => Heap.get?_push_of_some _ q
  obtain ⟨its, r, ht, hz⟩ := I5.tuple (SqT.of ea)
  have hg := rev_item (prog := X.prog) (w := X.w) (A := X.A) (E := X.xe) (Q := EP X pins σ Q) (s := { s4 with heap := s4.heap.push { cls := .type "slice", data := .fields #[.none, .none, vk] } }) ht (Heap.IsSliceOf.new ..) pk (by rw [List.size_toArray, ← r.length]; exact hz) ?_
  · exact tail_any ht.typeIs PyProof.Rows.slot_tuple_getitem.lookup hg (hs _ _)
  · rw [List.toList_toArray]
    have fr : H4 (s4.heap.push { cls := .type "slice", data := .fields #[.none, .none, vk] }).objs.size = none := I5.hok.fresh (Nat.le_refl _)
    refine ⟨.ref (s4.heap.push { cls := .type "slice", data := .fields #[.none, .none, vk] }).objs.size, _, I5.laid (t' := s4.toks) (a := (s4.heap.push { cls := .type "slice", data := .fields #[.none, .none, vk] }).objs.size) (o := .tup xs.reverse)
      (h' := (s4.heap.push { cls := .type "slice", data := .fields #[.none, .none, vk] }).push { cls := .type "tuple", data := .seq its.reverse.toArray }) (fun b o q => Heap.get?_push_of_some _ q) (Nat.le_refl _) ?_, rfl, q4 _ fr⟩
    exact ⟨by rw [List.length_reverse]; exact hz, its.reverse, vals_revs r, ⟨_, Heap.get?_push_size _ rfl, rfl, 0, rfl⟩⟩
end
end EV
end L2

set_option Elab.async false
set_option linter.all false
set_option maxRecDepth 100000
set_option maxHeartbeats 4000000
/-! Pairs of an int and a text: <, <=. Raising an own exception whose __init__ has put fields. -/
namespace L2
open PySem PySem.Spec PyProof.Rows
abbrev IS : Type := Int × Str
def ltIS (a b : IS) : Bool := if a.1 = b.1 then decide (sl a.2 < sl b.2) else decide (a.1 < b.1)
def tIS (a : IS) : HO := .tup [.int a.1, .str a.2]
def rLtIS : R2 := fun x y H Q => ∃ (a b : Addr) (m n : IS), x = .ref a ∧ y = .ref b ∧ H a = some (tIS m) ∧ H b = some (tIS n) ∧ Q (.bl (ltIS m n)) H
def rLeIS : R2 := fun x y H Q => ∃ (a b : Addr) (m n : IS), x = .ref a ∧ y = .ref b ∧ H a = some (tIS m) ∧ H b = some (tIS n) ∧ Q (.bl (!ltIS n m)) H
theorem lexP_lt (m n : IS) : Ob.lexAt (fun j => if j = 0 then m.1 == n.1 else m.2 == n.2) (fun j => if j = 0 then decide (m.1 < n.1) else decide (sl m.2 < sl n.2)) false 0 2 = ltIS m n := by
  obtain ⟨m1, m2⟩ := m
  obtain ⟨n1, n2⟩ := n
  simp only [Ob.lexAt, ltIS]
  by_cases e1 : m1 = n1
  · subst e1
    by_cases e2 : m2 = n2
    · subst e2
      have z : ¬ sl m2 < sl m2 := List.lt_irrefl _
      simp
    · simp [e2]
  · simp [e1]
theorem lexP_le (m n : IS) : Ob.lexAt (fun j => if j = 0 then m.1 == n.1 else m.2 == n.2) (fun j => if j = 0 then decide (m.1 ≤ n.1) else decide (sl m.2 ≤ sl n.2)) true 0 2 = !ltIS n m := by
  obtain ⟨m1, m2⟩ := m
  obtain ⟨n1, n2⟩ := n
  simp only [Ob.lexAt, ltIS]
  by_cases e1 : m1 = n1
  · subst e1
    by_cases e2 : m2 = n2
    · subst e2
      have z : ¬ sl m2 < sl m2 := List.lt_irrefl _
      simp
    · have e2' : ¬ n2 = m2 := fun z => e2 z.symm
      simp only [beq_self_eq_true, if_true, Nat.zero_add, Nat.one_ne_zero, if_false, beq_iff_eq, e2]
      by_cases z : sl m2 ≤ sl n2
      · rw [decide_eq_true z, decide_eq_false (List.not_lt.mpr z)]
        rfl
      · rw [decide_eq_false z, decide_eq_true (List.not_le.mp z)]
        rfl
  · have e1' : ¬ n1 = m1 := fun z => e1 z.symm
    simp only [if_true, beq_iff_eq, e1, e1', if_false]
    by_cases z : m1 ≤ n1
    · rw [decide_eq_true z, decide_eq_false (by omega)]
      rfl
    · rw [decide_eq_false z, decide_eq_true (by omega)]
      rfl
theorem lt_strR {A : Around} {s : Shared} (a b : Str) (t u : Tok) : Ob.RcOp .Lt A s (.str a t) (.str b u) (decide (sl a < sl b)) := fun _ _ _ _ h => PyProof.Rows.lt_str h
section
variable {X : Cx}
theorem vals_2 {x y : V} {us : List Value} (r : Vals [x, y] us) : ∃ u w', us = [u, w'] ∧ RelV x u ∧ RelV y w' := by
  cases r with
  | cons r1 r =>
    cases r with
    | cons r2 r =>
      cases r
      exact ⟨_, _, rfl, r1, r2⟩
theorem op_ltIS (hu : X.A.units < cLine) : OpR X (compareOp .Lt) rLtIS := by
  intro pins s σ H x y v u Q I rx ry h
  obtain ⟨a, b, m, n, rfl, rfl, ha, hb, q⟩ := h
  cases rx
  cases ry
  obtain ⟨its, r1, p1, _⟩ := I.tuple (SqT.of ha)
  obtain ⟨its2, r2, p2, _⟩ := I.tuple (SqT.of hb)
  obtain ⟨u1, u2, rfl, ⟨t1, rfl⟩, ⟨t2, rfl⟩⟩ := vals_2 r1
  obtain ⟨v1, v2, rfl, ⟨w1, rfl⟩, ⟨w2, rfl⟩⟩ := vals_2 r2
  have R := Ob.RcOp.tuples_lt (A := X.A) (s := s) (e := fun j => if j = 0 then m.1 == n.1 else m.2 == n.2) (r := fun j => if j = 0 then decide (m.1 < n.1) else decide (sl m.2 < sl n.2)) p1 p2 hu
    (fun j h1 h2 => by
      match j, h1 with
      | 0, _ => exact SeqAt.EqAt.int_int _ _ _ _
      | 1, _ => exact SeqAt.EqAt.str_str _ _ _ _)
    (fun j h1 h2 _ => by
      match j, h1 with
      | 0, _ => exact Ob.RcOp.lt_int _ _ _ _
      | 1, _ => exact lt_strR _ _ _ _)
  have e3 : Ob.lexAt (fun j => if j = 0 then m.1 == n.1 else m.2 == n.2) (fun j => if j = 0 then decide (m.1 < n.1) else decide (sl m.2 < sl n.2)) (decide (2 < 2)) 0 (min 2 2) = ltIS m n := lexP_lt m n
  have z : wpAny (model X.prog X.w) X.A (compareOp .Lt (.ref a) (.ref b)) (EP X pins σ Q) X.xe s := R X.prog X.w X.xe (EP X pins σ Q) ⟨.bl _, H, I, rfl, by
    rw [← e3] at q
    exact q⟩
  exact z
theorem op_leIS (hu : X.A.units < cLine) : OpR X (compareOp .LtE) rLeIS := by
  intro pins s σ H x y v u Q I rx ry h
  obtain ⟨a, b, m, n, rfl, rfl, ha, hb, q⟩ := h
  cases rx
  cases ry
  obtain ⟨its, r1, p1, _⟩ := I.tuple (SqT.of ha)
  obtain ⟨its2, r2, p2, _⟩ := I.tuple (SqT.of hb)
  obtain ⟨u1, u2, rfl, ⟨t1, rfl⟩, ⟨t2, rfl⟩⟩ := vals_2 r1
  obtain ⟨v1, v2, rfl, ⟨w1, rfl⟩, ⟨w2, rfl⟩⟩ := vals_2 r2
  have R := Ob.RcOp.tuples_le (A := X.A) (s := s) (e := fun j => if j = 0 then m.1 == n.1 else m.2 == n.2) (r := fun j => if j = 0 then decide (m.1 ≤ n.1) else decide (sl m.2 ≤ sl n.2)) p1 p2 hu
    (fun j h1 h2 => by
      match j, h1 with
      | 0, _ => exact SeqAt.EqAt.int_int _ _ _ _
      | 1, _ => exact SeqAt.EqAt.str_str _ _ _ _)
    (fun j h1 h2 _ => by
      match j, h1 with
      | 0, _ => exact Ob.RcOp.le_int _ _ _ _
      | 1, _ => exact RcOp.le_str _ _ _ _)
  have e3 : Ob.lexAt (fun j => if j = 0 then m.1 == n.1 else m.2 == n.2) (fun j => if j = 0 then decide (m.1 ≤ n.1) else decide (sl m.2 ≤ sl n.2)) (decide (2 ≤ 2)) 0 (min 2 2) = !ltIS n m := lexP_le m n
  have z : wpAny (model X.prog X.w) X.A (compareOp .LtE (.ref a) (.ref b)) (EP X pins σ Q) X.xe s := R X.prog X.w X.xe (EP X pins σ Q) ⟨.bl _, H, I, rfl, by
    rw [← e3] at q
    exact q⟩
  exact z
end
namespace EV
/-- an exception's fields, told as those of one that flies -/
theorem exd_told {X : Cx} {pins : List (Addr × Obj)} {σ : L2.St} {H : Hp} {s : Shared} {d : Addr} {fs : List (Str × V)} (I : Inv X pins σ H s) (e : H d = some (exd d fs)) : Inv X pins σ (upd H d (.xd fs)) s := by
  obtain ⟨mA, hns, rel⟩ := exd_at I.hok e
  obtain ⟨od, ho, _⟩ := lookIn_ns hns
  exact I.write (h' := s.heap) (t' := s.toks) (x := d) (e := d) (o := .xd fs) (by rw [e]; exact True.intro) (.inl rfl) (fun b u _ q => q) (by
    obtain ⟨o, es, ep, e1, _⟩ := hns
    exact ⟨_, e1⟩) ⟨mA, hns, rel⟩
theorem pmk_own3 {X : Cx} {e : Expr} {te : TE} (hx : X.ex = []) (he : PE X e te) :
    PMk X e (fun σ H Q => te σ H fun x H1 => ∃ (a C d : Addr) (fs : List (Str × V)), x = .ref a ∧ H1 a = some (exo a C (some d)) ∧ d ≠ a ∧ H1 d = some (exd d fs) ∧ Fr0 X.H_0 a ∧ Raises X (.ref C) ∧ Q (.ref C) (some d) (upd (delH H1 a) d (.xd fs))) := by
  intro pins s σ H Q I h
  refine wpAny_mono (he.run pins s σ H _ I h) (fun u s1 hu => ?_) fun _ _ x => x
  obtain ⟨v, H1, I1, r1, a, C, d, fs, rfl, ha, nda, hd, h0, hr, q⟩ := hu
  cases r1
  obtain ⟨t1, ho⟩ := exo_at I1.hok ha
  obtain ⟨G, gs, ga, J⟩ := I1.untrack ha h0 hx
  have hd' : delH H1 a d = some (exd d fs) := by
    rw [delH_ne nda]
    exact hd
  have J2 := exd_told J hd'
  have na : upd (delH H1 a) d (.xd fs) a = none := by
    rw [upd_ne nda.symm]
    exact delH_same
  exact ⟨a, _, _, { s1 with heap := G }, _, .ref C, some d, rfl, J2, gs, ga, ho, ⟨rfl, rfl⟩, rfl, rfl, na, rfl, I1.bare, hr, q⟩
end EV
end L2

set_option Elab.async false
set_option linter.all false
set_option maxRecDepth 100000
set_option maxHeartbeats 4000000
/-! BadFraming; is_joined of what isn't; need_framing of what is no framing. -/
namespace K04
open PySem L2 L2.EV
abbrev sJoined : Stmt := top 14
abbrev sNeedF : Stmt := top 15
def spOne (C : Addr) (f : Str) : Sp := fun vs H Q _ => ∃ (a : Addr) (x : V), vs = [.ref a, x] ∧ H a = some (exo a C none) ∧
  ∀ dx, H dx = none → dx ≠ a → Q .non (upd (upd H dx (exd dx [(f, x)])) a (exo a C (some dx)))
/-- what is asked of a built-in base, for B.__init__(self, ..) -/
structure BI (K : PySem.W.Frag) (mg : Str → Option Value) (nB : Str) (B initId : String) : Prop where
  mg : mg nB = none
  bt : bootBuiltins nB = some (.type B)
  ty : typeOf (.type B) = pure (.type "type")
  vV : PySem.W.findCls K (.type B) (.type "type") "__init__" = some (.val (.builtin initId))
  st : Manifest.isStub B = false
def gP : List Value → List Value → List Value := fun us _ => us
def vP : List V → List V → List V := fun vs _ => vs
theorem kb_pos {K : PySem.W.Frag} {fd : FuncData} {ps : List Str} {n : Nat} (b : Binds K fd ps []) (hn : ps.length = n) : KBn K fd ps n [] gP vP := by
  refine ⟨fun s us ws X l1 l2 => ?_, fun r _ => r⟩
  have z := b s us X (by rw [List.append_nil, l1, hn])
  rw [List.append_nil] at z
  exact z
abbrev bmVE : List Value := [.type "ValueError", .type "Exception", .type "BaseException", .type "object"]
theorem same_none {H H' : Hp} {a : Addr} (s : Same H H') (n : H' a = none) : H a = none := by
  cases e : H a with
  | none => rfl
  | some o =>
    rw [s _ _ e] at n
    cases n
theorem drop_at {α : Type} {l : List α} {i : Nat} {x : α} (h : l[i]? = some x) : l.drop i = x :: l.drop (i + 1) := by
  obtain ⟨hi, e⟩ := List.getElem?_eq_some_iff.mp h
  rw [List.drop_eq_getElem_cons hi, e]
abbrev sBadFraming : Stmt := inClass (top 2) 0
section
variable {P : Program} {w : World} {K : PySem.W.Frag} {mg : Str → Option Value} {base : Heap}
theorem scBadFraming : FnScope ["self", "number"] ["self", "number"] (defScope sBadFraming) := ⟨rfl, rfl, rfl, by decide +kernel, rfl, by decide +kernel, by decide +kernel⟩
theorem ok_BadFraming {f C : Addr} {fd : FuncData} (F : Fun K "__init__" "BadFraming.__init__" sBadFraming f fd) (T : OxC K C "ValueError" "ValueError.__new__" "ValueError.__init__" [.type "ValueError", .type "Exception", .type "BaseException", .type "object"]) (I : BI K mg "ValueError" "ValueError" "ValueError.__init__")
    (n0 : PySem.W.findIn K (.ref C) "number" = some none) : FnOk P w K mg base CX0 1 f fd ["self", "number"] (spOne C "number") := by
  refine F.ok scBadFraming (fun vs H Q E h => ?_) (fun cdv A outer s H vs Q E hr h => ?_)
  · obtain ⟨a, x, rfl, _⟩ := h
    rfl
  · obtain ⟨a, x, rfl, e, q⟩ := h
    refine ⟨_, pss_cons (ps_expr (pe_bin (newId := "ValueError.__new__") (bm := [.type "ValueError", .type "Exception", .type "BaseException", .type "object"]) (by rfl) I.mg I.bt I.ty I.vV I.st (pa_cons (pv 0) (pa_cons pe_str pa_nil)) rfl)) (pss_one (ps_put (B := "ValueError") (newId := "ValueError.__new__") (initId := "ValueError.__init__") (bm := [.type "ValueError", .type "Exception", .type "BaseException", .type "object"]) (pv 0) (pv 1) rfl)), ?_⟩
    exact ⟨_, rfl, a, C, _, rfl, by show 1 ≤ 1000; decide, T, e, _, rfl, _, rfl, a, C, rfl, T, n0, .inl ⟨e, fun dx hn ne => q dx hn ne⟩⟩
end
/-- what is known of BadFraming -/
structure Bfr (K : PySem.W.Frag) (mg : Str → Option Value) where
  C : Addr
  f : Addr
  d : FuncData
  T : OxC K C "ValueError" "ValueError.__new__" "ValueError.__init__" bmVE
  I : BI K mg "ValueError" "ValueError" "ValueError.__init__"
  F : Fun K "__init__" "BadFraming.__init__" sBadFraming f d
  b : Binds K d ["self", "number"] []
  m : mg "BadFraming" = some (.ref C)
  iC : PySem.W.findIn K (.ref C) "__init__" = some (some (.ref f))
  tI : PySem.W.typeIn K (.ref f) = some (.type "function")
  n0 : PySem.W.findIn K (.ref C) "number" = some none
  su : PySem.W.subIn K (.ref C) (.type "BaseException") = some true
  ty : PySem.W.typeIn K (.ref C) = some (.type "type")
  own : PySem.W.subIn K (.ref C) (.ref C) = some true
theorem bad_heap {H : Hp} {C a dx : Addr} {x : V} (na : H a = none) (hn : upd H a (exo a C none) dx = none) (ne : dx ≠ a) :
    (upd (upd (upd H a (exo a C none)) dx (exd dx [("number", x)])) a (exo a C (some dx))) a = some (exo a C (some dx)) ∧
    (upd (upd (upd H a (exo a C none)) dx (exd dx [("number", x)])) a (exo a C (some dx))) dx = some (exd dx [("number", x)]) ∧
    Same H (upd (delH (upd (upd (upd H a (exo a C none)) dx (exd dx [("number", x)])) a (exo a C (some dx))) a) dx (.xd [("number", x)])) := by
  have hd : H dx = none := by
    rw [upd_ne ne] at hn
    exact hn
  refine ⟨upd_same, by rw [upd_ne ne]; exact upd_same, fun b o e => ?_⟩
  have h1 := ne_of_none e na
  have h2 := ne_of_none e hd
  rw [upd_ne h2, delH_ne h1, upd_ne h1, upd_ne h2, upd_ne h1]
  exact e
/-- the error is told with this field -/
def Eb (C : Addr) (E : XK) (H : Hp) (r : V) : Prop := ∀ (H' : Hp) (dx : Addr), Same H H' → H' dx = some (.xd [("number", r)]) → E (.ref C) (some dx) H'
theorem Eb.same {C : Addr} {E : XK} {H H' : Hp} {r : V} (h : Eb C E H r) (s : Same H H') : Eb C E H' r := fun H2 dx s2 e => h H2 dx (s.trans s2) e
/-- a framing of right steps that isn't joined -/
def JF (H : Hp) (f : Addr) : Prop := ∃ (fr : List T3) (last : Nat) (S : Int → Prop) (k : Int), FrA H f fr ∧ Fb fr last ∧ (∀ x ∈ fr, x.1 = ((0 : Nat) : Int) → S x.2.2) ∧ (∀ x ∈ fr, S x.1 → S x.2.2) ∧ (∃ x ∈ fr, x.1 = k ∨ x.2.2 = k) ∧ ¬ S k
theorem JF.same {H H' : Hp} {f : Addr} (h : JF H f) (s : Same H H') : JF H' f := by
  obtain ⟨fr, last, S, k, fa, r⟩ := h
  exact ⟨fr, last, S, k, fa.same s, r⟩
def spJF : Sp := fun vs H Q _ => ∃ (f : Addr), vs = [.ref f] ∧ JF H f ∧ ∀ H', Same H H' → Q (.bl false) H'
def lb3 : Option T3 → T3 → Bool
  | none, _ => false
  | some p, t => !lt3 p t
/-- the number of the first thing that is no step, or not greater than the one ahead -/
def wrgF : List PyData → Option T3 → Nat → Option Nat
  | [], _, _ => none
  | d :: ds, last, k => match stpD d with
    | none => some k
    | some t => if lb3 last t = true then some k else wrgF ds (some t) (k + 1)
theorem wrgF_none {d : PyData} {ds : List PyData} {last : Option T3} {k : Nat} (h : stpD d = none) : wrgF (d :: ds) last k = some k := by
  rw [wrgF, h]
theorem wrgF_some {d : PyData} {ds : List PyData} {last : Option T3} {k : Nat} {t : T3} (h : stpD d = some t) : wrgF (d :: ds) last k = if lb3 last t = true then some k else wrgF ds (some t) (k + 1) := by
  rw [wrgF, h]
theorem stp_at {H : Hp} {v : V} {d : PyData} {t : T3} (h : Da H v d) (e : stpD d = some t) : ∃ a, v = .ref a ∧ S3 H a t := by
  obtain ⟨rfl, _⟩ := stpD_some e
  cases h with
  | tup e all =>
    match all with
    | .cons (.int _) (.cons (.str _) (.cons (.int _) .nil)) => exact ⟨_, rfl, e⟩
/-- what is no framing, and the number that is told -/
def Bad (H : Hp) (v : V) (r : V) : Prop := (∃ d, Da H v d ∧ isTup d = false ∧ r = .non) ∨ (∃ a xs, v = .ref a ∧ H a = some (.tup xs) ∧ 16 < xs.length ∧ r = .non) ∨
  (∃ (a : Addr) (xs : List V) (ds : List PyData), v = .ref a ∧ H a = some (.tup xs) ∧ DaAll H xs ds ∧ ds.length ≤ 16 ∧ (∀ d ∈ ds, szS d) ∧
    ((ds = [] ∧ r = .non) ∨ (∃ k : Nat, ds ≠ [] ∧ wrgF ds none 0 = some k ∧ r = .int (k : Int)) ∨ (ds ≠ [] ∧ wrgF ds none 0 = none ∧ JF H a ∧ r = .int (-1))))
theorem Bad.same {H H' : Hp} {v r : V} (h : Bad H v r) (s : Same H H') : Bad H' v r := by
  rcases h with ⟨d, da, c, e⟩ | ⟨a, xs, e1, e2, e4, e3⟩ | ⟨a, xs, ds, e1, e2, e3, e4, e5, h⟩
  · exact .inl ⟨d, Da.same s _ _ da, c, e⟩
  · exact .inr (.inl ⟨a, xs, e1, s _ _ e2, e4, e3⟩)
  · refine .inr (.inr ⟨a, xs, ds, e1, s _ _ e2, DaAll.same s _ _ e3, e4, e5, ?_⟩)
    rcases h with h | h | ⟨h1, h2, h3, h4⟩
    · exact .inl h
    · exact .inr (.inl h)
    · exact .inr (.inr ⟨h1, h2, h3.same s, h4⟩)
def spNeedFX (C : Addr) : Sp := fun vs H Q E => ∃ (v r : V), vs = [v] ∧ Bad H v r ∧ Eb C E H r
/-- the defs that need_framing calls -/
structure Fs (K : PySem.W.Frag) (mg : Str → Option Value) where
  B : Bfr K mg
  fN : Addr
  fP : Addr
  fS : Addr
  fL : Addr
  fW : Addr
  fJ : Addr
  fF : Addr
  dN : FuncData
  dP : FuncData
  dS : FuncData
  dL : FuncData
  dW : FuncData
  dJ : FuncData
  dF : FuncData
  N : Fun K "is_number" "is_number" sNum fN dN
  P : Fun K "is_piece" "is_piece" sPc fP dP
  S : Fun K "is_step" "is_step" sStep fS dS
  L : Fun K "listed_standings" "listed_standings" sListed fL dL
  W : Fun K "ways_from" "ways_from" sWays fW dW
  J : Fun K "is_joined" "is_joined" sJoined fJ dJ
  F : Fun K "need_framing" "need_framing" sNeedF fF dF
  bN : Binds K dN ["thing", "many"] []
  bP : Binds K dP ["thing"] []
  bS : Binds K dS ["thing"] []
  bL : Binds K dL ["framing"] []
  bW : Binds K dW ["framing", "begin"] []
  bJ : Binds K dJ ["framing"] []
  bF : Binds K dF ["thing"] []
  mN : mg "is_number" = some (.ref fN)
  mP : mg "is_piece" = some (.ref fP)
  mS : mg "is_step" = some (.ref fS)
  mL : mg "listed_standings" = some (.ref fL)
  mW : mg "ways_from" = some (.ref fW)
  mJ : mg "is_joined" = some (.ref fJ)
  mF : mg "need_framing" = some (.ref fF)
  T : TxtF mg
  so : mg "sorted" = none
  en : mg "enumerate" = none
  ms : ∃ t, mg "MOST_STEPS" = some (.int 16 t)
section
variable {P : Program} {w : World} {K : PySem.W.Frag} {mg : Str → Option Value} {base : Heap}
theorem scJoined : FnScope ["framing", "reached", "standing"] ["framing"] (defScope sJoined) := ⟨rfl, rfl, rfl, by decide +kernel, rfl, by decide +kernel, by decide +kernel⟩
theorem ok_JF (Z : Fs K mg) : FnOk P w K mg base CX0 2 Z.fJ Z.dJ ["framing"] spJF := by
  have GL : FnOk P w K mg base CX0 1 Z.fL Z.dL ["framing"] spListed := ok_listed Z.L Z.so
  have GW : FnOk P w K mg base CX0 1 Z.fW Z.dW ["framing", "begin"] spWays := ok_ways Z.W Z.en
  refine Z.J.ok scJoined (fun vs H Q E h => ?_) (fun cdv A outer s H vs Q E hr h => ?_)
  · obtain ⟨f, rfl, _⟩ := h
    rfl
  · obtain ⟨f, rfl, ⟨fr, last, S, kk, fa, fm, c0, c1, hk, nk⟩, q⟩ := h
    have hu := hu_of hr
    refine ⟨_, pss_cons (ps_set (i := 1) scJoined.nd rfl (Or.inl rfl) (pe_call GW hr (by rfl) Z.mW Z.W.kp Z.bW .nil pass0 (pa_cons (pv 0) (pa_cons pe_int pa_nil))))
      (pss_cons (ps_for PassesOwn.never rfl (pi_list (pe_call GL hr (by rfl) Z.mL Z.L.kp Z.bL .nil pass0 (pa_cons (pv 0) pa_nil))) (pg_name (i := 2) scJoined.nd rfl (Or.inl rfl))
        (pss_one (ps_if (pw_or (pt_cmp (pc_dnotin hu (pv 2) (pv 1)) (by rfl)) (pw_or1 (pt_cmp (pc_dnotin hu pe_int (pe_call GW hr (by rfl) Z.mW Z.W.kp Z.bW .nil pass0 (pa_cons (pv 0) (pa_cons (pv 2) pa_nil)))) (by rfl)))).pt
          (pss_one (ps_ret pe_bl)) pss_nil)))
      (pss_one (ps_ret pe_bl))), ?_⟩
    refine ⟨_, rfl, f, fr, last, 0, S, rfl, fa, fm, Nat.zero_le _, c0, c1, fun H1 d kvs s1 n1 e1 h1 k1 => ?_⟩
    refine ⟨_, rfl, f, fr, last, rfl, fa.same s1, fm, fun H2 p ns s2 n2 e2 l2 k2 a2 => ⟨p, rfl, ⟨_, SqL.of e2⟩, for_it (walk_list (xs := ns.map V.int)) (fun i σ H' => ∃ v2 : Option V, σ = [some (.ref f), some (.ref d), v2] ∧ Same H2 H' ∧ ∀ g ∈ ns.take i, g ≠ kk)
      ⟨none, rfl, (fun _ _ e => e), fun g z => by cases z⟩ (fun i σ H' _ ⟨_, _, z, _⟩ => SqL.of (z _ _ e2)) ?_ ?_⟩⟩
    · rintro i x σ H3 H4 hi ⟨v2, rfl, s3, al⟩ ⟨rfl, hx⟩
      obtain ⟨k, hk, hki, rfl⟩ : ∃ k : Int, k ∈ ns ∧ ns[i]? = some k ∧ x = .int k := by
        rw [List.getElem?_map] at hx
        cases e : ns[i]? with
        | none =>
          rw [e] at hx
          cases hx
        | some k =>
          rw [e] at hx
          exact ⟨k, List.mem_of_getElem? e, rfl, (Option.some.inj hx).symm⟩
      obtain ⟨k0, k1'⟩ := k2 k hk
      obtain ⟨b, rfl⟩ := Int.eq_ofNat_of_zero_le k0
      have hb : b ≤ last := by omega
      refine ⟨_, rfl, _, rfl, d, _, rfl, DGet.k (k := Sum.inl (b : Int)) (s3 _ _ (s2 _ _ e1)), _, rfl, ?_⟩
      cases hh : (valV kvs (Sum.inl (b : Int) : Key)).isSome with
      | false => exact iteT (q _ (s1.trans (s2.trans s3)))
      | true =>
        refine iteF ?_
        refine ⟨_, rfl, _, rfl, f, fr, last, b, (fun _ => True), rfl, (fa.same s1).same (s2.trans s3), fm, hb, (fun _ _ _ => trivial), (fun _ _ _ => trivial), fun H5 d5 kvs5 s5 n5 e5 _ _ => ?_⟩
        refine ⟨d5, _, rfl, DGet.k (k := Sum.inl (0 : Int)) e5, _, rfl, ?_⟩
        cases h5 : (valV kvs5 (Sum.inl (0 : Int) : Key)).isSome with
        | false => exact iteT (q _ (s1.trans (s2.trans (s3.trans s5))))
        | true =>
          refine iteF ⟨_, rfl, s3.trans s5, fun g hg => ?_⟩
          rw [List.take_succ, hki] at hg
          rcases List.mem_append.mp hg with hg | hg
          · exact al g hg
          · have e9 : g = (b : Int) := by simpa using hg
            rw [e9]
            exact fun z => nk (z ▸ k1 _ hh)
    · rintro σ H3 ⟨v2, rfl, s3, al⟩
      have e9 : ns.take (ns.map V.int).length = ns := by rw [List.length_map, List.take_length]
      rw [e9] at al
      obtain ⟨x, hx, e⟩ := hk
      obtain ⟨y1, y2⟩ := a2 x hx
      rcases e with e | e
      · exact absurd e (al _ y1)
      · exact absurd e (al _ y2)
theorem scNeedF : FnScope ["thing", "number", "step"] ["thing"] (defScope sNeedF) := ⟨rfl, rfl, rfl, by decide +kernel, rfl, by decide +kernel, by decide +kernel⟩
theorem ok_needFX (Z : Fs K mg) : FnOk P w K mg base (L2.CX P w) 3 Z.fF Z.dF ["thing"] (spNeedFX Z.B.C) := by
  have GS : FnOk P w K mg base CX0 2 Z.fS Z.dS ["thing"] spStpD := ok_stpD Z.S Z.T Z.N Z.bN Z.mN Z.P Z.bP Z.mP
  have GJ : FnOk P w K mg base CX0 2 Z.fJ Z.dJ ["framing"] spJF := ok_JF Z
  have GB : FnOk P w K mg base CX0 1 Z.B.f Z.B.d ["self", "number"] (spOne Z.B.C "number") := ok_BadFraming Z.B.F Z.B.T Z.B.I Z.B.n0
  refine Z.F.okX scNeedF (fun vs H Q E h => ?_) (fun cdv A outer s H vs Q E hr h => ?_)
  · obtain ⟨v, r, rfl, _⟩ := h
    rfl
  · obtain ⟨v, r, rfl, bad, q⟩ := h
    have hu := hu_of hr
    have hu0 : (A.deeper (PyProof.Rows.envOfC "need_framing" (defScope sNeedF) s.heap.objs.size Z.fF cdv)).units < cLine := by omega
    obtain ⟨tm, eM⟩ := Z.ms
    refine ⟨_, pss_cons (ps_if (pw_or (pt_not (pt_val (pe_callB call_isi (by rfl) Z.T.isi PyProof.Rows.boot_isinstance (pa_cons (pv 0) (pa_cons (pe_bltn (v := .ty "tuple") (by rfl) Z.T.tuple (by decide +kernel) rfl) pa_nil)))))
        (pw_or1 (pt_not (pt_chain op_le op_le pe_int (pe_callB call_len_seq (by rfl) Z.T.len PySem.boot_len (pa_cons (pv 0) pa_nil)) (pe_glob (v := .int 16) (by rfl) eM ⟨_, rfl⟩))))).pt
        (pss_one (ps_raise rfl (takes_of rfl rfl rfl rfl) (pmk_own3 rfl (pe_new Z.B.T Z.B.iC Z.B.tI GB hr (kb_pos Z.B.b rfl) pass0 (by rfl) Z.B.m (pa_cons pe_non pa_nil))))) pss_nil)
      (pss_cons (ps_for (passes_of rfl) rfl (pi_enumT (by rfl) Z.en (pa_cons (pv 0) pa_nil)) (pg_tup rfl (pgs_cons (pg_name (i := 1) scNeedF.nd rfl (Or.inl rfl)) (pgs_cons (pg_name (i := 2) scNeedF.nd rfl (Or.inl rfl)) pgs_nil)))
        (pss_one (ps_if (pw_or (pt_not (pt_val (pe_call GS hr (by rfl) Z.mS Z.S.kp Z.bS .nil pass0 (pa_cons (pv 2) pa_nil))))
          (pw_or1 (pw_and (pt_cmpR op_gt (pv 1) pe_int (nomark _)) (pw_and1 (pt_cmpR (op_le3 hu0) (pv 2) (pe_ix ix_tup (pv 0) (pe_op op_sub (pv 1) pe_int) (fun _ _ => rfl)) (nomark _)))).pt)).pt
          (pss_one (ps_raise rfl (takes_of rfl rfl rfl rfl) (pmk_own3 rfl (pe_new Z.B.T Z.B.iC Z.B.tI GB hr (kb_pos Z.B.b rfl) pass0 (by rfl) Z.B.m (pa_cons (pv 1) pa_nil))))) pss_nil)))
      (pss_cons (ps_if (pt_not (pt_val (pe_call GJ hr (by rfl) Z.mJ Z.J.kp Z.bJ .nil pass0 (pa_cons (pv 0) pa_nil)))) (pss_one (ps_raise rfl (takes_of rfl rfl rfl rfl) (pmk_own3 rfl (pe_new Z.B.T Z.B.iC Z.B.tI GB hr (kb_pos Z.B.b rfl) pass0 (by rfl) Z.B.m (pa_cons (pe_un un_neg pe_int) pa_nil))))) pss_nil)
      (pss_one ps_never))), ?_⟩
    -- the raise, from any state that came so far
    have fin : ∀ {H1 : Hp} {a : Addr} {r : V} (s1 : Same H H1) (na : H1 a = none) (qe : Eb Z.B.C E H r) (dx : Addr), upd H1 a (exo a Z.B.C none) dx = none → dx ≠ a →
        ∃ (a0 C d : Addr) (fs : List (Str × V)), V.ref a = .ref a0 ∧ (upd (upd (upd H1 a (exo a Z.B.C none)) dx (exd dx [("number", r)])) a (exo a Z.B.C (some dx))) a0 = some (exo a0 C (some d)) ∧ d ≠ a0 ∧
          (upd (upd (upd H1 a (exo a Z.B.C none)) dx (exd dx [("number", r)])) a (exo a Z.B.C (some dx))) d = some (exd d fs) ∧ Fr0 H a0 ∧
          Raises (cxOf (L2.CX P w) P w K mg base ["thing", "number", "step"] "need_framing" (defScope sNeedF) Z.fF cdv A outer s H E) (.ref C) ∧
          E (.ref C) (some d) (upd (delH (upd (upd (upd H1 a (exo a Z.B.C none)) dx (exd dx [("number", r)])) a (exo a Z.B.C (some dx))) a0) d (.xd fs)) := by
      intro H1 a r s1 na qe dx hn ne
      obtain ⟨b1, b2, b3⟩ := bad_heap (x := r) na hn ne
      exact ⟨a, Z.B.C, dx, _, rfl, b1, ne, b2, fr0_none (same_none s1 na), raises_own Z.B.su Z.B.ty, qe _ dx (s1.trans b3) upd_same⟩
    rcases bad with ⟨d, da, c, rfl⟩ | ⟨a, xs, rfl, e, ll, rfl⟩ | ⟨a, xs, ds, rfl, ha, all, l16, szs, bad⟩
    · obtain ⟨t, ty, kt, _, _⟩ := da.ty (K := K)
      rw [c] at kt
      refine ⟨_, rfl, v, .ty "tuple", t, .type "tuple", false, rfl, .ty "tuple", ty, kt, false, rfl, iteT ?_⟩
      exact ⟨rfl, rfl, (by decide), fun a na => ⟨a, .non, rfl, upd_same, fun dx hn ne => ⟨rfl, fin (Same.refl H) na q dx hn ne⟩⟩⟩
    · refine ⟨_, rfl, .ref a, .ty "tuple", .type "tuple", .type "tuple", true, rfl, .ty "tuple", .base (.tup e), kit_ty (by decide +kernel), true, rfl, iteF ?_⟩
      refine ⟨_, rfl, a, _, rfl, .inr (SqT.of e), 1, _, rfl, rfl, _, rfl, ?_⟩
      refine iteT' (decide_eq_true (by omega)) ⟨_, 16, rfl, rfl, _, rfl, iteT' (by rw [decide_eq_false (by omega)]; rfl) ?_⟩
      exact ⟨rfl, rfl, (by decide), fun a na => ⟨a, .non, rfl, upd_same, fun dx hn ne => ⟨rfl, fin (Same.refl H) na q dx hn ne⟩⟩⟩
    · refine ⟨_, rfl, .ref a, .ty "tuple", .type "tuple", .type "tuple", true, rfl, .ty "tuple", .base (.tup ha), kit_ty (by decide +kernel), true, rfl, iteF ?_⟩
      have ln := all.len
      refine ⟨_, rfl, a, _, rfl, .inr (SqT.of ha), 1, _, rfl, rfl, _, rfl, ?_⟩
      by_cases hd0 : ds = []
      · have hr0 : r = .non := by
          rcases bad with ⟨_, z⟩ | ⟨_, z, _⟩ | ⟨z, _⟩
          · exact z
          · exact absurd hd0 z
          · exact absurd hd0 z
        subst hr0
        rw [hd0] at ln
        have ln : xs.length = 0 := ln
        refine iteF' (decide_eq_false (by omega)) ⟨_, rfl, iteT ?_⟩
        exact ⟨rfl, rfl, (by decide), fun a na => ⟨a, .non, rfl, upd_same, fun dx hn ne => ⟨rfl, fin (Same.refl H) na q dx hn ne⟩⟩⟩
      have dl : 0 < ds.length := List.length_pos_iff.mpr hd0
      refine iteT' (decide_eq_true (by omega)) ⟨_, 16, rfl, rfl, _, rfl, iteF' (by rw [decide_eq_true (by omega)]; rfl) ?_⟩
      have qr : ∀ i : Nat, wrgF ds none 0 = some i → Eb Z.B.C E H (.int (i : Int)) := fun i e => by
        rcases bad with ⟨z, _⟩ | ⟨k, _, z, rfl⟩ | ⟨_, z, _⟩
        · exact absurd z hd0
        · rw [z] at e
          cases e
          exact q
        · rw [z] at e
          cases e
      refine ⟨_, rfl, a, _, rfl, SqT.of ha, for_it (walk_enumT (xs := xs)) (fun i σ H' => ∃ (v1 v2 : Option V) (last : Option T3), σ = [some (.ref a), v1, v2] ∧ Same H H' ∧
          wrgF ds none 0 = wrgF (ds.drop i) last i ∧ (i = 0 → last = none) ∧ ∀ j, i = j + 1 → ∃ d t, ds[j]? = some d ∧ stpD d = some t ∧ last = some t)
        ⟨none, none, none, rfl, Same.refl H, rfl, fun _ => rfl, fun j hj => by omega⟩ (fun i σ H' _ ⟨_, _, _, _, z, _⟩ => SqT.of (z _ _ ha)) ?_ ?_⟩
      · rintro i x σ H1 H2 hi ⟨v1, v2, last, rfl, s1, inv, l0, l1⟩ ⟨T, xi, xo, rfl, nT, rfl, g1, g2⟩
        cases g1
        obtain ⟨d, hd, dv⟩ := all.at_ g2
        rw [drop_at hd] at inv
        have s2 := s1.trans (same_upd (o := HO.tup [V.int (i : Nat), xo]) nT)
        have dv2 := Da.same s2 _ _ dv
        refine ⟨T, _, rfl, SqT.of upd_same, rfl, _, _, rfl, _, _, rfl, rfl, ?_⟩
        refine ⟨_, rfl, xo, d, rfl, dv2, szs d (List.mem_of_getElem? hd), fun H3 s3 => ⟨_, rfl, ?_⟩⟩
        have s23 := s2.trans s3
        cases ed : stpD d with
        | none =>
          rw [wrgF_none ed] at inv
          exact iteT ⟨_, rfl, rfl, rfl, (by show 1 ≤ 1000; decide), fun a na => ⟨a, .int (i : Nat), rfl, upd_same, fun dx hn ne => ⟨rfl, fin s23 na (qr i inv) dx hn ne⟩⟩⟩
        | some t =>
          rw [wrgF_some ed] at inv
          refine iteF ?_
          have goOn : lb3 last t = false → ∃ (v1' v2' : Option V) (last' : Option T3), [some (V.ref a), some (V.int (i : Nat)), some xo] = [some (.ref a), v1', v2'] ∧
              wrgF ds none 0 = wrgF (ds.drop (i + 1)) last' (i + 1) ∧ (i + 1 = 0 → last' = none) ∧ ∀ j, i + 1 = j + 1 → ∃ d t, ds[j]? = some d ∧ stpD d = some t ∧ last' = some t := fun z => by
            rw [z, if_neg (by simp)] at inv
            exact ⟨_, _, _, rfl, inv, fun h => by omega, fun j h => by
              obtain rfl : i = j := by omega
              exact ⟨d, t, hd, ed, rfl⟩⟩
          refine ⟨_, rfl, (i : Int), 0, rfl, rfl, _, rfl, ?_⟩
          refine ite2 (fun z => ?_) (fun z => ?_)
          · have z1 : (0 : Int) < i := of_decide_eq_true z
            obtain ⟨j, rfl⟩ : ∃ j, i = j + 1 := ⟨i - 1, by omega⟩
            obtain ⟨dp, tp, hp1, hp2, rfl⟩ := l1 j rfl
            obtain ⟨vp, hvp, dvp⟩ := all.at' hp1
            obtain ⟨a1, rfl, ha1⟩ := stp_at (Da.same s3 _ _ dv2) ed
            obtain ⟨a2, rfl, ha2⟩ := stp_at (Da.same s23 _ _ dvp) hp2
            refine ⟨_, rfl, _, rfl, _, rfl, _, _, rfl, rfl, a, _, (j : Int), V.ref a2, rfl, ?_, SqT.of (s23 _ _ ha), atI_nat hvp, a1, a2, t, tp, rfl, rfl, ha1, ha2, _, rfl, ?_⟩
            · show V.int (((j + 1 : Nat) : Int) - 1) = V.int (j : Int)
              congr 1
              omega
            cases eb2 : lt3 tp t with
            | true =>
              obtain ⟨w1, w2, w3, w4, w5⟩ := goOn (by show (!lt3 tp t) = false; rw [eb2]; rfl)
              exact iteF ⟨w1, w2, w3, w4, s23, w5⟩
            | false =>
              rw [show lb3 (some tp) t = !lt3 tp t from rfl, eb2, if_pos (show (!false) = true from rfl)] at inv
              exact iteT ⟨_, rfl, rfl, rfl, (by show 1 ≤ 1000; decide), fun a na => ⟨a, .int ((j + 1 : Nat) : Nat), rfl, upd_same, fun dx hn ne => ⟨rfl, fin s23 na (qr _ inv) dx hn ne⟩⟩⟩
          · have i0 : i = 0 := by
              have : ¬ (0 : Int) < i := fun k => z (decide_eq_true k)
              omega
            have l9 := l0 i0
            subst l9
            obtain ⟨w1, w2, w3, w4, w5⟩ := goOn rfl
            exact iteF ⟨w1, w2, w3, w4, s23, w5⟩
      · rintro σ H1 ⟨v1, v2, last, rfl, s1, inv, _, _⟩
        rw [all.len, List.drop_length] at inv
        have inv : wrgF ds none 0 = none := inv
        obtain ⟨jf, rfl⟩ : JF H a ∧ r = .int (-1) := by
          rcases bad with ⟨z, _⟩ | ⟨k, _, z, _⟩ | ⟨_, _, z1, z2⟩
          · exact absurd z hd0
          · rw [inv] at z
            cases z
          · exact ⟨z1, z2⟩
        refine ⟨_, rfl, a, rfl, jf.same s1, fun H2 s2 => ⟨_, rfl, iteT ?_⟩⟩
        have s12 := s1.trans s2
        exact ⟨1, rfl, rfl, rfl, (by show 1 ≤ 1000; decide), fun a na => ⟨a, .int (-1), rfl, upd_same, fun dx hn ne => ⟨rfl, fin s12 na q dx hn ne⟩⟩⟩
end
end K04

set_option Elab.async false
set_option linter.all false
set_option maxRecDepth 100000
set_option maxHeartbeats 4000000
/-! is_joined, need_framing. -/
namespace K04
open PySem L2 L2.EV
def spJoined : Sp := fun vs H Q _ => ∃ (f : Addr) (fr : List T3) (last : Nat), vs = [.ref f] ∧ FrA H f fr ∧ Frm fr last ∧ ∀ H', Same H H' → Q (.bl true) H'
def spNeedF : Sp := fun vs H Q _ => ∃ (f : Addr) (fr : List T3) (last : Nat), vs = [.ref f] ∧ FrA H f fr ∧ Frm fr last ∧ ∀ H', Same H H' → Q (.ref f) H'
theorem Frm.fb {fr : List T3} {last : Nat} (fm : Frm fr last) : Fb fr last := ⟨fm.l1, fun x hx => by
  obtain ⟨b1, _, _, b3, _⟩ := fm.stp x hx
  obtain ⟨b5, b6⟩ := fm.lo x hx
  exact ⟨b1, b5, b3, b6⟩, fm.l5⟩
section
variable {P : Program} {w : World} {K : PySem.W.Frag} {mg : Str → Option Value} {base : Heap}
theorem ok_joined (Z : Fs K mg) : FnOk P w K mg base CX0 2 Z.fJ Z.dJ ["framing"] spJoined := by
  have GL : FnOk P w K mg base CX0 1 Z.fL Z.dL ["framing"] spListed := ok_listed Z.L Z.so
  have GW : FnOk P w K mg base CX0 1 Z.fW Z.dW ["framing", "begin"] spWays := ok_ways Z.W Z.en
  refine Z.J.ok scJoined (fun vs H Q E h => ?_) (fun cdv A outer s H vs Q E hr h => ?_)
  · obtain ⟨f, fr, last, rfl, _⟩ := h
    rfl
  · obtain ⟨f, fr, last, rfl, fa, fm, q⟩ := h
    have hu := hu_of hr
    refine ⟨_, pss_cons (ps_set (i := 1) scJoined.nd rfl (Or.inl rfl) (pe_call GW hr (by rfl) Z.mW Z.W.kp Z.bW .nil pass0 (pa_cons (pv 0) (pa_cons pe_int pa_nil))))
      (pss_cons (ps_for PassesOwn.never rfl (pi_list (pe_call GL hr (by rfl) Z.mL Z.L.kp Z.bL .nil pass0 (pa_cons (pv 0) pa_nil))) (pg_name (i := 2) scJoined.nd rfl (Or.inl rfl))
        (pss_one (ps_if (pw_or (pt_cmp (pc_dnotin hu (pv 2) (pv 1)) (by rfl)) (pw_or1 (pt_cmp (pc_dnotin hu pe_int (pe_call GW hr (by rfl) Z.mW Z.W.kp Z.bW .nil pass0 (pa_cons (pv 0) (pa_cons (pv 2) pa_nil)))) (by rfl)))).pt
          (pss_one (ps_ret pe_bl)) pss_nil)))
      (pss_one (ps_ret pe_bl))), ?_⟩
    refine ⟨_, rfl, f, fr, last, 0, (fun _ => True), rfl, fa, fm.fb, Nat.zero_le _, (fun _ _ _ => trivial), (fun _ _ _ => trivial), fun H1 d kvs s1 n1 e1 c1 _ => ?_⟩
    have h1 : ∀ k : Nat, k ≤ last → has kvs k = true := fun k hk => fm.all (S := fun g => has kvs g = true) (Nat.zero_le _) (fun x hx e => c1 x hx (.inl e)) (fun x hx e => c1 x hx (.inr e)) k hk
    refine ⟨_, rfl, f, fr, last, rfl, fa.same s1, fm.fb, fun H2 p ns s2 n2 e2 l2 k2 _ => ⟨p, rfl, ⟨_, SqL.of e2⟩, for_it (walk_list (xs := ns.map V.int)) (fun i σ H' => ∃ v2 : Option V, σ = [some (.ref f), some (.ref d), v2] ∧ Same H2 H')
      ⟨none, rfl, fun _ _ e => e⟩ (fun i σ H' _ ⟨_, _, z⟩ => SqL.of (z _ _ e2)) ?_ ?_⟩⟩
    · rintro i x σ H3 H4 hi ⟨v2, rfl, s3⟩ ⟨rfl, hx⟩
      obtain ⟨k, hk, rfl⟩ : ∃ k : Int, k ∈ ns ∧ x = .int k := by
        rw [List.getElem?_map] at hx
        cases e : ns[i]? with
        | none =>
          rw [e] at hx
          cases hx
        | some k =>
          rw [e] at hx
          exact ⟨k, List.mem_of_getElem? e, (Option.some.inj hx).symm⟩
      obtain ⟨k0, k1⟩ := k2 k hk
      obtain ⟨b, rfl⟩ := Int.eq_ofNat_of_zero_le k0
      have hb : b ≤ last := by omega
      have hb' : (valV kvs (Sum.inl (b : Int) : Key)).isSome = true := h1 b hb
      refine ⟨_, rfl, _, rfl, d, _, rfl, DGet.k (k := Sum.inl (b : Int)) (s3 _ _ (s2 _ _ e1)), _, rfl, iteF' (by rw [hb']; rfl) ?_⟩
      refine ⟨_, rfl, _, rfl, f, fr, last, b, (fun _ => True), rfl, (fa.same s1).same (s2.trans s3), fm.fb, hb, (fun _ _ _ => trivial), (fun _ _ _ => trivial), fun H5 d5 kvs5 s5 n5 e5 c5 _ => ?_⟩
      have h5 : ∀ k : Nat, k ≤ last → has kvs5 k = true := fun k hk => fm.all (S := fun g => has kvs5 g = true) hb (fun x hx e => c5 x hx (.inl e)) (fun x hx e => c5 x hx (.inr e)) k hk
      have h0' : (valV kvs5 (Sum.inl (0 : Int) : Key)).isSome = true := h5 0 (Nat.zero_le _)
      refine ⟨d5, _, rfl, DGet.k (k := Sum.inl (0 : Int)) e5, _, rfl, iteF' (by rw [h0']; rfl) ?_⟩
      exact ⟨_, rfl, s3.trans s5⟩
    · rintro σ H3 ⟨v2, rfl, s3⟩
      exact q H3 (s1.trans (s2.trans s3))
theorem ok_needF (Z : Fs K mg) : FnOk P w K mg base CX0 3 Z.fF Z.dF ["thing"] spNeedF := by
  have GS : FnOk P w K mg base CX0 2 Z.fS Z.dS ["thing"] spStep := ok_step Z.S Z.T Z.N Z.bN Z.mN Z.P Z.bP Z.mP
  have GJ : FnOk P w K mg base CX0 2 Z.fJ Z.dJ ["framing"] spJoined := ok_joined Z
  refine Z.F.ok scNeedF (fun vs H Q E h => ?_) (fun cdv A outer s H vs Q E hr h => ?_)
  · obtain ⟨f, fr, last, rfl, _⟩ := h
    rfl
  · obtain ⟨f, fr, last, rfl, fa, fm, q⟩ := h
    have hu := hu_of hr
    have hu0 : (A.deeper (PyProof.Rows.envOfC "need_framing" (defScope sNeedF) s.heap.objs.size Z.fF cdv)).units < cLine := by omega
    obtain ⟨tm, eM⟩ := Z.ms
    refine ⟨_, pss_cons (ps_if (pw_or (pt_not (pt_val (pe_callB call_isi (by rfl) Z.T.isi PyProof.Rows.boot_isinstance (pa_cons (pv 0) (pa_cons (pe_bltn (v := .ty "tuple") (by rfl) Z.T.tuple (by decide +kernel) rfl) pa_nil)))))
        (pw_or1 (pt_not (pt_chain op_le op_le pe_int (pe_callB call_len_seq (by rfl) Z.T.len PySem.boot_len (pa_cons (pv 0) pa_nil)) (pe_glob (v := .int 16) (by rfl) eM ⟨_, rfl⟩))))).pt
        (pss_one ps_never) pss_nil)
      (pss_cons (ps_for PassesOwn.never rfl (pi_enumT (by rfl) Z.en (pa_cons (pv 0) pa_nil)) (pg_tup rfl (pgs_cons (pg_name (i := 1) scNeedF.nd rfl (Or.inl rfl)) (pgs_cons (pg_name (i := 2) scNeedF.nd rfl (Or.inl rfl)) pgs_nil)))
        (pss_one (ps_if (pw_or (pt_not (pt_val (pe_call GS hr (by rfl) Z.mS Z.S.kp Z.bS .nil pass0 (pa_cons (pv 2) pa_nil))))
          (pw_or1 (pw_and (pt_cmpR op_gt (pv 1) pe_int (nomark _)) (pw_and1 (pt_cmpR (op_le3 hu0) (pv 2) (pe_ix ix_tup (pv 0) (pe_op op_sub (pv 1) pe_int) (fun _ _ => rfl)) (nomark _)))).pt)).pt
          (pss_one ps_never) pss_nil)))
      (pss_cons (ps_if (pt_not (pt_val (pe_call GJ hr (by rfl) Z.mJ Z.J.kp Z.bJ .nil pass0 (pa_cons (pv 0) pa_nil)))) (pss_one ps_never) pss_nil)
      (pss_one (ps_ret (pv 0))))), ?_⟩
    obtain ⟨ts, hf, hl, ht⟩ := id fa
    have l0 := fm.l0
    have l1 := fm.l1
    refine ⟨_, rfl, .ref f, .ty "tuple", .type "tuple", .type "tuple", true, rfl, .ty "tuple", .base (.tup hf), kit_ty (by decide +kernel), true, rfl, iteF ?_⟩
    refine ⟨_, rfl, f, _, rfl, .inr (SqT.of hf), 1, _, rfl, rfl, _, rfl, iteT' (decide_eq_true (by simp; omega)) ⟨_, 16, rfl, rfl, _, rfl, ?_⟩⟩
    refine iteF' (by rw [decide_eq_true (by simp; omega)]; rfl) ?_
    refine ⟨_, rfl, f, _, rfl, SqT.of hf, for_it (walk_enumT (xs := ts.map V.ref)) (fun i σ H' => ∃ v1 v2 : Option V, σ = [some (.ref f), v1, v2] ∧ Same H H')
      ⟨none, none, rfl, fun _ _ e => e⟩ (fun i σ H' _ ⟨_, _, _, z⟩ => SqT.of (z _ _ hf)) ?_ ?_⟩
    · rintro i x σ H1 H2 hi ⟨v1, v2, rfl, s1⟩ ⟨T, xi, xo, rfl, nT, rfl, h1, h2⟩
      cases h1
      obtain ⟨t, y, hy, rfl, e4⟩ := at_step (i := i) hl ht h2
      have s2 := s1.trans (same_upd (o := HO.tup [V.int (i : Nat), V.ref t]) nT)
      refine ⟨T, _, rfl, SqT.of upd_same, rfl, _, _, rfl, _, _, rfl, rfl, ?_⟩
      refine ⟨_, rfl, t, y, rfl, s2 _ _ e4, fm.stp y (List.mem_of_getElem? hy), fun H3 s3 => ⟨_, rfl, iteF ?_⟩⟩
      refine ⟨_, rfl, (i : Int), 0, rfl, rfl, _, rfl, ?_⟩
      refine ite2 (fun z => ?_) (fun z => ?_)
      · have z1 : (0 : Int) < i := of_decide_eq_true z
        obtain ⟨j, rfl⟩ : ∃ j, i = j + 1 := ⟨i - 1, by omega⟩
        have jl : j < fr.length := by
          have := (List.getElem?_eq_some_iff.mp hy).1
          omega
        have jt : j < ts.length := by omega
        have e5 := ht j ts[j] fr[j] (List.getElem?_eq_getElem jt) (List.getElem?_eq_getElem jl)
        have lt : lt3 fr[j] y = true := by
          have h3 := List.pairwise_iff_getElem.mp fm.srt j (j + 1) jl (List.getElem?_eq_some_iff.mp hy).1 (by omega)
          rw [(List.getElem?_eq_some_iff.mp hy).2] at h3
          exact h3
        refine ⟨_, rfl, _, rfl, _, rfl, _, _, rfl, rfl, f, _, (j : Int), V.ref ts[j], rfl, ?_, SqT.of (s3 _ _ (s2 _ _ hf)), atI_nat ?_, t, ts[j], y, fr[j], rfl, rfl, s3 _ _ (s2 _ _ e4), s3 _ _ (s2 _ _ e5), _, rfl, ?_⟩
        · show V.int (((j + 1 : Nat) : Int) - 1) = V.int (j : Int)
          congr 1
          omega
        · rw [List.getElem?_map, List.getElem?_eq_getElem jt]
          rfl
        · refine iteF' (by rw [lt]; rfl) ?_
          exact ⟨_, _, rfl, s2.trans s3⟩
      · refine iteF ?_
        exact ⟨_, _, rfl, s2.trans s3⟩
    · rintro σ H1 ⟨v1, v2, rfl, s1⟩
      refine ⟨_, rfl, f, fr, last, rfl, fa.same s1, fm, fun H2 s2 => ⟨_, rfl, iteF ⟨_, rfl, q H2 (s1.trans s2)⟩⟩⟩
end
end K04

set_option Elab.async false
set_option linter.all false
set_option maxRecDepth 100000
set_option maxHeartbeats 4000000
/-! Ways: level by level, the first to each standing. -/
namespace K04
open PySem L2 L2.EV
abbrev Wr := List Int × Int
def stn (fr : List T3) (n : Nat) : T3 := fr.getD n (0, "", 0)
/-- a way, longer by one of the first i steps -/
def lg (fr : List T3) (e : Wr) (i : Nat) : List Wr := ((List.range i).filter fun n => decide ((stn fr n).1 = e.2)).map fun n : Nat => (e.1 ++ [(n : Int)], (stn fr n).2.2)
def lgs (fr : List T3) (es : List Wr) : List Wr := es.flatMap fun e => lg fr e fr.length
def addW (X : List Int) (acc : List Wr) (e : Wr) : List Wr := if e.2 ∈ X ∨ e.2 ∈ acc.map (·.2) then acc else acc ++ [e]
def dd (X : List Int) (l acc : List Wr) : List Wr := l.foldl (addW X) acc
theorem dd_app {X : List Int} {l1 l2 acc : List Wr} : dd X (l1 ++ l2) acc = dd X l2 (dd X l1 acc) := List.foldl_append ..
theorem dd_cons {X : List Int} {e : Wr} {l acc : List Wr} : dd X (e :: l) acc = dd X l (addW X acc e) := rfl
theorem dd_id {X : List Int} : ∀ {l acc : List Wr}, (∀ e ∈ l, e.2 ∈ X ∨ e.2 ∈ acc.map (·.2)) → dd X l acc = acc
  | [], _, _ => rfl
  | e :: l, acc, h => by
    rw [dd_cons, addW, if_pos (h e (List.mem_cons_self ..))]
    exact dd_id fun e he => h e (List.mem_cons_of_mem _ he)
theorem dd_pre {X : List Int} : ∀ (l acc : List Wr), ∃ t, dd X l acc = acc ++ t
  | [], acc => ⟨[], (List.append_nil _).symm⟩
  | e :: l, acc => by
    rw [dd_cons, addW]
    split
    · exact dd_pre l acc
    · obtain ⟨t, h⟩ := dd_pre (X := X) l (acc ++ [e])
      exact ⟨e :: t, by rw [h, List.append_assoc]; rfl⟩
theorem dd_ends {X : List Int} : ∀ {l acc : List Wr} {e : Wr}, e ∈ l → e.2 ∈ X ∨ e.2 ∈ (dd X l acc).map (·.2)
  | x :: l, acc, e, h => by
    rw [dd_cons]
    rcases List.mem_cons.mp h with rfl | h
    · rw [addW]
      split
      · next c =>
        rcases c with c | c
        · exact .inl c
        · obtain ⟨t, z⟩ := dd_pre (X := X) l acc
          rw [z, List.map_append]
          exact .inr (List.mem_append_left _ c)
      · obtain ⟨t, z⟩ := dd_pre (X := X) l (acc ++ [e])
        rw [z]
        exact .inr (by simp)
    · exact dd_ends h
theorem dd_mem {X : List Int} : ∀ {l acc : List Wr} {e : Wr}, e ∈ dd X l acc → e ∈ acc ∨ (e ∈ l ∧ e.2 ∉ X)
  | [], _, _, h => .inl h
  | x :: l, acc, e, h => by
    rw [dd_cons] at h
    rcases dd_mem h with h | h
    · rw [addW] at h
      split at h
      · exact .inl h
      · next c =>
        rcases List.mem_append.mp h with h | h
        · exact .inl h
        · rw [List.mem_singleton.mp h]
          exact .inr ⟨List.mem_cons_self .., fun z => c (.inl z)⟩
    · exact .inr ⟨List.mem_cons_of_mem _ h.1, h.2⟩
theorem dd_nodup {X : List Int} : ∀ {l acc : List Wr}, (acc.map (·.2)).Nodup → ((dd X l acc).map (·.2)).Nodup
  | [], _, h => h
  | x :: l, acc, h => by
    rw [dd_cons]
    refine dd_nodup ?_
    rw [addW]
    split
    · exact h
    · next c =>
      rw [List.map_append]
      refine List.nodup_append.mpr ⟨h, by simp, fun a ha b hb => ?_⟩
      have e2 : b = x.2 := by simpa using hb
      rw [e2]
      exact fun z => c (.inr (z ▸ ha))
/-- what dd keeps is the first of its end -/
theorem dd_first {X : List Int} {e : Wr} : ∀ {l acc : List Wr}, e ∈ dd X l acc → e ∉ acc → e.2 ∉ acc.map (·.2) → l.find? (fun x => decide (x.2 = e.2)) = some e
  | [], acc, h, n, _ => absurd h n
  | x :: l, acc, h, n, m => by
    rw [dd_cons] at h
    rw [List.find?_cons]
    by_cases c : x.2 = e.2
    · rw [decide_eq_true c]
      rw [addW] at h
      split at h
      · next z =>
        rcases z with z | z
        · rcases dd_mem h with h | h
          · exact absurd h n
          · rw [c] at z
            exact absurd z h.2
        · rw [c] at z
          exact absurd z m
      · by_cases d : x = e
        · rw [d]
        · obtain ⟨t, q⟩ := dd_pre (X := X) l (acc ++ [x])
          have nd : ∀ (l acc : List Wr), e ∈ dd X l acc → e ∈ acc ∨ e.2 ∉ acc.map (·.2) := by
            intro l
            induction l with
            | nil => exact fun acc h => .inl h
            | cons y l ih =>
              intro acc h
              rw [dd_cons] at h
              rcases ih _ h with k | k
              · rw [addW] at k
                split at k
                · exact .inl k
                · next c =>
                  rcases List.mem_append.mp k with k | k
                  · exact .inl k
                  · rw [List.mem_singleton.mp k]
                    exact .inr fun z => c (.inr z)
              · rw [addW] at k
                split at k
                · exact .inr k
                · exact .inr fun z => k (by rw [List.map_append]; exact List.mem_append_left _ z)
          rcases nd _ _ h with k | k
          · rcases List.mem_append.mp k with k | k
            · exact absurd k n
            · exact absurd (List.mem_singleton.mp k).symm d
          · exact absurd (by rw [List.map_append]; exact List.mem_append_right _ (by simp [c])) k
    · rw [decide_eq_false c]
      refine dd_first h (fun z => ?_) (fun z => ?_)
      · rw [addW] at z
        split at z
        · exact n z
        · rcases List.mem_append.mp z with z | z
          · exact n z
          · exact c (by rw [List.mem_singleton.mp z])
      · rw [addW] at z
        split at z
        · exact m z
        · rw [List.map_append] at z
          rcases List.mem_append.mp z with z | z
          · exact m z
          · have q : e.2 = x.2 := by simpa using z
            exact c q.symm
theorem lg_ends {fr : List T3} {e e0 : Wr} {i : Nat} (h : e.2 = e0.2) : ∀ x ∈ lg fr e i, ∃ y ∈ lg fr e0 i, y.2 = x.2 := fun x hx => by
  unfold lg at hx ⊢
  obtain ⟨n, hn, rfl⟩ := List.mem_map.mp hx
  rw [h] at hn
  exact ⟨_, List.mem_map.mpr ⟨n, hn, rfl⟩, rfl⟩
theorem lgs_app {fr : List T3} {a b : List Wr} : lgs fr (a ++ b) = lgs fr a ++ lgs fr b := List.flatMap_append ..
theorem lgs_one {fr : List T3} {e : Wr} : lgs fr [e] = lg fr e fr.length := by simp [lgs]
theorem mem_lgs {fr : List T3} {es : List Wr} {e x : Wr} (h : e ∈ es) (hx : x ∈ lg fr e fr.length) : x ∈ lgs fr es := List.mem_flatMap.mpr ⟨e, h, hx⟩
theorem snoc_ind {α : Type} {p : List α → Prop} (h0 : p []) (h1 : ∀ l x, p l → p (l ++ [x])) (l : List α) : p l := by
  have z : ∀ n (l : List α), l.length = n → p l := by
    intro n
    induction n with
    | zero => exact fun l h => by rw [List.length_eq_zero_iff.mp h]; exact h0
    | succ n ih =>
      intro l h
      obtain ⟨M, y, rfl⟩ := SrtO.snoc_of (l := l) (by omega)
      exact h1 M y (ih M (by rw [List.length_append] at h; simp only [List.length_cons, List.length_nil] at h; omega))
  exact z _ l rfl
/-- the ways that were dropped lead nowhere new -/
theorem dd_same {fr : List T3} {X Y : List Int} (hX : ∀ e : Wr, e.2 ∈ X → ∀ x ∈ lg fr e fr.length, x.2 ∈ Y) (W : List Wr) : dd Y (lgs fr W) [] = dd Y (lgs fr (dd X W [])) [] := by
  refine snoc_ind (p := fun W => dd Y (lgs fr W) [] = dd Y (lgs fr (dd X W [])) []) rfl (fun W e ih => ?_) W
  rw [lgs_app, lgs_one, dd_app, ih, dd_app]
  show _ = dd Y (lgs fr (addW X (dd X W []) e)) []
  rw [addW]
  split
  · next c =>
    refine dd_id fun x hx => ?_
    rcases c with c | c
    · exact .inl (hX e c x hx)
    · obtain ⟨e0, h0, q⟩ := List.mem_map.mp c
      obtain ⟨y, hy, q2⟩ := lg_ends (i := fr.length) q.symm x hx
      rw [← q2]
      exact dd_ends (mem_lgs h0 hy)
  · rw [lgs_app, lgs_one, dd_app]
/-! ### all ways, and the first ones -/
def wl (fr : List T3) (b : Int) : Nat → List Wr
  | 0 => [([], b)]
  | k + 1 => lgs fr (wl fr b k)
/-- what is found, and the rows -/
def bf (fr : List T3) (b : Int) : Nat → List Wr × List Wr
  | 0 => ([], [([], b)])
  | k + 1 => ((bf fr b k).1 ++ dd ((bf fr b k).1.map (·.2)) (lgs fr (bf fr b k).2) [], dd ((bf fr b k).1.map (·.2)) (lgs fr (bf fr b k).2) [])
theorem bf_sub {fr : List T3} {b : Int} {k : Nat} {g : Int} (h : g ∈ (bf fr b k).1.map (·.2)) : g ∈ (bf fr b (k + 1)).1.map (·.2) := by
  rw [bf, List.map_append]
  exact List.mem_append_left _ h
theorem bf_le {fr : List T3} {b : Int} {k : Nat} {g : Int} (h : g ∈ (bf fr b k).1.map (·.2)) : ∀ n, g ∈ (bf fr b (k + n)).1.map (·.2)
  | 0 => h
  | n + 1 => bf_sub (bf_le h n)
theorem bf_next {fr : List T3} {b : Int} : ∀ (k : Nat) (e : Wr), e.2 ∈ (bf fr b k).1.map (·.2) → ∀ x ∈ lg fr e fr.length, x.2 ∈ (bf fr b (k + 1)).1.map (·.2)
  | 0, e, h, x, hx => by cases h
  | k + 1, e, h, x, hx => by
    rw [bf, List.map_append] at h
    rcases List.mem_append.mp h with h | h
    · exact bf_sub (bf_next k e h x hx)
    · obtain ⟨e0, h0, q⟩ := List.mem_map.mp h
      obtain ⟨y, hy, q2⟩ := lg_ends (i := fr.length) q.symm x hx
      rw [← q2]
      have m : y ∈ lgs fr (bf fr b (k + 1)).2 := mem_lgs h0 hy
      rw [bf, List.map_append]
      rcases dd_ends (X := (bf fr b (k + 1)).1.map (·.2)) (acc := []) m with z | z
      · exact List.mem_append_left _ z
      · exact List.mem_append_right _ z
theorem bf_rows {fr : List T3} {b : Int} : ∀ k : Nat, (bf fr b (k + 1)).2 = dd ((bf fr b k).1.map (·.2)) (wl fr b (k + 1)) []
  | 0 => rfl
  | k + 1 => by
    have ih := bf_rows (fr := fr) (b := b) k
    show dd ((bf fr b (k + 1)).1.map (·.2)) (lgs fr (bf fr b (k + 1)).2) [] = dd ((bf fr b (k + 1)).1.map (·.2)) (lgs fr (wl fr b (k + 1))) []
    rw [ih]
    exact (dd_same (fun e h x hx => bf_next k e h x hx) _).symm
theorem wl_ends {fr : List T3} {b : Int} {k : Nat} {e : Wr} (h : e ∈ wl fr b (k + 1)) : e.2 ∈ (bf fr b (k + 1)).1.map (·.2) := by
  have z := dd_ends (X := (bf fr b k).1.map (·.2)) (acc := []) h
  rw [← bf_rows] at z
  show e.2 ∈ ((bf fr b k).1 ++ (bf fr b (k + 1)).2).map (·.2)
  rw [List.map_append]
  rcases z with z | z
  · exact List.mem_append_left _ z
  · exact List.mem_append_right _ z
theorem bf_at {fr : List T3} {b : Int} {e : Wr} : ∀ K : Nat, e ∈ (bf fr b K).1 → ∃ k, k < K ∧ e ∈ (bf fr b (k + 1)).2 ∧ e.2 ∉ (bf fr b k).1.map (·.2)
  | 0, h => by cases h
  | K + 1, h => by
    have h : e ∈ (bf fr b K).1 ++ (bf fr b (K + 1)).2 := h
    rcases List.mem_append.mp h with h | h
    · obtain ⟨k, h1, h2, h3⟩ := bf_at K h
      exact ⟨k, by omega, h2, h3⟩
    · refine ⟨K, by omega, h, ?_⟩
      have h : e ∈ dd ((bf fr b K).1.map (·.2)) (lgs fr (bf fr b K).2) [] := h
      rcases dd_mem h with z | z
      · cases z
      · exact z.2
/-- what is found is the first of the shortest ways -/
theorem found_first {fr : List T3} {b : Int} {K : Nat} {e : Wr} (h : e ∈ (bf fr b K).1) : ∃ k, k < K ∧ (wl fr b (k + 1)).find? (fun x => decide (x.2 = e.2)) = some e ∧ ∀ j, j < k → ∀ x ∈ wl fr b (j + 1), x.2 ≠ e.2 := by
  obtain ⟨k, h1, h2, h3⟩ := bf_at K h
  refine ⟨k, h1, ?_, fun j hj x hx q => ?_⟩
  · rw [bf_rows] at h2
    exact dd_first h2 (by simp) (by simp)
  · have z := wl_ends hx
    obtain ⟨n, rfl⟩ := Nat.le.dest (show j + 1 ≤ k from hj)
    rw [q] at z
    exact h3 (bf_le z n)
theorem bf_nodup {fr : List T3} {b : Int} : ∀ k, ((bf fr b k).1.map (·.2)).Nodup
  | 0 => List.nodup_nil
  | k + 1 => by
    show (((bf fr b k).1 ++ dd ((bf fr b k).1.map (·.2)) (lgs fr (bf fr b k).2) []).map (·.2)).Nodup
    rw [List.map_append]
    refine List.nodup_append.mpr ⟨bf_nodup k, dd_nodup List.nodup_nil, fun a ha c hc q => ?_⟩
    obtain ⟨e, he, rfl⟩ := List.mem_map.mp hc
    rcases dd_mem he with z | z
    · cases z
    · exact z.2 (q ▸ ha)
theorem bf_range {fr : List T3} {b : Int} {last : Nat} (h : ∀ x ∈ fr, 0 ≤ x.2.2 ∧ x.2.2 ≤ last) : ∀ k, ∀ e ∈ (bf fr b k).1, 0 ≤ e.2 ∧ e.2 ≤ last
  | 0, e, he => by cases he
  | k + 1, e, he => by
    have he : e ∈ (bf fr b k).1 ++ dd ((bf fr b k).1.map (·.2)) (lgs fr (bf fr b k).2) [] := he
    rcases List.mem_append.mp he with he | he
    · exact bf_range h k e he
    · rcases dd_mem he with z | z
      · cases z
      · obtain ⟨e0, _, hx⟩ := List.mem_flatMap.mp z.1
        unfold lg at hx
        obtain ⟨n, hn, rfl⟩ := List.mem_map.mp hx
        have nl := List.mem_range.mp (List.mem_filter.mp hn).1
        have : stn fr n = fr[n] := by unfold stn; rw [List.getD_eq_getElem?_getD, List.getElem?_eq_getElem nl]; rfl
        show 0 ≤ (stn fr n).2.2 ∧ (stn fr n).2.2 ≤ last
        rw [this]
        exact h _ (List.getElem_mem nl)
theorem ints_few {l : List Int} {last : Nat} (nd : l.Nodup) (h : ∀ x ∈ l, 0 ≤ x ∧ x ≤ last) : l.length ≤ last + 1 := by
  have := nd.length_le_of_subset (l₂ := (List.range (last + 1)).map fun n : Nat => (n : Int)) fun x hx => by
    obtain ⟨h0, h1⟩ := h x hx
    obtain ⟨n, rfl⟩ := Int.eq_ofNat_of_zero_le h0
    exact List.mem_map.mpr ⟨n, List.mem_range.mpr (by omega), rfl⟩
  rw [List.length_map, List.length_range] at this
  exact this
theorem bf_few {fr : List T3} {b : Int} {last : Nat} (h : ∀ x ∈ fr, 0 ≤ x.2.2 ∧ x.2.2 ≤ last) (k : Nat) : (bf fr b k).1.length ≤ last + 1 := by
  have := ints_few (bf_nodup (fr := fr) (b := b) k) (last := last) fun x hx => by
    obtain ⟨e, he, rfl⟩ := List.mem_map.mp hx
    exact bf_range h k e he
  rw [List.length_map] at this
  exact this
/-- a level with rows has as many found ones ahead -/
theorem bf_deep {fr : List T3} {b : Int} : ∀ k, (bf fr b k).2 ≠ [] → k ≤ (bf fr b k).1.length
  | 0, _ => Nat.zero_le _
  | k + 1, h => by
    have e : (bf fr b (k + 1)).1 = (bf fr b k).1 ++ (bf fr b (k + 1)).2 := rfl
    have h0 : (bf fr b k).2 ≠ [] := fun z => h (by
      show dd ((bf fr b k).1.map (·.2)) (lgs fr (bf fr b k).2) [] = []
      rw [z]
      rfl)
    have := bf_deep k h0
    have := List.length_pos_iff.mpr h
    rw [e, List.length_append]
    omega
end K04

set_option Elab.async false
set_option linter.all false
set_option maxRecDepth 100000
set_option maxHeartbeats 4000000
/-! Ways: the law's own lists, that don't go on from 0. -/
namespace K04
open PySem L2 L2.EV
def okp (p : Wr) : Bool := decide (p.1 = []) || !decide (p.2 = 0)
def vl (fr : List T3) (b : Int) : Nat → List Wr
  | 0 => [([], b)]
  | k + 1 => lgs fr ((vl fr b k).filter okp)
def gd (g : Int) (p : Wr) : Bool := decide (p.2 = g) && (!decide (g = 0) || !decide (p.1 = []))
def go (fr : List T3) (b : Int) : List Int → Option Int
  | [] => some b
  | i :: w => if 0 ≤ i ∧ i.toNat < fr.length ∧ (stn fr i.toNat).1 = b then go fr (stn fr i.toNat).2.2 w else none
theorem go_app {fr : List T3} : ∀ {b : Int} {u v : List Int}, go fr b (u ++ v) = (go fr b u).bind fun h => go fr h v
  | b, [], v => rfl
  | b, i :: u, v => by
    rw [List.cons_append, go, go]
    split
    · exact go_app
    · rfl
theorem go_one {fr : List T3} {b : Int} {i : Int} : go fr b [i] = if 0 ≤ i ∧ i.toNat < fr.length ∧ (stn fr i.toNat).1 = b then some (stn fr i.toNat).2.2 else none := by
  rw [go]
  rfl
theorem go_snoc {fr : List T3} {b g : Int} {u : List Int} {i : Int} (h : go fr b (u ++ [i]) = some g) : ∃ k, go fr b u = some k ∧ 0 ≤ i ∧ i.toNat < fr.length ∧ (stn fr i.toNat).1 = k ∧ g = (stn fr i.toNat).2.2 := by
  rw [go_app] at h
  cases e : go fr b u with
  | none =>
    rw [e] at h
    cases h
  | some k =>
    rw [e] at h
    have h : go fr k [i] = some g := h
    rw [go_one] at h
    split at h
    · next c =>
      cases h
      exact ⟨k, rfl, c.1, c.2.1, c.2.2, rfl⟩
    · cases h
theorem mem_lg {fr : List T3} {e x : Wr} : x ∈ lg fr e fr.length ↔ ∃ n : Nat, n < fr.length ∧ (stn fr n).1 = e.2 ∧ x = (e.1 ++ [(n : Int)], (stn fr n).2.2) := by
  unfold lg
  constructor
  · intro h
    obtain ⟨n, hn, rfl⟩ := List.mem_map.mp h
    obtain ⟨h1, h2⟩ := List.mem_filter.mp hn
    exact ⟨n, List.mem_range.mp h1, of_decide_eq_true h2, rfl⟩
  · rintro ⟨n, h1, h2, rfl⟩
    exact List.mem_map.mpr ⟨n, List.mem_filter.mpr ⟨List.mem_range.mpr h1, decide_eq_true h2⟩, rfl⟩
theorem mem_wl {fr : List T3} {b : Int} : ∀ {k : Nat} {e : Wr}, e ∈ wl fr b k ↔ e.1.length = k ∧ go fr b e.1 = some e.2
  | 0, e => by
    constructor
    · intro h
      obtain rfl := List.mem_singleton.mp h
      exact ⟨rfl, rfl⟩
    · rintro ⟨h1, h2⟩
      obtain ⟨w, g⟩ := e
      obtain rfl := List.length_eq_zero_iff.mp h1
      have h2 : some b = some g := h2
      cases h2
      exact List.mem_singleton.mpr rfl
  | k + 1, e => by
    constructor
    · intro h
      obtain ⟨e0, h0, hx⟩ := List.mem_flatMap.mp (show e ∈ lgs fr (wl fr b k) from h)
      obtain ⟨l0, g0⟩ := (mem_wl (k := k)).mp h0
      obtain ⟨n, h1, h2, rfl⟩ := mem_lg.mp hx
      refine ⟨by rw [List.length_append, l0]; rfl, ?_⟩
      show go fr b (e0.1 ++ [(n : Int)]) = _
      rw [go_app, g0]
      show go fr e0.2 [(n : Int)] = _
      rw [go_one, if_pos ⟨Int.natCast_nonneg n, h1, h2⟩]
      rfl
    · rintro ⟨h1, h2⟩
      obtain ⟨w, g⟩ := e
      obtain ⟨u, i, rfl⟩ := SrtO.snoc_of (l := w) (by have h1 : w.length = k + 1 := h1; omega)
      obtain ⟨h, c1, c2, c3, c4, rfl⟩ := go_snoc h2
      obtain ⟨n, rfl⟩ := Int.eq_ofNat_of_zero_le c2
      have l : u.length = k := by
        have h1 : (u ++ [(n : Int)]).length = k + 1 := h1
        rw [List.length_append] at h1
        simp only [List.length_cons, List.length_nil] at h1
        omega
      exact List.mem_flatMap.mpr ⟨(u, h), (mem_wl (k := k)).mpr ⟨l, c1⟩, mem_lg.mpr ⟨n, c3, c4, rfl⟩⟩
def nz1 (fr : List T3) (i : Int) : Bool := !decide ((stn fr i.toNat).2.2 = 0)
def nz (fr : List T3) (p : Wr) : Bool := p.1.dropLast.all (nz1 fr)
theorem nz_ok {fr : List T3} {b : Int} {k : Nat} {e : Wr} (h : e ∈ wl fr b k) : (nz fr e && okp e) = e.1.all (nz1 fr) := by
  obtain ⟨_, g⟩ := mem_wl.mp h
  obtain ⟨w, g0⟩ := e
  by_cases c : w = []
  · subst c
    simp [nz, okp]
  · obtain ⟨u, i, rfl⟩ := SrtO.snoc_of (l := w) (List.length_pos_iff.mpr c)
    obtain ⟨_, _, _, _, _, rfl⟩ := go_snoc g
    unfold nz okp
    rw [List.dropLast_concat, List.all_append]
    have : decide (u ++ [i] = []) = false := decide_eq_false (by simp)
    dsimp only
    rw [this, Bool.false_or]
    simp [nz1]
theorem lgs_filter {fr : List T3} : ∀ {es : List Wr}, (∀ e ∈ es, (nz fr e && okp e) = e.1.all (nz1 fr)) → lgs fr ((es.filter (nz fr)).filter okp) = (lgs fr es).filter (nz fr)
  | [], _ => rfl
  | e :: es, h => by
    have ih := lgs_filter (es := es) fun x hx => h x (List.mem_cons_of_mem _ hx)
    have h1 := h e (List.mem_cons_self ..)
    have hl : ∀ x ∈ lg fr e fr.length, nz fr x = e.1.all (nz1 fr) := fun x hx => by
      obtain ⟨n, _, _, rfl⟩ := mem_lg.mp hx
      unfold nz
      rw [List.dropLast_concat]
    have hc : lgs fr (e :: es) = lg fr e fr.length ++ lgs fr es := List.flatMap_cons
    rw [hc, List.filter_append, ← ih]
    cases c : e.1.all (nz1 fr) with
    | true =>
      rw [c, Bool.and_eq_true] at h1
      rw [List.filter_cons, if_pos h1.1, List.filter_cons, if_pos h1.2]
      have : lgs fr (e :: (es.filter (nz fr)).filter okp) = lg fr e fr.length ++ lgs fr ((es.filter (nz fr)).filter okp) := List.flatMap_cons
      rw [this]
      congr 1
      exact (List.filter_eq_self.mpr fun x hx => by rw [hl x hx, c]).symm
    | false =>
      rw [c] at h1
      have z : (lg fr e fr.length).filter (nz fr) = [] := List.filter_eq_nil_iff.mpr fun x hx => by
        rw [hl x hx, c]
        simp
      rw [z, List.nil_append]
      congr 1
      rw [List.filter_cons]
      split
      · next k =>
        rw [k, Bool.true_and] at h1
        rw [List.filter_cons, if_neg (by rw [h1]; simp)]
      · rfl
theorem vl_eq {fr : List T3} {b : Int} : ∀ k, vl fr b k = (wl fr b k).filter (nz fr)
  | 0 => rfl
  | k + 1 => by
    show lgs fr ((vl fr b k).filter okp) = (lgs fr (wl fr b k)).filter (nz fr)
    rw [vl_eq k]
    exact lgs_filter fun e he => nz_ok he
/-- the law finds the same first way -/
theorem law_first {fr : List T3} {b g : Int} {k : Nat} {e : Wr} (h1 : (wl fr b (k + 1)).find? (fun x => decide (x.2 = g)) = some e) (h2 : ∀ j, j < k → ∀ x ∈ wl fr b (j + 1), x.2 ≠ g) (hb : g = 0 ∨ (b = 0 ∧ g ≠ 0)) :
    ((vl fr b (k + 1)).filter (gd g)).head? = some e ∧ ∀ j, j ≤ k → (vl fr b j).filter (gd g) = [] := by
  constructor
  · rw [vl_eq, List.filter_filter]
    have c : (wl fr b (k + 1)).filter (fun a => gd g a && nz fr a) = (wl fr b (k + 1)).filter fun x => decide (x.2 = g) := by
      refine List.filter_congr fun x hx => ?_
      obtain ⟨l, gx⟩ := mem_wl.mp hx
      by_cases q : x.2 = g
      · rw [decide_eq_true q]
        have n1 : x.1 ≠ [] := fun z => by
          rw [z] at l
          simp at l
        have g1 : gd g x = true := by
          unfold gd
          rw [decide_eq_true q, decide_eq_false n1]
          simp
        rw [g1, Bool.true_and]
        cases nzx : nz fr x with
        | true => rfl
        | false =>
          exfalso
          unfold nz at nzx
          rw [List.all_eq_false] at nzx
          obtain ⟨i, hi, z⟩ := nzx
          obtain ⟨u0, r, er⟩ := List.append_of_mem hi
          obtain ⟨w0, l0, ew⟩ := SrtO.snoc_of (l := x.1) (by omega)
          rw [ew, List.dropLast_concat] at er
          have ex : x.1 = (u0 ++ [i]) ++ (r ++ [l0]) := by
            rw [ew, er]
            simp
          rw [ex, go_app] at gx
          cases eu : go fr b (u0 ++ [i]) with
          | none =>
            rw [eu] at gx
            cases gx
          | some h =>
            rw [eu] at gx
            have gx : go fr h (r ++ [l0]) = some x.2 := gx
            obtain ⟨_, _, _, _, _, rfl⟩ := go_snoc eu
            have z0 : (stn fr i.toNat).2.2 = 0 := by
              unfold nz1 at z
              simpa using z
            rw [z0] at eu gx
            have lx : (u0 ++ [i]).length + (r ++ [l0]).length = k + 1 := by
              have q := congrArg List.length ex
              rw [List.length_append, l] at q
              exact q.symm
            have lu : (u0 ++ [i]).length = u0.length + 1 := by simp
            have lr : (r ++ [l0]).length = r.length + 1 := by simp
            rcases hb with hb | ⟨hb, _⟩
            · exact h2 u0.length (by omega) (u0 ++ [i], 0) (mem_wl.mpr ⟨lu, eu⟩) hb.symm
            · subst hb
              exact h2 r.length (by omega) (r ++ [l0], x.2) (mem_wl.mpr ⟨lr, gx⟩) q
      · rw [decide_eq_false q]
        unfold gd
        rw [decide_eq_false q]
        rfl
    rw [c, List.head?_filter]
    exact h1
  · intro j hj
    rw [List.filter_eq_nil_iff]
    intro x hx z
    unfold gd at z
    rw [Bool.and_eq_true] at z
    cases j with
    | zero =>
      obtain rfl := List.mem_singleton.mp hx
      have zb : b = g := of_decide_eq_true z.1
      rcases hb with hb | ⟨hb, hg⟩
      · have := z.2
        rw [hb] at this
        simp at this
      · exact hg (by rw [← zb, hb])
    | succ j =>
      rw [vl_eq] at hx
      exact h2 j (by omega) x (List.mem_filter.mp hx).1 (of_decide_eq_true z.1)
/-- what is found, as the law finds it -/
theorem found_law {fr : List T3} {b : Int} {K last : Nat} {e : Wr} (h : e ∈ (bf fr b K).1) (lo : ∀ x ∈ fr, 0 ≤ x.2.2 ∧ x.2.2 ≤ last) (hb : e.2 = 0 ∨ (b = 0 ∧ e.2 ≠ 0)) :
    ∃ k, k ≤ last ∧ ((vl fr b (k + 1)).filter (gd e.2)).head? = some e ∧ ∀ j, j ≤ k → (vl fr b j).filter (gd e.2) = [] := by
  obtain ⟨k, h1, h2, h3⟩ := bf_at K h
  have d := bf_deep (fr := fr) (b := b) (k + 1) (fun z => by rw [z] at h2; cases h2)
  have f := bf_few (b := b) lo (k + 1)
  have nn : ∀ j, j < k → ∀ x ∈ wl fr b (j + 1), x.2 ≠ e.2 := fun j hj x hx q => by
    have z := wl_ends hx
    obtain ⟨n, rfl⟩ := Nat.le.dest (show j + 1 ≤ k from hj)
    rw [q] at z
    exact h3 (bf_le z n)
  have fi : (wl fr b (k + 1)).find? (fun x => decide (x.2 = e.2)) = some e := by
    rw [bf_rows] at h2
    exact dd_first h2 (by simp) (by simp)
  obtain ⟨r1, r2⟩ := law_first fi nn hb
  exact ⟨k, by omega, r1, r2⟩
theorem vl_len {fr : List T3} {b : Int} : ∀ k, (vl fr b k).length ≤ fr.length ^ k
  | 0 => Nat.le_refl _
  | k + 1 => by
    have ih := vl_len (fr := fr) (b := b) k
    have l1 : ∀ es : List Wr, (lgs fr es).length ≤ es.length * fr.length := by
      intro es
      induction es with
      | nil => simp [lgs]
      | cons e es ihe =>
        have hc : lgs fr (e :: es) = lg fr e fr.length ++ lgs fr es := List.flatMap_cons
        rw [hc, List.length_append, List.length_cons, Nat.succ_mul]
        have : (lg fr e fr.length).length ≤ fr.length := by
          unfold lg
          rw [List.length_map]
          have := List.length_filter_le (fun n => decide ((stn fr n).1 = e.2)) (List.range fr.length)
          rw [List.length_range] at this
          exact this
        omega
    have l2 := l1 ((vl fr b k).filter okp)
    have l3 := List.length_filter_le okp (vl fr b k)
    show (lgs fr ((vl fr b k).filter okp)).length ≤ _
    rw [Nat.pow_succ]
    exact Nat.le_trans l2 (Nat.mul_le_mul_right _ (Nat.le_trans l3 ih))
end K04

set_option Elab.async false
set_option linter.all false
set_option maxRecDepth 100000
set_option maxHeartbeats 4000000
/-! follows_as_line, is_line of any data. -/
namespace K04
open PySem L2 L2.EV
abbrev sFol : Stmt := top 16
abbrev sLine : Stmt := top 17
theorem take_one {α : Type} {es : List α} {i : Nat} {e : α} (h : es[i]? = some e) : es.take (i + 1) = es.take i ++ [e] := by
  rw [List.take_succ, h]
  rfl
theorem stn_at {fr : List T3} {k : Nat} {x : T3} (h : fr[k]? = some x) : stn fr k = x := by
  unfold stn
  rw [List.getD_eq_getElem?_getD, h]
  rfl
def stt (fr : List T3) (n : Int) : T3 := stn fr n.toNat
theorem stt_at {H : Hp} {f : Addr} {fr : List T3} {n : Int} (fa : FrA H f fr) (n0 : 0 ≤ n) (n1 : n < fr.length) : ∃ (ts : List Addr) (t : Addr), H f = some (.tup (ts.map V.ref)) ∧ atI (ts.map V.ref) n = some (.ref t) ∧ S3 H t (stt fr n) ∧ True := by
  obtain ⟨ts, hf, hl, ht⟩ := fa
  obtain ⟨k, rfl⟩ := Int.eq_ofNat_of_zero_le n0
  have k1 : k < fr.length := by omega
  have k2 : k < ts.length := by omega
  refine ⟨ts, ts[k], hf, atI_nat (by rw [List.getElem?_map, List.getElem?_eq_getElem k2]; rfl), ?_, trivial⟩
  have z := ht k _ _ (List.getElem?_eq_getElem k2) (List.getElem?_eq_getElem k1)
  rw [show stt fr (k : Int) = fr[k] from stn_at (List.getElem?_eq_getElem k1)]
  exact z
/-- steps that lead from a standing to the end of a line, and no further -/
def folF (fr : List T3) : List Int → Int → Nat → Bool
  | [], st, _ => decide (st = 0)
  | n :: ns, st, k => decide ((stt fr n).1 = st) && (!(decide (0 < k) && decide ((stt fr n).1 = 0)) && folF fr ns (stt fr n).2.2 (k + 1))
def numsD (m : Int) : List PyData → Option (List Int)
  | [] => some []
  | d :: ds => match numD m d, numsD m ds with
    | some n, some ns => some (n :: ns)
    | _, _ => none
def lineD (fr : List T3) : PyData → Option (List Int)
  | .tuple [] => none
  | .tuple (d :: ds) => match numsD fr.length (d :: ds) with
    | some ns => if folF fr ns 0 0 = true then some ns else none
    | none => none
  | _ => none
def Ins (fr : List T3) (n : Int) : Prop := 0 ≤ n ∧ n < fr.length
theorem numsD_some {m : Int} : ∀ {ds : List PyData} {ns : List Int}, numsD m ds = some ns → ds = ns.map PyData.int ∧ ∀ n ∈ ns, 0 ≤ n ∧ n < m
  | [], ns, h => by
    cases h
    exact ⟨rfl, fun n z => by cases z⟩
  | d :: ds, ns, h => by
    have h : (match numD m d, numsD m ds with
      | some n, some ns => some (n :: ns)
      | _, _ => none) = some ns := h
    cases ha : numD m d with
    | none =>
      rw [ha] at h
      cases h
    | some n =>
      cases hb : numsD m ds with
      | none =>
        rw [ha, hb] at h
        cases h
      | some ms =>
        rw [ha, hb] at h
        cases h
        obtain ⟨rfl, a1, a2⟩ := numD_some ha
        obtain ⟨rfl, b⟩ := numsD_some hb
        refine ⟨rfl, fun x hx => ?_⟩
        rcases List.mem_cons.mp hx with rfl | hx
        · exact ⟨a1, a2⟩
        · exact b x hx
theorem numsD_is {m : Int} : ∀ {ds : List PyData}, (numsD m ds).isSome = (ds.map fun d => (numD m d).isSome).all id
  | [] => rfl
  | d :: ds => by
    show (match numD m d, numsD m ds with
      | some n, some ns => some (n :: ns)
      | _, _ => none).isSome = ((numD m d).isSome && (ds.map fun d => (numD m d).isSome).all id)
    rw [← numsD_is (ds := ds)]
    cases numD m d <;> cases numsD m ds <;> rfl
theorem da_ints {H : Hp} : ∀ {ns : List Int} {vs : List V}, DaAll H vs (ns.map PyData.int) → vs = ns.map V.int
  | [], _, h => by cases h; rfl
  | n :: ns, _, h => by
    cases h with
    | cons h1 h2 =>
      cases h1
      rw [da_ints h2]
      rfl
theorem ints_da {H : Hp} : ∀ {ns : List Int}, DaAll H (ns.map V.int) (ns.map PyData.int)
  | [] => .nil
  | n :: ns => .cons (.int n) ints_da
def spFol : Sp := fun vs H Q _ => ∃ (f w : Addr) (fr : List T3) (ns : List Int), vs = [.ref f, .ref w] ∧ FrA H f fr ∧ H w = some (.tup (ns.map V.int)) ∧ (∀ n ∈ ns, Ins fr n) ∧ ∀ H', Same H H' → Q (.bl (folF fr ns 0 0)) H'
def spLineD : Sp := fun vs H Q _ => ∃ (f : Addr) (v : V) (fr : List T3) (last : Nat) (d : PyData), vs = [.ref f, v] ∧ FrA H f fr ∧ Frm fr last ∧ Da H v d ∧ ∀ H', Same H H' → Q (.bl (lineD fr d).isSome) H'
/-- what len gives of a list or a tuple -/
abbrev rLn (K : PySem.W.Frag) : List V → Hp → (V → Hp → Prop) → Prop := fun xs H Q => ∃ p ys, xs = [.ref p] ∧ (SqL K H p ys ∨ SqT K H p ys) ∧ Q (.int ys.length) H
def items : PyData → List PyData
  | .tuple ds => ds
  | _ => []
def spLineL : Sp := fun vs H Q _ => ∃ (f : Addr) (v : V) (fr : List T3) (last : Nat) (d : PyData), vs = [.ref f, v] ∧ FrA H f fr ∧ Frm fr last ∧ Da H v d ∧ (items d).length ≤ 10000 ∧ ∀ H', Same H H' → Q (.bl (lineD fr d).isSome) H'
structure Ln (K : PySem.W.Frag) (mg : Str → Option Value) where
  W : Fs K mg
  fO : Addr
  fL : Addr
  dO : FuncData
  dL : FuncData
  O : Fun K "follows_as_line" "follows_as_line" sFol fO dO
  L : Fun K "is_line" "is_line" sLine fL dL
  bO : Binds K dO ["framing", "numbers"] []
  bL : Binds K dL ["framing", "thing"] []
  mO : mg "follows_as_line" = some (.ref fO)
  mL : mg "is_line" = some (.ref fL)
section
variable {P : Program} {w : World} {K : PySem.W.Frag} {mg : Str → Option Value} {base : Heap}
theorem scFol : FnScope ["framing", "numbers", "standing", "at", "number", "start", "piece", "goal"] ["framing", "numbers"] (defScope sFol) := ⟨rfl, rfl, rfl, by decide +kernel, rfl, by decide +kernel, by decide +kernel⟩
theorem ok_fol (Z : Ln K mg) : FnOk P w K mg base CX0 1 Z.fO Z.dO ["framing", "numbers"] spFol := by
  refine Z.O.ok scFol (fun vs H Q E h => ?_) (fun cdv A outer s H vs Q E hr h => ?_)
  · obtain ⟨f, w, fr, ns, rfl, _⟩ := h
    rfl
  · obtain ⟨f, w, fr, ns, rfl, fa, hw, hn, q⟩ := h
    refine ⟨_, pss_cons (ps_set (i := 2) scFol.nd rfl (Or.inl rfl) pe_int)
      (pss_cons (ps_for PassesOwn.never rfl (pi_enumT (by rfl) Z.W.en (pa_cons (pv 1) pa_nil)) (pg_tup rfl (pgs_cons (pg_name (i := 3) scFol.nd rfl (Or.inl rfl)) (pgs_cons (pg_name (i := 4) scFol.nd rfl (Or.inl rfl)) pgs_nil)))
        (pss_cons (ps_asg (pe_ix ix_tup (pv 0) (pv 4) (fun _ _ => rfl)) (pg_tup rfl (pgs_cons (pg_name (i := 5) scFol.nd rfl (Or.inl rfl)) (pgs_cons (pg_name (i := 6) scFol.nd rfl (Or.inl rfl)) (pgs_cons (pg_name (i := 7) scFol.nd rfl (Or.inl rfl)) pgs_nil)))))
        (pss_cons (ps_if (pw_or (pt_cmpR op_ne (pv 5) (pv 2) (nomark _)) (pw_or1 (pw_and (pt_cmpR op_gt (pv 3) pe_int (nomark _)) (pw_and1 (pt_cmpR op_eq (pv 5) pe_int (nomark _)))).pt)).pt (pss_one (ps_ret pe_bl)) pss_nil)
        (pss_one (ps_set (i := 2) scFol.nd rfl (Or.inl rfl) (pv 7))))))
      (pss_one (ps_ret (pe_cmpR op_eq (pv 2) pe_int (nomark _))))), ?_⟩
    refine ⟨_, rfl, w, _, rfl, SqT.of hw, for_it (walk_enumT (xs := ns.map V.int)) (fun i σ H' => ∃ (st : Int) (v3 v4 v5 v6 v7 : Option V), σ = [some (.ref f), some (.ref w), some (.int st), v3, v4, v5, v6, v7] ∧ Same H H' ∧ folF fr ns 0 0 = folF fr (ns.drop i) st i)
      ⟨0, none, none, none, none, none, rfl, Same.refl H, rfl⟩ (fun i σ H' _ ⟨_, _, _, _, _, _, _, z, _⟩ => SqT.of (z _ _ hw)) ?_ ?_⟩
    · rintro i x σ H1 H2 hi ⟨st, v3, v4, v5, v6, v7, rfl, s1, inv⟩ ⟨T, xi, xo, rfl, nT, rfl, h1, h2⟩
      cases h1
      have h2 : (ns.map V.int)[i]? = some xo := h2
      obtain ⟨n, en, rfl⟩ : ∃ n, ns[i]? = some n ∧ xo = .int n := by
        rw [List.getElem?_map] at h2
        cases e : ns[i]? with
        | none =>
          rw [e] at h2
          cases h2
        | some n =>
          rw [e] at h2
          exact ⟨n, rfl, (Option.some.inj h2).symm⟩
      obtain ⟨n0, n1⟩ := hn n (List.mem_of_getElem? en)
      rw [drop_at en] at inv
      have inv : folF fr ns 0 0 = (decide ((stt fr n).1 = st) && (!(decide (0 < i) && decide ((stt fr n).1 = 0)) && folF fr (ns.drop (i + 1)) (stt fr n).2.2 (i + 1))) := inv
      have s2 := s1.trans (same_upd (o := HO.tup [V.int (i : Nat), V.int n]) nT)
      obtain ⟨ts, t2, hf, ha, h3, _⟩ := stt_at (fa.same s2) n0 n1
      refine ⟨T, _, rfl, SqT.of upd_same, rfl, _, _, rfl, _, _, rfl, rfl, ?_⟩
      refine ⟨_, rfl, _, rfl, f, _, n, .ref t2, rfl, rfl, SqT.of hf, ha, t2, _, rfl, SqT.of h3, rfl, _, _, rfl, _, _, rfl, _, _, rfl, rfl, ?_⟩
      refine ⟨_, rfl, _, rfl, rfl, _, rfl, ?_⟩
      by_cases c1 : (stt fr n).1 = st
      · refine iteF' (by simp [c1]) ?_
        rw [decide_eq_true c1, Bool.true_and] at inv
        refine ⟨_, rfl, (i : Int), 0, rfl, rfl, _, rfl, ?_⟩
        have done : folF fr ns 0 0 = folF fr (ns.drop (i + 1)) (stt fr n).2.2 (i + 1) → ∃ (st' : Int) (v3 v4 v5 v6 v7 : Option V), [some (V.ref f), some (.ref w), some (V.int (stt fr n).2.2), some (V.int (i : Nat)), some (V.int n), some (V.int (stt fr n).1), some (V.str (stt fr n).2.1), some (V.int (stt fr n).2.2)] = [some (.ref f), some (.ref w), some (.int st'), v3, v4, v5, v6, v7] ∧ Same H (upd H1 T (HO.tup [V.int (i : Nat), V.int n])) ∧ folF fr ns 0 0 = folF fr (ns.drop (i + 1)) st' (i + 1) := fun e => ⟨_, _, _, _, _, _, rfl, s2, e⟩
        by_cases c2 : 0 < i
        · refine iteT' (by simp; omega) ?_
          rw [decide_eq_true c2, Bool.true_and] at inv
          refine ⟨_, rfl, rfl, _, rfl, ?_⟩
          by_cases c3 : (stt fr n).1 = 0
          · refine iteT' (by simp [c3]) ?_
            rw [decide_eq_true c3] at inv
            have z := q _ s2
            rw [inv] at z
            exact z
          · refine iteF' (by simp [c3]) ?_
            rw [decide_eq_false c3] at inv
            exact ⟨_, rfl, done (by rw [inv]; rfl)⟩
        · refine iteF' (by simp; omega) ?_
          rw [decide_eq_false c2] at inv
          exact ⟨_, rfl, done (by rw [inv]; rfl)⟩
      · refine iteT' (by simp [c1]) ?_
        rw [decide_eq_false c1] at inv
        have z := q _ s2
        rw [inv] at z
        exact z
    · rintro σ H1 ⟨st, v3, v4, v5, v6, v7, rfl, s1, inv⟩
      have inv : folF fr ns 0 0 = decide (st = 0) := by
        rw [inv, show (ns.map V.int).length = ns.length from List.length_map .., List.drop_length]
        rfl
      have z := q H1 s1
      rw [inv] at z
      have e1 : decide (V.int st = V.int 0) = decide (st = 0) := by
        rw [dec_int]
        by_cases z : st = 0
        · rw [z]
          rfl
        · rw [decide_eq_false z]
          exact beq_eq_false_iff_ne.mpr z
      rw [← e1] at z
      exact ⟨_, rfl, rfl, z⟩
theorem scLine : FnScope ["framing", "thing", "number"] ["framing", "thing"] (defScope sLine) := ⟨rfl, rfl, rfl, by decide +kernel, rfl, by decide +kernel, by decide +kernel⟩
theorem ok_line (Z : Ln K mg) : FnOk P w K mg base CX0 4 Z.fL Z.dL ["framing", "thing"] spLineL := by
  have GF : FnOk P w K mg base CX0 3 Z.W.fF Z.W.dF ["thing"] spNeedF := ok_needF Z.W
  have GN : FnOk P w K mg base CX0 1 Z.W.fN Z.W.dN ["thing", "many"] spNumD := ok_numD Z.W.N Z.W.T
  have GO : FnOk P w K mg base CX0 1 Z.fO Z.dO ["framing", "numbers"] spFol := ok_fol Z
  have T := Z.W.T
  refine Z.L.ok scLine (fun vs H Q E h => ?_) (fun cdv A outer s H vs Q E hr h => ?_)
  · obtain ⟨f, v, fr, last, d, rfl, _⟩ := h
    rfl
  · obtain ⟨f, v, fr, last, d, rfl, fa, fm, da, l, q⟩ := h
    have r1 := hr.mono (j := 1) (by omega)
    refine ⟨_, pss_cons (ps_expr (pe_call GF hr (by rfl) Z.W.mF Z.W.F.kp Z.W.bF .nil pass0 (pa_cons (pv 0) pa_nil)))
      (pss_cons (ps_if (pw_or (pt_not (pt_val (pe_callB call_isi (by rfl) T.isi PyProof.Rows.boot_isinstance (pa_cons (pv 1) (pa_cons (pe_bltn (v := .ty "tuple") (by rfl) T.tuple (by decide +kernel) rfl) pa_nil)))))
        (pw_or1 (pt_cmpR op_eq (pe_callB call_len_seq (by rfl) T.len PySem.boot_len (pa_cons (pv 1) pa_nil)) pe_int (nomark _)))).pt
        (pss_one (ps_ret pe_bl)) pss_nil)
      (pss_cons (ps_if (pt_not (pt_val (pe_callB (cr_all rfl) (by rfl) T.all (by decide +kernel) (pa_cons (pe_lc (own := [("number", 2)]) (g := gName 2) (te := tCall spNumD [] E0 (tCons (tVar 2) (tCons (tCB (rLn K) (tCons (tVar 0) tNil)) tNil))) rfl scLine.nd (pi_tup (pv 1)) (blkOk_by (N := ["framing", "thing", "number"]) (sc := defScope sLine) (by decide +kernel))
          (fun _ _ _ _ _ => pg_name (i := 2) scLine.nd rfl (Or.inl rfl)) (fun _ _ _ _ _ => pts_nil) (fun _ _ _ _ _ => pe_call GN r1 (by rfl) Z.W.mN Z.W.N.kp Z.W.bN .nil pass0 (pa_cons (pv 2) (pa_cons (pe_callB call_len_seq (by rfl) T.len PySem.boot_len (pa_cons (pv 0) pa_nil)) pa_nil)))) pa_nil))))
        (pss_one (ps_ret pe_bl)) pss_nil)
      (pss_one (ps_ret (pe_call GO r1 (by rfl) Z.mO Z.O.kp Z.bO .nil pass0 (pa_cons (pv 0) (pa_cons (pv 1) pa_nil))))))), ?_⟩
    refine ⟨_, rfl, f, fr, last, rfl, fa, fm, fun H1 s1 => ?_⟩
    have da1 := Da.same s1 _ _ da
    obtain ⟨t, ty, kt, _, _⟩ := da1.ty (K := K)
    refine ⟨_, rfl, v, .ty "tuple", t, .type "tuple", isTup d, rfl, .ty "tuple", ty, kt, isTup d, rfl, ?_⟩
    cases da1 with
    | @tup a xs ds e all =>
      refine iteF ?_
      have ln := all.len
      refine ⟨_, rfl, a, _, rfl, .inr (SqT.of e), rfl, _, rfl, ?_⟩
      match ds, xs, ln, all, l, q with
      | [], [], _, _, _, q => exact iteT' (by simp) (q H1 s1)
      | d0 :: ds0, x0 :: xs0, ln, all, l, q =>
        refine iteF' (by simp; omega) ?_
        refine ⟨_, rfl, a, rfl, ⟨_, SqT.of e⟩, fun D hD => ?_⟩
        refine lc_it (walk_tup (xs := x0 :: xs0)) (fun i H' => H' D = some (.lst ((((d0 :: ds0).take i).map fun d => (numD fr.length d).isSome).map V.bl)) ∧ ∀ b o, H1 b = some o → H' b = some o) ⟨upd_same, fun b o z => same_upd hD b o z⟩ (fun i H' _ z => SqT.of (z.2 _ _ e)) ?_ ?_
        · rintro i x H2 H3 hi ⟨hl, kp⟩ ⟨rfl, hx⟩
          obtain ⟨d1, h1, dx⟩ := all.at_ hx
          obtain ⟨ts, hf, hfl, ht⟩ := fa.same (s1.trans kp)
          have dx2 := Da.same kp _ _ dx
          refine ⟨rfl, ⟨_, rfl, _, rfl, f, _, rfl, .inr (SqT.of hf), x, d1, _, rfl, dx2, _, hl, ?_, ?_, fun b o z => ?_⟩⟩
          · have l : ((d0 :: ds0).length) ≤ 10000 := l
            rw [List.length_map, List.length_map, List.length_take, sizeLine_eq]
            omega
          · rw [take_one h1, List.map_append, List.map_append, List.length_map, hfl]
            exact upd_same
          · rw [upd_ne (ne_of_none z hD)]
            exact kp b o z
        · rintro H2 ⟨hl, kp⟩
          rw [ln, List.take_length] at hl
          refine ⟨D, _, rfl, SqL.of hl, _, rfl, ?_⟩
          have ev : (((d0 :: ds0).map fun d => (numD fr.length d).isSome).all id) = (numsD fr.length (d0 :: ds0)).isSome := numsD_is.symm
          have q : ∀ H', Same H H' → Q (.bl (match numsD fr.length (d0 :: ds0) with
            | some ns => if folF fr ns 0 0 = true then some ns else none
            | none => none).isSome) H' := q
          rw [ev]
          cases en : numsD fr.length (d0 :: ds0) with
          | none =>
            rw [en] at q
            exact iteT (q _ (s1.trans kp))
          | some ns =>
            rw [en] at q
            refine iteF ?_
            obtain ⟨ed, hns⟩ := numsD_some en
            have ex : x0 :: xs0 = ns.map V.int := by
              rw [ed] at all
              exact da_ints all
            refine ⟨_, rfl, _, rfl, f, a, fr, ns, rfl, fa.same (s1.trans kp), by rw [← ex]; exact kp _ _ e, hns, fun H3 s3 => ?_⟩
            have z : Q (.bl (if folF fr ns 0 0 = true then some ns else none).isSome) H3 := q H3 ((s1.trans kp).trans s3)
            cases ef : folF fr ns 0 0 with
            | true =>
              rw [ef] at z
              exact z
            | false =>
              rw [ef] at z
              exact z
    | bl b => exact iteT (q H1 s1)
    | non => exact iteT (q H1 s1)
    | int i => exact iteT (q H1 s1)
    | str x => exact iteT (q H1 s1)
    | lst e h => exact iteT (q H1 s1)
end
end K04

set_option Elab.async false
set_option linter.all false
set_option maxRecDepth 100000
set_option maxHeartbeats 4000000
/-! The nine classes: their __init__, message. -/
namespace K04
open PySem L2 L2.EV
/-! ### the arguments -/
mutual
theorem dp_same {K : PySem.W.Frag} {H H' : Hp} (s : Same H H') : ∀ (d : PyData) (v : V), Dp K H v d → Dp K H' v d
  | .none, _, h => by cases h; exact .non
  | .bool b, _, h => by cases h; exact .bl b
  | .int i, _, h => by cases h; exact .int i
  | .str x, _, h => by cases h; exact .str x
  | .list ds, _, h => by
    cases h with
    | lst hs ha => exact .lst (s.seq hs) (dpall_same s ds _ ha)
  | .tuple ds, _, h => by
    cases h with
    | tup hs ha =>
      refine .tup ?_ (dpall_same s ds _ ha)
      rcases hs with (q | ⟨o, q⟩) | q
      · exact .inl (.inl (s _ _ q))
      · exact .inl (.inr ⟨o, s _ _ q⟩)
      · exact .inr q
  | .dict _, _, h => by cases h
theorem dpall_same {K : PySem.W.Frag} {H H' : Hp} (s : Same H H') : ∀ (ds : List PyData) (vs : List V), DpAll K H vs ds → DpAll K H' vs ds
  | [], _, h => by cases h; exact .nil
  | d :: ds, _, h => by
    cases h with
    | cons h1 h2 => exact .cons (dp_same s d _ h1) (dpall_same s ds _ h2)
end
/-- what may be handed to an error, and the data that it is -/
inductive Arg (K : PySem.W.Frag) (H : Hp) : V → PyData → Prop
  | non : Arg K H .non .none
  | bl (b : Bool) : Arg K H (.bl b) (.bool b)
  | int (i : Int) : Arg K H (.int i) (.int i)
  | str (x : Str) : Arg K H (.str x) (.str x)
  | lst {a : Addr} {xs : List V} {ds : List PyData} : H a = some (.lst xs) → DpAll K H xs ds → PyData.hasDict (.list ds) = false → Arg K H (.ref a) (.list ds)
  | tup {a : Addr} {xs : List V} {ds : List PyData} : H a = some (.tup xs) → DpAll K H xs ds → PyData.hasDict (.tuple ds) = false → Arg K H (.ref a) (.tuple ds)
  | dct {a : Addr} : H a = some (.dK [(Sum.inr "a", V.int 1)]) → Arg K H (.ref a) (.dict [(.str "a", .int 1)])
theorem Arg.same {K : PySem.W.Frag} {H H' : Hp} {v : V} {d : PyData} (h : Arg K H v d) (s : Same H H') : Arg K H' v d := by
  cases h with
  | non => exact .non
  | bl b => exact .bl b
  | int i => exact .int i
  | str x => exact .str x
  | lst e ha no => exact .lst (s _ _ e) (dpall_same s _ _ ha) no
  | tup e ha no => exact .tup (s _ _ e) (dpall_same s _ _ ha) no
  | dct e => exact .dct (s _ _ e)
theorem Arg.ty {K : PySem.W.Frag} {H : Hp} {v : V} {d : PyData} (h : Arg K H v d) : ∃ (t : Value) (b : Bool), TyX K H v t ∧ PySem.W.kitOne K t (.type "str") = some b := by
  cases h with
  | non => exact ⟨_, _, .base .non, kit_ty (r := false) (by decide +kernel)⟩
  | bl b => exact ⟨_, _, .base (.bl b), kit_ty (r := false) (by decide +kernel)⟩
  | int i => exact ⟨_, _, .base (.int i), kit_ty (r := false) (by decide +kernel)⟩
  | str x => exact ⟨_, _, .base (.str x), kit_ty (r := true) (by decide +kernel)⟩
  | lst e _ _ => exact ⟨_, _, .base (.lst e), kit_ty (r := false) (by decide +kernel)⟩
  | tup e _ _ => exact ⟨_, _, .base (.tup e), kit_ty (r := false) (by decide +kernel)⟩
  | dct e => exact ⟨_, _, .base (.dK e), kit_ty (r := false) (by decide +kernel)⟩
theorem Arg.sh {K : PySem.W.Frag} {H : Hp} {v : V} {d : PyData} (h : Arg K H v d) : Sh K H v d := by
  cases h with
  | non => exact .plain .non rfl
  | bl b => exact .plain (.bl b) rfl
  | int i => exact .plain (.int i) rfl
  | str x => exact .plain (.str x) rfl
  | lst e ha no => exact .plain (.lst (SqL.of e) ha) no
  | tup e ha no => exact .plain (.tup (SqT.of e) ha) no
  | dct e => exact .one e
/-! ### promises -/
def spNo (K : PySem.W.Frag) (C : Addr) : Sp := fun vs H Q _ => ∃ (a : Addr) (x : V) (d : PyData), vs = [.ref a, x] ∧ H a = some (exo a C none) ∧ Arg K H x d ∧ Q .non H
def spMsg (K : PySem.W.Frag) : Sp := fun vs H Q _ => ∃ (x : V) (d : PyData), vs = [x] ∧ Arg K H x d ∧ ∀ v, Q v H
abbrev sMsg : Stmt := top 1
structure TxtM (mg : Str → Option Value) : Prop where
  isi : mg "isinstance" = none
  str : mg "str" = none
section
variable {P : Program} {w : World} {K : PySem.W.Frag} {mg : Str → Option Value} {base : Heap}
theorem scM : FnScope ["text"] ["text"] (defScope sMsg) := ⟨rfl, rfl, rfl, by decide +kernel, rfl, by decide +kernel, by decide +kernel⟩
theorem ok_msg {f : Addr} {fd : FuncData} (F : Fun K "message" "message" sMsg f fd) (T : TxtM mg) : FnOk P w K mg base CX0 1 f fd ["text"] (spMsg K) := by
  refine F.ok scM (fun vs H Q E h => ?_) (fun cdv A outer s H vs Q E hr h => ?_)
  · obtain ⟨x, d, rfl, _⟩ := h
    rfl
  · obtain ⟨x, d, rfl, ar, q⟩ := h
    refine ⟨_, pss_cons (ps_if (pt_val (pe_callB call_isi (by rfl) T.isi PyProof.Rows.boot_isinstance (pa_cons (pv 0) (pa_cons (pe_bltn (v := .ty "str") (by rfl) T.str (by decide +kernel) rfl) pa_nil)))) (pss_one (ps_ret (pv 0))) pss_nil) (pss_one (ps_ret pe_str)), ?_⟩
    obtain ⟨t, b, ty, kt⟩ := ar.ty
    refine ⟨_, rfl, x, .ty "str", t, .type "str", b, rfl, .ty "str", ty, kt, b, rfl, ?_⟩
    cases b with
    | true => exact iteT ⟨_, rfl, q _⟩
    | false => exact iteF (q _)
abbrev sOutOfPlace : Stmt := inClass (top 3) 0
theorem scOutOfPlace : FnScope ["self", "text"] ["self", "text"] (defScope sOutOfPlace) := ⟨rfl, rfl, rfl, by decide +kernel, rfl, by decide +kernel, by decide +kernel⟩
theorem ok_OutOfPlace {f C fM : Addr} {fd fdM : FuncData} (F : Fun K "__init__" "OutOfPlace.__init__" sOutOfPlace f fd) (T : OxC K C "ValueError" "ValueError.__new__" "ValueError.__init__" [.type "ValueError", .type "Exception", .type "BaseException", .type "object"]) (I : BI K mg "ValueError" "ValueError" "ValueError.__init__")
    (FM : Fun K "message" "message" sMsg fM fdM) (bM : Binds K fdM ["text"] []) (mM : mg "message" = some (.ref fM)) (TM : TxtM mg) : FnOk P w K mg base CX0 2 f fd ["self", "text"] (spNo K C) := by
  have GM : FnOk P w K mg base CX0 1 fM fdM ["text"] (spMsg K) := ok_msg FM TM
  refine F.ok scOutOfPlace (fun vs H Q E h => ?_) (fun cdv A outer s H vs Q E hr h => ?_)
  · obtain ⟨a, x, d, rfl, _⟩ := h
    rfl
  · obtain ⟨a, x, d, rfl, e, ar, q⟩ := h
    refine ⟨_, pss_one (ps_expr (pe_bin (newId := "ValueError.__new__") (bm := [.type "ValueError", .type "Exception", .type "BaseException", .type "object"]) (by rfl) I.mg I.bt I.ty I.vV I.st (pa_cons (pv 0) (pa_cons (pe_call GM hr rfl mM FM.kp bM .nil pass0 (pa_cons (pv 1) pa_nil)) pa_nil)) rfl)), ?_⟩
    exact ⟨_, rfl, _, rfl, x, d, rfl, ar, fun v => ⟨a, C, _, rfl, by show 1 ≤ 1000; decide, T, e, q⟩⟩
end
/-- what is known of OutOfPlace -/
structure Oop (K : PySem.W.Frag) (mg : Str → Option Value) where
  C : Addr
  f : Addr
  d : FuncData
  fM : Addr
  dM : FuncData
  T : OxC K C "ValueError" "ValueError.__new__" "ValueError.__init__" bmVE
  I : BI K mg "ValueError" "ValueError" "ValueError.__init__"
  F : Fun K "__init__" "OutOfPlace.__init__" sOutOfPlace f d
  b : Binds K d ["self", "text"] []
  FM : Fun K "message" "message" sMsg fM dM
  bM : Binds K dM ["text"] []
  mM : mg "message" = some (.ref fM)
  TM : TxtM mg
  m : mg "OutOfPlace" = some (.ref C)
  iC : PySem.W.findIn K (.ref C) "__init__" = some (some (.ref f))
  tI : PySem.W.typeIn K (.ref f) = some (.type "function")
  su : PySem.W.subIn K (.ref C) (.type "BaseException") = some true
  ty : PySem.W.typeIn K (.ref C) = some (.type "type")
  own : PySem.W.subIn K (.ref C) (.ref C) = some true
end K04

set_option Elab.async false
set_option linter.all false
set_option maxRecDepth 100000
set_option maxHeartbeats 4000000
/-! Drawn pieces. -/
namespace K04
open PySem L2 L2.EV
abbrev sPiece : Stmt := top 22
/-- the draws have gone on from H0, where they were at k0 with the list l0: all other things are as they were -/
structure Dr (H0 H : Hp) (m c l0 l : Addr) (k : Int) : Prop where
  at_ : MAt H m c l k
  hl : l = l0 ∨ H0 l = none
  kp : ∀ b o, H0 b = some o → b ≠ m → b ≠ l0 → H b = some o
theorem Dr.refl {H : Hp} {m c l : Addr} {k : Int} (M : MAt H m c l k) : Dr H H m c l l k := ⟨M, .inl rfl, fun b o e _ _ => e⟩
theorem Dr.same {H0 H H' : Hp} {m c l0 l : Addr} {k : Int} (d : Dr H0 H m c l0 l k) (s : Same H H') : Dr H0 H' m c l0 l k :=
  ⟨d.at_.same s, d.hl, fun b o e h1 h2 => s _ _ (d.kp b o e h1 h2)⟩
/-- one part behind another -/
theorem Dr.trans {H0 H H' : Hp} {m c l0 l l' : Addr} {k k' : Int} (d : Dr H0 H m c l0 l k) (e : Dr H H' m c l l' k') : Dr H0 H' m c l0 l' k' := by
  refine ⟨e.at_, ?_, fun b o e1 h1 h2 => e.kp b o (d.kp b o e1 h1 h2) h1 ?_⟩
  · rcases e.hl with h | h
    · rw [h]
      exact d.hl
    · by_cases z : l' = l0
      · exact .inl z
      · refine .inr ?_
        cases q : H0 l' with
        | none => rfl
        | some o =>
          have ne : l' ≠ m := (ne_of_none d.at_.hm h).symm
          rw [d.kp l' o q ne z] at h
          cases h
  · rcases d.hl with hl | hl
    · rw [hl]
      exact h2
    · exact ne_of_none e1 hl
/-- a thing of another kind than the draws' own stays -/
theorem Dr.tup {H0 H : Hp} {m c l0 l : Addr} {k k0 : Int} {a : Addr} {xs : List V} (d : Dr H0 H m c l0 l k) (M : MAt H0 m c l0 k0) (e : H0 a = some (.tup xs)) : H a = some (.tup xs) := by
  obtain ⟨ls, hl, _⟩ := M.hl
  exact d.kp a _ e (ne_of e M.hm (fun z => by cases z)) (ne_of e hl (fun z => by cases z))
theorem Dr.fr {H0 H : Hp} {m c l0 l : Addr} {k k0 : Int} {f : Addr} {fr : List T3} (d : Dr H0 H m c l0 l k) (M : MAt H0 m c l0 k0) (h : FrA H0 f fr) : FrA H f fr := by
  obtain ⟨ts, e, l, cc⟩ := h
  exact ⟨ts, d.tup M e, l, fun i t x h1 h2 => d.tup M (cc i t x h1 h2)⟩
/-- another list stays, and is none of the draws' own -/
theorem Dr.lst {H H' : Hp} {m c l l' : Addr} {k k0 : Int} {a : Addr} {xs : List V} (d : Dr H H' m c l l' k) (M : MAt H m c l k0) (e : H a = some (.lst xs)) (ne : a ≠ l) : H' a = some (.lst xs) ∧ a ≠ l' := by
  refine ⟨d.kp a _ e (ne_of e M.hm (fun z => by cases z)) ne, ?_⟩
  rcases d.hl with z | z
  · rw [z]
    exact ne
  · exact ne_of_none e z
/-- a draw, as spNext wants it -/
theorem dr_next {H : Hp} {m c l : Addr} {k n : Int} {Q : VK} {E : XK} (M : MAt H m c l k) (hn : 0 < n) (hn1 : n < 1000000) (hk : k < 900000)
    (q : ∀ (r : Int) (H' : Hp) (l' : Addr) (k' : Int), 0 ≤ r → r < n → k' ≤ k + 1 → Dr H H' m c l l' k' → Q (.int r) H') : spNext [.ref m, .int n] H Q E :=
  ⟨m, c, l, k, n, rfl, M, hn, hn1, by omega, fun r H' l' k' r0 r1 kk M' fl kp => q r H' l' k' r0 r1 kk ⟨M', fl, kp⟩⟩
theorem MAt.l_some {H : Hp} {m c l : Addr} {k : Int} (M : MAt H m c l k) {a : Addr} (h : H a = none) : a ≠ l := by
  obtain ⟨ls, hl, _⟩ := M.hl
  exact (ne_of_none hl h).symm
theorem sl_app (a b : Str) : sl (a ++ b) = sl a ++ sl b := by
  show (Str.append a b).cps.toList = _
  simp [Str.append]
theorem sl_empty : sl ("" : Str) = [] := by decide +kernel
theorem sl_join : ∀ ys : List Str, sl (Str.join "" ys) = (ys.map sl).flatten
  | [] => rfl
  | [x] => by
    show sl x = _
    simp
  | x :: y :: r => by
    show sl (x ++ "" ++ Str.join "" (y :: r)) = _
    rw [sl_app, sl_app, sl_empty, sl_join (y :: r)]
    simp
theorem txt_join (ys : List Str) : sl (Txt.join "" ys) = (ys.map sl).flatten := by
  have z := PyProof.Rows.join_plain_closes "" ys
  rw [eq_of_beq z, sl_join]
theorem flat_one {ys : List Str} (h : ∀ y ∈ ys, ∃ c, y = ⟨#[c]⟩ ∧ c ∈ sgs) : (∀ c, c ∈ (ys.map sl).flatten → c ∈ sgs) ∧ ((ys.map sl).flatten).length = ys.length := by
  induction ys with
  | nil => exact ⟨fun c h => (by cases h), rfl⟩
  | cons y ys ih =>
    obtain ⟨c, e, hc⟩ := h y (List.mem_cons_self ..)
    have e2 : sl y = [c] := by rw [e]
    obtain ⟨h1, h2⟩ := ih fun y hy => h y (List.mem_cons_of_mem _ hy)
    rw [List.map_cons, List.flatten_cons, e2]
    refine ⟨fun d hd => ?_, ?_⟩
    · rcases List.mem_append.mp hd with hd | hd
      · have e : d = c := by simpa using hd
        rw [e]
        exact hc
      · exact h1 d hd
    · rw [List.length_append, h2, List.length_cons, List.length_cons, List.length_nil]
      omega
theorem MAt.upd {H : Hp} {m c l D : Addr} {k : Int} {o : HO} (M : MAt H m c l k) (hm : D ≠ m) (hc : D ≠ c) (hl : D ≠ l) : MAt (L2.upd H D o) m c l k := by
  obtain ⟨h1, ⟨cs, h2, h3⟩, ⟨ls0, h4, h5⟩, h6, h7, h8⟩ := M
  exact ⟨by rw [upd_ne hm.symm]; exact h1, ⟨cs, by rw [upd_ne hc.symm]; exact h2, h3⟩, ⟨ls0, by rw [upd_ne hl.symm]; exact h4, h5⟩, h6, h7, h8⟩
theorem MAt.c_some {H : Hp} {m c l : Addr} {k : Int} (M : MAt H m c l k) {a : Addr} (h : H a = none) : a ≠ c := by
  obtain ⟨ls, hl, _⟩ := M.hc
  exact (ne_of_none hl h).symm
def spPiece : Sp := fun vs H Q _ => ∃ (m c l : Addr) (k : Int) (last : Bool), vs = [.ref m, .bl last] ∧ MAt H m c l k ∧ k < 800000 ∧
  ∀ (p : Str) (H' : Hp) (l' : Addr) (k' : Int), Pc p last → k' ≤ k + 20 → Dr H H' m c l l' k' → Q (.str p) H'
section
variable {P : Program} {w : World} {K : PySem.W.Frag} {mg : Str → Option Value} {base : Heap}
structure Ls (K : PySem.W.Frag) (mg : Str → Option Value) where
  f1 : Addr
  d1 : FuncData
  N : Fun K "_law_next" "_law_next" sNext f1 d1
  bN : Binds K d1 ["m", "many"] []
  mN : mg "_law_next" = some (.ref f1)
  T : TxtD mg
  ra : mg "range" = none
  f2 : Addr
  d2 : FuncData
  P : Fun K "_law_piece" "_law_piece" sPiece f2 d2
  bP : Binds K d2 ["m", "is_end"] []
  mP : mg "_law_piece" = some (.ref f2)
theorem scPiece : FnScope ["m", "is_end", "many", "k", "found"] ["m", "is_end"] (defScope sPiece) := ⟨rfl, rfl, rfl, by decide +kernel, rfl, by decide +kernel, by decide +kernel⟩
theorem aba : sl ("ab@a" : Str) = [97, 98, 64, 97] := by decide +kernel
theorem aba_sgs : ∀ c ∈ sl ("ab@a" : Str), c ∈ sgs := by decide +kernel
theorem sum_one : ∀ zs : List Str, (∀ y ∈ zs, ∃ c, y = ⟨#[c]⟩ ∧ c ∈ sgs) → (zs.map (·.length)).sum = zs.length := by
  intro zs
  induction zs with
  | nil => exact fun _ => rfl
  | cons y zs ih =>
    intro h
    obtain ⟨c, e, _⟩ := h y (List.mem_cons_self ..)
    have e2 : y.length = 1 := by rw [e]; rfl
    rw [List.map_cons, List.sum_cons, e2, ih fun y hy => h y (List.mem_cons_of_mem _ hy), List.length_cons]
    omega
theorem ok_piece (L : Ls K mg) : FnOk P w K mg base CX0 2 L.f2 L.d2 ["m", "is_end"] spPiece := by
  have GX : FnOk P w K mg base CX0 1 L.f1 L.d1 ["m", "many"] spNext := ok_next L.N L.T
  refine L.P.ok scPiece (fun vs H Q E h => ?_) (fun cdv A outer s H vs Q E hr h => ?_)
  · obtain ⟨m, c, l, k, last, rfl, _⟩ := h
    rfl
  · obtain ⟨m, c, l, k, last, rfl, M, hk, q⟩ := h
    refine ⟨_, pss_cons (ps_set (i := 2) scPiece.nd rfl (Or.inl rfl) (pe_ifExp (pt_val (pv 1)) (pe_call GX hr (by rfl) L.mN L.N.kp L.bN .nil pass0 (pa_cons (pv 0) (pa_cons pe_int pa_nil))) (pe_op op_add pe_int (pe_call GX hr (by rfl) L.mN L.N.kp L.bN .nil pass0 (pa_cons (pv 0) (pa_cons pe_int pa_nil))))))
      (pss_cons (ps_set (i := 4) scPiece.nd rfl (Or.inl rfl) (pe_m1 PySem.F.slot_str_join PySem.F.type_str_join mt_join pe_str (pe_lc (own := [("k", 3)]) (g := gName 3) rfl scPiece.nd (pi_range1 (by rfl) L.ra (pa_cons (pv 2) pa_nil))
        (blkOk_by (N := ["m", "is_end", "many", "k", "found"]) (sc := defScope sPiece) (by decide +kernel))
        (fun _ _ _ _ _ => pg_name (i := 3) scPiece.nd rfl (Or.inl rfl)) (fun _ _ _ _ _ => pts_nil)
        (fun _ _ _ _ _ => pe_ix ix_str pe_str (pe_call GX hr (by rfl) L.mN L.N.kp L.bN .nil pass0 (pa_cons (pv 0) (pa_cons pe_int pa_nil))) (fun _ _ => rfl)))))
      (pss_one (ps_ret (pe_ifExp (pt_val (pv 1)) (pe_op op_add_str (pv 4) pe_str) (pv 4))))), ?_⟩
    have fin : ∀ (H4 : Hp) (l4 : Addr) (k4 : Int) (ys : List Str), (∀ y ∈ ys, ∃ c, y = ⟨#[c]⟩ ∧ c ∈ sgs) → ys.length ≤ 2 → (last = false → 1 ≤ ys.length) → k4 ≤ k + 20 → Dr H H4 m c l l4 k4 →
        (last = false → Q (.str (Txt.join "" ys)) H4) ∧ (last = true → Q (.str (Txt.join "" ys ++ ";")) H4) := by
      intro H4 l4 k4 ys hy l2 l1 kk d4
      obtain ⟨w1, w2⟩ := flat_one hy
      rw [← txt_join] at w1 w2
      refine ⟨fun e => ?_, fun e => ?_⟩
      · subst e
        exact q _ H4 l4 k4 ⟨sl (Txt.join "" ys), by rw [if_neg (by simp), List.append_nil], by rw [w2, if_neg (by simp)]; omega, w1, fun _ e => by have := l1 rfl; rw [e] at w2; simp at w2; omega⟩ kk d4
      · subst e
        exact q _ H4 l4 k4 ⟨sl (Txt.join "" ys), by rw [sl_app, semi, if_pos rfl], by rw [w2, if_pos rfl]; omega, w1, fun e => by cases e⟩ kk d4
    have z0 : ("" : Str).length = 0 := by decide +kernel
    have l4 : ("ab@a" : Str).length = 4 := by decide +kernel
    cases last
    · refine ⟨_, rfl, _, rfl, iteF ⟨_, rfl, m, c, l, k, 2, rfl, M, by decide, by decide, by omega, fun r1 H1 l1 k1 a1 b1 g1 N1 f1 q1 => ⟨1, r1, rfl, rfl, ?_⟩⟩⟩
      have d1 : Dr H H1 m c l l1 k1 := ⟨N1, f1, q1⟩
      refine ⟨⟨_, rfl⟩, _, rfl, 1 + r1, rfl, by omega, by omega, fun D hD => ?_⟩
      have D4 := d1.same (same_upd (o := HO.lst []) hD)
      have nD := d1.at_.l_some hD
      refine lc_it walk_range (fun i H' => ∃ (ys : List Str) (l' : Addr) (k' : Int), H' D = some (.lst (ys.map V.str)) ∧ D ≠ l' ∧ ys.length = i ∧ (∀ y ∈ ys, ∃ c, y = ⟨#[c]⟩ ∧ c ∈ sgs) ∧ k' ≤ k1 + i ∧ MAt H' m c l' k' ∧ (l' = l ∨ H l' = none) ∧ ∀ b o, H b = some o → b ≠ m → b ≠ l → H' b = some o)
        ⟨[], l1, k1, upd_same, nD, rfl, (fun y h => by cases h), by omega, D4.at_, D4.hl, D4.kp⟩ (fun _ _ _ _ => trivial) ?_ ?_
      · rintro i x H4 H5 hi ⟨ys, l5, k4, hl, nl, ly, hy, kk, M4, f4, q4⟩ ⟨rfl, rfl⟩
        have d0 : Dr H H5 m c l l5 k4 := ⟨M4, f4, q4⟩
        have hi7 : i < 2 := by omega
        refine ⟨rfl, _, rfl, m, c, l5, k4, 4, rfl, M4, by decide, by decide, by omega, fun r5 H6 l6 k6 a6 b6 g6 N6 f6 q6 => ?_⟩
        have d6 : Dr H5 H6 m c l5 l6 k6 := ⟨N6, f6, q6⟩
        obtain ⟨e6, n6⟩ := d6.lst M4 hl nl
        obtain ⟨j, rfl⟩ := Int.eq_ofNat_of_zero_le a6
        have js : j < (sl ("ab@a" : Str)).length := by rw [← len_sl, l4]; omega
        refine ⟨"ab@a", (j : Int), (sl ("ab@a" : Str))[j], rfl, rfl, by rw [l4, sizeLine_eq]; omega, atI_nat (List.getElem?_eq_getElem js), _, e6, ?_, ?_⟩
        · rw [List.length_map, ly, sizeLine_eq]
          omega
        · have dk := d0.trans d6
          have hDm : D ≠ m := ne_of e6 N6.hm (fun z => by cases z)
          refine ⟨ys ++ [⟨#[(sl ("ab@a" : Str))[j]]⟩], l6, k6, ?_, n6, by rw [List.length_append, ly]; rfl, fun y h => ?_, by omega, ?_, dk.hl, fun b o z h1 h2 => ?_⟩
          · rw [List.map_append]
            exact upd_same
          · rcases List.mem_append.mp h with h | h
            · exact hy y h
            · exact ⟨_, by simpa using h, aba_sgs _ (List.getElem_mem js)⟩
          · exact N6.upd hDm (d1.at_.c_some hD) n6
          · rw [upd_ne (ne_of_none (d1.kp b o z h1 h2) hD)]
            exact dk.kp b o z h1 h2
      · rintro H4 ⟨ys, l5, k4, hl, nl, ly, hy, kk, M4, f4, q4⟩
        have d4 : Dr H H4 m c l l5 k4 := ⟨M4, f4, q4⟩
        have fn := fin H4 l5 k4 ys hy (by omega) (fun h => by first | omega | cases h) (by omega) d4
        refine ⟨"", D, ys, rfl, rfl, .inl (SqL.of hl), by rw [sum_one ys hy, z0]; omega, ?_⟩
        exact ⟨_, rfl, _, rfl, iteF ⟨_, rfl, fn.1 rfl⟩⟩
    · refine ⟨_, rfl, _, rfl, iteT ⟨_, rfl, m, c, l, k, 3, rfl, M, by decide, by decide, by omega, fun r1 H1 l1 k1 a1 b1 g1 N1 f1 q1 => ?_⟩⟩
      have d1 : Dr H H1 m c l l1 k1 := ⟨N1, f1, q1⟩
      refine ⟨⟨_, rfl⟩, _, rfl, r1, rfl, by omega, by omega, fun D hD => ?_⟩
      have D4 := d1.same (same_upd (o := HO.lst []) hD)
      have nD := d1.at_.l_some hD
      refine lc_it walk_range (fun i H' => ∃ (ys : List Str) (l' : Addr) (k' : Int), H' D = some (.lst (ys.map V.str)) ∧ D ≠ l' ∧ ys.length = i ∧ (∀ y ∈ ys, ∃ c, y = ⟨#[c]⟩ ∧ c ∈ sgs) ∧ k' ≤ k1 + i ∧ MAt H' m c l' k' ∧ (l' = l ∨ H l' = none) ∧ ∀ b o, H b = some o → b ≠ m → b ≠ l → H' b = some o)
        ⟨[], l1, k1, upd_same, nD, rfl, (fun y h => by cases h), by omega, D4.at_, D4.hl, D4.kp⟩ (fun _ _ _ _ => trivial) ?_ ?_
      · rintro i x H4 H5 hi ⟨ys, l5, k4, hl, nl, ly, hy, kk, M4, f4, q4⟩ ⟨rfl, rfl⟩
        have d0 : Dr H H5 m c l l5 k4 := ⟨M4, f4, q4⟩
        have hi7 : i < 2 := by omega
        refine ⟨rfl, _, rfl, m, c, l5, k4, 4, rfl, M4, by decide, by decide, by omega, fun r5 H6 l6 k6 a6 b6 g6 N6 f6 q6 => ?_⟩
        have d6 : Dr H5 H6 m c l5 l6 k6 := ⟨N6, f6, q6⟩
        obtain ⟨e6, n6⟩ := d6.lst M4 hl nl
        obtain ⟨j, rfl⟩ := Int.eq_ofNat_of_zero_le a6
        have js : j < (sl ("ab@a" : Str)).length := by rw [← len_sl, l4]; omega
        refine ⟨"ab@a", (j : Int), (sl ("ab@a" : Str))[j], rfl, rfl, by rw [l4, sizeLine_eq]; omega, atI_nat (List.getElem?_eq_getElem js), _, e6, ?_, ?_⟩
        · rw [List.length_map, ly, sizeLine_eq]
          omega
        · have dk := d0.trans d6
          have hDm : D ≠ m := ne_of e6 N6.hm (fun z => by cases z)
          refine ⟨ys ++ [⟨#[(sl ("ab@a" : Str))[j]]⟩], l6, k6, ?_, n6, by rw [List.length_append, ly]; rfl, fun y h => ?_, by omega, ?_, dk.hl, fun b o z h1 h2 => ?_⟩
          · rw [List.map_append]
            exact upd_same
          · rcases List.mem_append.mp h with h | h
            · exact hy y h
            · exact ⟨_, by simpa using h, aba_sgs _ (List.getElem_mem js)⟩
          · exact N6.upd hDm (d1.at_.c_some hD) n6
          · rw [upd_ne (ne_of_none (d1.kp b o z h1 h2) hD)]
            exact dk.kp b o z h1 h2
      · rintro H4 ⟨ys, l5, k4, hl, nl, ly, hy, kk, M4, f4, q4⟩
        have d4 : Dr H H4 m c l l5 k4 := ⟨M4, f4, q4⟩
        have fn := fin H4 l5 k4 ys hy (by omega) (fun h => by first | omega | cases h) (by omega) d4
        refine ⟨"", D, ys, rfl, rfl, .inl (SqL.of hl), by rw [sum_one ys hy, z0]; omega, ?_⟩
        refine ⟨_, rfl, _, rfl, iteT ⟨_, rfl, _, ";", rfl, rfl, ?_, fn.2 rfl⟩⟩
        have z := (flat_one hy).2
        rw [← txt_join] at z
        rw [semi1, sizeLine_eq, len_sl]
        omega
end
end K04

set_option Elab.async false
set_option linter.all false
set_option maxRecDepth 100000
set_option maxHeartbeats 4000000
/-! Sets of tuples whose items are of any kind of keys: what is asked of such a tuple; the rows of a set. -/
namespace SX
open PySem PySem.Spec PyProof.Rows L2
/-- what is carried by value is of no class, and whether it hashes by value is told at once -/
theorem plain_cls {v : Value} (h : carriedByValue v = true) (n : Nat) : ofAClassStatement n v = pure false := by
  cases v with
  | ref a => simp [carriedByValue] at h
  | _ => cases n <;> rfl
theorem plain_byv {v : Value} (h : carriedByValue v = true) (n : Nat) : ∃ c : Bool, hashByValue n v = pure c := by
  cases v with
  | ref a => simp [carriedByValue] at h
  | _ => cases n <;> exact ⟨_, rfl⟩
section
variable {prog : Program} {w : World} {I : Type} [DecidableEq I] {knd : KeyKind prog w I} {A : Around} {E : Value → Shared → Prop} {s : Shared}
theorem tup_cls {ks : List I} {x : Addr} {Q : Bool → Shared → Prop} (tx : IsTupleKey knd s.heap ks x) (q : Q false s) : wpAny (model prog w) A (ofAClassStatement 8 (.ref x)) Q E s := by
  have ty := tx.typeIs
  obtain ⟨ob, vs, len, at_, _, dt, its⟩ := tx
  unfold ofAClassStatement
  refine wpAny_bind (wpAny_typeOf ty ?_)
  dsimp only
  rw [show (("tuple" : String) == "tuple") = true by decide]
  simp only [if_true, Bool.not_true, Bool.false_eq_true, if_false]
  first
    | skip
  try refine wpAny_bind (wpAny_pure ?_)
  try simp only [Bool.not_true, Bool.false_eq_true, if_false]
  show wpAny _ _ (seqItems? (.ref x) >>= _) _ _ s
  refine wpAny_bind (wpAny_seqItems at_ dt ?_)
  dsimp only
  refine wpAny_bind ?_
  show wpAny _ _ (forIn vs _ _) _ _ s
  rw [← Array.forIn_toList]
  refine wpAny_forIn_list _ (fun more acc s' => acc.1 = none ∧ s' = s ∧ ∀ v ∈ more, carriedByValue v = true) _ (fun v more acc s' ⟨h1, h2, h3⟩ => ?_) (fun acc s' ⟨h1, h2, _⟩ => ?_) _ _ ⟨rfl, rfl, its.byValue⟩
  · subst h2
    rw [plain_cls (h3 v (List.mem_cons_self ..))]
    refine wpAny_bind (wpAny_pure ?_)
    simp only [Bool.false_eq_true, if_false]
    exact wpAny_pure ⟨rfl, rfl, fun u hu => h3 u (List.mem_cons_of_mem _ hu)⟩
  · obtain ⟨a1, a2⟩ := acc
    subst h2
    simp only at h1
    subst h1
    exact wpAny_pure q
theorem tup_byv {ks : List I} {x : Addr} {Q : Bool → Shared → Prop} (tx : IsTupleKey knd s.heap ks x) (q : ∀ c, Q c s) : wpAny (model prog w) A (hashByValue 8 (.ref x)) Q E s := by
  have ty := tx.typeIs
  obtain ⟨ob, vs, len, at_, _, dt, its⟩ := tx
  unfold hashByValue
  refine wpAny_bind (wpAny_specialOf ty F.slot_tuple_hash.lookup ?_)
  show wpAny _ _ (seqItems? (.ref x) >>= _) _ _ s
  refine wpAny_bind (wpAny_seqItems at_ dt ?_)
  refine wpAny_bind ?_
  show wpAny _ _ (forIn vs _ _) _ _ s
  rw [← Array.forIn_toList]
  refine wpAny_forIn_list _ (fun more acc s' => s' = s ∧ ∀ v ∈ more, carriedByValue v = true) _ (fun v more acc s' ⟨h2, h3⟩ => ?_) (fun acc s' ⟨h2, _⟩ => ?_) _ _ ⟨rfl, its.byValue⟩
  rotate_left
  · obtain ⟨a1, a2⟩ := acc
    subst h2
    cases a1 with
    | none => exact wpAny_pure (q true)
    | some c => exact wpAny_pure (q c)
  subst h2
  obtain ⟨c, ec⟩ := plain_byv (h3 v (List.mem_cons_self ..)) 7
  rw [ec]
  refine wpAny_bind (wpAny_pure ?_)
  cases c with
  | true =>
    simp only [Bool.not_true, Bool.false_eq_true, if_false]
    exact wpAny_pure ⟨rfl, fun u hu => h3 u (List.mem_cons_of_mem _ hu)⟩
  | false =>
    simp only [Bool.not_false, if_true]
    exact wpAny_pure (wpAny_pure (q false))
theorem tup_unseen {ks : List I} {x : Addr} {Q : Bool → Shared → Prop} (tx : IsTupleKey knd s.heap ks x) {vs : List Value} (hv : ∀ v ∈ vs, ∃ (ls : List I) (y : Addr), v = .ref y ∧ IsTupleKey knd s.heap ls y) (q : Q false s) :
    wpAny (model prog w) A (searchCouldBeSeen (.ref x) vs) Q E s := by
  unfold searchCouldBeSeen
  refine wpAny_bind ?_
  refine wpAny_forIn_list _ (fun more acc s' => acc.1 = none ∧ s' = s ∧ ∀ v ∈ more, ∃ (ls : List I) (y : Addr), v = .ref y ∧ IsTupleKey knd s.heap ls y) _ (fun v more acc s' ⟨h1, h2, h3⟩ => ?_) (fun acc s' ⟨h1, h2, _⟩ => ?_) _ _ ⟨rfl, rfl, hv⟩
  · subst h2
    obtain ⟨ls, y, rfl, ty⟩ := h3 v (List.mem_cons_self ..)
    have on : ∀ u ∈ more, ∃ (ls : List I) (y : Addr), u = .ref y ∧ IsTupleKey knd s'.heap ls y := fun u hu => h3 u (List.mem_cons_of_mem _ hu)
    dsimp only
    by_cases c : (x == y || (carriedByValue (.ref x) && carriedByValue (.ref y))) = true
    · exact wp_if_pos c (wpAny_pure ⟨rfl, rfl, on⟩)
    · refine wp_if_neg c (wpAny_bind (wpAny_eqIsQuiet_tuple tx ?_))
      simp only [Bool.not_true, Bool.false_eq_true, if_false]
      refine wpAny_bind (wpAny_eqIsQuiet_tuple ty ?_)
      simp only [Bool.not_true, Bool.false_eq_true, if_false]
      refine wpAny_bind (tup_cls tx ?_)
      simp only [Bool.false_eq_true, if_false]
      refine wpAny_bind (tup_cls ty ?_)
      simp only [Bool.false_eq_true, if_false]
      exact wpAny_pure ⟨rfl, rfl, on⟩
  · obtain ⟨a1, a2⟩ := acc
    subst h2
    simp only at h1
    subst h1
    exact wpAny_pure q
end
end SX

set_option Elab.async false
set_option linter.all false
set_option maxRecDepth 100000
set_option maxHeartbeats 4000000
/-! Sets of tuples of any keys: looking one up. -/
namespace SX
open PySem PySem.Spec PyProof.Rows L2
section
variable {prog : Program} {w : World} {I : Type} [DecidableEq I]
def rws (knd : KeyKind prog w I) (L : List (Addr × List I)) : List (Int × Value) := L.map fun e => (tupleKeyHash knd e.2, Value.ref e.1)
/-- the set at a: its table is right for the hashes of the tuples of L -/
structure Tbl (knd : KeyKind prog w I) (h : Heap) (a : Addr) (L : List (Addr × List I)) (es : Array (Int × Value)) (ep : Nat) (t : SetTable) : Prop where
  obj : ∃ o, h.get? a = some o ∧ o.ExactSet ∧ o.data = .set es ep t
  rw_ : es.toList = rws knd L
  tb : TabOk t (L.map fun e => tupleKeyHash knd e.2)
  dif : (L.map (·.2)).Nodup
  tps : ∀ e ∈ L, IsTupleKey knd h e.2 e.1
  ord : w.params.followText "set-order" = true ∨ t.led = true
  free : L.length * 5 < t.mask * 3
  few : L.length < 64
variable {knd : KeyKind prog w I} {A : Around} {E : Value → Shared → Prop} {s : Shared} {h : Heap} {a : Addr} {L : List (Addr × List I)} {es : Array (Int × Value)} {ep : Nat} {t : SetTable}
theorem Tbl.many (T : Tbl knd h a L es ep t) : es.size = L.length := by
  have e := T.rw_
  rw [← Array.length_toList, e]
  unfold rws
  exact List.length_map ..
theorem Tbl.fits (T : Tbl knd h a L es ep t) : t.fits es.size = true := by
  have z1 := T.tb.sz
  have z2 := T.many
  have z3 := T.free
  rw [List.length_map] at z1
  unfold SetTable.fits SetTable.fill
  rw [T.tb.dm, Bool.and_eq_true, beq_iff_eq, decide_eq_true_eq]
  refine ⟨?_, ?_⟩
  · show t.place.size = es.size
    omega
  · show t.place.size + 0 ≤ t.mask
    omega
theorem Tbl.at_ (T : Tbl knd h a L es ep t) {i : Nat} {e : Addr × List I} (hi : L[i]? = some e) : es[i]? = some (tupleKeyHash knd e.2, Value.ref e.1) := by
  have z : es.toList[i]? = some (tupleKeyHash knd e.2, Value.ref e.1) := by
    rw [T.rw_]
    unfold rws
    rw [List.getElem?_map, hi]
    rfl
  rwa [Array.getElem?_toList] at z
theorem Tbl.still (T : Tbl knd h a L es ep t) : ¬ t.gaveWay = true := by
  have z := mask_odd T.tb.mok
  unfold SetTable.gaveWay
  rw [z]
  decide
theorem nth_dummy {m : Nat} : ∀ (n : Nat) (p : SetTable.Probe), p.dummy = none → (nth m p n).dummy = none
  | 0, _, e => e
  | n + 1, p, e => nth_dummy n (adv m p) (by
    unfold adv
    split
    · exact e
    · exact e)
abbrev begun (t : SetTable) (g : Int) : SetTable.Probe := runAt t.mask (SetTable.bits g % (t.mask + 1)) (SetTable.bits g)
theorem place_row (T : Tbl knd h a L es ep t) {i j : Nat} (hj : t.place.toList[i]? = some j) : ∃ e, L[i]? = some e ∧ e ∈ L := by
  have l1 := (List.getElem?_eq_some_iff.mp hj).1
  have l2 := T.tb.sz
  rw [List.length_map, ← Array.length_toList] at l2
  have l3 : i < L.length := by omega
  exact ⟨L[i], List.getElem?_eq_getElem l3, List.getElem_mem l3⟩
theorem seek {ks : List I} {x : Addr} (T : Tbl knd s.heap a L es ep t) (tx : IsTupleKey knd s.heap ks x) (hu : A.units < cLine) {n : Nat} (n0 : n < 10 * SetTable.turns t.mask) (fr : way t.mask (tupleKeyHash knd ks) n ∉ t.place.toList)
    (fu : ∀ c, c < n → way t.mask (tupleKeyHash knd ks) c ∈ t.place.toList) {Q : SetFound → Shared → Prop} (yes : ks ∈ L.map (·.2) → Q (.there none) s) (no : ks ∉ L.map (·.2) → Q (.free (way t.mask (tupleKeyHash knd ks) n) false) s) :
    ∀ (f c : Nat) (st : Option SetTable.Probe), st.getD (t.probeStart (tupleKeyHash knd ks)) = nth t.mask (begun t (tupleKeyHash knd ks)) c → c ≤ n → n - c < f →
      (∀ (i : Nat) e, L[i]? = some e → e.2 = ks → ∃ d, c ≤ d ∧ d < n ∧ t.place.toList[i]? = some (way t.mask (tupleKeyHash knd ks) d)) →
      wpAny (model prog w) A (setSearchFrom a (.ref x) (tupleKeyHash knd ks) true f st) Q E s := by
  intro f
  induction f with
  | zero =>
    intro c st _ _ z
    omega
  | succ f ih =>
    intro c st hst hc hf hr
    obtain ⟨ob, oa, ox, od⟩ := T.obj
    generalize hg : tupleKeyHash knd ks = g at *
    rw [setSearchFrom_succ]
    refine wpAny_bind (wpAny_setState_of oa od T.fits ?_)
    dsimp only
    refine wp_if_neg T.still ?_
    try refine wpAny_bind (wpAny_pure ?_)
    have mv : ∀ q, nth t.mask (nth t.mask (begun t g) c) q = nth t.mask (begun t g) (c + q) := fun q => (nth_add t.mask c _ q).symm
    have mj : ∀ q, (nth t.mask (nth t.mask (begun t g) c) q).j = way t.mask g (c + q) := fun q => by rw [mv]
    have hash : ∀ (i : Nat) e, L[i]? = some e → (es[i]?.map (·.1)).getD 0 = tupleKeyHash knd e.2 := fun i e hi => by
      rw [T.at_ hi]
      rfl
    have sp := go_spec t T.tb.ris T.tb.dm (fun i => (es[i]?.map (·.1)).getD 0) g (10 * SetTable.turns t.mask) (n - c) (nth t.mask (begun t g) c) (nth_dummy c _ rfl) (by omega)
      (fun q hq => by
        rw [mj]
        exact fu _ (by omega)) (by
        rw [mj, show c + (n - c) = n by omega]
        exact fr)
    rcases sp with ⟨q, i, hq, hi, hh, ho, hp⟩ | ⟨ho, hp⟩
    · have hp2 : t.probe (fun i => (es[i]?.map (·.1)).getD 0) g (st.getD (t.probeStart g)) = some (.candidate (way t.mask g (c + q)) i (nth t.mask (begun t g) (c + (q + 1)))) := by
        rw [hst, ← mj, ← mv]
        exact hp
      rw [hp2]
      dsimp only
      rw [mj] at hi
      obtain ⟨e, he, em⟩ := place_row T hi
      have te := T.tps e em
      have sl : t.slot (way t.mask g (c + q)) = .live i := slot_live T.tb.ris hi
      have main : wpAny (model prog w) A (searchRest a (.ref x) g true f es t (way t.mask g (c + q)) i (nth t.mask (begun t g) (c + (q + 1)))) Q E s := by
        unfold searchRest
        rw [T.at_ he]
        dsimp only
        refine wpAny_bind (wpAny_holding (wpAny_eqBool_tuple hu te tx ?_))
        refine wpAny_bind (wpAny_setState_of oa od T.fits ?_)
        dsimp only
        by_cases same : e.2 = ks
        · exact wp_if_pos (by simp [same]) (wpAny_pure (yes (List.mem_map.mpr ⟨e, em, same⟩)))
        · refine wp_if_neg (by simp [same]) ?_
          try refine wpAny_bind (wpAny_pure ?_)
          rw [sameMem]
          dsimp only
          simp only [if_true, sl, T.at_ he]
          refine wpAny_bind (wpAny_isSame_ref_self (wpAny_bind (wpAny_pure ?_)))
          simp only [if_true]
          refine wp_if_neg (by simp [same]) (ih (c + (q + 1)) _ rfl (by omega) (by omega) fun i0 e0 h0 k0 => ?_)
          obtain ⟨d, d1, d2, d3⟩ := hr i0 e0 h0 k0
          refine ⟨d, ?_, d2, d3⟩
          by_cases lt : d < c + q
          · have z := ho (d - c) i0 (by omega) (by
              rw [mj, show c + (d - c) = d by omega]
              exact d3)
            exact absurd ((hash i0 e0 h0).trans (by rw [k0, hg])) z
          · by_cases gt : c + q < d
            · omega
            · have de : d = c + q := by omega
              rw [de] at d3
              have s0 := slot_live T.tb.ris d3
              rw [sl] at s0
              injection s0 with s0
              rw [← s0, he] at h0
              cases h0
              exact absurd k0 same
      by_cases l : t.led = true
      · refine wp_if_neg (by simp [l]) ?_
        try refine wpAny_bind (wpAny_pure ?_)
        exact main
      · refine wp_if_pos (by simp [l]) (wpAny_bind (tup_unseen tx (fun y hy => ?_) ?_))
        · obtain ⟨r, hr1, hr2⟩ := List.mem_map.mp hy
          have hr3 : r ∈ es ∧ r.1 = g := by simpa using hr1
          have hr4 : r ∈ es.toList := by simpa using hr3.1
          rw [T.rw_] at hr4
          obtain ⟨e2, he2, re⟩ := List.mem_map.mp (show r ∈ L.map fun e => (tupleKeyHash knd e.2, Value.ref e.1) from hr4)
          exact ⟨e2.2, e2.1, by rw [← hr2, ← re], T.tps e2 he2⟩
        · refine wp_if_neg (by decide) ?_
          try refine wpAny_bind (wpAny_pure ?_)
          exact main
    · have hp2 : t.probe (fun i => (es[i]?.map (·.1)).getD 0) g (st.getD (t.probeStart g)) = some (.empty (way t.mask g n) none) := by
        have z := mj (n - c)
        rw [show c + (n - c) = n by omega] at z
        rw [hst, ← z]
        exact hp
      rw [hp2]
      dsimp only
      refine wpAny_pure (no fun hm => ?_)
      obtain ⟨e0, m0, k0⟩ := List.mem_map.mp hm
      obtain ⟨i0, l0, ei⟩ := List.getElem_of_mem m0
      have h0 : L[i0]? = some e0 := by rw [List.getElem?_eq_getElem l0, ei]
      obtain ⟨d, d1, d2, d3⟩ := hr i0 e0 h0 k0
      have z := ho (d - c) i0 (by omega) (by
        rw [mj, show c + (d - c) = d by omega]
        exact d3)
      exact absurd ((hash i0 e0 h0).trans (by rw [k0, hg])) z
/-- looked up as adding does -/
theorem looked {ks : List I} {x : Addr} (T : Tbl knd s.heap a L es ep t) (tx : IsTupleKey knd s.heap ks x) (hu : A.units < cLine) {Q : SetFound → Shared → Prop} (yes : ks ∈ L.map (·.2) → Q (.there none) s)
    (no : ∀ n, ks ∉ L.map (·.2) → way t.mask (tupleKeyHash knd ks) n ∉ t.place.toList → (∀ c, c < n → way t.mask (tupleKeyHash knd ks) c ∈ t.place.toList) → Q (.free (way t.mask (tupleKeyHash knd ks) n) false) s) :
    wpAny (model prog w) A (setSearch a (.ref x) (tupleKeyHash knd ks) true) Q E s := by
  have fre := T.free
  obtain ⟨n, n1, n2, n3⟩ := T.tb.first (by rw [List.length_map]; omega) (tupleKeyHash knd ks)
  have n4 : n < 100000 := by
    have z : SetTable.turns t.mask ≤ 142 := by
      unfold SetTable.turns
      rcases T.tb.mok with e | e | e <;> omega
    omega
  unfold setSearch
  refine seek T tx hu n1 n2 n3 yes (fun m => no n m n2 n3) 100000 0 none rfl (Nat.zero_le _) (by omega) fun i e he ek => ?_
  have hh : (L.map fun e => tupleKeyHash knd e.2)[i]? = some (tupleKeyHash knd ks) := by
    rw [List.getElem?_map, he, ← ek]
    rfl
  have hl : i < t.place.toList.length := by
    have l1 := (List.getElem?_eq_some_iff.mp he).1
    have l2 := T.tb.sz
    rw [List.length_map, ← Array.length_toList] at l2
    omega
  obtain ⟨d, d1, d2⟩ := T.tb.before n2 hh (List.getElem?_eq_getElem hl)
  exact ⟨d, Nat.zero_le _, d1, by rw [List.getElem?_eq_getElem hl, d2]⟩
end
end SX

set_option Elab.async false
set_option linter.all false
set_option maxRecDepth 100000
set_option maxHeartbeats 4000000
/-! Sets of tuples of any keys: putting one in. -/
namespace SX
open PySem PySem.Spec PyProof.Rows L2
section
variable {prog : Program} {w : World} {I : Type} [DecidableEq I] {knd : KeyKind prog w I} {A : Around} {E : Value → Shared → Prop} {s : Shared} {a : Addr} {L : List (Addr × List I)} {es : Array (Int × Value)} {ep : Nat} {t : SetTable}
/-- a tuple stands where no set stands -/
theorem tup_but {h h' : Heap} {ks : List I} {x : Addr} {ob : Obj} (tx : IsTupleKey knd h ks x) (oa : h.get? a = some ob) (od : ob.data = .set es ep t) (sb : Heap.SameBut a h h') : IsTupleKey knd h' ks x := by
  obtain ⟨o2, vs, len, at_, c, dt, its⟩ := tx
  refine ⟨o2, vs, len, (sb.2 x fun e => ?_).trans at_, c, dt, its⟩
  rw [e, oa] at at_
  cases at_
  rw [od] at dt
  cases dt
theorem tup_on {h h' : Heap} {ks : List I} {x : Addr} (tx : IsTupleKey knd h ks x) (k : ∀ b o, h.get? b = some o → h'.get? b = some o) : IsTupleKey knd h' ks x := by
  obtain ⟨o2, vs, len, at_, r⟩ := tx
  exact ⟨o2, vs, len, k _ _ at_, r⟩
/-- which rows come of an order of their places -/
theorem rows_by (hr : es.toList = rws knd L) {order : Array Nat} (pm : order.toList.Perm (List.range L.length)) :
    ∃ M : List (Addr × List I), (order.filterMap (es[·]?)).toList = rws knd M ∧ M.Perm L ∧ (M.map fun e => tupleKeyHash knd e.2) = order.toList.map fun i => (es.map (·.1)).getD i 0 := by
  have here : ∀ i (l : i < L.length), es[i]? = some (tupleKeyHash knd (L[i]).2, Value.ref (L[i]).1) := fun i l => by
    rw [← Array.getElem?_toList, hr]
    unfold rws
    rw [List.getElem?_map, List.getElem?_eq_getElem l]
    rfl
  have go : ∀ is : List Nat, (∀ i ∈ is, i < L.length) → ∃ M : List (Addr × List I), is.filterMap (es[·]?) = rws knd M ∧ is.filterMap (L[·]?) = M ∧ (M.map fun e => tupleKeyHash knd e.2) = is.map fun i => (es.map (·.1)).getD i 0 := by
    intro is
    induction is with
    | nil => exact fun _ => ⟨[], rfl, rfl, rfl⟩
    | cons i is ih =>
      intro lt
      have l := lt i (List.mem_cons_self ..)
      obtain ⟨M, m1, m2, m3⟩ := ih fun j hj => lt j (List.mem_cons_of_mem _ hj)
      have hd : (es.map (·.1)).getD i 0 = tupleKeyHash knd (L[i]).2 := by
        have z : (es.map (·.1))[i]? = some (tupleKeyHash knd (L[i]).2) := by
          rw [Array.getElem?_map, here i l]
          rfl
        simp [Array.getD_eq_getD_getElem?, z]
      exact ⟨L[i] :: M, by rw [List.filterMap_cons_some (here i l), m1]; rfl, by rw [List.filterMap_cons_some (List.getElem?_eq_getElem l), m2], by rw [List.map_cons, List.map_cons, m3, hd]⟩
  obtain ⟨M, m1, m2, m3⟩ := go order.toList fun i hi => List.mem_range.mp (pm.mem_iff.mp hi)
  refine ⟨M, by first | (rw [Array.toList_filterMap]; exact m1) | simpa using m1, ?_, m3⟩
  have all : ∀ n, n ≤ L.length → (List.range n).filterMap (L[·]?) = L.take n := by
    intro n
    induction n with
    | zero => exact fun _ => rfl
    | succ n ih =>
      intro l
      have ln : n < L.length := l
      rw [List.range_succ, List.filterMap_append, ih (by omega), List.take_succ, List.getElem?_eq_getElem ln, List.filterMap_cons_some (List.getElem?_eq_getElem ln)]
      rfl
  have z := pm.filterMap (L[·]?)
  rw [m2, all _ (Nat.le_refl _), List.take_length] at z
  exact z
theorem mid_perm {α : Type} (l : List α) (n : Nat) (x : α) : (l.take n ++ x :: l.drop n).Perm (x :: l) := by
  have z := List.perm_middle (a := x) (l₁ := l.take n) (l₂ := l.drop n)
  rwa [List.take_append_drop] at z
theorem rws_len (M : List (Addr × List I)) : (rws knd M).length = M.length := List.length_map ..
/-- a table that is too full is laid anew -/
theorem laid_anew {ob : Obj} (oa : s.heap.get? a = some ob) (ox : ob.ExactSet) (od : ob.data = .set es ep t) (hr : es.toList = rws knd L) (sz : t.place.size = es.size) (dm : t.dummies = #[]) (fl : es.size ≤ t.mask) (df : (L.map (·.2)).Nodup)
    (tp : ∀ e ∈ L, IsTupleKey knd s.heap e.2 e.1) (ol : w.params.followText "set-order" = true ∨ t.led = true) (fw : L.length < 64) {wish M : Nat} (e1 : SetTable.sizeAbove wish - 1 = M) (mk : MaskOk M) (e2 : SetTable.sizeAbove wish ≤ 128) (e3 : L.length * 5 < M * 3)
    {Q : Unit → Shared → Prop} (q : ∀ h' L' es' ep' t', Heap.SameBut a s.heap h' → Tbl knd h' a L' es' ep' t' → L'.Perm L → Q () { s with heap := h' }) : wpAny (model prog w) A (setRelay a wish) Q E s := by
  have n1 : es.size = L.length := by
    rw [← Array.length_toList, hr, rws_len]
  have ft : t.fits es.size = true := by
    unfold SetTable.fits SetTable.fill
    rw [dm, Bool.and_eq_true, beq_iff_eq, decide_eq_true_eq]
    exact ⟨sz, by show t.place.size + 0 ≤ t.mask; omega⟩
  obtain ⟨t', order, re, pm, tb', em, el, _, _⟩ := relaid_ok t (hs := es.map (·.1)) (wanted := wish) e1 mk (by rw [Array.size_map]; omega)
  rw [Array.size_map, n1] at pm
  obtain ⟨L2, r1, r2, r3⟩ := rows_by hr pm
  rw [← r3] at tb'
  have n2 : (order.filterMap (es[·]?)).size = L.length := by
    rw [← Array.length_toList, r1, rws_len, r2.length_eq]
  rw [setRelay_eq]
  refine wpAny_bind (wpAny_setState_of oa od ft ?_)
  dsimp only
  refine wp_if_neg (by rw [sizeLine_eq]; omega) ?_
  try refine wpAny_bind (wpAny_pure ?_)
  rw [re]
  dsimp only
  refine wpAny_bind (wp_if_neg (by rw [n2, n1]; simp) ?_)
  try refine wpAny_bind (wpAny_pure ?_)
  refine wpAny_pure ?_
  dsimp only
  refine wpAny_storeSet_of oa od ?_ (by rw [n2, sizeLine_eq]; omega)
  have sb : Heap.SameBut a s.heap (s.heap.update a (Obj.putSet (order.filterMap (es[·]?)) t')) := Heap.SameBut.update ..
  refine q _ L2 _ (ep + 1) t' sb ⟨⟨_, store_at oa od, ⟨ox.1, ox.2.1, ox.2.2⟩, rfl⟩, r1, tb', (r2.map (·.2)).nodup_iff.mpr df, fun e he => tup_but (tp e (r2.mem_iff.mp he)) oa od sb, by rw [el]; exact ol, by rw [r2.length_eq, em]; exact e3, by rw [r2.length_eq]; exact fw⟩ r2
/-- one is put in -/
theorem put_in {ks : List I} {x : Addr} (T : Tbl knd s.heap a L es ep t) (tx : IsTupleKey knd s.heap ks x) (hu : A.units < cLine) (fw : L.length + 1 < 64) {Q : Bool → Shared → Prop}
    (q : ∀ c h' L' es' ep' t', Heap.SameBut a s.heap h' → Tbl knd h' a L' es' ep' t' → (ks ∈ L.map (·.2) → L' = L) → (ks ∉ L.map (·.2) → L'.Perm ((x, ks) :: L)) → Q c { s with heap := h' }) :
    wpAny (model prog w) A (setAddHashed a (.ref x) (tupleKeyHash knd ks)) Q E s := by
  obtain ⟨ob, oa, ox, od⟩ := T.obj
  have n1 := T.many
  have fre := T.free
  unfold setAddHashed
  refine wpAny_holding ?_
  rw [show (100000 : Nat) = 99999 + 1 from rfl, setAddHashedIn_succ]
  refine wpAny_bind (wpAny_setState_of oa od T.fits ?_)
  dsimp only
  refine wp_if_neg (by simp [byScan, Value.scannable]) ?_
  try refine wpAny_bind (wpAny_pure ?_)
  refine wpAny_bind (looked T tx hu (fun m => ?_) fun n m nf nb => ?_)
  · dsimp only
    exact wpAny_pure (q false s.heap L es ep t (Heap.SameBut.refl a s.heap) T (fun _ => rfl) fun z => absurd m z)
  · dsimp only
    refine wpAny_bind (wpAny_setState_of oa od T.fits ?_)
    dsimp only
    obtain ⟨p1, p2, p3, p4, p5, _, _, _, p9⟩ := T.tb.put nf nb
    generalize hpt : t.put (way t.mask (tupleKeyHash knd ks) n) = pt at p1 p3 p4 p5 p9 ⊢
    obtain ⟨t1, pl⟩ := pt
    dsimp only at p1 p3 p4 p5 p9 ⊢
    subst p1
    generalize hpl : SetTable.below t.place (way t.mask (tupleKeyHash knd ks) n) = pl at p2 p3 ⊢
    have pm := mid_perm L pl (x, ks)
    have rows : (SetTable.insertAt es pl (tupleKeyHash knd ks, Value.ref x)).toList = rws knd (L.take pl ++ (x, ks) :: L.drop pl) := by
      rw [SetTable.toList_insertAt, T.rw_]
      unfold rws
      rw [List.map_append, List.map_cons, List.map_take, List.map_drop]
    have p3 : TabOk t1 ((L.take pl ++ (x, ks) :: L.drop pl).map fun e => tupleKeyHash knd e.2) := by
      rw [List.map_append, List.map_cons, List.map_take, List.map_drop]
      exact p3
    have n2 : (SetTable.insertAt es pl (tupleKeyHash knd ks, Value.ref x)).size = L.length + 1 := by
      rw [← Array.length_toList, rows, rws_len, pm.length_eq]
      rfl
    generalize SetTable.insertAt es pl (tupleKeyHash knd ks, Value.ref x) = es1 at rows n2 ⊢
    generalize L.take pl ++ (x, ks) :: L.drop pl = L1 at pm p3 rows
    have ln : L1.length = L.length + 1 := pm.length_eq
    have df1 : (L1.map (·.2)).Nodup := (pm.map (·.2)).nodup_iff.mpr (List.nodup_cons.mpr ⟨m, T.dif⟩)
    have rest : ∀ t2 : SetTable, TabOk t2 (L1.map fun e => tupleKeyHash knd e.2) → t2.mask = t.mask → t2.led = t.led → t2.fill = L.length + 1 → wpAny (model prog w) A (do
        storeSet a es1 t2
        if (!false && t2.tooFull) = true then do
          setRelay a (SetTable.grown (es.size + 1))
          pure true
        else pure true) Q E s := by
      intro t2 tb2 em el ef
      have z2 := tb2.sz
      rw [List.length_map, ln] at z2
      have sb : Heap.SameBut a s.heap (s.heap.update a (Obj.putSet es1 t2)) := Heap.SameBut.update ..
      have oa1 := store_at (es' := es1) (t' := t2) oa od
      refine wpAny_bind (wpAny_storeSet_of oa od ?_ (by rw [n2, sizeLine_eq]; omega))
      generalize s.heap.update a (Obj.putSet es1 t2) = h1 at sb oa1 ⊢
      have tps1 : ∀ e ∈ L1, IsTupleKey knd h1 e.2 e.1 := fun e he => by
        rcases List.mem_cons.mp (pm.mem_iff.mp he) with z | z
        · rw [z]
          exact tup_but tx oa od sb
        · exact tup_but (T.tps e z) oa od sb
      have ol : w.params.followText "set-order" = true ∨ t2.led = true := by
        rw [el]
        exact T.ord
      by_cases full : t2.tooFull = true
      · refine wp_if_pos (by simp [full]) ?_
        have fl : (L.length + 1) * 5 ≥ t2.mask * 3 := by
          have z := full
          unfold SetTable.tooFull at z
          rwa [decide_eq_true_eq, ef] at z
        have which : (t.mask = 7 ∧ L.length = 4) ∨ (t.mask = 31 ∧ L.length = 18) := by
          rcases T.tb.mok with e | e | e <;> rw [em, e] at fl <;> rw [e] at fre
          · exact .inl ⟨e, by omega⟩
          · exact .inr ⟨e, by omega⟩
          · omega
        have big : ∀ M, SetTable.sizeAbove (SetTable.grown (es.size + 1)) - 1 = M → MaskOk M → SetTable.sizeAbove (SetTable.grown (es.size + 1)) ≤ 128 → (L.length + 1) * 5 < M * 3 →
            wpAny (model prog w) A (setRelay a (SetTable.grown (es.size + 1)) >>= fun _ => pure true) Q E { s with heap := h1 } := fun M m1 m2 m3 m4 => by
          refine wpAny_bind (laid_anew (s := { s with heap := h1 }) (knd := knd) (L := L1) (es := es1) (t := t2) oa1 ⟨ox.1, ox.2.1, ox.2.2⟩ rfl rows (by rw [z2, n2]) tb2.dm (by rcases which with ⟨e, l⟩ | ⟨e, l⟩ <;> rw [n2, em, e] <;> omega) df1 tps1 ol (by omega) m1 m2 m3 (by rw [ln]; exact m4) fun h2 L2 es2 ep2 t3 sb2 T2 pm2 => ?_)
          exact wpAny_pure (q true h2 L2 es2 ep2 t3 (sb.trans sb2) T2 (fun z => absurd z m) fun _ => pm2.trans pm)
        rcases which with ⟨_, l⟩ | ⟨_, l⟩
        · exact big 31 (by rw [n1, l, size_20]) (.inr (.inl rfl)) (by rw [n1, l, size_20]; decide) (by omega)
        · exact big 127 (by rw [n1, l, size_76]) (.inr (.inr rfl)) (by rw [n1, l, size_76]; decide) (by omega)
      · refine wp_if_neg (by simp [full]) (wpAny_pure (q true h1 L1 es1 (ep + 1) t2 sb ⟨⟨_, oa1, ⟨ox.1, ox.2.1, ox.2.2⟩, rfl⟩, rows, tb2, df1, tps1, ol, ?_, by omega⟩ (fun z => absurd z m) fun _ => pm))
        have z := full
        unfold SetTable.tooFull at z
        rw [decide_eq_true_eq, ef] at z
        rw [ln]
        omega
    have off : TabOk { mask := t1.mask, place := t1.place, dummies := t1.dummies, finger := t1.finger, led := t1.led, moves := t1.moves, plain := false } (L1.map fun e => tupleKeyHash knd e.2) := ⟨p3.ris, p3.dm, p3.sz, p3.mok, p3.bd, p3.reach⟩
    have fi : t1.fill = L.length + 1 := by
      rw [p9, List.length_map]
    by_cases pn : t1.plain = true
    · refine wp_if_pos pn (wpAny_bind (tup_byv tx fun c => ?_))
      cases c with
      | true =>
        simp only [if_true]
        exact rest t1 p3 p4 p5 fi
      | false =>
        simp only [Bool.false_eq_true, if_false]
        exact rest _ off p4 p5 fi
    · refine wp_if_neg pn (wpAny_bind (wpAny_pure ?_))
      simp only [if_true]
      exact rest t1 p3 p4 p5 fi
end
end SX

set_option Elab.async false
set_option linter.all false
set_option maxRecDepth 100000
set_option maxHeartbeats 4000000
/-! Sets of tuples of any keys: set(list). -/
namespace SX
open PySem PySem.Spec PyProof.Rows L2
section
variable {I : Type}
/-- what stands in the set behind so many items of a list -/
structure Sofar (all : List (Addr × List I)) (n : Nat) (L : List (Addr × List I)) : Prop where
  of_ : ∀ e ∈ L, e ∈ all.take n
  has : ∀ e ∈ all.take n, e.2 ∈ L.map (·.2)
  le : L.length ≤ n
theorem Sofar.none_ (all : List (Addr × List I)) : Sofar all 0 [] := ⟨(fun e z => by cases z), (fun e z => by simp at z), Nat.le_refl _⟩
theorem take_more {α : Type} {l : List α} {n : Nat} {x : α} (e : l[n]? = some x) : l.take (n + 1) = l.take n ++ [x] := by
  rw [List.take_succ, e]
  rfl
theorem Sofar.known {all L : List (Addr × List I)} {n : Nat} {x : Addr × List I} (g : Sofar all n L) (e : all[n]? = some x) (m : x.2 ∈ L.map (·.2)) : Sofar all (n + 1) L := by
  refine ⟨fun y hy => ?_, fun y hy => ?_, Nat.le_succ_of_le g.le⟩ <;> rw [take_more e] at *
  · exact List.mem_append_left _ (g.of_ y hy)
  · rcases List.mem_append.mp hy with z | z
    · exact g.has y z
    · cases List.mem_singleton.mp z
      exact m
theorem Sofar.new_ {all L L' : List (Addr × List I)} {n : Nat} {x : Addr × List I} (g : Sofar all n L) (e : all[n]? = some x) (pm : L'.Perm (x :: L)) : Sofar all (n + 1) L' := by
  refine ⟨fun y hy => ?_, fun y hy => ?_, by rw [pm.length_eq]; exact Nat.succ_le_succ g.le⟩ <;> rw [take_more e] at *
  · rcases List.mem_cons.mp (pm.mem_iff.mp hy) with z | z
    · exact List.mem_append_right _ (List.mem_singleton.mpr z)
    · exact List.mem_append_left _ (g.of_ y z)
  · refine (pm.map (·.2)).mem_iff.mpr ?_
    rcases List.mem_append.mp hy with z | z
    · exact List.mem_cons_of_mem _ (g.has y z)
    · cases List.mem_singleton.mp z
      exact List.mem_cons_self ..
end
section
variable {prog : Program} {w : World} {I : Type} [DecidableEq I] {knd : KeyKind prog w I} {A : Around} {E : Value → Shared → Prop} {s : Shared}
theorem Tbl.on {h h' : Heap} {a : Addr} {L : List (Addr × List I)} {es : Array (Int × Value)} {ep : Nat} {t : SetTable} (T : Tbl knd h a L es ep t) (ka : ∀ o, h.get? a = some o → h'.get? a = some o) (tp : ∀ e ∈ L, IsTupleKey knd h' e.2 e.1) : Tbl knd h' a L es ep t := by
  obtain ⟨o, oa, r⟩ := T.obj
  exact ⟨⟨o, ka o oa, r⟩, T.rw_, T.tb, T.dif, tp, T.ord, T.free, T.few⟩
abbrev emptySet (w : World) : Obj := { cls := .type "set", dict := none, data := .set #[] 0 (.fresh 0 0 (!w.params.followText "set-order")) }
theorem tbl_new {h : Heap} {a : Addr} (e : h.get? a = some (emptySet w)) : Tbl knd h a [] #[] 0 (.fresh 0 0 (!w.params.followText "set-order")) := by
  refine ⟨⟨_, e, ⟨rfl, rfl, rfl⟩, rfl⟩, rfl, ⟨List.Pairwise.nil, rfl, rfl, .inl rfl, (fun x z => by cases z), (fun i g j z => by simp at z)⟩, List.nodup_nil, (fun e z => by cases z), ?_, by show 0 * 5 < 7 * 3; decide, by show 0 < 64; decide⟩
  show _ ∨ (!w.params.followText "set-order") = true
  cases w.params.followText "set-order" with
  | true => exact .inl rfl
  | false => exact .inr rfl
theorem fill_loop {J : Addr} {fp wr : List Addr} {G : Array GenState → Array GenState → Prop} {n : Nat} {Y : Nat → Value → Prop} {St : Nat → Shared → Prop} {R : Result → Shared → Prop} (W : WalksS prog w A.in1 J fp wr G n Y St) {S : Addr} (nS : S ∉ fp)
    {all : List (Addr × List I)} (en : n = all.length) (fw : all.length < 64) (val : ∀ i v, Y i v → ∃ e, all[i]? = some e ∧ v = .ref e.1) {h0 : Heap} (tp : ∀ e ∈ all, IsTupleKey knd h0 e.2 e.1) (zS : h0.get? S = none) (zw : ∀ b ∈ wr, h0.get? b = none) (hu : A.in1.units < cLine) :
    ∀ (k i : Nat) (s : Shared), n - i = k → i ≤ n → St i s → (∀ b o, h0.get? b = some o → s.heap.get? b = some o) → (∃ L es ep t, Tbl knd s.heap S L es ep t ∧ Sofar all i L) →
      (∀ s' L es ep t, Moved (S :: wr) G s s' → Tbl knd s'.heap S L es ep t → Sofar all n L → (∀ b o, h0.get? b = some o → s'.heap.get? b = some o) → R (.ok (.ret .none)) s') →
      codeAny (model prog w) A (.builtin "set.update.loop" ⟨[.ref S, .ref J], []⟩) R s := by
  have nw : S ∉ wr := fun z => nS (W.sub _ z)
  have up : ∀ b ∈ wr, b ∈ S :: wr := fun b hb => List.mem_cons_of_mem _ hb
  have old : ∀ {s s' : Shared}, Moved wr G s s' → (∀ b o, h0.get? b = some o → s.heap.get? b = some o) → ∀ b o, h0.get? b = some o → s'.heap.get? b = some o := fun mv k b o e => by
    refine mv.heap b o (fun hb => ?_) (k b o e)
    rw [zw b hb] at e
    cases e
  intro k
  induction k with
  | zero =>
    rintro i s ek il st kp ⟨L, es, ep, t, T, g⟩ r
    obtain rfl : i = n := by omega
    refine codeAny_builtin F.entry_set_update_loop ?_
    rw [Around.under_plainId F.plain_set_update_loop _]
    show wpAny _ A.in1 (pyNext (.ref J) >>= _) _ _ s
    refine wpAny_bind (W.done s _ _ st fun s' mv => ?_)
    show wpAny _ A.in1 (ret Value.none) _ _ s'
    have kp' := old mv kp
    exact wpAny_pure (r s' L es ep t (mv.mono up) (T.on (fun o e => mv.heap S o nw e) fun e he => tup_on (tp e (List.mem_of_mem_take (g.of_ e he))) kp') g kp')
  | succ k ih =>
    rintro i s ek il st kp ⟨L, es, ep, t, T, g⟩ r
    have lt : i < n := by omega
    refine codeAny_builtin F.entry_set_update_loop ?_
    rw [Around.under_plainId F.plain_set_update_loop _]
    show wpAny _ A.in1 (pyNext (.ref J) >>= _) _ _ s
    refine wpAny_bind (W.item i s _ _ lt st fun v s' yv st' mv => ?_)
    obtain ⟨e, he, rfl⟩ := val i v yv
    have kp' := old mv kp
    have T' : Tbl knd s'.heap S L es ep t := T.on (fun o q => mv.heap S o nw q) fun y hy => tup_on (tp y (List.mem_of_mem_take (g.of_ y hy))) kp'
    have te : IsTupleKey knd s'.heap e.2 e.1 := tup_on (tp e (List.mem_of_getElem? he)) kp'
    have gl := g.le
    show wpAny _ A.in1 (holding [Value.ref e.1] (setAdd S (.ref e.1)) >>= _) _ _ s'
    refine wpAny_bind (wpAny_holding ?_)
    unfold setAdd
    refine wpAny_holding (wpAny_bind (wpAny_pyHash_tuple hu te ?_))
    refine put_in (s := { s' with toks := s'.toks + (e.2.length + 1) }) T' te hu (by omega) fun c h' L' es' ep' t' sb T2 c1 c2 => ?_
    have g' : Sofar all (i + 1) L' := by
      by_cases m : e.2 ∈ L.map (·.2)
      · rw [c1 m]
        exact g.known he m
      · exact g.new_ he (c2 m)
    have kp2 : ∀ b o, h0.get? b = some o → h'.get? b = some o := fun b o q => (sb.2 b fun z => by
      rw [z, zS] at q
      cases q).trans (kp' b o q)
    refine wpAny_pure ⟨plainId_quiet F.plain_set_update_loop _, ih (i + 1) _ (by omega) lt (W.frame _ s' _ _ st' (Nat.le_add_right _ _) fun b hb o q => ?_) kp2 ⟨L', es', ep', t', T2, g'⟩ fun s2 L2 es2 ep2 t2 mv2 T3 g3 kp3 => ?_⟩
    · rw [sb.2 b fun z => nS (z ▸ hb)]
      exact q
    · refine r s2 L2 es2 ep2 t2 (Moved.trans W.gtrans ((mv.mono up).then_heap (Nat.le_add_right _ _) fun b o hb q => ?_) mv2) T3 g3 kp3
      rw [sb.2 b fun z => hb (z ▸ List.mem_cons_self ..)]
      exact q
end
end SX

set_option Elab.async false
set_option linter.all false
set_option maxRecDepth 100000
set_option maxHeartbeats 4000000
/-! Sets of tuples of any keys: the call set(list). -/
namespace SX
open PySem PySem.Spec PyProof.Rows L2
section
variable {prog : Program} {w : World} {I : Type} [DecidableEq I] {knd : KeyKind prog w I} {A : Around} {E : Value → Shared → Prop} {s : Shared}
theorem made {l : Addr} {vs : Array Value} {all : List (Addr × List I)} {Q : Value → Shared → Prop} (nh : A.handled = none) (il : s.heap.IsList l vs) (ev : vs.toList = all.map fun e => Value.ref e.1) (tp : ∀ e ∈ all, IsTupleKey knd s.heap e.2 e.1) (fw : all.length < 64)
    (hu : A.units + 3 < cLine) (q : ∀ (h' : Heap) (tk : Nat) L es ep t, Tbl knd h' s.heap.objs.size L es ep t → Sofar all all.length L → (∀ b o, s.heap.get? b = some o → h'.get? b = some o) → Q (.ref s.heap.objs.size) { s with heap := h', toks := tk }) :
    wpAny (model prog w) A (call (.type "set") [.ref l]) Q E s := by
  have n0 : vs.size = all.length := by
    rw [← Array.length_toList, ev, List.length_map]
  obtain ⟨m1, m2, mro⟩ := F.called_set.mro
  have f1 := F.called_set.made
  have f2 := F.called_set.sub
  have f3 := F.called_set.notType
  have f4 := F.called_set.canCreate
  have f5 := F.typeCall_set_1 (.ref l)
  refine wpAny_call (codeAny_of_tree ?_)
  show wpAny _ _ (callAny (.type "set") _) _ _ _
  refine wpAny_pure ⟨Code.quiet_builtin _ (by decide +kernel), codeAny_builtin F.entry_type_call ?_⟩
  rw [Around.under_plain (weight_type_call_type "set" [.ref l] []) rfl]
  repeat any_goals (first | assumption | wp_step)
  refine codeAny_mono (code_set_led1 (.ref l) (E := E) (Q₁ := fun v s1 => v = .ref s.heap.objs.size ∧ s1 = { s with heap := s.heap.push (emptySet w) }) ⟨rfl, rfl⟩) fun fl s1 r1 => ?_
  match fl, r1 with
  | .error e, r1 => exact r1
  | .ok .next, r1 => exact r1.elim
  | .ok .brk, r1 => exact r1.elim
  | .ok .cont, r1 => exact r1.elim
  | .ok (.ret v), r1 =>
    obtain ⟨rfl, rfl⟩ := r1
    have at_ : (s.heap.push (emptySet w)).get? s.heap.objs.size = some (emptySet w) := Heap.get?_push_size _ rfl
    have ty : Shared.TypeIs { s with heap := s.heap.push (emptySet w) } (.ref s.heap.objs.size) "set" := ⟨_, at_, rfl⟩
    have g1 := F.called_set.init.lookup
    have g2 := F.called_set.init.bind (.ref s.heap.objs.size)
    repeat any_goals (first | assumption | wp_step)
    refine codeAny_mono (codeAny_call_builtin (R := wants (fun r s2 => r = .none ∧ ∃ h' tk L es ep t, s2 = { s with heap := h', toks := tk } ∧ Tbl knd h' s.heap.objs.size L es ep t ∧ Sofar all all.length L ∧ (∀ b o, s.heap.get? b = some o → h'.get? b = some o)) E)
      F.called_set.init.plain F.entry_set_init (check_set_init_1 ty ?_)) fun fl2 s2 r2 => ?_
    · obtain ⟨ol, oa, oc, on, od⟩ := il
      obtain ⟨cls0, dict0, data0, slots0⟩ := ol
      simp only at oc od
      subst oc
      subst od
      have oa1 : (s.heap.push (emptySet w)).get? l = some { cls := .type "list", dict := dict0, data := .seq vs on, slots := slots0 } := Heap.get?_push_of_some _ oa
      have t1 := F.sub_list_set
      have t2 := F.sub_list_frozenset
      have t3 : (Value.type "list" == Value.type "dict") = false := by decide
      have il1 : (s.heap.push (emptySet w)).IsList l vs := ⟨_, oa1, rfl, on, rfl⟩
      unfold Builtin.«set.__init__» noKeywords Builtin.Frozenset.updateFrom
      generalize eP : pyIter = PI
      wp_walk
      subst eP
      refine wpAny_pyIter_list il1 (wpAny_bind (wpAny_runValue ?_))
      have lt : l < s.heap.objs.size := Heap.lt_size oa
      have z1 : (s.heap.push (emptySet w)).objs.size = s.heap.objs.size + 1 := Heap.size_push ..
      have d1 : l ≠ (s.heap.push (emptySet w)).objs.size := by
        rw [z1]
        exact Nat.ne_of_lt (Nat.lt_succ_of_lt lt)
      have d2 : s.heap.objs.size ∉ [(s.heap.push (emptySet w)).objs.size, l] := by
        rw [z1]
        simp only [List.mem_cons, List.not_mem_nil, or_false, not_or]
        exact ⟨Nat.ne_of_lt (Nat.lt_succ_self _), Nat.ne_of_gt lt⟩
      have val : ∀ (i : Nat) (v : Value), vs[i]? = some v → ∃ e, all[i]? = some e ∧ v = .ref e.1 := fun i v hv => by
        rw [← Array.getElem?_toList, ev, List.getElem?_map] at hv
        obtain ⟨e, he, z⟩ := Option.map_eq_some_iff.mp hv
        exact ⟨e, he, z.symm⟩
      have gone : ∀ b, s.heap.objs.size ≤ b → s.heap.get? b = none := fun b hb => by
        cases z : s.heap.get? b with
        | none => rfl
        | some o => exact absurd (Nat.lt_of_lt_of_le (Heap.lt_size z) hb) (Nat.lt_irrefl _)
      refine fill_loop ((Walks.list (by simp [nh]) _ l d1 vs).toS) d2 n0 fw val tp (gone _ (Nat.le_refl _)) (fun b hb => gone b (by
          rw [List.mem_singleton.mp hb, z1]
          exact Nat.le_succ _)) hu (vs.size - 0) 0 _ (by omega) (Nat.zero_le _) ⟨⟨_, Heap.get?_push_size _ rfl, rfl, rfl⟩, il1.push _⟩ (fun b o e => Heap.get?_push_of_some _ (Heap.get?_push_of_some _ e)) ?start ?stop
      case start => exact ⟨[], #[], 0, _, tbl_new (Heap.get?_push_of_some _ at_), Sofar.none_ all⟩
      case stop =>
        intro s3 L es ep t mv T g kp
        obtain ⟨h3, g3, dr3, tk3, os3⟩ := s3
        have e1 : g3 = s.gens := mv.gens
        have e2 : dr3 = s.drawn := mv.drawn
        have e3 : os3 = s.os := mv.os
        subst e1
        subst e2
        subst e3
        show wpAny _ _ _ _ _ _
        refine wpAny_pure ?_
        show wpAny _ _ (ret Value.none) _ _ _
        rw [n0] at g
        exact wpAny_pure ⟨rfl, h3, tk3, L, es, ep, t, rfl, T, g, kp⟩
    · match fl2, r2 with
      | .error e, r2 => exact r2
      | .ok .next, r2 => exact r2.elim
      | .ok .brk, r2 => exact r2.elim
      | .ok .cont, r2 => exact r2.elim
      | .ok (.ret r), r2 =>
        obtain ⟨rfl, h', tk, L, es, ep, t, rfl, T, g, kp⟩ := r2
        repeat any_goals (first | assumption | wp_step)
        exact q _ _ _ _ _ _ T g kp
end
end SX

set_option Elab.async false
set_option linter.all false
set_option maxRecDepth 100000
set_option maxHeartbeats 4000000
/-! Sets of tuples of an int, a text and an int: the rules set(list) and sorted(set). -/
namespace SX
open PySem PySem.Spec PyProof.Rows L2
/-- what stands at v in the heap -/
def tripAt (h : Heap) (v : Value) : T3 := match v with
  | .ref a => match h.get? a with
    | some o => match o.data with
      | .seq vs _ => match vs.toList with
        | [.int x _, .str y _, .int z _] => (x, y, z)
        | _ => (0, "", 0)
      | _ => (0, "", 0)
    | none => (0, "", 0)
  | _ => (0, "", 0)
theorem tripAt_of {h : Heap} {v : Value} {x : T3} (p : IsTrip h v x) : tripAt h v = x := by
  obtain ⟨a, o, t, u, r, n, rfl, ho, _, hd⟩ := p
  unfold tripAt
  simp only [ho, hd]
def keyOf (x : T3) : List Key := [.inl x.1, .inr x.2.1, .inl x.2.2]
def unkey : List Key → T3
  | [.inl a, .inr b, .inl c] => (a, b, c)
  | _ => (0, "", 0)
theorem unkey_of (x : T3) : unkey (keyOf x) = x := rfl
def row (e : Addr × T3) : Addr × List Key := (e.1, keyOf e.2)
section
variable {prog : Program} {w : World} {A : Around} {E : Value → Shared → Prop} {s : Shared}
theorem trip_key {h : Heap} {a : Addr} {x : T3} (p : IsTrip h (.ref a) x) : IsTupleKey (mixKind prog w) h (keyOf x) a := by
  obtain ⟨b, o, t, u, r, n, e, ho, hc, hd⟩ := p
  cases e
  exact ⟨o, _, n, ho, hc, hd, .cons (kV_is (k := .inl x.1) ⟨t, rfl⟩) (.cons (kV_is (k := .inr x.2.1) ⟨u, rfl⟩) (.cons (kV_is (k := .inl x.2.2) ⟨r, rfl⟩) .nil))⟩
theorem sorted_set {a : Addr} {L : List (Addr × T3)} {es : Array (Int × Value)} {ep : Nat} {t : SetTable} {Q : Value → Shared → Prop} (T : Tbl (mixKind prog w) s.heap a (L.map row) es ep t) (nh : A.handled = none) (tr : ∀ e ∈ L, IsTrip s.heap (.ref e.1) e.2)
    (q : ∀ (s' : Shared) (p : Addr) (n : Nat) (M : List (Addr × T3)), (∀ b o, s.heap.get? b = some o → s'.heap.get? b = some o) → s'.gens = s.gens → s'.os = s.os → s.heap.objs.size ≤ p → s'.heap.get? p = some (seqObj "list" (M.map fun e => Value.ref e.1).toArray n) →
      M.Perm L → SrtO.Srtd (fun x y : Addr × T3 => lt3 x.2 y.2) M → Q (.ref p) s') : wpAny (model prog w) A (call (.builtin "sorted") [.ref a]) Q E s := by
  obtain ⟨ob, oa, ox, od⟩ := T.obj
  have fw := T.few
  have mn := T.many
  rw [List.length_map] at fw mn
  refine Calls.call_function_entry kind_sorted plain_sorted entry_sorted (args_sorted1 _) ?_
  unfold Builtin.«sorted»
  refine wpAny_bind (m := checkCount "sorted" 1 1 _) (wpAny_pure ?_)
  refine wpAny_bind (collect_set (A := A.in1) nh ⟨ob, oa, ox.1, od⟩ T.fits (by unfold scanBound; omega) T.tb.ris T.ord fun s1 vs k1 z1 g1 o1 pm => ?_)
  have ev : es.toList.map (·.2) = L.map fun e => Value.ref e.1 := by
    rw [T.rw_]
    unfold rws
    rw [List.map_map, List.map_map]
    rfl
  rw [ev] at pm
  have vl : vs.length = L.length := by
    rw [pm.length_eq, List.length_map]
  refine wpAny_bind (wpAny_newList ?_ (by rw [sizeLine_eq]; omega))
  have hoL : (s1.heap.push (seqObj "list" vs.toArray 0)).get? s1.heap.objs.size = some (seqObj "list" vs.toArray 0) := Heap.get?_push_size _ rfl
  have on : ∀ b o, s.heap.get? b = some o → (s1.heap.push (seqObj "list" vs.toArray 0)).get? b = some o := fun b o e => Heap.get?_push_of_some _ (k1 b o e)
  have trV : ∀ v ∈ vs, IsTrip s.heap v (tripAt s.heap v) := fun v hv => by
    obtain ⟨e, he, rfl⟩ := List.mem_map.mp (pm.mem_iff.mp hv)
    have z := tr e he
    rw [tripAt_of z]
    exact z
  refine wpAny_bind (wpAny_holding (wpAny_call_entry slot_list_sort ⟨_, hoL, rfl⟩ entry_list_sort (SrtO.list_sort_ord (s := { s1 with heap := s1.heap.push (seqObj "list" vs.toArray 0) }) (swo3k (tripAt s.heap)) hoL (by rw [sizeLine_eq]; omega) (fun h2 => ?_) fun out h1 h3 => ⟨_, rfl, ?_⟩) (args_list_sort _)))
  · refine trips_sortable (by omega) (fun v hv => (trV v hv).keeps fun b o e _ => on b o e) fun o e => ?_
    have e' : some o = some (seqObj "list" vs.toArray 0) := e.symm.trans hoL
    cases e'
    intro c
    exact absurd (Value.type.inj c) (by decide)
  · obtain ⟨n, hn⟩ := sortedHeap_at (vs := vs) (out := out.toArray) hoL
    have po : out.Perm (L.map fun e => Value.ref e.1) := h3.perm.trans pm
    have isr : ∀ v ∈ out, ∃ e ∈ L, v = Value.ref e.1 := fun v hv => by
      obtain ⟨e, he, z⟩ := List.mem_map.mp (po.mem_iff.mp hv)
      exact ⟨e, he, z.symm⟩
    have back : (out.map fun v => ((match v with | .ref b => b | _ => 0 : Addr), tripAt s.heap v)).map (fun e => Value.ref e.1) = out := by
      rw [List.map_map]
      conv => rhs; rw [← List.map_id out]
      refine List.map_congr_left fun v hv => ?_
      obtain ⟨e, _, rfl⟩ := isr v hv
      rfl
    have pM : (out.map fun v => ((match v with | .ref b => b | _ => 0 : Addr), tripAt s.heap v)).Perm L := by
      have z := po.map fun v => ((match v with | .ref b => b | _ => 0 : Addr), tripAt s.heap v)
      rw [List.map_map] at z
      have e : L.map ((fun v => ((match v with | .ref b => b | _ => 0 : Addr), tripAt s.heap v)) ∘ fun e => Value.ref e.1) = L := by
        conv => rhs; rw [← List.map_id L]
        refine List.map_congr_left fun e he => ?_
        show (e.1, tripAt s.heap (.ref e.1)) = e
        rw [tripAt_of (tr e he)]
      rwa [e] at z
    refine wpAny_pure ⟨_, rfl, q _ s1.heap.objs.size n _ (fun b u e => ?_) g1 o1 z1 (by rw [back]; exact hn) pM (SrtO.srtd_map (lt := fun x y : Addr × T3 => lt3 x.2 y.2) (f := fun v => ((match v with | .ref b => b | _ => 0 : Addr), tripAt s.heap v)) h1)⟩
    have lt := Heap.lt_size (k1 b u e)
    show (sortedHeap (s1.heap.push (seqObj "list" vs.toArray 0)) s1.heap.objs.size vs out.toArray).get? b = some u
    rw [sortedHeap_old (Nat.ne_of_lt lt) (by rw [size_push']; exact Nat.lt_succ_of_lt lt)]
    exact on b u e
end
end SX

set_option Elab.async false
set_option linter.all false
set_option maxRecDepth 100000
set_option maxHeartbeats 4000000
/-! The rules set(list) and sorted(set), for tuples of an int, a text and an int. -/
namespace SX
open PySem PySem.Spec PyProof.Rows L2
/-- the set at a, whatever has become of the tuples -/
def Tab0 (P : Program) (w : World) (h : Heap) (a : Addr) (L : List (Addr × T3)) : Prop := ∃ (es : Array (Int × Value)) (ep : Nat) (t : SetTable), (∃ o, h.get? a = some o ∧ o.ExactSet ∧ o.data = .set es ep t) ∧ es.toList = rws (mixKind P w) (L.map row) ∧
  TabOk t ((L.map row).map fun e => tupleKeyHash (mixKind P w) e.2) ∧ ((L.map row).map (·.2)).Nodup ∧ (w.params.followText "set-order" = true ∨ t.led = true) ∧ (L.map row).length * 5 < t.mask * 3 ∧ (L.map row).length < 64
def SetM (P : Program) (w : World) (a : Addr) (L : List (Addr × T3)) : HO := .ext fun h => Tab0 P w h a L
section
variable {P : Program} {w : World} {h : Heap} {a : Addr} {L : List (Addr × T3)} {es : Array (Int × Value)} {ep : Nat} {t : SetTable}
theorem tab0_of (T : Tbl (mixKind P w) h a (L.map row) es ep t) : Tab0 P w h a L := ⟨es, ep, t, T.obj, T.rw_, T.tb, T.dif, T.ord, T.free, T.few⟩
theorem tbl_of (R : Tab0 P w h a L) (tp : ∀ e ∈ L, IsTrip h (.ref e.1) e.2) : ∃ es ep t, Tbl (mixKind P w) h a (L.map row) es ep t := by
  obtain ⟨es, ep, t, h1, h2, h3, h4, h5, h6, h7⟩ := R
  refine ⟨es, ep, t, h1, h2, h3, h4, fun e he => ?_, h5, h6, h7⟩
  obtain ⟨x, hx, rfl⟩ := List.mem_map.mp he
  exact trip_key (tp x hx)
theorem setM_ok {H : Hp} (R : Tab0 P w h a L) : ObjOk P w H h a (SetM P w a L) := by
  obtain ⟨o, ho, _⟩ := R.choose_spec.choose_spec.choose_spec.1
  refine ⟨R, ⟨o, ho⟩, fun h1 h2 p k => ?_⟩
  obtain ⟨es, ep, t, ⟨o2, ho2, r⟩, q⟩ := (show Tab0 P w h1 a L from p)
  exact ⟨es, ep, t, ⟨o2, k o2 ho2, r⟩, q⟩
end
abbrev Tr (H : Hp) (e : Addr × T3) : Prop := H e.1 = some (.tup [.int e.2.1, .str e.2.2.1, .int e.2.2.2])
section
variable {X : Cx} {pins : List (Addr × Obj)} {σ : L2.St} {H : Hp} {s : Shared}
theorem trip_in (I : Inv X pins σ H s) {e : Addr × T3} (he : Tr H e) : IsTrip s.heap (.ref e.1) e.2 := by
  obtain ⟨_, its, rv, o, ho, hc, n, hd⟩ := I.hok _ _ he
  obtain ⟨u1, u2, u3, rfl, ⟨t1, rfl⟩, ⟨t2, rfl⟩, ⟨t3, rfl⟩⟩ := vals_3 rv
  exact ⟨e.1, o, t1, t2, t3, n, rfl, ho, hc, hd⟩
theorem refs_are : ∀ {l : List (Addr × T3)} {us : List Value}, Vals (l.map fun e => V.ref e.1) us → us = l.map fun e => Value.ref e.1
  | [], _, .nil => rfl
  | e :: l, _, .cons r t => by
    cases r
    rw [refs_are t, List.map_cons]
theorem are_refs : ∀ l : List (Addr × T3), Vals (l.map fun e => V.ref e.1) (l.map fun e => Value.ref e.1)
  | [] => .nil
  | e :: l => .cons rfl (are_refs l)
/-- set(xs) -/
def rSetM (K : PySem.W.Frag) (P : Program) (w : World) : List V → Hp → VK → Prop := fun vs H Q => ∃ (l : Addr) (ts : List (Addr × T3)), vs = [V.ref l] ∧ SqL K H l (ts.map fun e => V.ref e.1) ∧ (∀ e ∈ ts, Tr H e) ∧ ts.length < 64 ∧
  ∀ (a : Addr) (L : List (Addr × T3)), H a = none → (∀ e ∈ L, e ∈ ts) → (∀ e ∈ ts, e.2 ∈ L.map (·.2)) → (L.map (·.2)).Nodup → Q (.ref a) (upd H a (SetM P w a L))
theorem cr_setM (hc : X.calm = true) (hu : X.A.units + 64 < cLine) : CallR X (.type "set") (rSetM X.K X.prog X.w) := by
  intro pins s σ H vs us Q I r h
  obtain ⟨l, ts, rfl, hl, htr, few, q⟩ := h
  obtain ⟨its, rv, pl, hz⟩ := I.list hl
  obtain ⟨u, rfl, ru⟩ := vals1 r
  obtain rfl : u = Value.ref l := ru
  have hn : H s.heap.objs.size = none := I.hok.fresh (Nat.le_refl _)
  have ev : its.toArray.toList = (ts.map row).map fun e => Value.ref e.1 := by
    rw [List.map_map]
    exact refs_are rv
  refine made (prog := X.prog) (w := X.w) (knd := mixKind X.prog X.w) (all := ts.map row) (I.ok.hd hc) pl.isList ev (fun e he => ?_) (by rw [List.length_map]; exact few) (by omega) fun h' tk L es ep t T g k => ?_
  · obtain ⟨x, hx, rfl⟩ := List.mem_map.mp he
    exact trip_key (trip_in I (htr x hx))
  · have sub : ∀ e ∈ L, ∃ x ∈ ts, row x = e := fun e he => List.mem_map.mp (List.mem_of_mem_take (g.of_ e he))
    have eL : (L.map fun e => (e.1, unkey e.2)).map row = L := by
      rw [List.map_map]
      conv => rhs; rw [← List.map_id L]
      refine List.map_congr_left fun e he => ?_
      obtain ⟨x, _, rfl⟩ := sub e he
      rfl
    rw [← eL] at T
    have nd : ((L.map fun e => (e.1, unkey e.2)).map (·.2)).Nodup := by
      have z := T.dif
      rw [List.map_map] at z
      have e : ((fun x : Addr × List Key => x.2) ∘ row) = keyOf ∘ fun x : Addr × T3 => x.2 := rfl
      rw [e, ← List.map_map] at z
      exact List.Pairwise.of_map keyOf (fun _ _ ne z => ne (congrArg keyOf z)) z
    refine ⟨.ref s.heap.objs.size, upd H s.heap.objs.size (SetM X.prog X.w s.heap.objs.size (L.map fun e => (e.1, unkey e.2))), I.laid (t' := tk) k (Nat.le_refl _) (setM_ok (tab0_of T)), rfl, q _ _ hn (fun e he => ?_) (fun e he => ?_) nd⟩
    · obtain ⟨y, hy, rfl⟩ := List.mem_map.mp he
      obtain ⟨x, hx, rfl⟩ := sub y hy
      exact hx
    · have z := g.has (row e) (by rw [List.take_length]; exact List.mem_map_of_mem (f := row) he)
      obtain ⟨y, hy, ey⟩ := List.mem_map.mp z
      refine List.mem_map.mpr ⟨(y.1, unkey y.2), List.mem_map_of_mem (f := fun e => (e.1, unkey e.2)) hy, ?_⟩
      show unkey y.2 = e.2
      rw [ey]
      rfl
/-- sorted of such a set -/
def rSortM (P : Program) (w : World) : List V → Hp → VK → Prop := fun vs H Q => ∃ (a : Addr) (L : List (Addr × T3)), vs = [V.ref a] ∧ H a = some (SetM P w a L) ∧ (∀ e ∈ L, Tr H e) ∧
  ∀ (M : List (Addr × T3)) (p : Addr), M.Perm L → SrtO.Srtd (fun x y : Addr × T3 => lt3 x.2 y.2) M → H p = none → Q (.ref p) (upd H p (.lst (M.map fun e => V.ref e.1)))
theorem cr_sortM (hc : X.calm = true) : CallR X (.builtin "sorted") (rSortM X.prog X.w) := by
  intro pins s σ H vs us Q I r h
  obtain ⟨a, L, rfl, ha, htr, q⟩ := h
  obtain ⟨u, rfl, ru⟩ := vals1 r
  obtain rfl : u = Value.ref a := ru
  have R0 : Tab0 X.prog X.w s.heap a L := (I.hok a _ ha).1
  obtain ⟨es, ep, t, T⟩ := tbl_of R0 fun e he => trip_in I (htr e he)
  have few := T.few
  rw [List.length_map] at few
  refine sorted_set T (I.ok.hd hc) (fun e he => trip_in I (htr e he)) fun s' p n M k g o hp hg pm so => ?_
  have hlen : (M.map fun e => V.ref e.1).length ≤ sizeLine := by
    rw [List.length_map, pm.length_eq, sizeLine_eq]
    omega
  have hn : H p = none := I.hok.fresh hp
  have J : Inv X pins σ (upd H p (.lst (M.map fun e => V.ref e.1))) s' := I.call' (ch := []) o (Un.laid k hp hn) (I.hok.laid k hp ⟨hlen, _, n, are_refs M, hg⟩) (by rw [g]; exact I.bare) (fun _ z => nomatch z)
  exact ⟨.ref p, _, J, rfl, q M p pm so hn⟩
end
end SX

set_option Elab.async false
set_option linter.all false
set_option maxRecDepth 100000
set_option maxHeartbeats 4000000
/-! Drawn framings: sets. -/
namespace K04
open PySem L2 L2.EV
abbrev sFraming : Stmt := top 23
theorem lt3_tri {x y : T3} (h1 : lt3 x y = false) (h2 : lt3 y x = false) : x = y := by
  have a := lt3_no.mp h1
  have b := lt3_no.mp h2
  have e1 : x.1 = y.1 := by
    have a1 : ¬ x.1 < y.1 := fun q => a (.inl q)
    have b1 : ¬ y.1 < x.1 := fun q => b (.inl q)
    omega
  have a2 : ¬ sl x.2.1 < sl y.2.1 := fun q => a (.inr ⟨e1, .inl q⟩)
  have b2 : ¬ sl y.2.1 < sl x.2.1 := fun q => b (.inr ⟨e1.symm, .inl q⟩)
  have e2 : x.2.1 = y.2.1 := sl_inj (List.le_antisymm (List.not_lt.mp b2) (List.not_lt.mp a2))
  have a3 : ¬ x.2.2 < y.2.2 := fun q => a (.inr ⟨e1, .inr ⟨e2, q⟩⟩)
  have b3 : ¬ y.2.2 < x.2.2 := fun q => b (.inr ⟨e1.symm, .inr ⟨e2.symm, q⟩⟩)
  exact Prod.ext e1 (Prod.ext e2 (by omega))
/-- steps at ts -/
def At3 (H : Hp) (ts : List Addr) (xs : List T3) : Prop := ts.length = xs.length ∧ ∀ (i : Nat) t x, ts[i]? = some t → xs[i]? = some x → S3 H t x
theorem At3.same {H H' : Hp} {ts : List Addr} {xs : List T3} (h : At3 H ts xs) (s : KeepT H H') : At3 H' ts xs := ⟨h.1, fun i t x h1 h2 => s _ _ (h.2 i t x h1 h2)⟩
theorem At3.snoc {H : Hp} {ts : List Addr} {xs : List T3} {t : Addr} {x : T3} (h : At3 H ts xs) (hx : S3 H t x) : At3 H (ts ++ [t]) (xs ++ [x]) := by
  refine ⟨by rw [List.length_append, List.length_append, h.1]; rfl, fun i u y h1 h2 => ?_⟩
  by_cases e : i < ts.length
  · rw [List.getElem?_append_left e] at h1
    rw [List.getElem?_append_left (by rw [← h.1]; exact e)] at h2
    exact h.2 i u y h1 h2
  · have i1 := (List.getElem?_eq_some_iff.mp h1).1
    rw [List.length_append] at i1
    have e2 : i = ts.length := by simp only [List.length_cons, List.length_nil] at i1; omega
    subst e2
    rw [List.getElem?_append_right (Nat.le_refl _), Nat.sub_self] at h1
    rw [h.1, List.getElem?_append_right (Nat.le_refl _), Nat.sub_self] at h2
    have e3 : t = u := Option.some.inj h1
    have e4 : x = y := Option.some.inj h2
    rw [← e3, ← e4]
    exact hx
/-- a step from a standing to itself -/
def lpB (x : T3) : Bool := decide (x.1 = x.2.2) && !decide (x.1 = 0)
theorem lp_add0 {xs : List T3} {x : T3} {n : Nat} (h : (xs.filter lpB).length ≤ n) (hx : x.1 = x.2.2 → x.1 = 0) : ((xs ++ [x]).filter lpB).length ≤ n := by
  rw [List.filter_append, List.length_append]
  have z : [x].filter lpB = [] := by
    rw [List.filter_cons, if_neg (by unfold lpB; rw [Bool.and_eq_true, Bool.not_eq_true']; intro z; exact of_decide_eq_false z.2 (hx (of_decide_eq_true z.1)))]
    rfl
  rw [z]
  exact h
theorem lp_add1 {xs : List T3} {x : T3} {n : Nat} (h : (xs.filter lpB).length ≤ n) : ((xs ++ [x]).filter lpB).length ≤ n + 1 := by
  rw [List.filter_append, List.length_append]
  have z : ([x].filter lpB).length ≤ 1 := List.length_filter_le ..
  omega
def spFraming : Sp := fun vs H Q _ => ∃ (m c l : Addr) (k : Int) (b : Nat), vs = [.ref m, .int (b : Int)] ∧ b ≤ 5 ∧ MAt H m c l k ∧ k < 700000 ∧
  ∀ (f : Addr) (fr : List T3) (last : Nat) (H' : Hp) (l' : Addr) (k' : Int), FrA H' f fr → Frm fr last → last ≤ b → fr.length ≤ 2 * b + 3 → k' ≤ k + 400 → Dr H H' m c l l' k' → (fr.filter lpB).length ≤ 2 → Q (.ref f) H'
/-- the found steps at F -/
structure FS (H H' : Hp) (m c l F : Addr) (kb : Int) (last : Nat) (xs : List T3) : Prop where
  ex : ∃ (ts : List Addr) (l' : Addr) (k' : Int), H' F = some (.lst (ts.map V.ref)) ∧ At3 H' ts xs ∧ F ≠ l' ∧ F ≠ m ∧ F ≠ c ∧ k' ≤ kb ∧ Dr H H' m c l l' k'
  ok : ∀ x ∈ xs, Stp x ∧ x.1 ≤ last ∧ x.2.2 ≤ last
  hF : ∀ b o, H b = some o → b ≠ m → b ≠ l → b ≠ F
theorem bl_eq (t : Int) : decide (V.int t = V.int 0) = decide (t = 0) := by
  rw [dec_int]
  by_cases z : t = 0
  · rw [z]
    rfl
  · rw [decide_eq_false z]
    exact beq_eq_false_iff_ne.mpr z
theorem Dr.keepT {H0 H : Hp} {m c l0 l : Addr} {k k0 : Int} (d : Dr H0 H m c l0 l k) (M : MAt H0 m c l0 k0) : KeepT H0 H := fun a xs e => d.tup M e
/-- one step more -/
theorem FS.push {H H1 H2 H3 : Hp} {m c l F l1 l2 t : Addr} {k1 k2 kb : Int} {last : Nat} {xs : List T3} {ts : List Addr} {x : T3} (hF : H1 F = some (.lst (ts.map V.ref))) (ha : At3 H1 ts xs) (n1 : F ≠ l1) (n2 : F ≠ m) (n3 : F ≠ c) (d1 : Dr H H1 m c l l1 k1)
    (d2 : Dr H1 H2 m c l1 l2 k2) (ht : H2 t = none) (e3 : H3 = upd (upd H2 t (.tup [.int x.1, .str x.2.1, .int x.2.2])) F (.lst (ts.map V.ref ++ [.ref t]))) (hk : k2 ≤ kb)
    (ok : ∀ y ∈ xs, Stp y ∧ y.1 ≤ last ∧ y.2.2 ≤ last) (okx : Stp x ∧ x.1 ≤ last ∧ x.2.2 ≤ last) (hF0 : ∀ b o, H b = some o → b ≠ m → b ≠ l → b ≠ F) : FS H H3 m c l F kb last (xs ++ [x]) := by
  obtain ⟨hF2, n4⟩ := d2.lst d1.at_ hF n1
  have u := same_upd (o := HO.tup [.int x.1, .str x.2.1, .int x.2.2]) ht
  have hF2' := u _ _ hF2
  have kt := keepT_upd (o := .lst (ts.map V.ref ++ [.ref t])) hF2' (fun xs z => by cases z)
  have D2 := (d1.trans d2).same u
  subst e3
  refine ⟨⟨ts ++ [t], l2, k2, by rw [List.map_append]; exact upd_same, ?_, n4, n2, n3, hk, ⟨D2.at_.upd n2 n3 n4, D2.hl, fun b o z h1 h2 => ?_⟩⟩, fun y hy => ?_, hF0⟩
  · refine At3.snoc (ha.same ?_) (kt _ _ upd_same)
    exact ((d2.keepT d1.at_).trans (Same.keepT u)).trans kt
  · rw [upd_ne (hF0 b o z h1 h2)]
    exact D2.kp b o z h1 h2
  · rcases List.mem_append.mp hy with h | h
    · exact ok y h
    · have e : y = x := by simpa using h
      rw [e]
      exact okx

theorem srt_of {M : List (Addr × T3)} (sr : SrtO.Srtd (fun x y : Addr × T3 => lt3 x.2 y.2) M) (nd : (M.map (·.2)).Nodup) : (M.map (·.2)).Pairwise (fun x y => lt3 x y = true) := by
  have s2 : (M.map (·.2)).Pairwise fun x y => lt3 y x = false := List.pairwise_map.mpr sr
  refine (s2.and nd).imp fun {x y} z => ?_
  cases e : lt3 x y with
  | true => rfl
  | false => exact absurd (lt3_tri e z.1) z.2
/-- a set, sorted: a framing -/
theorem frm_of {H H' : Hp} {ts : List Addr} {xs : List T3} {last : Nat} {L M : List (Addr × T3)} {p : Addr} (ha : At3 H ts xs) (sub : ∀ e ∈ L, e ∈ ts.zip xs) (cov : ∀ e ∈ ts.zip xs, e.2 ∈ L.map (·.2)) (nd : (L.map (·.2)).Nodup) (pm : M.Perm L) (sr : SrtO.Srtd (fun x y : Addr × T3 => lt3 x.2 y.2) M) (l1 : xs.length ≤ 16) (l5 : last ≤ 5)
    (ok : ∀ x ∈ xs, Stp x ∧ x.1 ≤ last ∧ x.2.2 ≤ last) (up : ∀ k : Nat, 1 ≤ k → k ≤ last → ∃ x ∈ xs, x.2.2 = (k : Int) ∧ 0 ≤ x.1 ∧ x.1 < k) (dn : ∀ k : Nat, k ≤ last → ∃ x ∈ xs, x.1 = (k : Int) ∧ (x.2.2 = 0 ∨ ((k : Int) < x.2.2 ∧ x.2.2 ≤ last)))
    (s : Same H H') (hp : H' p = some (.tup (M.map fun e => V.ref e.1))) : FrA H' p (M.map (·.2)) ∧ Frm (M.map (·.2)) last ∧ (M.map (·.2)).length ≤ xs.length ∧ ((M.map (·.2)).filter lpB).length ≤ (xs.filter lpB).length := by
  have mem : ∀ x, x ∈ M.map (·.2) ↔ x ∈ xs := fun x => by
    rw [(pm.map (·.2)).mem_iff]
    refine ⟨fun h => ?_, fun h => ?_⟩
    · obtain ⟨e, he, rfl⟩ := List.mem_map.mp h
      exact (List.of_mem_zip (sub e he)).2
    · obtain ⟨i, hi, e⟩ := List.getElem_of_mem h
      have ht : i < ts.length := by rw [ha.1]; exact hi
      have z := cov (ts[i], xs[i]) (by
        refine List.mem_of_getElem? (i := i) ?_
        rw [List.getElem?_zip_eq_some]
        exact ⟨List.getElem?_eq_getElem ht, List.getElem?_eq_getElem hi⟩)
      rw [← e]
      exact z
  have nd2 : (M.map (·.2)).Nodup := by
    rw [(pm.map (·.2)).nodup_iff]
    exact nd
  have lx : (M.map (·.2)).length ≤ xs.length := nd2.length_le_of_subset fun x hx => (mem x).mp hx
  have len : (M.map (·.2)).length ≤ 16 := Nat.le_trans lx l1
  refine ⟨⟨M.map (·.1), by rw [List.map_map]; exact hp, by rw [List.length_map, List.length_map], fun i t x h1 h2 => ?_⟩, ⟨?_, len, fun x hx => (ok x ((mem x).mp hx)).1, srt_of sr nd2, fun k h1 h2 => ?_, fun k hk => ?_, fun x hx => (ok x ((mem x).mp hx)).2, l5⟩, lx, List.Nodup.length_le_of_subset (List.Pairwise.filter _ nd2) fun x hx => List.mem_filter.mpr ⟨(mem x).mp (List.mem_filter.mp hx).1, (List.mem_filter.mp hx).2⟩⟩
  · rw [List.getElem?_map] at h1 h2
    cases e : M[i]? with
    | none =>
      rw [e] at h1
      cases h1
    | some y =>
      rw [e] at h1 h2
      cases h1
      cases h2
      have z := sub y (pm.mem_iff.mp (List.mem_of_getElem? e))
      obtain ⟨j, hj, ej⟩ := List.getElem_of_mem z
      have z2 : (ts.zip xs)[j]? = some y := by rw [List.getElem?_eq_getElem hj, ej]
      rw [List.getElem?_zip_eq_some] at z2
      exact s _ _ (ha.2 j _ _ z2.1 z2.2)
  · obtain ⟨x, hx, _⟩ := dn 0 (Nat.zero_le _)
    exact List.length_pos_of_mem ((mem x).mpr hx)
  · obtain ⟨x, hx, e⟩ := up k h1 h2
    exact ⟨x, (mem x).mpr hx, e⟩
  · obtain ⟨x, hx, e⟩ := dn k hk
    exact ⟨x, (mem x).mpr hx, e⟩
end K04

set_option Elab.async false
set_option linter.all false
set_option maxRecDepth 100000
set_option maxHeartbeats 4000000
/-! The law's lines: there is one, though the ways are cut off at forty. -/
namespace K04
open PySem L2 L2.EV
def nzE (e : Wr) : Bool := !decide (e.2 = 0)
def zE (e : Wr) : Bool := decide (e.2 = 0)
/-- the ways behind k rounds, cut off -/
def cw (fr : List T3) : Nat → List Wr
  | 0 => [([], 0)]
  | k + 1 => ((lgs fr (cw fr k)).filter nzE).take 40
/-- the lines behind k rounds -/
def cf (fr : List T3) : Nat → List (List Int)
  | 0 => []
  | k + 1 => cf fr k ++ ((lgs fr (cw fr k)).filter zE).map (·.1)
def nxt (fr : List T3) (g : Int) : List Int := (fr.filter fun x => decide (x.1 = g)).map fun x => x.2.2
theorem fr_range (fr : List T3) : (List.range fr.length).map (stn fr) = fr := by
  apply List.ext_getElem?
  intro i
  rw [List.getElem?_map]
  by_cases h : i < fr.length
  · rw [List.getElem?_range h, List.getElem?_eq_getElem h]
    exact congrArg some (stn_at (List.getElem?_eq_getElem h))
  · rw [List.getElem?_eq_none (l := List.range fr.length) (by rw [List.length_range]; omega), List.getElem?_eq_none (by omega)]
    rfl
theorem lg_nxt {fr : List T3} {e : Wr} : (lg fr e fr.length).map (·.2) = nxt fr e.2 := by
  unfold lg nxt
  rw [List.map_map]
  conv => rhs; rw [← fr_range fr]
  rw [List.filter_map, List.map_map]
  rfl
theorem lgs_nxt {fr : List T3} : ∀ {es : List Wr}, (lgs fr es).map (·.2) = (es.map (·.2)).flatMap (nxt fr)
  | [] => rfl
  | e :: es => by
    show ((lg fr e fr.length) ++ lgs fr es).map (·.2) = _
    rw [List.map_append, lg_nxt, lgs_nxt (es := es), List.map_cons, List.flatMap_cons]
theorem flat_le {L : List Int} {f : Int → List Int} {B : Nat} (h : ∀ g ∈ L, (f g).length ≤ B) : (L.flatMap f).length ≤ L.length * B := by
  induction L with
  | nil => simp
  | cons g L ih =>
    have a := h g (by simp)
    have b := ih fun x hx => h x (by simp [hx])
    rw [List.flatMap_cons, List.length_append, List.length_cons, Nat.succ_mul]
    omega
/-- steps from four standings -/
theorem four (fr : List T3) : (nxt fr 0).length + (nxt fr 1).length + (nxt fr 2).length + (nxt fr 3).length ≤ fr.length := by
  induction fr with
  | nil => decide
  | cons x fr ih =>
    have st : ∀ g, (nxt (x :: fr) g).length = (if x.1 = g then 1 else 0) + (nxt fr g).length := fun g => by
      unfold nxt
      rw [List.filter_cons]
      by_cases c : x.1 = g
      · rw [if_pos (decide_eq_true c), if_pos c, List.map_cons, List.length_cons]
        omega
      · rw [if_neg (by simpa using c), if_neg c]
        omega
    rw [st, st, st, st, List.length_cons]
    by_cases c0 : x.1 = 0
    · rw [if_pos c0, if_neg (by omega), if_neg (by omega), if_neg (by omega)]
      omega
    · by_cases c1 : x.1 = 1
      · rw [if_neg c0, if_pos c1, if_neg (by omega), if_neg (by omega)]
        omega
      · by_cases c2 : x.1 = 2
        · rw [if_neg c0, if_neg c1, if_pos c2, if_neg (by omega)]
          omega
        · rw [if_neg c0, if_neg c1, if_neg c2]
          split <;> omega
theorem mem_nxt {fr : List T3} {g h : Int} : h ∈ nxt fr g ↔ ∃ x ∈ fr, x.1 = g ∧ x.2.2 = h := by
  unfold nxt
  constructor
  · intro z
    obtain ⟨x, hx, rfl⟩ := List.mem_map.mp z
    obtain ⟨a, b⟩ := List.mem_filter.mp hx
    exact ⟨x, a, of_decide_eq_true b, rfl⟩
  · rintro ⟨x, hx, a, rfl⟩
    exact List.mem_map.mpr ⟨x, List.mem_filter.mpr ⟨hx, decide_eq_true a⟩, rfl⟩
theorem sum_two {f : Int → List Int} : ∀ {L : List Int}, (∀ g ∈ L, g = 1 ∨ g = 2) → ∃ s q, s + q = L.length ∧ s = (L.filter fun g => decide (g = 1)).length ∧ (L.flatMap f).length = s * (f 1).length + q * (f 2).length
  | [], _ => ⟨0, 0, rfl, rfl, by simp⟩
  | g :: L, h => by
    obtain ⟨s, q, e1, e2, e3⟩ := sum_two (f := f) (L := L) fun x hx => h x (by simp [hx])
    rcases h g (by simp) with rfl | rfl
    · exact ⟨s + 1, q, by rw [List.length_cons]; omega, by rw [List.filter_cons, if_pos (by decide), List.length_cons, e2], by rw [List.flatMap_cons, List.length_append, e3, Nat.succ_mul]; omega⟩
    · exact ⟨s, q + 1, by rw [List.length_cons]; omega, by rw [List.filter_cons, if_neg (by decide), e2], by rw [List.flatMap_cons, List.length_append, e3, Nat.succ_mul]; omega⟩
theorem loops {fr : List T3} (lp : (fr.filter lpB).length ≤ 2) : ((nxt fr 1).filter fun g => decide (g = 1)).length ≤ 2 := by
  refine Nat.le_trans ?_ lp
  clear lp
  induction fr with
  | nil => decide
  | cons x fr ih =>
    unfold nxt at ih ⊢
    rw [List.filter_cons (p := lpB)]
    by_cases c : x.1 = 1
    · rw [List.filter_cons, if_pos (decide_eq_true c), List.map_cons, List.filter_cons]
      by_cases e : x.2.2 = 1
      · rw [if_pos (decide_eq_true e), if_pos (by unfold lpB; rw [c, e]; rfl), List.length_cons, List.length_cons]
        omega
      · rw [if_neg (by simpa using e)]
        split
        · rw [List.length_cons]
          omega
        · exact ih
    · rw [List.filter_cons, if_neg (by simpa using c)]
      split
      · rw [List.length_cons]
        omega
      · exact ih
theorem few_cnt : ∀ p < 9, ∀ s < 3, ∀ q < 9, ∀ o < 9, p + (s + q) + o ≤ 8 → p * (s * (s + q) + q * o) ≤ 40 := by decide +kernel
theorem few_two : ∀ p < 10, p * (9 - p) ≤ 40 := by decide
theorem cf_ne {fr : List T3} {last : Nat} (fm : Frm fr last) (l3 : last ≤ 3) (l9 : fr.length ≤ 9) (lp : (fr.filter lpB).length ≤ 2) : cf fr 4 ≠ [] := by
  intro h
  have h : (((([] ++ ((lgs fr (cw fr 0)).filter zE).map (·.1)) ++ ((lgs fr (cw fr 1)).filter zE).map (·.1)) ++ ((lgs fr (cw fr 2)).filter zE).map (·.1)) ++ ((lgs fr (cw fr 3)).filter zE).map (·.1)) = ([] : List (List Int)) := h
  simp only [List.append_eq_nil_iff, List.map_eq_nil_iff, List.filter_eq_nil_iff] at h
  obtain ⟨⟨⟨⟨_, h0⟩, h1⟩, h2⟩, h3⟩ := h
  have nz : ∀ {es : List Wr}, (∀ e ∈ es, ¬ zE e = true) → es.filter nzE = es ∧ ∀ g ∈ es.map (·.2), g ≠ 0 := fun {es} z => by
    refine ⟨List.filter_eq_self.mpr fun e he => ?_, fun g hg e => ?_⟩
    · have := z e he
      unfold zE at this
      unfold nzE
      simpa using this
    · obtain ⟨y, hy, rfl⟩ := List.mem_map.mp hg
      exact z y hy (decide_eq_true e)
  have nxtc : ∀ {k : Nat}, (∀ e ∈ lgs fr (cw fr k), ¬ zE e = true) → ((lgs fr (cw fr k)).map (·.2)).length ≤ 40 → cw fr (k + 1) = lgs fr (cw fr k) := fun {k} z l => by
    show ((lgs fr (cw fr k)).filter nzE).take 40 = _
    rw [List.length_map] at l
    rw [(nz z).1, List.take_of_length_le l]
  have hi : ∀ {g h : Int}, h ∈ nxt fr g → 0 ≤ h ∧ h ≤ 3 := fun {g h} z => by
    obtain ⟨x, hx, _, rfl⟩ := mem_nxt.mp z
    obtain ⟨a, b, c, d⟩ := fm.fb.lo x hx
    exact ⟨c, by omega⟩
  have f4 := four fr
  have e1 : (lgs fr (cw fr 0)).map (·.2) = nxt fr 0 := by
    rw [lgs_nxt]
    show (nxt fr 0 ++ []) = _
    rw [List.append_nil]
  have z1 := (nz h0).2
  rw [e1] at z1
  have c1 := nxtc h0 (by rw [e1]; omega)
  have e2 : (lgs fr (cw fr 1)).map (·.2) = (nxt fr 0).flatMap (nxt fr) := by rw [lgs_nxt, c1, e1]
  have z2 := (nz h1).2
  rw [e2] at z2
  have l2 : ((nxt fr 0).flatMap (nxt fr)).length ≤ 40 := by
    refine Nat.le_trans (flat_le (B := 9 - (nxt fr 0).length) fun g hg => ?_) (few_two _ (by omega))
    obtain ⟨a, b⟩ := hi hg
    have c := z1 g hg
    rcases (by omega : g = 1 ∨ g = 2 ∨ g = 3) with rfl | rfl | rfl <;> omega
  have c2 := nxtc h1 (by rw [e2]; exact l2)
  have e3 : (lgs fr (cw fr 2)).map (·.2) = ((nxt fr 0).flatMap (nxt fr)).flatMap (nxt fr) := by rw [lgs_nxt, c2, e2]
  have z3 := (nz h2).2
  rw [e3] at z3
  have m2 : ∀ {g h : Int}, g ∈ nxt fr 0 → h ∈ nxt fr g → h ∈ (nxt fr 0).flatMap (nxt fr) := fun a b => List.mem_flatMap.mpr ⟨_, a, b⟩
  have m3 : ∀ {g h i : Int}, g ∈ nxt fr 0 → h ∈ nxt fr g → i ∈ nxt fr h → i ∈ ((nxt fr 0).flatMap (nxt fr)).flatMap (nxt fr) := fun a b c => List.mem_flatMap.mpr ⟨_, m2 a b, c⟩
  have dn : ∀ k : Nat, k ≤ last → ∃ h, h ∈ nxt fr (k : Int) ∧ (h = 0 ∨ ((k : Int) < h ∧ h ≤ last)) := fun k hk => by
    obtain ⟨x, hx, a, b⟩ := fm.dn k hk
    exact ⟨_, mem_nxt.mpr ⟨x, hx, a, rfl⟩, b⟩
  obtain ⟨a, ha, da⟩ := dn 0 (Nat.zero_le _)
  have da : a = 0 ∨ ((0 : Int) < a ∧ a ≤ last) := da
  have a0 := z1 a ha
  obtain ⟨a, rfl⟩ := Int.eq_ofNat_of_zero_le (show 0 ≤ a by omega)
  obtain ⟨b, hb, db⟩ := dn a (by omega)
  have b0 := z2 b (m2 ha hb)
  obtain ⟨b, rfl⟩ := Int.eq_ofNat_of_zero_le (show 0 ≤ b by omega)
  obtain ⟨c, hc, dc⟩ := dn b (by omega)
  have c0 := z3 c (m3 ha hb hc)
  obtain ⟨c, rfl⟩ := Int.eq_ofNat_of_zero_le (show 0 ≤ c by omega)
  obtain rfl : a = 1 := by omega
  obtain rfl : b = 2 := by omega
  obtain rfl : c = 3 := by omega
  obtain ⟨d, hd, dd⟩ := dn 3 (by omega)
  have d0 : d = 0 := by omega
  subst d0
  have ha : (1 : Int) ∈ nxt fr 0 := ha
  have hb : (2 : Int) ∈ nxt fr 1 := hb
  have hc : (3 : Int) ∈ nxt fr 2 := hc
  have hd : (0 : Int) ∈ nxt fr 3 := hd
  have n0 : ∀ g ∈ nxt fr 0, g = 1 := fun g hg => by
    obtain ⟨x, y⟩ := hi hg
    have := z1 g hg
    rcases (by omega : g = 1 ∨ g = 2 ∨ g = 3) with rfl | rfl | rfl
    · rfl
    · exact absurd rfl (z3 0 (m3 hg hc hd))
    · exact absurd rfl (z2 0 (m2 hg hd))
  have n1 : ∀ g ∈ nxt fr 1, g = 1 ∨ g = 2 := fun g hg => by
    obtain ⟨x, y⟩ := hi hg
    have := z2 g (m2 ha hg)
    rcases (by omega : g = 1 ∨ g = 2 ∨ g = 3) with rfl | rfl | rfl
    · exact .inl rfl
    · exact .inr rfl
    · exact absurd rfl (z3 0 (m3 ha hg hd))
  have r0 : (nxt fr 0).flatMap (nxt fr) = (List.replicate (nxt fr 0).length (nxt fr 1)).flatten := by
    have := List.eq_replicate_of_mem n0
    conv => lhs; rw [this]
    rw [List.flatMap_def, List.map_replicate]
  obtain ⟨s, q, e4, e5, e6⟩ := sum_two (f := nxt fr) n1
  have l3 : (((nxt fr 0).flatMap (nxt fr)).flatMap (nxt fr)).length ≤ 40 := by
    have e7 : (((nxt fr 0).flatMap (nxt fr)).flatMap (nxt fr)).length ≤ (nxt fr 0).length * (s * (nxt fr 1).length + q * (nxt fr 2).length) := by
      rw [List.flatMap_assoc]
      refine flat_le fun g hg => ?_
      rw [n0 g hg, e6]
      exact Nat.le_refl _
    refine Nat.le_trans e7 ?_
    have sp := List.length_pos_of_mem hd
    have ls := loops lp
    rw [← e4]
    exact few_cnt _ (by omega) s (by omega) q (by omega) _ (by omega) (by omega)
  have c3 := nxtc h2 (by rw [e3]; exact l3)
  have e8 : (lgs fr (cw fr 3)).map (·.2) = (((nxt fr 0).flatMap (nxt fr)).flatMap (nxt fr)).flatMap (nxt fr) := by rw [lgs_nxt, c3, e3]
  have z4 := (nz h3).2
  rw [e8] at z4
  exact z4 0 (List.mem_flatMap.mpr ⟨_, m3 ha hb hc, hd⟩) rfl
end K04

set_option Elab.async false
set_option linter.all false
set_option maxRecDepth 100000
set_option maxHeartbeats 4000000
/-! The law's own look at a number. -/
namespace K04
open PySem L2 L2.EV
abbrev sIsW : Stmt := top 24
def spIsW : Sp := fun vs H Q _ => ∃ (v : V) (d : PyData) (b : Int), vs = [v, .int 0, .int b] ∧ Da H v d ∧ Q (.bl (numD (b + 1) d).isSome) H
section
variable {P : Program} {w : World} {K : PySem.W.Frag} {mg : Str → Option Value} {base : Heap}
theorem scIsW : FnScope ["thing", "least", "most"] ["thing", "least", "most"] (defScope sIsW) := ⟨rfl, rfl, rfl, by decide +kernel, rfl, by decide +kernel, by decide +kernel⟩
theorem ok_isW {f : Addr} {fd : FuncData} (F : Fun K "_law_is_whole" "_law_is_whole" sIsW f fd) (T : TxtF mg) : FnOk P w K mg base CX0 1 f fd ["thing", "least", "most"] spIsW := by
  refine F.ok scIsW (fun vs H Q E h => ?_) (fun cdv A outer s H vs Q E hr h => ?_)
  · obtain ⟨v, d, b, rfl, _⟩ := h
    rfl
  · obtain ⟨v, d, b, rfl, da, q⟩ := h
    refine ⟨_, pss_one (ps_ret (pe_and (pe_callB call_isi (by rfl) T.isi PyProof.Rows.boot_isinstance (pa_cons (pv 0) (pa_cons (pe_bltn (v := .ty "int") (by rfl) T.int (by decide +kernel) rfl) pa_nil)))
      (pe_and (pe_not (pe_callB call_isi (by rfl) T.isi PyProof.Rows.boot_isinstance (pa_cons (pv 0) (pa_cons (pe_bltn (v := .ty "bool") (by rfl) T.bool (by decide +kernel) rfl) pa_nil))))
        (pe_one (pe_chain op_le op_le (pv 1) (pv 0) (pv 2)))))), ?_⟩
    obtain ⟨t, ty, _, ki, kb⟩ := da.ty (K := K)
    refine ⟨_, rfl, v, .ty "int", t, .type "int", isInt d, rfl, .ty "int", ty, ki, isInt d, rfl, ?_⟩
    cases da with
    | int n =>
      refine iteT ?_
      refine ⟨_, rfl, .int n, .ty "bool", t, .type "bool", false, rfl, .ty "bool", ty, kb, false, rfl, true, rfl, iteT ?_⟩
      have q : Q (.bl (if 0 ≤ n ∧ n < b + 1 then some n else none).isSome) H := q
      refine ⟨_, rfl, _, rfl, 0, n, rfl, rfl, _, rfl, ?_⟩
      refine ite2 (fun z => ?_) (fun z => ?_)
      · have z1 : 0 ≤ n := of_decide_eq_true z
        refine ⟨_, rfl, n, b, rfl, rfl, ?_⟩
        show Q (.bl (decide (n ≤ b))) H
        by_cases c : n ≤ b
        · rw [if_pos ⟨z1, by omega⟩] at q
          rw [decide_eq_true c]
          exact q
        · rw [if_neg (fun k => c (by omega))] at q
          rw [decide_eq_false c]
          exact q
      · have z1 : ¬ 0 ≤ n := fun k => z (decide_eq_true k)
        rw [if_neg (fun k => z1 k.1)] at q
        exact q
    | bl b =>
      refine iteT ?_
      exact ⟨_, rfl, .bl b, .ty "bool", t, .type "bool", true, rfl, .ty "bool", ty, kb, true, rfl, false, rfl, iteF q⟩
    | non => exact iteF q
    | str x => exact iteF q
    | lst e h => exact iteF q
    | tup e h => exact iteF q
end
end K04

set_option Elab.async false
set_option linter.all false
set_option maxRecDepth 100000
set_option maxHeartbeats 4000000
/-! The law's own look at a line. -/
namespace K04
open PySem L2 L2.EV
abbrev sLL : Stmt := top 25
def lawL (fr : List T3) : List PyData → Int → Bool
  | [], _ => true
  | d :: ds, here => match numD fr.length d with
    | some k => decide ((stt fr k).1 = here) && ((decide ((stt fr k).2.2 = 0) == ds.isEmpty) && lawL fr ds (stt fr k).2.2)
    | none => false
theorem lawL_cons {fr : List T3} {d : PyData} {ds : List PyData} {here k : Int} (h : numD fr.length d = some k) : lawL fr (d :: ds) here = (decide ((stt fr k).1 = here) && ((decide ((stt fr k).2.2 = 0) == ds.isEmpty) && lawL fr ds (stt fr k).2.2)) := by
  show (match numD fr.length d with
    | some k => decide ((stt fr k).1 = here) && ((decide ((stt fr k).2.2 = 0) == ds.isEmpty) && lawL fr ds (stt fr k).2.2)
    | none => false) = _
  rw [h]
theorem lawL_none {fr : List T3} {d : PyData} {ds : List PyData} {here : Int} (h : numD fr.length d = none) : lawL fr (d :: ds) here = false := by
  show (match numD fr.length d with
    | some k => decide ((stt fr k).1 = here) && ((decide ((stt fr k).2.2 = 0) == ds.isEmpty) && lawL fr ds (stt fr k).2.2)
    | none => false) = _
  rw [h]
theorem numsD_cons {m : Int} {d : PyData} {ds : List PyData} : numsD m (d :: ds) = match numD m d, numsD m ds with
    | some n, some ns => some (n :: ns)
    | _, _ => none := rfl
def folO (fr : List T3) (o : Option (List Int)) (st : Int) (k : Nat) : Bool := match o with
  | some ns => folF fr ns st k
  | none => false
theorem lawL_is {fr : List T3} : ∀ {ds : List PyData} {st : Int} {k : Nat}, ds ≠ [] → (0 < k → st ≠ 0) → lawL fr ds st = folO fr (numsD fr.length ds) st k
  | [], _, _, h, _ => absurd rfl h
  | d :: ds, st, k, _, hs => by
    cases hn : numD fr.length d with
    | none =>
      rw [lawL_none hn, numsD_cons, hn]
      rfl
    | some n =>
      rw [lawL_cons hn, numsD_cons, hn]
      have keep : (0 < k → (stt fr n).1 = st → ¬ (stt fr n).1 = 0) := fun a b c => hs a (b ▸ c)
      cases ds with
      | nil =>
        show _ = (decide ((stt fr n).1 = st) && (!(decide (0 < k) && decide ((stt fr n).1 = 0)) && decide ((stt fr n).2.2 = 0)))
        by_cases c1 : (stt fr n).1 = st
        · have z : (decide (0 < k) && decide ((stt fr n).1 = 0)) = false := by
            by_cases a : 0 < k
            · rw [decide_eq_false (keep a c1), Bool.and_false]
            · rw [decide_eq_false a, Bool.false_and]
          rw [z]
          show (_ && ((_ == true) && true)) = _
          rw [Bool.and_true, Bool.not_false, Bool.true_and]
          cases decide ((stt fr n).2.2 = 0) <;> rfl
        · rw [decide_eq_false c1, Bool.false_and, Bool.false_and]
      | cons d2 ds =>
        by_cases c1 : (stt fr n).1 = st
        · have z : (decide (0 < k) && decide ((stt fr n).1 = 0)) = false := by
            by_cases a : 0 < k
            · rw [decide_eq_false (keep a c1), Bool.and_false]
            · rw [decide_eq_false a, Bool.false_and]
          by_cases c2 : (stt fr n).2.2 = 0
          · rw [decide_eq_true c2]
            show (_ && ((true == false) && _)) = _
            rw [show (true == false) = false from rfl, Bool.false_and, Bool.and_false]
            cases hd : numD fr.length d2 with
            | none =>
              rw [numsD_cons, hd]
              rfl
            | some n2 =>
              rw [numsD_cons, hd]
              cases numsD fr.length ds with
              | none => rfl
              | some ns =>
                show false = (decide ((stt fr n).1 = st) && (!(decide (0 < k) && decide ((stt fr n).1 = 0)) && (decide ((stt fr n2).1 = (stt fr n).2.2) && (!(decide (0 < k + 1) && decide ((stt fr n2).1 = 0)) && folF fr ns (stt fr n2).2.2 (k + 1 + 1)))))
                rw [c2, decide_eq_true (Nat.succ_pos k), Bool.true_and]
                by_cases c3 : (stt fr n2).1 = 0
                · rw [decide_eq_true c3]
                  simp
                · rw [decide_eq_false c3]
                  simp
          · rw [decide_eq_false c2]
            show (_ && ((false == false) && lawL fr (d2 :: ds) (stt fr n).2.2)) = _
            rw [show (false == false) = true from rfl, Bool.true_and, lawL_is (k := k + 1) (by simp) (fun _ => c2)]
            cases numsD fr.length (d2 :: ds) with
            | none =>
              show (_ && false) = false
              rw [Bool.and_false]
            | some ns =>
              show _ = (decide ((stt fr n).1 = st) && (!(decide (0 < k) && decide ((stt fr n).1 = 0)) && folF fr ns (stt fr n).2.2 (k + 1)))
              rw [z, Bool.not_false, Bool.true_and]
              rfl
        · rw [decide_eq_false c1, Bool.false_and]
          cases numsD fr.length (d2 :: ds) with
          | none => rfl
          | some ns =>
            show false = (decide ((stt fr n).1 = st) && _)
            rw [decide_eq_false c1, Bool.false_and]
theorem lawL_line {fr : List T3} {ds : List PyData} (h : ds ≠ []) : lawL fr ds 0 = (lineD fr (.tuple ds)).isSome := by
  rw [lawL_is (k := 0) h (fun z => absurd z (by decide))]
  cases ds with
  | nil => exact absurd rfl h
  | cons d ds =>
    show _ = (match numsD fr.length (d :: ds) with
      | some ns => if folF fr ns 0 0 = true then some ns else none
      | none => none).isSome
    cases numsD fr.length (d :: ds) with
    | none => rfl
    | some ns =>
      show folF fr ns 0 0 = _
      cases e : folF fr ns 0 0 with
      | true => simp [e]
      | false => simp [e]
def spLL : Sp := fun vs H Q _ => ∃ (f : Addr) (v : V) (fr : List T3) (last : Nat) (d : PyData), vs = [.ref f, v] ∧ FrA H f fr ∧ Frm fr last ∧ Da H v d ∧ SeqAt.shaped d = true ∧ (items d).length ≤ 10000 ∧ ∀ H', Same H H' → Q (.bl (lineD fr d).isSome) H'
structure Ll (K : PySem.W.Frag) (mg : Str → Option Value) where
  W : Ln K mg
  f1 : Addr
  d1 : FuncData
  F1 : Fun K "_law_is_whole" "_law_is_whole" sIsW f1 d1
  b1 : Binds K d1 ["thing", "least", "most"] []
  m1 : mg "_law_is_whole" = some (.ref f1)
  f2 : Addr
  d2 : FuncData
  F2 : Fun K "_law_is_line" "_law_is_line" sLL f2 d2
  b2 : Binds K d2 ["framing", "thing"] []
  m2 : mg "_law_is_line" = some (.ref f2)
section
variable {P : Program} {w : World} {K : PySem.W.Frag} {mg : Str → Option Value} {base : Heap}
theorem scLL : FnScope ["framing", "thing", "here", "at", "number"] ["framing", "thing"] (defScope sLL) := ⟨rfl, rfl, rfl, by decide +kernel, rfl, by decide +kernel, by decide +kernel⟩
theorem ok_ll (Z : Ll K mg) : FnOk P w K mg base CX0 2 Z.f2 Z.d2 ["framing", "thing"] spLL := by
  have T := Z.W.W.T
  have GW : FnOk P w K mg base CX0 1 Z.f1 Z.d1 ["thing", "least", "most"] spIsW := ok_isW Z.F1 T
  refine Z.F2.ok scLL (fun vs H Q E h => ?_) (fun cdv A outer s H vs Q E hr h => ?_)
  · obtain ⟨f, v, fr, last, d, rfl, _⟩ := h
    rfl
  · obtain ⟨f, v, fr, last, d, rfl, fa, fm, da, sp, il, q⟩ := h
    have hu64 : (A.deeper (PyProof.Rows.envOfC "_law_is_line" (defScope sLL) s.heap.objs.size Z.f2 cdv)).units + 64 < cLine := by have := hr.un; omega
    have GL : ∀ {X : Cx}, True := fun {X} => trivial
    refine ⟨_, pss_cons (ps_if (pw_or (pt_not (pt_val (pe_callB call_isi (by rfl) T.isi PyProof.Rows.boot_isinstance (pa_cons (pv 1) (pa_cons (pe_bltn (v := .ty "tuple") (by rfl) T.tuple (by decide +kernel) rfl) pa_nil)))))
        (pw_or1 (pt_cmpR (op_eqD hu64) (pv 1) (pe_tup pa_nil) (nomark _)))).pt (pss_one (ps_ret pe_bl)) pss_nil)
      (pss_cons (ps_set (i := 2) scLL.nd rfl (Or.inl rfl) pe_int)
      (pss_cons (ps_for PassesOwn.never rfl (pi_enumT (by rfl) Z.W.W.en (pa_cons (pv 1) pa_nil)) (pg_tup rfl (pgs_cons (pg_name (i := 3) scLL.nd rfl (Or.inl rfl)) (pgs_cons (pg_name (i := 4) scLL.nd rfl (Or.inl rfl)) pgs_nil)))
        (pss_cons (ps_if (pw_or (pt_not (pt_val (pe_call GW hr (by rfl) Z.m1 Z.F1.kp Z.b1 .nil pass0 (pa_cons (pv 4) (pa_cons pe_int (pa_cons (pe_op op_sub (pe_callB call_len_seq (by rfl) T.len PySem.boot_len (pa_cons (pv 0) pa_nil)) pe_int) pa_nil))))))
            (pw_or1 (pt_cmpR op_ne (pe_ix ix_tup (pe_ix ix_tup (pv 0) (pv 4) (fun _ _ => rfl)) pe_int (fun _ _ => rfl)) (pv 2) (nomark _)))).pt (pss_one (ps_ret pe_bl)) pss_nil)
        (pss_cons (ps_set (i := 2) scLL.nd rfl (Or.inl rfl) (pe_ix ix_tup (pe_ix ix_tup (pv 0) (pv 4) (fun _ _ => rfl)) pe_int (fun _ _ => rfl)))
        (pss_one (ps_if (pt_cmpR op_ne (pe_cmpR op_eq (pv 2) pe_int (nomark _)) (pe_cmpR op_eq (pv 3) (pe_op op_sub (pe_callB call_len_seq (by rfl) T.len PySem.boot_len (pa_cons (pv 1) pa_nil)) pe_int) (nomark _)) (nomark _)) (pss_one (ps_ret pe_bl)) pss_nil)))))
      (pss_one (ps_ret pe_bl)))), ?_⟩
    obtain ⟨t, ty, kt, _, _⟩ := da.ty (K := K)
    refine ⟨_, rfl, v, .ty "tuple", t, .type "tuple", isTup d, rfl, .ty "tuple", ty, kt, isTup d, rfl, ?_⟩
    cases da with
    | bl b => exact iteT (q H (Same.refl H))
    | non => exact iteT (q H (Same.refl H))
    | int i => exact iteT (q H (Same.refl H))
    | str x => exact iteT (q H (Same.refl H))
    | lst e h => exact iteT (q H (Same.refl H))
    | @tup a xs ds e all =>
      refine iteF ?_
      have hs := fun (p : Addr) (hp : H p = none) => same_upd (o := HO.tup []) hp
      refine ⟨_, rfl, by decide, fun p hp => ⟨.tuple ds, .tuple [], Da.dp _ _ (.tup (hs p hp _ _ e) (DaAll.same (hs p hp) _ _ all)), Da.dp _ _ (.tup upd_same .nil), sp, rfl, _, rfl, ?_⟩⟩
      have s0 := hs p hp
      generalize upd H p (.tup []) = H1 at s0 ⊢
      cases ds with
      | nil => exact iteT' (by decide) (q _ s0)
      | cons d0 ds0 =>
        rw [← lawL_line (by simp)] at q
        refine iteF' (by simp [PyData.eqv, PyData.eqvAll]) ?_
        generalize d0 :: ds0 = ds at sp il q all
        refine ⟨_, rfl, a, xs, rfl, SqT.of (s0 _ _ e), for_it (walk_enumT (xs := xs)) (fun i σ H' => ∃ (st : Int) (v3 v4 : Option V), σ = [some (.ref f), some (.ref a), some (.int st), v3, v4] ∧ Same H H' ∧ lawL fr ds 0 = lawL fr (ds.drop i) st)
          ⟨0, none, none, rfl, s0, rfl⟩ (fun i σ H' _ ⟨_, _, _, _, z, _⟩ => SqT.of (z _ _ e)) ?_ ?_⟩
        · rintro i x σ H2 H3 hi ⟨st, v3, v4, rfl, s1, inv⟩ ⟨T, xi, xo, rfl, nT, rfl, h1, h2⟩
          cases h1
          have h2 : xs[i]? = some xo := h2
          obtain ⟨d1, hd, dx⟩ := all.at_ h2
          rw [drop_at hd] at inv
          have s2 := s1.trans (same_upd (o := HO.tup [V.int (i : Nat), xo]) nT)
          obtain ⟨ts, hf, hl, ht⟩ := fa.same s2
          refine ⟨T, _, rfl, SqT.of upd_same, rfl, _, _, rfl, _, _, rfl, rfl, ?_⟩
          refine ⟨_, rfl, _, rfl, f, _, rfl, .inr (SqT.of hf), _, 1, rfl, rfl, xo, d1, _, rfl, Da.same s2 _ _ dx, ?_⟩
          refine ⟨_, rfl, ?_⟩
          rw [show (((ts.map V.ref).length : Nat) : Int) - 1 + 1 = ((fr.length : Nat) : Int) from by rw [List.length_map, hl]; omega]
          cases hn : numD fr.length d1 with
          | none =>
            have z := q _ s2
            rw [inv, lawL_none hn] at z
            exact iteT z
          | some n =>
            obtain ⟨rfl, n0, n1⟩ := numD_some hn
            cases dx
            rw [lawL_cons hn] at inv
            refine iteF ?_
            obtain ⟨us, t2, hf2, ha, h3, _⟩ := stt_at (fa.same s2) n0 n1
            refine ⟨_, rfl, _, rfl, f, _, n, .ref t2, rfl, rfl, SqT.of hf2, ha, t2, _, 0, .int (stt fr n).1, rfl, rfl, SqT.of h3, rfl, _, rfl, rfl, _, rfl, ?_⟩
            by_cases c1 : (stt fr n).1 = st
            · refine iteF' (by simp [c1]) ?_
              rw [decide_eq_true c1, Bool.true_and] at inv
              refine ⟨_, rfl, _, rfl, f, _, n, .ref t2, rfl, rfl, SqT.of hf2, ha, t2, _, 2, .int (stt fr n).2.2, rfl, rfl, SqT.of h3, rfl, ?_⟩
              refine ⟨_, rfl, rfl, _, rfl, _, rfl, a, _, rfl, .inr (SqT.of (s2 _ _ e)), _, 1, rfl, rfl, rfl, rfl, _, rfl, ?_⟩
              have ln := all.len
              have eB : decide (V.int (i : Nat) = V.int ((xs.length : Nat) - 1)) = (ds.drop (i + 1)).isEmpty := by
                rw [dec_int]
                by_cases c : i + 1 = ds.length
                · rw [c, List.drop_length]
                  exact beq_iff_eq.mpr (by omega)
                · have z : (ds.drop (i + 1)).isEmpty = false := by
                    rw [List.isEmpty_eq_false_iff]
                    intro z
                    have := List.drop_eq_nil_iff.mp z
                    omega
                  rw [z]
                  exact beq_eq_false_iff_ne.mpr (by omega)
              show if (!decide (V.bl (decide (V.int (stt fr n).2.2 = V.int 0)) = V.bl (decide (V.int (i : Nat) = V.int ((xs.length : Nat) - 1))))) = true then _ else _
              rw [bl_eq, eB, dec_bl]
              by_cases c2 : (decide ((stt fr n).2.2 = 0) == (ds.drop (i + 1)).isEmpty) = true
              · refine iteF' (by rw [c2]; rfl) ?_
                exact ⟨_, _, _, rfl, s2, by rw [inv, c2, Bool.true_and]⟩
              · have c3 := Bool.eq_false_iff.mpr c2
                refine iteT' (by rw [c3]; rfl) ?_
                have z := q _ s2
                rw [inv, c3, Bool.false_and] at z
                exact z
            · refine iteT' (by simp [c1]) ?_
              have z := q _ s2
              rw [inv, decide_eq_false c1, Bool.false_and] at z
              exact z
        · rintro σ H2 ⟨st, v3, v4, rfl, s1, inv⟩
          have z := q _ s1
          rw [inv, all.len, List.drop_length] at z
          exact z
end
end K04

set_option Elab.async false
set_option linter.all false
set_option maxRecDepth 100000
set_option maxHeartbeats 4000000
/-! line_text; _law_is_refused. -/
namespace K04
open PySem L2 L2.EV
abbrev sLT : Stmt := top 18
abbrev sRef : Stmt := top 26
def Eo (C : Addr) (E : XK) (H : Hp) : Prop := ∀ H', Same H H' → E (.ref C) none H'
def pcs (fr : List T3) (ns : List Int) : List Str := ns.map fun n => (stt fr n).2.1
def txtL (fr : List T3) (ns : List Int) : Str := Txt.join "" (pcs fr ns)
theorem lineD_some {fr : List T3} {d : PyData} {ns : List Int} (h : lineD fr d = some ns) : d = .tuple (ns.map PyData.int) ∧ ∀ n ∈ ns, 0 ≤ n ∧ n < fr.length := by
  cases d with
  | tuple ds =>
    cases ds with
    | nil => cases h
    | cons d ds =>
      have h : (match numsD fr.length (d :: ds) with
        | some ns => if folF fr ns 0 0 = true then some ns else none
        | none => none) = some ns := h
      cases e : numsD fr.length (d :: ds) with
      | none =>
        rw [e] at h
        cases h
      | some ms =>
        rw [e] at h
        have h : (if folF fr ms 0 0 = true then some ms else none) = some ns := h
        split at h
        · cases h
          obtain ⟨a, b⟩ := numsD_some e
          exact ⟨by rw [a], b⟩
        · cases h
  | _ => cases h
theorem stt_mem {fr : List T3} {n : Int} (n0 : 0 ≤ n) (n1 : n < fr.length) : stt fr n ∈ fr := by
  obtain ⟨k, rfl⟩ := Int.eq_ofNat_of_zero_le n0
  have k1 : k < fr.length := by omega
  rw [show stt fr (k : Int) = fr[k] from stn_at (List.getElem?_eq_getElem k1)]
  exact List.getElem_mem k1
theorem pcs_sum {fr : List T3} (st : ∀ x ∈ fr, Stp x) : ∀ {ns : List Int}, (∀ n ∈ ns, 0 ≤ n ∧ n < fr.length) → ((pcs fr ns).map fun x => x.length).sum ≤ 8 * ns.length
  | [], _ => Nat.le_refl _
  | n :: ns, h => by
    have ih := pcs_sum st (ns := ns) fun x hx => h x (by simp [hx])
    obtain ⟨a, b⟩ := h n (by simp)
    have l := (pc_len (st _ (stt_mem a b)).2.2.1).2
    show ((stt fr n).2.1 :: pcs fr ns |>.map fun x => x.length).sum ≤ _
    rw [List.map_cons, List.sum_cons, List.length_cons]
    omega
def spLT (C : Addr) : Sp := fun vs H Q E => ∃ (f : Addr) (v : V) (fr : List T3) (last : Nat) (d : PyData), vs = [.ref f, v] ∧ FrA H f fr ∧ Frm fr last ∧ Da H v d ∧ (items d).length ≤ 1000 ∧
  (∀ ns, lineD fr d = some ns → ∀ H', Same H H' → Q (.str (txtL fr ns)) H') ∧ (lineD fr d = none → Eo C E H)
def spRef : Sp := fun vs H Q _ => ∃ (f : Addr) (v : V) (fr : List T3) (last : Nat) (d : PyData), vs = [.ref f, v] ∧ FrA H f fr ∧ Frm fr last ∧ Da H v d ∧ (items d).length ≤ 1000 ∧ ∀ H', Same H H' → Q (.bl (!(lineD fr d).isSome)) H'
structure Lt (K : PySem.W.Frag) (mg : Str → Option Value) where
  W : Ln K mg
  O : Oop K mg
  f1 : Addr
  d1 : FuncData
  F1 : Fun K "line_text" "line_text" sLT f1 d1
  b1 : Binds K d1 ["framing", "line"] []
  m1 : mg "line_text" = some (.ref f1)
  f2 : Addr
  d2 : FuncData
  F2 : Fun K "_law_is_refused" "_law_is_refused" sRef f2 d2
  b2 : Binds K d2 ["framing", "thing"] []
  m2 : mg "_law_is_refused" = some (.ref f2)
section
variable {P : Program} {w : World} {K : PySem.W.Frag} {mg : Str → Option Value} {base : Heap}
theorem scLT : FnScope ["framing", "line", "number"] ["framing", "line"] (defScope sLT) := ⟨rfl, rfl, rfl, by decide +kernel, rfl, by decide +kernel, by decide +kernel⟩
theorem ok_lt (Z : Lt K mg) : FnOk P w K mg base (L2.CX P w) 5 Z.f1 Z.d1 ["framing", "line"] (spLT Z.O.C) := by
  have GI : FnOk P w K mg base CX0 4 Z.W.fL Z.W.dL ["framing", "thing"] spLineL := ok_line Z.W
  have GO : FnOk P w K mg base CX0 2 Z.O.f Z.O.d ["self", "text"] (spNo K Z.O.C) := ok_OutOfPlace Z.O.F Z.O.T Z.O.I Z.O.FM Z.O.bM Z.O.mM Z.O.TM
  refine Z.F1.okX scLT (fun vs H Q E h => ?_) (fun cdv A outer s H vs Q E hr h => ?_)
  · obtain ⟨f, v, fr, last, d, rfl, _⟩ := h
    rfl
  · obtain ⟨f, v, fr, last, d, rfl, fa, fm, da, il, qs, qn⟩ := h
    have r3 := hr.mono (j := 3) (by omega)
    refine ⟨_, pss_cons (ps_if (pt_not (pt_val (pe_call GI hr (by rfl) Z.W.mL Z.W.L.kp Z.W.bL .nil pass0 (pa_cons (pv 0) (pa_cons (pv 1) pa_nil)))))
        (pss_one (ps_raise rfl (takes_of rfl rfl rfl rfl) (pmk_own2 rfl (pe_new Z.O.T Z.O.iC Z.O.tI GO r3 (kb_pos Z.O.b rfl) pass0 (by rfl) Z.O.m (pa_cons pe_str pa_nil))))) pss_nil)
      (pss_one (ps_ret (pe_m1 PySem.F.slot_str_join PySem.F.type_str_join mt_join pe_str (pe_lc (own := [("number", 2)]) (g := gName 2) (te := tOp (rIxT K) (tOp (rIxT K) (tVar 0) (tVar 2)) (tC (.int 1))) rfl scLT.nd (pi_tup (pv 1))
        (blkOk_by (N := ["framing", "line", "number"]) (sc := defScope sLT) (by decide +kernel))
        (fun _ _ _ _ _ => pg_name (i := 2) scLT.nd rfl (Or.inl rfl)) (fun _ _ _ _ _ => pts_nil)
        (fun _ _ _ _ _ => pe_ix ix_tup (pe_ix ix_tup (pv 0) (pv 2) (fun _ _ => rfl)) pe_int (fun _ _ => rfl)))))), ?_⟩
    refine ⟨_, rfl, _, rfl, f, v, fr, last, d, rfl, fa, fm, da, by omega, fun H1 s1 => ⟨_, rfl, ?_⟩⟩
    cases e : lineD fr d with
    | none =>
      refine iteT ?_
      refine ⟨rfl, rfl, (by decide), fun a na => ⟨a, .str _, .str _, rfl, upd_same, .str _, rfl, a, Z.O.C, none, rfl, upd_same, fr0_none (same_none s1 na), raises_own Z.O.su Z.O.ty, ?_⟩⟩
      rw [delH_new na]
      exact qn e H1 s1
    | some ns =>
      refine iteF ?_
      obtain ⟨rfl, hn⟩ := lineD_some e
      cases da with
      | @tup a xs ds ea all =>
        obtain rfl := da_ints all
        have il : ns.length ≤ 1000 := by
          have il : (ns.map PyData.int).length ≤ 1000 := il
          rw [List.length_map] at il
          exact il
        refine ⟨⟨_, rfl⟩, _, rfl, a, rfl, ⟨_, SqT.of (s1 _ _ ea)⟩, fun D hD => ?_⟩
        refine lc_it (walk_tup (xs := ns.map V.int)) (fun i H' => H' D = some (.lst ((pcs fr (ns.take i)).map V.str)) ∧ Same H1 H') ⟨upd_same, same_upd hD⟩ (fun i H' _ z => SqT.of (z.2 _ _ (s1 _ _ ea))) ?_ ?_
        · rintro i x H2 H3 hi ⟨hl2, kp⟩ ⟨rfl, hx⟩
          obtain ⟨n, en, rfl⟩ : ∃ n, ns[i]? = some n ∧ x = .int n := by
            rw [List.getElem?_map] at hx
            cases q : ns[i]? with
            | none =>
              rw [q] at hx
              cases hx
            | some n =>
              rw [q] at hx
              exact ⟨n, rfl, (Option.some.inj hx).symm⟩
          obtain ⟨n0, n1⟩ := hn n (List.mem_of_getElem? en)
          obtain ⟨us, t2, hf2, ha, h3, _⟩ := stt_at (fa.same (s1.trans kp)) n0 n1
          refine ⟨rfl, ⟨_, rfl, _, rfl, f, _, n, .ref t2, rfl, rfl, SqT.of hf2, ha, t2, _, 1, .str (stt fr n).2.1, rfl, rfl, SqT.of h3, rfl, _, hl2, ?_, ?_, same_set hD kp⟩⟩
          · unfold pcs
            rw [List.length_map, List.length_map, List.length_take, sizeLine_eq]
            omega
          · rw [take_one en]
            unfold pcs
            rw [List.map_append, List.map_append]
            exact upd_same
        · rintro H2 ⟨hl2, kp⟩
          rw [List.length_map, List.take_length] at hl2
          refine ⟨"", D, _, rfl, rfl, .inl (SqL.of hl2), ?_, qs ns e _ (s1.trans kp)⟩
          have z0 : ("" : Str).length = 0 := by decide +kernel
          have sm := pcs_sum fm.stp hn
          show ((pcs fr ns).map fun x => x.length).sum + _ * _ ≤ 16777216
          rw [z0, Nat.mul_zero]
          omega
theorem scRef : FnScope ["framing", "thing", "found"] ["framing", "thing"] (defScope sRef) := ⟨rfl, rfl, rfl, by decide +kernel, rfl, by decide +kernel, by decide +kernel⟩
theorem ok_ref (Z : Lt K mg) : FnOk P w K mg base CX0 6 Z.f2 Z.d2 ["framing", "thing"] spRef := by
  have GT : FnOk P w K mg base (L2.CX P w) 5 Z.f1 Z.d1 ["framing", "line"] (spLT Z.O.C) := ok_lt Z
  refine Z.F2.ok scRef (fun vs H Q E h => ?_) (fun cdv A outer s H vs Q E hr h => ?_)
  · obtain ⟨f, v, fr, last, d, rfl, _⟩ := h
    rfl
  · obtain ⟨f, v, fr, last, d, rfl, fa, fm, da, il, q⟩ := h
    refine ⟨_, pss_cons (ps_set (i := 2) scRef.nd rfl (Or.inl rfl) pe_bl)
      (pss_cons (ps_try_only (c := .ref Z.O.C) (Wout := fun _ _ _ _ => False) rfl rfl ⟨by rfl, by decide, .inl Z.O.m⟩ takes0
          (fun W pn xe tk _ => pss_one (ps_expr (pe_callS (E := WE W) GT hr (by rfl) Z.m1 Z.F1.kp Z.b1 (passAt tk) (pa_cons (pv 0) (pa_cons (pv 1) pa_nil)))))
          (fun a oe cls d pn hz hf => pss_one (ps_set (i := 2) scRef.nd rfl (Or.inl rfl) pe_bl)))
      (pss_one (ps_ret (pv 2)))), ?_⟩
    refine ⟨_, rfl, _, rfl, f, v, fr, last, d, rfl, fa, fm, da, il, fun ns e H1 s1 => ?_, fun e H' s1 => ⟨true, PySem.W.exm_ref Z.O.su Z.O.T.hd Z.O.ty Z.O.own, fun _ a na => ⟨_, rfl, ?_⟩, fun h => by cases h⟩⟩
    · have z := q H1 s1
      rw [e] at z
      exact ⟨_, rfl, z⟩
    · have z := q H' s1
      rw [e] at z
      exact z
end
end K04

set_option Elab.async false
set_option linter.all false
set_option maxRecDepth 100000
set_option maxHeartbeats 4000000
/-! The law's lines. -/
namespace K04
open PySem L2 L2.EV
abbrev sLines : Stmt := top 27
/-- rows: a way and a standing each -/
inductive RWs (H : Hp) : List Addr → List Wr → Prop
  | nil : RWs H [] []
  | cons {q wy : Addr} {qs : List Addr} {e : Wr} {R : List Wr} : H q = some (.tup [.ref wy, .int e.2]) → H wy = some (.tup (e.1.map V.int)) → RWs H qs R → RWs H (q :: qs) (e :: R)
theorem RWs.keep {H H' : Hp} (k : KeepT H H') : ∀ {qs : List Addr} {R : List Wr}, RWs H qs R → RWs H' qs R
  | _, _, .nil => .nil
  | _, _, .cons h1 h2 t => .cons (k _ _ h1) (k _ _ h2) (t.keep k)
theorem RWs.snoc {H : Hp} {q wy : Addr} {e : Wr} (h1 : H q = some (.tup [.ref wy, .int e.2])) (h2 : H wy = some (.tup (e.1.map V.int))) : ∀ {qs : List Addr} {R : List Wr}, RWs H qs R → RWs H (qs ++ [q]) (R ++ [e])
  | _, _, .nil => .cons h1 h2 .nil
  | _, _, .cons g1 g2 t => .cons g1 g2 (t.snoc h1 h2)
theorem RWs.len {H : Hp} : ∀ {qs : List Addr} {R : List Wr}, RWs H qs R → qs.length = R.length
  | _, _, .nil => rfl
  | _, _, .cons _ _ t => by rw [List.length_cons, List.length_cons, t.len]
theorem RWs.at_ {H : Hp} : ∀ {qs : List Addr} {R : List Wr} {i : Nat} {q : Addr}, RWs H qs R → qs[i]? = some q → ∃ (e : Wr) (wy : Addr), R[i]? = some e ∧ H q = some (.tup [.ref wy, .int e.2]) ∧ H wy = some (.tup (e.1.map V.int))
  | _, _, 0, _, .cons h1 h2 _, e => by
    cases e
    exact ⟨_, _, rfl, h1, h2⟩
  | _, _, i + 1, _, .cons _ _ t, e => by
    obtain ⟨x, wy, a, b, c⟩ := t.at_ (i := i) (by simpa using e)
    exact ⟨x, wy, by simpa using a, b, c⟩
  | _, _, _, _, .nil, e => by simp at e
theorem lg_succ {fr : List T3} {e : Wr} {i : Nat} : lg fr e (i + 1) = lg fr e i ++ if (stn fr i).1 = e.2 then [(e.1 ++ [(i : Int)], (stn fr i).2.2)] else [] := by
  unfold lg
  rw [List.range_succ, List.filter_append, List.map_append, List.filter_cons]
  by_cases c : (stn fr i).1 = e.2
  · rw [if_pos c, if_pos (decide_eq_true c)]
    rfl
  · rw [if_neg c, if_neg (by rw [decide_eq_false c]; simp)]
    rfl
theorem cut_to {xs : List V} {i : Nat} : cutV xs none (some (i : Int)) = xs.take i := by
  unfold cutV
  rw [HT.sIx_nat, HT.sIx_none, List.drop_zero, Nat.sub_zero]
  by_cases h : i ≤ xs.length
  · rw [Nat.min_eq_left h]
  · rw [Nat.min_eq_right (by omega), List.take_length, List.take_of_length_le (by omega)]
theorem cut_from {xs : List V} {i : Nat} : cutV xs (some (i : Int)) none = xs.drop i := by
  unfold cutV
  rw [HT.sIx_nat, HT.sIx_none]
  by_cases h : i ≤ xs.length
  · rw [Nat.min_eq_left h, List.take_of_length_le (by simp)]
  · rw [Nat.min_eq_right (by omega), List.drop_length, List.drop_of_length_le (by omega)]
    simp
theorem lg_mono {fr : List T3} {e : Wr} {k : Nat} (h : k ≤ fr.length) : (lg fr e k).length ≤ (lg fr e fr.length).length := by
  unfold lg
  rw [List.length_map, List.length_map]
  obtain ⟨d, hd⟩ := Nat.le.dest h
  rw [← hd, List.range_add, List.filter_append, List.length_append]
  omega
theorem lgs_take {fr : List T3} {W : List Wr} {i : Nat} : (lgs fr (W.take i)).length ≤ (lgs fr W).length := by
  conv => rhs; rw [← List.take_append_drop i W, lgs_app, List.length_append]
  omega
theorem RWs.take {H : Hp} : ∀ {qs : List Addr} {R : List Wr} (n : Nat), RWs H qs R → RWs H (qs.take n) (R.take n)
  | _, _, 0, _ => .nil
  | _, _, _ + 1, .nil => .nil
  | _, _, n + 1, .cons a b t => .cons a b (t.take n)
theorem RWs.app {H : Hp} : ∀ {qs us : List Addr} {R S : List Wr}, RWs H qs R → RWs H us S → RWs H (qs ++ us) (R ++ S)
  | _, _, _, _, .nil, h => h
  | _, _, _, _, .cons a b t, h => .cons a b (t.app h)
/-- ways -/
inductive Wys (H : Hp) : List Addr → List (List Int) → Prop
  | nil : Wys H [] []
  | cons {q : Addr} {qs : List Addr} {w : List Int} {R : List (List Int)} : H q = some (.tup (w.map V.int)) → Wys H qs R → Wys H (q :: qs) (w :: R)
theorem Wys.same {H H' : Hp} (k : Same H H') : ∀ {qs : List Addr} {R : List (List Int)}, Wys H qs R → Wys H' qs R
  | _, _, .nil => .nil
  | _, _, .cons h1 t => .cons (k _ _ h1) (t.same k)
theorem Wys.keepT {H H' : Hp} (k : KeepT H H') : ∀ {qs : List Addr} {R : List (List Int)}, Wys H qs R → Wys H' qs R
  | _, _, .nil => .nil
  | _, _, .cons h1 t => .cons (k _ _ h1) (t.keepT k)
theorem Wys.app {H : Hp} : ∀ {qs us : List Addr} {R S : List (List Int)}, Wys H qs R → Wys H us S → Wys H (qs ++ us) (R ++ S)
  | _, _, _, _, .nil, h => h
  | _, _, _, _, .cons a t, h => .cons a (t.app h)
theorem Wys.len {H : Hp} : ∀ {qs : List Addr} {R : List (List Int)}, Wys H qs R → qs.length = R.length
  | _, _, .nil => rfl
  | _, _, .cons _ t => by rw [List.length_cons, List.length_cons, t.len]
theorem Wys.at_ {H : Hp} : ∀ {qs : List Addr} {R : List (List Int)} {i : Nat} {q : Addr}, Wys H qs R → qs[i]? = some q → ∃ w, R[i]? = some w ∧ H q = some (.tup (w.map V.int))
  | _, _, 0, _, .cons h1 _, e => by
    cases e
    exact ⟨_, rfl, h1⟩
  | _, _, i + 1, _, .cons _ t, e => by
    obtain ⟨x, a, b⟩ := t.at_ (i := i) (by simpa using e)
    exact ⟨x, by simpa using a, b⟩
  | _, _, _, _, .nil, e => by simp at e
theorem take_filter {α : Type} {p : α → Bool} {es : List α} {i : Nat} {e : α} (h : es[i]? = some e) : (es.take (i + 1)).filter p = (es.take i).filter p ++ if p e = true then [e] else [] := by
  rw [take_one h, List.filter_append, List.filter_cons]
  split <;> rfl
theorem lgs_few {fr : List T3} : ∀ es : List Wr, (lgs fr es).length ≤ es.length * fr.length
  | [] => by simp [lgs]
  | e :: es => by
    have ihe := lgs_few (fr := fr) es
    have hc : lgs fr (e :: es) = lg fr e fr.length ++ lgs fr es := List.flatMap_cons
    rw [hc, List.length_append, List.length_cons, Nat.succ_mul]
    have : (lg fr e fr.length).length ≤ fr.length := by
      unfold lg
      rw [List.length_map]
      have := List.length_filter_le (fun n => decide ((stn fr n).1 = e.2)) (List.range fr.length)
      rw [List.length_range] at this
      exact this
    omega
theorem cw_few {fr : List T3} : ∀ k, (cw fr k).length ≤ 40
  | 0 => by show 1 ≤ 40; decide
  | k + 1 => by
    show (((lgs fr (cw fr k)).filter nzE).take 40).length ≤ 40
    rw [List.length_take]
    omega
theorem lgc_few {fr : List T3} (h : fr.length ≤ 9) (k : Nat) : (lgs fr (cw fr k)).length ≤ 360 := by
  refine Nat.le_trans (lgs_few _) ?_
  exact Nat.mul_le_mul (cw_few k) h
theorem cf_few {fr : List T3} (h : fr.length ≤ 9) : ∀ k, (cf fr k).length ≤ 360 * k
  | 0 => by show 0 ≤ _; omega
  | k + 1 => by
    have ih := cf_few h k
    have a := lgc_few h k
    show (cf fr k ++ _).length ≤ _
    rw [List.length_append, List.length_map]
    have := List.length_filter_le zE (lgs fr (cw fr k))
    omega
theorem lgs_short {fr : List T3} {es : List Wr} {k : Nat} (h : ∀ e ∈ es, e.1.length ≤ k) : ∀ e ∈ lgs fr es, e.1.length ≤ k + 1 := fun x hx => by
  obtain ⟨e, he, hx⟩ := List.mem_flatMap.mp hx
  obtain ⟨n, _, _, rfl⟩ := mem_lg.mp hx
  have := h e he
  show (e.1 ++ [(n : Int)]).length ≤ k + 1
  rw [List.length_append]
  simp only [List.length_cons, List.length_nil]
  omega
theorem cw_short {fr : List T3} : ∀ k, ∀ e ∈ cw fr k, e.1.length ≤ k
  | 0, e, he => by
    cases List.mem_singleton.mp he
    exact Nat.le_refl _
  | k + 1, e, he => lgs_short (cw_short k) e (List.mem_filter.mp (List.mem_of_mem_take he)).1
theorem cf_short {fr : List T3} : ∀ k, ∀ w ∈ cf fr k, w.length ≤ k
  | 0, w, h => by cases h
  | k + 1, w, h => by
    rcases List.mem_append.mp h with h | h
    · have := cf_short k w h
      omega
    · obtain ⟨e, he, rfl⟩ := List.mem_map.mp h
      exact lgs_short (cw_short k) e (List.mem_filter.mp he).1
def spLines : Sp := fun vs H Q _ => ∃ (f : Addr) (fr : List T3) (last : Nat), vs = [.ref f] ∧ FrA H f fr ∧ Frm fr last ∧ fr.length ≤ 9 ∧
  ∀ H' p ws, Same H H' → H' p = some (.lst (ws.map V.ref)) → Wys H' ws (cf fr 4) → Q (.ref p) H'
abbrev NS : List Str := ["framing", "found", "ways", "k", "longer", "way", "here", "n", "step", "pair"]
structure Lq (K : PySem.W.Frag) (mg : Str → Option Value) where
  W : Ln K mg
  ra : mg "range" = none
  f : Addr
  d : FuncData
  F : Fun K "_law_lines" "_law_lines" sLines f d
  b : Binds K d ["framing"] []
  m : mg "_law_lines" = some (.ref f)
section
variable {P : Program} {w : World} {K : PySem.W.Frag} {mg : Str → Option Value} {base : Heap}
theorem scLines : FnScope NS ["framing"] (defScope sLines) := ⟨rfl, rfl, rfl, by decide +kernel, rfl, by decide +kernel, by decide +kernel⟩
theorem ok_lines (Z : Lq K mg) : FnOk P w K mg base CX0 1 Z.f Z.d ["framing"] spLines := by
  refine Z.F.ok scLines (fun vs H Q E h => ?_) (fun cdv A outer s H vs Q E hr h => ?_)
  · obtain ⟨f, fr, last, rfl, _⟩ := h
    rfl
  · obtain ⟨f, fr, last, rfl, fa, fm, l9, q⟩ := h
    refine ⟨_, pss_cons (ps_par (i := 1) (j := 2) (x := "found") (y := "ways") rfl scLines.nd rfl rfl (by decide) rfl rfl (pa_cons (pe_lst pa_nil) (pa_cons (pe_lst (pa_cons (pe_tup (pa_cons (pe_tup pa_nil) (pa_cons pe_int pa_nil))) pa_nil)) pa_nil)) (by rfl))
      (pss_cons (ps_for PassesOwn.never rfl (pi_range1 (by rfl) Z.ra (pa_cons pe_int pa_nil)) (pg_name (i := 3) scLines.nd rfl (Or.inl rfl))
        (pss_cons (ps_set (i := 4) scLines.nd rfl (Or.inl rfl) (pe_lst pa_nil))
        (pss_cons (ps_for PassesOwn.never rfl (pi_list (pv 2)) (pg_tup rfl (pgs_cons (pg_name (i := 5) scLines.nd rfl (Or.inr rfl)) (pgs_cons (pg_name (i := 6) scLines.nd rfl (Or.inr rfl)) pgs_nil)))
          (pss_one (ps_set (i := 4) scLines.nd rfl (Or.inl rfl) (pe_op op_cat (pv 4)
            (pe_lc (own := [("n", 7), ("step", 8)]) (g := gTup K 2 (gCons (gName 7) (gCons (gName 8) gNil))) (tt := tTest (tOp rEq (tOp (rIxT K) (tVar 8) (tC (.int 0))) (tVar 6))) (te := tTup (tCons (tOp (rCatS K) (tVar 5) (tTup (tCons (tVar 7) tNil))) (tCons (tOp (rIxT K) (tVar 8) (tC (.int 2))) tNil))) rfl scLines.nd (pi_enumT (by rfl) Z.W.W.en (pa_cons (pv 0) pa_nil))
              (blkOk_by (N := NS) (sc := defScope sLines) (by decide +kernel))
              (fun _ _ _ _ _ => pg_tup rfl (pgs_cons (pg_name (i := 7) scLines.nd rfl (Or.inl rfl)) (pgs_cons (pg_name (i := 8) scLines.nd rfl (Or.inl rfl)) pgs_nil)))
              (fun _ _ _ _ _ => pts_one (pt_cmpR op_eq (pe_ix ix_tup (pv 8) pe_int (fun _ _ => rfl)) (pv 6) (nomark _)))
              (fun _ _ _ _ _ => pe_tup (pa_cons (pe_op op_catS (pv 5) (pe_tup (pa_cons (pv 7) pa_nil))) (pa_cons (pe_ix ix_tup (pv 8) pe_int (fun _ _ => rfl)) pa_nil))))))))
        (pss_cons (ps_set (i := 1) scLines.nd rfl (Or.inl rfl) (pe_op op_cat (pv 1)
            (pe_lc (own := [("way", 5), ("here", 6)]) (g := gTup K 2 (gCons (gName 5) (gCons (gName 6) gNil))) (tt := tTest (tOp rEq (tVar 6) (tC (.int 0)))) (te := tVar 5) rfl scLines.nd (pi_list (pv 4))
              (blkOk_by (N := NS) (sc := defScope sLines) (by decide +kernel))
              (fun _ _ _ _ _ => pg_tup rfl (pgs_cons (pg_name (i := 5) scLines.nd rfl (Or.inl rfl)) (pgs_cons (pg_name (i := 6) scLines.nd rfl (Or.inl rfl)) pgs_nil)))
              (fun _ _ _ _ _ => pts_one (pt_cmpR op_eq (pv 6) pe_int (nomark _)))
              (fun _ _ _ _ _ => pv 5))))
        (pss_one (ps_set (i := 2) scLines.nd rfl (Or.inl rfl) (pe_slice sl_list
            (pe_lc (own := [("pair", 9)]) (g := gName 9) (tt := tTest (tOp rNe (tOp (rIxT K) (tVar 9) (tC (.int 1))) (tC (.int 0)))) (te := tVar 9) rfl scLines.nd (pi_list (pv 4))
              (blkOk_by (N := NS) (sc := defScope sLines) (by decide +kernel))
              (fun _ _ _ _ _ => pg_name (i := 9) scLines.nd rfl (Or.inl rfl))
              (fun _ _ _ _ _ => pts_one (pt_cmpR op_ne (pe_ix ix_tup (pv 9) pe_int (fun _ _ => rfl)) pe_int (nomark _)))
              (fun _ _ _ _ _ => pv 9)) po_none (po_some pe_int))))))))
      (pss_one (ps_ret (pv 1)))), ?_⟩
    refine ⟨by decide, fun F0 hF0 => ⟨by decide, fun pe hpe => ⟨(by show 2 ≤ sizeLine; decide), fun pp hpp => ⟨(by show 1 ≤ sizeLine; decide), fun W0 hW0 => ?_⟩⟩⟩⟩
    have u1 := same_upd (o := HO.lst []) hF0
    have e1 := upd_same (H := H) (a := F0) (o := HO.lst [])
    generalize upd H F0 _ = H1 at u1 e1 hpe hpp hW0 ⊢
    have u2 := same_upd (o := HO.tup []) hpe
    have e2 := upd_same (H := H1) (a := pe) (o := HO.tup [])
    generalize upd H1 pe _ = H2 at u2 e2 hpp hW0 ⊢
    have u3 := same_upd (o := HO.tup [.ref pe, .int 0]) hpp
    have e3 := upd_same (H := H2) (a := pp) (o := HO.tup [.ref pe, .int 0])
    generalize upd H2 pp _ = H3 at u3 e3 hW0 ⊢
    have u4 := same_upd (o := HO.lst [.ref pp]) hW0
    have e4 := upd_same (H := H3) (a := W0) (o := HO.lst [.ref pp])
    generalize upd H3 W0 _ = H4 at u4 e4 ⊢
    have s04 : Same H H4 := ((u1.trans u2).trans u3).trans u4
    have fr9 := l9
    obtain ⟨ts, hf, hl, ht⟩ := id fa
    refine ⟨_, _, rfl, _, rfl, by decide, by decide, for_it walk_range (fun k σ H' => ∃ (F W : Addr) (fs qs : List Addr) (v3 v4 v5 v6 : Option V), σ = [some (.ref f), some (.ref F), some (.ref W), v3, v4, v5, v6, none, none, none] ∧ Same H H' ∧
        H' F = some (.lst (fs.map V.ref)) ∧ Wys H' fs (cf fr k) ∧ H' W = some (.lst (qs.map V.ref)) ∧ RWs H' qs (cw fr k))
      ⟨F0, W0, [], [pp], none, none, none, none, rfl, s04, u4 _ _ (u3 _ _ (u2 _ _ e1)), .nil, e4, .cons (u4 _ _ e3) (u4 _ _ (u3 _ _ e2)) .nil⟩ (fun _ _ _ _ _ => trivial) ?_ ?_⟩
    · rintro k x σ H5z H5 hk ⟨F, W, fs, qs, v3, v4, v5, v6, rfl, s5, hF, wf, hW, rq⟩ ⟨rfl, rfl⟩
      have hk4 : k < 4 := hk
      refine ⟨by decide, fun L0 hL0 => ?_⟩
      have u6 := same_upd (o := HO.lst []) hL0
      have e6 := upd_same (H := H5) (a := L0) (o := HO.lst [])
      generalize upd H5 L0 _ = H6 at u6 e6 ⊢
      have s6 := s5.trans u6
      have lql := lgc_few fr9 k
      refine ⟨_, rfl, W, rfl, ⟨_, SqL.of (u6 _ _ hW)⟩, for_it (walk_list (xs := qs.map V.ref)) (fun i σ H' => ∃ (L : Addr) (us : List Addr) (v5 v6 : Option V), σ = [some (.ref f), some (.ref F), some (.ref W), some (.int (0 + (k : Int))), some (.ref L), v5, v6, none, none, none] ∧ Same H6 H' ∧
          H' L = some (.lst (us.map V.ref)) ∧ RWs H' us (lgs fr ((cw fr k).take i)))
        ⟨L0, [], v5, v6, rfl, Same.refl H6, e6, .nil⟩ (fun i σ H' _ ⟨_, _, _, _, _, z, _⟩ => SqL.of (z _ _ (u6 _ _ hW))) ?_ ?_⟩
      · rintro i v σ H7z H7 hi ⟨L, us, v5, v6, rfl, s7, hL, ru⟩ ⟨rfl, hv⟩
        obtain ⟨q1, hq1, rfl⟩ : ∃ q1, qs[i]? = some q1 ∧ v = V.ref q1 := by
          rw [List.getElem?_map] at hv
          cases e : qs[i]? with
          | none =>
            rw [e] at hv
            cases hv
          | some q1 =>
            rw [e] at hv
            exact ⟨q1, rfl, (Option.some.inj hv).symm⟩
        have s67 := u6.trans s7
        obtain ⟨e, wy, hR1, g1, g2⟩ := (rq.keep (Same.keepT s67)).at_ hq1
        have sh := cw_short k e (List.mem_of_getElem? hR1)
        refine ⟨_, _, rfl, SqT.of g1, rfl, _, _, rfl, _, _, rfl, rfl, ?_⟩
        refine ⟨_, rfl, _, rfl, f, _, rfl, SqT.of (s6.trans s7 _ _ hf), fun D hD => ?_⟩
        refine lc_it (walk_enumT (xs := ts.map V.ref)) (fun j H' => ∃ xs : List Addr, H' D = some (.lst (xs.map V.ref)) ∧ RWs H' xs (lg fr e j) ∧ Same H7 H')
          ⟨[], upd_same, .nil, same_upd hD⟩ (fun i H' _ ⟨_, _, _, z⟩ => SqT.of (z _ _ (s6.trans s7 _ _ hf))) ?_ ?_
        · rintro j x H8z H8 hj ⟨xs, hD8, rx, s8⟩ ⟨T, xi, xo, rfl, nT, rfl, h1, h2⟩
          cases h1
          obtain ⟨t, y, hy, rfl, e4'⟩ := at_step (i := j) hl ht h2
          have uT := same_upd (o := HO.tup [V.int (j : Nat), V.ref t]) nT
          have s9 := s8.trans uT
          have t9 := s9 _ _ (s6.trans s7 _ _ e4')
          have sk : stn fr j = y := stn_at hy
          have jl : j < fr.length := (List.getElem?_eq_some_iff.mp hy).1
          have xl : xs.length ≤ j := by
            rw [rx.len]
            unfold lg
            rw [List.length_map]
            refine Nat.le_trans (List.length_filter_le ..) ?_
            rw [List.length_range]
            exact Nat.le_refl _
          refine ⟨T, _, rfl, SqT.of upd_same, rfl, _, _, rfl, _, _, rfl, rfl, rfl, ?_⟩
          refine ⟨_, rfl, t, _, 0, _, rfl, rfl, SqT.of t9, atI_nat (j := 0) rfl, _, rfl, rfl, _, rfl, ?_⟩
          refine ite2 (fun z => ?_) (fun z => ?_)
          · have z1 : y.1 = e.2 := V.int.inj (of_decide_eq_true z)
            refine ⟨_, rfl, _, rfl, (by show 1 ≤ sizeLine; decide), fun p hp => ⟨wy, p, e.1.map V.int, [V.int (j : Nat)], rfl, rfl, SqT.of (same_upd hp _ _ (s9 _ _ g2)), upd_same, (fun z => by cases z), ?_, fun nw Ha sa na => ?_⟩⟩
            · rw [sizeLine_eq, List.length_map]
              simp only [List.length_cons, List.length_nil]
              omega
            have up := same_upd (o := HO.tup [V.int (j : Nat)]) hp
            have na' : Ha nw = some (.tup ((e.1 ++ [(j : Int)]).map V.int)) := by
              rw [na, List.map_append]
              rfl
            have s9a := up.trans (show Same _ Ha from sa)
            refine ⟨_, rfl, t, _, 2, _, rfl, rfl, SqT.of (s9a _ _ t9), atI_nat (j := 2) rfl, (by show 2 ≤ sizeLine; decide), fun pn hpn => ?_⟩
            have un := same_upd (o := HO.tup [V.ref nw, V.int y.2.2]) hpn
            have hD9 := un _ _ (s9a _ _ (uT _ _ hD8))
            have k8 := keepT_upd (o := .lst (xs.map V.ref ++ [V.ref pn])) hD9 (fun xs z => by cases z)
            refine ⟨_, hD9, by rw [List.length_map, sizeLine_eq]; omega, xs ++ [pn], by rw [List.map_append]; exact upd_same, ?_, same_set hD ((s9.trans s9a).trans un)⟩
            rw [lg_succ, sk, if_pos z1]
            exact RWs.snoc (e := ((e.1 ++ [(j : Int)], y.2.2) : Wr)) (wy := nw) (k8 _ _ upd_same) (k8 _ _ (un _ _ na')) (rx.keep ((Same.keepT ((uT.trans s9a).trans un)).trans k8))
          · have z1 : ¬ y.1 = e.2 := fun e' => z (decide_eq_true (congrArg V.int e'))
            refine ⟨xs, uT _ _ hD8, ?_, s9⟩
            rw [lg_succ, sk, if_neg z1, List.append_nil]
            exact rx.keep (Same.keepT uT)
        · rintro H8 ⟨xs, hD8, rx, s8⟩
          rw [show (ts.map V.ref).length = fr.length by simp [hl]] at rx
          have ful := lgs_take (fr := fr) (W := cw fr k) (i := i + 1)
          rw [take_one hR1, lgs_app, lgs_one, List.length_append, ← ru.len, ← rx.len] at ful
          refine ⟨L, D, _, _, rfl, rfl, s8 _ _ hL, hD8, by rw [List.length_map, List.length_map, sizeLine_eq]; omega, fun p hp => ?_⟩
          have up := same_upd (o := HO.lst (us.map V.ref ++ xs.map V.ref)) hp
          refine ⟨p, us ++ xs, _, _, rfl, (s7.trans s8).trans up, by rw [List.map_append]; exact upd_same, ?_⟩
          rw [take_one hR1, lgs_app, lgs_one]
          exact (ru.keep (Same.keepT (s8.trans up))).app (rx.keep (Same.keepT up))
      · rintro σ H7 ⟨L, us, v5, v6, rfl, s7, hL, ru⟩
        rw [show (cw fr k).take (qs.map V.ref).length = cw fr k by rw [List.length_map, rq.len, List.take_length]] at ru
        have s67 := u6.trans s7
        have ul := ru.len
        refine ⟨_, rfl, _, rfl, L, rfl, ⟨_, SqL.of hL⟩, fun D hD => ?_⟩
        refine lc_it (walk_list (xs := us.map V.ref)) (fun i H' => ∃ gs : List Addr, H' D = some (.lst (gs.map V.ref)) ∧ Wys H' gs ((((lgs fr (cw fr k)).take i).filter zE).map (·.1)) ∧ Same H7 H')
          ⟨[], upd_same, .nil, same_upd hD⟩ (fun i H' _ ⟨_, _, _, z⟩ => SqL.of (z _ _ hL)) ?_ ?_
        · rintro i x H8z H8 hi ⟨gs, hD8, rg, s8⟩ ⟨rfl, hx⟩
          obtain ⟨q1, hq1, rfl⟩ : ∃ q1, us[i]? = some q1 ∧ x = V.ref q1 := by
            rw [List.getElem?_map] at hx
            cases e : us[i]? with
            | none =>
              rw [e] at hx
              cases hx
            | some q1 =>
              rw [e] at hx
              exact ⟨q1, rfl, (Option.some.inj hx).symm⟩
          obtain ⟨e, wy, hR1, g1, g2⟩ := (ru.keep (Same.keepT s8)).at_ hq1
          have gl : gs.length ≤ 360 := by
            rw [rg.len, List.length_map]
            refine Nat.le_trans (List.length_filter_le ..) ?_
            rw [List.length_take]
            omega
          refine ⟨_, _, rfl, SqT.of g1, rfl, _, _, rfl, _, _, rfl, rfl, rfl, ?_⟩
          refine ⟨_, rfl, rfl, _, rfl, ?_⟩
          rw [take_filter hR1, List.map_append]
          refine ite2 (fun z => ?_) (fun z => ?_)
          · have z1 : zE e = true := decide_eq_true (V.int.inj (of_decide_eq_true z))
            have st := same_set (o := HO.lst (gs.map V.ref ++ [V.ref wy])) hD s8
            have k8 := keepT_upd (o := .lst (gs.map V.ref ++ [V.ref wy])) hD8 (fun xs z => by cases z)
            refine ⟨_, rfl, _, hD8, by rw [List.length_map, sizeLine_eq]; omega, gs ++ [wy], by rw [List.map_append]; exact upd_same, ?_, st⟩
            rw [if_pos z1]
            exact (rg.keepT k8).app (.cons (k8 _ _ g2) .nil)
          · have z1 : ¬ zE e = true := fun q => z (decide_eq_true (congrArg V.int (of_decide_eq_true q)))
            refine ⟨gs, hD8, ?_, s8⟩
            rw [if_neg z1]
            exact (List.append_nil _).symm ▸ rg
        rintro H8 ⟨gs, hD8, rg, s8⟩
        rw [show (lgs fr (cw fr k)).take (us.map V.ref).length = lgs fr (cw fr k) by rw [List.length_map, ul, List.take_length]] at rg
        have cfl := cf_few fr9 k
        have gl : gs.length ≤ 360 := by
          rw [rg.len, List.length_map]
          exact Nat.le_trans (List.length_filter_le ..) lql
        have s58 := (s67).trans s8
        refine ⟨F, D, _, _, rfl, rfl, s58 _ _ hF, hD8, by rw [List.length_map, List.length_map, wf.len, sizeLine_eq]; omega, fun F2 hF2 => ?_⟩
        have u9 := same_upd (o := HO.lst (fs.map V.ref ++ gs.map V.ref)) hF2
        have e9 := upd_same (H := H8) (a := F2) (o := HO.lst (fs.map V.ref ++ gs.map V.ref))
        generalize upd H8 F2 _ = H9 at u9 e9 ⊢
        have s59 := s58.trans u9
        have wf9 : Wys H9 (fs ++ gs) (cf fr (k + 1)) := (wf.same s59).app (rg.same u9)
        have hL9 := (s8.trans u9) _ _ hL
        have ru9 := ru.keep (Same.keepT (s8.trans u9))
        refine ⟨_, rfl, L, rfl, ⟨_, SqL.of hL9⟩, fun D2 hD2 => ?_⟩
        refine lc_it (walk_list (xs := us.map V.ref)) (fun i H' => ∃ gs : List Addr, H' D2 = some (.lst (gs.map V.ref)) ∧ RWs H' gs (((lgs fr (cw fr k)).take i).filter nzE) ∧ Same H9 H')
          ⟨[], upd_same, .nil, same_upd hD2⟩ (fun i H' _ ⟨_, _, _, z⟩ => SqL.of (z _ _ hL9)) ?_ ?_
        · rintro i x Haz Ha hi ⟨gs, hDa, rg, sa⟩ ⟨rfl, hx⟩
          obtain ⟨q1, hq1, rfl⟩ : ∃ q1, us[i]? = some q1 ∧ x = V.ref q1 := by
            rw [List.getElem?_map] at hx
            cases e : us[i]? with
            | none =>
              rw [e] at hx
              cases hx
            | some q1 =>
              rw [e] at hx
              exact ⟨q1, rfl, (Option.some.inj hx).symm⟩
          obtain ⟨e, wy, hR1, g1, g2⟩ := (ru9.keep (Same.keepT sa)).at_ hq1
          have gl : gs.length ≤ 360 := by
            rw [rg.len]
            refine Nat.le_trans (List.length_filter_le ..) ?_
            rw [List.length_take]
            omega
          refine ⟨rfl, ?_⟩
          refine ⟨_, rfl, q1, _, 1, _, rfl, rfl, SqT.of g1, atI_nat (j := 1) rfl, rfl, _, rfl, ?_⟩
          rw [take_filter hR1]
          refine ite2 (fun z => ?_) (fun z => ?_)
          · have z1 : nzE e = true := by
              unfold nzE
              rw [dec_int] at z
              simpa using z
            have st := same_set (o := HO.lst (gs.map V.ref ++ [V.ref q1])) hD2 sa
            have k8 := keepT_upd (o := .lst (gs.map V.ref ++ [V.ref q1])) hDa (fun xs z => by cases z)
            refine ⟨_, rfl, _, hDa, by rw [List.length_map, sizeLine_eq]; omega, gs ++ [q1], by rw [List.map_append]; exact upd_same, ?_, st⟩
            rw [if_pos z1]
            exact (rg.keep k8).app (.cons (k8 _ _ g1) (k8 _ _ g2) .nil)
          · have z1 : ¬ nzE e = true := fun q => z (by
              unfold nzE at q
              rw [dec_int]
              simpa using q)
            refine ⟨gs, hDa, ?_, sa⟩
            rw [if_neg z1, List.append_nil]
            exact rg
        rintro Ha ⟨ps, hDa, rp, sa⟩
        rw [show (lgs fr (cw fr k)).take (us.map V.ref).length = lgs fr (cw fr k) by rw [List.length_map, ul, List.take_length]] at rp
        refine ⟨_, rfl, D2, _, rfl, SqL.of hDa, fun W2 hW2 => ?_⟩
        rw [show cutV (ps.map V.ref) none (some 40) = (ps.take 40).map V.ref by rw [List.map_take]; exact cut_to (i := 40)]
        have ub := same_upd (o := HO.lst ((ps.take 40).map V.ref)) hW2
        have s9b := sa.trans ub
        exact ⟨F2, W2, fs ++ gs, ps.take 40, _, _, _, _, rfl, s5.trans (s59.trans s9b), by rw [List.map_append]; exact s9b _ _ e9, wf9.same s9b, upd_same, (rp.take 40).keep (Same.keepT ub)⟩
    · rintro σ H5 ⟨F, W, fs, qs, v3, v4, v5, v6, rfl, s5, hF, wf, hW, rq⟩
      exact ⟨_, rfl, q _ _ _ s5 hF wf⟩
end
end K04

set_option Elab.async false
set_option linter.all false
set_option maxRecDepth 100000
set_option maxHeartbeats 4000000
/-! Slices and sums of tracked tuples. -/
namespace L2
open PySem PySem.Spec PyProof.Rows
/-- t[lo:hi]: somewhere, all else stays -/
def rSlW (K : PySem.W.Frag) : V → Option Int → Option Int → Hp → VK → Prop := fun x lo hi H Q => ∃ a xs, x = .ref a ∧ H a = some (.tup xs) ∧ ∀ p H', (∀ b o, H b = some o → H' b = some o) → H' p = some (.tup (cutV xs lo hi)) → Q (.ref p) H'
theorem sl_tupS {X : Cx} : SlR X (rSlW X.K) := by
  intro pins s σ H x v vl vu lo hi sl Q I rx hs pl pu h
  obtain ⟨a, xs, rfl, ha, q⟩ := h
  refine sl_tupA pins s σ H _ v vl vu lo hi sl Q I rx hs pl pu ⟨a, xs, rfl, SqT.of ha, fun z => ?_, fun _ p hp => q p _ (K04.same_upd hp) upd_same⟩
  refine q a H (fun _ _ e => e) ?_
  rw [ha]
  unfold cutV
  rw [z.1, z.2]
  simp
def rCatZ : R2 := fun x y H Q => ∃ a b xs ys, x = .ref a ∧ y = .ref b ∧ H a = some (.tup xs) ∧ H b = some (.tup ys) ∧ xs.length + ys.length ≤ sizeLine ∧
  ∀ H' p, (∀ b o, H b = some o → H' b = some o) → H' p = some (.tup (xs ++ ys)) → Q (.ref p) H'
theorem op_catZ {X : Cx} : OpR X (binaryOp .Add) rCatZ := by
  intro pins s σ H x y v u Q I rx ry h
  obtain ⟨a, b, xs, ys, rfl, rfl, ha, hb, hz, q⟩ := h
  refine op_catA pins s σ H _ _ v u Q I rx ry ⟨a, b, xs, ys, rfl, rfl, SqT.of ha, SqT.of hb, hz, fun z => q H b (fun _ _ e => e) (by rw [z]; exact hb), fun _ z => q H a (fun _ _ e => e) (by rw [z, List.append_nil]; exact ha), fun _ _ p hp => q _ p (fun c o e => ?_) upd_same⟩
  rw [upd_ne (ne_of_none e hp)]
  exact e
end L2

set_option Elab.async false
set_option linter.all false
set_option maxRecDepth 100000
set_option maxHeartbeats 4000000
/-! repr of data, of any size. -/
namespace L2
namespace EV
open PySem PySem.Spec PyProof.Rows _root_.EV
/-- repr of data -/
def rShowV (K : PySem.W.Frag) : List V → Hp → VK → Prop := fun xs H Q => ∃ (v : V) (d : PyData), xs = [v] ∧ Dp K H v d ∧ d.showable = true ∧ d.hasDict = false ∧ d.shown.length ≤ sizeLine ∧ d.depth ≤ 5 ∧ Q (.str d.shown) H
theorem call_showV {X : Cx} (hgd : X.A.guards = some []) (hu : X.A.units + 64 < cLine) : CallR X (.builtin "repr") (rShowV X.K) := by
  intro pins s σ H xs us Q I r h
  obtain ⟨v, d, rfl, hd, sh, nd, sz, dp, q⟩ := h
  obtain ⟨u, rfl, ru⟩ := vals1 r
  obtain ⟨as, rd⟩ := Dp.reads I d v u hd ru
  have at_ : ∀ a : Addr, u = .ref a → wpAny (model X.prog X.w) X.A (call (.builtin "repr") [u]) (EP X pins σ Q) X.xe s := fun a e => by
    subst e
    exact repr_of_reads' rd sh (fun z => by rw [nd] at z; cases z) hgd (by omega) (fun _ _ e => e) (fun h' t tk hk => ⟨.str _, H, I.kept (t' := tk) hk, ⟨_, rfl⟩, q⟩) sz
  cases hd with
  | non =>
    obtain rfl : u = Value.none := ru
    simp only [PyData.shown] at q
    exact PySem.P.repr_of_none ⟨.str _, H, I.tok _, ⟨_, rfl⟩, q⟩
  | bl b =>
    obtain rfl : u = Value.bool b := ru
    simp only [PyData.shown] at q
    exact PySem.P.repr_of_bool ⟨.str _, H, I.tok _, ⟨_, rfl⟩, q⟩
  | int i =>
    obtain ⟨t, rfl⟩ := (show ∃ t, u = Value.int i t from ru)
    simp only [PyData.shown] at q
    simp only [PyData.showable, decide_eq_true_eq] at sh
    exact PySem.P.repr_of_int sh ⟨.str _, H, I.tok _, ⟨_, rfl⟩, q⟩
  | str x =>
    obtain ⟨t, rfl⟩ := (show ∃ t, u = Value.str x t from ru)
    simp only [PyData.shown] at q sz
    exact PySem.P.repr_of_str ⟨.str _, H, I.tok _, ⟨_, rfl⟩, q⟩ sz
  | @lst a xs ds h1 h2 => exact at_ a ru
  | @tup a xs ds h1 h2 => exact at_ a ru
end EV
end L2
namespace K04
open PySem L2 L2.EV
structure Okd (d : PyData) (n dp : Nat) : Prop where
  sh : d.showable = true
  nd : d.hasDict = false
  sz : d.shown.length ≤ n
  dp : d.depth ≤ dp
  lay : d.canLay0 = true
theorem Okd.le {d : PyData} {n m dp dq : Nat} (h : Okd d n dp) (a : n ≤ m) (b : dp ≤ dq) : Okd d m dq := ⟨h.sh, h.nd, Nat.le_trans h.sz a, Nat.le_trans h.dp b, h.lay⟩
theorem okd_int {i : Int} (h0 : 0 ≤ i) (h1 : i < 64) : Okd (.int i) 10 0 := by
  obtain ⟨k, rfl⟩ := Int.eq_ofNat_of_zero_le h0
  have hk : k < 64 := by omega
  have z : ∀ k : Fin 64, (PyData.int ((k.val : Nat) : Int)).showable = true ∧ (PyData.int ((k.val : Nat) : Int)).shown.length ≤ 10 := by decide +kernel
  obtain ⟨z1, z2⟩ := z ⟨k, hk⟩
  exact ⟨z1, by simp only [PyData.hasDict], z2, by simp only [PyData.depth]; omega, by simp only [PyData.canLay0]⟩
theorem okd_str {x : Str} {m : Nat} (hs : PyData.strOk x = true) (hl : x.length ≤ m) : Okd (.str x) (10 * m + 2) 0 := by
  refine ⟨by simp only [PyData.showable], by simp only [PyData.hasDict], ?_, by simp only [PyData.depth]; omega, by simp only [PyData.canLay0]; exact hs⟩
  simp only [PyData.shown]
  have z := PySem.StrLaws.reprText_len x (fun c hc => by
    unfold PyData.strOk at hs
    rw [← Array.all_toList, List.all_eq_true] at hs
    have := of_decide_eq_true (hs c hc)
    exact Nat.lt_trans this (by decide))
  omega
theorem okd_all {n dp : Nat} : ∀ {ds : List PyData}, (∀ d ∈ ds, Okd d n dp) → PyData.showableAll ds = true ∧ PyData.hasDictAll ds = false ∧ ((PyData.shownAll ds).map (·.length)).sum ≤ n * ds.length ∧ (PyData.shownAll ds).length = ds.length ∧ PyData.depthAll ds ≤ dp ∧ PyData.canLayAll0 ds = true
  | [], _ => ⟨by simp [PyData.showableAll], by simp [PyData.hasDictAll], by simp [PyData.shownAll], by simp [PyData.shownAll], by simp [PyData.depthAll], by simp [PyData.canLayAll0]⟩
  | d :: ds, h => by
    have h1 := h d (List.mem_cons_self ..)
    obtain ⟨a, b, c, e, f, g⟩ := okd_all (ds := ds) fun d hd => h d (List.mem_cons_of_mem _ hd)
    have h2 := h1.sz
    have h3 := h1.dp
    refine ⟨by simp only [PyData.showableAll, h1.sh, a, Bool.and_self], by simp only [PyData.hasDictAll, h1.nd, b, Bool.or_self], ?_, by simp only [PyData.shownAll, List.length_cons, e], by simp only [PyData.depthAll]; omega, by simp only [PyData.canLayAll0, h1.lay, g, Bool.and_self]⟩
    simp only [PyData.shownAll, List.map_cons, List.sum_cons, List.length_cons, Nat.mul_add, Nat.mul_one]
    omega
theorem okd_list {n dp m : Nat} {ds : List PyData} (h : ∀ d ∈ ds, Okd d n dp) (hl : ds.length ≤ m) : Okd (.list ds) (m * (n + 2) + 3) (dp + 1) := by
  obtain ⟨a, b, c, e, f, g⟩ := okd_all h
  refine ⟨by simp only [PyData.showable, a], by simp only [PyData.hasDict, b], ?_, by simp only [PyData.depth]; omega, by simp only [PyData.canLay0, g]⟩
  simp only [PyData.shown]
  have z := listText_len_le (PyData.shownAll ds)
  rw [e] at z
  have y : n * ds.length ≤ n * m := Nat.mul_le_mul_left _ hl
  rw [Nat.mul_add, Nat.mul_comm m n]
  omega
theorem okd_tuple {n dp m : Nat} {ds : List PyData} (h : ∀ d ∈ ds, Okd d n dp) (hl : ds.length ≤ m) : Okd (.tuple ds) (m * (n + 2) + 3) (dp + 1) := by
  obtain ⟨a, b, c, e, f, g⟩ := okd_all h
  refine ⟨by simp only [PyData.showable, a], by simp only [PyData.hasDict, b], ?_, by simp only [PyData.depth]; omega, by simp only [PyData.canLay0, g]⟩
  simp only [PyData.shown]
  have z := tupleText_len_le (PyData.shownAll ds)
  rw [e] at z
  have y : n * ds.length ≤ n * m := Nat.mul_le_mul_left _ hl
  rw [Nat.mul_add, Nat.mul_comm m n]
  omega
end K04

set_option Elab.async false
set_option linter.all false
set_option maxRecDepth 100000
set_option maxHeartbeats 4000000
/-! Drawn framings: the def. -/
namespace K04
open PySem L2 L2.EV
section
variable {P : Program} {w : World} {K : PySem.W.Frag} {mg : Str → Option Value} {base : Heap}
structure Lf (K : PySem.W.Frag) (mg : Str → Option Value) where
  L : Ls K mg
  f : Addr
  d : FuncData
  F : Fun K "_law_framing" "_law_framing" sFraming f d
  b : Binds K d ["m", "most"] []
  g : mg "_law_framing" = some (.ref f)
  so : mg "sorted" = none
  tu : mg "tuple" = none
  se : mg "set" = none
theorem scFraming : FnScope ["m", "most", "steps", "last", "here", "k", "to"] ["m", "most"] (defScope sFraming) := ⟨rfl, rfl, rfl, by decide +kernel, rfl, by decide +kernel, by decide +kernel⟩
theorem ok_framing (G : Lf K mg) : FnOk P w K mg base CX0 3 G.f G.d ["m", "most"] spFraming := by
  have GX : FnOk P w K mg base CX0 1 G.L.f1 G.L.d1 ["m", "many"] spNext := ok_next G.L.N G.L.T
  have GP : FnOk P w K mg base CX0 2 G.L.f2 G.L.d2 ["m", "is_end"] spPiece := ok_piece G.L
  refine G.F.ok scFraming (fun vs H Q E h => ?_) (fun cdv A outer s H vs Q E hr h => ?_)
  · obtain ⟨m, c, l, k, b, rfl, _⟩ := h
    rfl
  · obtain ⟨m, c, l, k, bm, rfl, hbm, M, hk, q⟩ := h
    have hr1 := hr.mono (j := 1) (by omega)
    have hu64 : (A.deeper (PyProof.Rows.envOfC "_law_framing" (defScope sFraming) s.heap.objs.size G.f cdv)).units + 64 < cLine := by have := hr.un; omega
    refine ⟨_, pss_cons (ps_par (i := 2) (j := 3) (x := "steps") (y := "last") rfl scFraming.nd rfl rfl (by decide) rfl rfl (pa_cons (pe_lst pa_nil) (pa_cons (pe_call GX hr1 (by rfl) G.L.mN G.L.N.kp G.L.bN .nil pass0 (pa_cons (pv 0) (pa_cons (pe_op op_add (pv 1) pe_int) pa_nil))) pa_nil)) (by rfl))
      (pss_cons (ps_for PassesOwn.never rfl (pi_range2 (by rfl) G.L.ra (pa_cons pe_int (pa_cons (pe_op op_add (pv 3) pe_int) pa_nil))) (pg_name (i := 4) scFraming.nd rfl (Or.inl rfl))
        (pss_one (ps_expr (pe_bm PySem.F.plainAttrs_list PySem.F.slot_list_append PySem.F.type_list_append mt_append (pv 2) (pa_cons (pe_tup (pa_cons (pe_call GX hr1 (by rfl) G.L.mN G.L.N.kp G.L.bN .nil pass0 (pa_cons (pv 0) (pa_cons (pv 4) pa_nil))) (pa_cons (pe_call GP hr (by rfl) G.L.mP G.L.P.kp G.L.bP .nil pass0 (pa_cons (pv 0) (pa_cons pe_bl pa_nil))) (pa_cons (pv 4) pa_nil)))) pa_nil)))))
      (pss_cons (ps_for PassesOwn.never rfl (pi_range1 (by rfl) G.L.ra (pa_cons (pe_op op_add (pv 3) pe_int) pa_nil)) (pg_name (i := 4) scFraming.nd rfl (Or.inl rfl))
        (pss_one (ps_if (pw_or (pt_cmpR op_eq (pv 4) (pv 3) (nomark _)) (pw_or1 (pt_cmpR op_eq (pe_call GX hr1 (by rfl) G.L.mN G.L.N.kp G.L.bN .nil pass0 (pa_cons (pv 0) (pa_cons pe_int pa_nil))) pe_int (nomark _)))).pt
          (pss_one (ps_expr (pe_bm PySem.F.plainAttrs_list PySem.F.slot_list_append PySem.F.type_list_append mt_append (pv 2) (pa_cons (pe_tup (pa_cons (pv 4) (pa_cons (pe_call GP hr (by rfl) G.L.mP G.L.P.kp G.L.bP .nil pass0 (pa_cons (pv 0) (pa_cons pe_bl pa_nil))) (pa_cons pe_int pa_nil)))) pa_nil))))
          (pss_one (ps_expr (pe_bm PySem.F.plainAttrs_list PySem.F.slot_list_append PySem.F.type_list_append mt_append (pv 2) (pa_cons (pe_tup (pa_cons (pv 4) (pa_cons (pe_call GP hr (by rfl) G.L.mP G.L.P.kp G.L.bP .nil pass0 (pa_cons (pv 0) (pa_cons pe_bl pa_nil))) (pa_cons (pe_op op_add (pe_op op_add (pv 4) pe_int) (pe_call GX hr1 (by rfl) G.L.mN G.L.N.kp G.L.bN .nil pass0 (pa_cons (pv 0) (pa_cons (pe_op op_sub (pv 3) (pv 4)) pa_nil)))) pa_nil)))) pa_nil)))))))
      (pss_cons (ps_for PassesOwn.never rfl (pi_range1 (by rfl) G.L.ra (pa_cons (pe_call GX hr1 (by rfl) G.L.mN G.L.N.kp G.L.bN .nil pass0 (pa_cons (pv 0) (pa_cons pe_int pa_nil))) pa_nil)) (pg_name (i := 5) scFraming.nd rfl (Or.inl rfl))
        (pss_cons (ps_set (i := 6) scFraming.nd rfl (Or.inl rfl) (pe_call GX hr1 (by rfl) G.L.mN G.L.N.kp G.L.bN .nil pass0 (pa_cons (pv 0) (pa_cons (pe_op op_add (pv 3) pe_int) pa_nil))))
        (pss_one (ps_expr (pe_bm PySem.F.plainAttrs_list PySem.F.slot_list_append PySem.F.type_list_append mt_append (pv 2) (pa_cons (pe_tup (pa_cons (pe_call GX hr1 (by rfl) G.L.mN G.L.N.kp G.L.bN .nil pass0 (pa_cons (pv 0) (pa_cons (pe_op op_add (pv 3) pe_int) pa_nil))) (pa_cons (pe_call GP hr (by rfl) G.L.mP G.L.P.kp G.L.bP .nil pass0 (pa_cons (pv 0) (pa_cons (pe_cmpR op_eq (pv 6) pe_int (nomark _)) pa_nil))) (pa_cons (pv 6) pa_nil)))) pa_nil))))))
      (pss_one (ps_ret (pe_callTy call_tuple_of (by rfl) G.tu (by decide +kernel) (pa_cons (pe_callB (SX.cr_sortM rfl) (by rfl) G.so (by decide +kernel) (pa_cons (pe_callTy (SX.cr_setM rfl hu64) (by rfl) G.se (by decide +kernel) (pa_cons (pv 2) pa_nil)) pa_nil)) pa_nil))))))), ?_⟩
    refine ⟨by decide, fun F hF => ?_⟩
    have u0 := same_upd (o := HO.lst []) hF
    have M0 := M.same u0
    refine ⟨_, rfl, _, rfl, bm, 1, rfl, rfl, m, c, l, k, _, rfl, M0, by omega, by omega, by omega, fun r0 H1 l1 k1 a1 b1 g1 N1 f1 q1 => ?_⟩
    have d1 : Dr _ H1 m c l l1 k1 := ⟨N1, f1, q1⟩
    obtain ⟨last, rfl⟩ := Int.eq_ofNat_of_zero_le a1
    have lbm : last ≤ bm := by omega
    have l5 : last ≤ 5 := by omega
    have nm : F ≠ m := (ne_of_none M.hm hF).symm
    have nc : F ≠ c := M.c_some hF
    obtain ⟨hF1, n1⟩ := d1.lst M0 upd_same (M.l_some hF)
    have D1 := ((Dr.refl M).same u0).trans d1
    have fs0 : FS H H1 m c l F k1 last [] := ⟨⟨[], l1, k1, hF1, ⟨rfl, fun i t x h => by cases h⟩, n1, nm, nc, Int.le_refl _, D1⟩, (fun x h => by cases h), fun b o z h1 h2 => ne_of_none z hF⟩
    have hn : ((last : Int) + 1 - 1).toNat = last := by omega
    have hn2 : ((last : Int) + 1).toNat = last + 1 := by omega
    refine ⟨_, _, rfl, _, rfl, last, 1, rfl, rfl, 1, _, rfl, ⟨by decide, by decide, by omega, by omega⟩, for_it walk_range (fun i σ H' => ∃ (v4 : Option V) (xs : List T3), σ = [some (.ref m), some (.int (bm : Int)), some (.ref F), some (.int (last : Int)), v4, none, none] ∧
      FS H H' m c l F (k1 + 22 * i) last xs ∧ (xs.filter lpB).length ≤ 0 ∧ xs.length = i ∧ ∀ j : Nat, 1 ≤ j → j ≤ i → ∃ x ∈ xs, x.2.2 = (j : Int) ∧ 0 ≤ x.1 ∧ x.1 < j)
      ⟨none, [], rfl, by simpa using fs0, Nat.le_refl _, rfl, fun j h1 h => absurd h (by omega)⟩ (fun _ _ _ _ _ => trivial) ?_ ?_⟩
    · rintro i x σ H2 H3 hi ⟨v4, xs, rfl, fs, lp, lx, up⟩ ⟨rfl, rfl⟩
      have hil : i < last := by omega
      obtain ⟨ts, l3, k3, hF3, ha3, n3, _, _, kk3, D3⟩ := fs.ex
      refine ⟨_, rfl, .inl ⟨rfl, _, SqL.of hF3⟩, _, rfl, _, rfl, m, c, l3, k3, _, rfl, D3.at_, by omega, by omega, by omega, fun rh H7 l7 k7 a7 b7 g7 N7 f7 q7 => ?_⟩
      have d7 : Dr _ H7 m c l3 l7 k7 := ⟨N7, f7, q7⟩
      refine ⟨_, rfl, m, c, l7, k7, false, rfl, N7, by omega, fun pp H4 l4 k4 hp kk4 d4 => ?_⟩
      refine ⟨_, rfl, (by show 3 ≤ sizeLine; decide), fun tp htp => ?_⟩
      have d74 := d7.trans d4
      obtain ⟨hF4, n4⟩ := d74.lst D3.at_ hF3 n3
      refine ⟨F, ts.map V.ref, _, rfl, rfl, same_upd htp _ _ hF4, by rw [List.length_map, ha3.1, sizeLine_eq]; omega, ?_⟩
      have okx : Stp ((rh, pp, 1 + (i : Int)) : T3) ∧ (rh : Int) ≤ last ∧ (1 + (i : Int) : Int) ≤ last := ⟨⟨a7, by show rh < 6; omega, by rw [show decide ((1 + (i : Int) : Int) = 0) = false from decide_eq_false (by omega)]; exact hp, by show (0 : Int) ≤ 1 + i; omega, by show (1 + (i : Int)) < 6; omega⟩, by omega, by omega⟩
      have fs' := FS.push (x := (rh, pp, 1 + (i : Int))) hF3 ha3 n3 nm nc D3 d74 htp rfl (kb := k1 + 22 * ((i + 1 : Nat) : Int)) (by omega) fs.ok okx fs.hF
      refine ⟨_, _, rfl, fs', lp_add0 lp (by show rh = 1 + (i : Int) → rh = 0; omega), by rw [List.length_append, lx]; rfl, fun j h1 h2 => ?_⟩
      by_cases e : j = i + 1
      · subst e
        exact ⟨_, List.mem_append_right _ (List.mem_singleton.mpr rfl), by show 1 + (i : Int) = ((i + 1 : Nat) : Int); omega, a7, by show rh < ((i + 1 : Nat) : Int); omega⟩
      · obtain ⟨x, hx, e2⟩ := up j h1 (by omega)
        exact ⟨x, List.mem_append_left _ hx, e2⟩
    · rintro σ H2 ⟨v4, xs, rfl, fs, lp, lx, up⟩
      rw [hn] at fs lx up
      refine ⟨_, rfl, last, 1, rfl, rfl, _, rfl, by omega, by omega, for_it walk_range (fun i σ H' => ∃ (v4 : Option V) (xs : List T3), σ = [some (.ref m), some (.int (bm : Int)), some (.ref F), some (.int (last : Int)), v4, none, none] ∧
        FS H H' m c l F (k1 + 110 + 23 * i) last xs ∧ (xs.filter lpB).length ≤ 0 ∧ xs.length = last + i ∧ (∀ j : Nat, 1 ≤ j → j ≤ last → ∃ x ∈ xs, x.2.2 = (j : Int) ∧ 0 ≤ x.1 ∧ x.1 < j) ∧ ∀ j : Nat, j < i → ∃ x ∈ xs, x.1 = (j : Int) ∧ (x.2.2 = 0 ∨ ((j : Int) < x.2.2 ∧ x.2.2 ≤ last)))
        ⟨v4, xs, rfl, ⟨?_, fs.ok, fs.hF⟩, lp, lx, up, fun j h => absurd h (by omega)⟩ (fun _ _ _ _ _ => trivial) ?_ ?_⟩
      · obtain ⟨ts, l3, k3, hF3, ha3, n3, w1, w2, kk3, D3⟩ := fs.ex
        exact ⟨ts, l3, k3, hF3, ha3, n3, w1, w2, by omega, D3⟩
      · rintro i x σ H2 H3 hi ⟨v4, xs, rfl, fs, lp, lx, up, dn⟩ ⟨rfl, rfl⟩
        have hil : i ≤ last := by omega
        have e0 : (0 + (i : Int)) = (i : Int) := Int.zero_add _
        show gName 4 (V.int (0 + (i : Int))) _ _ _
        rw [e0]
        obtain ⟨ts, l3, k3, hF3, ha3, n3, _, _, kk3, D3⟩ := fs.ex
        have fin : ∀ (t : Int) (pp : Str), (t = 0 ∨ ((i : Int) < t ∧ t ≤ last)) → (xs ++ [((i : Int), pp, t)]).length = last + (i + 1) ∧ (∀ j : Nat, 1 ≤ j → j ≤ last → ∃ x ∈ xs ++ [((i : Int), pp, t)], x.2.2 = (j : Int) ∧ 0 ≤ x.1 ∧ x.1 < j) ∧ ∀ j : Nat, j < i + 1 → ∃ x ∈ xs ++ [((i : Int), pp, t)], x.1 = (j : Int) ∧ (x.2.2 = 0 ∨ ((j : Int) < x.2.2 ∧ x.2.2 ≤ last)) := fun t pp et => by
          refine ⟨by rw [List.length_append, lx]; rfl, fun j h1 h2 => ?_, fun j hj => ?_⟩
          · obtain ⟨x, hx, e2⟩ := up j h1 h2
            exact ⟨x, List.mem_append_left _ hx, e2⟩
          · by_cases e : j = i
            · subst e
              exact ⟨_, List.mem_append_right _ (List.mem_singleton.mpr rfl), rfl, et⟩
            · obtain ⟨x, hx, e2⟩ := dn j (by omega)
              exact ⟨x, List.mem_append_left _ hx, e2⟩
        refine ⟨_, rfl, _, rfl, rfl, _, rfl, ?_⟩
        refine ite2 (fun z => ?_) (fun z => ?_)
        · skip
          refine ⟨_, rfl, .inl ⟨rfl, _, SqL.of hF3⟩, _, rfl, _, rfl, m, c, l3, k3, true, rfl, D3.at_, by omega, fun pp H4 l4 k4 hp kk4 d4 => ?_⟩
          refine ⟨(by show 3 ≤ sizeLine; decide), fun tp htp => ?_⟩
          obtain ⟨hF4, n4⟩ := d4.lst D3.at_ hF3 n3
          refine ⟨F, ts.map V.ref, _, rfl, rfl, same_upd htp _ _ hF4, by rw [List.length_map, ha3.1, sizeLine_eq]; omega, ?_⟩
          have okx : Stp (((i : Int), pp, 0) : T3) ∧ ((i : Int) : Int) ≤ last ∧ (0 : Int) ≤ last := ⟨⟨by show (0 : Int) ≤ i; omega, by show (i : Int) < 6; omega, hp, Int.le_refl _, by show (0 : Int) < 6; decide⟩, by omega, by omega⟩
          have fs' := FS.push (x := ((i : Int), pp, 0)) hF3 ha3 n3 nm nc D3 d4 htp rfl (kb := k1 + 110 + 23 * ((i + 1 : Nat) : Int)) (by omega) fs.ok okx fs.hF
          obtain ⟨w1, w2, w3⟩ := fin 0 pp (.inl rfl)
          have lq : ((xs ++ [((i : Int), pp, (0 : Int))]).filter lpB).length ≤ 0 := lp_add0 lp (fun z => z)
          exact ⟨_, _, rfl, fs', lq, w1, w2, w3⟩
        · have z1 : ¬ (i : Int) = last := fun y => z (decide_eq_true (congrArg V.int y))
          refine ⟨_, rfl, m, c, l3, k3, 2, rfl, D3.at_, by decide, by decide, by omega, fun rz H7 l7 k7 a7 b7 g7 N7 f7 q7 => ?_⟩
          have d7 : Dr _ H7 m c l3 l7 k7 := ⟨N7, f7, q7⟩
          obtain ⟨hF7, n7⟩ := d7.lst D3.at_ hF3 n3
          have D7 := D3.trans d7
          have ha7 := ha3.same (d7.keepT D3.at_)
          refine ⟨rfl, _, rfl, ?_⟩
          refine ite2 (fun z => ?_) (fun z => ?_)
          · skip
            refine ⟨_, rfl, .inl ⟨rfl, _, SqL.of hF7⟩, _, rfl, _, rfl, m, c, l7, k7, true, rfl, D7.at_, by omega, fun pp H4 l4 k4 hp kk4 d4 => ?_⟩
            refine ⟨(by show 3 ≤ sizeLine; decide), fun tp htp => ?_⟩
            obtain ⟨hF4, n4⟩ := d4.lst D7.at_ hF7 n7
            refine ⟨F, ts.map V.ref, _, rfl, rfl, same_upd htp _ _ hF4, by rw [List.length_map, ha3.1, sizeLine_eq]; omega, ?_⟩
            have okx : Stp (((i : Int), pp, 0) : T3) ∧ ((i : Int) : Int) ≤ last ∧ (0 : Int) ≤ last := ⟨⟨by show (0 : Int) ≤ i; omega, by show (i : Int) < 6; omega, hp, Int.le_refl _, by show (0 : Int) < 6; decide⟩, by omega, by omega⟩
            have fs' := FS.push (x := ((i : Int), pp, 0)) hF7 ha7 n7 nm nc D7 d4 htp rfl (kb := k1 + 110 + 23 * ((i + 1 : Nat) : Int)) (by omega) fs.ok okx fs.hF
            obtain ⟨w1, w2, w3⟩ := fin 0 pp (.inl rfl)
            have lq : ((xs ++ [((i : Int), pp, (0 : Int))]).filter lpB).length ≤ 0 := lp_add0 lp (fun z => z)
            exact ⟨_, _, rfl, fs', lq, w1, w2, w3⟩
          · refine ⟨_, rfl, .inl ⟨rfl, _, SqL.of hF7⟩, _, rfl, _, rfl, m, c, l7, k7, false, rfl, D7.at_, by omega, fun pp H4 l4 k4 hp kk4 d4 => ?_⟩
            have D4 := D7.trans d4
            refine ⟨_, rfl, _, 1, rfl, rfl, _, rfl, _, rfl, _, rfl, _, _, rfl, rfl, m, c, l4, k4, _, rfl, D4.at_, by omega, by omega, by omega, fun rg H8 l8 k8 a8 b8 g8 N8 f8 q8 => ?_⟩
            have d8 : Dr _ H8 m c l4 l8 k8 := ⟨N8, f8, q8⟩
            have d48 := d4.trans d8
            refine ⟨_, rg, rfl, rfl, (by show 3 ≤ sizeLine; decide), fun tp htp => ?_⟩
            obtain ⟨hF4, n4⟩ := d48.lst D7.at_ hF7 n7
            refine ⟨F, ts.map V.ref, _, rfl, rfl, same_upd htp _ _ hF4, by rw [List.length_map, ha3.1, sizeLine_eq]; omega, ?_⟩
            have okx : Stp (((i : Int), pp, (i : Int) + 1 + rg) : T3) ∧ ((i : Int) : Int) ≤ last ∧ ((i : Int) + 1 + rg) ≤ last := ⟨⟨by show (0 : Int) ≤ i; omega, by show (i : Int) < 6; omega, by rw [show decide (((i : Int) + 1 + rg) = 0) = false from decide_eq_false (by omega)]; exact hp, by show 0 ≤ (i : Int) + 1 + rg; omega, by show (i : Int) + 1 + rg < 6; omega⟩, by omega, by omega⟩
            have fs' := FS.push (x := ((i : Int), pp, (i : Int) + 1 + rg)) hF7 ha7 n7 nm nc D7 d48 htp rfl (kb := k1 + 110 + 23 * ((i + 1 : Nat) : Int)) (by omega) fs.ok okx fs.hF
            have lq : ((xs ++ [((i : Int), pp, (i : Int) + 1 + rg)]).filter lpB).length ≤ 0 := lp_add0 lp (by show (i : Int) = (i : Int) + 1 + rg → (i : Int) = 0; omega)
            obtain ⟨w1, w2, w3⟩ := fin ((i : Int) + 1 + rg) pp (.inr ⟨by omega, by omega⟩)
            exact ⟨_, _, rfl, fs', lq, w1, w2, w3⟩
      · rintro σ H2 ⟨v4, xs, rfl, fs, lp, lx, up, dn⟩
        rw [hn2] at fs lx dn
        obtain ⟨ts, l3, k3, hF3, ha3, n3, _, _, kk3, D3⟩ := fs.ex
        refine ⟨_, rfl, m, c, l3, k3, 3, rfl, D3.at_, by decide, by decide, by omega, fun r2 H3 l4 k4 a4 b4 g4 N4 f4 q4 => ?_⟩
        have d4 : Dr H2 H3 m c l3 l4 k4 := ⟨N4, f4, q4⟩
        obtain ⟨hF4, n4⟩ := d4.lst D3.at_ hF3 n3
        have fs4 : FS H H3 m c l F (k1 + 250) last xs := ⟨⟨ts, l4, k4, hF4, ha3.same (d4.keepT D3.at_), n4, nm, nc, by omega, D3.trans d4⟩, fs.ok, fs.hF⟩
        refine ⟨r2, rfl, by omega, by omega, for_it walk_range (fun i σ H' => ∃ (v4 v5 v6 : Option V) (xs : List T3), σ = [some (.ref m), some (.int (bm : Int)), some (.ref F), some (.int (last : Int)), v4, v5, v6] ∧
          FS H H' m c l F (k1 + 250 + 24 * i) last xs ∧ (xs.filter lpB).length ≤ i ∧ xs.length = last + (last + 1) + i ∧ (∀ j : Nat, 1 ≤ j → j ≤ last → ∃ x ∈ xs, x.2.2 = (j : Int) ∧ 0 ≤ x.1 ∧ x.1 < j) ∧ ∀ j : Nat, j < last + 1 → ∃ x ∈ xs, x.1 = (j : Int) ∧ (x.2.2 = 0 ∨ ((j : Int) < x.2.2 ∧ x.2.2 ≤ last)))
          ⟨v4, none, none, xs, rfl, by simpa using fs4, lp, lx, up, dn⟩ (fun _ _ _ _ _ => trivial) ?_ ?_⟩
        · rintro i x σ H5 H6 hi ⟨v4, v5, v6, xs, rfl, fs, lp, lx, up, dn⟩ ⟨rfl, rfl⟩
          have hi6 : i < 2 := by omega
          obtain ⟨ts, l5', k5, hF5, ha5, n5, _, _, kk5, D5⟩ := fs.ex
          refine ⟨_, rfl, _, rfl, last, 1, rfl, rfl, m, c, l5', k5, _, rfl, D5.at_, by omega, by omega, by omega, fun rt H8 l8 k8 a8 b8 g8 N8 f8 q8 => ?_⟩
          have d8 : Dr _ H8 m c l5' l8 k8 := ⟨N8, f8, q8⟩
          have D8 := D5.trans d8
          obtain ⟨hF8, n8⟩ := d8.lst D5.at_ hF5 n5
          have ha8 := ha5.same (d8.keepT D5.at_)
          refine ⟨_, rfl, .inl ⟨rfl, _, SqL.of hF8⟩, _, rfl, _, rfl, last, 1, rfl, rfl, m, c, l8, k8, _, rfl, D8.at_, by omega, by omega, by omega, fun rh H7 l7 k7 a7 b7 g7 N7 f7 q7 => ?_⟩
          have d7 : Dr _ H7 m c l8 l7 k7 := ⟨N7, f7, q7⟩
          refine ⟨_, rfl, _, rfl, rfl, m, c, l7, k7, decide (V.int (rt) = V.int 0), rfl, N7, by omega, fun pp H4 l4 k4 hp kk4 d4 => ?_⟩
          rw [bl_eq] at hp
          refine ⟨_, rfl, (by show 3 ≤ sizeLine; decide), fun tp htp => ?_⟩
          have d74 := d7.trans d4
          obtain ⟨hF4, n4⟩ := d74.lst D8.at_ hF8 n8
          refine ⟨F, ts.map V.ref, _, rfl, rfl, same_upd htp _ _ hF4, by rw [List.length_map, ha5.1, sizeLine_eq]; omega, ?_⟩
          have okx : Stp ((rh, pp, rt) : T3) ∧ (rh : Int) ≤ last ∧ (rt : Int) ≤ last := ⟨⟨a7, by show rh < 6; omega, hp, a8, by show rt < 6; omega⟩, by omega, by omega⟩
          have fs' := FS.push (x := (rh, pp, rt)) hF8 ha8 n8 nm nc D8 d74 htp rfl (kb := k1 + 250 + 24 * ((i + 1 : Nat) : Int)) (by omega) fs.ok okx fs.hF
          exact ⟨_, _, _, _, rfl, fs', lp_add1 lp, by rw [List.length_append, lx]; rfl, fun j h1 h2 => by
            obtain ⟨x, hx, e2⟩ := up j h1 h2
            exact ⟨x, List.mem_append_left _ hx, e2⟩, fun j hj => by
            obtain ⟨x, hx, e2⟩ := dn j hj
            exact ⟨x, List.mem_append_left _ hx, e2⟩⟩
        · rintro σ H5 ⟨v4, v5, v6, xs, rfl, fs, lp, lx, up, dn⟩
          obtain ⟨ts, l6, k6, hF6, ha6, n6, _, _, kk6, D6⟩ := fs.ex
          have hr2 : r2.toNat ≤ 2 := by omega
          have l16 : xs.length ≤ 16 := by omega
          have ezl : (ts.zip xs).map (fun e => V.ref e.1) = ts.map V.ref := by
            rw [show (fun e : Addr × T3 => V.ref e.1) = V.ref ∘ Prod.fst from rfl, ← List.map_map, List.map_fst_zip (Nat.le_of_eq ha6.1)]
          have tr6 : ∀ e ∈ ts.zip xs, SX.Tr H5 e := fun e he => by
            obtain ⟨j, hj, ej⟩ := List.getElem_of_mem he
            have z2 : (ts.zip xs)[j]? = some e := by rw [List.getElem?_eq_getElem hj, ej]
            rw [List.getElem?_zip_eq_some] at z2
            exact ha6.2 j _ _ z2.1 z2.2
          have lz : (ts.zip xs).length ≤ 16 := by rw [List.length_zip]; omega
          refine ⟨_, rfl, F, ts.zip xs, rfl, by rw [ezl]; exact SqL.of hF6, tr6, by omega, fun a L ha0 sub cov nd => ?_⟩
          have ua := same_upd (o := SX.SetM P w a L) ha0
          refine ⟨a, L, rfl, upd_same, fun e he => ua _ _ (tr6 e (sub e he)), fun Mt p pm sr hp => ?_⟩
          have up2 := same_upd (o := HO.lst (Mt.map fun e => V.ref e.1)) hp
          refine ⟨p, _, rfl, .inl ⟨SqL.of upd_same, fun p6 hp6 => ?_⟩⟩
          have u6 := same_upd (o := HO.tup (Mt.map fun e => V.ref e.1)) hp6
          have sm := (ua.trans up2).trans u6
          obtain ⟨fa, fm, lm, ll⟩ := frm_of (p := p6) ha6 sub cov nd pm sr l16 l5 fs.ok up (fun k hk => dn k (by omega)) sm upd_same
          exact q p6 _ last _ l6 k6 fa fm lbm (by omega) (by omega) (D6.same sm) (by omega)
end
end K04

set_option Elab.async false
set_option linter.all false
set_option maxRecDepth 100000
set_option maxHeartbeats 4000000
/-! line_text of a line; things that may be asked. -/
namespace K04
open PySem L2 L2.EV
def spLT0 : Sp := fun vs H Q E => ∃ (f : Addr) (v : V) (fr : List T3) (last : Nat) (d : PyData) (ns : List Int), vs = [.ref f, v] ∧ FrA H f fr ∧ Frm fr last ∧ Da H v d ∧ (items d).length ≤ 1000 ∧
  lineD fr d = some ns ∧ ∀ H', Same H H' → Q (.str (txtL fr ns)) H'
section
variable {P : Program} {w : World} {K : PySem.W.Frag} {mg : Str → Option Value} {base : Heap}
theorem ok_lt0 (Z : Lt K mg) : FnOk P w K mg base CX0 5 Z.f1 Z.d1 ["framing", "line"] spLT0 := by
  have GI : FnOk P w K mg base CX0 4 Z.W.fL Z.W.dL ["framing", "thing"] spLineL := ok_line Z.W
  refine Z.F1.ok scLT (fun vs H Q E h => ?_) (fun cdv A outer s H vs Q E hr h => ?_)
  · obtain ⟨f, v, fr, last, d, ns, rfl, _⟩ := h
    rfl
  · obtain ⟨f, v, fr, last, d, ns, rfl, fa, fm, da, il, e, qs⟩ := h
    skip
    refine ⟨_, pss_cons (ps_if (pt_not (pt_val (pe_call GI hr (by rfl) Z.W.mL Z.W.L.kp Z.W.bL .nil pass0 (pa_cons (pv 0) (pa_cons (pv 1) pa_nil)))))
        pss_never pss_nil)
      (pss_one (ps_ret (pe_m1 PySem.F.slot_str_join PySem.F.type_str_join mt_join pe_str (pe_lc (own := [("number", 2)]) (g := gName 2) (te := tOp (rIxT K) (tOp (rIxT K) (tVar 0) (tVar 2)) (tC (.int 1))) rfl scLT.nd (pi_tup (pv 1))
        (blkOk_by (N := ["framing", "line", "number"]) (sc := defScope sLT) (by decide +kernel))
        (fun _ _ _ _ _ => pg_name (i := 2) scLT.nd rfl (Or.inl rfl)) (fun _ _ _ _ _ => pts_nil)
        (fun _ _ _ _ _ => pe_ix ix_tup (pe_ix ix_tup (pv 0) (pv 2) (fun _ _ => rfl)) pe_int (fun _ _ => rfl)))))), ?_⟩
    refine ⟨_, rfl, _, rfl, f, v, fr, last, d, rfl, fa, fm, da, by omega, fun H1 s1 => ⟨_, rfl, ?_⟩⟩
    rw [e]
    refine iteF ?_
    obtain ⟨rfl, hn⟩ := lineD_some e
    cases da with
    | @tup a xs ds ea all =>
      obtain rfl := da_ints all
      have il : ns.length ≤ 1000 := by
        have il : (ns.map PyData.int).length ≤ 1000 := il
        rw [List.length_map] at il
        exact il
      refine ⟨⟨_, rfl⟩, _, rfl, a, rfl, ⟨_, SqT.of (s1 _ _ ea)⟩, fun D hD => ?_⟩
      refine lc_it (walk_tup (xs := ns.map V.int)) (fun i H' => H' D = some (.lst ((pcs fr (ns.take i)).map V.str)) ∧ Same H1 H') ⟨upd_same, same_upd hD⟩ (fun i H' _ z => SqT.of (z.2 _ _ (s1 _ _ ea))) ?_ ?_
      · rintro i x H2 H3 hi ⟨hl2, kp⟩ ⟨rfl, hx⟩
        obtain ⟨n, en, rfl⟩ : ∃ n, ns[i]? = some n ∧ x = .int n := by
          rw [List.getElem?_map] at hx
          cases q : ns[i]? with
          | none =>
            rw [q] at hx
            cases hx
          | some n =>
            rw [q] at hx
            exact ⟨n, rfl, (Option.some.inj hx).symm⟩
        obtain ⟨n0, n1⟩ := hn n (List.mem_of_getElem? en)
        obtain ⟨us, t2, hf2, ha, h3, _⟩ := stt_at (fa.same (s1.trans kp)) n0 n1
        refine ⟨rfl, ⟨_, rfl, _, rfl, f, _, n, .ref t2, rfl, rfl, SqT.of hf2, ha, t2, _, 1, .str (stt fr n).2.1, rfl, rfl, SqT.of h3, rfl, _, hl2, ?_, ?_, same_set hD kp⟩⟩
        · unfold pcs
          rw [List.length_map, List.length_map, List.length_take, sizeLine_eq]
          omega
        · rw [take_one en]
          unfold pcs
          rw [List.map_append, List.map_append]
          exact upd_same
      · rintro H2 ⟨hl2, kp⟩
        rw [List.length_map, List.take_length] at hl2
        refine ⟨"", D, _, rfl, rfl, .inl (SqL.of hl2), ?_, qs _ (s1.trans kp)⟩
        have z0 : ("" : Str).length = 0 := by decide +kernel
        have sm := pcs_sum fm.stp hn
        show ((pcs fr ns).map fun x => x.length).sum + _ * _ ≤ 16777216
        rw [z0, Nat.mul_zero]
        omega
end
/-- what may be asked -/
def okT (d : PyData) : Prop := (items d).length ≤ 100 ∧ SeqAt.shaped d = true
def SI (H : Hp) (v : V) : Prop := ∃ d, Da H v d ∧ okT d
theorem SI.same {H H' : Hp} {v : V} (h : SI H v) (s : Same H H') : SI H' v := by
  obtain ⟨d, a, b⟩ := h
  exact ⟨d, Da.same s _ _ a, b⟩
theorem shaped_tup (ns : List Int) : SeqAt.shaped (.tuple (ns.map PyData.int)) = true := by
  show (PyData.canLay0 (.tuple (ns.map PyData.int)) && decide (PyData.depth (.tuple (ns.map PyData.int)) ≤ 64)) = true
  rw [Bool.and_eq_true]
  refine ⟨by simp only [PyData.canLay0]; exact canLay_ints ns, decide_eq_true ?_⟩
  simp only [PyData.depth, depth_ints]
  omega
theorem si_tup {H : Hp} {a : Addr} {ns : List Int} (h : H a = some (.tup (ns.map V.int))) (l : ns.length ≤ 100) : SI H (.ref a) :=
  ⟨.tuple (ns.map PyData.int), .tup h ints_da, by show (ns.map PyData.int).length ≤ 100; rw [List.length_map]; exact l, shaped_tup ns⟩
theorem si_list {H : Hp} {a : Addr} {ns : List Int} (h : H a = some (.lst (ns.map V.int))) : SI H (.ref a) :=
  ⟨.list (ns.map PyData.int), .lst h ints_da, by show 0 ≤ 100; decide, shaped_ints ns⟩
theorem cf_pos {fr : List T3} : ∀ k, ∀ w ∈ cf fr k, w ≠ []
  | 0, w, h => by cases h
  | k + 1, w, h => by
    rcases List.mem_append.mp h with h | h
    · exact cf_pos k w h
    · obtain ⟨e, he, rfl⟩ := List.mem_map.mp h
      obtain ⟨x, _, hx⟩ := List.mem_flatMap.mp (List.mem_filter.mp he).1
      obtain ⟨n, _, _, rfl⟩ := mem_lg.mp hx
      simp
theorem Wys.si {H : Hp} : ∀ {qs : List Addr} {R : List (List Int)}, Wys H qs R → (∀ w ∈ R, w.length ≤ 100) → ∀ q ∈ qs, SI H (.ref q)
  | _, _, .nil, _ => fun q h => by cases h
  | _, _, .cons a t, l => fun q h => by
    rcases List.mem_cons.mp h with rfl | h
    · exact si_tup a (l _ (by simp))
    · exact t.si (fun w hw => l w (by simp [hw])) q h
end K04

set_option Elab.async false
set_option linter.all false
set_option maxRecDepth 100000
set_option maxHeartbeats 4000000
/-! The law. -/
namespace K04
open PySem L2 L2.EV
abbrev sLaw : Stmt := top 28
abbrev NL : List Str := ["script", "m", "turn", "framing", "some", "line", "things", "drawn", "thing", "due", "text", "k", "number"]
def Shw (d : PyData) : Prop := d.showable = true ∧ d.hasDict = false ∧ d.shown.length ≤ sizeLine ∧ d.depth ≤ 5
def shB (d : PyData) : Bool := d.showable && !d.hasDict && decide (d.shown.length ≤ 1000) && decide (d.depth ≤ 5)
theorem shB_shw {d : PyData} (h : shB d = true) : Shw d := by
  unfold shB at h
  rw [Bool.and_eq_true, Bool.and_eq_true, Bool.and_eq_true] at h
  obtain ⟨⟨⟨a, b⟩, c⟩, d⟩ := h
  refine ⟨a, by simpa using b, ?_, of_decide_eq_true d⟩
  have := of_decide_eq_true c
  rw [sizeLine_eq]
  omega
theorem sh_bool (b : Bool) : Shw (.bool b) := by
  cases b
  · exact shB_shw (by decide +kernel)
  · exact shB_shw (by decide +kernel)
theorem pc_str {p : Str} {b : Bool} (h : Pc p b) : ∀ c ∈ sl p, c < 0x110000 := by
  obtain ⟨q, e, _, hb, _⟩ := h
  rw [e]
  intro c hc
  have low : ∀ c ∈ sgs, c < 0x110000 := by decide +kernel
  rcases List.mem_append.mp hc with hc | hc
  · exact low c (hb c hc)
  · cases b with
    | false => cases hc
    | true =>
      have z : c = 59 := by simpa using hc
      omega
theorem txt_shw {fr : List T3} {ns : List Int} (st : ∀ x ∈ fr, Stp x) (hn : ∀ n ∈ ns, 0 ≤ n ∧ n < fr.length) (l : ns.length ≤ 100) : Shw (.str (txtL fr ns)) := by
  have e : sl (txtL fr ns) = ((pcs fr ns).map sl).flatten := txt_join _
  have ok : PyData.strOk (txtL fr ns) = true := by
    unfold PyData.strOk
    rw [← Array.all_toList, show (txtL fr ns).cps.toList = sl (txtL fr ns) from rfl, e, List.all_eq_true]
    intro c hc
    obtain ⟨x, hx, hc⟩ := List.mem_flatten.mp hc
    obtain ⟨p, hp, rfl⟩ := List.mem_map.mp hx
    obtain ⟨n, hm, rfl⟩ := List.mem_map.mp hp
    obtain ⟨a, b⟩ := hn n hm
    exact decide_eq_true (pc_str (st _ (stt_mem a b)).2.2.1 c hc)
  have ln : (txtL fr ns).length ≤ 800 := by
    have z := pcs_sum st hn
    rw [len_sl, e, List.length_flatten, List.map_map]
    rw [show ((List.length ∘ sl) : Str → Nat) = fun x => x.length from funext fun x => (len_sl x).symm]
    omega
  have o := okd_str ok ln
  refine ⟨o.sh, o.nd, ?_, Nat.le_trans o.dp (by decide)⟩
  have := o.sz
  rw [sizeLine_eq]
  omega
/-! ### what stays over draws -/
def rt (H : Hp) (m l : Addr) : Hp := fun b => if b = m ∨ b = l then none else H b
theorem rt_mk {H : Hp} {m l b : Addr} {o : HO} (e : H b = some o) (h1 : b ≠ m) (h2 : b ≠ l) : rt H m l b = some o := by
  unfold rt
  rw [if_neg (by intro z; rcases z with z | z; exact h1 z; exact h2 z)]
  exact e
theorem rt_some {H : Hp} {m l b : Addr} {o : HO} (e : rt H m l b = some o) : H b = some o ∧ b ≠ m ∧ b ≠ l := by
  unfold rt at e
  by_cases h : b = m ∨ b = l
  · rw [if_pos h] at e
    cases e
  · rw [if_neg h] at e
    exact ⟨e, fun z => h (.inl z), fun z => h (.inr z)⟩
theorem rt_sub {H : Hp} {m l : Addr} : Same (rt H m l) H := fun b o e => (rt_some e).1
theorem rt_same {H H' : Hp} {m l : Addr} (s : Same H H') : Same (rt H m l) (rt H' m l) := fun b o e => by
  obtain ⟨h, h1, h2⟩ := rt_some e
  exact rt_mk (s _ _ h) h1 h2
theorem rt_dr {H H' : Hp} {m c l l' : Addr} {k : Int} (d : Dr H H' m c l l' k) : Same (rt H m l) (rt H' m l') := fun b o e => by
  obtain ⟨h, h1, h2⟩ := rt_some e
  refine rt_mk (d.kp _ _ h h1 h2) h1 ?_
  rcases d.hl with z | z
  · rw [z]
    exact h2
  · exact ne_of_none h z
theorem MAt.rtt {H' : Hp} {m c l p : Addr} {k : Int} {xs : List V} (M : MAt H' m c l k) (hp : H' p = some (.tup xs)) : rt H' m l p = some (.tup xs) := by
  obtain ⟨ls, hl, _⟩ := M.hl
  exact rt_mk hp (ne_of hp M.hm (fun z => by cases z)) (ne_of hp hl (fun z => by cases z))

section
variable {m c l t0 : Addr} {k : Int}
theorem MAt.newT {H : Hp} {p : Addr} {xs : List V} (M : MAt H m c l k) (hp : H p = none) : rt (L2.upd H p (.tup xs)) m l p = some (.tup xs) := (M.same (same_upd hp)).rtt upd_same
theorem MAt.newL {H : Hp} {p : Addr} {xs : List V} (M : MAt H m c l k) (hp : H p = none) : rt (L2.upd H p (.lst xs)) m l p = some (.lst xs) := rt_mk upd_same (ne_of_none M.hm hp).symm (M.l_some hp)
end
theorem cut_is {xs : List V} {lo hi : Option Int} : ∃ n j, cutV xs lo hi = (xs.drop n).take j := ⟨_, _, rfl⟩
theorem gName_go2 {i : Nat} {v : V} {σ : L2.St} {H : Hp} {k : L2.St → Hp → Prop} (h : k (σ.set i (some v)) H) : gName i v σ H k := h
structure Lall (K : PySem.W.Frag) (mg : Str → Option Value) where
  G : Lf K mg
  Y : Lq K mg
  L : Ll K mg
  T : Lt K mg
  fB : Addr
  dB : FuncData
  Be : Fun K "_law_begun" "_law_begun" sBegun fB dB
  bB : Binds K dB ["script"] []
  mB : mg "_law_begun" = some (.ref fB)
  mi : mg "min" = none
  re : mg "repr" = none
def spLaw (K : PySem.W.Frag) : Sp := fun vs H Q _ => ∃ (a : Addr) (ns : List Int), vs = [.ref a] ∧ SqL K H a (ns.map V.int) ∧ ns.length ≤ 63 ∧ ∀ H', Q (.bl true) H'
section
variable {P : Program} {w : World} {K : PySem.W.Frag} {mg : Str → Option Value} {base : Heap}
theorem scLaw : FnScope NL ["script"] (defScope sLaw) := ⟨rfl, rfl, rfl, by decide +kernel, rfl, by decide +kernel, by decide +kernel⟩
theorem ok_law (L : Lall K mg) {f : Addr} {fd : FuncData} (F : Fun K "law" "law" sLaw f fd) : FnG P w K mg base CX0 7 f fd ["script"] (spLaw K) := by
  have GB : FnOk P w K mg base CX0 1 L.fB L.dB ["script"] (spBegun K) := ok_begun L.Be L.G.L.T
  have GX : FnOk P w K mg base CX0 1 L.G.L.f1 L.G.L.d1 ["m", "many"] spNext := ok_next L.G.L.N L.G.L.T
  have GG : FnOk P w K mg base CX0 3 L.G.f L.G.d ["m", "most"] spFraming := ok_framing L.G
  have GY : FnOk P w K mg base CX0 1 L.Y.f L.Y.d ["framing"] spLines := ok_lines L.Y
  have GL : FnOk P w K mg base CX0 2 L.L.f2 L.L.d2 ["framing", "thing"] spLL := ok_ll L.L
  have GI : FnOk P w K mg base CX0 4 L.L.W.fL L.L.W.dL ["framing", "thing"] spLineL := ok_line L.L.W
  have GR : FnOk P w K mg base CX0 6 L.T.f2 L.T.d2 ["framing", "thing"] spRef := ok_ref L.T
  have GT : FnOk P w K mg base CX0 5 L.T.f1 L.T.d1 ["framing", "line"] spLT0 := ok_lt0 L.T
  refine okG F scLaw (fun vs H Q E h => ?_) (fun cdv A outer s H vs Q E hr hgd h => ?_)
  · obtain ⟨a, ns, rfl, _⟩ := h
    rfl
  · obtain ⟨a, ns, rfl, hS, hlen, q⟩ := h
    have ggd : (A.deeper (PyProof.Rows.envOfC "law" (defScope sLaw) s.heap.objs.size f cdv)).guards = some [] := hgd
    have hu64 := hr.units
    have r1 := hr.mono (j := 1) (by decide)
    have r2 := hr.mono (j := 2) (by decide)
    have r3 := hr.mono (j := 3) (by decide)
    have r4 := hr.mono (j := 4) (by decide)
    have r5 := hr.mono (j := 5) (by decide)
    refine ⟨_, pss_cons (ps_set (i := 1) scLaw.nd rfl (Or.inr rfl) (pe_call GB r1 (by rfl) L.mB L.Be.kp L.bB .nil pass0 (pa_cons (pv 0) pa_nil)))
      (pss_cons (ps_for PassesOwn.never rfl (pi_range1 (by rfl) L.G.L.ra (pa_cons (pe_op op_add pe_int (pe_callB (call_min2 rfl) (by rfl) L.mi (by decide +kernel) (pa_cons (pe_callB call_len_seq (by rfl) L.G.L.T.len PySem.boot_len (pa_cons (pv 0) pa_nil)) (pa_cons pe_int pa_nil)))) pa_nil)) (pg_name (i := 2) scLaw.nd rfl (Or.inl rfl))
        (pss_cons (ps_set (i := 3) scLaw.nd rfl (Or.inr rfl) (pe_call GG r3 (by rfl) L.G.g L.G.F.kp L.G.b .nil pass0 (pa_cons (pv 1) (pa_cons pe_int pa_nil))))
        (pss_cons (ps_set (i := 4) scLaw.nd rfl (Or.inl rfl) (pe_call GY r1 (by rfl) L.Y.m L.Y.F.kp L.Y.b .nil pass0 (pa_cons (pv 3) pa_nil)))
        (pss_cons (ps_set (i := 5) scLaw.nd rfl (Or.inl rfl) (pe_ix ix_list (pv 4) (pe_call GX r1 (by rfl) L.G.L.mN L.G.L.N.kp L.G.L.bN .nil pass0 (pa_cons (pv 1) (pa_cons (pe_callB call_len_seq (by rfl) L.G.L.T.len PySem.boot_len (pa_cons (pv 4) pa_nil)) pa_nil))) (fun _ _ => rfl)))
        (pss_cons (ps_set (i := 6) scLaw.nd rfl (Or.inl rfl) (pe_lst (pa_cons (pv 5) (pa_cons (pe_slice sl_tupS (pv 5) po_none (po_some (pe_un un_neg pe_int))) (pa_cons (pe_op op_repT (pv 5) pe_int) (pa_cons (pe_op op_catZ (pv 5) (pe_tup (pa_cons pe_int pa_nil))) (pa_cons (pe_revT (pv 5) (pe_un un_neg pe_int) (fun _ _ => rfl)) (pa_cons (pe_callTy call_list_of (by rfl) L.G.L.T.list (by decide +kernel) (pa_cons (pv 5) pa_nil)) (pa_cons pe_non (pa_cons (pe_tup pa_nil) (pa_cons pe_int (pa_cons pe_str (pa_cons (pe_tup (pa_cons (pe_un un_neg pe_int) pa_nil)) pa_nil)))))))))))))
        (pss_cons (ps_set (i := 7) scLaw.nd rfl (Or.inl rfl) (pe_callTy call_tuple_of (by rfl) L.G.tu (by decide +kernel) (pa_cons (pe_lc (own := [("k", 11)]) (g := gName 11) (te := tCall spNext [] E0 (tCons (tVar 1) (tCons (tCB (rLn K) (tCons (tVar 3) tNil)) tNil))) rfl scLaw.nd (pi_range1 (by rfl) L.G.L.ra (pa_cons (pe_op op_add pe_int (pe_call GX r1 (by rfl) L.G.L.mN L.G.L.N.kp L.G.L.bN .nil pass0 (pa_cons (pv 1) (pa_cons pe_int pa_nil)))) pa_nil))
            (blkOk_by (N := NL) (sc := defScope sLaw) (by decide +kernel)) (fun _ _ _ _ _ => pg_name (i := 11) scLaw.nd rfl (Or.inl rfl)) (fun _ _ _ _ _ => pts_nil)
            (fun _ _ _ _ _ => pe_call GX r1 (by rfl) L.G.L.mN L.G.L.N.kp L.G.L.bN .nil pass0 (pa_cons (pv 1) (pa_cons (pe_callB call_len_seq (by rfl) L.G.L.T.len PySem.boot_len (pa_cons (pv 3) pa_nil)) pa_nil)))) pa_nil)))
        (pss_cons (ps_set (i := 6) scLaw.nd rfl (Or.inl rfl) (pe_op op_cat (pv 6) (pe_lst (pa_cons (pe_tup (pa_cons pe_bl pa_nil)) (pa_cons (pe_tup (pa_cons pe_non pa_nil)) (pa_cons (pe_tup (pa_cons (pe_callB call_len_seq (by rfl) L.G.L.T.len PySem.boot_len (pa_cons (pv 3) pa_nil)) pa_nil)) (pa_cons (pv 7) pa_nil)))))))
        (pss_one (ps_for PassesOwn.never rfl (pi_list (pe_op op_cat (pv 6) (pe_slice sl_list (pv 4) po_none (po_some pe_int)))) (pg_name (i := 8) scLaw.nd rfl (Or.inl rfl))
          (pss_cons (ps_set (i := 9) scLaw.nd rfl (Or.inl rfl) (pe_call GL r2 (by rfl) L.L.m2 L.L.F2.kp L.L.b2 .nil pass0 (pa_cons (pv 3) (pa_cons (pv 8) pa_nil))))
          (pss_cons (ps_if (pw_or (pt_cmpR op_ne (pe_callB (call_showV ggd hu64) (by rfl) L.re (by decide +kernel) (pa_cons (pe_call GI r4 (by rfl) L.L.W.mL L.L.W.L.kp L.L.W.bL .nil pass0 (pa_cons (pv 3) (pa_cons (pv 8) pa_nil))) pa_nil)) (pe_callB (call_showV ggd hu64) (by rfl) L.re (by decide +kernel) (pa_cons (pv 9) pa_nil)) (nomark _))
              (pw_or1 (pt_cmpR op_eq (pe_call GR hr (by rfl) L.T.m2 L.T.F2.kp L.T.b2 .nil pass0 (pa_cons (pv 3) (pa_cons (pv 8) pa_nil))) (pv 9) (nomark _)))).pt (pss_one (ps_ret pe_bl)) pss_nil)
          (pss_cons (ps_set (i := 10) scLaw.nd rfl (Or.inl rfl) (pe_ifExp (pt_val (pv 9)) (pe_m1 PySem.F.slot_str_join PySem.F.type_str_join mt_join pe_str (pe_lc (own := [("number", 12)]) (g := gName 12) (te := tOp (rIxT K) (tOp (rIxT K) (tVar 3) (tVar 12)) (tC (.int 1))) rfl scLaw.nd (pi_tup (pv 8))
                (blkOk_by (N := NL) (sc := defScope sLaw) (by decide +kernel)) (fun _ _ _ _ _ => pg_name (i := 12) scLaw.nd rfl (Or.inl rfl)) (fun _ _ _ _ _ => pts_nil)
                (fun _ _ _ _ _ => pe_ix ix_tup (pe_ix ix_tup (pv 3) (pv 12) (fun _ _ => rfl)) pe_int (fun _ _ => rfl)))) pe_str))
          (pss_one (ps_if (pw_and (pt_val (pv 9)) (pw_and1 (pt_cmpR op_ne (pe_callB (call_showV ggd hu64) (by rfl) L.re (by decide +kernel) (pa_cons (pe_call GT r5 (by rfl) L.T.m1 L.T.F1.kp L.T.b1 .nil pass0 (pa_cons (pv 3) (pa_cons (pv 8) pa_nil))) pa_nil)) (pe_callB (call_showV ggd hu64) (by rfl) L.re (by decide +kernel) (pa_cons (pv 10) pa_nil)) (nomark _)))).pt (pss_one (ps_ret pe_bl)) pss_nil))))))))))))))
      (pss_one (ps_ret pe_bl))), ?_⟩
    refine ⟨_, rfl, a, ns, rfl, hS, by omega, fun m mc l0 H0 M0 hm hmc hl sm0 => ?_⟩
    have nl : (ns.map V.int).length ≤ 63 := by rw [List.length_map]; exact hlen
    refine ⟨_, rfl, a, _, rfl, .inl (sm0.seq hS), _, 4, rfl, 2, _, rfl, rfl, _, rfl, by split <;> omega, by split <;> omega, ?_⟩
    have hN : (2 + if (4 : Int) < ((ns.map V.int).length : Nat) then 4 else (((ns.map V.int).length : Nat) : Int)).toNat ≤ 6 := by split <;> omega
    generalize (2 + if (4 : Int) < ((ns.map V.int).length : Nat) then 4 else (((ns.map V.int).length : Nat) : Int)).toNat = N at hN ⊢
    refine for_it walk_range (fun i σ H' => ∃ (v2 v3 v4 v5 v6 v7 v8 v9 v10 : Option V) (l : Addr) (k : Int), σ = [some (.ref a), some (.ref m), v2, v3, v4, v5, v6, v7, v8, v9, v10, none, none] ∧ MAt H' m mc l k ∧ k ≤ 420 * i)
      ⟨none, none, none, none, none, none, none, none, none, l0, 0, rfl, M0, by omega⟩ (fun _ _ _ _ _ => trivial) ?_ ?_
    · rintro i x σ H1z H1 hi ⟨v2, v3, v4, v5, v6, v7, v8, v9, v10, l1, k1, rfl, M1, kk1⟩ ⟨rfl, rfl⟩
      refine ⟨_, rfl, m, mc, l1, k1, 3, rfl, by decide, M1, by omega, fun f fr last H2 l2 k2 fa fm lb lf kk2 D2 lp => ?_⟩
      have M2 := D2.at_
      have l9 : fr.length ≤ 9 := by omega
      have fl0 := fm.l0
      refine ⟨_, rfl, f, fr, last, rfl, fa, fm, l9, fun H3 ps ws s3 e3 wy3 => ?_⟩
      have M3 := M2.same s3
      have cne := cf_ne fm lb l9 lp
      have wl := wy3.len
      have cl := cf_few l9 4
      have w0 : 0 < ws.length := by
        rw [wl]
        exact List.length_pos_iff.mpr cne
      have nps : ps ≠ l2 := fun z => by
        subst z
        obtain ⟨ls, hls, _⟩ := M3.hl
        rw [e3] at hls
        cases ws with
        | nil => cases w0
        | cons q ws =>
          cases ls with
          | nil => cases hls
          | cons i ls =>
            have z := HO.lst.inj (Option.some.inj hls)
            cases List.cons.inj z |>.1
      refine ⟨_, rfl, _, rfl, _, rfl, ps, _, rfl, .inl (SqL.of e3), m, mc, l2, k2, _, rfl, M3, by rw [List.length_map]; omega, by rw [List.length_map]; omega, by omega, fun r H4 l4 k4 a4 b4 g4 N4 f4 q4 => ?_⟩
      have d4 : Dr H3 H4 m mc l2 l4 k4 := ⟨N4, f4, q4⟩
      obtain ⟨e4, n4⟩ := d4.lst M3 e3 nps
      obtain ⟨r, rfl⟩ := Int.eq_ofNat_of_zero_le a4
      rw [List.length_map] at b4
      have rl : r < ws.length := by omega
      have wy4 := wy3.keepT (d4.keepT M3)
      have fa4 := d4.fr M3 (fa.same s3)
      obtain ⟨w5, hw5, e5⟩ := wy4.at_ (List.getElem?_eq_getElem rl)
      have m5 := List.mem_of_getElem? hw5
      have l5 := cf_short 4 w5 m5
      have p5 := cf_pos 4 w5 m5
      refine ⟨ps, ws.map V.ref, (r : Int), .ref ws[r], rfl, rfl, SqL.of e4, atI_nat (by rw [List.getElem?_map, List.getElem?_eq_getElem rl]; rfl), gName_go2 ?_⟩
      generalize ws[r] = p at e5
      refine ⟨_, rfl, _, rfl, 1, rfl, -1, rfl, p, _, rfl, e5, fun p2 H5 s5 e52 => ?_⟩
      obtain ⟨c1, c2, ce⟩ := cut_is (xs := w5.map V.int) (lo := none) (hi := some (-1))
      rw [ce, ← List.map_drop, ← List.map_take] at e52
      have r5 := rt_same (m := m) (l := l4) s5
      have M5 := N4.same s5
      have t1 : SI (rt H5 m l4) (.ref p) := si_tup (M5.rtt (s5 _ _ e5)) (by omega)
      have t2 : SI (rt H5 m l4) (.ref p2) := si_tup (M5.rtt e52) (by rw [List.length_take, List.length_drop]; omega)
      refine ⟨_, rfl, p, 2, _, rfl, rfl, SqT.of (s5 _ _ e5), (fun z => p5 (List.map_eq_nil_iff.mp z)), by decide, by decide, by rw [List.length_map]; omega, fun p3 hp3 => ?_⟩
      rw [show (List.replicate (2 : Int).toNat (w5.map V.int)).flatten = (w5 ++ w5).map V.int by rw [List.map_append]; show w5.map V.int ++ (w5.map V.int ++ []) = _; rw [List.append_nil]]
      have u6 := same_upd (o := HO.tup ((w5 ++ w5).map V.int)) hp3
      have e63 := upd_same (H := H5) (a := p3) (o := HO.tup ((w5 ++ w5).map V.int))
      generalize upd H5 p3 _ = H6 at u6 e63 ⊢
      have r6 := rt_same (m := m) (l := l4) u6
      have M6 := M5.same u6
      have t3 : SI (rt H6 m l4) (.ref p3) := si_tup (M6.rtt e63) (by rw [List.length_append]; omega)
      have e56 := u6 _ _ (s5 _ _ e5)
      refine ⟨_, rfl, (by show 1 ≤ sizeLine; decide), fun p0 hp0 => ?_⟩
      have u7 := same_upd (o := HO.tup [.int 0]) hp0
      have e70 := upd_same (H := H6) (a := p0) (o := HO.tup [.int 0])
      generalize upd H6 p0 _ = H7 at u7 e70 ⊢
      refine ⟨p, p0, _, _, rfl, rfl, u7 _ _ e56, e70, (by rw [List.length_map, sizeLine_eq]; show _ + 1 ≤ _; omega), fun H8 p4 s8 e84 => ?_⟩
      have s68 : Same H6 H8 := fun b o e => s8 _ _ (u7 _ _ e)
      have r8 := rt_same (m := m) (l := l4) s68
      have M8 := M6.same s68
      have t4 : SI (rt H8 m l4) (.ref p4) := si_tup (ns := w5 ++ [0]) (M8.rtt (by rw [e84, List.map_append]; rfl)) (by rw [List.length_append]; show _ + 1 ≤ 100; omega)
      have e58 := s68 _ _ e56
      refine ⟨_, rfl, 1, rfl, -1, rfl, rfl, p, _, rfl, e58, fun pV hpV => ?_⟩
      rw [← List.map_reverse]
      have u9 := same_upd (o := HO.tup (w5.reverse.map V.int)) hpV
      have e9 := upd_same (H := H8) (a := pV) (o := HO.tup (w5.reverse.map V.int))
      generalize upd H8 pV _ = H9 at u9 e9 ⊢
      have r9 := rt_same (m := m) (l := l4) u9
      have M9 := M8.same u9
      have t5 : SI (rt H9 m l4) (.ref pV) := si_tup (M9.rtt e9) (by rw [List.length_reverse]; omega)
      have e59 := u9 _ _ e58
      refine ⟨_, rfl, p, _, rfl, .inr (SqT.of e59), fun pl hpl => ?_⟩
      have u10 := same_upd (o := HO.lst (w5.map V.int)) hpl
      have e10 := M9.newL (p := pl) (xs := w5.map V.int) hpl
      generalize upd H9 pl _ = H10 at u10 e10 ⊢
      have r10 := rt_same (m := m) (l := l4) u10
      have M10 := M9.same u10
      have t6 : SI (rt H10 m l4) (.ref pl) := si_list e10
      refine ⟨Nat.zero_le _, fun pe hpe => ?_⟩
      have u11 := same_upd (o := HO.tup []) hpe
      have e11 := upd_same (H := H10) (a := pe) (o := HO.tup [])
      generalize upd H10 pe _ = H11 at u11 e11 ⊢
      have r11 := rt_same (m := m) (l := l4) u11
      have M11 := M10.same u11
      have t8 : SI (rt H11 m l4) (.ref pe) := si_tup (ns := []) (M11.rtt e11) (by decide)
      refine ⟨1, rfl, (by show 1 ≤ sizeLine; decide), fun pn hpn => ?_⟩
      have u12 := same_upd (o := HO.tup [.int (-1)]) hpn
      have e12 := upd_same (H := H11) (a := pn) (o := HO.tup [.int (-1)])
      generalize upd H11 pn _ = H12 at u12 e12 ⊢
      have r12 := rt_same (m := m) (l := l4) u12
      have M12 := M11.same u12
      have t11 : SI (rt H12 m l4) (.ref pn) := si_tup (ns := [-1]) (M12.rtt e12) (by decide)
      have all : ∀ x ∈ [V.ref p, .ref p2, .ref p3, .ref p4, .ref pV, .ref pl, .non, .ref pe, .int 0, .str "0", .ref pn], SI (rt H12 m l4) x := fun x hx => by
        have cs : x = V.ref p ∨ x = .ref p2 ∨ x = .ref p3 ∨ x = .ref p4 ∨ x = .ref pV ∨ x = .ref pl ∨ x = .non ∨ x = .ref pe ∨ x = .int 0 ∨ x = .str "0" ∨ x = .ref pn := by simpa using hx
        have b11 := r11.trans r12
        have b10 := r10.trans b11
        have b9 := r9.trans b10
        have b8 := r8.trans b9
        have b6 := r6.trans b8
        rcases cs with rfl | rfl | rfl | rfl | rfl | rfl | rfl | rfl | rfl | rfl | rfl
        · exact t1.same b6
        · exact t2.same b6
        · exact t3.same b8
        · exact t4.same b9
        · exact t5.same b10
        · exact t6.same b11
        · exact ⟨.none, .non, by show 0 ≤ 100; decide, by decide +kernel⟩
        · exact t8.same r12
        · exact ⟨.int 0, .int 0, by show 0 ≤ 100; decide, by decide +kernel⟩
        · exact ⟨.str "0", .str _, by show 0 ≤ 100; decide, by decide +kernel⟩
        · exact t11
      have l11 : [V.ref p, .ref p2, .ref p3, .ref p4, .ref pV, .ref pl, .non, .ref pe, .int 0, .str "0", .ref pn].length = 11 := rfl
      refine ⟨(by show 11 ≤ sizeLine; rw [sizeLine_eq]; decide), fun pL hpL => gName_go2 ?_⟩
      generalize [V.ref p, .ref p2, .ref p3, .ref p4, .ref pV, .ref pl, .non, .ref pe, .int 0, .str "0", .ref pn] = os at all l11 ⊢
      have u13 := same_upd (o := HO.lst os) hpL
      have e13 := upd_same (H := H12) (a := pL) (o := HO.lst os)
      have nL := M12.l_some hpL
      generalize upd H12 pL _ = H13 at u13 e13 ⊢
      have M13 := M12.same u13
      have s413 : Same H4 H13 := fun b o e => u13 _ _ (u12 _ _ (u11 _ _ (u10 _ _ (u9 _ _ (s68 _ _ (u6 _ _ (s5 _ _ e)))))))
      have all13 : ∀ x ∈ os, SI (rt H13 m l4) x := fun x hx => (all x hx).same (rt_same u13)
      -- the drawn numbers
      refine ⟨_, rfl, m, mc, l4, k4, 4, rfl, M13, by decide, by decide, by omega, fun r14 H14 l14 k14 a14 b14 g14 N14 f14 q14 => ⟨1, r14, rfl, rfl, _, rfl, by omega, by omega, fun D hD => ?_⟩⟩
      have d14 : Dr H13 H14 m mc l4 l14 k14 := ⟨N14, f14, q14⟩
      have ps13 := s413 _ _ e4
      obtain ⟨eL14, nL14⟩ := d14.lst M13 e13 nL
      obtain ⟨ps14, nps14⟩ := d14.lst M13 ps13 n4
      have fa14 := d14.fr M13 (fa4.same s413)
      have nD0 := N14.l_some hD
      have nDm : D ≠ m := (ne_of_none N14.hm hD).symm
      have nDc : D ≠ mc := N14.c_some hD
      refine lc_it walk_range (fun i H' => ∃ (ys : List Int) (l' : Addr) (k' : Int), H' D = some (.lst (ys.map V.int)) ∧ D ≠ l' ∧ ys.length = i ∧ k' ≤ k14 + i ∧ Dr H14 H' m mc l14 l' k')
        ⟨[], l14, k14, upd_same, nD0, rfl, by omega, (Dr.refl N14).same (same_upd hD)⟩ (fun _ _ _ _ => trivial) ?_ ?_
      · rintro j x H15z H15 hj ⟨ys, l15, k15, hD15, n15, ly, kk15, d15⟩ ⟨rfl, rfl⟩
        have hj5 : j < 4 := by omega
        obtain ⟨ts, hf, hfl, _⟩ := d15.fr N14 fa14
        refine ⟨rfl, _, rfl, _, rfl, f, _, rfl, .inr (SqT.of hf), m, mc, l15, k15, _, rfl, d15.at_, by rw [List.length_map]; omega, by rw [List.length_map]; omega, by omega, fun r16 H16 l16 k16 a16 b16 g16 N16 f16 q16 => ?_⟩
        have d16 : Dr H15 H16 m mc l15 l16 k16 := ⟨N16, f16, q16⟩
        obtain ⟨e16, n16⟩ := d16.lst d15.at_ hD15 n15
        have dk := d15.trans d16
        refine ⟨_, e16, by rw [List.length_map, ly, sizeLine_eq]; omega, ys ++ [r16], l16, k16, by rw [List.map_append]; exact upd_same, n16, by rw [List.length_append, ly]; rfl, by omega, ⟨N16.upd nDm nDc n16, dk.hl, fun b o z h1 h2 => ?_⟩⟩
        rw [upd_ne (ne_of_none z hD)]
        exact dk.kp b o z h1 h2
      · rintro H15 ⟨ys, l15, k15, hD15, n15, ly, kk15, d15⟩
        have ly : ys.length ≤ 4 := by omega
        have kk15 : k15 ≤ k14 + 4 := by omega
        obtain ⟨eL15, nL15⟩ := d15.lst N14 eL14 nL14
        obtain ⟨ps15, nps15⟩ := d15.lst N14 ps14 nps14
        have fa15 := d15.fr N14 fa14
        have d415 := d14.trans d15
        have wy15 := (wy4.keepT (Same.keepT s413)).keepT (d415.keepT M13)
        have M15 := d15.at_
        refine ⟨D, _, rfl, .inl ⟨SqL.of hD15, fun pz hpz => gName_go2 ?_⟩⟩
        have u16 := same_upd (o := HO.tup (ys.map V.int)) hpz
        have e16 := M15.newT (p := pz) (xs := ys.map V.int) hpz
        generalize upd H15 pz _ = H16 at u16 e16 ⊢
        have M16 := M15.same u16
        have tz : SI H16 (.ref pz) := si_tup (rt_some e16).1 (by omega)
        have all16 : ∀ x ∈ os, SI H16 x := fun x hx => (((all13 x hx).same (rt_dr d415)).same rt_sub).same u16
        have wy16 := wy15.same u16
        have fa16 := fa15.same u16
        have eL16 := u16 _ _ eL15
        have ps16 := u16 _ _ ps15
        clear wy15 fa15 eL15 ps15 all13 all wy4 fa4 e13 e4 ps14 nps14 fa14 eL14 nL14
        refine ⟨_, rfl, (by show 1 ≤ sizeLine; decide), fun pa hpa => ?_⟩
        have u17 := same_upd (o := HO.tup [.bl true]) hpa
        have e17 := upd_same (H := H16) (a := pa) (o := HO.tup [.bl true])
        generalize upd H16 pa _ = H17 at u17 e17 ⊢
        refine ⟨(by show 1 ≤ sizeLine; decide), fun pb hpb => ?_⟩
        have u18 := same_upd (o := HO.tup [.non]) hpb
        have e18 := upd_same (H := H17) (a := pb) (o := HO.tup [.non])
        generalize upd H17 pb _ = H18 at u18 e18 ⊢
        obtain ⟨ts, hf, hfl, _⟩ := fa16.same (u17.trans u18)
        refine ⟨_, rfl, f, _, rfl, .inr (SqT.of hf), (by show 1 ≤ sizeLine; decide), fun pc hpc => ?_⟩
        have u19 := same_upd (o := HO.tup [.int ((ts.map V.ref).length : Nat)]) hpc
        have e19 := upd_same (H := H18) (a := pc) (o := HO.tup [.int ((ts.map V.ref).length : Nat)])
        generalize upd H18 pc _ = H19 at u19 e19 ⊢
        refine ⟨_, rfl, (by show 4 ≤ sizeLine; decide), fun pd hpd => ?_⟩
        have u20 := same_upd (o := HO.lst [.ref pa, .ref pb, .ref pc, .ref pz]) hpd
        have e20 := upd_same (H := H19) (a := pd) (o := HO.lst [.ref pa, .ref pb, .ref pc, .ref pz])
        generalize upd H19 pd _ = H20 at u20 e20 ⊢
        have s1620 : Same H16 H20 := ((u17.trans u18).trans u19).trans u20
        refine ⟨pL, pd, _, _, rfl, rfl, s1620 _ _ eL16, e20, (by rw [l11, sizeLine_eq]; show 11 + 4 ≤ 16777216; decide), fun pe2 hpe2 => gName_go2 ?_⟩
        have all4 : ∀ x ∈ [V.ref pa, .ref pb, .ref pc, .ref pz], SI H20 x := fun x hx => by
          have cs : x = V.ref pa ∨ x = .ref pb ∨ x = .ref pc ∨ x = .ref pz := by simpa using hx
          rcases cs with rfl | rfl | rfl | rfl
          · exact ⟨.tuple [.bool true], .tup (u20 _ _ (u19 _ _ (u18 _ _ e17))) (.cons (.bl _) .nil), by show 1 ≤ 100; decide, by decide +kernel⟩
          · exact ⟨.tuple [.none], .tup (u20 _ _ (u19 _ _ e18)) (.cons .non .nil), by show 1 ≤ 100; decide, by decide +kernel⟩
          · exact si_tup (ns := [((ts.map V.ref).length : Nat)]) (u20 _ _ e19) (by show 1 ≤ 100; decide)
          · exact tz.same s1620
        have l4' : [V.ref pa, .ref pb, .ref pc, .ref pz].length = 4 := rfl
        generalize [V.ref pa, .ref pb, .ref pc, .ref pz] = os4 at all4 l4' e20 hpe2 ⊢
        have all20 : ∀ x ∈ os ++ os4, SI H20 x := fun x hx => (List.mem_append.mp hx).elim (fun h => (all16 x h).same s1620) (all4 x)
        have lo15 : (os ++ os4).length = 15 := by rw [List.length_append, l11, l4']
        generalize os ++ os4 = ov at all20 lo15 ⊢
        have u21 := same_upd (o := HO.lst ov) hpe2
        have e21 := upd_same (H := H20) (a := pe2) (o := HO.lst ov)
        generalize upd H20 pe2 _ = H21 at u21 e21 ⊢
        have s1621 := s1620.trans u21
        refine ⟨_, rfl, _, rfl, _, rfl, ps, _, rfl, SqL.of (s1621 _ _ ps16), fun pf hpf => ?_⟩
        rw [show cutV (ws.map V.ref) none (some 20) = (ws.take 20).map V.ref by rw [List.map_take]; exact cut_to (i := 20)]
        have u22 := same_upd (o := HO.lst ((ws.take 20).map V.ref)) hpf
        have e22 := upd_same (H := H21) (a := pf) (o := HO.lst ((ws.take 20).map V.ref))
        generalize upd H21 pf _ = H22 at u22 e22 ⊢
        refine ⟨pe2, pf, _, _, rfl, rfl, u22 _ _ e21, e22, (by rw [lo15, List.length_map, List.length_take, sizeLine_eq]; omega), fun pg hpg => ?_⟩
        have all22 : ∀ x ∈ ov ++ (ws.take 20).map V.ref, SI H22 x := fun x hx => by
          rcases List.mem_append.mp hx with h | h
          · exact (all20 x h).same (u21.trans u22)
          · obtain ⟨q1, hq1, rfl⟩ := List.mem_map.mp h
            exact (wy16.same (s1621.trans u22)).si (fun w hw => by have := cf_short 4 w hw; omega) q1 (List.mem_of_mem_take hq1)
        generalize ov ++ (ws.take 20).map V.ref = xs at all22 ⊢
        have u23 := same_upd (o := HO.lst xs) hpg
        have e23 := upd_same (H := H22) (a := pg) (o := HO.lst xs)
        generalize upd H22 pg _ = H23 at u23 e23 ⊢
        have s1623 := (s1621.trans u22).trans u23
        have fa23 := fa16.same s1623
        have M23 := M16.same s1623
        have all23 : ∀ x ∈ xs, SI H23 x := fun x hx => (all22 x hx).same u23
        refine ⟨pg, rfl, ⟨_, SqL.of e23⟩, for_it (walk_list (xs := xs)) (fun j σ H' => ∃ (v8 v9 v10 : Option V), σ = [some (.ref a), some (.ref m), some (.int (0 + (i : Int))), some (.ref f), some (.ref ps), some (.ref p), some (.ref pe2), some (.ref pz), v8, v9, v10, none, none] ∧ Same H23 H')
          ⟨v8, v9, v10, rfl, Same.refl H23⟩ (fun j σ H' _ ⟨_, _, _, _, z⟩ => SqL.of (z _ _ e23)) ?_ ?_⟩
        · rintro j x σ H24z H24 hj ⟨v8, v9, v10, rfl, s24⟩ ⟨rfl, hx⟩
          obtain ⟨d, dx23, il, sp⟩ := all23 x (List.mem_of_getElem? hx)
          have dx := Da.same s24 _ _ dx23
          have fa24 := fa23.same s24
          refine ⟨_, rfl, _, rfl, f, x, fr, last, d, rfl, fa24, fm, dx, sp, by omega, fun H25 s25 => gName_go2 ?_⟩
          obtain ⟨sh1, sh2, sh3, sh4⟩ := sh_bool (lineD fr d).isSome
          refine ⟨_, rfl, _, rfl, f, x, fr, last, d, rfl, fa24.same s25, fm, Da.same s25 _ _ dx, by omega, fun H26 s26 => ?_⟩
          refine ⟨.bl _, .bool (lineD fr d).isSome, rfl, Da.dp _ _ (.bl _), sh1, sh2, sh3, sh4, ?_⟩
          refine ⟨_, rfl, .bl _, .bool (lineD fr d).isSome, rfl, Da.dp _ _ (.bl _), sh1, sh2, sh3, sh4, rfl, _, rfl, iteF' (by simp) ?_⟩
          have s246 := s25.trans s26
          refine ⟨_, rfl, _, rfl, f, x, fr, last, d, rfl, fa24.same s246, fm, Da.same s246 _ _ dx, by omega, fun H27 s27 => ?_⟩
          refine ⟨_, rfl, rfl, _, rfl, iteF' (by cases (lineD fr d).isSome <;> decide) ?_⟩
          have s247 := s246.trans s27
          have fa27 := fa24.same s247
          have dx27 := Da.same s247 _ _ dx
          cases e : lineD fr d with
          | none =>
            refine ⟨_, rfl, _, rfl, iteF (gName_go2 ?_)⟩
            refine ⟨_, rfl, _, rfl, iteF ?_⟩
            exact ⟨_, _, _, rfl, s24.trans s247⟩
          | some ns5 =>
            obtain ⟨rfl, hn⟩ := lineD_some e
            have dxa := dx27
            cases dxa with
            | @tup ax xs5 ds5 ea all5 =>
              obtain rfl := da_ints all5
              have il5 : ns5.length ≤ 100 := by
                have il : (ns5.map PyData.int).length ≤ 100 := il
                rw [List.length_map] at il
                exact il
              refine ⟨_, rfl, _, rfl, iteT ?_⟩
              refine ⟨⟨_, rfl⟩, _, rfl, ax, rfl, ⟨_, SqT.of ea⟩, fun D2 hD2 => ?_⟩
              refine lc_it (walk_tup (xs := ns5.map V.int)) (fun i H' => H' D2 = some (.lst ((pcs fr (ns5.take i)).map V.str)) ∧ Same H27 H') ⟨upd_same, same_upd hD2⟩ (fun i H' _ z => SqT.of (z.2 _ _ ea)) ?_ ?_
              · rintro i5 x5 H28 H29 hi5 ⟨hl2, kp⟩ ⟨rfl, hx5⟩
                obtain ⟨n, en, rfl⟩ : ∃ n, ns5[i5]? = some n ∧ x5 = .int n := by
                  rw [List.getElem?_map] at hx5
                  cases q : ns5[i5]? with
                  | none =>
                    rw [q] at hx5
                    cases hx5
                  | some n =>
                    rw [q] at hx5
                    exact ⟨n, rfl, (Option.some.inj hx5).symm⟩
                obtain ⟨n0, n1⟩ := hn n (List.mem_of_getElem? en)
                obtain ⟨us, t2, hf2, ha, h3, _⟩ := stt_at (fa27.same kp) n0 n1
                refine ⟨rfl, ⟨_, rfl, _, rfl, f, _, n, .ref t2, rfl, rfl, SqT.of hf2, ha, t2, _, 1, .str (stt fr n).2.1, rfl, rfl, SqT.of h3, rfl, _, hl2, ?_, ?_, same_set hD2 kp⟩⟩
                · unfold pcs
                  rw [List.length_map, List.length_map, List.length_take, sizeLine_eq]
                  omega
                · rw [take_one en]
                  unfold pcs
                  rw [List.map_append, List.map_append]
                  exact upd_same
              · rintro H28 ⟨hl2, kp⟩
                rw [List.length_map, List.take_length] at hl2
                refine ⟨"", D2, _, rfl, rfl, .inl (SqL.of hl2), ?_, gName_go2 ?_⟩
                · have z0 : ("" : Str).length = 0 := by decide +kernel
                  have sm := pcs_sum fm.stp hn
                  show ((pcs fr ns5).map fun x => x.length).sum + _ * _ ≤ 16777216
                  rw [z0, Nat.mul_zero]
                  omega
                obtain ⟨ts1, ts2, ts3, ts4⟩ := txt_shw fm.stp hn il5
                refine ⟨_, rfl, _, rfl, iteT ?_⟩
                refine ⟨_, rfl, _, rfl, f, .ref ax, fr, last, _, ns5, rfl, fa27.same kp, fm, Da.same kp _ _ dx27, by omega, e, fun H30 s30 => ?_⟩
                refine ⟨.str _, .str (txtL fr ns5), rfl, Da.dp _ _ (.str _), ts1, ts2, ts3, ts4, ?_⟩
                refine ⟨_, rfl, .str _, .str (txtL fr ns5), rfl, Da.dp _ _ (.str _), ts1, ts2, ts3, ts4, rfl, _, rfl, iteF' (by simp) ?_⟩
                exact ⟨_, _, _, rfl, s24.trans (s247.trans ((show Same H27 H28 from kp).trans s30))⟩
        · rintro σ H24 ⟨v8, v9, v10, rfl, s24⟩
          exact ⟨_, _, _, _, _, _, _, _, _, l15, k15, rfl, M23.same s24, by push_cast; omega⟩
    · rintro σ HE ⟨v2, v3, v4, v5, v6, v7, v8, v9, v10, l, k, rfl, ME, kkE⟩
      exact q _
end
end K04

set_option Elab.async false
set_option linter.all false
set_option maxRecDepth 100000
set_option maxHeartbeats 8000000
/-! What the top has written. -/
namespace K04
open PySem L2 L2.EV PySem.Spec PyProof.Rows
theorem oxc {K : PySem.W.Frag} {C N : Addr} {nm q : Str} {bs : List Value} {sn : List Str} {sub : List Value} {ab : Bool} {col : Option Bool} {dd : Option Addr} {k0 k1 k2 k3 k5 : Option Value} {B newId initId : String} {bm : List Value}
    (cl : K.lookup C = some (excClassObj nm q C N bs bm true sn sub ab col dd k0 k1 k2 k3 k5 newId)) (F : ExcBaseFacts B newId initId bm) (pas : ∀ self, refuseLoop self "__setattr__" bm = pure ()) (obj : bm.contains (.type "object") = true)
    (sa : PySem.W.findIn K (.ref C) "__setattr__" = some (some (.builtin "object.__setattr__"))) (ga : PySem.W.findIn K (.ref C) "__getattribute__" = some (some (.builtin "BaseException.__getattribute__")))
    (gg : PySem.W.findIn K (.ref C) "__getattr__" = some none) (exC : PySem.W.subIn K (.ref C) (.type "BaseException") = some true) (kC : PySem.W.keepIn K (.ref C) = true) (hd : PySem.W.hasDictIn K C = true)
    (ca : PySem.W.findIn K (.ref C) "__class__" = some (some (.builtin "object.__class__"))) (cn : PySem.W.specialIn K (.builtin "object.__class__") "__get__" = some (some (.builtin "getset_descriptor.__get__")))
    (ct : PySem.W.takesIn K (.builtin "object.__class__") = some true) (om : PySem.W.mroIn K C (.type "object") = some true) : OxC K C B newId initId bm :=
  ⟨F, ⟨nm, q, N, bs, sn, sub, ab, col, dd, k0, k1, k2, k3, k5, cl⟩, pas, obj, sa, ga, gg, exC, kC, hd, ca, cn, ct, om⟩
theorem fund_mk {K : PySem.W.Frag} {x qual : Str} {st : Stmt} {f T : Addr} {oc toc : Value} {od an tod : Option Addr} {osl tsl : Array (Option Value)} {n : Nat} {kV doc pm cdv ct : Value} (l : K.lookup f = some ⟨oc, od, .func (PySem.W.fnOf x qual (defArgs st) (defBody st) (defScope st) (.ref T) kV doc pm an cdv ct), osl⟩)
    (t : K.lookup T = some ⟨toc, tod, .seq #[.none] n, tsl⟩) (c : PySem.W.codeIn K cdv qual = true) (k : PySem.W.keepIn K (.ref f) = true) :
    FunD K x qual (defArgs st) (defBody st) (defScope st) [V.non] [] f (PySem.W.fnOf x qual (defArgs st) (defBody st) (defScope st) (.ref T) kV doc pm an cdv ct) :=
  ⟨⟨oc, od, .ref T, kV, doc, pm, an, cdv, ct, osl, rfl, l, c, .inr ⟨by simp, T, _, [.none], n, rfl, t, rfl, .cons rfl .nil⟩, .inl rfl⟩, k⟩
theorem all_mk {P : Program} {w : World} {K : PySem.W.Frag} {h : Heap} {mg : Str → Option Value} {fa C D f_ini f_ino f_iN f_iP f_iS f_iL f_iW f_iJ f_iF f_fL f_iI f_lT f_ms f_lB f_lN f_lP f_lF f_lW f_lL f_lR f_lQ f_la  : Addr}
    {od_iN an_iN : Option Addr} {sl_iN : Array (Option Value)} {oc_iN kV_iN dc_iN pm_iN cd_iN ct_iN : Value}
    {od_iP an_iP : Option Addr} {sl_iP : Array (Option Value)} {oc_iP kV_iP dc_iP pm_iP cd_iP ct_iP : Value}
    {od_iS an_iS : Option Addr} {sl_iS : Array (Option Value)} {oc_iS kV_iS dc_iS pm_iS cd_iS ct_iS : Value}
    {od_iL an_iL : Option Addr} {sl_iL : Array (Option Value)} {oc_iL kV_iL dc_iL pm_iL cd_iL ct_iL : Value}
    {od_iW an_iW : Option Addr} {sl_iW : Array (Option Value)} {oc_iW kV_iW dc_iW pm_iW cd_iW ct_iW : Value}
    {od_iJ an_iJ : Option Addr} {sl_iJ : Array (Option Value)} {oc_iJ kV_iJ dc_iJ pm_iJ cd_iJ ct_iJ : Value}
    {od_iF an_iF : Option Addr} {sl_iF : Array (Option Value)} {oc_iF kV_iF dc_iF pm_iF cd_iF ct_iF : Value}
    {od_fL an_fL : Option Addr} {sl_fL : Array (Option Value)} {oc_fL kV_fL dc_fL pm_fL cd_fL ct_fL : Value}
    {od_iI an_iI : Option Addr} {sl_iI : Array (Option Value)} {oc_iI kV_iI dc_iI pm_iI cd_iI ct_iI : Value}
    {od_lT an_lT : Option Addr} {sl_lT : Array (Option Value)} {oc_lT kV_lT dc_lT pm_lT cd_lT ct_lT : Value}
    {od_ms an_ms : Option Addr} {sl_ms : Array (Option Value)} {oc_ms kV_ms dc_ms pm_ms cd_ms ct_ms : Value}
    {od_lB an_lB : Option Addr} {sl_lB : Array (Option Value)} {oc_lB kV_lB dc_lB pm_lB cd_lB ct_lB : Value}
    {od_lN an_lN : Option Addr} {sl_lN : Array (Option Value)} {oc_lN kV_lN dc_lN pm_lN cd_lN ct_lN : Value}
    {od_lP an_lP : Option Addr} {sl_lP : Array (Option Value)} {oc_lP kV_lP dc_lP pm_lP cd_lP ct_lP : Value}
    {od_lF an_lF : Option Addr} {sl_lF : Array (Option Value)} {oc_lF kV_lF dc_lF pm_lF cd_lF ct_lF : Value}
    {od_lW an_lW : Option Addr} {sl_lW : Array (Option Value)} {oc_lW kV_lW dc_lW pm_lW cd_lW ct_lW : Value}
    {od_lL an_lL : Option Addr} {sl_lL : Array (Option Value)} {oc_lL kV_lL dc_lL pm_lL cd_lL ct_lL : Value}
    {od_lR an_lR : Option Addr} {sl_lR : Array (Option Value)} {oc_lR kV_lR dc_lR pm_lR cd_lR ct_lR : Value}
    {od_lQ an_lQ : Option Addr} {sl_lQ : Array (Option Value)} {oc_lQ kV_lQ dc_lQ pm_lQ cd_lQ ct_lQ : Value}
    {od_la an_la : Option Addr} {sl_la : Array (Option Value)} {oc_la kV_la dc_la pm_la cd_la ct_la : Value}
    {od_ini an_ini : Option Addr} {sl_ini : Array (Option Value)} {oc_ini kV_ini dc_ini pm_ini cd_ini ct_ini : Value}
    {od_ino an_ino : Option Addr} {sl_ino : Array (Option Value)} {oc_ino kV_ino dc_ino pm_ino cd_ino ct_ino : Value}
    {t_vS : Tok}
    {t_vM : Tok}
    {t_vT : Tok}
    {t_vD : Tok}
    (X : K.In h) (G : h.Ns mainGlobals mg) (hfa : mg "law" = some (.ref fa))
    (a_iN : PySem.W.nsIn K mainGlobals "is_number" = some (some (.ref f_iN)))
    (l_iN : K.lookup f_iN = some ⟨oc_iN, od_iN, .func (PySem.W.fnOf "is_number" "is_number" (defArgs sNum) (defBody sNum) (defScope sNum) .none kV_iN dc_iN pm_iN an_iN cd_iN ct_iN), sl_iN⟩) (c_iN : PySem.W.codeIn K cd_iN "is_number" = true) (k_iN : PySem.W.keepIn K (.ref f_iN) = true)
    (a_iP : PySem.W.nsIn K mainGlobals "is_piece" = some (some (.ref f_iP)))
    (l_iP : K.lookup f_iP = some ⟨oc_iP, od_iP, .func (PySem.W.fnOf "is_piece" "is_piece" (defArgs sPc) (defBody sPc) (defScope sPc) .none kV_iP dc_iP pm_iP an_iP cd_iP ct_iP), sl_iP⟩) (c_iP : PySem.W.codeIn K cd_iP "is_piece" = true) (k_iP : PySem.W.keepIn K (.ref f_iP) = true)
    (a_iS : PySem.W.nsIn K mainGlobals "is_step" = some (some (.ref f_iS)))
    (l_iS : K.lookup f_iS = some ⟨oc_iS, od_iS, .func (PySem.W.fnOf "is_step" "is_step" (defArgs sStep) (defBody sStep) (defScope sStep) .none kV_iS dc_iS pm_iS an_iS cd_iS ct_iS), sl_iS⟩) (c_iS : PySem.W.codeIn K cd_iS "is_step" = true) (k_iS : PySem.W.keepIn K (.ref f_iS) = true)
    (a_iL : PySem.W.nsIn K mainGlobals "listed_standings" = some (some (.ref f_iL)))
    (l_iL : K.lookup f_iL = some ⟨oc_iL, od_iL, .func (PySem.W.fnOf "listed_standings" "listed_standings" (defArgs sListed) (defBody sListed) (defScope sListed) .none kV_iL dc_iL pm_iL an_iL cd_iL ct_iL), sl_iL⟩) (c_iL : PySem.W.codeIn K cd_iL "listed_standings" = true) (k_iL : PySem.W.keepIn K (.ref f_iL) = true)
    (a_iW : PySem.W.nsIn K mainGlobals "ways_from" = some (some (.ref f_iW)))
    (l_iW : K.lookup f_iW = some ⟨oc_iW, od_iW, .func (PySem.W.fnOf "ways_from" "ways_from" (defArgs sWays) (defBody sWays) (defScope sWays) .none kV_iW dc_iW pm_iW an_iW cd_iW ct_iW), sl_iW⟩) (c_iW : PySem.W.codeIn K cd_iW "ways_from" = true) (k_iW : PySem.W.keepIn K (.ref f_iW) = true)
    (a_iJ : PySem.W.nsIn K mainGlobals "is_joined" = some (some (.ref f_iJ)))
    (l_iJ : K.lookup f_iJ = some ⟨oc_iJ, od_iJ, .func (PySem.W.fnOf "is_joined" "is_joined" (defArgs sJoined) (defBody sJoined) (defScope sJoined) .none kV_iJ dc_iJ pm_iJ an_iJ cd_iJ ct_iJ), sl_iJ⟩) (c_iJ : PySem.W.codeIn K cd_iJ "is_joined" = true) (k_iJ : PySem.W.keepIn K (.ref f_iJ) = true)
    (a_iF : PySem.W.nsIn K mainGlobals "need_framing" = some (some (.ref f_iF)))
    (l_iF : K.lookup f_iF = some ⟨oc_iF, od_iF, .func (PySem.W.fnOf "need_framing" "need_framing" (defArgs sNeedF) (defBody sNeedF) (defScope sNeedF) .none kV_iF dc_iF pm_iF an_iF cd_iF ct_iF), sl_iF⟩) (c_iF : PySem.W.codeIn K cd_iF "need_framing" = true) (k_iF : PySem.W.keepIn K (.ref f_iF) = true)
    (a_fL : PySem.W.nsIn K mainGlobals "follows_as_line" = some (some (.ref f_fL)))
    (l_fL : K.lookup f_fL = some ⟨oc_fL, od_fL, .func (PySem.W.fnOf "follows_as_line" "follows_as_line" (defArgs sFol) (defBody sFol) (defScope sFol) .none kV_fL dc_fL pm_fL an_fL cd_fL ct_fL), sl_fL⟩) (c_fL : PySem.W.codeIn K cd_fL "follows_as_line" = true) (k_fL : PySem.W.keepIn K (.ref f_fL) = true)
    (a_iI : PySem.W.nsIn K mainGlobals "is_line" = some (some (.ref f_iI)))
    (l_iI : K.lookup f_iI = some ⟨oc_iI, od_iI, .func (PySem.W.fnOf "is_line" "is_line" (defArgs sLine) (defBody sLine) (defScope sLine) .none kV_iI dc_iI pm_iI an_iI cd_iI ct_iI), sl_iI⟩) (c_iI : PySem.W.codeIn K cd_iI "is_line" = true) (k_iI : PySem.W.keepIn K (.ref f_iI) = true)
    (a_lT : PySem.W.nsIn K mainGlobals "line_text" = some (some (.ref f_lT)))
    (l_lT : K.lookup f_lT = some ⟨oc_lT, od_lT, .func (PySem.W.fnOf "line_text" "line_text" (defArgs sLT) (defBody sLT) (defScope sLT) .none kV_lT dc_lT pm_lT an_lT cd_lT ct_lT), sl_lT⟩) (c_lT : PySem.W.codeIn K cd_lT "line_text" = true) (k_lT : PySem.W.keepIn K (.ref f_lT) = true)
    (a_ms : PySem.W.nsIn K mainGlobals "message" = some (some (.ref f_ms)))
    (l_ms : K.lookup f_ms = some ⟨oc_ms, od_ms, .func (PySem.W.fnOf "message" "message" (defArgs sMsg) (defBody sMsg) (defScope sMsg) .none kV_ms dc_ms pm_ms an_ms cd_ms ct_ms), sl_ms⟩) (c_ms : PySem.W.codeIn K cd_ms "message" = true) (k_ms : PySem.W.keepIn K (.ref f_ms) = true)
    (a_lB : PySem.W.nsIn K mainGlobals "_law_begun" = some (some (.ref f_lB)))
    (l_lB : K.lookup f_lB = some ⟨oc_lB, od_lB, .func (PySem.W.fnOf "_law_begun" "_law_begun" (defArgs sBegun) (defBody sBegun) (defScope sBegun) .none kV_lB dc_lB pm_lB an_lB cd_lB ct_lB), sl_lB⟩) (c_lB : PySem.W.codeIn K cd_lB "_law_begun" = true) (k_lB : PySem.W.keepIn K (.ref f_lB) = true)
    (a_lN : PySem.W.nsIn K mainGlobals "_law_next" = some (some (.ref f_lN)))
    (l_lN : K.lookup f_lN = some ⟨oc_lN, od_lN, .func (PySem.W.fnOf "_law_next" "_law_next" (defArgs sNext) (defBody sNext) (defScope sNext) .none kV_lN dc_lN pm_lN an_lN cd_lN ct_lN), sl_lN⟩) (c_lN : PySem.W.codeIn K cd_lN "_law_next" = true) (k_lN : PySem.W.keepIn K (.ref f_lN) = true)
    (a_lP : PySem.W.nsIn K mainGlobals "_law_piece" = some (some (.ref f_lP)))
    (l_lP : K.lookup f_lP = some ⟨oc_lP, od_lP, .func (PySem.W.fnOf "_law_piece" "_law_piece" (defArgs sPiece) (defBody sPiece) (defScope sPiece) .none kV_lP dc_lP pm_lP an_lP cd_lP ct_lP), sl_lP⟩) (c_lP : PySem.W.codeIn K cd_lP "_law_piece" = true) (k_lP : PySem.W.keepIn K (.ref f_lP) = true)
    (a_lF : PySem.W.nsIn K mainGlobals "_law_framing" = some (some (.ref f_lF)))
    (l_lF : K.lookup f_lF = some ⟨oc_lF, od_lF, .func (PySem.W.fnOf "_law_framing" "_law_framing" (defArgs sFraming) (defBody sFraming) (defScope sFraming) .none kV_lF dc_lF pm_lF an_lF cd_lF ct_lF), sl_lF⟩) (c_lF : PySem.W.codeIn K cd_lF "_law_framing" = true) (k_lF : PySem.W.keepIn K (.ref f_lF) = true)
    (a_lW : PySem.W.nsIn K mainGlobals "_law_is_whole" = some (some (.ref f_lW)))
    (l_lW : K.lookup f_lW = some ⟨oc_lW, od_lW, .func (PySem.W.fnOf "_law_is_whole" "_law_is_whole" (defArgs sIsW) (defBody sIsW) (defScope sIsW) .none kV_lW dc_lW pm_lW an_lW cd_lW ct_lW), sl_lW⟩) (c_lW : PySem.W.codeIn K cd_lW "_law_is_whole" = true) (k_lW : PySem.W.keepIn K (.ref f_lW) = true)
    (a_lL : PySem.W.nsIn K mainGlobals "_law_is_line" = some (some (.ref f_lL)))
    (l_lL : K.lookup f_lL = some ⟨oc_lL, od_lL, .func (PySem.W.fnOf "_law_is_line" "_law_is_line" (defArgs sLL) (defBody sLL) (defScope sLL) .none kV_lL dc_lL pm_lL an_lL cd_lL ct_lL), sl_lL⟩) (c_lL : PySem.W.codeIn K cd_lL "_law_is_line" = true) (k_lL : PySem.W.keepIn K (.ref f_lL) = true)
    (a_lR : PySem.W.nsIn K mainGlobals "_law_is_refused" = some (some (.ref f_lR)))
    (l_lR : K.lookup f_lR = some ⟨oc_lR, od_lR, .func (PySem.W.fnOf "_law_is_refused" "_law_is_refused" (defArgs sRef) (defBody sRef) (defScope sRef) .none kV_lR dc_lR pm_lR an_lR cd_lR ct_lR), sl_lR⟩) (c_lR : PySem.W.codeIn K cd_lR "_law_is_refused" = true) (k_lR : PySem.W.keepIn K (.ref f_lR) = true)
    (a_lQ : PySem.W.nsIn K mainGlobals "_law_lines" = some (some (.ref f_lQ)))
    (l_lQ : K.lookup f_lQ = some ⟨oc_lQ, od_lQ, .func (PySem.W.fnOf "_law_lines" "_law_lines" (defArgs sLines) (defBody sLines) (defScope sLines) .none kV_lQ dc_lQ pm_lQ an_lQ cd_lQ ct_lQ), sl_lQ⟩) (c_lQ : PySem.W.codeIn K cd_lQ "_law_lines" = true) (k_lQ : PySem.W.keepIn K (.ref f_lQ) = true)
    (a_la : PySem.W.nsIn K mainGlobals "law" = some (some (.ref f_la)))
    (l_la : K.lookup f_la = some ⟨oc_la, od_la, .func (PySem.W.fnOf "law" "law" (defArgs sLaw) (defBody sLaw) (defScope sLaw) .none kV_la dc_la pm_la an_la cd_la ct_la), sl_la⟩) (c_la : PySem.W.codeIn K cd_la "law" = true) (k_la : PySem.W.keepIn K (.ref f_la) = true)
    (aC : PySem.W.nsIn K mainGlobals "BadFraming" = some (some (.ref C)))
    (OXC : OxC K C "ValueError" "ValueError.__new__" "ValueError.__init__" [.type "ValueError", .type "Exception", .type "BaseException", .type "object"])
    (iCC : PySem.W.findIn K (.ref C) "__init__" = some (some (.ref f_ini))) (tIC : PySem.W.typeIn K (.ref f_ini) = some (.type "function"))
    (n0 : PySem.W.findIn K (.ref C) "number" = some none)
    (l_ini : K.lookup f_ini = some ⟨oc_ini, od_ini, .func (PySem.W.fnOf "__init__" "BadFraming.__init__" (defArgs sBadFraming) (defBody sBadFraming) (defScope sBadFraming) .none kV_ini dc_ini pm_ini an_ini cd_ini ct_ini), sl_ini⟩) (c_ini : PySem.W.codeIn K cd_ini "BadFraming.__init__" = true) (k_ini : PySem.W.keepIn K (.ref f_ini) = true)
    (suC : PySem.W.subIn K (.ref C) (.type "BaseException") = some true) (tyC : PySem.W.typeIn K (.ref C) = some (.type "type")) (owC : PySem.W.subIn K (.ref C) (.ref C) = some true)
    (aD : PySem.W.nsIn K mainGlobals "OutOfPlace" = some (some (.ref D)))
    (OXD : OxC K D "ValueError" "ValueError.__new__" "ValueError.__init__" [.type "ValueError", .type "Exception", .type "BaseException", .type "object"])
    (iCD : PySem.W.findIn K (.ref D) "__init__" = some (some (.ref f_ino))) (tID : PySem.W.typeIn K (.ref f_ino) = some (.type "function"))
    (l_ino : K.lookup f_ino = some ⟨oc_ino, od_ino, .func (PySem.W.fnOf "__init__" "OutOfPlace.__init__" (defArgs sOutOfPlace) (defBody sOutOfPlace) (defScope sOutOfPlace) .none kV_ino dc_ino pm_ino an_ino cd_ino ct_ino), sl_ino⟩) (c_ino : PySem.W.codeIn K cd_ino "OutOfPlace.__init__" = true) (k_ino : PySem.W.keepIn K (.ref f_ino) = true)
    (suD : PySem.W.subIn K (.ref D) (.type "BaseException") = some true) (tyD : PySem.W.typeIn K (.ref D) = some (.type "type")) (owD : PySem.W.subIn K (.ref D) (.ref D) = some true)
    (g_vS : PySem.W.nsIn K mainGlobals "SIGNS" = some (some (.str "abcdefghijklmnopqrstuvwxyz0123456789@" t_vS)))
    (g_vM : PySem.W.nsIn K mainGlobals "MOST_SIGNS" = some (some (.int 8 t_vM)))
    (g_vT : PySem.W.nsIn K mainGlobals "MOST_STEPS" = some (some (.int 16 t_vT)))
    (g_vD : PySem.W.nsIn K mainGlobals "MANY_STANDINGS" = some (some (.int 6 t_vD)))
    (z_isinstance : PySem.W.nsIn K mainGlobals "isinstance" = some none)
    (z_int : PySem.W.nsIn K mainGlobals "int" = some none)
    (z_bool : PySem.W.nsIn K mainGlobals "bool" = some none)
    (z_str : PySem.W.nsIn K mainGlobals "str" = some none)
    (z_tuple : PySem.W.nsIn K mainGlobals "tuple" = some none)
    (z_len : PySem.W.nsIn K mainGlobals "len" = some none)
    (z_all : PySem.W.nsIn K mainGlobals "all" = some none)
    (z_sorted : PySem.W.nsIn K mainGlobals "sorted" = some none)
    (z_enumerate : PySem.W.nsIn K mainGlobals "enumerate" = some none)
    (z_list : PySem.W.nsIn K mainGlobals "list" = some none)
    (z_range : PySem.W.nsIn K mainGlobals "range" = some none)
    (z_min : PySem.W.nsIn K mainGlobals "min" = some none)
    (z_set : PySem.W.nsIn K mainGlobals "set" = some none)
    (z_repr : PySem.W.nsIn K mainGlobals "repr" = some none)
    (z_ValueError : PySem.W.nsIn K mainGlobals "ValueError" = some none)
    (v_V : PySem.W.findCls K (.type "ValueError") (.type "type") "__init__" = some (.val (.builtin "ValueError.__init__"))) :
    ∃ fd : FuncData, (∀ (s : Shared) (u : Value), BindsTo s fd ⟨[u], []⟩ [("script", u)]) ∧ ∀ base : Heap, K.In base → base.Ns mainGlobals mg → FnG P w K mg base CX0 7 fa fd ["script"] (spLaw K) := by
  have e := hfa.symm.trans (PySem.W.mg_of X G a_la)
  cases e
  have F_iN := fun_mk (st := sNum) l_iN c_iN k_iN
  have b_iN := F_iN.binds (ps := ["thing", "many"]) fun _ _ _ _ _ _ us hl => match us, hl with | [_, _], _ => rfl
  have m_iN := PySem.W.mg_of X G a_iN
  have F_iP := fun_mk (st := sPc) l_iP c_iP k_iP
  have b_iP := F_iP.binds (ps := ["thing"]) fun _ _ _ _ _ _ us hl => match us, hl with | [_], _ => rfl
  have m_iP := PySem.W.mg_of X G a_iP
  have F_iS := fun_mk (st := sStep) l_iS c_iS k_iS
  have b_iS := F_iS.binds (ps := ["thing"]) fun _ _ _ _ _ _ us hl => match us, hl with | [_], _ => rfl
  have m_iS := PySem.W.mg_of X G a_iS
  have F_iL := fun_mk (st := sListed) l_iL c_iL k_iL
  have b_iL := F_iL.binds (ps := ["framing"]) fun _ _ _ _ _ _ us hl => match us, hl with | [_], _ => rfl
  have m_iL := PySem.W.mg_of X G a_iL
  have F_iW := fun_mk (st := sWays) l_iW c_iW k_iW
  have b_iW := F_iW.binds (ps := ["framing", "begin"]) fun _ _ _ _ _ _ us hl => match us, hl with | [_, _], _ => rfl
  have m_iW := PySem.W.mg_of X G a_iW
  have F_iJ := fun_mk (st := sJoined) l_iJ c_iJ k_iJ
  have b_iJ := F_iJ.binds (ps := ["framing"]) fun _ _ _ _ _ _ us hl => match us, hl with | [_], _ => rfl
  have m_iJ := PySem.W.mg_of X G a_iJ
  have F_iF := fun_mk (st := sNeedF) l_iF c_iF k_iF
  have b_iF := F_iF.binds (ps := ["thing"]) fun _ _ _ _ _ _ us hl => match us, hl with | [_], _ => rfl
  have m_iF := PySem.W.mg_of X G a_iF
  have F_fL := fun_mk (st := sFol) l_fL c_fL k_fL
  have b_fL := F_fL.binds (ps := ["framing", "numbers"]) fun _ _ _ _ _ _ us hl => match us, hl with | [_, _], _ => rfl
  have m_fL := PySem.W.mg_of X G a_fL
  have F_iI := fun_mk (st := sLine) l_iI c_iI k_iI
  have b_iI := F_iI.binds (ps := ["framing", "thing"]) fun _ _ _ _ _ _ us hl => match us, hl with | [_, _], _ => rfl
  have m_iI := PySem.W.mg_of X G a_iI
  have F_lT := fun_mk (st := sLT) l_lT c_lT k_lT
  have b_lT := F_lT.binds (ps := ["framing", "line"]) fun _ _ _ _ _ _ us hl => match us, hl with | [_, _], _ => rfl
  have m_lT := PySem.W.mg_of X G a_lT
  have F_ms := fun_mk (st := sMsg) l_ms c_ms k_ms
  have b_ms := F_ms.binds (ps := ["text"]) fun _ _ _ _ _ _ us hl => match us, hl with | [_], _ => rfl
  have m_ms := PySem.W.mg_of X G a_ms
  have F_lB := fun_mk (st := sBegun) l_lB c_lB k_lB
  have b_lB := F_lB.binds (ps := ["script"]) fun _ _ _ _ _ _ us hl => match us, hl with | [_], _ => rfl
  have m_lB := PySem.W.mg_of X G a_lB
  have F_lN := fun_mk (st := sNext) l_lN c_lN k_lN
  have b_lN := F_lN.binds (ps := ["m", "many"]) fun _ _ _ _ _ _ us hl => match us, hl with | [_, _], _ => rfl
  have m_lN := PySem.W.mg_of X G a_lN
  have F_lP := fun_mk (st := sPiece) l_lP c_lP k_lP
  have b_lP := F_lP.binds (ps := ["m", "is_end"]) fun _ _ _ _ _ _ us hl => match us, hl with | [_, _], _ => rfl
  have m_lP := PySem.W.mg_of X G a_lP
  have F_lF := fun_mk (st := sFraming) l_lF c_lF k_lF
  have b_lF := F_lF.binds (ps := ["m", "most"]) fun _ _ _ _ _ _ us hl => match us, hl with | [_, _], _ => rfl
  have m_lF := PySem.W.mg_of X G a_lF
  have F_lW := fun_mk (st := sIsW) l_lW c_lW k_lW
  have b_lW := F_lW.binds (ps := ["thing", "least", "most"]) fun _ _ _ _ _ _ us hl => match us, hl with | [_, _, _], _ => rfl
  have m_lW := PySem.W.mg_of X G a_lW
  have F_lL := fun_mk (st := sLL) l_lL c_lL k_lL
  have b_lL := F_lL.binds (ps := ["framing", "thing"]) fun _ _ _ _ _ _ us hl => match us, hl with | [_, _], _ => rfl
  have m_lL := PySem.W.mg_of X G a_lL
  have F_lR := fun_mk (st := sRef) l_lR c_lR k_lR
  have b_lR := F_lR.binds (ps := ["framing", "thing"]) fun _ _ _ _ _ _ us hl => match us, hl with | [_, _], _ => rfl
  have m_lR := PySem.W.mg_of X G a_lR
  have F_lQ := fun_mk (st := sLines) l_lQ c_lQ k_lQ
  have b_lQ := F_lQ.binds (ps := ["framing"]) fun _ _ _ _ _ _ us hl => match us, hl with | [_], _ => rfl
  have m_lQ := PySem.W.mg_of X G a_lQ
  have F_la := fun_mk (st := sLaw) l_la c_la k_la
  have b_la := F_la.binds (ps := ["script"]) fun _ _ _ _ _ _ us hl => match us, hl with | [_], _ => rfl
  have m_la := PySem.W.mg_of X G a_la
  have F_ini := fun_mk (st := sBadFraming) l_ini c_ini k_ini
  have b_ini := F_ini.binds (ps := ["self", "number"]) fun _ _ _ _ _ _ us hl => match us, hl with | [_, _], _ => rfl
  have F_ino := fun_mk (st := sOutOfPlace) l_ino c_ino k_ino
  have b_ino := F_ino.binds (ps := ["self", "text"]) fun _ _ _ _ _ _ us hl => match us, hl with | [_, _], _ => rfl
  have y_isinstance := PySem.W.mg_none_of X G z_isinstance
  have y_int := PySem.W.mg_none_of X G z_int
  have y_bool := PySem.W.mg_none_of X G z_bool
  have y_str := PySem.W.mg_none_of X G z_str
  have y_tuple := PySem.W.mg_none_of X G z_tuple
  have y_len := PySem.W.mg_none_of X G z_len
  have y_all := PySem.W.mg_none_of X G z_all
  have y_sorted := PySem.W.mg_none_of X G z_sorted
  have y_enumerate := PySem.W.mg_none_of X G z_enumerate
  have y_list := PySem.W.mg_none_of X G z_list
  have y_range := PySem.W.mg_none_of X G z_range
  have y_min := PySem.W.mg_none_of X G z_min
  have y_set := PySem.W.mg_none_of X G z_set
  have y_repr := PySem.W.mg_none_of X G z_repr
  have y_ValueError := PySem.W.mg_none_of X G z_ValueError
  have x_vS := PySem.W.mg_of X G g_vS
  have x_vM := PySem.W.mg_of X G g_vM
  have x_vT := PySem.W.mg_of X G g_vT
  have x_vD := PySem.W.mg_of X G g_vD
  have TF : TxtF mg := ⟨y_isinstance, y_int, y_bool, y_str, y_tuple, y_len, y_all, ⟨_, x_vS⟩, ⟨_, x_vM⟩, ⟨_, x_vD⟩⟩
  have TD : TxtD mg := ⟨y_list, y_int, y_len⟩
  have IV : BI K mg "ValueError" "ValueError" "ValueError.__init__" := ⟨y_ValueError, by decide +kernel, by kernel_rfl, v_V, by decide +kernel⟩
  let zO : Bfr K mg := { C := C, f := f_ini, d := _, T := OXC, I := IV, F := F_ini, b := b_ini, m := PySem.W.mg_of X G aC, iC := iCC, tI := tIC, n0 := n0, su := suC, ty := tyC, own := owC }
  let zP : Oop K mg := { C := D, f := f_ino, d := _, fM := f_ms, dM := _, T := OXD, I := IV, F := F_ino, b := b_ino, FM := F_ms, bM := b_ms, mM := m_ms, TM := ⟨y_isinstance, y_str⟩, m := PySem.W.mg_of X G aD, iC := iCD, tI := tID, su := suD, ty := tyD, own := owD }
  let zF : Fs K mg := { B := zO, fN := f_iN, dN := _, N := F_iN, bN := b_iN, mN := m_iN, fP := f_iP, dP := _, P := F_iP, bP := b_iP, mP := m_iP, fS := f_iS, dS := _, S := F_iS, bS := b_iS, mS := m_iS, fL := f_iL, dL := _, L := F_iL, bL := b_iL, mL := m_iL, fW := f_iW, dW := _, W := F_iW, bW := b_iW, mW := m_iW, fJ := f_iJ, dJ := _, J := F_iJ, bJ := b_iJ, mJ := m_iJ, fF := f_iF, dF := _, F := F_iF, bF := b_iF, mF := m_iF, T := TF, so := y_sorted, en := y_enumerate, ms := ⟨_, x_vT⟩ }
  let zJ : Ln K mg := { W := zF, fO := f_fL, fL := f_iI, dO := _, dL := _, O := F_fL, L := F_iI, bO := b_fL, bL := b_iI, mO := m_fL, mL := m_iI }
  let zQ : Lq K mg := { W := zJ, ra := y_range, f := f_lQ, d := _, F := F_lQ, b := b_lQ, m := m_lQ }
  let zK : Ll K mg := { W := zJ, f1 := f_lW, d1 := _, F1 := F_lW, b1 := b_lW, m1 := m_lW, f2 := f_lL, d2 := _, F2 := F_lL, b2 := b_lL, m2 := m_lL }
  let zT : Lt K mg := { W := zJ, O := zP, f1 := f_lT, d1 := _, F1 := F_lT, b1 := b_lT, m1 := m_lT, f2 := f_lR, d2 := _, F2 := F_lR, b2 := b_lR, m2 := m_lR }
  let zL : Ls K mg := { f1 := f_lN, d1 := _, N := F_lN, bN := b_lN, mN := m_lN, T := TD, ra := y_range, f2 := f_lP, d2 := _, P := F_lP, bP := b_lP, mP := m_lP }
  let zG : Lf K mg := { L := zL, f := f_lF, d := _, F := F_lF, b := b_lF, g := m_lF, so := y_sorted, tu := y_tuple, se := y_set }
  let zA : Lall K mg := { G := zG, Y := zQ, L := zK, T := zT, fB := f_lB, dB := _, Be := F_lB, bB := b_lB, mB := m_lB, mi := y_min, re := y_repr }
  exact ⟨PySem.W.fnOf "law" "law" (defArgs sLaw) (defBody sLaw) (defScope sLaw) .none kV_la dc_la pm_la an_la cd_la ct_la, fun s u => .of_eq rfl, fun base _ _ => ok_law zA F_la⟩
theorem walk {l : PySem.W.OpenLaw} {q : Program} {loose : List Str} {XP : (Str → Option Value) → Heap → Prop} {YP : World → Heap → Prop} {d : DefRec} {K : Params → PySem.W.Frag} (hn : l.most = some 63) (hdf : d.params.defaults = [])
    (hY : ∀ (w : World) (h : Heap), YP w h → (K w.params).In h)
    (F : ∀ (w : World) (mg : Str → Option Value) (fa : Addr) (h : Heap), (K w.params).In h → h.Ns mainGlobals mg → mg d.name = some (.ref fa) →
      ∃ fd : FuncData, (∀ (s : Shared) (u : Value), BindsTo s fd ⟨[u], []⟩ [("script", u)]) ∧ ∀ base : Heap, (K w.params).In base → base.Ns mainGlobals mg → FnG l.prog w (K w.params) mg base CX0 7 fa fd ["script"] (spLaw (K w.params))) :
    PySem.W.WalkO q loose XP YP l.row.toRowW d [] (fun f vs => PySem.call f vs) :=
  walk_ofG (n := 63) (k := 7) (x := "script") (sp := spLaw) hn (by decide) hdf ⟨rfl, by decide, by decide⟩ hY F (fun _ _ a ns hl _ hS => ⟨a, ns, rfl, hS, hl, fun _ => rfl⟩)
end K04

set_option Elab.async false
set_option maxRecDepth 100000
open PySem PySem.W PyProof.Rows
set_option maxRecDepth 100000 in
set_option maxHeartbeats 0 in
theorem PySem.Challenge.cw_tornlines_k04_whole_lines_holds : PySem.Challenge.rw_tornlines_k04_whole_lines.Holds := by
  w_on; o_law; k_head; (case hw => w_witness2)
  k_fill
  refine K04.walk (l := PySem.Challenge.rw_tornlines_k04_whole_lines) rfl rfl (fun w h Y => by first | exact PySem.W.kIn_of Y | exact PySem.W.km_in_of Y) ?F
  case F =>
    intro w mg fa h KX G hmg
    refine' K04.all_mk KX G hmg ?a_iN ?l_iN ?c_iN ?k_iN ?a_iP ?l_iP ?c_iP ?k_iP ?a_iS ?l_iS ?c_iS ?k_iS ?a_iL ?l_iL ?c_iL ?k_iL ?a_iW ?l_iW ?c_iW ?k_iW ?a_iJ ?l_iJ ?c_iJ ?k_iJ ?a_iF ?l_iF ?c_iF ?k_iF ?a_fL ?l_fL ?c_fL ?k_fL ?a_iI ?l_iI ?c_iI ?k_iI ?a_lT ?l_lT ?c_lT ?k_lT ?a_ms ?l_ms ?c_ms ?k_ms ?a_lB ?l_lB ?c_lB ?k_lB ?a_lN ?l_lN ?c_lN ?k_lN ?a_lP ?l_lP ?c_lP ?k_lP ?a_lF ?l_lF ?c_lF ?k_lF ?a_lW ?l_lW ?c_lW ?k_lW ?a_lL ?l_lL ?c_lL ?k_lL ?a_lR ?l_lR ?c_lR ?k_lR ?a_lQ ?l_lQ ?c_lQ ?k_lQ ?a_la ?l_la ?c_la ?k_la ?aC ?OXC ?iCC ?tIC ?n0 ?l_ini ?c_ini ?k_ini ?suC ?tyC ?owC ?aD ?OXD ?iCD ?tID ?l_ino ?c_ino ?k_ino ?suD ?tyD ?owD ?g_vS ?g_vM ?g_vT ?g_vD ?z_isinstance ?z_int ?z_bool ?z_str ?z_tuple ?z_len ?z_all ?z_sorted ?z_enumerate ?z_list ?z_range ?z_min ?z_set ?z_repr ?z_ValueError ?v_V
    (case a_iN => k_is)
    (case l_iN => k_is)
    (case c_iN => k_is)
    (case k_iN => k_is)
    (case a_iP => k_is)
    (case l_iP => k_is)
    (case c_iP => k_is)
    (case k_iP => k_is)
    (case a_iS => k_is)
    (case l_iS => k_is)
    (case c_iS => k_is)
    (case k_iS => k_is)
    (case a_iL => k_is)
    (case l_iL => k_is)
    (case c_iL => k_is)
    (case k_iL => k_is)
    (case a_iW => k_is)
    (case l_iW => k_is)
    (case c_iW => k_is)
    (case k_iW => k_is)
    (case a_iJ => k_is)
    (case l_iJ => k_is)
    (case c_iJ => k_is)
    (case k_iJ => k_is)
    (case a_iF => k_is)
    (case l_iF => k_is)
    (case c_iF => k_is)
    (case k_iF => k_is)
    (case a_fL => k_is)
    (case l_fL => k_is)
    (case c_fL => k_is)
    (case k_fL => k_is)
    (case a_iI => k_is)
    (case l_iI => k_is)
    (case c_iI => k_is)
    (case k_iI => k_is)
    (case a_lT => k_is)
    (case l_lT => k_is)
    (case c_lT => k_is)
    (case k_lT => k_is)
    (case a_ms => k_is)
    (case l_ms => k_is)
    (case c_ms => k_is)
    (case k_ms => k_is)
    (case a_lB => k_is)
    (case l_lB => k_is)
    (case c_lB => k_is)
    (case k_lB => k_is)
    (case a_lN => k_is)
    (case l_lN => k_is)
    (case c_lN => k_is)
    (case k_lN => k_is)
    (case a_lP => k_is)
    (case l_lP => k_is)
    (case c_lP => k_is)
    (case k_lP => k_is)
    (case a_lF => k_is)
    (case l_lF => k_is)
    (case c_lF => k_is)
    (case k_lF => k_is)
    (case a_lW => k_is)
    (case l_lW => k_is)
    (case c_lW => k_is)
    (case k_lW => k_is)
    (case a_lL => k_is)
    (case l_lL => k_is)
    (case c_lL => k_is)
    (case k_lL => k_is)
    (case a_lR => k_is)
    (case l_lR => k_is)
    (case c_lR => k_is)
    (case k_lR => k_is)
    (case a_lQ => k_is)
    (case l_lQ => k_is)
    (case c_lQ => k_is)
    (case k_lQ => k_is)
    (case a_la => k_is)
    (case l_la => k_is)
    (case c_la => k_is)
    (case k_la => k_is)
    (case aC => k_is)
    case OXC =>
      refine' K04.oxc ?cl PySem.F.excBase_ValueError (fun self => PySem.F.store_ValueError.passes self) (by decide +kernel) ?sa ?ga ?gg ?exC ?kC ?hd ?ca ?cn ?ct ?om
      (case cl => k_is)
      (case sa => k_is)
      (case ga => k_is)
      (case gg => k_is)
      (case exC => k_is)
      (case kC => k_is)
      (case hd => k_is)
      (case ca => k_is)
      (case cn => k_is)
      (case ct => k_is)
      (case om => k_is)
    (case iCC => k_is)
    (case tIC => k_is)
    (case n0 => k_is)
    (case l_ini => k_is)
    (case c_ini => k_is)
    (case k_ini => k_is)
    (case suC => k_is)
    (case tyC => k_is)
    (case owC => k_is)
    (case aD => k_is)
    case OXD =>
      refine' K04.oxc ?cl PySem.F.excBase_ValueError (fun self => PySem.F.store_ValueError.passes self) (by decide +kernel) ?sa ?ga ?gg ?exC ?kC ?hd ?ca ?cn ?ct ?om
      (case cl => k_is)
      (case sa => k_is)
      (case ga => k_is)
      (case gg => k_is)
      (case exC => k_is)
      (case kC => k_is)
      (case hd => k_is)
      (case ca => k_is)
      (case cn => k_is)
      (case ct => k_is)
      (case om => k_is)
    (case iCD => k_is)
    (case tID => k_is)
    (case l_ino => k_is)
    (case c_ino => k_is)
    (case k_ino => k_is)
    (case suD => k_is)
    (case tyD => k_is)
    (case owD => k_is)
    (case g_vS => k_is)
    (case g_vM => k_is)
    (case g_vT => k_is)
    (case g_vD => k_is)
    (case z_isinstance => k_is)
    (case z_int => k_is)
    (case z_bool => k_is)
    (case z_str => k_is)
    (case z_tuple => k_is)
    (case z_len => k_is)
    (case z_all => k_is)
    (case z_sorted => k_is)
    (case z_enumerate => k_is)
    (case z_list => k_is)
    (case z_range => k_is)
    (case z_min => k_is)
    (case z_set => k_is)
    (case z_repr => k_is)
    (case z_ValueError => k_is)
    (case v_V => k_is)
#print axioms PySem.Challenge.cw_tornlines_k04_whole_lines_holds
