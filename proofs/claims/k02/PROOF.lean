import PyProof.Rows.All
import Wide.All
import OpenK.AllK
import Wide.FinOn
import KE.KExcInit
import KE.KExcIs
import HandS.ForMost
import HandS.Exc
import HandS.ExcInit
import HandS.Defaults
import HandS.IsInst
import HandS.Conv
import HandS.Small
import HandS.SortRule
import HandS.TupLe
import HandS.NamedTupSort
import PyProof.Rows.SortKeyStr
import PyProof.FString5
import HandS.StrMore
import HandS.Walk
import PyProof.Rows.StrLen
import PyProof.StrLawsAffix
import HandS.Set
import HandS.Strs
import HandS.SetBool
import KE.GoesMore
import HandS.TupAny
import HandS.TryMany
import HandS.ExcValue
import HandS.ExcOwn
import HandS.ExcField
import HandS.WordsExc
import HandS.Text
import HandS.TupSets
import HandS.Deep
import HandS.SetFor
import HandS.SortInts
import PyProof.ReprRoads
import HandS.ExcIs
import HandS.TupMul
import PySem.Challenge.RW_tornlines_k02_whole_faults_of_framings
set_option Elab.async false
set_option linter.all false
set_option maxRecDepth 100000
set_option maxHeartbeats 4000000
/-! Own exception classes over any built-in base: made with positional or keyword arguments, kept as values, their fields read, asked by isinstance. -/
namespace EV
open PySem PySem.W PySem.Calls PyProof.Rows PySem.HandSPX
open Builtin Builtin.ObjectAttr
section
variable {prog : Program} {w : World} {A : Around} {E : Value → Shared → Prop} {R : Result → Shared → Prop}
variable {hp : Heap} {g : Array GenState} {d : Drawn} {t : Nat} {os : OsState}
/-- an exception's first field, whatever its base -/
theorem put_first {K : W.Frag} {nm : Str} {tk : Tok} {v : Value} {x C : Addr} {fv : Array Value} {cd : ClassData}
    (X : K.In hp) (hx : hp.get? x = some { cls := .ref C, data := .fields fv }) (hcd : W.clsIn K C = some cd)
    (pas : refuseLoop (.ref x) "__setattr__" cd.mro = pure ()) (hob : cd.mro.contains (.type "object") = true) (hne : cd.mro.isEmpty = false)
    (hh : cd.hasDict = true) (ha : W.findIn K (.ref C) nm = some none)
    (hq : ∀ h' tk' dx, (∀ b o, b ≠ x → hp.get? b = some o → h'.get? b = some o) → hp.objs.size ≤ dx → dx ≠ x →
      h'.get? x = some { cls := .ref C, dict := some dx, data := .fields fv } → h'.Ns1 dx (fun y => if y = nm then some v else none) →
      R (.ok (.ret .none)) ⟨h', g, d, tk', os⟩) :
    codeAny (model prog w) A (.call (.builtin "object.__setattr__") ⟨[.ref x, .str nm tk, v], []⟩) R ⟨hp, g, d, t, os⟩ := by
  have J : W.InstAt hp x { cls := .ref C, data := .fields fv } C none := ⟨hx, rfl, rfl, trivial⟩
  have hxs : x ≠ hp.objs.size := Nat.ne_of_lt (Heap.lt_size hx)
  have isO : W.Looks (model prog w) hp (isInstance (.ref x) (.type "object")) true :=
    J.type.andThen (W.looks_mroIn X (by unfold W.mroIn; rw [hcd, Option.bind_some, if_neg (by rw [hne]; decide), hob]))
  refine codeAny_call_builtin F.store_object.slot.plain F.store_object.entry
    (@W.check_slot (model prog w) _ _ ⟨hp, g, d, t, os⟩ "object.__setattr__" "object" "__setattr__" (.ref x) [.str nm tk, v] [] _
      F.store_object.kind F.store_object.split isO (F.store_object.args (.ref x) (.str nm tk) v) ?_)
  have order : W.Looks (model prog w) hp (mroOf (.ref C)) cd.mro := (W.looks_clsIn X hcd).andThen .now
  have taker : W.Looks (model prog w) hp (storeTaker? none) none := .now
  have data : W.Looks (model prog w) hp (classData C) cd := W.looks_clsIn X hcd
  rw [W.osa_eq, refuse_eq]
  refine wpAny_bind (wpAny_bind (J.type.at (wpAny_bind (order.at ?_))))
  rw [pas]
  refine wpAny_pure (wpAny_bind (J.type.at (wpAny_bind ((W.looks_findIn X ha).at (wpAny_bind (taker.at ?_))))))
  show wpAny _ _ (storeInOwnDict (.ref x) (.ref C) (.str nm tk) nm v false) _ _ _
  obtain ⟨q1, q2, q3, q4, q5, q6, q7, q8, q9, q10, q11⟩ := cd
  dsimp only at hh
  subst hh
  unfold storeInOwnDict ownDictForStores
  repeat (first
    | with_reducible refine store_in_new ?_ ?_
    | with_reducible refine wpAny_loadPart_at hx ?_
    | with_reducible refine data.at ?_
    | wp_step)
  · exact ⟨_, #[], _, (Heap.get?_update_ne _ _ _ _ hxs.symm).trans (Heap.get?_push_at rfl rfl), rfl, fun e he => absurd he (by simp), fun _ => rfl⟩
  · intro h' tk' nsd same
    have hx1 : (hp.push { cls := .type "dict", data := .dict #[] }).get? x = some { cls := .ref C, data := .fields fv } := Heap.get?_push_of_some _ hx
    refine hq h' tk' hp.objs.size (fun b o nb q => ?_) (Nat.le_refl _) hxs.symm ?_ nsd
    · exact (same.2 b (Nat.ne_of_lt (Heap.lt_size q))).trans
        ((Heap.get?_update_ne _ _ _ _ nb).trans (Heap.get?_push_of_some _ q))
    · exact (same.2 x hxs).trans (Heap.get?_update_self _ hx1 rfl)
/-- a further field -/
theorem put_more {K : W.Frag} {nm : Str} {tk : Tok} {v : Value} {x C dx : Addr} {fv : Array Value} {cd : ClassData} {m0 : Str → Option Value} {nl : List Str}
    (X : K.In hp) (hx : hp.get? x = some { cls := .ref C, dict := some dx, data := .fields fv }) (nsd : hp.Ns1 dx m0) (wi : Within m0 nl) (hz : nl.length ≤ 1000)
    (hcd : W.clsIn K C = some cd) (pas : refuseLoop (.ref x) "__setattr__" cd.mro = pure ()) (hob : cd.mro.contains (.type "object") = true)
    (hne : cd.mro.isEmpty = false) (hh : cd.hasDict = true) (ha : W.findIn K (.ref C) nm = some none)
    (hq : ∀ h' tk', (∀ b o, b ≠ dx → hp.get? b = some o → h'.get? b = some o) → h'.Ns1 dx (fun y => if y = nm then some v else m0 y) →
      R (.ok (.ret .none)) ⟨h', g, d, tk', os⟩) :
    codeAny (model prog w) A (.call (.builtin "object.__setattr__") ⟨[.ref x, .str nm tk, v], []⟩) R ⟨hp, g, d, t, os⟩ := by
  obtain ⟨oD, _, _, hoD, _, _⟩ := nsd.count wi
  have J : W.InstAt hp x { cls := .ref C, dict := some dx, data := .fields fv } C (some oD) := ⟨hx, rfl, rfl, hoD⟩
  have isO : W.Looks (model prog w) hp (isInstance (.ref x) (.type "object")) true :=
    J.type.andThen (W.looks_mroIn X (by unfold W.mroIn; rw [hcd, Option.bind_some, if_neg (by rw [hne]; decide), hob]))
  refine codeAny_call_builtin F.store_object.slot.plain F.store_object.entry
    (@W.check_slot (model prog w) _ _ ⟨hp, g, d, t, os⟩ "object.__setattr__" "object" "__setattr__" (.ref x) [.str nm tk, v] [] _
      F.store_object.kind F.store_object.split isO (F.store_object.args (.ref x) (.str nm tk) v) ?_)
  have order : W.Looks (model prog w) hp (mroOf (.ref C)) cd.mro := (W.looks_clsIn X hcd).andThen .now
  have taker : W.Looks (model prog w) hp (storeTaker? none) none := .now
  have data : W.Looks (model prog w) hp (classData C) cd := W.looks_clsIn X hcd
  rw [W.osa_eq, refuse_eq]
  refine wpAny_bind (wpAny_bind (J.type.at (wpAny_bind (order.at ?_))))
  rw [pas]
  refine wpAny_pure (wpAny_bind (J.type.at (wpAny_bind ((W.looks_findIn X ha).at (wpAny_bind (taker.at ?_))))))
  show wpAny _ _ (storeInOwnDict (.ref x) (.ref C) (.str nm tk) nm v false) _ _ _
  obtain ⟨q1, q2, q3, q4, q5, q6, q7, q8, q9, q10, q11⟩ := cd
  dsimp only at hh
  subst hh
  unfold storeInOwnDict ownDictForStores
  repeat (first
    | with_reducible refine OEX.store_in_old nsd wi hz ?_
    | with_reducible refine wpAny_loadPart_at hx ?_
    | with_reducible refine data.at ?_
    | wp_step)
  intro h' tk' ns' same
  exact hq h' tk' (fun b o nb q => (same.2 b nb).trans q) ns'
end
/-! ### an own exception class called with keywords -/
section
variable {M : Model} {A : Around} {E : Value → Shared → Prop} {h : Heap} {g : Array GenState} {d : Drawn} {t : Nat} {os : OsState}
variable {nm q : Str} {C N : Addr} {bs bm : List Value} {hd : Bool} {sn : List Str} {sub : List Value} {ab : Bool} {col : Option Bool} {dd : Option Addr}
variable {k0 k1 k2 k3 k5 : Option Value} {B newId initId : String}
theorem check_newK (F : ExcBaseFacts B newId initId bm) {rest : List Value} {kw : List (Str × Value)} {Q : Unit → Shared → Prop}
    (hC : h.get? C = some (excClassObj nm q C N bs bm hd sn sub ab col dd k0 k1 k2 k3 k5 newId)) (hq : Q () ⟨h, g, d, t, os⟩) :
    wpAny M A (checkBuiltinCall newId ⟨.ref C :: rest, kw⟩) Q E ⟨h, g, d, t, os⟩ := by
  have hasIt : (Value.ref C :: bm).contains (.type B) = true := by rw [List.contains_cons, F.hasB, Bool.or_true]
  have star := F.noStar
  simp only [checkBuiltinCall, F.newKind, F.newSplit, F.newRow]
  repeat (first
    | refine wpAny_loadPart_at hC ?_
    | (refine wpAny_isSubtype_exc hC ?_; rw [hasIt])
    | refine wpAny_staticBase_exc hC ?_
    | refine wpAny_madeBy_exc hC ?_
    | simp only [bne_self_eq_false, Bool.false_eq_true, if_false]
    | wp_step)
  exact hq
end
section
variable {prog : Program} {w : World} {A : Around} {E : Value → Shared → Prop} {R : Result → Shared → Prop}
variable {h : Heap} {g : Array GenState} {d : Drawn} {t : Nat} {os : OsState}
variable {nm q : Str} {C N : Addr} {bs bm : List Value} {hd : Bool} {sn : List Str} {sub : List Value} {ab : Bool} {col : Option Bool} {dd : Option Addr}
variable {k0 k1 k2 k3 k5 : Option Value} {B newId initId : String}
theorem newK (F : ExcBaseFacts B newId initId bm) {rest : List Value} {kw : List (Str × Value)}
    (hC : h.get? C = some (excClassObj nm q C N bs bm hd sn sub ab col dd k0 k1 k2 k3 k5 newId))
    (hq : R (.ok (.ret (.ref (h.objs.size + 1)))) ⟨(h.push (W.kdv_tup rest)).push (excO C h.objs.size), g, d, t, os⟩) (hrest : rest.length ≤ sizeLine) :
    codeAny (model prog w) A (.builtin newId ⟨.ref C :: rest, kw⟩) R ⟨h, g, d, t, os⟩ := by
  have ends := F.ends
  have b1 : (Value.ref C :: bm).contains (.type B) = true := by rw [List.contains_cons, F.hasB, Bool.or_true]
  have b2 : (Value.ref C :: bm).contains (.type "AttributeError") = false := by rw [List.contains_cons, F.noAttr]; rfl
  have b3 : (Value.ref C :: bm).contains (.type "NameError") = false := by rw [List.contains_cons, F.noName]; rfl
  refine codeAny_builtinAt F.entry ?_
  unfold Builtin.«BaseException.__new__»
  refine PySem.wpAt_bind ?_
  show PySem.wpAt _ _ _ (stack >>= _) _ _ _
  refine PySem.wpAt_bind (PySem.wpAt_stack fun p below => PySem.wpAt_of_wpAny ?_)
  wp_walk
  refine PySem.wpAt_of_wpAny ?_
  rw [F.owner]
  repeat (first
    | with_reducible refine wpAny_madeHere_exc F.canon hC ?_
    | with_reducible refine wpAny_loadPart_at hC ?_
    | (with_reducible refine wpAny_isSubtype_exc hC ?_; first | rw [b1] | rw [b2] | rw [b3])
    | wp_step)
  show R _ _
  rw [Heap.size_push]
  exact hq
theorem typeCallK (F : ExcBaseFacts B newId initId bm) {rest : List Value} {kw : List (Str × Value)} {fI : Addr} {Q : Fin → Shared → Prop}
    (hC : h.get? C = some (excClassObj nm q C N bs bm hd sn sub ab col dd k0 k1 k2 k3 k5 newId))
    (hi : W.Looks (model prog w) h (typeLookup (.ref C) "__init__") (some (.ref fI)))
    (hb : ∀ self, W.Looks (model prog w) h (bindSpecial (.ref fI) self) (.ref fI, [self])) (hrest : rest.length ≤ sizeLine)
    (hq : codeAny (model prog w) A (.call (.ref fI) ⟨.ref (h.objs.size + 1) :: rest, kw⟩)
      (fun r s' => match r with | .ok (.ret v) => v = .none ∧ Q (.done (.ret (.ref (h.objs.size + 1)))) s' | .ok _ => False | .error e => E e s')
      ⟨(h.push (W.kdv_tup rest)).push (excO C h.objs.size), g, d, t, os⟩) :
    wpAny (model prog w) A (Builtin.«type.__call__» ⟨.ref C :: rest, kw⟩) Q E ⟨h, g, d, t, os⟩ := by
  repeat (first
    | with_reducible refine wpAny_loadPart_at hC ?_
    | with_reducible refine wpAny_madeBy_exc hC ?_
    | wp_step)
  refine codeAny_call_builtin_code (Code.quiet_builtin _ F.quiet) (check_newK F hC ?_)
  refine newK F hC ?_ hrest
  show wpAny _ _ _ _ _ _
  have kp : ∀ b o, h.get? b = some o → ((h.push (W.kdv_tup rest)).push (excO C h.objs.size)).get? b = some o :=
    fun b o e => Heap.get?_push_of_some _ (Heap.get?_push_of_some _ e)
  have hC1 := kp _ _ hC
  have new : ((h.push (W.kdv_tup rest)).push (excO C h.objs.size)).get? (h.objs.size + 1) = some (excO C h.objs.size) := by heap_get
  have self : (Value.ref C :: bm).contains (.ref C) = true := by simp
  have i1 := hi.keeps kp
  have b1 := (hb (.ref (h.objs.size + 1))).keeps kp
  unfold isInstance
  repeat (first
    | with_reducible refine wpAny_loadPart_at new ?_
    | (with_reducible refine wpAny_isSubtype_exc hC1 ?_; rw [self])
    | wp_step)
  show wpAny _ _ (typeLookup (.ref C) _) _ _ _
  refine i1.at ?_
  refine wpAny_holding (wpAny_bind (b1.at ?_))
  refine wpAny_bind (wpAny_call (codeAny_mono hq fun r s' z => ?_))
  rcases r with e | (v | _ | _ | _) <;> first | exact z | exact z.elim | skip
  obtain ⟨rfl, z⟩ := z
  first
    | exact wpAny_pure (wpAny_pure z)
    | (wp_walk; exact z)
theorem callK (F : ExcBaseFacts B newId initId bm) {rest : List Value} {kw : List (Str × Value)} {fI : Addr}
    (hC : h.get? C = some (excClassObj nm q C N bs bm hd sn sub ab col dd k0 k1 k2 k3 k5 newId))
    (hi : W.Looks (model prog w) h (typeLookup (.ref C) "__init__") (some (.ref fI)))
    (hb : ∀ self, W.Looks (model prog w) h (bindSpecial (.ref fI) self) (.ref fI, [self])) (hrest : rest.length ≤ sizeLine)
    (hq : codeAny (model prog w) (A.under (.builtin "type.__call__" ⟨.ref C :: rest, kw⟩)) (.call (.ref fI) ⟨.ref (h.objs.size + 1) :: rest, kw⟩)
      (W.InitBack (h.objs.size + 1) R) ⟨(h.push (W.kdv_tup rest)).push (excO C h.objs.size), g, d, t, os⟩) :
    codeAny (model prog w) A (.call (.ref C) ⟨rest, kw⟩) R ⟨h, g, d, t, os⟩ := by
  have f1 := tc_lookup
  have f2 := tc_bind (.ref C)
  have ty : (⟨h, g, d, t, os⟩ : Shared).TypeIs (.ref C) "type" := ⟨_, hC, rfl⟩
  refine codeAny_of_tree ?_
  show wpAny _ _ (callAny (.ref C) _) _ _ _
  repeat (any_goals (first
    | assumption
    | with_reducible refine wpAny_loadPart_at hC ?_
    | wp_step))
  refine ⟨rfl, ?_⟩
  refine codeAny_call_builtin_at (Code.quiet_builtin _ (by decide +kernel)) entry_typeCall ?_
  refine wpAny_check_type_call_sub hC ?_
  refine typeCallK F hC hi hb hrest (codeAny_mono hq fun r s' z => ?_)
  rcases r with e | (v | _ | _ | _) <;> exact z
end
end EV

set_option Elab.async false
set_option linter.all false
set_option maxRecDepth 100000
set_option maxHeartbeats 4000000
namespace L2
namespace EV
open PySem PySem.Spec PyProof.Rows _root_.EV
/-- what the written part says of an own exception class at C, straight under the built-in base B -/
structure OxC (K : PySem.W.Frag) (C : Addr) (B newId initId : String) (bm : List Value) : Prop where
  F : ExcBaseFacts B newId initId bm
  cls : ∃ nm q N bs sn sub ab col dd k0 k1 k2 k3 k5, K.lookup C = some (excClassObj nm q C N bs bm true sn sub ab col dd k0 k1 k2 k3 k5 newId)
  pas : ∀ self, refuseLoop self "__setattr__" bm = pure ()
  obj : bm.contains (.type "object") = true
  sa : PySem.W.findIn K (.ref C) "__setattr__" = some (some (.builtin "object.__setattr__"))
  ga : PySem.W.findIn K (.ref C) "__getattribute__" = some (some (.builtin "BaseException.__getattribute__"))
  gg : PySem.W.findIn K (.ref C) "__getattr__" = some none
  exC : PySem.W.subIn K (.ref C) (.type "BaseException") = some true
  kC : PySem.W.keepIn K (.ref C) = true
  hd : PySem.W.hasDictIn K C = true
  ca : PySem.W.findIn K (.ref C) "__class__" = some (some (.builtin "object.__class__"))
  cn : PySem.W.specialIn K (.builtin "object.__class__") "__get__" = some (some (.builtin "getset_descriptor.__get__"))
  ct : PySem.W.takesIn K (.builtin "object.__class__") = some true
  om : PySem.W.mroIn K C (.type "object") = some true
section
variable {X : Cx} {pins : List (Addr × Obj)} {σ : St} {H : Hp} {s : Shared} {a C dx : Addr} {f : Str} {y : V} {u : Value} {fs : List (Str × V)}
variable {Q : Unit → Shared → Prop} {E : Value → Shared → Prop} {A : Around} {B newId initId : String} {bm : List Value}
theorem OxC.data {K : PySem.W.Frag} (T : OxC K C B newId initId bm) : ∃ cd, PySem.W.clsIn K C = some cd ∧ cd.mro = .ref C :: bm ∧ cd.hasDict = true := by
  obtain ⟨nm, q, N, bs, sn, sub, ab, col, dd, k0, k1, k2, k3, k5, hC⟩ := T.cls
  refine ⟨{ name := nm, bases := bs, mro := .ref C :: bm, ns := N, qualname := q, hasDict := true, slotNames := sn, subclasses := sub, abstract := ab, collection := col, hasDel := false }, ?_, rfl, rfl⟩
  unfold PySem.W.clsIn
  rw [hC] <;> rfl
theorem OxC.look {K : PySem.W.Frag} (T : OxC K C B newId initId bm) {cd : ClassData} (e : cd.mro = .ref C :: bm) (self : Value) :
    refuseLoop self "__setattr__" cd.mro = pure () ∧ cd.mro.contains (.type "object") = true ∧ cd.mro.isEmpty = false := by
  rw [e, refuseLoop_ref]
  refine ⟨T.pas self, ?_, rfl⟩
  rw [List.contains_cons, T.obj, Bool.or_true]
/-- self.f = y, the first field -/
theorem ox_first (T : OxC X.K C B newId initId bm) (I : Inv X pins σ H s) (e : H a = some (exo a C none)) (no : PySem.W.findIn X.K (.ref C) f = some none) (ry : RelV y u)
    (h : ∀ dx s', H dx = none → dx ≠ a → Inv X pins σ (upd (upd H dx (exd dx [(f, y)])) a (exo a C (some dx))) s' → Q () s') :
    wpAny (model X.prog X.w) A (setAttr (.ref a) f u) Q E s := by
  obtain ⟨cd, hcl, hmr, hdi⟩ := T.data
  obtain ⟨l1, l2, l3⟩ := T.look hmr (.ref a)
  obtain ⟨t1, ho⟩ := exo_at I.hok e
  obtain ⟨hp, g, d, t, os⟩ := s
  refine PySem.W.set_plain I.kIn (ox := { cls := .ref C, dict := none, data := .fields #[.ref t1, .none, .none, .none, .bool false, .none] })
    (od := none) ⟨ho, rfl, rfl, trivial⟩ T.sa ?_
  refine put_first I.kIn ho hcl l1 l2 l3 hdi no fun h' tk' dx k big ne hx hn => ?_
  have free : H dx = none := I.hok.fresh big
  have old : ∀ {b : Addr} {o : Obj}, hp.get? b = some o → b ≠ dx := fun {b o} q => Nat.ne_of_lt (Nat.lt_of_lt_of_le (Heap.lt_size q) big)
  have nota : ∀ {b : Addr}, H b = none → b ≠ a := fun {b} n z => by
    subst z
    rw [e] at n
    cases n
  have un : Un X.fs [] H (upd (upd H dx (exd dx [(f, y)])) a (exo a C (some dx))) hp h' := by
    refine ⟨fun b o q n _ _ => k b o (nota n) q, fun b o q n _ _ => ⟨o.slots, k b o (nota n) q⟩, fun b o q n _ => ?_, fun b o q _ => ?_, fun b xs q => ?_, fun b o v q => ?_, fun b ps q => ⟨#[], ?_⟩⟩
    · rw [upd_ne (nota n), upd_ne (old q)]
      exact n
    · by_cases hb : b = a
      · subst hb
        exact ⟨_, hx⟩
      · exact ⟨o, k b o hb q⟩
    · rw [upd_ne (at_ne e q exo_tup), upd_ne (ne_of_none q free)]
      exact q
    · rw [upd_ne (at_ne e q exo_frz), upd_ne (ne_of_none q free)]
      exact q
    · rw [upd_ne (at_ne e q exo_tbl), upd_ne (ne_of_none q free), q]
      simp
  refine h dx _ free ne (I.un (t' := tk') un fun b o q => ?_)
  by_cases hb : b = a
  · subst hb
    rw [upd_same] at q
    cases q
    exact exo_ok hx
  · rw [upd_ne hb] at q
    by_cases hd : b = dx
    · subst hd
      rw [upd_same] at q
      cases q
      exact exd_ok hn (relO_put (fs := []) ry fun g => True.intro)
    · rw [upd_ne hd] at q
      refine (I.hok b o q).stay (fun c v hc z => k c v ?_ z) (fun c hc => ?_) fun c xs hc => ?_
      · rcases hc with hc | hc
        · subst hc
          exact hb
        · exact at_ne e hc exo_own
      · rw [upd_ne (at_ne e hc exo_own), upd_ne (ne_of_none hc free)]
        exact hc
      · rw [upd_ne (at_ne e hc exo_tup), upd_ne (ne_of_none hc free)]
        exact hc
/-- self.f = y, a further field -/
theorem ox_more (T : OxC X.K C B newId initId bm) (I : Inv X pins σ H s) (e : H a = some (exo a C (some dx))) (ed : H dx = some (exd dx fs)) (hl : fs.length ≤ 900)
    (no : PySem.W.findIn X.K (.ref C) f = some none) (ry : RelV y u) (h : ∀ s', Inv X pins σ (upd H dx (exd dx ((f, y) :: fs))) s' → Q () s') :
    wpAny (model X.prog X.w) A (setAttr (.ref a) f u) Q E s := by
  obtain ⟨cd, hcl, hmr, hdi⟩ := T.data
  obtain ⟨l1, l2, l3⟩ := T.look hmr (.ref a)
  obtain ⟨t1, ho⟩ := exo_at I.hok e
  obtain ⟨mA, hns, rel⟩ := exd_at I.hok ed
  have hw := within_of rel
  obtain ⟨hp, g, d, t, os⟩ := s
  obtain ⟨oD, _, _, hoD, _, _⟩ := hns.count hw
  refine PySem.W.set_plain I.kIn (ox := { cls := .ref C, dict := some dx, data := .fields #[.ref t1, .none, .none, .none, .bool false, .none] })
    (od := some oD) ⟨ho, rfl, rfl, hoD⟩ T.sa ?_
  refine put_more I.kIn ho hns hw (by rw [List.length_map]; omega) hcl l1 l2 l3 hdi no fun h' tk' k hn => ?_
  have there : ∃ o, h'.get? dx = some o := by
    obtain ⟨o, _, _, e', _⟩ := hn
    exact ⟨o, e'⟩
  refine h _ (I.write (t' := tk') (x := dx) (e := dx) (o := exd dx ((f, y) :: fs)) ?_ (.inl rfl) k there (exd_ok hn (relO_put ry rel)))
  rw [ed]
  exact True.intro
/-- B.__init__(self, ..) of an exception without fields: nothing of it is told -/
theorem ox_init {us : List Value} {Q : Value → Shared → Prop} (T : OxC X.K C B newId initId bm) (I : Inv X pins σ H s) (e : H a = some (exo a C none)) (hl : us.length ≤ sizeLine)
    (h : ∀ s', Inv X pins σ H s' → Q .none s') : wpAny (model X.prog X.w) A (call (.builtin initId) (.ref a :: us)) Q E s := by
  obtain ⟨nm, q, N, bs, sn, sub, ab, col, dd, k0, k1, k2, k3, k5, hC⟩ := T.cls
  obtain ⟨t1, ho⟩ := exo_at I.hok e
  obtain ⟨hp, g, d, t, os⟩ := s
  refine wpAny_call (PySem.HandSPX.init_base T.F (fun _ => rfl) (I.kIn _ _ hC) ho hl fun h' t2 k hx => ?_)
  have J := I.write (t' := t) (x := a) (e := a) (o := exo a C none) (by rw [e]; exact True.intro) (.inl rfl) k ⟨_, hx⟩ (exo_ok hx)
  have eu : upd H a (exo a C none) = H := by
    funext b
    by_cases hb : b = a
    · subst hb
      rw [upd_same, e]
    · rw [upd_ne hb]
  rw [eu] at J
  exact h _ J
end
/-! ### the readings -/
def tBin (K : PySem.W.Frag) (B newId initId : String) (bm : List Value) (ta : TA) : TE := fun σ H Q => ta σ H fun vs H1 =>
  ∃ (a C : Addr) (ws : List V), vs = .ref a :: ws ∧ ws.length ≤ 1000 ∧ OxC K C B newId initId bm ∧ H1 a = some (exo a C none) ∧ Q .non H1
def tPut (K : PySem.W.Frag) (B newId initId : String) (bm : List Value) (f : Str) (to te : TE) : TS := fun D σ H => te σ H fun y H1 => to σ H1 fun x H2 =>
  ∃ a C : Addr, x = .ref a ∧ OxC K C B newId initId bm ∧ PySem.W.findIn K (.ref C) f = some none ∧
    ((H2 a = some (exo a C none) ∧ ∀ dx, H2 dx = none → dx ≠ a → D.nx σ (upd (upd H2 dx (exd dx [(f, y)])) a (exo a C (some dx)))) ∨
      ∃ (dx : Addr) (fs : List (Str × V)), H2 a = some (exo a C (some dx)) ∧ H2 dx = some (exd dx fs) ∧ fs.length ≤ 900 ∧ D.nx σ (upd H2 dx (exd dx ((f, y) :: fs))))
/-- C(..) as a value: gV puts the exception itself, the values by position and those by name in the parameters' order -/
def tNew (C : Addr) (n m : Nat) (sp : Sp) (gV : List V → List V → List V) (t tk : TA) : TE := fun σ H Q => t σ H fun vs H1 => tk σ H1 fun zs H2 =>
  vs.length = n ∧ zs.length = m ∧ vs.length ≤ 1000 ∧ ∀ a, H2 a = none → sp (gV (.ref a :: vs) zs) (upd H2 a (exo a C none)) (fun v H3 => v = .non ∧ Q (.ref a) H3) (fun _ _ _ => False)
/-- e.f, e such an exception -/
def tFld (K : PySem.W.Frag) (f : Str) (te : TE) : TE := fun σ H Q => te σ H fun x H1 =>
  ∃ (a C dx : Addr) (B newId initId : String) (bm : List Value) (fs : List (Str × V)) (v : V), x = .ref a ∧ OxC K C B newId initId bm ∧ PySem.W.findIn K (.ref C) f = some none ∧
    H1 a = some (exo a C (some dx)) ∧ H1 dx = some (exd dx fs) ∧ fs.lookup f = some v ∧ Q v H1
/-- isinstance(e, c) -/
def rIsX (K : PySem.W.Frag) : List V → Hp → VK → Prop := fun xs H Q => ∃ (a C : Addr) (od : Option Addr) (fs : List (Str × V)) (B newId initId : String) (bm : List Value) (c : V) (u : Value) (b : Bool),
  xs = [.ref a, c] ∧ ClsV c u ∧ OxC K C B newId initId bm ∧ H a = some (exo a C od) ∧ (∀ dx, od = some dx → H dx = some (exd dx fs)) ∧ PySem.W.kitOne K (.ref C) u = some b ∧ Q (.bl b) H
section
variable {X : Cx} {o e : Expr} {es : List Expr} {to te : TE} {ta : TA} {f : Str} {p p' p1 p2 pos : Pos} {B newId initId : String} {bm : List Value}
theorem pe_bin {nB : Str} {pl : Sem Bool} (hg : Gl X nB) (hm : X.mg nB = none) (hv : bootBuiltins nB = some (.type B)) (ty : typeOf (.type B) = pure (.type "type"))
    (vV : PySem.W.findCls X.K (.type B) (.type "type") "__init__" = some (.val (.builtin initId))) (q4 : Manifest.isStub B = false) (ha : PA X (e :: es) ta) (q3 : PySem.W.handedIn (.builtin initId) = true)
    (hn1 : nB ≠ "__name__" := by decide) (hn2 : (nB == ("__debug__" : Str)) = false := by decide)
    (hc : eval (.Call (.Attribute (.Name nB p1) "__init__" p2) (e :: es) [] pos) X.env = (do
      let ov ← eval (.Name nB p1) X.env
      standAt p2.atName
      let (f, first) ← holding [ov] (getMethod ov "__init__" pl)
      callWith pos f first (backTo pos (starEach (e :: es) X.env)) (backToKw pos (keywordEach [] X.env))) := by rfl)
    (he : starEach (e :: es) X.env = (false, eval e X.env) :: starEach es X.env := by rfl) (hpl : (backTo pos (starEach es X.env)).any (·.1) = false := by rfl) :
    PE X (.Call (.Attribute (.Name nB p1) "__init__" p2) (e :: es) [] pos) (tBin X.K B newId initId bm ta) := by
  refine ⟨fun pins s σ H Q I h => ?_⟩
  refine PySem.W.methodCall_KW (ld_blt I hg hm hv ?_ hn1 hn2) hc
  obtain ⟨m, fr⟩ := I.fr
  refine PySem.W.method_type fr I.ok.mod.kin ty q4 vV q3 ?_
  show wpAny _ _ (callWith pos (Value.builtin initId) [] (backTo pos (starEach (e :: es) X.env)) []) _ _ _
  refine PyProof.Rows.callWith_method1 (thn (ha.run pos pins _ σ H _ (I.tok _) h) fun us s1 ⟨vs, H1, I1, r1, a, C, ws, ev, hl, T, ea, q⟩ => ?_) he hpl
  subst ev
  cases r1 with
  | @cons _ u0 _ ur ra rr =>
    obtain rfl : u0 = Value.ref a := ra
    have len : ur.length ≤ sizeLine := by
      have e1 := Paired.length rr
      rw [← e1, sizeLine_eq]
      omega
    exact ox_init T I1 ea len fun s' J => ⟨.non, H1, J, rfl, q⟩
/-- self.f = e -/
theorem ps_put (ho : PE X o to) (he : PE X e te) (hs : swapsWith e (some (.Attribute o f p')) pos.line X.env = pure false := by rfl) :
    PS X (.Assign [.Attribute o f p'] e pos) (tPut X.K B newId initId bm f to te) := by
  refine ⟨fun pins s σ H D I h => ?_⟩
  refine plainObj_wpAny_Assign_Attribute (thn (he.run pins s σ H _ I h) fun v s1 ⟨y, H1, I1, r1, q1⟩ => ?_) hs
  refine thn (ho.run pins s1 σ H1 _ I1 q1) fun u s2 ⟨x, H2, I2, r2, a, C, ex, T, no, q⟩ => ?_
  subst ex
  obtain rfl : u = Value.ref a := r2
  rcases q with ⟨ea, q⟩ | ⟨dx, fs, ea, ed, hl, q⟩
  · exact ox_first T I2 ea no r1 fun dx s' n ne J => ⟨σ, _, J, q dx n ne⟩
  · exact ox_more T I2 ea ed hl no r1 fun s' J => ⟨σ, _, J, q⟩
/-- e.f -/
theorem pe_xfld (he : PE X e te) (hb : attributeBase e f X.env (eval e X.env) = eval e X.env := by rfl) : PE X (.Attribute e f pos) (tFld X.K f te) := by
  refine ⟨fun pins s σ H Q I h => ?_⟩
  refine attr_of hb (thn (he.run pins s σ H _ I h) fun u s1 ⟨x, H1, I1, rx, a, C, dx, B, newId, initId, bm, fs, v, ex, T, no, ea, ed, l, q⟩ => ?_)
  subst ex
  obtain rfl : u = Value.ref a := rx
  obtain ⟨t1, ho⟩ := exo_at I1.hok ea
  obtain ⟨mA, hns, hr⟩ := exd_at I1.hok ed
  obtain ⟨od, hod, hl⟩ := lookIn_ns hns
  obtain ⟨u, hu, ru⟩ := RelO.some_of (v := v) (o := mA f) (by rw [← l]; exact hr f)
  have J : PySem.W.InstAt s1.heap a { cls := .ref C, dict := some dx, data := .fields #[.ref t1, .none, .none, .none, .bool false, .none] } C (some od) := ⟨ho, rfl, rfl, hod⟩
  exact HandSPX.exc_get I1.kIn J T.ga T.gg T.exC (PySem.W.findObj_own T.hd no rfl (by rw [hl, hu])) (handed_of ru) ⟨v, H1, I1.tok _, ru, q⟩
theorem call_isX : CallR X (.builtin "isinstance") (rIsX X.K) := by
  intro pins s σ H xs us Q I r h
  obtain ⟨a, C, od, fs, B, newId, initId, bm, c, u, b, rfl, k, T, ea, ed, e, q⟩ := h
  obtain ⟨u1, u2, rfl, r1, r2⟩ := vals2 r
  have e2 := k.eq r2
  subst e2
  obtain rfl : u1 = Value.ref a := r1
  obtain ⟨t1, ho⟩ := exo_at I.hok ea
  obtain ⟨cd, hcl, _⟩ := T.data
  have some_ : (PySem.W.clsIn X.K C).isSome = true := by rw [hcl]; rfl
  have fin : ∀ tk, EP X pins σ Q (.bool b) { s with toks := tk } := fun tk => ⟨.bl b, H, I.tok tk, rfl, q⟩
  cases od with
  | none =>
    have J : PySem.W.InstAt s.heap a { cls := .ref C, dict := none, data := .fields #[.ref t1, .none, .none, .none, .bool false, .none] } C none := ⟨ho, rfl, rfl, trivial⟩
    exact PySem.W.kia_one (PySem.W.kitx_exc some_ T.ga T.gg T.exC T.ca T.cn T.ct T.om) I.kIn J e (fun z => nomatch z) fin
  | some dx =>
    obtain ⟨mA, hns, hr⟩ := exd_at I.hok (ed dx rfl)
    obtain ⟨o', hod, hl⟩ := lookIn_ns hns
    have J : PySem.W.InstAt s.heap a { cls := .ref C, dict := some dx, data := .fields #[.ref t1, .none, .none, .none, .bool false, .none] } C (some o') := ⟨ho, rfl, rfl, hod⟩
    exact PySem.W.kia_one (PySem.W.kitx_exc some_ T.ga T.gg T.exC T.ca T.cn T.ct T.om) I.kIn J e (fun z => nomatch z) fin
end
/-! ### making one, kept as a value -/
section
variable {X : Cx} {CX : CXT} {k n : Nat} {fI C : Addr} {fd : FuncData} {ps ks : List Str} {sp : Sp} {x : Str} {p pos : Pos} {e : Expr} {es : List Expr} {kws : List Keyword}
variable {t tk : TA} {g : List Value → List Value → List Value} {gV : List V → List V → List V} {B newId initId : String} {bm : List Value}
theorem run_new {pins : List (Addr × Obj)} {σ : St} {H : Hp} {s : Shared} {Q : VK} {us ws : List Value} {vs zs : List V} (T : OxC X.K C B newId initId bm)
    (iC : PySem.W.findIn X.K (.ref C) "__init__" = some (some (.ref fI))) (tI : PySem.W.typeIn X.K (.ref fI) = some (.type "function"))
    (F : FnOk X.prog X.w X.K X.mg X.base CX k fI fd ps sp) (hr : Room (k + 1) X.A) (hb : KBn X.K fd ps (n + 1) ks g gV) (hx : Passes CX X (fun _ _ _ => False))
    (I : Inv X pins σ H s) (r : Vals vs us) (rz : Vals zs ws) (l1 : vs.length = n) (l2 : zs.length = ks.length) (l3 : vs.length ≤ 1000)
    (h : ∀ a, H a = none → sp (gV (.ref a :: vs) zs) (upd H a (exo a C none)) (fun v H3 => v = .non ∧ Q (.ref a) H3) (fun _ _ _ => False)) :
    wpAny (model X.prog X.w) X.A (call (.ref C) us (ks.zip ws)) (EP X pins σ Q) X.xe s := by
  obtain ⟨nm, q, N, bs, sn, sub, ab, col, dd, k0, k1, k2, k3, k5, hC⟩ := T.cls
  obtain ⟨hp, g1, dr, tk, os⟩ := s
  have big : hp.objs.size ≤ hp.objs.size + 1 := Nat.le_succ _
  have free : H (hp.objs.size + 1) = none := I.hok.fresh big
  have hq := h (hp.objs.size + 1) free
  have kp : ∀ b o, hp.get? b = some o → ((hp.push (PySem.W.kdv_tup us)).push (PySem.HandSPX.excO C hp.objs.size)).get? b = some o := fun b o e =>
    Heap.get?_push_of_some _ (Heap.get?_push_of_some _ e)
  have new : ((hp.push (PySem.W.kdv_tup us)).push (PySem.HandSPX.excO C hp.objs.size)).get? (hp.objs.size + 1) = some (PySem.HandSPX.excO C hp.objs.size) := by heap_get
  have I2 : Inv X pins σ (upd H (hp.objs.size + 1) (exo (hp.objs.size + 1) C none))
      ⟨(hp.push (PySem.W.kdv_tup us)).push (PySem.HandSPX.excO C hp.objs.size), g1, dr, tk, os⟩ :=
    I.laid (t' := tk) (a := hp.objs.size + 1) (o := exo (hp.objs.size + 1) C none) (h' := (hp.push (PySem.W.kdv_tup us)).push (PySem.HandSPX.excO C hp.objs.size)) kp big (exo_ok new)
  have ra : Vals (V.ref (hp.objs.size + 1) :: vs) (Value.ref (hp.objs.size + 1) :: us) := .cons rfl r
  have lu : us.length ≤ sizeLine := by
    have e1 := Paired.length r
    rw [← e1, sizeLine_eq]
    omega
  have n1 : (Value.ref (hp.objs.size + 1) :: us).length = n + 1 := by
    rw [List.length_cons, ← r.length, l1]
  refine wpAny_call (EV.callK T.F (I.kIn _ _ hC) (PySem.W.looks_findIn I.kIn iC) (fun self => PySem.W.bind_fn I.kIn self tI) lu
    (codeAny_mono (F.run _ X.stack _ _ ⟨Value.ref (hp.objs.size + 1) :: us, ks.zip ws⟩ (g (Value.ref (hp.objs.size + 1) :: us) ws) _ _ (fun _ _ _ => False)
      (hr.make C us (ks.zip ws)) (I2.env0.make C us (ks.zip ws)) (hb.to _ _ ws I2.kIn n1 (rz.length.symm.trans l2)) (hb.rel ra rz) hq) fun r s' hq' => ?_))
  cases r with
  | error er => exact hx pins σ _ _ er s' I2 hq'
  | ok fl =>
    cases fl with
    | ret u =>
      obtain ⟨v, H3, I3, rv, ev, q3⟩ := I2.after hq'
      subst ev
      exact ⟨rv, ⟨V.ref (hp.objs.size + 1), H3, I3, rfl, q3⟩⟩
    | next => exact False.elim hq'
    | brk => exact False.elim hq'
    | cont => exact False.elim hq'
/-- C(e, ..) -/
theorem pe_new (T : OxC X.K C B newId initId bm) (iC : PySem.W.findIn X.K (.ref C) "__init__" = some (some (.ref fI))) (tI : PySem.W.typeIn X.K (.ref fI) = some (.type "function"))
    (F : FnOk X.prog X.w X.K X.mg X.base CX k fI fd ps sp) (hr : Room (k + 1) X.A) (hb : KBn X.K fd ps (n + 1) [] g gV) (hx : Passes CX X (fun _ _ _ => False))
    (hg : Gl X x) (hm : X.mg x = some (.ref C)) (ha : PA X (e :: es) t) (hdb : (x == ("__debug__" : Str)) = false := by decide)
    (he : starEach (e :: es) X.env = (false, eval e X.env) :: starEach es X.env := by rfl) (hpl : (backTo pos (starEach es X.env)).any (·.1) = false := by rfl) :
    PE X (.Call (.Name x p) (e :: es) [] pos) (tNew C n 0 sp gV t tNil) := by
  refine ⟨fun pins s σ H Q I h => ?_⟩
  refine wpAny_Call_Name_kw (ld_glob I hg hm ?_ hdb)
  refine PySem.W.callWith_K (h₀ := X.base) I.ok.mod.kin T.kC (thn (ha.run pos pins s σ H _ I h) fun us s1 ⟨vs, H1, I1, r1, q1⟩ => ⟨I1.kIn, ?_⟩) he hpl
  obtain ⟨l1, _, l3, q2⟩ := q1
  exact run_new (ws := []) (zs := []) T iC tI F hr hb hx I1 r1 .nil l1 rfl l3 q2
/-- C(k = v, ..) -/
theorem pe_newK (T : OxC X.K C B newId initId bm) (iC : PySem.W.findIn X.K (.ref C) "__init__" = some (some (.ref fI))) (tI : PySem.W.typeIn X.K (.ref fI) = some (.type "function"))
    (F : FnOk X.prog X.w X.K X.mg X.base CX k fI fd ps sp) (hr : Room (k + 1) X.A) (hb : KBn X.K fd ps 1 ks g gV) (hx : Passes CX X (fun _ _ _ => False))
    (hg : Gl X x) (hm : X.mg x = some (.ref C)) (hkw : PK X kws tk) (hall : (backToKw pos (keywordEach kws X.env)).all (·.1.isSome) = true := by rfl)
    (hks : (backToKw pos (keywordEach kws X.env)).filterMap (·.1) = ks := by rfl) (hdb : (x == ("__debug__" : Str)) = false := by decide)
    (hpl : ((backTo pos (starEach [] X.env)).any (·.1) || (backToKw pos (keywordEach kws X.env)).any (·.1.isNone)) = false := by rfl) :
    PE X (.Call (.Name x p) [] kws pos) (tNew C 0 ks.length sp gV tNil tk) := by
  refine ⟨fun pins s σ H Q I h => ?_⟩
  refine wpAny_Call_Name_kw (ld_glob I hg hm ?_ hdb)
  refine PySem.W.callWith_KW0 (h₀ := X.base) I.ok.mod.kin T.kC hall ?_ hpl
  refine thn (hkw.run pos pins s σ H _ I h) fun ws s2 ⟨zs, H2, I2, rz, l1, l2, l3, q2⟩ => ⟨I2.kIn, ?_⟩
  rw [hks]
  exact run_new (us := []) (vs := []) T iC tI F hr hb hx I2 .nil rz rfl l2 (by decide) q2
end
end EV
end L2

set_option Elab.async false
set_option linter.all false
set_option maxRecDepth 100000
set_option maxHeartbeats 4000000
/-! Defs that show values by repr: a promise that is kept where no repr runs yet. -/
namespace L2
namespace EV
open PySem PySem.Spec PyProof.Rows _root_.EV
/-- FnOk, where no repr runs yet -/
structure FnG (P : Program) (w : World) (K : PySem.W.Frag) (mg : Str → Option Value) (base : Heap) (CX : CXT) (k : Nat) (f : Addr) (fd : FuncData) (ps : List Str) (sp : Sp) : Prop where
  len : ∀ vs H Q E, sp vs H Q E → vs.length = ps.length
  run : ∀ (A : Around) (outer : List Env) (s : Shared) (H : Hp) (args : Args) (us : List Value) (vs : List V) (Q : VK) (E : XK), Room k A → A.guards = some [] →
    Env0 P w K mg base A outer s H → BindsTo s fd args (ps.zip us) → Vals vs us → sp vs H Q E → codeAny (model P w) A (.call (.ref f) args) (CR CX outer P w H s Q E) s
section
variable {P : Program} {w : World} {K : PySem.W.Frag} {mg : Str → Option Value} {base : Heap}
theorem okG {x qual : Str} {st : Stmt} {f : Addr} {fd : FuncData} {N ps : List Str} {k : Nat} {sp : Sp} (F : Fun K x qual st f fd) (S : FnScope N ps (defScope st))
    (len : ∀ vs H Q E, sp vs H Q E → vs.length = ps.length)
    (hbody : ∀ (cdv : Value) (A : Around) (outer : List Env) (s : Shared) (H : Hp) (vs : List V) (Q : VK) (E : XK), Room k (A.deeper (envOfC qual (defScope st) s.heap.objs.size f cdv)) →
      A.guards = some [] → sp vs H Q E →
      ∃ t, PSs (cxOf CX0 P w K mg base N qual (defScope st) f cdv A outer s H E).nox (defBody st) t ∧ t { nx := fun _ H' => Q .non H', rt := Q } (start N vs) H) :
    FnG P w K mg base CX0 (k + 1) f fd ps sp := by
  obtain ⟨oc, od, kV, doc, pm, an, cdv, ct, osl, rfl, lk, hcd⟩ := F.ex
  refine ⟨len, fun A outer s H args us vs Q E hr hgd e0 hb r hsp => ?_⟩
  have hl := len _ _ _ _ hsp
  have keptB : ∀ b o, base.get? b = some o → s.heap.get? b = some o := fun b o e => (e0.bs b o e).1
  have KX : K.In s.heap := e0.mod.kin.keeps keptB
  have lim : s.heap.NoLimit := e0.mod.nolimit.keeps keptB
  have kinds : ∀ y ∈ ps.zip us, (defScope st).names.lookup y.1 = some .local ∨
      ((defScope st).names.lookup y.1 = some .cell ∧ ((cellsFrom (s.heap.objs.size + 1) (defScope st).names []).lookup y.1).isSome = true) := fun ⟨n, v⟩ hy =>
    (S.par n (List.of_mem_zip hy).1).elim .inl fun q => .inr ⟨q, PySem.W.cellsFrom_some _ _ _ (.inl q)⟩
  refine codeAny_call_function hr.depth (KX _ _ lk) rfl S.co S.gen rfl (PySem.W.codeRec_of KX hcd) (hb _ _ _ _ ?_)
  refine wpAny_newFunctionEnv_cells S.kind kinds fun env he s1 x => ?_
  subst he
  refine ⟨lim.keeps x.toInCall.keep, codeAny_func ?_⟩
  obtain ⟨t, ht0, hq⟩ := hbody cdv A outer s H vs Q E (hr.deeper _) hgd hsp
  have ht := ht0.nox
  have I : Inv (cxOf CX0 P w K mg base N qual (defScope st) f cdv A outer s H E) [] (start N vs) H s1 := inv_start S hr.hd e0 hl r x
  refine wpAny_mono (ht.run [] s1 (start N vs) H _ I hq) (fun fl s' hs => ?_) fun e s' hs => hs
  cases fl with
  | ret u =>
    obtain ⟨v, σ', H', J, rv, q⟩ := hs
    exact ⟨v, H', J.os, J.bare, J.base, J.hok, rv, q⟩
  | next =>
    obtain ⟨σ', H', J, q⟩ := hs
    exact ⟨V.non, H', J.os, J.bare, J.base, J.hok, rfl, q⟩
  | brk =>
    obtain ⟨_, _, _, q⟩ := hs
    exact False.elim q
  | cont =>
    obtain ⟨_, _, _, q⟩ := hs
    exact False.elim q
end
section
variable {X : Cx} {CX : CXT} {k : Nat} {f : Addr} {fd : FuncData} {ps : List Str} {sp : Sp} {x : Str} {p pos : Pos} {e : Expr} {es : List Expr} {t : TA} {E : XK}
/-- f(e, ..) of such a def -/
theorem pe_callG (F : FnG X.prog X.w X.K X.mg X.base CX k f fd ps sp) (hr : Room k X.A) (hgd : X.A.guards = some []) (hg : Gl X x) (hm : X.mg x = some (.ref f))
    (hk : PySem.W.keepIn X.K (.ref f) = true) (hb : Binds X.K fd ps []) (hx : Passes CX X E) (ha : PA X (e :: es) t) (hdb : (x == ("__debug__" : Str)) = false := by decide)
    (he : starEach (e :: es) X.env = (false, eval e X.env) :: starEach es X.env := by rfl) (hpl : (backTo pos (starEach es X.env)).any (·.1) = false := by rfl) :
    PE X (.Call (.Name x p) (e :: es) [] pos) (fun σ H Q => t σ H fun vs H1 => sp vs H1 Q E) := by
  refine ⟨fun pins s σ H Q I h => ?_⟩
  refine wpAny_Call_Name_kw (ld_glob I hg hm ?_ hdb)
  refine PySem.W.callWith_K (h₀ := X.base) I.ok.mod.kin hk (thn (ha.run pos pins s σ H _ I h) fun us s1 ⟨vs, H1, I1, r, q⟩ => ⟨I1.kIn, ?_⟩) he hpl
  have hl : us.length = ps.length := by
    rw [← r.length]
    exact F.len _ _ _ _ q
  have bn := hb s1 us I1.kIn (by rw [List.append_nil]; exact hl)
  rw [List.append_nil] at bn
  refine wpAny_call (codeAny_mono (F.run X.A X.stack s1 H1 ⟨us, []⟩ us vs Q E hr hgd I1.env0 bn r q) fun r2 s2 hq => ?_)
  cases r2 with
  | error er => exact hx pins σ H1 s1 er s2 I1 hq
  | ok fl =>
    cases fl with
    | ret u => exact I1.after hq
    | next => exact False.elim hq
    | brk => exact False.elim hq
    | cont => exact False.elim hq
end
/-- the law's own call, of a promise that is kept where no repr runs -/
theorem law_callG {P : Program} {w : World} {K : PySem.W.Frag} {mg mb : Str → Option Value} {k : Nat} {fa a : Addr} {fd : FuncData} {x : Str} {sp : Sp} {s1 : Shared} {vs : List Value} {ns : List Int}
    (KX : K.In s1.heap) (hns : s1.heap.Ns mainGlobals mg) (hb : s1.heap.Ns builtinsNs mb) (hbb : ∀ x : Str, x ≠ "__name__" → mb x = bootBuiltins x) (hlim : s1.heap.NoLimit) (hg : s1.gens = #[])
    (ha : s1.heap.get? a = some { cls := .type "list", data := .seq vs.toArray }) (hi : IntsAre vs ns) (hl : ns.length ≤ sizeLine) (hr : Room k callerA)
    (F : ∀ base : Heap, K.In base → base.Ns mainGlobals mg → FnG P w K mg base CX0 k fa fd [x] sp) (hbind : ∀ (s : Shared) (u : Value), BindsTo s fd ⟨[u], []⟩ [(x, u)])
    (hsp : ∀ H : Hp, Only H → SqL K H a (ns.map V.int) → sp [.ref a] H (fun v _ => v = .bl true) fun _ _ _ => False) :
    codeAny (model P w) callerA (.call (.ref fa) ⟨[.ref a], []⟩) (fun r s' => r = .ok (.ret (.bool true)) ∧ OldK s1.heap s'.heap ∧ s'.os = s1.os ∧ AllBare s'.gens) s1 := by
  have rv := vals_ints hi
  have lenV := hi.length
  have core : ∀ H : Hp, Only H → SqL K H a (ns.map V.int) → HOk P w H s1.heap → (∀ b, H b ≠ none → b = a) → (H a ≠ none → K.lookup a = none) →
      codeAny (model P w) callerA (.call (.ref fa) ⟨[.ref a], []⟩) (fun r s' => r = .ok (.ret (.bool true)) ∧ OldK s1.heap s'.heap ∧ s'.os = s1.os ∧ AllBare s'.gens) s1 := by
    intro H hO hS hok onlyA notK
    have noDict : ∀ {b : Addr} {o : Obj} {es : Array DictEntry} {ep : Nat}, s1.heap.get? b = some o → o.data = .dict es ep → H b = none := fun {b o es ep} e d => by
      cases q : H b with
      | none => rfl
      | some u =>
        obtain rfl : b = a := onlyA b (by rw [q]; simp)
        rw [ha] at e
        cases e
        exact nomatch (show Data.seq vs.toArray _ = Data.dict es ep from d)
    have nsK : ∀ {b : Addr} {m : Str → Option Value}, s1.heap.Ns b m → (hidT s1.heap H).Ns b m := fun {b m} ⟨o, es, ep, e, d, r⟩ => ⟨o, es, ep, hidT_get e (noDict e d), d, r⟩
    have kin : K.In (hidT s1.heap H) := fun b o e => hidT_get (KX b o e) (by
      cases q : H b with
      | none => rfl
      | some u =>
        obtain rfl : b = a := onlyA b (by rw [q]; simp)
        rw [notK (by rw [q]; simp)] at e
        cases e)
    obtain ⟨mc, c1, c2⟩ := hlim
    have hM : Mod K mg (hidT s1.heap H) := ⟨kin, nsK hns, ⟨mb, nsK hb, hbb⟩, ⟨mc, nsK c1, c2⟩⟩
    have noF : ∀ b, b ∉ frs [] := fun b z => absurd (show b ∈ ([] : List Addr) from z) (by simp)
    have e0 : Env0 P w K mg (hidT s1.heap H) callerA [] s1 H :=
      ⟨rfl, hM, fun b o e => of_hidT e, Nat.le_of_eq (hidT_size _ _), trivial, fun b z => absurd z (noF b), hok, .of_eq hg⟩
    refine codeAny_mono ((F _ kin (nsK hns)).run callerA [] s1 H ⟨[.ref a], []⟩ [.ref a] [.ref a] _ _ hr rfl e0 (hbind s1 (.ref a)) (.cons rfl .nil) (hsp H hO hS)) fun r s' h => ?_
    cases r with
    | error e => exact False.elim h
    | ok fl =>
      cases fl with
      | next => exact False.elim h
      | brk => exact False.elim h
      | cont => exact False.elim h
      | ret u =>
        obtain ⟨v, H', os, bare, un, hok', r', q⟩ := h
        obtain rfl : v = .bl true := q
        obtain rfl : u = Value.bool true := r'
        refine ⟨rfl, OldK.of_keep fun b o e => ?_, os, bare⟩
        cases q : H b with
        | none => exact un.keep b o e q (noF b) (by simp)
        | some u =>
          rcases hO b with z | ⟨ob, xs, z⟩
          · rw [q] at z
            cases z
          · obtain ⟨e1, _⟩ := hok b _ z
            obtain ⟨e2, _⟩ := hok' b _ (un.frzs b ob _ z)
            rw [e] at e1
            cases e1
            exact e2
  cases hk : K.lookup a with
  | some o =>
    have e := KX a o hk
    rw [ha] at e
    cases e
    refine core (fun _ => none) (fun _ => .inl rfl) (.inr ⟨_, vs.toArray, _, hk, rfl, rfl, rfl, ?_, by simpa using rv⟩) (fun b u z => ?_) (fun b z => absurd rfl z) fun z => absurd rfl z
    · rw [List.size_toArray, lenV]
      exact hl
    · exact nomatch (show (none : Option HO) = some u from z)
  | none =>
    refine core (fun b => if b = a then some (.frz { cls := .type "list", data := .seq vs.toArray } (.lst (ns.map V.int))) else none) (fun b => ?_)
      (.inl (.inr ⟨{ cls := .type "list", data := .seq vs.toArray }, if_pos rfl⟩)) (fun b u z => ?_) (fun b z => ?_) fun _ => hk
    · by_cases hb : b = a
      · exact .inr ⟨_, _, if_pos hb⟩
      · exact .inl (if_neg hb)
    · by_cases hb : b = a
      · have z2 := (if_pos hb).symm.trans z
        cases z2
        subst hb
        exact ⟨ha, by rw [List.length_map]; exact hl, vs, _, rv, ha⟩
      · exact nomatch (if_neg hb).symm.trans z
    · by_cases hb : b = a
      · exact hb
      · exact absurd (if_neg hb) z
theorem walk_ofG {l : PySem.W.OpenLaw} {n k : Nat} {q : Program} {loose : List Str} {XP : (Str → Option Value) → Heap → Prop} {YP : World → Heap → Prop} {d : DefRec} {K : Params → PySem.W.Frag} {sp : PySem.W.Frag → Sp} {x : Str}
    (hn : l.most = some n) (hn2 : n ≤ sizeLine) (hdf : d.params.defaults = []) (hr : Room k callerA) (hY : ∀ (w : World) (h : Heap), YP w h → (K w.params).In h)
    (F : ∀ (w : World) (mg : Str → Option Value) (fa : Addr) (h : Heap), (K w.params).In h → h.Ns mainGlobals mg → mg d.name = some (.ref fa) →
      ∃ fd : FuncData, (∀ (s : Shared) (u : Value), BindsTo s fd ⟨[u], []⟩ [(x, u)]) ∧
        ∀ base : Heap, (K w.params).In base → base.Ns mainGlobals mg → FnG l.prog w (K w.params) mg base CX0 k fa fd [x] (sp (K w.params)))
    (hsp : ∀ (K : PySem.W.Frag) (H : Hp) (a : Addr) (ns : List Int), ns.length ≤ n → Only H → SqL K H a (ns.map V.int) → sp K [.ref a] H (fun v _ => v = .bl true) fun _ _ _ => False) :
    PySem.W.WalkO q loose XP YP l.row.toRowW d [] (fun f vs => PySem.call f vs) := by
  refine Att.attach_call hn hdf fun w s0 s1 mg mb fa o pm cd doc a vs ns G Y ho hd hcd hmg hobj hints hlen hg => ?_
  have KX := hY w _ Y
  obtain ⟨fd, hb, hF⟩ := F w mg fa _ KX G.T.g hmg
  exact law_callG KX G.T.g G.T.b G.T.builtins G.T.nolimit hg hobj hints (Nat.le_trans hlen hn2) hr hF hb fun H hO hS => hsp _ H a ns hlen hO hS
end EV
end L2

set_option Elab.async false
set_option linter.all false
set_option maxRecDepth 100000
set_option maxHeartbeats 4000000
/-! repr of a list of data. -/
namespace L2
namespace EV
open PySem PySem.Spec PyProof.Rows _root_.EV
/-- v stands for d: data without dicts, or the dict {"a": 1} -/
inductive Sh (K : PySem.W.Frag) (H : Hp) : V → PyData → Prop
  | plain {v : V} {d : PyData} : Dp K H v d → d.hasDict = false → Sh K H v d
  | one {a : Addr} : H a = some (.dK [(Sum.inr "a", V.int 1)]) → Sh K H (.ref a) (.dict [(.str "a", .int 1)])
def Small (d : PyData) : Prop := d.showable = true ∧ d.shown.length ≤ 60 ∧ d.depth ≤ 5
inductive ShAll (K : PySem.W.Frag) (H : Hp) : List V → List PyData → Prop
  | nil : ShAll K H [] []
  | cons {v : V} {vs : List V} {d : PyData} {ds : List PyData} : Sh K H v d → Small d → ShAll K H vs ds → ShAll K H (v :: vs) (d :: ds)
section
variable {X : Cx} {pins : List (Addr × Obj)} {σ : St} {H : Hp} {s : Shared}
theorem sh_reads (I : Inv X pins σ H s) {v : V} {d : PyData} {u : Value} (h : Sh X.K H v d) (r : RelV v u) : ∃ as, Reads s.heap u d as ∧ (d.hasDict = true → sysModules ∉ as) := by
  cases h with
  | plain hd no =>
    obtain ⟨as, q⟩ := Dp.reads I d v u hd r
    exact ⟨as, q, fun z => by rw [no] at z; cases z⟩
  | @one a e =>
    obtain rfl : u = Value.ref a := r
    obtain ⟨_, nsys, vs, kv, o, es, ep, ho, ex, hd, _, pr, _⟩ := (show ObjOk X.prog X.w H s.heap a (.dK [(Sum.inr "a", V.int 1)]) from I.hok a _ e)
    cases kv with
    | @cons _ p _ ps hk kr =>
      cases kr
      obtain ⟨k, v⟩ := p
      obtain ⟨ek, t, ev⟩ := hk
      dsimp only at ek ev
      subst ek ev
      generalize hes : es.toList = l at pr
      cases pr with
      | @cons e1 _ l2 _ k1 k2 k3 =>
        cases k3
        obtain ⟨t2, ek⟩ : ∃ t2, e1.key = Value.str "a" t2 := Value.isStrOf_shape k1
        refine ⟨[a], Reads.dict (as := []) (bs := []) ho ex.1 hd ?_ ?_, fun _ z => ?_⟩
        · rw [hes]
          show ReadsAll s.heap [e1.key] [PyData.str "a"] []
          rw [ek]
          exact ReadsAll.cons (Reads.str _ _) ReadsAll.nil
        · rw [hes]
          show ReadsAll s.heap [e1.val] [PyData.int 1] []
          rw [k2]
          exact ReadsAll.cons (Reads.int _ _) ReadsAll.nil
        · obtain rfl : sysModules = a := by simpa using z
          simp at nsys
theorem sh_all (I : Inv X pins σ H s) : ∀ {vs : List V} {ds : List PyData} {us : List Value}, ShAll X.K H vs ds → Vals vs us →
    ∃ as bs, ReadsAll s.heap us ds as ∧ ReadAtMost s.heap (PyData.depthAll ds) bs ∧ ReprAllK X.prog X.w bs s.heap (PyData.depthAll ds) us (PyData.shownAll ds)
  | _, _, _, .nil, .nil => ⟨[], [], ReadsAll.nil, (fun _ h => nomatch h), by simp only [PyData.shownAll]; exact .nil⟩
  | _, _, _, .cons (d := d) (ds := ds) h sm t, .cons r rt => by
    obtain ⟨as1, q1, hsm⟩ := sh_reads I h r
    obtain ⟨as2, b2, q2, m2, k2⟩ := sh_all I t rt
    obtain ⟨b1, m1, k1⟩ := ReprK.of_reads (prog := X.prog) (w := X.w) q1 sm.1 hsm (Nat.le_trans sm.2.1 (by decide))
    refine ⟨as1 ++ as2, b1 ++ b2, ReadsAll.cons q1 q2, ?_, ?_⟩
    · simp only [PyData.depthAll]
      exact (m1.mono (Nat.le_max_left _ _)).append (m2.mono (Nat.le_max_right _ _))
    · simp only [PyData.depthAll, PyData.shownAll]
      exact .cons ((k1.more fun b hb => List.mem_append_left _ hb).level_le (Nat.le_max_left _ _)) (k2.more_le (fun b hb => List.mem_append_right _ hb) (Nat.le_max_right _ _))
theorem shall_depth {K : PySem.W.Frag} {H : Hp} : ∀ {vs : List V} {ds : List PyData}, ShAll K H vs ds → PyData.depthAll ds ≤ 5 ∧ (∀ t ∈ PyData.shownAll ds, t.length ≤ 60) ∧ (PyData.shownAll ds).length = vs.length
  | _, _, .nil => ⟨by simp only [PyData.depthAll]; omega, by simp [PyData.shownAll], by simp [PyData.shownAll]⟩
  | _, _, .cons h sm t => by
    obtain ⟨h1, h2, h3⟩ := shall_depth t
    refine ⟨by simp only [PyData.depthAll]; have := sm.2.2; omega, ?_, by simp [PyData.shownAll, h3]⟩
    intro t ht
    simp only [PyData.shownAll, List.mem_cons] at ht
    rcases ht with rfl | ht
    · exact sm.2.1
    · exact h2 t ht
theorem sum_le60 : ∀ {ts : List Str}, (∀ t ∈ ts, t.length ≤ 60) → (ts.map (·.length)).sum ≤ 60 * ts.length
  | [], _ => by simp
  | t :: ts, h => by
    have h1 := h t (List.mem_cons_self ..)
    have h2 := sum_le60 (ts := ts) fun t ht => h t (List.mem_cons_of_mem _ ht)
    simp only [List.map_cons, List.sum_cons, List.length_cons]
    omega
/-- repr(l), l a list of some data -/
def rShow (K : PySem.W.Frag) : List V → Hp → VK → Prop := fun xs H Q => ∃ (l : Addr) (v : V) (vs : List V) (ds : List PyData), xs = [.ref l] ∧ H l = some (.lst (v :: vs)) ∧ ShAll K H (v :: vs) ds ∧ vs.length ≤ 1000 ∧
  Q (.str (listText (PyData.shownAll ds))) H
theorem call_show (hgd : X.A.guards = some []) (hu : X.A.units + 64 < cLine) : CallR X (.builtin "repr") (rShow X.K) := by
  intro pins s σ H xs us Q I r h
  obtain ⟨l, v, vs, ds, rfl, e, sh, lz, q⟩ := h
  obtain ⟨u, rfl, ru⟩ := vals1 r
  obtain rfl : u = Value.ref l := ru
  obtain ⟨_, its, n, rv, ho⟩ := (show ObjOk X.prog X.w H s.heap l (.lst (v :: vs)) from I.hok l _ e)
  obtain ⟨as, bs, q1, m1, k1⟩ := sh_all I sh rv
  obtain ⟨dp, sz, ln⟩ := shall_depth sh
  have whole : Reads s.heap (.ref l) (.list ds) (l :: as) := Reads.list ho rfl rfl (by simpa using q1)
  have hna : l ∉ bs := not_mem_of_deeper whole (by simp only [PyData.depth]; omega) m1
  have hz : (listText (PyData.shownAll ds)).length ≤ sizeLine := by
    have h1 := listText_len_le (PyData.shownAll ds)
    have h2 := sum_le60 sz
    rw [ln, List.length_cons] at *
    rw [sizeLine_eq]
    omega
  cases rv with
  | @cons _ u1 _ ut r1 r2 =>
    refine call_repr_slot (by omega) ⟨_, ho, rfl⟩ PySem.F.slot_list_repr.toG ?_
    refine call_list_reprK ho rfl rfl hna (by simpa using k1.length_eq) (fun i y ey => k1.item i y (by simpa using ey)) (A := X.A.in1) hgd (fun b _ => Clear.nil b) ?_ (fun _ _ z => z) (fun h' t tk hk => ⟨_, _, rfl, ?_⟩) hz
    · show X.A.units + 1 + (PyData.depthAll ds + 1) < cLine
      omega
    · exact ⟨.str _, H, I.kept (t' := tk) hk, ⟨_, rfl⟩, q⟩
end
end EV
end L2

set_option Elab.async false
set_option linter.all false
set_option maxRecDepth 100000
set_option maxHeartbeats 4000000
/-! Tuples of an int, a text and an int: sorted, and <=. -/
namespace L2
open PySem PySem.Spec PyProof.Rows
abbrev T3 : Type := Int × Str × Int
abbrev sl (a : Str) : List Nat := a.cps.toList
theorem sl_inj {a b : Str} (h : sl a = sl b) : a = b := by
  cases a with
  | mk x =>
    cases b with
    | mk y =>
      have : x = y := Array.toList_inj.mp h
      rw [this]
/-- x is ahead of y -/
def lt3 (a b : T3) : Bool := if a.1 = b.1 then (if a.2.1 = b.2.1 then decide (a.2.2 < b.2.2) else decide (sl a.2.1 < sl b.2.1)) else decide (a.1 < b.1)
theorem lt3_iff {a b : T3} : lt3 a b = true ↔ a.1 < b.1 ∨ (a.1 = b.1 ∧ (sl a.2.1 < sl b.2.1 ∨ (a.2.1 = b.2.1 ∧ a.2.2 < b.2.2))) := by
  unfold lt3
  by_cases e1 : a.1 = b.1
  · rw [if_pos e1]
    by_cases e2 : a.2.1 = b.2.1
    · rw [if_pos e2, decide_eq_true_eq]
      refine ⟨fun h => .inr ⟨e1, .inr ⟨e2, h⟩⟩, ?_⟩
      rintro (h | ⟨_, h | ⟨_, h⟩⟩)
      · omega
      · rw [e2] at h
        exact absurd h (List.lt_irrefl _)
      · exact h
    · rw [if_neg e2, decide_eq_true_eq]
      refine ⟨fun h => .inr ⟨e1, .inl h⟩, ?_⟩
      rintro (h | ⟨_, h | ⟨h, _⟩⟩)
      · omega
      · exact h
      · exact absurd h e2
  · rw [if_neg e1, decide_eq_true_eq]
    refine ⟨fun h => .inl h, ?_⟩
    rintro (h | ⟨h, _⟩)
    · exact h
    · exact absurd h e1
theorem lt3_no {a b : T3} : lt3 a b = false ↔ ¬ (a.1 < b.1 ∨ (a.1 = b.1 ∧ (sl a.2.1 < sl b.2.1 ∨ (a.2.1 = b.2.1 ∧ a.2.2 < b.2.2)))) := by
  rw [← lt3_iff]
  cases lt3 a b <;> simp
theorem swo3 : SrtO.Swo lt3 := by
  refine ⟨fun x y h => ?_, fun x y z h1 h2 => ?_⟩
  · have a := lt3_iff.mp h
    refine lt3_no.mpr ?_
    rintro (h1 | ⟨h1, h2⟩)
    · rcases a with a | ⟨a, _⟩ <;> omega
    · rcases a with a | ⟨_, a⟩
      · omega
      · rcases h2 with h2 | ⟨h2, h3⟩
        · rcases a with a | ⟨a, _⟩
          · exact List.lt_asymm a h2
          · rw [a] at h2
            exact List.lt_irrefl _ h2
        · rcases a with a | ⟨_, a⟩
          · rw [h2] at a
            exact List.lt_irrefl _ a
          · omega
  · have a := lt3_no.mp h1
    have b := lt3_no.mp h2
    refine lt3_no.mpr ?_
    have a1 : ¬ y.1 < x.1 := fun q => a (.inl q)
    have b1 : ¬ z.1 < y.1 := fun q => b (.inl q)
    rintro (q | ⟨q1, q2⟩)
    · omega
    · have e1 : y.1 = x.1 := by omega
      have e2 : z.1 = y.1 := by omega
      have a2 : ¬ sl y.2.1 < sl x.2.1 := fun q => a (.inr ⟨e1, .inl q⟩)
      have b2 : ¬ sl z.2.1 < sl y.2.1 := fun q => b (.inr ⟨e2, .inl q⟩)
      have l1 : sl x.2.1 ≤ sl y.2.1 := List.not_lt.mp a2
      have l2 : sl y.2.1 ≤ sl z.2.1 := List.not_lt.mp b2
      rcases q2 with q2 | ⟨q2, q3⟩
      · exact absurd q2 (List.not_lt.mpr (List.le_trans l1 l2))
      · have e3 : sl y.2.1 = sl x.2.1 := by
          rw [q2] at l2
          exact List.le_antisymm l2 l1
        have e4 := sl_inj e3
        have a3 : ¬ y.2.2 < x.2.2 := fun q => a (.inr ⟨e1, .inr ⟨e4, q⟩⟩)
        have b3 : ¬ z.2.2 < y.2.2 := fun q => b (.inr ⟨e2, .inr ⟨q2.trans e4.symm, q⟩⟩)
        omega
theorem swo3k {α : Type} (k : α → T3) : SrtO.Swo fun v u : α => lt3 (k v) (k u) := ⟨fun x y => swo3.asym (k x) (k y), fun x y z => swo3.tr (k x) (k y) (k z)⟩
/-- v is a tuple of an int, a text and an int in the heap -/
def IsTrip (h : Heap) (v : Value) (x : T3) : Prop := ∃ a o t u r n, v = .ref a ∧ h.get? a = some o ∧ o.cls = .type "tuple" ∧ o.data = .seq #[.int x.1 t, .str x.2.1 u, .int x.2.2 r] n
theorem IsTrip.keeps {h h' : Heap} {v : Value} {x : T3} (p : IsTrip h v x) (k : ∀ b o, h.get? b = some o → o.cls = .type "tuple" → h'.get? b = some o) : IsTrip h' v x := by
  obtain ⟨a, o, t, u, r, n, e, ho, hc, hd⟩ := p
  exact ⟨a, o, t, u, r, n, e, k _ _ ho hc, hc, hd⟩
theorem firsts3 {h : Heap} : ∀ {vs : List Value}, (∀ v ∈ vs, ∃ x, IsTrip h v x) → ∃ fs : List Value, PySem.W.KatTups h vs fs ∧ fs.length = vs.length ∧ ∀ f ∈ fs, ∃ x t, f = Value.int x t
  | [], _ => ⟨[], PySem.W.KatTups.nil, rfl, fun _ hm => by simp at hm⟩
  | v :: vs, hp => by
    obtain ⟨fs, h1, h2, h3⟩ := firsts3 (vs := vs) fun v' hm => hp v' (List.mem_cons_of_mem _ hm)
    obtain ⟨x, a, o, t, u, r, n, e, ho, hc, hd⟩ := hp v (List.mem_cons_self ..)
    subst e
    refine ⟨.int x.1 t :: fs, PySem.W.KatTups.cons ho hc hd rfl h1, by rw [List.length_cons, List.length_cons, h2], fun f hm => ?_⟩
    rcases List.mem_cons.mp hm with rfl | hm
    · exact ⟨x.1, t, rfl⟩
    · exact h3 f hm
section
variable {prog : Program} {w : World} {A : Around} {E : Value → Shared → Prop} {s : Shared}
theorem trip_cmp {vs : List Value} {k : Value → T3} (hp : ∀ v ∈ vs, IsTrip s.heap v (k v)) : SrtO.Cmp prog w A s (tuples' true) (fun p => p.1 ∈ vs) (SrtO.lt2 fun v u => lt3 (k v) (k u)) := by
  intro p q hm hm'
  have h1 := hp _ hm
  have h2 := hp _ hm'
  show wpAny (model prog w) A (keyLt' (tuples' true) p.1 q.1) (fun r s' => s' = s ∧ r = lt3 (k p.1) (k q.1)) (fun _ _ => False) s
  generalize k p.1 = x at h1 ⊢
  generalize k q.1 = y at h2 ⊢
  obtain ⟨x1, x2, x3⟩ := x
  obtain ⟨y1, y2, y3⟩ := y
  obtain ⟨a, o, t, u, r, n, e, ho, hc, hd⟩ := h1
  obtain ⟨a', o', t', u', r', n', e', ho', hc', hd'⟩ := h2
  rw [e, e']
  unfold lt3
  refine PySem.W.kat_lt ho hd ho' hd' ?_
  show PySem.W.KatLex prog w A true (decide (3 < 3)) _ [(.int x1 t, .int y1 t'), (.str x2 u, .str y2 u'), (.int x3 r, .int y3 r')] 0 s
  refine PySem.W.kat_cons (SeqAt.EqAt.int_int x1 t y1 t' prog w _ _ ?_)
  refine PySem.W.kat_go (fun e1 => ?_) (fun e1 => ?_)
  · have ex : x1 = y1 := by simpa using e1
    subst ex
    refine PySem.W.kat_yes (PySem.W.kat_cons (SeqAt.EqAt.str_str x2 u y2 u' prog w _ _ ?_))
    refine PySem.W.kat_go (fun e2 => ?_) (fun e2 => ?_)
    · have ey : x2 = y2 := by simpa using e2
      subst ey
      refine PySem.W.kat_yes (PySem.W.kat_cons (SeqAt.EqAt.int_int x3 r y3 r' prog w _ _ ?_))
      refine PySem.W.kat_go (fun e3 => ?_) (fun e3 => ?_)
      · have ez : x3 = y3 := by simpa using e3
        subst ez
        refine PySem.W.kat_yes (PySem.W.kat_nil ⟨rfl, ?_⟩)
        simp
      · refine PySem.W.kat_no (PySem.W.kat_one _ _ (PyProof.Rows.lt_int ?_))
        refine (show s = s ∧ _ from ⟨rfl, ?_⟩)
        simp
    · have ey : ¬ x2 = y2 := by simpa using e2
      refine PySem.W.kat_no (PySem.W.kat_one _ _ (PyProof.Rows.lt_str ?_))
      refine (show s = s ∧ _ from ⟨rfl, ?_⟩)
      simp [ey]
  · have ex : ¬ x1 = y1 := by simpa using e1
    refine PySem.W.kat_no (oneLt_int ⟨rfl, ?_⟩)
    simp [ex]
theorem trips_sortable {a : Addr} {vs : List Value} {k : Value → T3} (h0 : 0 < vs.length) (hp : ∀ v ∈ vs, IsTrip s.heap v (k v)) (ha : ∀ o, s.heap.get? a = some o → o.cls ≠ .type "tuple") : SrtO.SortableO prog w A s a vs fun v u => lt3 (k v) (k u) := by
  intro h' keep
  have hp' : ∀ v ∈ vs, IsTrip h' v (k v) := fun v hm => (hp v hm).keeps fun b o e c => keep b o (fun z => by subst z; exact ha o e c) e
  obtain ⟨fs, h1, h2, h3⟩ := firsts3 fun v hm => ⟨_, hp' v hm⟩
  refine ⟨tuples' true, fun Q E hq => ?_, trip_cmp hp'⟩
  refine PySem.W.kat_kind (T := .type "int") h1 (by omega) (fun f hm => ?_) (by rfl) ?_
  · obtain ⟨x, t, rfl⟩ := h3 f hm
    exact PySem.W.Looks.now
  · have e : (Value.type "int" != Value.type "tuple") = true := by first | decide +kernel | rfl | decide
    rw [e]
    exact hq
theorem sorted_trips {l : Addr} {vs : List Value} {k : Value → T3} {Q : Value → Shared → Prop} (hl : s.heap.IsList l vs.toArray) (hz : vs.length ≤ sizeLine) (hp : ∀ v ∈ vs, IsTrip s.heap v (k v))
    (h : ∀ (h' : Heap) (d : Addr) (out : List Value), SrtO.Srtd (fun v u => lt3 (k v) (k u)) out → SrtO.Stb (fun v u => lt3 (k v) (k u)) out vs → (∀ b o, s.heap.get? b = some o → h'.get? b = some o) → s.heap.objs.size ≤ d → (∃ n, h'.get? d = some (seqObj "list" out.toArray n)) → Q (.ref d) { s with heap := h' }) :
    wpAny (model prog w) A (call (.builtin "sorted") [.ref l]) Q E s := by
  refine SrtO.sorted_ord (swo3k k) hl hz (fun h2 h₁ a ha kk => ?_) fun out hs hb => ?_
  · refine trips_sortable (s := { s with heap := h₁ }) (by omega) (fun v hm => (hp v hm).keeps fun b o e _ => (kk b o e).2) fun o e => ?_
    have e' : some o = some (seqObj "list" vs.toArray 0) := e.symm.trans ha
    cases e'
    intro c
    exact absurd (Value.type.inj c) (by decide)
  · exact h _ _ out hs hb (fun b o e => sortedAll_old e) (Nat.le_succ _) (sortedAll_at s.heap vs out.toArray)
end
/-- sorted(xs), xs a list of such tuples (k says which): a new list of the same ones -/
def rSorted3 (K : PySem.W.Frag) : List V → Hp → VK → Prop := fun vs H Q => ∃ (a : Addr) (xs : List V) (k : V → T3), vs = [V.ref a] ∧ SqL K H a xs ∧ (∀ x ∈ xs, ∃ t, x = V.ref t ∧ H t = some (.tup [.int (k x).1, .str (k x).2.1, .int (k x).2.2])) ∧
  ∀ ys p, SrtO.Srtd (fun x y => lt3 (k x) (k y)) ys → ys.Perm xs → H p = none → Q (.ref p) (upd H p (.lst ys))
theorem vals_3 {x y z : V} {us : List Value} (r : Vals [x, y, z] us) : ∃ u w' t', us = [u, w', t'] ∧ RelV x u ∧ RelV y w' ∧ RelV z t' := by
  cases r with
  | cons r1 r2 =>
    obtain ⟨u, w', rfl, r3, r4⟩ := vals2 r2
    exact ⟨_, u, w', rfl, r1, r3, r4⟩
section
variable {X : Cx}
theorem cr_sorted3 : CallR X (.builtin "sorted") (rSorted3 X.K) := by
  intro pins s σ H vs us Q I r h
  obtain ⟨a, xs, k, rfl, hs, hx, q⟩ := h
  obtain ⟨its, rv, hl, hz⟩ := I.list hs
  obtain ⟨u, rfl, ru⟩ := vals1 r
  obtain rfl : u = Value.ref a := ru
  obtain ⟨e1, e2⟩ := refs_back rv fun x m => by
    obtain ⟨t, e, _⟩ := hx x m
    exact ⟨t, e⟩
  refine sorted_trips (k := fun u => k (backV u)) hl.isList (by rw [← rv.length]; exact hz) (fun v hv => ?_) fun h' d out h1 h2 kp hd hn => ?_
  · obtain ⟨t, rfl⟩ := e2 v hv
    have hm : V.ref t ∈ xs := by rw [e1]; exact List.mem_map.mpr ⟨_, hv, rfl⟩
    obtain ⟨t', e, ht⟩ := hx _ hm
    cases e
    obtain ⟨_, its2, r2, o, ho, hc, n, hd⟩ := I.hok _ _ ht
    obtain ⟨u1, u2, u3, rfl, ri, rj, rk⟩ := vals_3 r2
    obtain ⟨t1, rfl⟩ := ri
    obtain ⟨t2, rfl⟩ := rj
    obtain ⟨t3, rfl⟩ := rk
    exact ⟨t, o, t1, t2, t3, n, rfl, ho, hc, hd⟩
  · have h3 : ∀ u ∈ out, ∃ a, u = Value.ref a := fun u hu => e2 u (h2.perm.mem_iff.mp hu)
    obtain ⟨n, hn⟩ := hn
    have hb : SrtO.Stb (fun x y => lt3 (k x) (k y)) (out.map backV) xs := by
      rw [e1]
      exact SrtO.Stb.map (swo3k k) backV h2
    refine ⟨.ref d, upd H d (.lst (out.map backV)), I.laid (t' := s.toks) kp hd ⟨?_, out, n, vals_back h3, hn⟩, rfl, q _ d (SrtO.srtd_map h1) hb.perm (I.hok.fresh hd)⟩
    rw [hb.len]
    exact hz
/-- x <= y of two such tuples -/
def rLe3 : R2 := fun x y H Q => ∃ (a b : Addr) (m n : T3), x = .ref a ∧ y = .ref b ∧ H a = some (.tup [.int m.1, .str m.2.1, .int m.2.2]) ∧ H b = some (.tup [.int n.1, .str n.2.1, .int n.2.2]) ∧ Q (.bl (!lt3 n m)) H
theorem le_lex (m n : T3) : Ob.lexAt (fun j => if j = 0 then m.1 == n.1 else if j = 1 then m.2.1 == n.2.1 else m.2.2 == n.2.2)
    (fun j => if j = 0 then decide (m.1 ≤ n.1) else if j = 1 then decide (sl m.2.1 ≤ sl n.2.1) else decide (m.2.2 ≤ n.2.2)) true 0 3 = !lt3 n m := by
  obtain ⟨m1, m2, m3⟩ := m
  obtain ⟨n1, n2, n3⟩ := n
  simp only [Ob.lexAt, lt3]
  by_cases e1 : m1 = n1
  · subst e1
    by_cases e2 : m2 = n2
    · subst e2
      by_cases e3 : m3 = n3
      · subst e3
        simp
      · simp only [beq_self_eq_true, if_true, Nat.zero_add, Nat.one_ne_zero, if_false, Nat.reduceAdd, Nat.reduceEqDiff, beq_iff_eq, e3]
        by_cases z : m3 ≤ n3
        · rw [decide_eq_true z, decide_eq_false (by omega)]
          rfl
        · rw [decide_eq_false z, decide_eq_true (by omega)]
          rfl
    · have e2' : ¬ n2 = m2 := fun z => e2 z.symm
      simp only [beq_self_eq_true, if_true, Nat.zero_add, Nat.one_ne_zero, if_false, beq_iff_eq, e2, e2']
      by_cases z : sl m2 ≤ sl n2
      · rw [decide_eq_true z, decide_eq_false (List.not_lt.mpr z)]
        rfl
      · rw [decide_eq_false z, decide_eq_true (List.not_le.mp z)]
        rfl
  · have e1' : ¬ n1 = m1 := fun z => e1 z.symm
    simp only [if_true, beq_iff_eq, e1, e1', if_false]
    by_cases z : m1 ≤ n1
    · rw [decide_eq_true z, decide_eq_false (by omega)]
      rfl
    · rw [decide_eq_false z, decide_eq_true (by omega)]
      rfl
theorem RcOp.le_str {A : Around} {s : Shared} (a b : Str) (t u : Tok) : Ob.RcOp .LtE A s (.str a t) (.str b u) (decide (sl a ≤ sl b)) := fun _ _ _ _ h => PySem.P.le_str (by
  have e : (!decide (b.cps.toList < a.cps.toList)) = decide (sl a ≤ sl b) := by
    by_cases z : sl a ≤ sl b
    · rw [decide_eq_true z, decide_eq_false (List.not_lt.mpr z)]
      rfl
    · rw [decide_eq_false z, decide_eq_true (List.not_le.mp z)]
      rfl
  rw [e]
  exact h)
theorem op_le3 (hu : X.A.units < cLine) : OpR X (compareOp .LtE) rLe3 := by
  intro pins s σ H x y v u Q I rx ry h
  obtain ⟨a, b, m, n, rfl, rfl, ha, hb, q⟩ := h
  cases rx
  cases ry
  obtain ⟨its, r1, p1, _⟩ := I.tuple (SqT.of ha)
  obtain ⟨its2, r2, p2, _⟩ := I.tuple (SqT.of hb)
  obtain ⟨u1, u2, u3, rfl, ⟨t1, rfl⟩, ⟨t2, rfl⟩, ⟨t3, rfl⟩⟩ := vals_3 r1
  obtain ⟨v1, v2, v3, rfl, ⟨w1, rfl⟩, ⟨w2, rfl⟩, ⟨w3, rfl⟩⟩ := vals_3 r2
  have R := Ob.RcOp.tuples_le (A := X.A) (s := s) (e := fun j => if j = 0 then m.1 == n.1 else if j = 1 then m.2.1 == n.2.1 else m.2.2 == n.2.2)
    (r := fun j => if j = 0 then decide (m.1 ≤ n.1) else if j = 1 then decide (sl m.2.1 ≤ sl n.2.1) else decide (m.2.2 ≤ n.2.2)) p1 p2 hu (fun j h1 h2 => by
    match j, h1 with
    | 0, _ => exact SeqAt.EqAt.int_int _ _ _ _
    | 1, _ => exact SeqAt.EqAt.str_str _ _ _ _
    | 2, _ => exact SeqAt.EqAt.int_int _ _ _ _) (fun j h1 h2 _ => by
    match j, h1 with
    | 0, _ => exact Ob.RcOp.le_int _ _ _ _
    | 1, _ => exact RcOp.le_str _ _ _ _
    | 2, _ => exact Ob.RcOp.le_int _ _ _ _)
  have e3 : Ob.lexAt (fun j => if j = 0 then m.1 == n.1 else if j = 1 then m.2.1 == n.2.1 else m.2.2 == n.2.2)
    (fun j => if j = 0 then decide (m.1 ≤ n.1) else if j = 1 then decide (sl m.2.1 ≤ sl n.2.1) else decide (m.2.2 ≤ n.2.2)) (decide (3 ≤ 3)) 0 (min 3 3) = !lt3 n m := le_lex m n
  have z : wpAny (model X.prog X.w) X.A (compareOp .LtE (.ref a) (.ref b)) (EP X pins σ Q) X.xe s := R X.prog X.w X.xe (EP X pins σ Q) ⟨.bl _, H, I, rfl, by
    rw [← e3] at q
    exact q⟩
  exact z
end
end L2

set_option Elab.async false
set_option linter.all false
set_option maxRecDepth 100000
set_option maxHeartbeats 4000000
/-! The law's draws. -/
namespace K02
open PySem L2 L2.EV
def top (i : Nat) : Stmt := PySem.Challenge.pw_tornlines_k02_whole_faults_of_framings.main.body.getD i (.Pass ⟨0, 0, 0, 0⟩)
abbrev sBegun : Stmt := top 15
abbrev sNext : Stmt := top 16
/-! ### data of ints -/
theorem canLay_ints : ∀ ns : List Int, PyData.canLayAll0 (ns.map PyData.int) = true
  | [] => by simp [PyData.canLayAll0]
  | n :: ns => by simp [PyData.canLayAll0, PyData.canLay0, canLay_ints ns]
theorem depth_ints : ∀ ns : List Int, PyData.depthAll (ns.map PyData.int) = 0
  | [] => by simp [PyData.depthAll]
  | n :: ns => by simp [PyData.depthAll, PyData.depth, depth_ints ns]
theorem shaped_ints (ns : List Int) : SeqAt.shaped (.list (ns.map PyData.int)) = true := by
  show (PyData.canLay0 (.list (ns.map PyData.int)) && decide (PyData.depth (.list (ns.map PyData.int)) ≤ 64)) = true
  rw [Bool.and_eq_true]
  refine ⟨by simp only [PyData.canLay0]; exact canLay_ints ns, decide_eq_true ?_⟩
  simp only [PyData.depth, depth_ints]
  omega
theorem dp_ints {K : PySem.W.Frag} {H : Hp} : ∀ ns : List Int, DpAll K H (ns.map V.int) (ns.map PyData.int)
  | [] => .nil
  | n :: ns => .cons (.int n) (dp_ints ns)
theorem dp_list {K : PySem.W.Frag} {H : Hp} {a : Addr} {ns : List Int} (h : H a = some (.lst (ns.map V.int))) : Dp K H (.ref a) (.list (ns.map PyData.int)) := .lst (SqL.of h) (dp_ints ns)
theorem eqv_nil (ns : List Int) : PyData.eqv (.list (ns.map PyData.int)) (.list []) = ns.isEmpty := by
  cases ns <;> simp [PyData.eqv, PyData.eqvAll]
/-! ### the draws' dict -/
def mkv (c l : Addr) (k : Int) : List (Key × V) := [(Sum.inr "cells", .ref c), (Sum.inr "left", .ref l), (Sum.inr "at", .int k)]
theorem n1 : ¬ (("cells" : Str) = "left") := by decide +kernel
theorem n2 : ¬ (("cells" : Str) = "at") := by decide +kernel
theorem n3 : ¬ (("left" : Str) = "at") := by decide +kernel
theorem n1' : ¬ (("left" : Str) = "cells") := by decide +kernel
theorem n2' : ¬ (("at" : Str) = "cells") := by decide +kernel
theorem n3' : ¬ (("at" : Str) = "left") := by decide +kernel
theorem k1 {a b : Str} (h : ¬ a = b) : ¬ ((Sum.inr a : Key) = Sum.inr b) := fun z => h (Sum.inr.inj z)
theorem v_cells (c l : Addr) (k : Int) : valV (mkv c l k) (Sum.inr "cells" : Key) = some (.ref c) := by simp [valV, mkv, List.find?_cons]
theorem v_left (c l : Addr) (k : Int) : valV (mkv c l k) (Sum.inr "left" : Key) = some (.ref l) := by simp [valV, mkv, List.find?_cons, n1]
theorem v_at (c l : Addr) (k : Int) : valV (mkv c l k) (Sum.inr "at" : Key) = some (.int k) := by simp [valV, mkv, List.find?_cons, n2, n3]
theorem p_left (c l l' : Addr) (k : Int) : putK (mkv c l k) (Sum.inr "left" : Key) (.ref l') = mkv c l' k := by simp [putK, mkv, n1, n3']
theorem p_at (c l : Addr) (k k' : Int) : putK (mkv c l k) (Sum.inr "at" : Key) (.int k') = mkv c l k' := by simp [putK, mkv, n2, n3]
theorem mk_merge (c l : Addr) (k : Int) : mergeK [] (mkv c l k) = mkv c l k := by simp [mergeK, putK, mkv, n1, n2, n3]
structure MAt (H : Hp) (m c l : Addr) (k : Int) : Prop where
  hm : H m = some (.dK (mkv c l k))
  hc : ∃ cs : List Int, H c = some (.lst (cs.map V.int)) ∧ cs.length ≤ 1000
  hl : ∃ ls : List Int, H l = some (.lst (ls.map V.int)) ∧ ls.length ≤ 1000
  ne : c ≠ l
  k0 : 0 ≤ k
  k1 : k ≤ 1000000
/-- a drawn number from 0 to n - 1; only the dict and its list of great cells have changed -/
def spNext : Sp := fun vs H Q _ => ∃ (m c l : Addr) (k n : Int), vs = [.ref m, .int n] ∧ MAt H m c l k ∧ 0 < n ∧ n < 1000000 ∧ k < 1000000 ∧
  ∀ (r : Int) (H' : Hp) (l' : Addr) (k' : Int), 0 ≤ r → r < n → k' ≤ k + 1 → MAt H' m c l' k' → (l' = l ∨ H l' = none) → (∀ b o, H b = some o → b ≠ m → b ≠ l → H' b = some o) → Q (.int r) H'
/-- the beginning -/
def spBegun (K : PySem.W.Frag) : Sp := fun vs H Q _ => ∃ (a : Addr) (ns : List Int), vs = [.ref a] ∧ SqL K H a (ns.map V.int) ∧ ns.length ≤ 1000 ∧
  ∀ (m c l : Addr) (H' : Hp), MAt H' m c l 0 → H m = none → H c = none → H l = none → Same H H' → Q (.ref m) H'
structure TxtD (mg : Str → Option Value) : Prop where
  list : mg "list" = none
  int : mg "int" = none
  len : mg "len" = none
theorem same_upd {H : Hp} {p : Addr} {o : HO} (h : H p = none) : Same H (upd H p o) := fun b u e => by
  rw [upd_ne (ne_of_none e h)]
  exact e
theorem MAt.same {H H' : Hp} {m c l : Addr} {k : Int} (M : MAt H m c l k) (s : Same H H') : MAt H' m c l k := by
  obtain ⟨h1, ⟨cs, h2, h3⟩, ⟨ls, h4, h5⟩, h6, h7, h8⟩ := M
  exact ⟨s _ _ h1, ⟨cs, s _ _ h2, h3⟩, ⟨ls, s _ _ h4, h5⟩, h6, h7, h8⟩
theorem MAt.set {H : Hp} {m c l : Addr} {k : Int} {ls : List Int} (M : MAt H m c l k) (hz : ls.length ≤ 1000) : MAt (upd H l (.lst (ls.map V.int))) m c l k := by
  obtain ⟨h1, ⟨cs, h2, h3⟩, ⟨ls0, h4, h5⟩, h6, h7, h8⟩ := M
  have ml : m ≠ l := ne_of h1 h4 (fun z => by cases z)
  exact ⟨by rw [upd_ne ml]; exact h1, ⟨cs, by rw [upd_ne h6]; exact h2, h3⟩, ⟨ls, upd_same, hz⟩, h6, h7, h8⟩
/-- another list of great cells -/
theorem MAt.turn {H : Hp} {m c l p : Addr} {k : Int} {ls : List Int} (M : MAt H m c l k) (hp : H p = none) (hz : ls.length ≤ 1000) : MAt (upd (upd H p (.lst (ls.map V.int))) m (.dK (mkv c p k))) m c p k := by
  obtain ⟨h1, ⟨cs, h2, h3⟩, ⟨ls0, h4, h5⟩, h6, h7, h8⟩ := M
  have mp : p ≠ m := (ne_of_none h1 hp).symm
  have cp : c ≠ p := ne_of_none h2 hp
  have cm : c ≠ m := ne_of h2 h1 (fun z => by cases z)
  exact ⟨upd_same, ⟨cs, by rw [upd_ne cm, upd_ne cp]; exact h2, h3⟩, ⟨ls, by rw [upd_ne mp]; exact upd_same, hz⟩, cp, h7, h8⟩
/-- another counter -/
theorem MAt.count {H : Hp} {m c l : Addr} {k k' : Int} (M : MAt H m c l k) (h0 : 0 ≤ k') (h1' : k' ≤ 1000000) : MAt (upd H m (.dK (mkv c l k'))) m c l k' := by
  obtain ⟨h1, ⟨cs, h2, h3⟩, ⟨ls0, h4, h5⟩, h6, h7, h8⟩ := M
  have lm : l ≠ m := ne_of h4 h1 (fun z => by cases z)
  have cm : c ≠ m := ne_of h2 h1 (fun z => by cases z)
  exact ⟨upd_same, ⟨cs, by rw [upd_ne cm]; exact h2, h3⟩, ⟨ls0, by rw [upd_ne lm]; exact h4, h5⟩, h6, h0, h1'⟩
section
variable {K : PySem.W.Frag} {σ : St} {H : Hp} {m c l : Addr} {k : Int}
theorem rd_left {Q : VK} (h0 : σ[0]? = some (some (.ref m))) (M : MAt H m c l k) (q : Q (.ref l) H) : tDGet (tVar 0) (tC (.str "left")) σ H Q := by
  have z : DGet H m (.str "left") (valV (mkv c l k) (Sum.inr "left" : Key)) := DGet.k (k := Sum.inr "left") M.hm
  rw [v_left] at z
  exact ⟨_, h0, m, _, rfl, z, q⟩
theorem rd_cells {Q : VK} (h0 : σ[0]? = some (some (.ref m))) (M : MAt H m c l k) (q : Q (.ref c) H) : tDGet (tVar 0) (tC (.str "cells")) σ H Q := by
  have z : DGet H m (.str "cells") (valV (mkv c l k) (Sum.inr "cells" : Key)) := DGet.k (k := Sum.inr "cells") M.hm
  rw [v_cells] at z
  exact ⟨_, h0, m, _, rfl, z, q⟩
theorem rd_at {Q : VK} (h0 : σ[0]? = some (some (.ref m))) (M : MAt H m c l k) (q : Q (.int k) H) : tDGet (tVar 0) (tC (.str "at")) σ H Q := by
  have z : DGet H m (.str "at") (valV (mkv c l k) (Sum.inr "at" : Key)) := DGet.k (k := Sum.inr "at") M.hm
  rw [v_at] at z
  exact ⟨_, h0, m, _, rfl, z, q⟩
/-- a list of ints against the empty one -/
theorem ne_empty {Q : Bool → Hp → Prop} {a : Addr} {ls : List Int} (hl : H a = some (.lst (ls.map V.int))) (q : ∀ p, H p = none → Q (!ls.isEmpty) (upd H p (.lst []))) :
    tLst tNil σ H fun y H2 => rNeD K (.ref a) y H2 fun x H' => ∃ k, x = .bl k ∧ Q k H' := by
  refine ⟨by decide, fun p hp => ⟨.list (ls.map PyData.int), .list [], dp_list (same_upd hp _ _ hl), .lst (SqL.of upd_same) .nil, shaped_ints ls, shaped_ints [], _, rfl, ?_⟩⟩
  rw [eqv_nil]
  exact q p hp
theorem cut_one (ls : List Int) : cutV (ls.map V.int) (some 1) none = (ls.drop 1).map V.int := by
  unfold cutV
  have e1 : HT.sIx (ls.map V.int).length 0 (some 1) = min 1 (ls.map V.int).length := HT.sIx_nat _ _ 1
  rw [e1, HT.sIx_none]
  cases ls with
  | nil => rfl
  | cons x r =>
    have e2 : min 1 ((x :: r).map V.int).length = 1 := by simp
    rw [e2]
    show List.take ((x :: r).map V.int).length.pred (r.map V.int) = r.map V.int
    exact List.take_of_length_le (by simp)
end
theorem byAll {P : Int → Prop} {G : Prop} (a : (∀ x, P x) → G) (b : ∀ x, P x) : G := a b
theorem iteF' {b : Bool} {A B : Prop} (h : b = false) (q : B) : if b = true then A else B := by
  rw [h]
  exact iteF q
theorem iteT' {b : Bool} {A B : Prop} (h : b = true) (q : A) : if b = true then A else B := by
  rw [h]
  exact iteT q
theorem seq_while {tc : TT} {tb u : TS} {D : Ends} {σ : St} {H : Hp} (W : Nat → Hp → Prop) (R : Hp → Prop) {j0 : Nat} (h0 : W j0 H) (hr : ∀ H2, R H2 → u D σ H2)
    (turn : (∀ H2, R H2 → u D σ H2) → ∀ j H1, W j H1 → tc σ H1 fun b H2 => if b = true then
      ∃ N : St → Hp → Prop, (∀ σ' H', N σ' H' → ∃ j', j' < j ∧ (σ' = σ ∧ W j' H')) ∧ tb { nx := N, rt := D.rt, bk := u D, ct := N } σ H2 else u D σ H2) :
    tSeq (tWhile tc tb) u D σ H := by
  refine ⟨fun j σ' H' => σ' = σ ∧ W j H', ⟨j0, rfl, h0⟩, ?_⟩
  rintro j σ' H1 ⟨rfl, w⟩
  exact turn hr j H1 w
section
variable {P : Program} {w : World} {K : PySem.W.Frag} {mg : Str → Option Value} {base : Heap}
theorem scN : FnScope ["m", "many", "rest", "k", "cell", "mixed"] ["m", "many"] (defScope sNext) := ⟨rfl, rfl, rfl, by decide +kernel, rfl, by decide +kernel, by decide +kernel⟩
theorem ok_next {f : Addr} {fd : FuncData} (F : Fun K "_law_next" "_law_next" sNext f fd) (T : TxtD mg) : FnOk P w K mg base CX0 1 f fd ["m", "many"] spNext := by
  refine F.ok scN (fun vs H Q E h => ?_) (fun cdv A outer s H vs Q E hr h => ?_)
  · obtain ⟨m, c, l, k, n, rfl, _⟩ := h
    rfl
  · obtain ⟨m, c, l, k, n, rfl, M, n0, n1, kk, q⟩ := h
    have hu := hu_of hr
    have hu2 := hr.units
    refine ⟨_, pss_cons (ps_while PassesOwn.never
        (pw_and (pt_cmpR (op_neD hu2) (pe_dget hu (pv 0) pe_str (fun _ _ => rfl)) (pe_lst pa_nil) (nomark _))
          (pw_and1 (pt_cmpR op_eq (pe_ix ix_list (pe_dget hu (pv 0) pe_str (fun _ _ => rfl)) pe_int (fun _ _ => rfl)) pe_int (nomark _)))).pt
        (pss_one (ps_dput hu (pv 0) pe_str (pe_slice sl_list (pe_dget hu (pv 0) pe_str (fun _ _ => rfl)) (po_some pe_int) po_none) rfl)))
      (pss_cons (ps_if (pt_cmpR (op_neD hu2) (pe_dget hu (pv 0) pe_str (fun _ _ => rfl)) (pe_lst pa_nil) (nomark _))
        (pss_cons (ps_set (i := 2) scN.nd rfl (Or.inl rfl) (pe_callTy call_int1 (by rfl) T.int (by decide +kernel) (pa_cons (pe_ix ix_list (pe_dget hu (pv 0) pe_str (fun _ _ => rfl)) pe_int (fun _ _ => rfl)) pa_nil)))
        (pss_cons (ps_asg (pe_op op_fdiv (pv 2) (pv 1)) (pg_sub (pe_dget hu (pv 0) pe_str (fun _ _ => rfl)) pe_int set_list))
        (pss_one (ps_ret (pe_op op_mod (pv 2) (pv 1)))))) pss_nil)
      (pss_cons (ps_set (i := 3) scN.nd rfl (Or.inl rfl) (pe_op op_add (pe_dget hu (pv 0) pe_str (fun _ _ => rfl)) pe_int))
      (pss_cons (ps_dput hu (pv 0) pe_str (pv 3) rfl)
      (pss_cons (ps_set (i := 4) scN.nd rfl (Or.inl rfl) (pe_ifExp (pt_cmpR (op_neD hu2) (pe_dget hu (pv 0) pe_str (fun _ _ => rfl)) (pe_lst pa_nil) (nomark _))
        (pe_ix ix_list (pe_dget hu (pv 0) pe_str (fun _ _ => rfl))
          (pe_op op_mod (pe_callTy call_int1 (by rfl) T.int (by decide +kernel) (pa_cons (pv 3) pa_nil)) (pe_callB call_len_seq (by rfl) T.len PySem.boot_len (pa_cons (pe_dget hu (pv 0) pe_str (fun _ _ => rfl)) pa_nil))) (fun _ _ => rfl))
        pe_int))
      (pss_cons (ps_set (i := 5) scN.nd rfl (Or.inl rfl) (pe_op op_mul (pe_callTy call_int1 (by rfl) T.int (by decide +kernel) (pa_cons
        (pe_op op_add (pe_op op_add (pe_op op_mod (pe_callTy call_int1 (by rfl) T.int (by decide +kernel) (pa_cons (pv 4) pa_nil)) pe_int) (pe_op op_mul pe_int (pv 3))) (pe_op op_mul (pe_op op_mul pe_int (pv 3)) (pv 3))) pa_nil)) pe_int))
      (pss_cons (ps_set (i := 5) scN.nd rfl (Or.inl rfl) (pe_op op_mul (pe_callTy call_int1 (by rfl) T.int (by decide +kernel) (pa_cons
        (pe_op op_add (pe_op op_mod (pe_callTy call_int1 (by rfl) T.int (by decide +kernel) (pa_cons (pv 5) pa_nil)) pe_int) (pe_op op_mul pe_int (pv 3))) pa_nil)) pe_int))
      (pss_one (ps_ret (pe_op op_mod (pe_callTy call_int1 (by rfl) T.int (by decide +kernel) (pa_cons
        (pe_op op_fdiv (pe_op op_mod (pe_callTy call_int1 (by rfl) T.int (by decide +kernel) (pa_cons (pv 5) pa_nil)) pe_int) pe_int) pa_nil)) (pv 1)))))))))), ?_⟩
    obtain ⟨ls0, hl0, ll0⟩ := id M.hl
    refine seq_while (fun j H1 => ∃ (l1 : Addr) (ls : List Int), MAt H1 m c l1 k ∧ H1 l1 = some (.lst (ls.map V.int)) ∧ ls.length = j ∧ (l1 = l ∨ H l1 = none) ∧ (∀ b o, H b = some o → b ≠ m → b ≠ l → H1 b = some o) ∧ ∃ o, H1 l = some o)
      (fun H1 => ∃ (l1 : Addr) (ls : List Int), MAt H1 m c l1 k ∧ H1 l1 = some (.lst (ls.map V.int)) ∧ (l1 = l ∨ H l1 = none) ∧ (∀ b o, H b = some o → b ≠ m → b ≠ l → H1 b = some o))
      ⟨l, ls0, M, hl0, rfl, .inl rfl, fun b o e _ _ => e, _, hl0⟩ ?_ ?_
    · rintro H1 ⟨l1, ls, M1, hl, fl, kp⟩
      refine rd_left rfl M1 (ne_empty hl fun p hp => ?_)
      have M2 := MAt.same M1 (same_upd (o := .lst []) hp)
      have hl2 : upd H1 p (.lst []) l1 = some (.lst (ls.map V.int)) := same_upd hp _ _ hl
      cases ls with
      | cons x r =>
        refine iteT' rfl ?_
        refine rd_left rfl M2 ?_
        refine ⟨l1, _, 0, .int x, rfl, rfl, SqL.of hl2, atI_nat (j := 0) rfl, .inl ⟨x, rfl, ?_⟩⟩
        refine ⟨_, rfl, _, rfl, x, n, rfl, rfl, ⟨n0, by omega⟩, ?_⟩
        refine rd_left rfl M2 ?_
        refine ⟨l1, _, 0, 0, rfl, rfl, hl2, by simp [ixN], ?_⟩
        refine ⟨_, rfl, _, rfl, x, n, rfl, rfl, n0, ?_⟩
        show Q (.int (x % n)) _
        have hz : ((x / n) :: r).length ≤ 1000 := by
          obtain ⟨ls', e1, e2⟩ := M2.hl
          rw [hl2] at e1
          have e3 := congrArg List.length (HO.lst.inj (Option.some.inj e1))
          simp only [List.length_map] at e3
          rw [List.length_cons] at e3 ⊢
          omega
        refine q (x % n) _ l1 k (Int.emod_nonneg _ (by omega)) (Int.emod_lt_of_pos _ n0) (by omega) (M2.set hz) fl fun b o e h1 h2 => ?_
        have h3 : b ≠ l1 := by
          rcases fl with z | z
          · rw [z]
            exact h2
          · exact ne_of_none e z
        rw [upd_ne h3]
        exact same_upd hp _ _ (kp b o e h1 h2)
      | nil =>
        refine iteF' rfl ?_
        refine rd_at rfl M2 ⟨k, 1, rfl, rfl, ?_⟩
        refine ⟨_, rfl, _, rfl, m, _, rfl, DPut.k (k := Sum.inr "at") M2.hm (small1000 (by show 3 ≤ 1000; decide)), ?_⟩
        rw [p_at]
        have M3 := M2.count (k' := k + 1) (by have := M2.k0; omega) (by omega)
        obtain ⟨cs, hc, lc⟩ := id M3.hc
        have k0 := M.k0
        have kp3 : ∀ b o, H b = some o → b ≠ m → b ≠ l → upd (upd H1 p (.lst [])) m (.dK (mkv c l1 (k + 1))) b = some o := fun b o e h1 h2 => by
          rw [upd_ne h1]
          exact same_upd hp _ _ (kp b o e h1 h2)
        refine rd_cells rfl M3 (ne_empty hc fun p3 hp3 => ?_)
        have M4 := MAt.same M3 (same_upd (o := .lst []) hp3)
        have hc4 := same_upd (o := .lst []) hp3 _ _ hc
        have kp4 : ∀ b o, H b = some o → b ≠ m → b ≠ l → upd (upd (upd H1 p (.lst [])) m (.dK (mkv c l1 (k + 1)))) p3 (.lst []) b = some o := fun b o e h1 h2 => same_upd hp3 _ _ (kp3 b o e h1 h2)
        apply byAll
        case a =>
          intro fin
          by_cases he : cs.isEmpty = true
          · refine iteF' (by rw [he]; rfl) ?_
            generalize (3 : Int) = x
            exact fin x
          · refine iteT' (by simpa using he) ?_
            refine rd_cells rfl M4 ?_
            have ne0 : 0 < cs.length := List.length_pos_iff.mpr (fun z => he (by rw [z]; rfl))
            have pos : (0 : Int) < ((cs.map V.int).length : Nat) := by
              simp only [List.length_map]
              omega
            refine ⟨_, rfl, .inl ⟨k + 1, rfl, ?_⟩⟩
            refine rd_cells rfl M4 ?_
            refine ⟨c, _, rfl, .inl (SqL.of hc4), k + 1, _, rfl, rfl, pos, ?_⟩
            have i0 := Int.emod_nonneg (k + 1) (Int.ne_of_gt pos)
            have i1 := Int.emod_lt_of_pos (k + 1) pos
            obtain ⟨j, hj⟩ := Int.eq_ofNat_of_zero_le i0
            have jl : j < cs.length := by
              simp only [List.length_map] at i1 hj
              omega
            obtain ⟨x, hx⟩ : ∃ x : Int, cs[j]? = some x := ⟨cs[j], List.getElem?_eq_getElem jl⟩
            refine ⟨c, _, _, V.int x, rfl, rfl, SqL.of hc4, ?_, ?_⟩
            · rw [hj]
              refine atI_nat ?_
              rw [List.getElem?_map, hx]
              rfl
            · exact fin x
        case b =>
          intro x
          have k2 : -(2 ^ 64) < k + 1 ∧ k + 1 < 2 ^ 64 := ⟨by omega, by omega⟩
          refine ⟨_, rfl, .inl ⟨x, rfl, _, _, rfl, rfl, (by show (0 : Int) < 2147483629; decide), _, rfl, _, _, rfl, rfl, .inl ⟨by decide, by decide⟩, _, _, rfl, rfl, _, rfl, _, _, rfl, rfl, .inl ⟨by decide, by decide⟩,
            _, rfl, _, _, rfl, rfl, .inr k2, _, _, rfl, rfl, .inl ⟨_, rfl, _, _, rfl, rfl, .inr ⟨by decide, by decide⟩, ?_⟩⟩⟩
          refine ⟨_, rfl, .inl ⟨_, rfl, _, _, rfl, rfl, (by show (0 : Int) < 2147483647; decide), _, rfl, _, _, rfl, rfl, .inl ⟨by decide, by decide⟩, _, _, rfl, rfl, .inl ⟨_, rfl, _, _, rfl, rfl, .inr ⟨by decide, by decide⟩, ?_⟩⟩⟩
          refine ⟨_, rfl, .inl ⟨_, rfl, _, _, rfl, rfl, (by show (0 : Int) < 2147483587; decide), _, _, rfl, rfl, ⟨by decide, by decide⟩, .inl ⟨_, rfl, _, rfl, _, _, rfl, rfl, n0, ?_⟩⟩⟩
          exact q _ _ l1 (k + 1) (Int.emod_nonneg _ (by omega)) (Int.emod_lt_of_pos _ n0) (by omega) M4 fl kp4
    · rintro out j H1 ⟨l1, ls, M1, hl, lj, fl, kp, lo⟩
      refine rd_left rfl M1 (ne_empty hl fun p hp => ?_)
      have M2 := MAt.same M1 (same_upd (o := .lst []) hp)
      have hl2 : upd H1 p (.lst []) l1 = some (.lst (ls.map V.int)) := same_upd hp _ _ hl
      have kp2 : ∀ b o, H b = some o → b ≠ m → b ≠ l → upd H1 p (.lst []) b = some o := fun b o e h1 h2 => same_upd hp _ _ (kp b o e h1 h2)
      have lo2 : ∃ o, upd H1 p (.lst []) l = some o := lo.elim fun o e => ⟨o, same_upd hp _ _ e⟩
      cases ls with
      | nil =>
        refine iteF' rfl (iteF' rfl ?_)
        exact out _ ⟨l1, [], M2, hl2, fl, kp2⟩
      | cons x r =>
        refine iteT' rfl (rd_left rfl M2 ⟨l1, _, 0, .int x, rfl, rfl, SqL.of hl2, atI_nat (j := 0) rfl, rfl, _, rfl, ?_⟩)
        refine ite2 (fun z => ?_) (fun z => ?_)
        · refine ⟨_, fun _ _ z => z, ?_⟩
          refine rd_left rfl M2 ⟨1, rfl, l1, _, rfl, SqL.of hl2, fun p2 hp2 => ?_⟩
          have M3 : MAt (upd (upd H1 p (.lst [])) p2 (.lst (cutV ((x :: r).map V.int) (some 1) none))) m c l1 k := MAt.same M2 (same_upd hp2)
          refine ⟨_, rfl, m, _, rfl, DPut.k (k := Sum.inr "left") M3.hm (small1000 (by show 3 ≤ 1000; decide)), ?_⟩
          rw [p_left, cut_one]
          have hz : ((x :: r).drop 1).length ≤ 1000 := by
            obtain ⟨ls', e1, e2⟩ := M2.hl
            rw [hl2] at e1
            have e3 := congrArg List.length (HO.lst.inj (Option.some.inj e1))
            simp only [List.length_map] at e3
            rw [List.length_cons] at e3
            simp only [List.drop_succ_cons, List.drop_zero]
            omega
          have mp : p2 ≠ m := (ne_of_none M2.hm hp2).symm
          refine ⟨r.length, by rw [← lj]; simp, rfl, p2, r, M2.turn hp2 hz, by rw [upd_ne mp]; exact upd_same, rfl, .inr ?_, fun b o e h1 h2 => ?_, ?_⟩
          · cases q0 : H p2 with
            | none => rfl
            | some o =>
              have a2 : p2 ≠ l := by
                obtain ⟨o, e⟩ := lo2
                exact (ne_of_none e hp2).symm
              rw [kp2 p2 o q0 mp a2] at hp2
              cases hp2
          · rw [upd_ne h1]
            exact same_upd hp2 _ _ (kp2 b o e h1 h2)
          · obtain ⟨o, e⟩ := lo2
            refine ⟨o, ?_⟩
            by_cases lm : l = m
            · subst lm
              rw [M.hm] at hl0
              cases hl0
            · rw [upd_ne lm]
              exact same_upd hp2 _ _ e
        · exact out _ ⟨l1, x :: r, M2, hl2, fl, kp2⟩
theorem scB : FnScope ["script", "cell"] ["script"] (defScope sBegun) := ⟨rfl, rfl, rfl, by decide +kernel, rfl, by decide +kernel, by decide +kernel⟩
theorem ok_begun {f : Addr} {fd : FuncData} (F : Fun K "_law_begun" "_law_begun" sBegun f fd) (T : TxtD mg) : FnOk P w K mg base CX0 1 f fd ["script"] (spBegun K) := by
  refine F.ok scB (fun vs H Q E h => ?_) (fun cdv A outer s H vs Q E hr h => ?_)
  · obtain ⟨a, ns, rfl, _⟩ := h
    rfl
  · obtain ⟨a, ns, rfl, hS, hl, q⟩ := h
    refine ⟨_, pss_one (ps_ret (pe_disp (pps_cons pe_str (pe_callTy call_list_of (by rfl) T.list (by decide +kernel) (pa_cons (pv 0) pa_nil))
      (pps_cons pe_str (pe_lc (own := [("cell", 1)]) (g := gName 1) rfl scB.nd (pi_list (pv 0)) (blkOk_by (N := ["script", "cell"]) (sc := defScope sBegun) (by decide +kernel))
        (fun _ _ _ _ _ => pg_name (i := 1) scB.nd rfl (Or.inl rfl)) (fun _ _ _ _ _ => pts_one (pt_cmpR op_ge (pv 1) (pe_op op_pow pe_int pe_int) (nomark _))) (fun _ _ _ _ _ => pv 1))
      (pps_cons pe_str pe_int pps_nil))) rfl rfl (by simp) (by decide))), ?_⟩
    intro m hm
    have s1 : Same H (upd H m (.dK [])) := same_upd hm
    refine ⟨_, rfl, a, ns.map V.int, rfl, .inl (s1.seq hS), fun c hc => ?_⟩
    have s2 := s1.trans (same_upd (o := .lst (ns.map V.int)) hc)
    refine ⟨_, rfl, a, rfl, ⟨_, s2.seq hS⟩, fun l hl0 => ?_⟩
    have mc : m ≠ c := ne_of_none upd_same hc
    have hm2 : upd (upd H m (.dK [])) c (.lst (ns.map V.int)) m = some (.dK []) := by
      rw [upd_ne mc]
      exact upd_same
    have ml : m ≠ l := ne_of_none hm2 hl0
    have cl : c ≠ l := ne_of_none (upd_same) hl0
    refine lc_list (K := K) (a := a) (xs := ns.map V.int) (fun i H' => ∃ acc : List Int, H' l = some (.lst (acc.map V.int)) ∧ acc.length ≤ i ∧ ∀ b o, upd (upd H m (.dK [])) c (.lst (ns.map V.int)) b = some o → H' b = some o)
      ⟨[], upd_same, Nat.le_refl _, fun b o e => same_upd hl0 _ _ e⟩ (fun i H' _ ⟨acc, _, _, k⟩ => Same.seq (s2.trans k) hS) ?_ ?_
    · rintro i x H' hi ⟨acc, ha, la, kp⟩
      obtain ⟨z, rfl⟩ : ∃ z, x = V.int z := by
        rw [List.getElem?_map] at hi
        cases e : ns[i]? with
        | none =>
          rw [e] at hi
          cases hi
        | some z =>
          rw [e] at hi
          exact ⟨z, (Option.some.inj hi).symm⟩
      have il : i < ns.length := by
        have := (List.getElem?_eq_some_iff.mp hi).1
        simpa using this
      refine ⟨rfl, _, rfl, 10, 18, rfl, rfl, ⟨by decide, by decide, by decide⟩, _, _, rfl, rfl, _, rfl, ?_⟩
      refine ite2 (fun _ => ⟨_, rfl, acc.map V.int, ha, ?_, acc ++ [z], ?_, ?_, fun b o e => ?_⟩) (fun _ => ⟨acc, ha, Nat.le_succ_of_le la, kp⟩)
      · rw [List.length_map]
        exact small1000 (by omega)
      · rw [List.map_append]
        exact upd_same
      · simp only [List.length_append, List.length_cons, List.length_nil]
        omega
      · rw [upd_ne (ne_of_none e hl0)]
        exact kp b o e
    · rintro H' ⟨acc, ha, la, kp⟩
      rw [List.length_map] at la
      refine ⟨kp _ _ hm2, mkv c l 0, rfl, (by show 3 ≤ 15; decide), ?_⟩
      rw [mk_merge]
      have lm : l ≠ m := ml.symm
      have cm : c ≠ m := mc.symm
      refine q m c l _ ⟨upd_same, ⟨ns, by rw [upd_ne cm]; exact kp _ _ upd_same, hl⟩, ⟨acc, by rw [upd_ne lm]; exact ha, by omega⟩, cl, by decide, by decide⟩ hm (s1.free hc) (s2.free hl0) fun b o e => ?_
      rw [upd_ne (ne_of_none e hm)]
      exact kp _ _ (s2 _ _ e)
end
end K02

set_option Elab.async false
set_option linter.all false
set_option maxRecDepth 100000
set_option maxHeartbeats 4000000
/-! is_number, is_piece, is_step: of what a framing holds. -/
namespace K02
open PySem L2 L2.EV
abbrev sNum : Stmt := top 7
abbrev sPc : Stmt := top 8
abbrev sStep : Stmt := top 9
def sgs : List Nat := sl ("abcdefghijklmnopqrstuvwxyz0123456789@" : Str)
theorem no59 : ¬ (59 ∈ sgs) := by decide +kernel
theorem semi : sl (";" : Str) = [59] := by decide +kernel
theorem semi1 : (";" : Str).length = 1 := by decide +kernel
/-- a piece; it ends a line if last -/
def Pc (p : Str) (last : Bool) : Prop := ∃ b : List Nat, sl p = b ++ (if last = true then [59] else []) ∧ b.length + (if last = true then 1 else 0) ≤ 8 ∧ (∀ c ∈ b, c ∈ sgs) ∧ (last = false → b ≠ [])
theorem len_sl (p : Str) : p.length = (sl p).length := by
  show p.cps.size = p.cps.toList.length
  simp
theorem pc_len {p : Str} {l : Bool} (h : Pc p l) : 1 ≤ p.length ∧ p.length ≤ 8 := by
  obtain ⟨b, e, h1, _, h2⟩ := h
  rw [len_sl, e, List.length_append]
  cases l with
  | true =>
    rw [if_pos rfl] at h1 ⊢
    simp only [List.length_cons, List.length_nil]
    omega
  | false =>
    have := List.length_pos_iff.mpr (h2 rfl)
    rw [if_neg (by simp)] at h1 ⊢
    simp only [List.length_nil]
    omega
theorem at_end {p : Str} : Builtin.Str.subAt p ";" (p.length - (";" : Str).length) = (((sl p).drop ((sl p).length - 1)).take 1 == [59]) := by
  rw [StrLaws.subAt_eq, semi1, len_sl]
  show (((sl p).drop _).take 1 == sl (";" : Str)) = _
  rw [semi]
theorem pc_last {p : Str} {l : Bool} (h : Pc p l) : (decide (0 + (";" : Str).length ≤ p.length) && Builtin.Str.subAt p ";" (p.length - (";" : Str).length)) = l := by
  have z := pc_len h
  rw [at_end]
  have d : decide (0 + (";" : Str).length ≤ p.length) = true := decide_eq_true (by rw [semi1]; omega)
  rw [d, Bool.true_and]
  obtain ⟨b, e, h1, hb, h2⟩ := h
  rw [e]
  cases l with
  | true =>
    rw [if_pos rfl]
    simp
  | false =>
    rw [if_neg (by simp), List.append_nil]
    obtain ⟨M, y, rfl⟩ := SrtO.snoc_of (l := b) (List.length_pos_iff.mpr (h2 rfl))
    have hy : y ∈ sgs := hb y (by simp)
    have ne : ¬ y = 59 := fun q => no59 (q ▸ hy)
    simp [ne]
theorem pc_ends {p : Str} {l : Bool} (h : Pc p l) : Txt.endswith p ";" = l := pc_last h
theorem pc_cut {p : Str} {l : Bool} (h : Pc p l) : ∀ c ∈ sl (Txt.removesuffix p ";"), c ∈ sgs := by
  have z := pc_last h
  rw [StrLaws.removesuffix_eq]
  rw [show (decide (0 + (";" : Str).length ≤ p.length) && Builtin.Str.subAt p ";" (p.length - (";" : Str).length)) = l from z]
  obtain ⟨b, e, h1, hb, h2⟩ := h
  intro c hc
  cases l with
  | true =>
    rw [if_pos rfl] at hc e
    rw [semi1, len_sl] at hc
    have e' : p.cps.toList = b ++ [59] := e
    simp only [e, e', List.drop_zero, List.length_append, List.length_cons, List.length_nil] at hc
    have : (b ++ [59]).take (b.length + (0 + 1) - 1 - 0) = b := by simp
    rw [this] at hc
    exact hb c (by simpa using hc)
  | false =>
    rw [if_neg (by simp)] at hc
    rw [e, if_neg (by simp), List.append_nil] at hc
    exact hb c hc
/-- is_number(n, many) -/
def spNum : Sp := fun vs H Q _ => ∃ n m : Int, vs = [.int n, .int m] ∧ Q (.bl (decide (0 ≤ n) && decide (n < m))) H
/-- is_piece(p), p a piece -/
def spPc : Sp := fun vs H Q _ => ∃ (p : Str) (l : Bool), vs = [.str p] ∧ Pc p l ∧ ∀ H', Same H H' → Q (.bl true) H'
/-- what a step is -/
def Stp (x : T3) : Prop := 0 ≤ x.1 ∧ x.1 < 6 ∧ Pc x.2.1 (decide (x.2.2 = 0)) ∧ 0 ≤ x.2.2 ∧ x.2.2 < 6
/-- a step at t -/
abbrev S3 (H : Hp) (t : Addr) (x : T3) : Prop := H t = some (.tup [.int x.1, .str x.2.1, .int x.2.2])
def spStep : Sp := fun vs H Q _ => ∃ (t : Addr) (x : T3), vs = [.ref t] ∧ S3 H t x ∧ Stp x ∧ ∀ H', Same H H' → Q (.bl true) H'
structure TxtF (mg : Str → Option Value) : Prop where
  isi : mg "isinstance" = none
  int : mg "int" = none
  bool : mg "bool" = none
  str : mg "str" = none
  tuple : mg "tuple" = none
  len : mg "len" = none
  all : mg "all" = none
  signs : ∃ t, mg "SIGNS" = some (.str "abcdefghijklmnopqrstuvwxyz0123456789@" t)
  mSigns : ∃ t, mg "MOST_SIGNS" = some (.int 8 t)
  many : ∃ t, mg "MANY_STANDINGS" = some (.int 6 t)
section
variable {P : Program} {w : World} {K : PySem.W.Frag} {mg : Str → Option Value} {base : Heap}
theorem scNum : FnScope ["thing", "many"] ["thing", "many"] (defScope sNum) := ⟨rfl, rfl, rfl, by decide +kernel, rfl, by decide +kernel, by decide +kernel⟩
theorem ok_num {f : Addr} {fd : FuncData} (F : Fun K "is_number" "is_number" sNum f fd) (T : TxtF mg) : FnOk P w K mg base CX0 1 f fd ["thing", "many"] spNum := by
  refine F.ok scNum (fun vs H Q E h => ?_) (fun cdv A outer s H vs Q E hr h => ?_)
  · obtain ⟨n, m, rfl, _⟩ := h
    rfl
  · obtain ⟨n, m, rfl, q⟩ := h
    refine ⟨_, pss_one (ps_ret (pe_and (pe_callB call_isi (by rfl) T.isi PyProof.Rows.boot_isinstance (pa_cons (pv 0) (pa_cons (pe_bltn (v := .ty "int") (by rfl) T.int (by decide +kernel) rfl) pa_nil)))
      (pe_and (pe_not (pe_callB call_isi (by rfl) T.isi PyProof.Rows.boot_isinstance (pa_cons (pv 0) (pa_cons (pe_bltn (v := .ty "bool") (by rfl) T.bool (by decide +kernel) rfl) pa_nil))))
        (pe_one (pe_chain op_le op_lt pe_int (pv 0) (pv 1)))))), ?_⟩
    refine ⟨_, rfl, .int n, .ty "int", .type "int", .type "int", true, rfl, .ty "int", .base (.int n), kit_ty (by decide +kernel), true, rfl, iteT ?_⟩
    refine ⟨_, rfl, .int n, .ty "bool", .type "int", .type "bool", false, rfl, .ty "bool", .base (.int n), kit_ty (by decide +kernel), false, rfl, true, rfl, iteT ?_⟩
    refine ⟨_, rfl, 0, n, rfl, rfl, _, rfl, ?_⟩
    refine ite2 (fun z => ?_) (fun z => ?_)
    · refine ⟨_, rfl, n, m, rfl, rfl, ?_⟩
      rw [z, Bool.true_and] at q
      exact q
    · rw [eq_false_of_ne_true z, Bool.false_and] at q
      exact q
theorem scPc : FnScope ["thing", "sign"] ["thing"] (defScope sPc) := ⟨rfl, rfl, rfl, by decide +kernel, rfl, by decide +kernel, by decide +kernel⟩
theorem ok_pc {f : Addr} {fd : FuncData} (F : Fun K "is_piece" "is_piece" sPc f fd) (T : TxtF mg) : FnOk P w K mg base CX0 1 f fd ["thing"] spPc := by
  refine F.ok scPc (fun vs H Q E h => ?_) (fun cdv A outer s H vs Q E hr h => ?_)
  · obtain ⟨p, l, rfl, _⟩ := h
    rfl
  · obtain ⟨p, l, rfl, hp, q⟩ := h
    obtain ⟨ts, eS⟩ := T.signs
    obtain ⟨tm, eM⟩ := T.mSigns
    refine ⟨_, pss_cons (ps_if (pw_or (pt_not (pt_val (pe_callB call_isi (by rfl) T.isi PyProof.Rows.boot_isinstance (pa_cons (pv 0) (pa_cons (pe_bltn (v := .ty "str") (by rfl) T.str (by decide +kernel) rfl) pa_nil)))))
        (pw_or1 (pt_not (pt_chain op_le op_le pe_int (pe_callB call_len_str (by rfl) T.len PySem.boot_len (pa_cons (pv 0) pa_nil)) (pe_glob (v := .int 8) (by rfl) eM ⟨_, rfl⟩))))).pt
        (pss_one (ps_ret pe_bl)) pss_nil)
      (pss_one (ps_ret (pe_callB (cr_all rfl) (by rfl) T.all (by decide +kernel) (pa_cons (pe_lc (own := [("sign", 1)]) (g := gName 1) rfl scPc.nd
        (pi_str (pe_m1 PySem.F.slot_str_removesuffix PySem.F.type_str_removesuffix mt_removesuffix (pv 0) pe_str)) (blkOk_by (N := ["thing", "sign"]) (sc := defScope sPc) (by decide +kernel))
        (fun _ _ _ _ _ => pg_name (i := 1) scPc.nd rfl (Or.inl rfl)) (fun _ _ _ _ _ => pts_nil) (fun _ _ _ _ _ => pe_cmpR op_in_sign (pv 1) (pe_glob (v := .str "abcdefghijklmnopqrstuvwxyz0123456789@") (by rfl) eS ⟨_, rfl⟩) (by rfl))) pa_nil)))), ?_⟩
    have z := pc_len hp
    refine ⟨_, rfl, .str p, .ty "str", .type "str", .type "str", true, rfl, .ty "str", .base (.str p), kit_ty (by decide +kernel), true, rfl, iteF ?_⟩
    refine ⟨.str p, rfl, p, rfl, by rw [sizeLine_eq]; omega, 1, p.length, rfl, rfl, _, rfl, iteT' (decide_eq_true (by omega)) ⟨p.length, 8, rfl, rfl, _, rfl, ?_⟩⟩
    refine iteF' (by rw [decide_eq_true (by omega)]; rfl) ?_
    refine ⟨_, rfl, ⟨p, rfl⟩, p, ";", rfl, rfl, by rw [sizeLine_eq]; omega, _, rfl, fun D hD => ?_⟩
    refine lc_it walk_str (fun i H' => H' D = some (.lst ((List.replicate i true).map V.bl)) ∧ ∀ b o, H b = some o → H' b = some o) ⟨upd_same, fun b o z => same_upd hD b o z⟩ (fun _ _ _ _ => trivial) ?_ ?_
    · rintro i x H1 H2 hi ⟨hl, kp⟩ ⟨rfl, c, hc, rfl⟩
      refine ⟨rfl, ⟨_, rfl, c, _, rfl, rfl, ?_⟩⟩
      have hm : c ∈ sgs := pc_cut hp c (List.mem_of_getElem? (by simpa using hc))
      refine ⟨_, hl, ?_, ?_, fun b o z => ?_⟩
      · rw [List.length_map, List.length_replicate, sizeLine_eq]
        have l1 := PyProof.Rows.len_removesuffix p ";"
        have l2 : (Txt.removesuffix p ";").cps.size = (Txt.removesuffix p ";").length := rfl
        omega
      · have e : decide (c ∈ ("abcdefghijklmnopqrstuvwxyz0123456789@" : Str).cps.toList) = true := decide_eq_true hm
        rw [e, List.replicate_succ', List.map_append]
        exact upd_same
      · rw [upd_ne (ne_of_none z hD)]
        exact kp b o z
    · rintro H1 ⟨hl, kp⟩
      refine ⟨D, _, rfl, SqL.of hl, ?_⟩
      rw [show (List.replicate (Txt.removesuffix p ";").cps.size true).all id = true by simp]
      exact q H1 kp
theorem scStep : FnScope ["thing", "start", "piece", "goal"] ["thing"] (defScope sStep) := ⟨rfl, rfl, rfl, by decide +kernel, rfl, by decide +kernel, by decide +kernel⟩
theorem ok_step {f fN fP : Addr} {fd fdN fdP : FuncData} (F : Fun K "is_step" "is_step" sStep f fd) (T : TxtF mg) (FN : Fun K "is_number" "is_number" sNum fN fdN) (bN : Binds K fdN ["thing", "many"] []) (mN : mg "is_number" = some (.ref fN))
    (FP : Fun K "is_piece" "is_piece" sPc fP fdP) (bP : Binds K fdP ["thing"] []) (mP : mg "is_piece" = some (.ref fP)) : FnOk P w K mg base CX0 2 f fd ["thing"] spStep := by
  have GN : FnOk P w K mg base CX0 1 fN fdN ["thing", "many"] spNum := ok_num FN T
  have GP : FnOk P w K mg base CX0 1 fP fdP ["thing"] spPc := ok_pc FP T
  refine F.ok scStep (fun vs H Q E h => ?_) (fun cdv A outer s H vs Q E hr h => ?_)
  · obtain ⟨t, x, rfl, _⟩ := h
    rfl
  · obtain ⟨t, x, rfl, e, hx, q⟩ := h
    obtain ⟨tm, eM⟩ := T.many
    refine ⟨_, pss_cons (ps_if (pw_or (pt_not (pt_val (pe_callB call_isi (by rfl) T.isi PyProof.Rows.boot_isinstance (pa_cons (pv 0) (pa_cons (pe_bltn (v := .ty "tuple") (by rfl) T.tuple (by decide +kernel) rfl) pa_nil)))))
        (pw_or1 (pt_cmpR op_ne (pe_callB call_len_seq (by rfl) T.len PySem.boot_len (pa_cons (pv 0) pa_nil)) pe_int (nomark _)))).pt
        (pss_one (ps_ret pe_bl)) pss_nil)
      (pss_cons (ps_asg (pv 0) (pg_tup rfl (pgs_cons (pg_name (i := 1) scStep.nd rfl (Or.inl rfl)) (pgs_cons (pg_name (i := 2) scStep.nd rfl (Or.inl rfl)) (pgs_cons (pg_name (i := 3) scStep.nd rfl (Or.inl rfl)) pgs_nil)))))
      (pss_cons (ps_if (pw_or (pt_not (pt_val (pe_call GN hr (by rfl) mN FN.kp bN .nil pass0 (pa_cons (pv 1) (pa_cons (pe_glob (v := .int 6) (by rfl) eM ⟨_, rfl⟩) pa_nil)))))
        (pw_or (pt_not (pt_val (pe_call GP hr (by rfl) mP FP.kp bP .nil pass0 (pa_cons (pv 2) pa_nil))))
          (pw_or1 (pt_not (pt_val (pe_call GN hr (by rfl) mN FN.kp bN .nil pass0 (pa_cons (pv 3) (pa_cons (pe_glob (v := .int 6) (by rfl) eM ⟨_, rfl⟩) pa_nil)))))))).pt
        (pss_one (ps_ret pe_bl)) pss_nil)
      (pss_one (ps_ret (pe_cmpR op_eq (pe_m1 PySem.F.slot_str_endswith PySem.F.type_str_endswith mt_endswith (pv 2) pe_str) (pe_cmpR op_eq (pv 3) pe_int (nomark _)) (nomark _)))))), ?_⟩
    obtain ⟨h0, h6, hp, g0, g6⟩ := hx
    refine ⟨_, rfl, .ref t, .ty "tuple", .type "tuple", .type "tuple", true, rfl, .ty "tuple", .base (.tup e), kit_ty (by decide +kernel), true, rfl, iteF ?_⟩
    refine ⟨_, rfl, t, _, rfl, .inr (SqT.of e), rfl, _, rfl, iteF ?_⟩
    refine ⟨_, rfl, t, _, rfl, SqT.of e, rfl, _, _, rfl, _, _, rfl, _, _, rfl, rfl, ?_⟩
    refine ⟨_, rfl, x.1, 6, rfl, _, rfl, ?_⟩
    refine iteF' (by rw [decide_eq_true h0, decide_eq_true h6]; rfl) ?_
    refine ⟨_, rfl, x.2.1, _, rfl, hp, fun H1 s1 => ⟨_, rfl, iteF ?_⟩⟩
    refine ⟨_, rfl, x.2.2, 6, rfl, _, rfl, ?_⟩
    refine iteF' (by rw [decide_eq_true g0, decide_eq_true g6]; rfl) ?_
    refine ⟨_, rfl, ⟨_, rfl⟩, x.2.1, _, rfl, rfl, ⟨_, rfl, rfl, rfl, ?_⟩⟩
    rw [pc_ends hp]
    have e1 : decide (V.int x.2.2 = V.int 0) = decide (x.2.2 = 0) := by
      rw [dec_int]
      by_cases z : x.2.2 = 0
      · rw [z]
        rfl
      · rw [decide_eq_false z]
        exact beq_eq_false_iff_ne.mpr z
    rw [e1, decide_eq_true rfl]
    exact q H1 s1
end
end K02

set_option Elab.async false
set_option linter.all false
set_option maxRecDepth 100000
set_option maxHeartbeats 4000000
/-! {elt for tg in iter if .. for tg1 in iter1 if ..}: a set of ints by a comprehension of two clauses. -/
namespace L2
namespace EV
open PySem PySem.Spec PyProof.Rows
/-- the comprehension itself -/
abbrev sc2 (elt t0 i0 t1 i1 : Expr) (f0 f1 : List Expr) (sc : Scope) (pos : Pos) : Expr := .SetComp elt [⟨t0, i0, f0, 0⟩, ⟨t1, i1, f1, 0⟩] sc pos
section
variable (elt t0 i0 t1 i1 : Expr) (f0 f1 : List Expr) (sc : Scope) (pos : Pos) (it acc : Value) (env : Env)
theorem turn_outer : compTurn (sc2 elt t0 i0 t1 i1 f0 f1 sc pos) 0 it acc env = (do
    standAt i0.pos
    match ← pyNext it with
    | none => pure (.done .next)
    | some u =>
      letOwnedTupleGo t0 it u
      assign t0 env u
      let mut go := true
      for c in f0 do
        if go then go ← isTrue c env (eval c env)
      if go then
        let xs ← eval i1 env
        standAt i1.pos
        let xs ← foldedSetIterable i1 env xs
        let _ ← runOwn (.compStart (sc2 elt t0 i0 t1 i1 f0 f1 sc pos) 1 (← holding [xs] (pyIter xs)) acc env) env
      again (.compLoop (sc2 elt t0 i0 t1 i1 f0 f1 sc pos) 0 it acc env)) := by rfl
theorem turn_inner : compTurn (sc2 elt t0 i0 t1 i1 f0 f1 sc pos) 1 it acc env = (do
    standAt i1.pos
    match ← pyNext it with
    | none => pure (.done .next)
    | some u =>
      letOwnedTupleGo t1 it u
      assign t1 env u
      let mut go := true
      for c in f1 do
        if go then go ← isTrue c env (eval c env)
      if go then
        (do let y ← eval elt env; standAt elt.pos; let _ ← call (.builtin "set.add") [acc, y])
      again (.compLoop (sc2 elt t0 i0 t1 i1 f0 f1 sc pos) 1 it acc env)) := by rfl
end
section
variable {prog : Program} {w : World} {A : Around} {R : Result → Shared → Prop} {s : Shared} {elt t0 i0 t1 i1 : Expr} {f0 f1 : List Expr} {sc : Scope} {pos : Pos} {it acc : Value} {env : Env}
/-- what is wanted of an error in the block -/
abbrev Erx (prog : Program) (w : World) (A : Around) (env : Env) (R : Result → Shared → Prop) : Value → Shared → Prop := notedBy (model prog w) A env fun e s' => R (.error e) s'
/-- the tests of a clause -/
abbrev tests (fs : List Expr) (env : Env) : Sem Bool := forIn fs true fun c r => if r = true then do let ok ← isTrue c env (eval c env); pure (ForInStep.yield ok) else pure (ForInStep.yield r)
theorem loop_outer (fold : ∀ x, foldedSetIterable i1 env x = pure x) (J : Nat → Shared → Prop)
    (turn : ∀ n s, J n s → wpAny (model prog w) A (pyNext it) (fun r s1 => match r with
      | none => R (.ok .next) s1
      | some u => wpAny (model prog w) A (letOwnedTupleGo t0 it u) (fun _ s2 => wpAny (model prog w) A (assign t0 env u) (fun _ s3 => wpAny (model prog w) A (tests f0 env) (fun ok s4 =>
          if ok = true then wpAny (model prog w) A (eval i1 env) (fun xs s5 => wpAny (model prog w) A (pyIter xs) (fun itv s6 =>
            codeAny (model prog w) A (.compStart (sc2 elt t0 i0 t1 i1 f0 f1 sc pos) 1 itv acc env) (fun r s' => (∃ fl, r = .ok fl) ∧ ∃ m, m < n ∧ J m s') s6) (Erx prog w A env R) s5) (Erx prog w A env R) s4
          else ∃ m, m < n ∧ J m s4) (Erx prog w A env R) s3) (Erx prog w A env R) s2) (Erx prog w A env R) s1) (Erx prog w A env R) s) (n : Nat) (h : J n s) :
    codeAny (model prog w) A (.compLoop (sc2 elt t0 i0 t1 i1 f0 f1 sc pos) 0 it acc env) R s := by
  refine codeAny_loop rfl J (fun n s hJ => ?_) n h
  show wpAny _ A ((compTurn (sc2 elt t0 i0 t1 i1 f0 f1 sc pos) 0 it acc env).onRaise (fun x => do noteFrame x env; theTreesLotGoes x)) _ _ s
  refine wpAny_noted ?_
  rw [turn_outer]
  refine wpAny_bind (wpAny_standAt (wpAny_bind (wpAny_mono (turn n s hJ) (fun r s1 q1 => ?_) fun _ _ z => z)))
  cases r with
  | none => exact wpAny_pure q1
  | some u =>
    refine wpAny_bind (wpAny_mono q1 (fun _ s2 q2 => ?_) fun _ _ z => z)
    refine wpAny_bind (wpAny_mono q2 (fun _ s3 q3 => ?_) fun _ _ z => z)
    refine wpAny_bind (wpAny_mono q3 (fun ok s4 q4 => ?_) fun _ _ z => z)
    cases ok with
    | false => exact wpAny_pure ⟨rfl, q4⟩
    | true =>
      refine wpAny_bind (wpAny_mono q4 (fun xs s5 q5 => ?_) fun _ _ z => z)
      refine wpAny_bind (wpAny_standAt (wpAny_bind (wpAny_of_eq (fold xs) ?_)))
      refine wpAny_bind (wpAny_holding (wpAny_mono q5 (fun itv s6 q6 => ?_) fun _ _ z => z))
      refine wpAny_bind (wpAny_runOwn ?_)
      rw [Around.mark_none]
      refine codeAny_mono q6 fun r s' hr => ?_
      obtain ⟨⟨fl, rfl⟩, hm⟩ := hr
      first
        | exact wpAny_pure ⟨rfl, hm⟩
        | exact wpAny_bind (wpAny_pure (wpAny_pure ⟨rfl, hm⟩))
theorem loop_inner (J : Nat → Shared → Prop)
    (turn : ∀ n s, J n s → wpAny (model prog w) A (pyNext it) (fun r s1 => match r with
      | none => R (.ok .next) s1
      | some u => wpAny (model prog w) A (letOwnedTupleGo t1 it u) (fun _ s2 => wpAny (model prog w) A (assign t1 env u) (fun _ s3 => wpAny (model prog w) A (tests f1 env) (fun ok s4 =>
          if ok = true then wpAny (model prog w) A (eval elt env) (fun y s5 => wpAny (model prog w) A (call (.builtin "set.add") [acc, y]) (fun _ s6 => ∃ m, m < n ∧ J m s6) (Erx prog w A env R) s5) (Erx prog w A env R) s4
          else ∃ m, m < n ∧ J m s4) (Erx prog w A env R) s3) (Erx prog w A env R) s2) (Erx prog w A env R) s1) (Erx prog w A env R) s) (n : Nat) (h : J n s) :
    codeAny (model prog w) A (.compLoop (sc2 elt t0 i0 t1 i1 f0 f1 sc pos) 1 it acc env) R s := by
  refine codeAny_loop rfl J (fun n s hJ => ?_) n h
  show wpAny _ A ((compTurn (sc2 elt t0 i0 t1 i1 f0 f1 sc pos) 1 it acc env).onRaise (fun x => do noteFrame x env; theTreesLotGoes x)) _ _ s
  refine wpAny_noted ?_
  rw [turn_inner]
  refine wpAny_bind (wpAny_standAt (wpAny_bind (wpAny_mono (turn n s hJ) (fun r s1 q1 => ?_) fun _ _ z => z)))
  cases r with
  | none => exact wpAny_pure q1
  | some u =>
    refine wpAny_bind (wpAny_mono q1 (fun _ s2 q2 => ?_) fun _ _ z => z)
    refine wpAny_bind (wpAny_mono q2 (fun _ s3 q3 => ?_) fun _ _ z => z)
    refine wpAny_bind (wpAny_mono q3 (fun ok s4 q4 => ?_) fun _ _ z => z)
    cases ok with
    | false => exact wpAny_pure ⟨rfl, q4⟩
    | true =>
      refine wpAny_bind (wpAny_bind (wpAny_mono q4 (fun y s5 q5 => ?_) fun _ _ z => z))
      refine wpAny_bind (wpAny_standAt (wpAny_bind (wpAny_mono q5 (fun _ s6 q6 => ?_) fun _ _ z => z)))
      exact wpAny_pure (wpAny_pure ⟨rfl, q6⟩)
/-- a clause's start: its walk is begun already, or begins here -/
theorem start_inner (h0 : codeAny (model prog w) A (.compLoop (sc2 elt t0 i0 t1 i1 f0 f1 sc pos) 1 it acc env) R s)
    (h : wpAny (model prog w) A (pyIter it) (fun itv s' => codeAny (model prog w) A (.compLoop (sc2 elt t0 i0 t1 i1 f0 f1 sc pos) 1 itv acc env) R s') (Erx prog w A env R) s) :
    codeAny (model prog w) A (.compStart (sc2 elt t0 i0 t1 i1 f0 f1 sc pos) 1 it acc env) R s := by
  refine codeAny_of_tree ?_
  show wpAny _ _ ((compStart (sc2 elt t0 i0 t1 i1 f0 f1 sc pos) 1 it acc env).onRaise (fun x => do noteFrame x env; standAt theWindowsPlace)) _ _ s
  refine wpAny_notedAt ?_
  unfold compStart
  show wpAny _ _ (ask >>= _) _ _ s
  refine wpAny_bind (wpAny_askSetting (wpAny_ite ?_))
  split
  · first
      | exact wpAny_bind (wpAny_pure (wpAny_pure (And.intro rfl h0)))
      | exact wpAny_pure (And.intro rfl h0)
  · refine wpAny_bind (wpAny_rule ?_)
    show wpAny _ _ (standAt i1.pos >>= _) _ _ s
    exact wpAny_bind (wpAny_standAt (wpAny_bind (wpAny_mono h (fun itv s' q => wpAny_pure (And.intro rfl q)) fun _ _ z => z)))
end
/-- the set at D has got y -/
def addedS (w : World) (D : Addr) (y : V) (H : Hp) (N : Hp → Prop) : Prop := ∃ (k : Int) (S : Int → Bool) (n : Nat), y = .int k ∧ H D = some (SetO w D S n) ∧ n + 1 < scanBound ∧
  N (upd H D (SetO w D (fun j => S j || decide (j = k)) (if S k = true then n else n + 1)))
/-- the reading: D the new set; behind the first clause's store and tests the second walk, from which Nx is reached -/
def tSc2 (w : World) (wi : TI) (g : TG) (tt : TT) (wi1 : TI) (g1 : TG) (tt1 : TT) (te : TE) (vs vs1 : List Nat) : TE := fun σ H Q => wi σ H fun J H1 => ∀ D, H1 D = none →
  ∃ W : Nat → Nat → Hp → Prop, (∃ m, W 0 m (upd H1 D (SetO w D (fun _ => false) 0))) ∧ ∀ i m H, W i m H →
    (J.stop i H ∧ Q (.ref D) H) ∨ (J.go i H ∧ ∃ Nx : Hp → Prop, (∀ H', Nx H' → ∃ m', m' < m ∧ W (i + 1) m' H') ∧ ∀ x H', J.yld i H x H' → g x (wipe σ vs) H' fun σ2 H2 => wipe σ2 vs = wipe σ vs ∧ tt σ2 H2 fun b H3 =>
      if b = true then wi1 σ2 H3 fun J1 H4 => ∃ W1 : Nat → Nat → Hp → Prop, (∃ m, W1 0 m H4) ∧ ∀ j k H, W1 j k H →
        (J1.stop j H ∧ Nx H) ∨ (J1.go j H ∧ ∃ Nx1 : Hp → Prop, (∀ H', Nx1 H' → ∃ k', k' < k ∧ W1 (j + 1) k' H') ∧ ∀ x H', J1.yld j H x H' → g1 x (wipe σ2 vs1) H' fun σ3 H5 => wipe σ3 vs1 = wipe σ2 vs1 ∧ tt1 σ3 H5 fun b H6 =>
          if b = true then te σ3 H6 fun y H7 => addedS w D y H7 Nx1 else Nx1 H6)
      else Nx H3)
section
variable {X : Cx}
theorem add_in {pins : List (Addr × Obj)} {σ : L2.St} {H : Hp} {s : Shared} {D : Addr} {y : V} {u : Value} {N : Hp → Prop} {Q : Value → Shared → Prop} (I : Inv X pins σ H s) (r : RelV y u) (a : addedS X.w D y H N)
    (h : ∀ H' s', Inv X pins σ H' s' → N H' → Q .none s') : wpAny (model X.prog X.w) X.A (call (.builtin "set.add") [.ref D, u]) Q X.xe s := by
  obtain ⟨k, S, n, rfl, hD, room, nx⟩ := a
  refine thn (mt_sadd pins s σ H (.ref D) [.int k] (.ref D) [u] (fun v H' => v = .non ∧ N H') I rfl (.cons r .nil) ⟨D, k, S, n, rfl, rfl, hD, room, rfl, nx⟩) fun v s' q => ?_
  obtain ⟨v', H', I', rv, rfl, nx'⟩ := q
  obtain rfl : v = Value.none := rv
  exact h H' s' I' nx'
variable {elt tg iter tg1 iter1 : Expr} {ifs ifs1 : List Expr} {scope : Scope} {own : List (Str × Nat)} {vs1 : List Nat} {pos : Pos} {wi wi1 : TI} {g g1 : TG} {tt tt1 : TT} {te : TE}
theorem pe_sc2 (hc : X.calm = true) (hN : X.N.Nodup) (hi : PI X tg iter wi) (ok : BlkOk X.N X.env.scope scope own) (hv : ∀ i ∈ vs1, i ∈ own.map (·.2))
    (blk : ∀ (s : Shared) (H : Hp) (C : Addr) (cl : List (Str × Addr)) (fp : List Addr), PG (X.blk s H scope (compEnvC scope cl C X.env) fp) tg g ∧ PTs (X.blk s H scope (compEnvC scope cl C X.env) fp) ifs tt ∧
      PI (X.blk s H scope (compEnvC scope cl C X.env) fp) tg1 iter1 wi1 ∧ PG (X.blk s H scope (compEnvC scope cl C X.env) fp) tg1 g1 ∧ PTs (X.blk s H scope (compEnvC scope cl C X.env) fp) ifs1 tt1 ∧
      PE (X.blk s H scope (compEnvC scope cl C X.env) fp) elt te)
    (fold : ∀ x, foldedSetIterable iter X.env x = pure x := by intro _; rfl) (fold1 : ∀ env x, foldedSetIterable iter1 env x = pure x := by intro _ _; rfl) :
    PE X (sc2 elt tg iter tg1 iter1 ifs ifs1 scope pos) (tSc2 X.w wi g tt wi1 g1 tt1 te (own.map (·.2)) vs1) := by
  refine ⟨fun pins s σ H Q I h => ?_⟩
  rw [PpSet.eval_SetComp]
  have cellOf : ∀ y ∈ scope.names, y.2 = .free → ∃ c, X.env.cells.lookup y.1 = some c := fun y hy e => (ok.free y hy e).elim (fun k => I.ok.has _ (.inl k)) fun k => I.ok.has _ (.inr k)
  refine wpAny_comprehension_free (use := none) rfl fold (closure_ok cellOf) ok.kind (fun y hy e => by rw [ok.uniq y hy, e]) (thn (hi.run pins s σ H _ I h) fun xv s1 hx => thn hx fun itv s2 h2 => ?_)
  obtain ⟨it, fp, tn, J, H2, e, I2, T, st2, f2, q⟩ := h2
  subst e
  refine PpSet.newSet_ok (newEnv_comp ?_)
  generalize hD : s2.heap.objs.size = D
  have freeD : H2 D = none := I2.hok.fresh (Nat.le_of_eq hD)
  obtain ⟨W, ⟨m0, w0⟩, turn⟩ := q D freeD
  generalize hso : ({ cls := .type "set", dict := none, data := .set #[] 0 (.fresh 0 0 (!X.w.params.followText "set-order")) } : Obj) = so
  have keepSo : ∀ b o, s2.heap.get? b = some o → (s2.heap.push so).get? b = some o := fun b o e => Heap.get?_push_of_some _ e
  have I3 : Inv X pins σ (upd H2 D (SetO X.w D (fun _ => false) 0)) { s2 with heap := s2.heap.push so } := by
    refine I2.laid (t' := s2.toks) keepSo (Nat.le_of_eq hD) ?_
    rw [← hD, ← hso]
    exact setO_new (setR_fresh X.w)
  generalize hs3 : ({ s2 with heap := s2.heap.push so } : Shared) = s3 at I3 ⊢
  have h3 : s3.heap = s2.heap.push so := by rw [← hs3]
  have below : ∀ b ∈ fp, b < s2.heap.objs.size := fun b hb => (T.obj _ _ st2 b hb).elim fun o e => Heap.lt_size e.1
  generalize hH3 : upd H2 D (SetO X.w D (fun _ => false) 0) = H3 at I3 w0 ⊢
  have f3 : ∀ b ∈ fp, FpOk X pins H3 b ∧ b < s3.heap.objs.size := fun b hb => by
    have lt := below b hb
    refine ⟨⟨?_, (f2 b hb).2⟩, by rw [h3, Heap.size_push]; exact Nat.lt_succ_of_lt lt⟩
    rw [← hH3, upd_ne (by rw [← hD]; exact Nat.ne_of_lt lt)]
    exact (f2 b hb).1
  have st3 : tn 0 s3.heap := T.keep _ _ _ st2 fun b _ o e => by rw [h3]; exact keepSo b o e
  have I4 := block_start I3 ok hN f3
  obtain ⟨pg, pt, pi1, pg1, pt1, pe⟩ := blk s3 H3 s3.heap.objs.size (cellsFrom (s3.heap.objs.size + 1) scope.names (cloFrom X.env.cells scope.names [])) fp
  show codeAny _ _ (.compStart (sc2 elt tg iter tg1 iter1 ifs ifs1 scope pos) 0 (.ref it) (.ref D) (compEnvC scope (cellsFrom (s3.heap.objs.size + 1) scope.names (cloFrom X.env.cells scope.names [])) s3.heap.objs.size X.env))
    (compPost (model X.prog X.w) X.A X.xe none (EP X pins σ Q) (.ref D) s3.heap.objs.size) { s3 with heap := pushCells (s3.heap.push { cls := .type "dict", data := .dict #[] }) scope.names }
  generalize hce : compEnvC scope (cellsFrom (s3.heap.objs.size + 1) scope.names (cloFrom X.env.cells scope.names [])) s3.heap.objs.size X.env = ce at I4 pg pt pi1 pg1 pt1 pe ⊢
  have locals : ce.locals = s3.heap.objs.size := by
    subst hce
    rfl
  generalize hs4 : ({ s3 with heap := pushCells (s3.heap.push { cls := .type "dict", data := .dict #[] }) scope.names } : Shared) = s4 at I4 ⊢
  have st4 : tn 0 s4.heap := T.keep _ _ _ st3 fun b _ o e => by
    rw [← hs4]
    exact pushCells_keeps _ _ _ _ (Heap.get?_push_of_some _ e)
  have clearOf : ∀ {H' : Hp}, H3 = H' → ∀ b ∈ fp, H' b = none := fun e b hb => by
    rw [← e]
    exact (f3 b hb).1.1
  -- a record of the outer walk, within the block
  have outer : ∀ {σ' : L2.St} {H' : Hp} {s' : Shared}, Inv (X.blk s3 H3 scope ce fp) [] σ' H' s' → (∀ b ∈ fp, H' b = none) → ∀ b ∈ fp, FpOk (X.blk s3 H3 scope ce fp) [] H' b := fun I' clear b hb =>
    ⟨clear b hb, (I'.ok.exf b hb).1, I'.ok.exfs b hb, .inl hb, fun x c e => (I'.ok.exf b hb).2 x c e, fun p hp => by simp at hp⟩
  -- what the outer loop keeps
  let Keep : Nat → Shared → Prop := fun n s' => ∃ i H', Inv (X.blk s3 H3 scope ce fp) [] (wipe σ (own.map (·.2))) H' s' ∧ tn i s'.heap ∧ (∀ b ∈ fp, H' b = none) ∧ W i n H'
  have loop : codeAny (model X.prog X.w) X.A (.compLoop (sc2 elt tg iter tg1 iter1 ifs ifs1 scope pos) 0 (.ref it) (.ref D) ce) (compPost (model X.prog X.w) X.A X.xe none (EP X pins σ Q) (.ref D) s3.heap.objs.size) s4 := by
    refine loop_outer (fold1 ce) Keep ?_ m0 ⟨0, H3, I4, st4, clearOf rfl, w0⟩
    rintro n s5 ⟨i, H5, I5, st5, n5, w5⟩
    rcases turn i n H5 w5 with ⟨stop, done⟩ | ⟨go, Nx, hNx, one⟩
    · refine thnF (T.done (X.blk s3 H3 scope ce fp) rfl rfl rfl hc i [] s5 _ H5 (fun _ _ => False) I5 (outer I5 n5) st5 stop) fun r s6 ⟨hr, I6⟩ => ?_
      subst hr
      have I7 : Inv X pins σ H5 s6 := I3.call' (ch := fp) I6.os I6.base I6.hok I6.bare fun b hb => by
        obtain ⟨⟨z1, z2, z3, z4, z5, z6⟩, _⟩ := f3 b hb
        exact ⟨z4, z2, z5, z6⟩
      have free5 : H5 s3.heap.objs.size = none := by
        have z : H5 ce.locals = none := I6.free
        rw [locals] at z
        exact z
      obtain ⟨m, hn, _⟩ := I6.loc
      have hn : s6.heap.Ns ce.locals m := hn
      rw [locals] at hn
      obtain ⟨y0, y1, y2, y3, y4, y5⟩ := I3.fpOk (Nat.le_refl _) free5
      refine ⟨m, hn, fun h'' sb => ?_⟩
      exact ⟨.ref D, H5, I7.turned (t' := s6.toks) (fun b o nb e => (sb.2 b nb).trans e) y0 y1 y3 y4 y5, rfl, done⟩
    · refine thnF (T.item (X.blk s3 H3 scope ce fp) rfl rfl rfl hc i [] s5 _ H5 (fun _ _ => False) I5 (outer I5 n5) st5 go) fun r s6 ⟨u, hr, h6⟩ => ?_
      subst hr
      refine thnF h6 fun _ s7 ⟨x, H7, I7, r7, y7, st7, n7⟩ => ?_
      refine thnF (pg.run _ s7 _ H7 x u _ (I7.pinned (outer I7 n7) (T.obj _ _ st7)) r7 (one x H7 y7)) fun _ s8 ⟨σ8, H8, I8, hw8, q8⟩ => ?_
      refine thnF (pt.run _ s8 σ8 H8 _ I8 q8) fun b s9 ⟨H9, I9, q9⟩ => ?_
      have len8 : (wipe σ (own.map (·.2))).length = σ8.length := by rw [← hw8, wipe_length]
      have know8 : ∀ (j : Nat) v, (wipe σ (own.map (·.2)))[j]? = some (some v) → σ8[j]? = some (some v) ∧ j ∉ own.map (·.2) := fun j v e => by
        rw [← hw8] at e
        exact wipe_some e
      -- the turn's end, from any slots that know what the block knew
      have fin : ∀ {σ9 : L2.St} {s' : Shared} {H' : Hp}, Inv (X.blk s3 H3 scope ce fp) ([] ++ pinsAt fp s7.heap) σ9 H' s' → (wipe σ (own.map (·.2))).length = σ9.length →
          (∀ (j : Nat) v, (wipe σ (own.map (·.2)))[j]? = some (some v) → σ9[j]? = some (some v)) → Nx H' → ∃ m, m < n ∧ Keep m s' := fun {σ9 s' H'} I' hl hk nx => by
        obtain ⟨m', lt, w'⟩ := hNx H' nx
        have pinned : ∀ b ∈ fp, ∀ o, s7.heap.get? b = some o → s'.heap.get? b = some o ∧ H' b = none := fun b hb o e => by
          have z := I'.pin (b, o) (List.mem_append_right _ (List.mem_append_right _ (mem_pinsAt hb e)))
          exact ⟨z.1, z.2.1⟩
        refine ⟨m', lt, i + 1, H', (I'.unpinned (pins := [])).weak hl hk, T.keep _ _ _ st7 fun b hb o e => (pinned b hb o e).1, fun b hb => ?_, w'⟩
        obtain ⟨o, e, _⟩ := T.obj _ _ st7 b hb
        exact (pinned b hb o e).2
      cases b with
      | false =>
        simp only [Bool.false_eq_true, if_false] at q9 ⊢
        exact fin I9 len8 (fun j v e => (know8 j v e).1) q9
      | true =>
        simp only [if_true] at q9 ⊢
        refine thnF (pi1.run _ s9 σ8 H9 _ I9 q9) fun xv s10 hx => thnF hx fun itv s11 h11 => ?_
        obtain ⟨it1, fp1, tn1, J1, H11, e1, I11, T1, st11, f11, W1, ⟨m1, w1⟩, turn1⟩ := h11
        subst e1
        have inner : ∀ {H' : Hp}, (∀ b ∈ fp1, H' b = none) → ∀ b ∈ fp1, FpOk (X.blk s3 H3 scope ce fp) ([] ++ pinsAt fp s7.heap) H' b := fun clear b hb => ⟨clear b hb, (f11 b hb).2⟩
        let Keep1 : Nat → Shared → Prop := fun k s' => ∃ j H', Inv (X.blk s3 H3 scope ce fp) ([] ++ pinsAt fp s7.heap) (wipe σ8 vs1) H' s' ∧ tn1 j s'.heap ∧ (∀ b ∈ fp1, H' b = none) ∧ W1 j k H'
        have loop1 : codeAny (model X.prog X.w) X.A (.compLoop (sc2 elt tg iter tg1 iter1 ifs ifs1 scope pos) 1 (.ref it1) (.ref D) ce) (fun r s' => (∃ fl, r = .ok fl) ∧ ∃ m, m < n ∧ Keep m s') s11 := by
          refine loop_inner Keep1 ?_ m1 ⟨0, H11, I11.weak (wipe_length _ _) (fun j v e => (wipe_some e).1), st11, fun b hb => (f11 b hb).1, w1⟩
          rintro k s12 ⟨j, H12, I12, st12, n12, w12⟩
          rcases turn1 j k H12 w12 with ⟨stop1, nx1⟩ | ⟨go1, Nx1, hNx1, one1⟩
          · refine thnF (T1.done (X.blk s3 H3 scope ce fp) rfl rfl rfl hc j _ s12 (wipe σ8 vs1) H12 (fun _ _ => False) I12 (inner n12) st12 stop1) fun r s13 ⟨hr, I13⟩ => ?_
            subst hr
            refine ⟨⟨_, rfl⟩, fin I13 (len8.trans (wipe_length σ8 vs1).symm) (fun j v e => ?_) nx1⟩
            obtain ⟨z1, z2⟩ := know8 j v e
            rw [wipe_out fun z => z2 (hv j z)]
            exact z1
          · refine thnF (T1.item (X.blk s3 H3 scope ce fp) rfl rfl rfl hc j _ s12 (wipe σ8 vs1) H12 (fun _ _ => False) I12 (inner n12) st12 go1) fun r s13 ⟨u1, hr, h13⟩ => ?_
            subst hr
            refine thnF h13 fun _ s14 ⟨x1, H14, I14, r14, y14, st14, n14⟩ => ?_
            refine thnF (pg1.run _ s14 (wipe σ8 vs1) H14 x1 u1 _ (I14.pinned (inner n14) (T1.obj _ _ st14)) r14 (one1 x1 H14 y14)) fun _ s15 ⟨σ15, H15, I15, hw15, q15⟩ => ?_
            refine thnF (pt1.run _ s15 σ15 H15 _ I15 q15) fun b1 s16 ⟨H16, I16, q16⟩ => ?_
            have fin1 : ∀ {s' : Shared} {H' : Hp}, Inv (X.blk s3 H3 scope ce fp) (([] ++ pinsAt fp s7.heap) ++ pinsAt fp1 s14.heap) σ15 H' s' → Nx1 H' → ∃ m, m < k ∧ Keep1 m s' := fun {s' H'} I' nx => by
              obtain ⟨m', lt, w'⟩ := hNx1 H' nx
              have pinned : ∀ b ∈ fp1, ∀ o, s14.heap.get? b = some o → s'.heap.get? b = some o ∧ H' b = none := fun b hb o e => by
                have z := I'.pin (b, o) (List.mem_append_right _ (List.mem_append_right _ (mem_pinsAt hb e)))
                exact ⟨z.1, z.2.1⟩
              refine ⟨m', lt, j + 1, H', I'.unpinned.weak (by rw [← hw15, wipe_length]) (fun j v e => by rw [← hw15] at e; exact (wipe_some e).1), T1.keep _ _ _ st14 fun b hb o e => (pinned b hb o e).1, fun b hb => ?_, w'⟩
              obtain ⟨o, e, _⟩ := T1.obj _ _ st14 b hb
              exact (pinned b hb o e).2
            cases b1 with
            | false =>
              simp only [Bool.false_eq_true, if_false] at q16 ⊢
              exact fin1 I16 q16
            | true =>
              simp only [if_true] at q16 ⊢
              refine thnF (pe.run _ s16 σ15 H16 _ I16 q16) fun z s17 ⟨yv, H17, I17, r17, ad⟩ => ?_
              exact thnF (add_in (X := X.blk s3 H3 scope ce fp) (Q := fun _ s' => ∃ m, m < k ∧ Keep1 m s') I17 r17 ad fun H' s18 I18 nx => fin1 I18 nx) fun _ _ z => z
        exact start_inner loop1 (T1.self X.A 0 _ _ _ st11 loop1)
  exact PpSet.codeAny_compStart_set loop (T.self X.A 0 _ _ _ st4 loop)
end
end EV
end L2

set_option Elab.async false
set_option linter.all false
set_option maxRecDepth 100000
set_option maxHeartbeats 4000000
/-! enumerate over a tuple. -/
namespace PySem
open Sem (wp)
open AutoSeq1 (wpAny_loadPart')
theorem meets_enumerate_newT (l : Addr) (items : Array Value) (n : Nat) (dct : Option Addr) (sl : Array (Option Value)) :
    Meets (Builtin.«enumerate.__new__» ⟨[.type "enumerate", .ref l], []⟩) (fun _ R s => s.heap.get? l = some { cls := .type "tuple", dict := dct, data := .seq items n, slots := sl } ∧
      R (.ok (.ret (.ref (s.heap.push { cls := .type "tuple_iterator", data := .fields #[.ref l, .int 0 0] }).objs.size)))
        { s with heap := (s.heap.push { cls := .type "tuple_iterator", data := .fields #[.ref l, .int 0 0] }).push { cls := .type "enumerate", data := .fields #[.none, .bool false, .ref s.heap.objs.size, rawInt 0, .none, .none] } }) :=
  .of_wp fun prog w A R s h => by
    obtain ⟨hp, g, d, tk, os⟩ := s; obtain ⟨hl, h⟩ := h
    have hsub := sub_enumerate
    have hL : Heap.IsTuple (Shared.heap ⟨hp, g, d, tk, os⟩) l items := ⟨_, hl, rfl, n, rfl⟩
    wp_walk using wpAny_loadPart' hl
    refine wpAny_stack_any fun st => wpAny_pure ?_
    split
    · rename_i c _ _ _ _ _
      cases (c == Value.type "enumerate")
      · wp_walk using wpAny_loadPart' hl, wpAny_pyIter_tuple hL
        exact ⟨_, rfl, h⟩
      · wp_walk using wpAny_loadPart' hl, wpAny_pyIter_tuple hL
        exact ⟨_, rfl, h⟩
    · wp_walk using wpAny_loadPart' hl, wpAny_pyIter_tuple hL
      exact ⟨_, rfl, h⟩
section
variable {prog : Program} {w : World} {A : Around} {E : Value → Shared → Prop} {s : Shared}
theorem call_enumerate_tuple {l : Addr} {items : Array Value} {Q : Value → Shared → Prop} (hL : s.heap.IsTuple l items)
    (h : ∀ h', IsEnum h' (s.heap.objs.size + 1) s.heap.objs.size 0 .none → h'.IsTupleIter s.heap.objs.size l 0 → h'.objs.size = s.heap.objs.size + 2 →
      (∀ b o, s.heap.get? b = some o → h'.get? b = some o) → Q (.ref (s.heap.objs.size + 1)) { s with heap := h' }) :
    wpAny (model prog w) A (call (.type "enumerate") [.ref l]) Q E s := by
  obtain ⟨⟨c, dct, dt, sl⟩, hl, hc, n, hd⟩ := hL
  replace hc : c = .type "tuple" := hc
  replace hd : dt = .seq items n := hd
  subst hc hd
  refine callType_new F.called_enumerate (by decide) (F.typeCall_enumerate_1 _) (F.newCall_enumerate_1 _) (fun obj => F.args_object_init_2 obj _) F.entry_enumerate_new
    (meets_enumerate_newT l items n dct sl) ⟨hl, ?_⟩
  have hz : (s.heap.push { cls := .type "tuple_iterator", data := .fields #[.ref l, .int 0 0] }).objs.size = s.heap.objs.size + 1 := Heap.size_push ..
  show _ ∧ _
  rw [hz]
  have he : IsEnum ((s.heap.push { cls := .type "tuple_iterator", data := .fields #[.ref l, .int 0 0] }).push
      { cls := .type "enumerate", data := .fields #[.none, .bool false, .ref s.heap.objs.size, rawInt 0, .none, .none] }) (s.heap.objs.size + 1) s.heap.objs.size 0 .none := by
    have := Heap.get?_push_size (s.heap.push { cls := .type "tuple_iterator", data := .fields #[.ref l, .int 0 0] })
      (o := { cls := .type "enumerate", data := .fields #[.none, .bool false, .ref s.heap.objs.size, rawInt 0, .none, .none] }) rfl
    rw [hz] at this; exact this
  refine ⟨⟨_, he, rfl⟩, h _ he ⟨_, Heap.get?_push_of_some _ (Heap.get?_push_size _ rfl), rfl, rfl⟩ (by rw [Heap.size_push, hz]) fun b o x => Heap.get?_push_of_some _ (Heap.get?_push_of_some _ x)⟩
end
end PySem
namespace L2
open PySem PySem.Spec PyProof.Rows
def IteT (K : PySem.W.Frag) (a : Addr) : It :=
  ⟨fun i H => ∃ (xs : List V) (x : V), SqT K H a xs ∧ xs[i]? = some x, fun i H v H' => ∃ T x, v = .ref T ∧ H T = none ∧ H' = upd H T (.tup [.int (i : Nat), x]) ∧ ∀ xs, SqT K H a xs → xs[i]? = some x, fun i H => ∃ xs : List V, SqT K H a xs ∧ xs.length = i⟩
theorem turn_enumT {P : Program} {w : World} {K : PySem.W.Frag} {elts : List Expr} {kk : Nat} {tpos : Pos} (a e it : Addr) (hai : a ≠ it) (hae : a ≠ e) :
    Turn P w K (.Tuple elts kk tpos) (IteT K a) [e, it] e (fun i h => (∃ old, IsEnum h e it ((i : Nat) : Int) old) ∧ h.IsTupleIter it a i ∧ e ≠ it) where
  mem := by simp
  obj := fun i h st b hb => by
    obtain ⟨⟨old, he⟩, ⟨o, ho, hc, hd⟩, _⟩ := st
    have e' : b = e ∨ b = it := by simpa using hb
    rcases e' with z | z
    · rw [z]; exact ⟨_, he, fun v q => nomatch q⟩
    · rw [z]; exact ⟨o, ho, fun v q => by rw [hd] at q; cases q⟩
  keep := fun i h h' st k => let ⟨⟨old, he⟩, hi, hne⟩ := st; ⟨⟨old, k e (by simp) _ he⟩, hi.at fun o q => k it (by simp) o q, hne⟩
  item := by
    intro X hP hw hK hc i pins s σ H E I hf st hg
    subst hP hw hK
    obtain ⟨⟨old, he⟩, hit, hne⟩ := st
    obtain ⟨xs, x, hq, hx⟩ := hg
    obtain ⟨its, rv, p, hz⟩ := I.tuple hq
    obtain ⟨u, hu, ru⟩ := rv.get hx
    have hel : e < s.heap.objs.size := Heap.lt_size he
    have hil : it < s.heap.objs.size := by obtain ⟨_, q, _⟩ := hit; exact Heap.lt_size q
    have hlt : i < its.toArray.size := by
      have := (List.getElem?_eq_some_iff.mp hu).1
      simpa using this
    refine wpAny_pyNext_enum_itemD (Draws.tuple (A := X.A.in1) (show X.A.in1.handled = none from I.ok.hd hc) it a hai its.toArray) he ⟨hit, show s.heap.IsTuple a its.toArray from p⟩ hlt hne (by simp [hne, Ne.symm hae]) fun u' h' tk hu' ho st' hT hsz hk => ?_
    have e0 : u' = u := by
      have q1 : its[i]? = some u' := by simpa using hu'
      rw [hu] at q1
      exact (Option.some.inj q1).symm
    subst e0
    obtain ⟨hit', _⟩ := st'
    refine ⟨_, rfl, wpAny_letOwnedTupleGo_enum (s := { s with heap := h', toks := tk + 1 }) ho fun h'' he' sb => ?_⟩
    have hT2 : h''.get? s.heap.objs.size = some { cls := .type "tuple", data := .seq #[.int i tk, u'] } := (sb.2 _ (Nat.ne_of_gt hel)).trans hT
    have new : ObjOk X.prog X.w (upd H s.heap.objs.size (.tup [.int (i : Nat), x])) h'' s.heap.objs.size (.tup [.int (i : Nat), x]) :=
      ⟨by show 2 ≤ sizeLine; decide, [.int i tk, u'], .cons ⟨_, rfl⟩ (.cons ru .nil), ⟨_, hT2, rfl, _, rfl⟩⟩
    have I1 : Inv X pins σ (upd H s.heap.objs.size (.tup [.int (i : Nat), x])) { s with heap := h'', toks := tk + 1 } :=
      I.turnedNew (ch := [e, it]) (fun b ob hb q => (sb.2 b (fun z => hb (by simp [z]))).trans (hk b ob (fun z => hb (by simp [z])) (fun z => hb (by simp [z])) q)) hf (Nat.le_refl _) new
    refine ⟨.ref s.heap.objs.size, _, I1, rfl, ⟨_, x, rfl, I.hok.fresh (Nat.le_refl _), rfl, fun ys hy => by rw [I.tuple_inj hy hq]; exact hx⟩, ⟨⟨u', ?_⟩, hit'.at fun o q => (sb.2 it (Ne.symm hne)).trans q, hne⟩, fun b hb => ?_⟩
    · have e1 : ((i + 1 : Nat) : Int) = (i : Int) + 1 := by omega
      rw [e1]; exact he'
    · have hb' : b < s.heap.objs.size := by
        have e' : b = e ∨ b = it := by simpa using hb
        rcases e' with z | z
        · rw [z]; exact hel
        · rw [z]; exact hil
      rw [upd_ne (Nat.ne_of_lt hb')]
      exact (hf b hb).1
  done := by
    intro X hP hw hK hc i pins s σ H E I hf st hg
    subst hP hw hK
    obtain ⟨⟨old, he⟩, hit, hne⟩ := st
    obtain ⟨xs, hq, hx⟩ := hg
    obtain ⟨its, rv, p, hz⟩ := I.tuple hq
    obtain ⟨f0, f1, f2, f3, f4, f5⟩ := hf it (by simp)
    have hl := rv.length
    have hn : its.toArray.size = i := by simp; omega
    exact wpAny_pyNext_enum_endD (Draws.tuple (A := X.A.in1) (show X.A.in1.handled = none from I.ok.hd hc) it a hai its.toArray) he ⟨hn.symm ▸ hit, show s.heap.IsTuple a its.toArray from p⟩ fun h' eb => ⟨rfl, I.turned (t' := s.toks) (fun b o hb q => eb b o hb q) f0 f1 f3 f4 f5⟩
  self := fun A i s Q E st h => let ⟨⟨_, he⟩, _⟩ := st; wpAny_pyIter_enum he h
def iEnumT (K : PySem.W.Frag) (ta : TA) : TI := fun σ H R => ta σ H fun vs H1 => ∃ a xs, vs = [.ref a] ∧ SqT K H1 a xs ∧ R (IteT K a) H1
theorem pi_enumT {X : Cx} {e : Expr} {ta : TA} {p pos tpos : Pos} {elts : List Expr} {kk : Nat} (hg : Gl X "enumerate") (hm : X.mg "enumerate" = none) (ha : PA X [e] ta) (hs : starEach [e] X.env = [(false, eval e X.env)] := by rfl) :
    PI X (.Tuple elts kk tpos) (.Call (.Name "enumerate" p) [e] [] pos) (iEnumT X.K ta) := by
  refine ⟨fun pins s σ H R I h => ?_⟩
  refine Call_ (ld_blt I hg hm boot_enumerate (PyProof.Rows.callWith_type1 (thn (ha.run pos pins s σ H _ I h) fun us s1 ⟨vs, H1, I1, r1, q1⟩ => ?_) hs rfl))
  obtain ⟨a, xs, ex, hq, q⟩ := q1
  subst ex
  cases r1 with
  | cons r rr =>
    cases rr
    cases r
    obtain ⟨its, rv, p', hz⟩ := I1.tuple hq
    have hal : a < s1.heap.objs.size := by
      obtain ⟨o, q, _⟩ := id p'
      exact Heap.lt_size q
    refine call_enumerate_tuple (show s1.heap.IsTuple a its.toArray from p') fun h' he hit hsz hk => wpAny_pyIter_enum he ?_
    have I2 : Inv X pins σ H1 { s1 with heap := h' } := I1.kept (t' := s1.toks) hk
    refine ⟨s1.heap.objs.size + 1, [s1.heap.objs.size + 1, s1.heap.objs.size], _, _, H1, rfl, I2, turn_enumT a (s1.heap.objs.size + 1) s1.heap.objs.size (Nat.ne_of_lt hal) (Nat.ne_of_lt (Nat.lt_succ_of_lt hal)), ⟨⟨.none, he⟩, hit, Nat.succ_ne_self _⟩, fun b hb => ?_, q⟩
    have e' : b = s1.heap.objs.size + 1 ∨ b = s1.heap.objs.size := by simpa using hb
    have hle : s1.heap.objs.size ≤ b := by
      rcases e' with z | z
      · rw [z]; exact Nat.le_add_right _ _
      · rw [z]; exact Nat.le_refl _
    exact I1.fpOk hle (I1.hok.fresh hle)
theorem walk_enumT {K : PySem.W.Frag} {a : Addr} {xs : List V} : Walk (IteT K a) xs.length (fun H => SqT K H a xs) (YPair (fun i => some (.int (i : Nat))) (fun i => xs[i]?)) := by
  refine ⟨fun i _ hi q => ⟨xs, xs[i], q, by simp [hi]⟩, fun _ q => ⟨xs, q, rfl⟩, fun i H v H' _ q y => ?_⟩
  obtain ⟨T, x, h1, h2, h3, h4⟩ := y
  exact ⟨T, .int (i : Nat), x, h1, h2, h3, rfl, h4 xs q⟩
end L2

set_option Elab.async false
set_option linter.all false
set_option maxRecDepth 100000
set_option maxHeartbeats 4000000
/-! Framings; listed_standings. -/
namespace K02
open PySem L2 L2.EV
abbrev sListed : Stmt := top 10
/-- a framing at f -/
def FrA (H : Hp) (f : Addr) (fr : List T3) : Prop := ∃ ts : List Addr, H f = some (.tup (ts.map V.ref)) ∧ ts.length = fr.length ∧ ∀ (i : Nat) t x, ts[i]? = some t → fr[i]? = some x → S3 H t x
theorem FrA.same {H H' : Hp} {f : Addr} {fr : List T3} (h : FrA H f fr) (s : Same H H') : FrA H' f fr := by
  obtain ⟨ts, e, l, c⟩ := h
  exact ⟨ts, s _ _ e, l, fun i t x h1 h2 => s _ _ (c i t x h1 h2)⟩
structure Frm (fr : List T3) (last : Nat) : Prop where
  l0 : 1 ≤ fr.length
  l1 : fr.length ≤ 16
  stp : ∀ x ∈ fr, Stp x
  srt : fr.Pairwise (fun x y => lt3 x y = true)
  up : ∀ k : Nat, 1 ≤ k → k ≤ last → ∃ x ∈ fr, x.2.2 = (k : Int) ∧ 0 ≤ x.1 ∧ x.1 < k
  dn : ∀ k : Nat, k ≤ last → ∃ x ∈ fr, x.1 = (k : Int) ∧ (x.2.2 = 0 ∨ ((k : Int) < x.2.2 ∧ x.2.2 ≤ last))
  lo : ∀ x ∈ fr, x.1 ≤ last ∧ x.2.2 ≤ last
  l5 : last ≤ 5
/-- a framing's bounds -/
structure Fb (fr : List T3) (last : Nat) : Prop where
  l1 : fr.length ≤ 16
  lo : ∀ x ∈ fr, 0 ≤ x.1 ∧ x.1 ≤ last ∧ 0 ≤ x.2.2 ∧ x.2.2 ≤ last
  l5 : last ≤ 5
/-- what is closed under the steps, from b on, holds all standings -/
theorem Frm.all {fr : List T3} {last : Nat} (F : Frm fr last) {S : Int → Prop} {b : Nat} (hb : b ≤ last) (c0 : ∀ x ∈ fr, x.1 = (b : Int) → S x.2.2) (c : ∀ x ∈ fr, S x.1 → S x.2.2) : ∀ k : Nat, k ≤ last → S k := by
  have go : ∀ n k : Nat, last - k ≤ n → k ≤ last → (k = b ∨ S (k : Int)) → S 0 := by
    intro n
    induction n with
    | zero =>
      intro k h hk z
      obtain ⟨x, hx, e1, e2⟩ := F.dn k hk
      have e3 : S x.2.2 := by
        rcases z with z | z
        · subst z
          exact c0 x hx e1
        · exact c x hx (by rw [e1]; exact z)
      rcases e2 with e2 | ⟨e2, e4⟩
      · rw [← e2]
        exact e3
      · omega
    | succ n ih =>
      intro k h hk z
      obtain ⟨x, hx, e1, e2⟩ := F.dn k hk
      have e3 : S x.2.2 := by
        rcases z with z | z
        · subst z
          exact c0 x hx e1
        · exact c x hx (by rw [e1]; exact z)
      rcases e2 with e2 | ⟨e2, e4⟩
      · rw [← e2]
        exact e3
      · obtain ⟨j, hj⟩ := Int.eq_ofNat_of_zero_le (show 0 ≤ x.2.2 by omega)
        rw [hj] at e2 e3 e4
        exact ih j (by omega) (by omega) (.inr e3)
  have s0 : S 0 := go (last - b) b (Nat.le_refl _) hb (.inl rfl)
  have al : ∀ n k : Nat, k ≤ n → k ≤ last → S (k : Int) := by
    intro n
    induction n with
    | zero =>
      intro k h _
      obtain rfl : k = 0 := by omega
      exact s0
    | succ n ih =>
      intro k h hk
      by_cases z : k = 0
      · subst z
        exact s0
      · obtain ⟨x, hx, e1, e2, e3⟩ := F.up k (by omega) hk
        rw [← e1]
        obtain ⟨j, hj⟩ := Int.eq_ofNat_of_zero_le e2
        exact c x hx (by
          rw [hj]
          exact ih j (by omega) (by omega))
  exact fun k hk => al k k (Nat.le_refl _) hk
theorem sc_it {J : It} {n : Nat} {G : Hp → Prop} {Y : Nat → Hp → V → Hp → Prop} (w : Walk J n G Y) {H0 : Hp} {Qd : Hp → Prop} {body : V → Hp → (Hp → Prop) → Prop} (Pv : Nat → Hp → Prop) (h0 : Pv 0 H0) (hG : ∀ i H, i ≤ n → Pv i H → G H)
    (hs : ∀ i x H H', i < n → Pv i H → Y i H x H' → body x H' (Pv (i + 1))) (hd : ∀ H, Pv n H → Qd H) :
    ∃ W : Nat → Nat → Hp → Prop, (∃ m, W 0 m H0) ∧ ∀ i m H, W i m H → (J.stop i H ∧ Qd H) ∨ (J.go i H ∧ ∃ Nx : Hp → Prop, (∀ H', Nx H' → ∃ m', m' < m ∧ W (i + 1) m' H') ∧ ∀ x H', J.yld i H x H' → body x H' Nx) := by
  refine ⟨fun i m H => m = n - i ∧ i ≤ n ∧ Pv i H, ⟨n, by simp, Nat.zero_le _, h0⟩, ?_⟩
  rintro i m H ⟨rfl, hi, p⟩
  have q := hG i H hi p
  by_cases hlt : i < n
  · exact .inr ⟨w.goes i H hlt q, Pv (i + 1), fun H' p' => ⟨n - (i + 1), by omega, rfl, hlt, p'⟩, fun x H' y => hs i x H H' hlt p (w.yields i H x H' hlt q y)⟩
  · have e : i = n := by omega
    subst e
    exact .inl ⟨w.stops H q, hd H p⟩
theorem at_step {H : Hp} {ts : List Addr} {fr : List T3} {i : Nat} {x : V} (hl : ts.length = fr.length) (ht : ∀ (i : Nat) t x, ts[i]? = some t → fr[i]? = some x → S3 H t x) (hx : (ts.map V.ref)[i]? = some x) :
    ∃ t y, fr[i]? = some y ∧ x = .ref t ∧ S3 H t y := by
  rw [List.getElem?_map] at hx
  cases e : ts[i]? with
  | none =>
    rw [e] at hx
    cases hx
  | some t =>
    rw [e] at hx
    have il : i < fr.length := by
      have := (List.getElem?_eq_some_iff.mp e).1
      omega
    exact ⟨t, fr[i], List.getElem?_eq_getElem il, (Option.some.inj hx).symm, ht i t _ e (List.getElem?_eq_getElem il)⟩
/-- listed_standings(framing): a new list of numbers up to last -/
def spListed : Sp := fun vs H Q _ => ∃ (f : Addr) (fr : List T3) (last : Nat), vs = [.ref f] ∧ FrA H f fr ∧ Fb fr last ∧
  ∀ (H' : Hp) (p : Addr) (ns : List Int), Same H H' → H p = none → H' p = some (.lst (ns.map V.int)) → ns.length ≤ 32 → (∀ k ∈ ns, 0 ≤ k ∧ k ≤ last) → (∀ x ∈ fr, x.1 ∈ ns ∧ x.2.2 ∈ ns) → (∀ k ∈ ns, ∃ x ∈ fr, x.1 = k ∨ x.2.2 = k) → Q (.ref p) H'
theorem pe_sc2s {X : Cx} {elt tg iter tg1 iter1 : Expr} {ifs ifs1 : List Expr} {scope : Scope} {own : List (Str × Nat)} {vs1 : List Nat} {pos : Pos} {wi wi1 : TI} {g g1 : TG} {tt tt1 : TT} {te : TE} (hc : X.calm = true) (hN : X.N.Nodup) (hi : PI X tg iter wi) (ok : BlkOk X.N X.env.scope scope own) (hv : ∀ i ∈ vs1, i ∈ own.map (·.2))
    (b1 : ∀ (s : Shared) (H : Hp) (C : Addr) (cl : List (Str × Addr)) (fp : List Addr), PG (X.blk s H scope (compEnvC scope cl C X.env) fp) tg g)
    (b2 : ∀ (s : Shared) (H : Hp) (C : Addr) (cl : List (Str × Addr)) (fp : List Addr), PTs (X.blk s H scope (compEnvC scope cl C X.env) fp) ifs tt)
    (b3 : ∀ (s : Shared) (H : Hp) (C : Addr) (cl : List (Str × Addr)) (fp : List Addr), PI (X.blk s H scope (compEnvC scope cl C X.env) fp) tg1 iter1 wi1)
    (b4 : ∀ (s : Shared) (H : Hp) (C : Addr) (cl : List (Str × Addr)) (fp : List Addr), PG (X.blk s H scope (compEnvC scope cl C X.env) fp) tg1 g1)
    (b5 : ∀ (s : Shared) (H : Hp) (C : Addr) (cl : List (Str × Addr)) (fp : List Addr), PTs (X.blk s H scope (compEnvC scope cl C X.env) fp) ifs1 tt1)
    (b6 : ∀ (s : Shared) (H : Hp) (C : Addr) (cl : List (Str × Addr)) (fp : List Addr), PE (X.blk s H scope (compEnvC scope cl C X.env) fp) elt te)
    (fold : ∀ x, foldedSetIterable iter X.env x = pure x := by intro _; rfl) (fold1 : ∀ env x, foldedSetIterable iter1 env x = pure x := by intro _ _; rfl) :
    PE X (.SetComp elt [⟨tg, iter, ifs, 0⟩, ⟨tg1, iter1, ifs1, 0⟩] scope pos) (tSc2 X.w wi g tt wi1 g1 tt1 te (own.map (·.2)) vs1) :=
  pe_sc2 hc hN hi ok hv (fun s H C cl fp => ⟨b1 s H C cl fp, b2 s H C cl fp, b3 s H C cl fp, b4 s H C cl fp, b5 s H C cl fp, b6 s H C cl fp⟩) fold fold1
theorem same_set {D : Addr} {H H' : Hp} {o : HO} (hD : H D = none) (k : Same H H') : Same H (upd H' D o) := fun b u e => by
  rw [upd_ne (ne_of_none e hD)]
  exact k _ _ e
theorem scan64 : 64 < scanBound := by decide +kernel
section
variable {P : Program} {w : World} {K : PySem.W.Frag} {mg : Str → Option Value} {base : Heap}
theorem scListed : FnScope ["framing", "start", "piece", "goal", "standing"] ["framing"] (defScope sListed) := ⟨rfl, rfl, rfl, by decide +kernel, rfl, by decide +kernel, by decide +kernel⟩
theorem ok_listed {f : Addr} {fd : FuncData} (F : Fun K "listed_standings" "listed_standings" sListed f fd) (hs : mg "sorted" = none) : FnOk P w K mg base CX0 1 f fd ["framing"] spListed := by
  refine F.ok scListed (fun vs H Q E h => ?_) (fun cdv A outer s H vs Q E hr h => ?_)
  · obtain ⟨f, fr, last, rfl, _⟩ := h
    rfl
  · obtain ⟨f, fr, last, rfl, fa, fm, q⟩ := h
    refine ⟨_, pss_one (ps_ret (pe_callB (cr_sortedSet rfl) (by rfl) hs (by decide +kernel) (pa_cons (pe_sc2s (g := gTup K 3 (gCons (gName 1) (gCons (gName 2) (gCons (gName 3) gNil)))) (tt := tYes) (wi1 := iTup K (tTup (tCons (tVar 1) (tCons (tVar 3) tNil)))) (g1 := gName 4) (tt1 := tYes) (te := tVar 4) (own := [("start", 1), ("piece", 2), ("goal", 3), ("standing", 4)]) (vs1 := [4]) rfl scListed.nd (pi_tup (pv 0))
      (blkOk_by (N := ["framing", "start", "piece", "goal", "standing"]) (sc := defScope sListed) (by decide +kernel)) (by decide)
      (fun _ _ _ _ _ => pg_tup rfl (pgs_cons (pg_name (i := 1) scListed.nd rfl (Or.inl rfl)) (pgs_cons (pg_name (i := 2) scListed.nd rfl (Or.inl rfl)) (pgs_cons (pg_name (i := 3) scListed.nd rfl (Or.inl rfl)) pgs_nil)))) (fun _ _ _ _ _ => pts_nil)
      (fun _ _ _ _ _ => pi_tup (pe_tup (pa_cons (pv 1) (pa_cons (pv 3) pa_nil)))) (fun _ _ _ _ _ => pg_name (i := 4) scListed.nd rfl (Or.inl rfl)) (fun _ _ _ _ _ => pts_nil) (fun _ _ _ _ _ => pv 4)) pa_nil))), ?_⟩
    obtain ⟨ts, hf, hl, ht⟩ := id fa
    refine ⟨_, rfl, f, rfl, ⟨_, SqT.of hf⟩, fun D hD => ?_⟩
    refine sc_it (walk_tup (xs := ts.map V.ref)) (fun i H' => Same H H' ∧ ∃ (S : Int → Bool) (n : Nat), H' D = some (SetO w D S n) ∧ n ≤ 2 * i ∧ (∀ k, S k = true → 0 ≤ k ∧ k ≤ last ∧ ∃ x ∈ fr, x.1 = k ∨ x.2.2 = k) ∧ ∀ x ∈ fr.take i, S x.1 = true ∧ S x.2.2 = true)
      ⟨same_upd hD, _, _, upd_same, Nat.le_refl _, (fun k z => by cases z), fun x z => by cases z⟩ (fun i H' _ z => SqT.of (z.1 _ _ hf)) ?_ ?_
    · rintro i x H1 H2 hi ⟨sm, S, n, hS, hn, hk, hall⟩ ⟨rfl, hx⟩
      obtain ⟨t, y, hy, rfl, e3⟩ := at_step (i := i) hl ht hx
      have e4 : H2 t = _ := sm _ _ e3
      obtain ⟨b1, b5, b3, b6⟩ := fm.lo y (List.mem_of_getElem? hy)
      refine ⟨t, _, rfl, SqT.of e4, rfl, _, _, rfl, _, _, rfl, _, _, rfl, rfl, rfl, ?_⟩
      refine ⟨_, rfl, _, rfl, (by show 2 ≤ sizeLine; decide), fun p hp => ⟨p, rfl, ⟨_, SqT.of upd_same⟩, ?_⟩⟩
      refine sc_it (walk_tup (xs := [V.int y.1, V.int y.2.2])) (fun j H' => Same H H' ∧ H' p = some (.tup [V.int y.1, V.int y.2.2]) ∧ ∃ (S : Int → Bool) (n : Nat), H' D = some (SetO w D S n) ∧ n ≤ 2 * i + j ∧ (∀ k, S k = true → 0 ≤ k ∧ k ≤ last ∧ ∃ x ∈ fr, x.1 = k ∨ x.2.2 = k) ∧ (∀ x ∈ fr.take i, S x.1 = true ∧ S x.2.2 = true) ∧ (0 < j → S y.1 = true) ∧ (1 < j → S y.2.2 = true))
        ⟨fun b u e => same_upd hp _ _ (sm _ _ e), upd_same, S, n, by rw [upd_ne (ne_of_none hS hp)]; exact hS, hn, hk, hall, (fun z => absurd z (by omega)), fun z => absurd z (by omega)⟩ (fun j H' _ z => SqT.of z.2.1) ?_ ?_
      · rintro j x H2 H3 hj ⟨sm2, hp2, S2, n2, hS2, hn2, hk2, ha2, hy1, hy2⟩ ⟨rfl, hx2⟩
        have hj2 : j < 2 := hj
        obtain ⟨k, rfl, k0, k1, kj0, kj1⟩ : ∃ k : Int, x = .int k ∧ 0 ≤ k ∧ k ≤ last ∧ (j = 0 → k = y.1) ∧ (j = 1 → k = y.2.2) := by
          match j, hj2 with
          | 0, _ => exact ⟨y.1, (Option.some.inj hx2).symm, b1, b5, fun _ => rfl, fun z => by cases z⟩
          | 1, _ => exact ⟨y.2.2, (Option.some.inj hx2).symm, b3, b6, (fun z => by cases z), fun _ => rfl⟩
        have sc := scan64
        have l1 := fm.l1
        have hi2 : i < fr.length := (List.getElem?_eq_some_iff.mp hy).1
        refine ⟨rfl, _, rfl, k, S2, n2, rfl, hS2, by omega, same_set hD sm2, ?_, _, _, upd_same, ?_, (fun k2 z => ?_), (fun x2 z2 => ?_), (fun z2 => ?_), fun z2 => ?_⟩
        · rw [upd_ne (ne_of hp2 hS2 (fun z => by cases z))]
          exact hp2
        · split <;> omega
        · rw [Bool.or_eq_true] at z
          rcases z with z | z
          · exact hk2 k2 z
          · have e5 : k2 = k := of_decide_eq_true z
            rw [e5]
            exact ⟨k0, k1, y, List.mem_of_getElem? hy, by
              rcases (show j = 0 ∨ j = 1 by omega) with c | c
              · exact .inl (kj0 c).symm
              · exact .inr (kj1 c).symm⟩
        · obtain ⟨c1, c2⟩ := ha2 x2 z2
          exact ⟨by rw [c1, Bool.true_or], by rw [c2, Bool.true_or]⟩
        · by_cases c : j = 0
          · rw [kj0 c, decide_eq_true rfl, Bool.or_true]
          · rw [hy1 (by omega), Bool.true_or]
        · have c : j = 1 := by omega
          rw [kj1 c, decide_eq_true rfl, Bool.or_true]
      · rintro H2 ⟨sm2, hp2, S2, n2, hS2, hn2, hk2, ha2, hy1, hy2⟩
        refine ⟨sm2, S2, n2, hS2, ?_, hk2, fun x2 z2 => ?_⟩
        · have hn3 : n2 ≤ 2 * i + 2 := hn2
          omega
        · have il := (List.getElem?_eq_some_iff.mp hy).1
          rw [List.take_succ, hy] at z2
          rcases List.mem_append.mp z2 with z2 | z2
          · exact ha2 x2 z2
          · have e9 : x2 = y := by simpa using z2
            rw [e9]
            exact ⟨hy1 (by simp), hy2 (by simp)⟩
    · rintro H1 ⟨sm, S, n, hS, hn, hk, hall⟩
      refine ⟨D, S, n, rfl, hS, ?_, fun ns p _ h2 h3 h4 => ?_⟩
      · have := fm.l1
        simp only [List.length_map] at hn
        omega
      · refine q _ p ns ?_ ?_ upd_same ?_ ?_ ?_ ?_
        · exact fun b u e => by
            rw [upd_ne (ne_of_none (sm _ _ e) h4)]
            exact sm _ _ e
        · exact sm.free h4
        · have := fm.l1
          simp only [List.length_map] at hn
          omega
        · exact fun k z => ⟨(hk k ((h2 k).mp z)).1, (hk k ((h2 k).mp z)).2.1⟩
        · intro x hx
          have e9 : fr.take (ts.map V.ref).length = fr := by rw [List.length_map, hl, List.take_length]
          rw [e9] at hall
          exact ⟨(h2 _).mpr (hall x hx).1, (h2 _).mpr (hall x hx).2⟩
        · exact fun k z => (hk k ((h2 k).mp z)).2.2
end
end K02

set_option Elab.async false
set_option linter.all false
set_option maxRecDepth 100000
set_option maxHeartbeats 4000000
/-! ways_from: all standings are found. -/
namespace K02
open PySem L2 L2.EV
abbrev sWays : Stmt := top 11
abbrev has (kvs : List (Key × V)) (g : Int) : Bool := (valV kvs (Sum.inl g : Key)).isSome
/-- ways_from(framing, b): a new dict that has all standings -/
def spWays : Sp := fun vs H Q _ => ∃ (f : Addr) (fr : List T3) (last b : Nat) (S : Int → Prop), vs = [.ref f, .int b] ∧ FrA H f fr ∧ Fb fr last ∧ b ≤ last ∧ (∀ x ∈ fr, x.1 = (b : Int) → S x.2.2) ∧ (∀ x ∈ fr, S x.1 → S x.2.2) ∧
  ∀ (H' : Hp) (d : Addr) (kvs : List (Key × V)), Same H H' → H d = none → H' d = some (.dK kvs) → (∀ x ∈ fr, (x.1 = (b : Int) ∨ has kvs x.1 = true) → has kvs x.2.2 = true) → (∀ g : Int, has kvs g = true → S g) → Q (.ref d) H'
/-- the standings up to last that are not found -/
def miss (last : Nat) (kvs : List (Key × V)) : Nat := ((List.range (last + 1)).filter fun k : Nat => !has kvs k).length
theorem miss_le {last : Nat} {kvs : List (Key × V)} : miss last kvs ≤ last + 1 := by
  have := List.length_filter_le (fun k : Nat => !has kvs k) (List.range (last + 1))
  rw [List.length_range] at this
  exact this
theorem filt_lt {α : Type} {p q : α → Bool} : ∀ {l : List α} {a : α}, a ∈ l → p a = true → q a = false → (∀ x, q x = true → p x = true) → (l.filter q).length < (l.filter p).length
  | x :: l, a, hm, hp, hq, h => by
    have le : ∀ m : List α, (m.filter q).length ≤ (m.filter p).length := fun m => by
      induction m with
      | nil => exact Nat.le_refl _
      | cons y m ih =>
        rw [List.filter_cons, List.filter_cons]
        by_cases z : q y = true
        · rw [if_pos z, if_pos (h y z), List.length_cons, List.length_cons]
          omega
        · rw [if_neg z]
          split
          · rw [List.length_cons]
            omega
          · exact ih
    rw [List.filter_cons, List.filter_cons]
    rcases List.mem_cons.mp hm with z | z
    · subst z
      rw [if_pos hp, if_neg (by rw [hq]; simp), List.length_cons]
      have := le l
      omega
    · have ih := filt_lt z hp hq h
      by_cases y : q x = true
      · rw [if_pos y, if_pos (h x y), List.length_cons, List.length_cons]
        omega
      · rw [if_neg y]
        split
        · rw [List.length_cons]
          omega
        · exact ih
theorem has_put {kvs : List (Key × V)} {g k : Int} {v : V} : has (putK kvs (Sum.inl g) v) k = (decide (k = g) || has kvs k) := by
  unfold has
  rw [valV_put]
  by_cases e : k = g
  · subst e
    rw [if_pos rfl, decide_eq_true rfl]
    rfl
  · rw [if_neg (fun z => e (Sum.inl.inj z)), decide_eq_false e, Bool.false_or]
theorem miss_put {last : Nat} {kvs : List (Key × V)} {g : Int} {v : V} (h0 : 0 ≤ g) (h1 : g ≤ last) (n : has kvs g = false) : miss last (putK kvs (Sum.inl g) v) < miss last kvs := by
  obtain ⟨a, rfl⟩ := Int.eq_ofNat_of_zero_le h0
  refine filt_lt (a := a) (List.mem_range.mpr (by omega)) (by simp only [n, Bool.not_false]) ?_ ?_
  · rw [has_put, decide_eq_true rfl]
    rfl
  · intro x hx
    rw [has_put] at hx
    cases z : has kvs x with
    | false => rfl
    | true =>
      rw [z] at hx
      simp at hx
/-- the rows: tuples of a way and a standing -/
def Rows (H : Hp) (last n : Nat) (ps : List (Addr × Int)) : Prop := ∀ q ∈ ps, 0 ≤ q.2 ∧ q.2 ≤ last ∧ ∃ (wy : Addr) (xs : List V), H q.1 = some (.tup [.ref wy, .int q.2]) ∧ H wy = some (.tup xs) ∧ xs.length ≤ n
def KeepT (H H' : Hp) : Prop := ∀ a xs, H a = some (.tup xs) → H' a = some (.tup xs)
theorem Rows.keep {H H' : Hp} {last n m : Nat} {ps : List (Addr × Int)} (h : Rows H last n ps) (k : KeepT H H') (l : n ≤ m) : Rows H' last m ps := fun q hq => by
  obtain ⟨h0, h1, wy, xs, e1, e2, e3⟩ := h q hq
  exact ⟨h0, h1, wy, xs, k _ _ e1, k _ _ e2, Nat.le_trans e3 l⟩
theorem Same.keepT {H H' : Hp} (s : Same H H') : KeepT H H' := fun a xs e => s _ _ e
theorem KeepT.trans {H H' H2 : Hp} (a : KeepT H H') (b : KeepT H' H2) : KeepT H H2 := fun x xs e => b _ _ (a _ _ e)
theorem keepT_upd {H : Hp} {d : Addr} {o : HO} {o' : HO} (e : H d = some o') (n : ∀ xs, o' ≠ .tup xs) : KeepT H (upd H d o) := fun a xs h => by
  by_cases z : a = d
  · subst z
    rw [e] at h
    exact absurd (Option.some.inj h) (n xs)
  · rw [upd_ne z]
    exact h
/-- t + u, u not empty: the result is somewhere, all else stays -/
def rCatS (K : PySem.W.Frag) : R2 := fun x y H Q => ∃ a b xs ys, x = .ref a ∧ y = .ref b ∧ SqT K H a xs ∧ H b = some (.tup ys) ∧ ys ≠ [] ∧ xs.length + ys.length ≤ sizeLine ∧ ∀ p H', Same H H' → H' p = some (.tup (xs ++ ys)) → Q (.ref p) H'
theorem op_catS {X : Cx} : OpR X (binaryOp .Add) (rCatS X.K) := by
  intro pins s σ H x y v u Q I rx ry h
  obtain ⟨a, b, xs, ys, rfl, rfl, ha, hb, hn, hz, q⟩ := h
  refine op_catA pins s σ H _ _ v u Q I rx ry ⟨a, b, xs, ys, rfl, rfl, ha, SqT.of hb, hz, fun z => ?_, fun _ z => absurd z hn, fun _ _ p hp => q p _ (same_upd hp) upd_same⟩
  subst z
  exact q b H (fun _ _ e => e) (by rw [hb]; rfl)
structure Co (H0 H : Hp) (d r u : Addr) (last m0 : Nat) (ps qs : List (Addr × Int)) (kvs : List (Key × V)) : Prop where
  sm : Same H0 H
  hd : H d = some (.dK kvs)
  hr : H r = some (.lst (ps.map fun q => V.ref q.1))
  hu : H u = some (.lst (qs.map fun q => V.ref q.1))
  rp : Rows H last kvs.length ps
  rq : Rows H last kvs.length qs
  cnt : kvs.length + miss last kvs ≤ last + 1
  me : (qs = [] ∧ miss last kvs ≤ m0) ∨ miss last kvs < m0
  ql : qs.length ≤ kvs.length
theorem Co.same {H0 H H' : Hp} {d r u : Addr} {last m0 : Nat} {ps qs : List (Addr × Int)} {kvs : List (Key × V)} (C : Co H0 H d r u last m0 ps qs kvs) (s : Same H H') : Co H0 H' d r u last m0 ps qs kvs :=
  ⟨C.sm.trans s, s _ _ C.hd, s _ _ C.hr, s _ _ C.hu, C.rp.keep (Same.keepT s) (Nat.le_refl _), C.rq.keep (Same.keepT s) (Nat.le_refl _), C.cnt, C.me, C.ql⟩
/-- what is reached from a standing that stands in the rows, or is found -/
def Clo (fr : List T3) (b : Nat) (kvs : List (Key × V)) (open_ : Int → T3 → Prop) : Prop := ∀ x ∈ fr, (x.1 = (b : Int) ∨ has kvs x.1 = true) → open_ x.1 x ∨ has kvs x.2.2 = true
def Sd (S : Int → Prop) (b : Nat) (ps : List (Addr × Int)) : Prop := ∀ q ∈ ps, q.2 = (b : Int) ∨ S q.2
def Sk (S : Int → Prop) (kvs : List (Key × V)) : Prop := ∀ g : Int, has kvs g = true → S g
section
variable {P : Program} {w : World} {K : PySem.W.Frag} {mg : Str → Option Value} {base : Heap}
theorem scWays : FnScope ["framing", "begin", "found", "rows", "further", "way", "standing", "number", "start", "piece", "goal"] ["framing", "begin"] (defScope sWays) := ⟨rfl, rfl, rfl, by decide +kernel, rfl, by decide +kernel, by decide +kernel⟩
theorem ok_ways {f : Addr} {fd : FuncData} (F : Fun K "ways_from" "ways_from" sWays f fd) (he : mg "enumerate" = none) : FnOk P w K mg base CX0 1 f fd ["framing", "begin"] spWays := by
  refine F.ok scWays (fun vs H Q E h => ?_) (fun cdv A outer s H vs Q E hr h => ?_)
  · obtain ⟨f, fr, last, b, S, rfl, _⟩ := h
    rfl
  · obtain ⟨f, fr, last, b, S, rfl, fa, fm, hb, cl0, cl1, q⟩ := h
    have hu := hu_of hr
    refine ⟨_, pss_cons (ps_set (i := 2) scWays.nd rfl (Or.inl rfl) pe_dnewK)
      (pss_cons (ps_set (i := 3) scWays.nd rfl (Or.inl rfl) (pe_lst (pa_cons (pe_tup (pa_cons (pe_tup pa_nil) (pa_cons (pv 1) pa_nil))) pa_nil)))
      (pss_cons (ps_while PassesOwn.never (pt_truth (pv 3) (fun _ => rfl))
        (pss_cons (ps_set (i := 4) scWays.nd rfl (Or.inl rfl) (pe_lst pa_nil))
        (pss_cons (ps_for PassesOwn.never rfl (pi_list (pv 3)) (pg_tup rfl (pgs_cons (pg_name (i := 5) scWays.nd rfl (Or.inl rfl)) (pgs_cons (pg_name (i := 6) scWays.nd rfl (Or.inl rfl)) pgs_nil)))
          (pss_one (ps_for PassesOwn.never rfl (pi_enumT (by rfl) he (pa_cons (pv 0) pa_nil)) (pg_tup rfl (pgs_cons (pg_name (i := 7) scWays.nd rfl (Or.inl rfl)) (pgs_cons (pg_tup rfl (pgs_cons (pg_name (i := 8) scWays.nd rfl (Or.inl rfl)) (pgs_cons (pg_name (i := 9) scWays.nd rfl (Or.inl rfl)) (pgs_cons (pg_name (i := 10) scWays.nd rfl (Or.inl rfl)) pgs_nil)))) pgs_nil)))
            (pss_one (ps_if (pw_and (pt_cmpR op_eq (pv 8) (pv 6) (nomark _)) (pw_and1 (pt_cmp (pc_dnotin hu (pv 10) (pv 2)) (by rfl)))).pt
              (pss_cons (ps_dput hu (pv 2) (pv 10) (pe_op op_catS (pv 5) (pe_tup (pa_cons (pv 7) pa_nil))) rfl)
                (pss_one (ps_expr (pe_bm PySem.F.plainAttrs_list PySem.F.slot_list_append PySem.F.type_list_append mt_append (pv 4) (pa_cons (pe_tup (pa_cons (pe_dget hu (pv 2) (pv 10) (fun _ _ => rfl)) (pa_cons (pv 10) pa_nil))) pa_nil)))))
              pss_nil)))))
        (pss_one (ps_set (i := 3) scWays.nd rfl (Or.inl rfl) (pv 4))))))
      (pss_one (ps_ret (pv 2))))), ?_⟩
    intro d hd0
    have sd := same_upd (o := HO.dK []) hd0
    refine ⟨by decide, fun e0 he0 => ⟨_, rfl, (by show 2 ≤ sizeLine; decide), fun p0 hp0 => ⟨(by show 1 ≤ sizeLine; decide), fun r hr0 => ?_⟩⟩⟩
    have s1 := same_upd (o := HO.tup []) he0
    have s2 := same_upd (o := HO.tup [V.ref e0, V.int (b : Int)]) hp0
    have s3 := same_upd (o := HO.lst [V.ref p0]) hr0
    refine ⟨fun j σ H' => ∃ (r : Addr) (kvs : List (Key × V)) (ps : List (Addr × Int)) (v4 v5 v6 v7 v8 v9 v10 : Option V), σ = [some (.ref f), some (.int b), some (.ref d), some (.ref r), v4, v5, v6, v7, v8, v9, v10] ∧
      Same H H' ∧ H' d = some (.dK kvs) ∧ H' r = some (.lst (ps.map fun q => V.ref q.1)) ∧ Rows H' last kvs.length ps ∧ kvs.length + miss last kvs ≤ last + 1 ∧ Clo fr b kvs (fun g _ => ∃ q ∈ ps, q.2 = g) ∧ Sd S b ps ∧ Sk S kvs ∧ j = 2 * miss last kvs + (if ps = [] then 0 else 1), ⟨_, r, [], [(p0, (b : Int))], none, none, none, none, none, none, none, rfl, ?_, ?_, ?_, ?_, ?_, ?_, (fun q hq => .inl (by rw [List.mem_singleton.mp hq])), (fun g z => by cases z), rfl⟩, ?_⟩
    · exact sd.trans (s1.trans (s2.trans s3))
    · exact s3 _ _ (s2 _ _ (s1 _ _ upd_same))
    · exact upd_same
    · intro q hq
      have e : q = (p0, (b : Int)) := by simpa using hq
      subst e
      refine ⟨by show (0 : Int) ≤ (b : Int); omega, by show (b : Int) ≤ last; omega, e0, [], s3 _ _ upd_same, s3 _ _ (s2 _ _ upd_same), Nat.le_refl _⟩
    · have := miss_le (last := last) (kvs := [])
      simp only [List.length_nil]
      omega
    · intro x hx h
      rcases h with h | h
      · exact .inl ⟨_, List.mem_singleton.mpr rfl, h.symm⟩
      · cases h
    · rintro j σ H1 ⟨r, kvs, ps, v4, v5, v6, v7, v8, v9, v10, rfl, sm, hd, hr, rp, cnt, clo, sd0, sk0, rfl⟩
      refine ⟨_, rfl, _, .inl ⟨_, SqL.of hr, rfl⟩, ?_⟩
      by_cases hps : ps = []
      · subst hps
        refine iteF' rfl ?_
        refine ⟨_, rfl, q H1 d kvs sm hd0 hd ?_ sk0⟩
        have c2 : ∀ x ∈ fr, (x.1 = (b : Int) ∨ has kvs x.1 = true) → has kvs x.2.2 = true := fun x hx h => by
          rcases clo x hx h with ⟨_, z, _⟩ | z
          · cases z
          · exact z
        exact c2
      · refine iteT' (by cases ps; exact absurd rfl hps; rfl) ?_
        refine ⟨_, fun _ _ z => z, ?_⟩
        refine ⟨by decide, fun u hu0 => ?_⟩
        have su := same_upd (o := HO.lst []) hu0
        have hur : u ≠ r := (ne_of_none hr hu0).symm
        have hu00 : H u = none := sm.free hu0
        refine ⟨_, rfl, r, rfl, ⟨_, SqL.of (su _ _ hr)⟩, for_it (walk_list (xs := ps.map fun q => V.ref q.1)) (fun i σ H' => ∃ (kvs2 : List (Key × V)) (qs : List (Addr × Int)) (v5 v6 v7 v8 v9 v10 : Option V), σ = [some (.ref f), some (.int b), some (.ref d), some (.ref r), some (.ref u), v5, v6, v7, v8, v9, v10] ∧
          Co H H' d r u last (miss last kvs) ps qs kvs2 ∧ Clo fr b kvs2 (fun g _ => (∃ q ∈ ps.drop i, q.2 = g) ∨ ∃ q ∈ qs, q.2 = g) ∧ Sd S b qs ∧ Sk S kvs2)
          ⟨kvs, [], v5, v6, v7, v8, v9, v10, rfl, ⟨sm.trans su, su _ _ hd, su _ _ hr, upd_same, rp.keep (Same.keepT su) (Nat.le_refl _), (fun q hq => by cases hq), cnt, .inl ⟨rfl, Nat.le_refl _⟩, Nat.zero_le _⟩, (fun x hx h => (clo x hx h).imp (fun z => .inl z) id), (fun q hq => by cases hq), sk0⟩
          (fun i σ H' _ ⟨_, _, _, _, _, _, _, _, _, C, _⟩ => SqL.of C.hr) ?_ ?_⟩
        · rintro i v σ H2 H3 hi ⟨kvs2, qs, v5, v6, v7, v8, v9, v10, rfl, C, cl, sd2, sk2⟩ ⟨rfl, hv⟩
          obtain ⟨q1, hq1, rfl⟩ : ∃ q1, ps[i]? = some q1 ∧ v = V.ref q1.1 := by
            rw [List.getElem?_map] at hv
            cases e : ps[i]? with
            | none =>
              rw [e] at hv
              cases hv
            | some q1 =>
              rw [e] at hv
              exact ⟨q1, rfl, (Option.some.inj hv).symm⟩
          obtain ⟨g0, g1, wy, xs, e1, e2, e3⟩ := C.rp q1 (List.mem_of_getElem? hq1)
          have dq : ps.drop i = q1 :: ps.drop (i + 1) := by
            have il := (List.getElem?_eq_some_iff.mp hq1).1
            rw [List.drop_eq_getElem_cons il]
            have := (List.getElem?_eq_some_iff.mp hq1).2
            rw [this]
          obtain ⟨ts, hf, hl, ht⟩ := id fa
          refine ⟨_, _, rfl, SqT.of e1, rfl, _, _, rfl, _, _, rfl, rfl, ?_⟩
          refine ⟨_, rfl, f, _, rfl, SqT.of (C.sm _ _ hf), for_it (walk_enumT (xs := ts.map V.ref)) (fun k σ H' => ∃ (kvs3 : List (Key × V)) (qs3 : List (Addr × Int)) (v7 v8 v9 v10 : Option V), σ = [some (.ref f), some (.int b), some (.ref d), some (.ref r), some (.ref u), some (.ref wy), some (.int q1.2), v7, v8, v9, v10] ∧
            Co H H' d r u last (miss last kvs) ps qs3 kvs3 ∧ H' wy = some (.tup xs) ∧ xs.length ≤ kvs3.length ∧ Clo fr b kvs3 (fun g x => ((∃ q ∈ ps.drop (i + 1), q.2 = g) ∨ ∃ q ∈ qs3, q.2 = g) ∨ (g = q1.2 ∧ x ∈ fr.drop k)) ∧ Sd S b qs3 ∧ Sk S kvs3)
            ⟨kvs2, qs, v7, v8, v9, v10, rfl, C, e2, e3, (fun x hx h => ?_), sd2, sk2⟩
            (fun k σ H' _ ⟨_, _, _, _, _, _, _, C', _⟩ => SqT.of (C'.sm _ _ hf)) ?_ ?_⟩
          · rcases cl x hx h with (⟨q, z, e⟩ | z) | z
            · rw [dq] at z
              rcases List.mem_cons.mp z with z | z
              · subst z
                exact .inl (.inr ⟨e.symm, by simpa using hx⟩)
              · exact .inl (.inl (.inl ⟨q, z, e⟩))
            · exact .inl (.inl (.inr z))
            · exact .inr z
          · rintro k x σ H3 H4 hk ⟨kvs3, qs3, v7, v8, v9, v10, rfl, C3, w3, wl, cl3, sd3, sk3⟩ ⟨T, xi, xo, rfl, nT, rfl, h1, h2⟩
            cases h1
            obtain ⟨t, y, hy, rfl, e4⟩ := at_step (i := k) hl ht h2
            have uT := same_upd (o := HO.tup [V.int (k : Nat), V.ref t]) nT
            have C4 := C3.same uT
            have t4 := uT _ _ (C3.sm _ _ e4)
            have w4 := uT _ _ w3
            have hym : y ∈ fr := List.mem_of_getElem? hy
            obtain ⟨b1, b5, b3, b6⟩ := fm.lo y hym
            have dk : fr.drop k = y :: fr.drop (k + 1) := by
              have il := (List.getElem?_eq_some_iff.mp hy).1
              rw [List.drop_eq_getElem_cons il]
              have := (List.getElem?_eq_some_iff.mp hy).2
              rw [this]
            -- the step is done with
            have go : ∀ (kvs4 : List (Key × V)) (qs4 : List (Addr × Int)), (∀ g : Int, has kvs4 g = true → has kvs3 g = true ∨ ∃ q ∈ qs4, q.2 = g) → (∀ g : Int, has kvs3 g = true → has kvs4 g = true) → (∀ q ∈ qs3, q ∈ qs4) → (y.1 = q1.2 → has kvs4 y.2.2 = true) →
                Clo fr b kvs4 (fun g x => ((∃ q ∈ ps.drop (i + 1), q.2 = g) ∨ ∃ q ∈ qs4, q.2 = g) ∨ (g = q1.2 ∧ x ∈ fr.drop (k + 1))) := fun kvs4 qs4 n1 n2 n3 n4 x hx h => by
              have old : x.1 = (b : Int) ∨ has kvs3 x.1 = true → ((((∃ q ∈ ps.drop (i + 1), q.2 = x.1) ∨ ∃ q ∈ qs4, q.2 = x.1) ∨ (x.1 = q1.2 ∧ x ∈ fr.drop (k + 1))) ∨ has kvs4 x.2.2 = true) := fun h => by
                rcases cl3 x hx h with ((z | ⟨q, z, e⟩) | ⟨z1, z2⟩) | z
                · exact .inl (.inl (.inl z))
                · exact .inl (.inl (.inr ⟨q, n3 q z, e⟩))
                · rw [dk] at z2
                  rcases List.mem_cons.mp z2 with z2 | z2
                  · subst z2
                    exact .inr (n4 z1)
                  · exact .inl (.inr ⟨z1, z2⟩)
                · exact .inr (n2 _ z)
              rcases h with h | h
              · exact old (.inl h)
              · rcases n1 _ h with z | z
                · exact old (.inr z)
                · exact .inl (.inl (.inr z))
            refine ⟨T, _, rfl, SqT.of upd_same, rfl, _, _, rfl, _, _, rfl, ⟨t, _, rfl, SqT.of t4, rfl, _, _, rfl, _, _, rfl, _, _, rfl, rfl, rfl, ?_⟩⟩
            refine ⟨_, rfl, _, rfl, rfl, _, rfl, ?_⟩
            refine ite2 (fun z => ?_) (fun z => ?_)
            · have z1 : y.1 = q1.2 := V.int.inj (of_decide_eq_true z)
              refine ⟨_, rfl, _, rfl, d, _, rfl, DGet.k (k := Sum.inl y.2.2) C4.hd, _, rfl, ?_⟩
              refine ite2 (fun y1 => ?_) (fun y1 => ?_)
              · have no : has kvs3 y.2.2 = false := by
                  cases e : has kvs3 y.2.2 with
                  | false => rfl
                  | true =>
                    have e' : (valV kvs3 (Sum.inl y.2.2 : Key)).isSome = true := e
                    rw [e'] at y1
                    cases y1
                have mp := miss_put (v := V.non) b3 b6 no
                have l5 := fm.l5
                have c3 := C3.cnt
                refine ⟨_, rfl, ⟨_, rfl, (by show 1 ≤ sizeLine; decide), fun p hp => ⟨wy, p, xs, [V.int (k : Nat)], rfl, rfl, SqT.of (same_upd hp _ _ w4), upd_same, (fun z => by cases z), ?_, fun nw H5 s5 n5 => ?_⟩⟩⟩
                · rw [sizeLine_eq]
                  simp only [List.length_cons, List.length_nil]
                  omega
                have C5 := (C4.same (same_upd (o := HO.tup [V.int (k : Nat)]) hp)).same s5
                have hdu : d ≠ u := ne_of C5.hd C5.hu (fun z => by cases z)
                have hdr : d ≠ r := ne_of C5.hd C5.hr (fun z => by cases z)
                refine ⟨_, rfl, _, rfl, d, _, rfl, DPut.k (k := Sum.inl y.2.2) C5.hd (by rw [sizeLine_eq]; omega), ?_⟩
                have hn : valV kvs3 (Sum.inl y.2.2 : Key) = none := by
                  cases e : valV kvs3 (Sum.inl y.2.2 : Key) with
                  | none => rfl
                  | some v =>
                    have e' : has kvs3 y.2.2 = true := by
                      show (valV kvs3 (Sum.inl y.2.2 : Key)).isSome = true
                      rw [e]
                      rfl
                    rw [e'] at no
                    cases no
                generalize hH6 : upd H5 d (.dK (putK kvs3 (Sum.inl y.2.2) (.ref nw))) = H6
                have k6 : KeepT H5 H6 := by
                  rw [← hH6]
                  exact keepT_upd C5.hd (fun xs z => by cases z)
                have d6 : H6 d = some (.dK (putK kvs3 (Sum.inl y.2.2) (.ref nw))) := by
                  rw [← hH6]
                  exact upd_same
                have u6 : H6 u = some (.lst (qs3.map fun q => V.ref q.1)) := by
                  rw [← hH6, upd_ne hdu.symm]
                  exact C5.hu
                have r6 : H6 r = some (.lst (ps.map fun q => V.ref q.1)) := by
                  rw [← hH6, upd_ne hdr.symm]
                  exact C5.hr
                have m6 : Same H H6 := by
                  rw [← hH6]
                  exact same_set hd0 C5.sm
                have g6 : valV (putK kvs3 (Sum.inl y.2.2) (V.ref nw)) (Sum.inl y.2.2 : Key) = some (.ref nw) := by
                  rw [valV_put, if_pos rfl]
                have n6 := k6 _ _ n5
                have ml := miss_le (last := last) (kvs := kvs3)
                have mp2 := miss_put (v := V.ref nw) b3 b6 no
                have pe : (putK kvs3 (Sum.inl y.2.2 : Key) (V.ref nw)).length = kvs3.length + 1 := by
                  rw [putK_new _ hn, List.length_append]
                  rfl
                have ql := C3.ql
                have sy : S y.2.2 := by
                  rcases sd0 q1 (List.mem_of_getElem? hq1) with z | z
                  · exact cl0 y hym (by rw [z1, z])
                  · exact cl1 y hym (by rw [z1]; exact z)
                have sd4 : ∀ p7 : Addr, Sd S b (qs3 ++ [(p7, y.2.2)]) := fun p7 q hq => by
                  rcases List.mem_append.mp hq with hq | hq
                  · exact sd3 q hq
                  · rw [List.mem_singleton.mp hq]
                    exact .inr sy
                have sk4 : Sk S (putK kvs3 (Sum.inl y.2.2) (V.ref nw)) := fun g h => by
                  rw [has_put] at h
                  rcases (Bool.or_eq_true _ _).mp h with h | h
                  · rw [of_decide_eq_true h]
                    exact sy
                  · exact sk3 g h
                refine ⟨_, rfl, ?_, _, rfl, _, rfl, ⟨d, _, rfl, by rw [← g6]; exact DGet.k (k := Sum.inl y.2.2) d6, _, rfl, (by show 2 ≤ sizeLine; decide), fun p7 hp7 => ⟨u, qs3.map (fun q => V.ref q.1), _, rfl, rfl, same_upd hp7 _ _ u6, by rw [sizeLine_eq, List.length_map]; omega, ?_⟩⟩⟩
                · exact .inl ⟨rfl, _, SqL.of u6⟩
                have k7 := Same.keepT (same_upd (o := HO.tup [V.ref nw, V.int y.2.2]) hp7)
                have hd7 := same_upd (o := HO.tup [V.ref nw, V.int y.2.2]) hp7 _ _ d6
                have hu7 := same_upd (o := HO.tup [V.ref nw, V.int y.2.2]) hp7 _ _ u6
                have hr7 := same_upd (o := HO.tup [V.ref nw, V.int y.2.2]) hp7 _ _ r6
                have k8 := keepT_upd (o := .lst (qs3.map (fun q => V.ref q.1) ++ [V.ref p7])) hu7 (fun xs z => by cases z)
                have kk : KeepT H5 _ := (k6.trans k7).trans k8
                refine ⟨putK kvs3 (Sum.inl y.2.2) (.ref nw), qs3 ++ [(p7, y.2.2)], _, _, _, _, rfl, ⟨same_set hu00 (m6.trans (same_upd hp7)), ?_, ?_, ?_, ?_, ?_, by rw [pe]; omega, .inr ?_, by rw [pe, List.length_append]; simp only [List.length_cons, List.length_nil]; omega⟩, ?_, by rw [pe]; omega, ?_⟩
                · rw [upd_ne hdu]
                  exact hd7
                · rw [upd_ne hur.symm]
                  exact hr7
                · rw [List.map_append]
                  exact upd_same
                · exact C5.rp.keep kk (by rw [pe]; omega)
                · intro q hq
                  rcases List.mem_append.mp hq with hq | hq
                  · exact C5.rq.keep kk (by rw [pe]; omega) q hq
                  · have e : q = (p7, y.2.2) := by simpa using hq
                    subst e
                    refine ⟨b3, b6, nw, xs ++ [V.int (k : Nat)], k8 _ _ upd_same, k8 _ _ (k7 _ _ n6), ?_⟩
                    rw [pe, List.length_append]
                    simp only [List.length_cons, List.length_nil]
                    omega
                · rcases C3.me with ⟨_, z⟩ | z <;> omega
                · exact kk _ _ ((same_upd (o := HO.tup [V.int (k : Nat)]) hp |>.trans s5) _ _ w4)
                · refine ⟨go _ _ (fun g h => ?_) (fun g h => ?_) (fun q h => List.mem_append_left _ h) (fun _ => ?_), sd4 _, sk4⟩
                  · rw [has_put] at h
                    rcases (Bool.or_eq_true _ _).mp h with h | h
                    · exact .inr ⟨_, List.mem_append_right _ (List.mem_singleton.mpr rfl), (of_decide_eq_true h).symm⟩
                    · exact .inl h
                  · rw [has_put, h, Bool.or_true]
                  · rw [has_put, decide_eq_true rfl]
                    rfl
              · have yes : has kvs3 y.2.2 = true := by
                  cases e : has kvs3 y.2.2 with
                  | true => rfl
                  | false =>
                    have e' : (valV kvs3 (Sum.inl y.2.2 : Key)).isSome = false := e
                    rw [e'] at y1
                    exact absurd rfl y1
                exact ⟨kvs3, qs3, _, _, _, _, rfl, C4, w4, wl, go kvs3 qs3 (fun g h => .inl h) (fun g h => h) (fun q h => h) (fun _ => yes), sd3, sk3⟩
            · have z1 : ¬ y.1 = q1.2 := fun e => z (decide_eq_true (congrArg V.int e))
              refine iteF ?_
              exact ⟨kvs3, qs3, _, _, _, _, rfl, C4, w4, wl, go kvs3 qs3 (fun g h => .inl h) (fun g h => h) (fun q h => h) (fun e => absurd e z1), sd3, sk3⟩
          · rintro σ H3 ⟨kvs3, qs3, v7, v8, v9, v10, rfl, C3, w3, wl, cl3, sd3, sk3⟩
            refine ⟨kvs3, qs3, _, _, v7, v8, v9, v10, rfl, C3, (fun x hx h => ?_), sd3, sk3⟩
            rcases cl3 x hx h with (z | ⟨_, z⟩) | z
            · exact .inl z
            · rw [show (ts.map V.ref).length = fr.length by simp [hl], List.drop_length] at z
              cases z
            · exact .inr z
        · rintro σ H2 ⟨kvs2, qs, v5, v6, v7, v8, v9, v10, rfl, C, cl, sd2, sk2⟩
          refine ⟨_, rfl, _, ?_, u, kvs2, qs, some (.ref u), v5, v6, v7, v8, v9, v10, rfl, C.sm, C.hd, C.hu, C.rq, C.cnt, (fun x hx h => ?_), sd2, sk2, rfl⟩
          · rw [if_neg hps]
            rcases C.me with ⟨z, y⟩ | z
            · rw [if_pos z]
              omega
            · split <;> omega
          · rcases cl x hx h with (z | z) | z
            · rw [List.length_map, List.drop_length] at z
              obtain ⟨_, z, _⟩ := z
              cases z
            · exact .inl z
            · exact .inr z
end
end K02

set_option Elab.async false
set_option linter.all false
set_option maxRecDepth 100000
set_option maxHeartbeats 4000000
/-! try: .. except (A, B, ..) as e: the caught error is kept as a value behind the suite. Raising an own exception that was made by its own __init__. -/
namespace L2
namespace EV
open PySem PySem.Spec PyProof.Rows _root_.EV
/-- an exception that was caught, at a -/
def exh (cls : Value) (d : Option Addr) (a : Addr) : HO := .ext fun h => ∃ (oe : Obj) (vs : Array Value), h.get? a = some oe ∧ Zc cls d oe ∧ oe.data = .fields vs
theorem exh_ok {P : Program} {w : World} {H : Hp} {h : Heap} {a : Addr} {cls : Value} {d : Option Addr} {oe : Obj} {vs : Array Value} (e : h.get? a = some oe) (z : Zc cls d oe) (hd : oe.data = .fields vs) : ObjOk P w H h a (exh cls d a) :=
  ⟨⟨oe, vs, e, z, hd⟩, ⟨oe, e⟩, fun _ _ ⟨o, v, q, r⟩ k => ⟨o, v, k o q, r⟩⟩
theorem exh_at {P : Program} {w : World} {H : Hp} {h : Heap} {a : Addr} {cls : Value} {d : Option Addr} (hok : HOk P w H h) (e : H a = some (exh cls d a)) : ∃ (oe : Obj) (vs : Array Value), h.get? a = some oe ∧ Zc cls d oe ∧ oe.data = .fields vs := by
  have q : ObjOk P w H h a (.ext fun h => ∃ (oe : Obj) (vs : Array Value), h.get? a = some oe ∧ Zc cls d oe ∧ oe.data = .fields vs) := hok a _ e
  exact q.1
theorem flies_keeps {B : Heap} {l : List Env} {a : Addr} {Z : Obj → Prop} {h h' : Heap} (f : HandSPX.FlyingZ B l a Z h) (k : ∀ b o, h.get? b = some o → h'.get? b = some o) : HandSPX.FlyingZ B l a Z h' := by
  obtain ⟨f1, f2, f3, oe, vs, T, oT, ts, e1, e2, e3, e4, e5, e6, e7, e8, e9⟩ := f
  exact ⟨fun b o q => k b o (f1 b o q), f2, f3.of_keeps fun b o q _ => ⟨o, k b o q, rfl⟩, oe, vs, T, oT, ts, k _ _ e1, e2, e3, e4, e5, e6, k _ _ e7, e8, e9⟩
/-! ### does one of several classes match -/
section
variable {M : Model} {K : PySem.W.Frag} {h : Heap} {cls : Value}
theorem all_cls : ∀ {cs : List Value} {b : Bool}, PySem.W.exmAny K cls cs = some b → ∀ c ∈ cs, ∃ v, PySem.W.exmOne K cls c = some v
  | c :: r, b, e, x, hx => by
    obtain ⟨b1, d1, h1, h2, _⟩ := PySem.W.exmAny_cons e
    rcases List.mem_cons.mp hx with rfl | hx
    · exact ⟨_, h1⟩
    · exact all_cls h2 x hx
section
variable {A : Around} {E : Value → Shared → Prop} {s : Shared}
theorem loop_exc (X : K.In h) (k0 : ∀ b o, h.get? b = some o → s.heap.get? b = some o) {R : PUnit → Shared → Prop} (r : R ⟨⟩ s) : ∀ l : List Value, (∀ c ∈ l, ∃ v, PySem.W.exmOne K cls c = some v) →
    wpAny M A (forIn l PUnit.unit fun c _ => do
        if (!(← isExcClass c)) = true then do
          rule "try.except-non-exception-class"
          raiseErrorWords "TypeError" "catching classes that do not inherit from BaseException is not allowed"
          pure (ForInStep.yield PUnit.unit)
        else pure (ForInStep.yield PUnit.unit)) R E s := by
  intro l
  induction l with
  | nil => exact fun _ => wpAny_pure r
  | cons c l ih =>
    intro hl
    obtain ⟨v, hv⟩ := hl c (List.mem_cons_self ..)
    obtain ⟨i1, _⟩ := PySem.W.exm_cls (M := M) X hv
    rw [List.forIn_cons]
    refine wpAny_bind (wpAny_bind ((i1.keeps k0).here ?_))
    simp only [Bool.not_true, Bool.false_eq_true, if_false]
    exact wpAny_pure (ih fun x hx => hl x (List.mem_cons_of_mem _ hx))
theorem loop_sub (X : K.In h) (k0 : ∀ b o, h.get? b = some o → s.heap.get? b = some o) {R : Option Bool × Unit → Shared → Prop} : ∀ (l : List Value) (b : Bool), PySem.W.exmAny K cls l = some b → R (if b = true then (some true, ()) else (none, ())) s →
    wpAny M A (forIn l ((none, ()) : Option Bool × Unit) fun c _ => do
        if (← isSubtype cls c) = true then pure (ForInStep.done (some true, ())) else pure (ForInStep.yield (none, ()))) R E s := by
  intro l
  induction l with
  | nil =>
    intro b e r
    have : some false = some b := e
    cases this
    exact wpAny_pure r
  | cons c l ih =>
    intro b e r
    obtain ⟨b1, d1, h1, h2, rfl⟩ := PySem.W.exmAny_cons e
    obtain ⟨_, S1⟩ := PySem.W.exm_cls (M := M) X h1
    rw [List.forIn_cons]
    refine wpAny_bind (wpAny_bind ((S1.keeps k0).here ?_))
    cases b1 with
    | true =>
      rw [Bool.true_or] at r
      simp only [if_true]
      exact wpAny_pure (wpAny_pure r)
    | false =>
      rw [Bool.false_or] at r
      simp only [Bool.false_eq_true, if_false]
      exact wpAny_pure (ih _ h2 r)
end
theorem match_list {cs : List Value} {b : Bool} {tp e : Addr} (X : K.In h) (LT : PySem.W.Looks M h (typeOf (.ref e)) cls) (hp : h.get? tp = some { cls := .type "tuple", data := .seq cs.toArray }) (hx : PySem.W.exmAny K cls cs = some b) :
    PySem.W.Looks M h (excMatches (.ref e) (.ref tp)) b := by
  intro A Q E s k0 q
  have L0 : PySem.W.Looks M h (isInstance (.ref tp) (.type "tuple")) true := ((PySem.W.Looks.ld hp).andThen .now).andThen (PySem.W.Looks.of_pure isSubtype_tuple_tuple)
  have hp' := k0 _ _ hp
  unfold excMatches
  refine wpAny_bind ((L0.keeps k0).here ?_)
  rw [if_pos rfl]
  have ec : ((some cs.toArray).getD #[]).toList = cs := by simp
  refine wpAny_bind ?_
  refine wpAny_seqItems hp' rfl ?_
  refine wpAny_bind (wpAny_pure ?_)
  show wpAny _ _ (do
      forIn ((some cs.toArray).getD #[]).toList PUnit.unit _
      _) _ _ _
  rw [ec]
  refine wpAny_bind (loop_exc X k0 ?_ cs (all_cls hx))
  refine wpAny_bind ((LT.keeps k0).here ?_)
  refine wpAny_bind (loop_sub X k0 cs b hx ?_)
  cases b with
  | true => exact wpAny_pure q
  | false => exact wpAny_pure q
end
/-! ### the rule -/
/-- classes by their names -/
inductive ClsL (X : Cx) : List Expr → List Value → Prop
  | nil : ClsL X [] []
  | cons {x : Str} {c : Value} {p : Pos} {es : List Expr} {cs : List Value} : Names X x c → ClsL X es cs → ClsL X (.Name x p :: es) (c :: cs)
theorem ClsL.suite {X : Cx} {a : Addr} {pn : List (Addr × Obj)} : ∀ {es : List Expr} {cs : List Value}, ClsL X es cs → ClsL (X.suite a pn) es cs
  | _, _, .nil => .nil
  | _, _, .cons hc r => .cons (X := X.suite a pn) hc r.suite
theorem cls_read {Y : Cx} {pins : List (Addr × Obj)} {σ : St} {H : Hp} {s : Shared} (I : Inv Y pins σ H s) {pos : Pos} {E : Value → Shared → Prop} : ∀ {es : List Expr} {cs : List Value} {Q : List Value → Shared → Prop}, ClsL Y es cs → Q cs s →
    wpAny (model Y.prog Y.w) Y.A (spliced (backTo pos (starEach es Y.env))) Q E s
  | _, _, _, .nil, q => wpAny_items_nil q
  | _, _, Q, .cons (c := c) (es := es) (cs := cs) hc r, q => wpAny_items_cons (by
      have rest : wpAny (model Y.prog Y.w) Y.A (spliced (backTo pos (starEach es Y.env))) (fun vs s2 => Q (c :: vs) s2) E s := cls_read I r q
      obtain ⟨hg, hd, hm | ⟨hm, hv, hn⟩⟩ := hc
      · exact ld_glob I hg hm rest hd
      · exact ld_blt I hg hm hv rest hn hd)
theorem ClsL.len {X : Cx} : ∀ {es : List Expr} {cs : List Value}, ClsL X es cs → cs.length = es.length
  | _, _, .nil => rfl
  | _, _, .cons _ r => by rw [List.length_cons, List.length_cons, r.len]
/-- what is pinned is tracked from now on -/
theorem inv_hold {X : Cx} {pins : List (Addr × Obj)} {σ : St} {H : Hp} {s : Shared} {a : Addr} {oe : Obj} {vs : Array Value} {cls : Value} {d : Option Addr} (I : Inv X ((a, oe) :: pins) σ H s) (hm : ∀ p, p ∈ (a, oe) :: (X.pn ++ pins) → p ∈ X.pn ++ ((a, oe) :: pins)) (z : Zc cls d oe) (hd : oe.data = .fields vs)
    (n0 : X.s_0.heap.get? a = none) (np : ∀ p ∈ X.pn ++ pins, p.1 ≠ a) : Inv X pins σ (upd H a (exh cls d a)) s := by
  obtain ⟨e, n, ne, nf, dc⟩ := I.pin (a, oe) (hm _ (List.mem_cons_self ..))
  have ne : a ≠ X.env.locals := ne
  have n : H a = none := n
  have old : ∀ b o, X.s_0.heap.get? b = some o → b ≠ a := fun b o q z => by
    rw [z, n0] at q
    cases q
  refine ⟨I.ok, I.os, I.bare, ⟨I.base.keep, I.base.slot, fun b o q m hx => ?_, I.base.there, fun b xs q => ?_, fun b o u q => ?_, fun b ps q => ?_⟩, I.loc, I.cell, ?_, fun x c q => ?_, fun p hp => ?_, ?_, I.len⟩
  · rw [upd_ne (old b o q)]
    exact I.base.free b o q m hx
  · have z := I.base.tups b xs q
    rw [upd_ne (ne_of_none z n)]
    exact z
  · have z := I.base.frzs b o u q
    rw [upd_ne (ne_of_none z n)]
    exact z
  · obtain ⟨m, z⟩ := I.base.tbls b ps q
    exact ⟨m, by rw [upd_ne (ne_of_none z n)]; exact z⟩
  · rw [upd_ne ne.symm]
    exact I.free
  · have nc : c ≠ a := fun z => by
      obtain ⟨v, o, q1, q2⟩ := I.cell x c q
      rw [z] at q1
      have e' : s.heap.get? a = some oe := e
      rw [e'] at q1
      cases q1
      rw [hd] at q2
      cases q2
    rw [upd_ne nc]
    exact I.freeC x c q
  · obtain ⟨e1, e2, e3, e4, e5⟩ := I.pin p (hm p (List.mem_cons_of_mem _ hp))
    exact ⟨e1, by rw [upd_ne (np p hp)]; exact e2, e3, e4, e5⟩
  · exact I.hok.laidN (fun _ _ q => q) n (exh_ok e z hd)
/-- what the clause wishes of an exception of the body: it is of one of the classes; behind the suite it stands at a -/
def wKeep (K : PySem.W.Frag) (n : Nat) (cs : List Value) (i : Nat) (ts : Addr → Value → Option Addr → TS) (D : Ends) : WX := fun cls d σ H => σ.length = n → PySem.W.exmAny K cls cs = some true ∧
  ∀ a, H a = none → ts a cls d { nx := fun σ' H' => D.nx (σ'.set i none) (upd H' a (exh cls d a)), rt := fun _ _ => False } (σ.set i (some (.ref a))) H
section
variable {X : Cx} {n : Str} {cs : List Value} {es : List Expr} {kx i : Nat} {body suite : List Stmt} {b0 : Stmt} {tpos pos hpos : Pos} {tb : WX → TS} {ts : Addr → Value → Option Addr → TS}
theorem ps_try_keep (hs : X.stack = X.env :: X.outer) (hf : X.env.frame = some X.env.locals) (hex : X.ex = []) (hN : X.N.Nodup) (hi : X.N[i]? = some n) (hln : X.env.kindOf n = some .local) (hc : ClsL X es cs) (hl : es.length ≤ 1000)
    (hb : ∀ (W : WX) (pn : List (Addr × Obj)) (xe : Value → Shared → Prop), Takes (X.tr pn xe) W → PassesOwn (model X.prog X.w) X.A X.env xe → PSs (X.tr pn xe) body (tb W))
    (hsu : ∀ (a : Addr) (oe : Obj) (cls : Value) (d : Option Addr) (pn : List (Addr × Obj)), Zc cls d oe → (∃ vs, oe.data = .fields vs) → PSs (X.suite a ((a, oe) :: pn)) (b0 :: suite) (ts a cls d)) :
    PS X (.Try body [.ExceptHandler (some (.Tuple es kx tpos)) (some n) (b0 :: suite) hpos] [] [] pos) (fun D σ H => tb (wKeep X.K X.N.length cs i ts D) D σ H) := by
  refine ⟨fun pins s σ H D I h => ?_⟩
  have ok := I.ok
  have hfr : X.A.frames = some (X.env :: X.outer) := by rw [ok.frames, hs]
  have loc : Loc X.env.scope n := .inl hln
  have B0 := hb (wKeep X.K X.N.length cs i ts D) (X.pn ++ pins) (fun e s1 => wpAny (model X.prog X.w) X.A (noteFrame e X.env) (fun _ s2 => wpAny (model X.prog X.w) X.A (setFlight e none) (fun _ s3 =>
    wpAny (model X.prog X.w) X.A (handleBy e X.env [.ExceptHandler (some (.Tuple es kx tpos)) (some n) (b0 :: suite) hpos]) (SP X pins D) X.xe s3) X.xe s2) X.xe s1)
  refine wpAny_Try_except (wpAny_mono ((B0 (fun u s' caught => ?_) PassesOwn.looking).run [] s σ H D (I.toTry _) h) (fun f s1 went => ?_) fun _ _ z => z)
  · obtain ⟨a, B, sI, pins', σ', H', cls, d, rfl, J', nb, up, sky, na, os, ag, hW⟩ := caught
    obtain ⟨hit, hyes⟩ := hW J'.len
    have J : Inv X pins σ' H' sI := J'.ofTry ok
    show wpAny (model X.prog X.w) X.A (noteFrame (.ref a) X.env) _ _ _
    refine Sky.land Zc.steady hfr hf (by rw [← hs]; exact sky) fun h3 fl3 up3 => ?_
    have J3 : Inv X pins σ' H' { s' with heap := h3 } := J.landed nb fl3.1 (up.trans up3) os ag
    obtain ⟨oe3, vs3, he3, hz3, hd3⟩ := fl3.there
    have nfr : a ∉ frs (X.env :: X.outer) := fun hm => by
      obtain ⟨_, o, q, nd⟩ := fl3.2.2.1.mem hm
      rw [he3] at q
      cases q
      exact nd _ hd3
    have nL : a ≠ X.env.locals := fun z => nfr (List.mem_filterMap.mpr ⟨X.env, List.mem_cons_self, by rw [hf, z]⟩)
    have nF : a ∉ X.fs := fun hm => by
      obtain ⟨e, he, q⟩ := List.mem_filterMap.mp hm
      exact nfr (List.mem_filterMap.mpr ⟨e, List.mem_cons_of_mem _ he, q⟩)
    have nI : sI.heap.get? a = none := by
      cases q : sI.heap.get? a with
      | none => rfl
      | some o =>
        have z := nb a o q (by rw [hs]; exact nfr)
        rw [fl3.2.1] at z
        cases z
    have n0 : X.s_0.heap.get? a = none := by
      cases q : X.s_0.heap.get? a with
      | none => rfl
      | some o =>
        obtain ⟨o', z⟩ := J.base.there a o q (by rw [hex]; exact fun z => nomatch z)
        rw [nI] at z
        cases z
    have np : ∀ p ∈ X.pn ++ pins, p.1 ≠ a := fun p hp z => by
      have q := (J.pin p hp).1
      rw [z, nI] at q
      cases q
    have S3 := J3.suite he3 hd3 na nL nF
    refine wpAny_handleBy_cons (codeAny_handlers_test ?_) (by intro q; cases q)
    refine wpAny_Tuple (cls_read S3 hc.suite ⟨by rw [hc.len, sizeLine_eq]; omega, ?_⟩)
    have k5 : ∀ b o, h3.get? b = some o → (h3.push { cls := .type "tuple", data := .seq cs.toArray }).get? b = some o := fun _ _ z => Heap.get?_push_of_some _ z
    have LT : PySem.W.Looks (model X.prog X.w) (h3.push { cls := .type "tuple", data := .seq cs.toArray }) (typeOf (.ref a)) cls := fun A Q E s k q => wpAny_typeOf_ref (k _ _ (k5 _ _ he3)) (by rw [hz3.1]; exact q)
    refine (match_list (M := model X.prog X.w) (J3.kIn.keeps k5) LT (Heap.get?_push_size h3 rfl) hit).here ?_
    refine codeAny_handlers_suite_as ?_
    refine HandSPX.lands_againZ (flies_keeps fl3 k5) fun h4 fl4 up4 => ?_
    have J4 : Inv X pins σ' H' { s' with heap := h4 } := J.landed nb fl4.1 (((up.trans up3).trans (Heap.UpToSlots.of_keeps k5)).trans up4) os ag
    obtain ⟨oe4, vs4, he4, hz4, hd4⟩ := fl4.there
    have S4 := J4.suite he4 hd4 na nL nF
    refine store_ok (X := X.suite a ((a, oe4) :: (X.pn ++ pins))) (v := .ref a) S4 hN hi loc rfl (fun s5 S5 => ?_) (.inr hln)
    refine wpAny_mono ((hsu a oe4 cls d (X.pn ++ pins) hz4 ⟨_, hd4⟩).run [] s5 _ H' _ S5 (hyes a na)) (fun f s6 hsp => ?_) (fun _ _ z => False.elim z)
    cases f with
    | next =>
      obtain ⟨σ6, H6, S6, q6⟩ := hsp
      have K6 : Inv X ((a, oe4) :: pins) σ6 H6 s6 := ⟨ok, S6.os, S6.bare, S6.base, S6.loc, S6.cell, S6.free, S6.freeC, fun p hp => S6.pin p (by
        show p ∈ ((a, oe4) :: (X.pn ++ pins)) ++ []
        rw [List.append_nil]
        rcases List.mem_append.mp hp with z | z
        · exact List.mem_cons_of_mem _ (List.mem_append_left _ z)
        · rcases List.mem_cons.mp z with z | z
          · rw [z]
            exact List.mem_cons_self ..
          · exact List.mem_cons_of_mem _ (List.mem_append_right _ z)), S6.hok, S6.len⟩
      refine gone_ok K6 hN hi hln fun s7 J7 => ⟨_, _, inv_hold J7 (fun p hp => ?_) hz4 hd4 n0 np, q6⟩
      rcases List.mem_cons.mp hp with z | z
      · rw [z]
        exact List.mem_append_right _ (List.mem_cons_self ..)
      · rcases List.mem_append.mp z with z | z
        · exact List.mem_append_left _ z
        · exact List.mem_append_right _ (List.mem_cons_of_mem _ z)
    | brk =>
      obtain ⟨_, _, _, z⟩ := hsp
      exact False.elim z
    | cont =>
      obtain ⟨_, _, _, z⟩ := hsp
      exact False.elim z
    | ret u =>
      obtain ⟨_, _, _, _, _, z⟩ := hsp
      exact False.elim z
  · cases f with
    | next =>
      obtain ⟨σ', H', J', q⟩ := went
      exact wpAny_execs_nil ⟨σ', H', J'.ofTry ok, q⟩
    | brk =>
      obtain ⟨σ', H', J', q⟩ := went
      exact ⟨σ', H', J'.ofTry ok, q⟩
    | cont =>
      obtain ⟨σ', H', J', q⟩ := went
      exact ⟨σ', H', J'.ofTry ok, q⟩
    | ret u =>
      obtain ⟨v, σ', H', J', r, q⟩ := went
      exact ⟨v, σ', H', J'.ofTry ok, r, q⟩
end
/-! ### raise C(..), C with its own __init__ -/
theorem pmk_own2 {X : Cx} {e : Expr} {te : TE} (hx : X.ex = []) (he : PE X e te) :
    PMk X e (fun σ H Q => te σ H fun x H1 => ∃ (a C : Addr) (od : Option Addr), x = .ref a ∧ H1 a = some (exo a C od) ∧ Fr0 X.H_0 a ∧ Raises X (.ref C) ∧ Q (.ref C) od (delH H1 a)) := by
  intro pins s σ H Q I h
  refine wpAny_mono (he.run pins s σ H _ I h) (fun u s1 hu => ?_) fun _ _ x => x
  obtain ⟨v, H1, I1, r1, a, C, od, rfl, ha, h0, hr, q⟩ := hu
  cases r1
  obtain ⟨t1, ho⟩ := exo_at I1.hok ha
  obtain ⟨G, gs, ga, J⟩ := I1.untrack ha h0 hx
  exact ⟨a, _, _, { s1 with heap := G }, delH H1 a, .ref C, od, rfl, J, gs, ga, ho, ⟨rfl, rfl⟩, rfl, rfl, delH_same, rfl, I1.bare, hr, q⟩
/-! ### isinstance of a caught one -/
def rIsC (K : PySem.W.Frag) : List V → Hp → VK → Prop := fun xs H Q => ∃ (a C : Addr) (B newId initId : String) (bm : List Value) (c : V) (u : Value) (b : Bool),
  xs = [.ref a, c] ∧ ClsV c u ∧ OxC K C B newId initId bm ∧ H a = some (exh (.ref C) none a) ∧ PySem.W.kitOne K (.ref C) u = some b ∧ Q (.bl b) H
theorem call_isC {X : Cx} : CallR X (.builtin "isinstance") (rIsC X.K) := by
  intro pins s σ H xs us Q I r h
  obtain ⟨a, C, B, newId, initId, bm, c, u, b, rfl, k, T, ea, e, q⟩ := h
  obtain ⟨u1, u2, rfl, r1, r2⟩ := vals2 r
  have e2 := k.eq r2
  subst e2
  obtain rfl : u1 = Value.ref a := r1
  obtain ⟨oe, vs, ho, hz, hd⟩ := exh_at I.hok ea
  obtain ⟨cd, hcl, _⟩ := T.data
  have some_ : (PySem.W.clsIn X.K C).isSome = true := by rw [hcl]; rfl
  have J : PySem.W.InstAt s.heap a oe C none := ⟨ho, hz.1, by unfold PySem.W.notCls; rw [hd], by rw [hz.2]; exact trivial⟩
  exact PySem.W.kia_one (PySem.W.kitx_exc some_ T.ga T.gg T.exC T.ca T.cn T.ct T.om) I.kIn J e (fun z => nomatch z) fun tk => ⟨.bl b, H, I.tok tk, rfl, q⟩
end EV
end L2

set_option Elab.async false
set_option linter.all false
set_option maxRecDepth 100000
set_option maxHeartbeats 4000000
/-! Data of any form; is_number of it. -/
namespace K02
open PySem L2 L2.EV
mutual
/-- v stands for d, all of its lists and tuples tracked -/
inductive Da (H : Hp) : V → PyData → Prop
  | non : Da H .non .none
  | bl (b : Bool) : Da H (.bl b) (.bool b)
  | int (i : Int) : Da H (.int i) (.int i)
  | str (x : Str) : Da H (.str x) (.str x)
  | lst {a : Addr} {xs : List V} {ds : List PyData} : H a = some (.lst xs) → DaAll H xs ds → Da H (.ref a) (.list ds)
  | tup {a : Addr} {xs : List V} {ds : List PyData} : H a = some (.tup xs) → DaAll H xs ds → Da H (.ref a) (.tuple ds)
inductive DaAll (H : Hp) : List V → List PyData → Prop
  | nil : DaAll H [] []
  | cons {v : V} {vs : List V} {d : PyData} {ds : List PyData} : Da H v d → DaAll H vs ds → DaAll H (v :: vs) (d :: ds)
end
mutual
theorem Da.same {H H' : Hp} (s : Same H H') : ∀ (d : PyData) (v : V), Da H v d → Da H' v d
  | .none, _, h => by cases h; exact .non
  | .bool b, _, h => by cases h; exact .bl b
  | .int i, _, h => by cases h; exact .int i
  | .str x, _, h => by cases h; exact .str x
  | .list ds, _, h => by
    cases h with
    | lst e ha => exact .lst (s _ _ e) (DaAll.same s ds _ ha)
  | .tuple ds, _, h => by
    cases h with
    | tup e ha => exact .tup (s _ _ e) (DaAll.same s ds _ ha)
  | .dict _, _, h => by cases h
theorem DaAll.same {H H' : Hp} (s : Same H H') : ∀ (ds : List PyData) (vs : List V), DaAll H vs ds → DaAll H' vs ds
  | [], _, h => by cases h; exact .nil
  | d :: ds, _, h => by
    cases h with
    | cons h1 h2 => exact .cons (Da.same s d _ h1) (DaAll.same s ds _ h2)
end
mutual
theorem Da.dp {K : PySem.W.Frag} {H : Hp} : ∀ (d : PyData) (v : V), Da H v d → Dp K H v d
  | .none, _, h => by cases h; exact .non
  | .bool b, _, h => by cases h; exact .bl b
  | .int i, _, h => by cases h; exact .int i
  | .str x, _, h => by cases h; exact .str x
  | .list ds, _, h => by
    cases h with
    | lst e ha => exact .lst (SqL.of e) (DaAll.dp ds _ ha)
  | .tuple ds, _, h => by
    cases h with
    | tup e ha => exact .tup (SqT.of e) (DaAll.dp ds _ ha)
  | .dict _, _, h => by cases h
theorem DaAll.dp {K : PySem.W.Frag} {H : Hp} : ∀ (ds : List PyData) (vs : List V), DaAll H vs ds → DpAll K H vs ds
  | [], _, h => by cases h; exact .nil
  | d :: ds, _, h => by
    cases h with
    | cons h1 h2 => exact .cons (Da.dp d _ h1) (DaAll.dp ds _ h2)
end
theorem DaAll.len {H : Hp} : ∀ {vs : List V} {ds : List PyData}, DaAll H vs ds → vs.length = ds.length
  | _, _, .nil => rfl
  | _, _, .cons _ t => by rw [List.length_cons, List.length_cons, t.len]
theorem DaAll.at_ {H : Hp} : ∀ {vs : List V} {ds : List PyData} {i : Nat} {v : V}, DaAll H vs ds → vs[i]? = some v → ∃ d, ds[i]? = some d ∧ Da H v d
  | _, _, 0, _, .cons h _, e => by
    cases e
    exact ⟨_, rfl, h⟩
  | _, _, i + 1, _, .cons _ t, e => t.at_ (i := i) (by simpa using e)
  | _, _, _, _, .nil, e => by simp at e
theorem DaAll.at' {H : Hp} : ∀ {vs : List V} {ds : List PyData} {i : Nat} {d : PyData}, DaAll H vs ds → ds[i]? = some d → ∃ v, vs[i]? = some v ∧ Da H v d
  | _, _, 0, _, .cons h _, e => by
    cases e
    exact ⟨_, rfl, h⟩
  | _, _, i + 1, _, .cons _ t, e => t.at' (i := i) (by simpa using e)
  | _, _, _, _, .nil, e => by simp at e
theorem DaAll.app {H : Hp} : ∀ {vs ws : List V} {ds es : List PyData}, DaAll H vs ds → DaAll H ws es → DaAll H (vs ++ ws) (ds ++ es)
  | _, _, _, _, .nil, q => q
  | _, _, _, _, .cons h t, q => .cons h (t.app q)
theorem DaAll.drop {H : Hp} : ∀ {vs : List V} {ds : List PyData} (n : Nat), DaAll H vs ds → DaAll H (vs.drop n) (ds.drop n)
  | _, _, 0, h => h
  | _, _, n + 1, .nil => .nil
  | _, _, n + 1, .cons _ t => t.drop n
theorem DaAll.take {H : Hp} : ∀ {vs : List V} {ds : List PyData} (n : Nat), DaAll H vs ds → DaAll H (vs.take n) (ds.take n)
  | _, _, 0, h => .nil
  | _, _, n + 1, .nil => .nil
  | _, _, n + 1, .cons h t => .cons h (t.take n)
theorem DaAll.rev {H : Hp} : ∀ {vs : List V} {ds : List PyData}, DaAll H vs ds → DaAll H vs.reverse ds.reverse
  | _, _, .nil => .nil
  | _, _, .cons h t => by
    rw [List.reverse_cons, List.reverse_cons]
    exact t.rev.app (.cons h .nil)
/-! ### of which type -/
def isTup : PyData → Bool
  | .tuple _ => true
  | _ => false
def isInt : PyData → Bool
  | .int _ => true
  | .bool _ => true
  | _ => false
def isBl : PyData → Bool
  | .bool _ => true
  | _ => false
theorem Da.ty {K : PySem.W.Frag} {H : Hp} {v : V} {d : PyData} (h : Da H v d) : ∃ t : Value, TyX K H v t ∧ PySem.W.kitOne K t (.type "tuple") = some (isTup d) ∧ PySem.W.kitOne K t (.type "int") = some (isInt d) ∧ PySem.W.kitOne K t (.type "bool") = some (isBl d) := by
  cases h with
  | non => exact ⟨_, .base .non, kit_ty (r := false) (by decide +kernel), kit_ty (r := false) (by decide +kernel), kit_ty (r := false) (by decide +kernel)⟩
  | bl b => exact ⟨_, .base (.bl b), kit_ty (r := false) (by decide +kernel), kit_ty (r := true) (by decide +kernel), kit_ty (r := true) (by decide +kernel)⟩
  | int i => exact ⟨_, .base (.int i), kit_ty (r := false) (by decide +kernel), kit_ty (r := true) (by decide +kernel), kit_ty (r := false) (by decide +kernel)⟩
  | str x => exact ⟨_, .base (.str x), kit_ty (r := false) (by decide +kernel), kit_ty (r := false) (by decide +kernel), kit_ty (r := false) (by decide +kernel)⟩
  | lst e _ => exact ⟨_, .base (.lst e), kit_ty (r := false) (by decide +kernel), kit_ty (r := false) (by decide +kernel), kit_ty (r := false) (by decide +kernel)⟩
  | tup e _ => exact ⟨_, .base (.tup e), kit_ty (r := true) (by decide +kernel), kit_ty (r := false) (by decide +kernel), kit_ty (r := false) (by decide +kernel)⟩
def isSt : PyData → Bool
  | .str _ => true
  | _ => false
theorem Da.tyS {K : PySem.W.Frag} {H : Hp} {v : V} {d : PyData} (h : Da H v d) : ∃ t : Value, TyX K H v t ∧ PySem.W.kitOne K t (.type "str") = some (isSt d) := by
  cases h with
  | non => exact ⟨_, .base .non, kit_ty (r := false) (by decide +kernel)⟩
  | bl b => exact ⟨_, .base (.bl b), kit_ty (r := false) (by decide +kernel)⟩
  | int i => exact ⟨_, .base (.int i), kit_ty (r := false) (by decide +kernel)⟩
  | str x => exact ⟨_, .base (.str x), kit_ty (r := true) (by decide +kernel)⟩
  | lst e _ => exact ⟨_, .base (.lst e), kit_ty (r := false) (by decide +kernel)⟩
  | tup e _ => exact ⟨_, .base (.tup e), kit_ty (r := false) (by decide +kernel)⟩
/-! ### numbers -/
def numD (m : Int) : PyData → Option Int
  | .int i => if 0 ≤ i ∧ i < m then some i else none
  | _ => none
theorem numD_some {m i : Int} {d : PyData} (h : numD m d = some i) : d = .int i ∧ 0 ≤ i ∧ i < m := by
  cases d with
  | int j =>
    have h : (if 0 ≤ j ∧ j < m then some j else none) = some i := h
    by_cases c : 0 ≤ j ∧ j < m
    · rw [if_pos c] at h
      cases h
      exact ⟨rfl, c⟩
    · rw [if_neg c] at h
      cases h
  | _ => cases h
def spNumD : Sp := fun vs H Q _ => ∃ (v : V) (d : PyData) (m : Int), vs = [v, .int m] ∧ Da H v d ∧ Q (.bl (numD m d).isSome) H
section
variable {P : Program} {w : World} {K : PySem.W.Frag} {mg : Str → Option Value} {base : Heap}
theorem ok_numD {f : Addr} {fd : FuncData} (F : Fun K "is_number" "is_number" sNum f fd) (T : TxtF mg) : FnOk P w K mg base CX0 1 f fd ["thing", "many"] spNumD := by
  refine F.ok scNum (fun vs H Q E h => ?_) (fun cdv A outer s H vs Q E hr h => ?_)
  · obtain ⟨v, d, m, rfl, _⟩ := h
    rfl
  · obtain ⟨v, d, m, rfl, da, q⟩ := h
    refine ⟨_, pss_one (ps_ret (pe_and (pe_callB call_isi (by rfl) T.isi PyProof.Rows.boot_isinstance (pa_cons (pv 0) (pa_cons (pe_bltn (v := .ty "int") (by rfl) T.int (by decide +kernel) rfl) pa_nil)))
      (pe_and (pe_not (pe_callB call_isi (by rfl) T.isi PyProof.Rows.boot_isinstance (pa_cons (pv 0) (pa_cons (pe_bltn (v := .ty "bool") (by rfl) T.bool (by decide +kernel) rfl) pa_nil))))
        (pe_one (pe_chain op_le op_lt pe_int (pv 0) (pv 1)))))), ?_⟩
    obtain ⟨t, ty, _, ki, kb⟩ := da.ty (K := K)
    refine ⟨_, rfl, v, .ty "int", t, .type "int", isInt d, rfl, .ty "int", ty, ki, isInt d, rfl, ?_⟩
    cases da with
    | int n =>
      refine iteT ?_
      refine ⟨_, rfl, .int n, .ty "bool", t, .type "bool", false, rfl, .ty "bool", ty, kb, false, rfl, true, rfl, iteT ?_⟩
      refine ⟨_, rfl, 0, n, rfl, rfl, _, rfl, ?_⟩
      have q : Q (.bl (if 0 ≤ n ∧ n < m then some n else none).isSome) H := q
      refine ite2 (fun z => ?_) (fun z => ?_)
      · have z1 : 0 ≤ n := of_decide_eq_true z
        refine ⟨_, rfl, n, m, rfl, rfl, ?_⟩
        by_cases c : n < m
        · rw [if_pos ⟨z1, c⟩] at q
          show Q (.bl (decide (n < m))) H
          rw [decide_eq_true c]
          exact q
        · rw [if_neg (fun k => c k.2)] at q
          show Q (.bl (decide (n < m))) H
          rw [decide_eq_false c]
          exact q
      · have z1 : ¬ 0 ≤ n := fun k => z (decide_eq_true k)
        rw [if_neg (fun k => z1 k.1)] at q
        exact q
    | bl b =>
      refine iteT ?_
      exact ⟨_, rfl, .bl b, .ty "bool", t, .type "bool", true, rfl, .ty "bool", ty, kb, true, rfl, false, rfl, iteF q⟩
    | non => exact iteF q
    | str x => exact iteF q
    | lst e h => exact iteF q
    | tup e h => exact iteF q
end
end K02

set_option Elab.async false
set_option linter.all false
set_option maxRecDepth 100000
set_option maxHeartbeats 4000000
/-! is_piece and is_step of any data. -/
namespace K02
open PySem L2 L2.EV
/-- is_piece of a text -/
def pcS (p : Str) : Bool := decide (1 ≤ p.length) && decide (p.length ≤ 8) && (sl (Txt.removesuffix p ";")).all fun c => decide (c ∈ sgs)
def pcD : PyData → Bool
  | .str p => pcS p
  | _ => false
/-- a step by itself -/
def stpD : PyData → Option T3
  | .tuple [a, .str p, b] => match numD 6 a, numD 6 b with
    | some i, some j => if pcS p = true ∧ Txt.endswith p ";" = decide (j = 0) then some (i, p, j) else none
    | _, _ => none
  | _ => none
theorem stpD_some {d : PyData} {x : T3} (h : stpD d = some x) : d = .tuple [.int x.1, .str x.2.1, .int x.2.2] ∧ 0 ≤ x.1 ∧ x.1 < 6 ∧ 0 ≤ x.2.2 ∧ x.2.2 < 6 := by
  match d, h with
  | .tuple [a, .str p, b], h =>
    have h : (match numD 6 a, numD 6 b with
      | some i, some j => if pcS p = true ∧ Txt.endswith p ";" = decide (j = 0) then some (i, p, j) else none
      | _, _ => none) = some x := h
    cases ea : numD 6 a with
    | none =>
      rw [ea] at h
      cases h
    | some i =>
      cases eb : numD 6 b with
      | none =>
        rw [ea, eb] at h
        cases h
      | some j =>
        rw [ea, eb] at h
        have h : (if pcS p = true ∧ Txt.endswith p ";" = decide (j = 0) then some (i, p, j) else none) = some x := h
        by_cases c : pcS p = true ∧ Txt.endswith p ";" = decide (j = 0)
        · rw [if_pos c] at h
          cases h
          obtain ⟨rfl, a1, a2⟩ := numD_some ea
          obtain ⟨rfl, b1, b2⟩ := numD_some eb
          exact ⟨rfl, a1, a2, b1, b2⟩
        · rw [if_neg c] at h
          cases h
/-- texts that are no long ones -/
def szT (d : PyData) : Prop := ∀ s, d = .str s → s.length ≤ 1000
/-- a step's text is no long one -/
def szS (d : PyData) : Prop := ∀ a x b, d = .tuple [a, x, b] → szT x
def spPcD : Sp := fun vs H Q _ => ∃ (v : V) (d : PyData), vs = [v] ∧ Da H v d ∧ szT d ∧ ∀ H', Same H H' → Q (.bl (pcD d)) H'
def spStpD : Sp := fun vs H Q _ => ∃ (v : V) (d : PyData), vs = [v] ∧ Da H v d ∧ szS d ∧ ∀ H', Same H H' → Q (.bl (stpD d).isSome) H'
section
variable {P : Program} {w : World} {K : PySem.W.Frag} {mg : Str → Option Value} {base : Heap}
theorem ok_pcD {f : Addr} {fd : FuncData} (F : Fun K "is_piece" "is_piece" sPc f fd) (T : TxtF mg) : FnOk P w K mg base CX0 1 f fd ["thing"] spPcD := by
  refine F.ok scPc (fun vs H Q E h => ?_) (fun cdv A outer s H vs Q E hr h => ?_)
  · obtain ⟨v, d, rfl, _⟩ := h
    rfl
  · obtain ⟨v, d, rfl, da, sz, q⟩ := h
    obtain ⟨ts, eS⟩ := T.signs
    obtain ⟨tm, eM⟩ := T.mSigns
    refine ⟨_, pss_cons (ps_if (pw_or (pt_not (pt_val (pe_callB call_isi (by rfl) T.isi PyProof.Rows.boot_isinstance (pa_cons (pv 0) (pa_cons (pe_bltn (v := .ty "str") (by rfl) T.str (by decide +kernel) rfl) pa_nil)))))
        (pw_or1 (pt_not (pt_chain op_le op_le pe_int (pe_callB call_len_str (by rfl) T.len PySem.boot_len (pa_cons (pv 0) pa_nil)) (pe_glob (v := .int 8) (by rfl) eM ⟨_, rfl⟩))))).pt
        (pss_one (ps_ret pe_bl)) pss_nil)
      (pss_one (ps_ret (pe_callB (cr_all rfl) (by rfl) T.all (by decide +kernel) (pa_cons (pe_lc (own := [("sign", 1)]) (g := gName 1) rfl scPc.nd
        (pi_str (pe_m1 PySem.F.slot_str_removesuffix PySem.F.type_str_removesuffix mt_removesuffix (pv 0) pe_str)) (blkOk_by (N := ["thing", "sign"]) (sc := defScope sPc) (by decide +kernel))
        (fun _ _ _ _ _ => pg_name (i := 1) scPc.nd rfl (Or.inl rfl)) (fun _ _ _ _ _ => pts_nil) (fun _ _ _ _ _ => pe_cmpR op_in_sign (pv 1) (pe_glob (v := .str "abcdefghijklmnopqrstuvwxyz0123456789@") (by rfl) eS ⟨_, rfl⟩) (by rfl))) pa_nil)))), ?_⟩
    obtain ⟨t, ty, kt⟩ := da.tyS (K := K)
    refine ⟨_, rfl, v, .ty "str", t, .type "str", isSt d, rfl, .ty "str", ty, kt, isSt d, rfl, ?_⟩
    cases da with
    | str p =>
      refine iteF ?_
      have szp := sz p rfl
      have q : ∀ H', Same H H' → Q (.bl (pcS p)) H' := q
      refine ⟨.str p, rfl, p, rfl, by rw [sizeLine_eq]; omega, 1, p.length, rfl, rfl, _, rfl, ?_⟩
      by_cases c1 : 1 ≤ p.length
      · refine iteT' (decide_eq_true (by omega)) ⟨p.length, 8, rfl, rfl, _, rfl, ?_⟩
        by_cases c2 : p.length ≤ 8
        · refine iteF' (by rw [decide_eq_true (by omega)]; rfl) ?_
          refine ⟨_, rfl, ⟨p, rfl⟩, p, ";", rfl, rfl, by rw [sizeLine_eq]; omega, _, rfl, fun D hD => ?_⟩
          refine lc_it walk_str (fun i H' => H' D = some (.lst ((((sl (Txt.removesuffix p ";")).take i).map fun c => decide (c ∈ sgs)).map V.bl)) ∧ ∀ b o, H b = some o → H' b = some o) ⟨upd_same, fun b o z => same_upd hD b o z⟩ (fun _ _ _ _ => trivial) ?_ ?_
          · rintro i x H1 H2 hi ⟨hl, kp⟩ ⟨rfl, c, hc, rfl⟩
            refine ⟨rfl, ⟨_, rfl, c, _, rfl, rfl, ?_⟩⟩
            have hc' : (sl (Txt.removesuffix p ";"))[i]? = some c := by simpa using hc
            refine ⟨_, hl, ?_, ?_, fun b o z => ?_⟩
            · rw [List.length_map, List.length_map, List.length_take, sizeLine_eq]
              have l1 := PyProof.Rows.len_removesuffix p ";"
              have l2 : (Txt.removesuffix p ";").cps.size = (Txt.removesuffix p ";").length := rfl
              omega
            · rw [List.take_succ, hc', List.map_append, List.map_append]
              exact upd_same
            · rw [upd_ne (ne_of_none z hD)]
              exact kp b o z
          · rintro H1 ⟨hl, kp⟩
            refine ⟨D, _, rfl, SqL.of hl, ?_⟩
            have z := q H1 kp
            unfold pcS at z
            rw [decide_eq_true c1, decide_eq_true c2, Bool.true_and, Bool.true_and] at z
            have e9 : (sl (Txt.removesuffix p ";")).take (Txt.removesuffix p ";").cps.size = sl (Txt.removesuffix p ";") := by
              have e : (Txt.removesuffix p ";").cps.size = (sl (Txt.removesuffix p ";")).length := by show _ = (Txt.removesuffix p ";").cps.toList.length; simp
              rw [e, List.take_length]
            rw [e9, List.all_map]
            exact z
        · refine iteT' (by rw [decide_eq_false (by omega)]; rfl) ?_
          have z := q H (Same.refl H)
          unfold pcS at z
          rw [decide_eq_false c2, Bool.and_false, Bool.false_and] at z
          exact z
      · refine iteF' (decide_eq_false (by omega)) ⟨_, rfl, iteT ?_⟩
        have z := q H (Same.refl H)
        unfold pcS at z
        rw [decide_eq_false c1, Bool.false_and, Bool.false_and] at z
        exact z
    | bl b => exact iteT (q H (Same.refl H))
    | non => exact iteT (q H (Same.refl H))
    | int i => exact iteT (q H (Same.refl H))
    | lst e h => exact iteT (q H (Same.refl H))
    | tup e h => exact iteT (q H (Same.refl H))
theorem ok_stpD {f fN fP : Addr} {fd fdN fdP : FuncData} (F : Fun K "is_step" "is_step" sStep f fd) (T : TxtF mg) (FN : Fun K "is_number" "is_number" sNum fN fdN) (bN : Binds K fdN ["thing", "many"] []) (mN : mg "is_number" = some (.ref fN))
    (FP : Fun K "is_piece" "is_piece" sPc fP fdP) (bP : Binds K fdP ["thing"] []) (mP : mg "is_piece" = some (.ref fP)) : FnOk P w K mg base CX0 2 f fd ["thing"] spStpD := by
  have GN : FnOk P w K mg base CX0 1 fN fdN ["thing", "many"] spNumD := ok_numD FN T
  have GP : FnOk P w K mg base CX0 1 fP fdP ["thing"] spPcD := ok_pcD FP T
  refine F.ok scStep (fun vs H Q E h => ?_) (fun cdv A outer s H vs Q E hr h => ?_)
  · obtain ⟨v, d, rfl, _⟩ := h
    rfl
  · obtain ⟨v, d, rfl, da, sz, q⟩ := h
    obtain ⟨tm, eM⟩ := T.many
    refine ⟨_, pss_cons (ps_if (pw_or (pt_not (pt_val (pe_callB call_isi (by rfl) T.isi PyProof.Rows.boot_isinstance (pa_cons (pv 0) (pa_cons (pe_bltn (v := .ty "tuple") (by rfl) T.tuple (by decide +kernel) rfl) pa_nil)))))
        (pw_or1 (pt_cmpR op_ne (pe_callB call_len_seq (by rfl) T.len PySem.boot_len (pa_cons (pv 0) pa_nil)) pe_int (nomark _)))).pt
        (pss_one (ps_ret pe_bl)) pss_nil)
      (pss_cons (ps_asg (pv 0) (pg_tup rfl (pgs_cons (pg_name (i := 1) scStep.nd rfl (Or.inl rfl)) (pgs_cons (pg_name (i := 2) scStep.nd rfl (Or.inl rfl)) (pgs_cons (pg_name (i := 3) scStep.nd rfl (Or.inl rfl)) pgs_nil)))))
      (pss_cons (ps_if (pw_or (pt_not (pt_val (pe_call GN hr (by rfl) mN FN.kp bN .nil pass0 (pa_cons (pv 1) (pa_cons (pe_glob (v := .int 6) (by rfl) eM ⟨_, rfl⟩) pa_nil)))))
        (pw_or (pt_not (pt_val (pe_call GP hr (by rfl) mP FP.kp bP .nil pass0 (pa_cons (pv 2) pa_nil))))
          (pw_or1 (pt_not (pt_val (pe_call GN hr (by rfl) mN FN.kp bN .nil pass0 (pa_cons (pv 3) (pa_cons (pe_glob (v := .int 6) (by rfl) eM ⟨_, rfl⟩) pa_nil)))))))).pt
        (pss_one (ps_ret pe_bl)) pss_nil)
      (pss_one (ps_ret (pe_cmpR op_eq (pe_m1 PySem.F.slot_str_endswith PySem.F.type_str_endswith mt_endswith (pv 2) pe_str) (pe_cmpR op_eq (pv 3) pe_int (nomark _)) (nomark _)))))), ?_⟩
    obtain ⟨t, ty, kt, _, _⟩ := da.ty (K := K)
    refine ⟨_, rfl, v, .ty "tuple", t, .type "tuple", isTup d, rfl, .ty "tuple", ty, kt, isTup d, rfl, ?_⟩
    cases da with
    | @tup a xs ds e all =>
      refine iteF ?_
      refine ⟨_, rfl, a, _, rfl, .inr (SqT.of e), rfl, _, rfl, ?_⟩
      have ln := all.len
      by_cases h3 : xs.length = 3
      · refine iteF' (by simp [h3]) ?_
        match xs, ds, all, h3 with
        | [x, y, z], [dx, dy, dz], .cons h1 (.cons h2 (.cons h4 .nil)), _ =>
          refine ⟨_, rfl, a, _, rfl, SqT.of e, rfl, _, _, rfl, _, _, rfl, _, _, rfl, rfl, ?_⟩
          have no : (numD 6 dx = none ∨ numD 6 dz = none ∨ pcD dy = false) → stpD (.tuple [dx, dy, dz]) = none := fun c => by
            cases dy with
            | str s =>
              show (match numD 6 dx, numD 6 dz with
                | some i, some j => if pcS s = true ∧ Txt.endswith s ";" = decide (j = 0) then some (i, s, j) else none
                | _, _ => none) = none
              rcases c with c | c | c
              · rw [c]
              · rw [c]
                cases numD 6 dx <;> rfl
              · have c : pcS s = false := c
                rw [c]
                cases numD 6 dx with
                | none => rfl
                | some i =>
                  cases numD 6 dz with
                  | none => rfl
                  | some j => exact if_neg (fun z => nomatch z.1)
            | _ => rfl
          have q0 := q H (Same.refl H)
          refine ⟨_, rfl, x, dx, 6, rfl, h1, _, rfl, ?_⟩
          cases ea : numD 6 dx with
          | none =>
            rw [no (.inl ea)] at q0
            exact iteT q0
          | some i =>
            refine iteF ?_
            refine ⟨_, rfl, y, dy, rfl, h2, sz dx dy dz rfl, fun H1 s1 => ⟨_, rfl, ?_⟩⟩
            have q1 := q H1 s1
            cases ec : pcD dy with
            | false =>
              rw [no (.inr (.inr ec))] at q1
              exact iteT q1
            | true =>
              refine iteF ?_
              refine ⟨_, rfl, z, dz, 6, rfl, Da.same s1 _ _ h4, _, rfl, ?_⟩
              cases eb : numD 6 dz with
              | none =>
                rw [no (.inr (.inl eb))] at q1
                exact iteT q1
              | some j =>
                refine iteF ?_
                cases h2 with
                | str p =>
                  obtain ⟨rfl, _, _⟩ := numD_some eb
                  cases h4
                  refine ⟨_, rfl, ⟨_, rfl⟩, p, _, rfl, rfl, ⟨_, rfl, rfl, rfl, ?_⟩⟩
                  have q1 : Q (.bl (match numD 6 dx, numD 6 (.int j) with
                    | some i, some j => if pcS p = true ∧ Txt.endswith p ";" = decide (j = 0) then some (i, p, j) else none
                    | _, _ => none).isSome) H1 := q1
                  rw [ea, eb] at q1
                  have q1 : Q (.bl (if pcS p = true ∧ Txt.endswith p ";" = decide (j = 0) then some (i, p, j) else none).isSome) H1 := q1
                  have ec : pcS p = true := ec
                  have e1 : decide (V.int j = V.int 0) = decide (j = 0) := by
                    by_cases z : j = 0
                    · rw [z]
                      rfl
                    · rw [decide_eq_false z]
                      exact decide_eq_false fun k => z (V.int.inj k)
                  rw [e1]
                  by_cases c : Txt.endswith p ";" = decide (j = 0)
                  · rw [if_pos ⟨ec, c⟩] at q1
                    rw [c, decide_eq_true rfl]
                    exact q1
                  · rw [if_neg (fun k => c k.2)] at q1
                    rw [decide_eq_false (fun k => c (V.bl.inj k))]
                    exact q1
                | bl b => cases ec
                | non => cases ec
                | int i => cases ec
                | lst e h => cases ec
                | tup e h => cases ec
      · refine iteT' (by simp; omega) ?_
        have z : stpD (.tuple ds) = none := by
          match ds, ln with
          | [], _ => rfl
          | [_], _ => rfl
          | [_, dy], _ => cases dy <;> rfl
          | [_, _, _], l => exact absurd l h3
          | _ :: dy :: _ :: _ :: _, _ => cases dy <;> rfl
        have q0 := q H (Same.refl H)
        rw [z] at q0
        exact q0
    | bl b => exact iteT (q H (Same.refl H))
    | non => exact iteT (q H (Same.refl H))
    | int i => exact iteT (q H (Same.refl H))
    | str x => exact iteT (q H (Same.refl H))
    | lst e h => exact iteT (q H (Same.refl H))
end
end K02

set_option Elab.async false
set_option linter.all false
set_option maxRecDepth 100000
set_option maxHeartbeats 4000000
/-! A caught error that has fields: isinstance, its fields. -/
namespace L2
namespace EV
open PySem PySem.Spec PyProof.Rows _root_.EV
/-- isinstance of a caught one with fields -/
def rIsF (K : PySem.W.Frag) : List V → Hp → VK → Prop := fun xs H Q => ∃ (a C d : Addr) (fs : List (Str × V)) (B newId initId : String) (bm : List Value) (c : V) (u : Value) (b : Bool),
  xs = [.ref a, c] ∧ ClsV c u ∧ OxC K C B newId initId bm ∧ H a = some (exh (.ref C) (some d) a) ∧ H d = some (.xd fs) ∧ PySem.W.kitOne K (.ref C) u = some b ∧ Q (.bl b) H
theorem call_isF {X : Cx} : CallR X (.builtin "isinstance") (rIsF X.K) := by
  intro pins s σ H xs us Q I r h
  obtain ⟨a, C, d, fs, B, newId, initId, bm, c, u, b, rfl, k, T, ea, ed, e, q⟩ := h
  obtain ⟨u1, u2, rfl, r1, r2⟩ := vals2 r
  have e2 := k.eq r2
  subst e2
  obtain rfl : u1 = Value.ref a := r1
  obtain ⟨oe, vs, ho, hz, hd⟩ := exh_at I.hok ea
  have hx : ObjOk X.prog X.w H s.heap d (.xd fs) := I.hok d _ ed
  obtain ⟨mA, hns, hr⟩ := hx
  obtain ⟨od, hod, hl⟩ := lookIn_ns hns
  obtain ⟨cd, hcl, _⟩ := T.data
  have some_ : (PySem.W.clsIn X.K C).isSome = true := by rw [hcl]; rfl
  have J : PySem.W.InstAt s.heap a oe C (some od) := ⟨ho, hz.1, by unfold PySem.W.notCls; rw [hd], by rw [hz.2]; exact hod⟩
  exact PySem.W.kia_one (PySem.W.kitx_exc some_ T.ga T.gg T.exC T.ca T.cn T.ct T.om) I.kIn J e (fun z => nomatch z) fun tk => ⟨.bl b, H, I.tok tk, rfl, q⟩
/-- a caught one's field -/
def tXg (K : PySem.W.Frag) (f : Str) (te : TE) : TE := fun σ H Q => te σ H fun x H1 => ∃ (a C d : Addr) (fs : List (Str × V)) (v : V), x = .ref a ∧ XfC K C ∧ PySem.W.findIn K (.ref C) f = some none ∧ H1 a = some (exh (.ref C) (some d) a) ∧ H1 d = some (.xd fs) ∧ fs.lookup f = some v ∧ Q v H1
theorem pe_xg {X : Cx} {e : Expr} {te : TE} {pos : Pos} {n : Str} (he : PE X e te) (hb : attributeBase e n X.env (eval e X.env) = eval e X.env := by rfl) : PE X (.Attribute e n pos) (tXg X.K n te) := by
  refine ⟨fun pins s σ H Q I h => ?_⟩
  refine attr_of hb (thn (he.run pins s σ H _ I h) fun u s1 hh => ?_)
  obtain ⟨x, H1, I1, rx, a, C, d, fs, v, ex, T, hno, ea, ed, l, q⟩ := hh
  subst ex
  obtain rfl : u = Value.ref a := rx
  obtain ⟨oe, vs, ho, hz, hd⟩ := exh_at I1.hok ea
  have hx : ObjOk X.prog X.w H1 s1.heap d (.xd fs) := I1.hok d _ ed
  obtain ⟨mA, hns, hr⟩ := hx
  obtain ⟨od, hod, hl⟩ := lookIn_ns hns
  obtain ⟨u, hu, ru⟩ := RelO.some_of (v := v) (o := mA n) (by rw [← l]; exact hr n)
  have J : PySem.W.InstAt s1.heap a oe C (some od) := ⟨ho, hz.1, by unfold PySem.W.notCls; rw [hd], by rw [hz.2]; exact hod⟩
  exact HandSPX.exc_get I1.kIn J T.ga T.gg T.exC (PySem.W.findObj_own T.hdC hno rfl (by rw [hl, hu])) (handed_of ru) ⟨v, H1, I1.tok _, ru, q⟩
end EV
end L2

set_option Elab.async false
set_option linter.all false
set_option maxRecDepth 100000
set_option maxHeartbeats 4000000
/-! t[::-1] of a tuple. -/
namespace L2
namespace EV
open PySem PySem.Spec PyProof.Rows _root_.EV PySem.Builtin
theorem rev_adjust (n : Nat) : Slice.sliceAdjust none none (-1) (n : Int) = ((n : Int) - 1, -1) := by
  unfold Slice.sliceAdjust
  simp
theorem rev_places (n : Nat) : Slice.slicePlaces ((n : Int) - 1) (-1) (-1) = n := by
  unfold Slice.slicePlaces
  rw [if_neg (by decide)]
  by_cases h : 0 < n
  · rw [if_pos (by omega)]
    simp only [Int.neg_neg, Int.ediv_one]
    omega
  · rw [if_neg (by omega)]
    omega
theorem fm_congr {α β : Type} {f g : α → Option β} : ∀ {l : List α}, (∀ x ∈ l, f x = g x) → l.filterMap f = l.filterMap g
  | [], _ => rfl
  | x :: l, h => by
    rw [List.filterMap_cons, List.filterMap_cons, h x (List.mem_cons_self ..), fm_congr fun y hy => h y (List.mem_cons_of_mem _ hy)]
theorem rev_pick (xs : Array Value) : ((List.range xs.size).filterMap fun (k : Nat) => xs[((xs.size : Int) - 1 + (k : Int) * -1).toNat]?) = xs.toList.reverse := by
  have e : ∀ k ∈ List.range xs.size, xs[((xs.size : Int) - 1 + (k : Int) * -1).toNat]? = xs.toList.reverse[k]? := fun k hk => by
    have hk := List.mem_range.mp hk
    have z : ((xs.size : Int) - 1 + (k : Int) * -1).toNat = xs.size - 1 - k := by omega
    rw [z, List.getElem?_reverse (by simpa using hk)]
    simp
  rw [fm_congr e]
  have g : ∀ l : List Value, (List.range l.length).filterMap (fun k => l[k]?) = l := fun l => by
    have z := PySem.W.krv_all l.toArray
    simpa using z
  have z := g xs.toList.reverse
  simpa using z
section
variable {prog : Program} {w : World} {A : Around} {E : Value → Shared → Prop} {s : Shared}
theorem rev_applied {sl : Addr} {vk : Value} {n : Nat} {Q : Int × Int × Nat → Shared → Prop} (hs : s.heap.IsSliceOf sl .none .none vk) (pk : IsPart vk (some (-1))) (h : Q ((n : Int) - 1, -1, n) s) :
    wpAny (model prog w) A (Slice.sliceApplied (.ref sl) (pure (n : Int))) Q E s := by
  obtain ⟨os, hos, _, hds⟩ := id hs
  unfold Slice.sliceApplied Slice.sliceFields
  refine wpAny_bind (wpAny_bind (wpAny_field hos hds (x := .none) rfl (wpAny_bind (wpAny_field hos hds (x := .none) rfl (wpAny_bind (wpAny_field hos hds (x := vk) rfl (wpAny_pure ?_)))))))
  refine wpAny_bind (HT.slicePart_ pk ?_)
  show wpAny _ _ (if ((-1 : Int) == 0) = true then _ else _) _ _ s
  rw [if_neg (by decide)]
  refine wpAny_bind (slicePart_none (wpAny_bind (slicePart_none (wpAny_bind (wpAny_pure ?_)))))
  show wpAny _ _ (match Slice.sliceAdjust none none (-1) (n : Int) with | (lo, hi) => pure (lo, (-1 : Int), Slice.slicePlaces lo hi (-1))) _ _ s
  rw [rev_adjust]
  show wpAny _ _ (pure ((n : Int) - 1, (-1 : Int), Slice.slicePlaces ((n : Int) - 1) (-1) (-1))) _ _ s
  rw [rev_places]
  exact wpAny_pure h
theorem rev_item {t sl : Addr} {items : Array Value} {vk : Value} {Q : Value → Shared → Prop} (ht : IsTup s.heap t items) (hs : s.heap.IsSliceOf sl .none .none vk) (pk : IsPart vk (some (-1))) (hz : items.size ≤ sizeLine)
    (h : Q (.ref s.heap.objs.size) { s with heap := s.heap.push { cls := .type "tuple", data := .seq items.toList.reverse.toArray } }) : wpAny (model prog w) A (getItem (.ref t) (.ref sl)) Q E s := by
  have ok : sizeOk (.seq items.toList.reverse.toArray) := by
    show items.toList.reverse.toArray.size ≤ sizeLine
    rw [List.size_toArray, List.length_reverse, Array.length_toList]
    exact hz
  obtain ⟨os, hos, hcs, _⟩ := id hs
  have hTs : s.TypeIs (.ref sl) "slice" := ⟨os, hos, hcs⟩
  unfold getItem
  try with_reducible refine wpAny_holding ?_
  first | refine wpAny_bind (wpAny_pure ?_) | skip
  refine wpAny_bind (wpAny_sequenceKey ht.typeIs (by decide) ?_)
  refine wpAny_bind (wpAny_callSpecial?_slot (name := Str.ofString "__getitem__") ht.typeIs PyProof.Rows.slot_tuple_getitem (wpAny_call_entry PyProof.Rows.slot_tuple_getitem ht.typeIs entry_tuple_getitem ?_ (args_tuple_getitem _ _)))
  show wpAny _ _ (Tuple.tupleItemsOf (.ref t) >>= _) _ _ s
  refine wpAny_bind (tupleItemsOf_ ht (wpAny_bind (wpAny_typeOf hTs ?_)))
  rw [if_pos (by decide)]
  refine wpAny_bind (rev_applied hs pk ?_)
  show wpAny _ _ (if ((((items.size : Nat) : Int) - 1) == 0 && (-1 : Int) == 1 && items.size == items.size) = true then _ else _) _ _ s
  rw [if_neg (by simp), rev_pick]
  first
    | exact wpAny_bind (m := Tuple.tupleExact _) (wpAny_newObj_type (wpAny_pure ⟨_, rfl, wpAny_pure h⟩) ok)
    | exact wpAny_bind (m := Tuple.tupleExact _) (wpAny_newObj_type (wpAny_bind (wpAny_pure (wpAny_pure ⟨_, rfl, wpAny_pure h⟩))) ok)
    | exact wpAny_bind (wpAny_bind (m := Tuple.tupleExact _) (wpAny_newObj_type (wpAny_pure (wpAny_pure ⟨_, rfl, wpAny_pure h⟩)) ok))
    | exact wpAny_bind (wpAny_bind (m := Tuple.tupleExact _) (wpAny_newObj_type (wpAny_pure ⟨_, rfl, wpAny_pure h⟩) ok))
end
def tRevT (K : PySem.W.Frag) (te tk : TE) : TE := fun σ H Q => te σ H fun x H1 => tPart tk σ H1 fun o H2 => o = some (-1) ∧ ∃ a xs, x = .ref a ∧ H2 a = some (.tup xs) ∧ ∀ p, H2 p = none → Q (.ref p) (upd H2 p (.tup xs.reverse))
theorem vals_revs : ∀ {zs : List V} {ws : List Value}, Vals zs ws → Vals zs.reverse ws.reverse
  | _, _, .nil => .nil
  | _, _, .cons r t => by
    rw [List.reverse_cons, List.reverse_cons]
    exact (vals_revs t).append (.cons r .nil)
section
variable {X : Cx} {e k : Expr} {te tk : TE} {pos p2 : Pos}
theorem pe_revT {ops : Value → Value → List Value} (he : PE X e te) (hk : PE X k tk) (hs : ∀ o i : Value, subscripted (.Slice none none (some k) p2) false o i = operate (ops o i) (getItem o i)) : PE X (.Subscript e (.Slice none none (some k) p2) pos) (tRevT X.K te tk) := by
  refine ⟨fun pins s σ H Q I h => ?_⟩
  refine Subscript_ (thn (he.run pins s σ H _ I h) fun v s1 ⟨x, H1, I1, r1, q1⟩ => ?_)
  refine wpAny_Slice (thn (po_none.run pins s1 σ H1 (fun o H' => o = none ∧ H' = H1) I1 ⟨rfl, rfl⟩) fun vl s2 ⟨l, H2, I2, pl, q2⟩ => thn (po_none.run pins s2 σ H2 (fun o H' => o = none ∧ H' = H2) I2 ⟨rfl, rfl⟩) fun vu s3 ⟨u, H3, I3, pu, q3⟩ => ?_)
  obtain ⟨rfl, rfl⟩ := q2
  obtain ⟨rfl, rfl⟩ := q3
  cases pl
  cases pu
  refine thn ((po_some hk).run pins s3 σ _ _ I3 q1) fun vk s4 ⟨o, H4, I4, pk, ho, a, xs, ex, ea, q4⟩ => ?_
  subst ex ho
  obtain rfl : v = Value.ref a := r1
  have I5 : Inv X pins σ H4 { s4 with heap := s4.heap.push { cls := .type "slice", data := .fields #[.none, .none, vk] } } := I4.kept (t' := s4.toks) fun b ob q => Heap.get?_push_of_some _ q
  obtain ⟨its, r, ht, hz⟩ := I5.tuple (SqT.of ea)
  have hg := rev_item (prog := X.prog) (w := X.w) (A := X.A) (E := X.xe) (Q := EP X pins σ Q) (s := { s4 with heap := s4.heap.push { cls := .type "slice", data := .fields #[.none, .none, vk] } }) ht (Heap.IsSliceOf.new ..) pk (by rw [List.size_toArray, ← r.length]; exact hz) ?_
  · exact tail_any ht.typeIs PyProof.Rows.slot_tuple_getitem.lookup hg (hs _ _)
  · rw [List.toList_toArray]
    have fr : H4 (s4.heap.push { cls := .type "slice", data := .fields #[.none, .none, vk] }).objs.size = none := I5.hok.fresh (Nat.le_refl _)
    refine ⟨.ref (s4.heap.push { cls := .type "slice", data := .fields #[.none, .none, vk] }).objs.size, _, I5.laid (t' := s4.toks) (a := (s4.heap.push { cls := .type "slice", data := .fields #[.none, .none, vk] }).objs.size) (o := .tup xs.reverse)
      (h' := (s4.heap.push { cls := .type "slice", data := .fields #[.none, .none, vk] }).push { cls := .type "tuple", data := .seq its.reverse.toArray }) (fun b o q => Heap.get?_push_of_some _ q) (Nat.le_refl _) ?_, rfl, q4 _ fr⟩
    exact ⟨by rw [List.length_reverse]; exact hz, its.reverse, vals_revs r, ⟨_, Heap.get?_push_size _ rfl, rfl, 0, rfl⟩⟩
end
end EV
end L2

set_option Elab.async false
set_option linter.all false
set_option maxRecDepth 100000
set_option maxHeartbeats 4000000
/-! Pairs of an int and a text: <, <=. Raising an own exception whose __init__ has put fields. -/
namespace L2
open PySem PySem.Spec PyProof.Rows
abbrev IS : Type := Int × Str
def ltIS (a b : IS) : Bool := if a.1 = b.1 then decide (sl a.2 < sl b.2) else decide (a.1 < b.1)
def tIS (a : IS) : HO := .tup [.int a.1, .str a.2]
def rLtIS : R2 := fun x y H Q => ∃ (a b : Addr) (m n : IS), x = .ref a ∧ y = .ref b ∧ H a = some (tIS m) ∧ H b = some (tIS n) ∧ Q (.bl (ltIS m n)) H
def rLeIS : R2 := fun x y H Q => ∃ (a b : Addr) (m n : IS), x = .ref a ∧ y = .ref b ∧ H a = some (tIS m) ∧ H b = some (tIS n) ∧ Q (.bl (!ltIS n m)) H
theorem lexP_lt (m n : IS) : Ob.lexAt (fun j => if j = 0 then m.1 == n.1 else m.2 == n.2) (fun j => if j = 0 then decide (m.1 < n.1) else decide (sl m.2 < sl n.2)) false 0 2 = ltIS m n := by
  obtain ⟨m1, m2⟩ := m
  obtain ⟨n1, n2⟩ := n
  simp only [Ob.lexAt, ltIS]
  by_cases e1 : m1 = n1
  · subst e1
    by_cases e2 : m2 = n2
    · subst e2
      have z : ¬ sl m2 < sl m2 := List.lt_irrefl _
      simp
    · simp [e2]
  · simp [e1]
theorem lexP_le (m n : IS) : Ob.lexAt (fun j => if j = 0 then m.1 == n.1 else m.2 == n.2) (fun j => if j = 0 then decide (m.1 ≤ n.1) else decide (sl m.2 ≤ sl n.2)) true 0 2 = !ltIS n m := by
  obtain ⟨m1, m2⟩ := m
  obtain ⟨n1, n2⟩ := n
  simp only [Ob.lexAt, ltIS]
  by_cases e1 : m1 = n1
  · subst e1
    by_cases e2 : m2 = n2
    · subst e2
      have z : ¬ sl m2 < sl m2 := List.lt_irrefl _
      simp
    · have e2' : ¬ n2 = m2 := fun z => e2 z.symm
      simp only [beq_self_eq_true, if_true, Nat.zero_add, Nat.one_ne_zero, if_false, beq_iff_eq, e2]
      by_cases z : sl m2 ≤ sl n2
      · rw [decide_eq_true z, decide_eq_false (List.not_lt.mpr z)]
        rfl
      · rw [decide_eq_false z, decide_eq_true (List.not_le.mp z)]
        rfl
  · have e1' : ¬ n1 = m1 := fun z => e1 z.symm
    simp only [if_true, beq_iff_eq, e1, e1', if_false]
    by_cases z : m1 ≤ n1
    · rw [decide_eq_true z, decide_eq_false (by omega)]
      rfl
    · rw [decide_eq_false z, decide_eq_true (by omega)]
      rfl
theorem lt_strR {A : Around} {s : Shared} (a b : Str) (t u : Tok) : Ob.RcOp .Lt A s (.str a t) (.str b u) (decide (sl a < sl b)) := fun _ _ _ _ h => PyProof.Rows.lt_str h
section
variable {X : Cx}
theorem vals_2 {x y : V} {us : List Value} (r : Vals [x, y] us) : ∃ u w', us = [u, w'] ∧ RelV x u ∧ RelV y w' := by
  cases r with
  | cons r1 r =>
    cases r with
    | cons r2 r =>
      cases r
      exact ⟨_, _, rfl, r1, r2⟩
theorem op_ltIS (hu : X.A.units < cLine) : OpR X (compareOp .Lt) rLtIS := by
  intro pins s σ H x y v u Q I rx ry h
  obtain ⟨a, b, m, n, rfl, rfl, ha, hb, q⟩ := h
  cases rx
  cases ry
  obtain ⟨its, r1, p1, _⟩ := I.tuple (SqT.of ha)
  obtain ⟨its2, r2, p2, _⟩ := I.tuple (SqT.of hb)
  obtain ⟨u1, u2, rfl, ⟨t1, rfl⟩, ⟨t2, rfl⟩⟩ := vals_2 r1
  obtain ⟨v1, v2, rfl, ⟨w1, rfl⟩, ⟨w2, rfl⟩⟩ := vals_2 r2
  have R := Ob.RcOp.tuples_lt (A := X.A) (s := s) (e := fun j => if j = 0 then m.1 == n.1 else m.2 == n.2) (r := fun j => if j = 0 then decide (m.1 < n.1) else decide (sl m.2 < sl n.2)) p1 p2 hu
    (fun j h1 h2 => by
      match j, h1 with
      | 0, _ => exact SeqAt.EqAt.int_int _ _ _ _
      | 1, _ => exact SeqAt.EqAt.str_str _ _ _ _)
    (fun j h1 h2 _ => by
      match j, h1 with
      | 0, _ => exact Ob.RcOp.lt_int _ _ _ _
      | 1, _ => exact lt_strR _ _ _ _)
  have e3 : Ob.lexAt (fun j => if j = 0 then m.1 == n.1 else m.2 == n.2) (fun j => if j = 0 then decide (m.1 < n.1) else decide (sl m.2 < sl n.2)) (decide (2 < 2)) 0 (min 2 2) = ltIS m n := lexP_lt m n
  have z : wpAny (model X.prog X.w) X.A (compareOp .Lt (.ref a) (.ref b)) (EP X pins σ Q) X.xe s := R X.prog X.w X.xe (EP X pins σ Q) ⟨.bl _, H, I, rfl, by
    rw [← e3] at q
    exact q⟩
  exact z
theorem op_leIS (hu : X.A.units < cLine) : OpR X (compareOp .LtE) rLeIS := by
  intro pins s σ H x y v u Q I rx ry h
  obtain ⟨a, b, m, n, rfl, rfl, ha, hb, q⟩ := h
  cases rx
  cases ry
  obtain ⟨its, r1, p1, _⟩ := I.tuple (SqT.of ha)
  obtain ⟨its2, r2, p2, _⟩ := I.tuple (SqT.of hb)
  obtain ⟨u1, u2, rfl, ⟨t1, rfl⟩, ⟨t2, rfl⟩⟩ := vals_2 r1
  obtain ⟨v1, v2, rfl, ⟨w1, rfl⟩, ⟨w2, rfl⟩⟩ := vals_2 r2
  have R := Ob.RcOp.tuples_le (A := X.A) (s := s) (e := fun j => if j = 0 then m.1 == n.1 else m.2 == n.2) (r := fun j => if j = 0 then decide (m.1 ≤ n.1) else decide (sl m.2 ≤ sl n.2)) p1 p2 hu
    (fun j h1 h2 => by
      match j, h1 with
      | 0, _ => exact SeqAt.EqAt.int_int _ _ _ _
      | 1, _ => exact SeqAt.EqAt.str_str _ _ _ _)
    (fun j h1 h2 _ => by
      match j, h1 with
      | 0, _ => exact Ob.RcOp.le_int _ _ _ _
      | 1, _ => exact RcOp.le_str _ _ _ _)
  have e3 : Ob.lexAt (fun j => if j = 0 then m.1 == n.1 else m.2 == n.2) (fun j => if j = 0 then decide (m.1 ≤ n.1) else decide (sl m.2 ≤ sl n.2)) (decide (2 ≤ 2)) 0 (min 2 2) = !ltIS n m := lexP_le m n
  have z : wpAny (model X.prog X.w) X.A (compareOp .LtE (.ref a) (.ref b)) (EP X pins σ Q) X.xe s := R X.prog X.w X.xe (EP X pins σ Q) ⟨.bl _, H, I, rfl, by
    rw [← e3] at q
    exact q⟩
  exact z
end
namespace EV
/-- an exception's fields, told as those of one that flies -/
theorem exd_told {X : Cx} {pins : List (Addr × Obj)} {σ : L2.St} {H : Hp} {s : Shared} {d : Addr} {fs : List (Str × V)} (I : Inv X pins σ H s) (e : H d = some (exd d fs)) : Inv X pins σ (upd H d (.xd fs)) s := by
  obtain ⟨mA, hns, rel⟩ := exd_at I.hok e
  obtain ⟨od, ho, _⟩ := lookIn_ns hns
  exact I.write (h' := s.heap) (t' := s.toks) (x := d) (e := d) (o := .xd fs) (by rw [e]; exact True.intro) (.inl rfl) (fun b u _ q => q) (by
    obtain ⟨o, es, ep, e1, _⟩ := hns
    exact ⟨_, e1⟩) ⟨mA, hns, rel⟩
theorem pmk_own3 {X : Cx} {e : Expr} {te : TE} (hx : X.ex = []) (he : PE X e te) :
    PMk X e (fun σ H Q => te σ H fun x H1 => ∃ (a C d : Addr) (fs : List (Str × V)), x = .ref a ∧ H1 a = some (exo a C (some d)) ∧ d ≠ a ∧ H1 d = some (exd d fs) ∧ Fr0 X.H_0 a ∧ Raises X (.ref C) ∧ Q (.ref C) (some d) (upd (delH H1 a) d (.xd fs))) := by
  intro pins s σ H Q I h
  refine wpAny_mono (he.run pins s σ H _ I h) (fun u s1 hu => ?_) fun _ _ x => x
  obtain ⟨v, H1, I1, r1, a, C, d, fs, rfl, ha, nda, hd, h0, hr, q⟩ := hu
  cases r1
  obtain ⟨t1, ho⟩ := exo_at I1.hok ha
  obtain ⟨G, gs, ga, J⟩ := I1.untrack ha h0 hx
  have hd' : delH H1 a d = some (exd d fs) := by
    rw [delH_ne nda]
    exact hd
  have J2 := exd_told J hd'
  have na : upd (delH H1 a) d (.xd fs) a = none := by
    rw [upd_ne nda.symm]
    exact delH_same
  exact ⟨a, _, _, { s1 with heap := G }, _, .ref C, some d, rfl, J2, gs, ga, ho, ⟨rfl, rfl⟩, rfl, rfl, na, rfl, I1.bare, hr, q⟩
end EV
end L2

set_option Elab.async false
set_option linter.all false
set_option maxRecDepth 100000
set_option maxHeartbeats 4000000
/-! BadFraming; is_joined of what isn't; need_framing of what is no framing. -/
namespace K02
open PySem L2 L2.EV
abbrev sJoined : Stmt := top 12
abbrev sNeedF : Stmt := top 13
def spOne (C : Addr) (f : Str) : Sp := fun vs H Q _ => ∃ (a : Addr) (x : V), vs = [.ref a, x] ∧ H a = some (exo a C none) ∧
  ∀ dx, H dx = none → dx ≠ a → Q .non (upd (upd H dx (exd dx [(f, x)])) a (exo a C (some dx)))
/-- what is asked of a built-in base, for B.__init__(self, ..) -/
structure BI (K : PySem.W.Frag) (mg : Str → Option Value) (nB : Str) (B initId : String) : Prop where
  mg : mg nB = none
  bt : bootBuiltins nB = some (.type B)
  ty : typeOf (.type B) = pure (.type "type")
  vV : PySem.W.findCls K (.type B) (.type "type") "__init__" = some (.val (.builtin initId))
  st : Manifest.isStub B = false
def gP : List Value → List Value → List Value := fun us _ => us
def vP : List V → List V → List V := fun vs _ => vs
theorem kb_pos {K : PySem.W.Frag} {fd : FuncData} {ps : List Str} {n : Nat} (b : Binds K fd ps []) (hn : ps.length = n) : KBn K fd ps n [] gP vP := by
  refine ⟨fun s us ws X l1 l2 => ?_, fun r _ => r⟩
  have z := b s us X (by rw [List.append_nil, l1, hn])
  rw [List.append_nil] at z
  exact z
abbrev bmVE : List Value := [.type "ValueError", .type "Exception", .type "BaseException", .type "object"]
theorem same_none {H H' : Hp} {a : Addr} (s : Same H H') (n : H' a = none) : H a = none := by
  cases e : H a with
  | none => rfl
  | some o =>
    rw [s _ _ e] at n
    cases n
theorem drop_at {α : Type} {l : List α} {i : Nat} {x : α} (h : l[i]? = some x) : l.drop i = x :: l.drop (i + 1) := by
  obtain ⟨hi, e⟩ := List.getElem?_eq_some_iff.mp h
  rw [List.drop_eq_getElem_cons hi, e]
abbrev sBadFraming : Stmt := inClass (top 1) 0
section
variable {P : Program} {w : World} {K : PySem.W.Frag} {mg : Str → Option Value} {base : Heap}
theorem scBadFraming : FnScope ["self", "number"] ["self", "number"] (defScope sBadFraming) := ⟨rfl, rfl, rfl, by decide +kernel, rfl, by decide +kernel, by decide +kernel⟩
theorem ok_BadFraming {f C : Addr} {fd : FuncData} (F : Fun K "__init__" "BadFraming.__init__" sBadFraming f fd) (T : OxC K C "ValueError" "ValueError.__new__" "ValueError.__init__" [.type "ValueError", .type "Exception", .type "BaseException", .type "object"]) (I : BI K mg "ValueError" "ValueError" "ValueError.__init__")
    (n0 : PySem.W.findIn K (.ref C) "number" = some none) : FnOk P w K mg base CX0 1 f fd ["self", "number"] (spOne C "number") := by
  refine F.ok scBadFraming (fun vs H Q E h => ?_) (fun cdv A outer s H vs Q E hr h => ?_)
  · obtain ⟨a, x, rfl, _⟩ := h
    rfl
  · obtain ⟨a, x, rfl, e, q⟩ := h
    refine ⟨_, pss_cons (ps_expr (pe_bin (newId := "ValueError.__new__") (bm := [.type "ValueError", .type "Exception", .type "BaseException", .type "object"]) (by rfl) I.mg I.bt I.ty I.vV I.st (pa_cons (pv 0) (pa_cons pe_str pa_nil)) rfl)) (pss_one (ps_put (B := "ValueError") (newId := "ValueError.__new__") (initId := "ValueError.__init__") (bm := [.type "ValueError", .type "Exception", .type "BaseException", .type "object"]) (pv 0) (pv 1) rfl)), ?_⟩
    exact ⟨_, rfl, a, C, _, rfl, by show 1 ≤ 1000; decide, T, e, _, rfl, _, rfl, a, C, rfl, T, n0, .inl ⟨e, fun dx hn ne => q dx hn ne⟩⟩
end
/-- what is known of BadFraming -/
structure Bfr (K : PySem.W.Frag) (mg : Str → Option Value) where
  C : Addr
  f : Addr
  d : FuncData
  T : OxC K C "ValueError" "ValueError.__new__" "ValueError.__init__" bmVE
  I : BI K mg "ValueError" "ValueError" "ValueError.__init__"
  F : Fun K "__init__" "BadFraming.__init__" sBadFraming f d
  b : Binds K d ["self", "number"] []
  m : mg "BadFraming" = some (.ref C)
  iC : PySem.W.findIn K (.ref C) "__init__" = some (some (.ref f))
  tI : PySem.W.typeIn K (.ref f) = some (.type "function")
  n0 : PySem.W.findIn K (.ref C) "number" = some none
  su : PySem.W.subIn K (.ref C) (.type "BaseException") = some true
  ty : PySem.W.typeIn K (.ref C) = some (.type "type")
  own : PySem.W.subIn K (.ref C) (.ref C) = some true
theorem bad_heap {H : Hp} {C a dx : Addr} {x : V} (na : H a = none) (hn : upd H a (exo a C none) dx = none) (ne : dx ≠ a) :
    (upd (upd (upd H a (exo a C none)) dx (exd dx [("number", x)])) a (exo a C (some dx))) a = some (exo a C (some dx)) ∧
    (upd (upd (upd H a (exo a C none)) dx (exd dx [("number", x)])) a (exo a C (some dx))) dx = some (exd dx [("number", x)]) ∧
    Same H (upd (delH (upd (upd (upd H a (exo a C none)) dx (exd dx [("number", x)])) a (exo a C (some dx))) a) dx (.xd [("number", x)])) := by
  have hd : H dx = none := by
    rw [upd_ne ne] at hn
    exact hn
  refine ⟨upd_same, by rw [upd_ne ne]; exact upd_same, fun b o e => ?_⟩
  have h1 := ne_of_none e na
  have h2 := ne_of_none e hd
  rw [upd_ne h2, delH_ne h1, upd_ne h1, upd_ne h2, upd_ne h1]
  exact e
/-- the error is told with this field -/
def Eb (C : Addr) (E : XK) (H : Hp) (r : V) : Prop := ∀ (H' : Hp) (dx : Addr), Same H H' → H' dx = some (.xd [("number", r)]) → E (.ref C) (some dx) H'
theorem Eb.same {C : Addr} {E : XK} {H H' : Hp} {r : V} (h : Eb C E H r) (s : Same H H') : Eb C E H' r := fun H2 dx s2 e => h H2 dx (s.trans s2) e
/-- a framing of right steps that isn't joined -/
def JF (H : Hp) (f : Addr) : Prop := ∃ (fr : List T3) (last : Nat) (S : Int → Prop) (k : Int), FrA H f fr ∧ Fb fr last ∧ (∀ x ∈ fr, x.1 = ((0 : Nat) : Int) → S x.2.2) ∧ (∀ x ∈ fr, S x.1 → S x.2.2) ∧ (∃ x ∈ fr, x.1 = k ∨ x.2.2 = k) ∧ ¬ S k
theorem JF.same {H H' : Hp} {f : Addr} (h : JF H f) (s : Same H H') : JF H' f := by
  obtain ⟨fr, last, S, k, fa, r⟩ := h
  exact ⟨fr, last, S, k, fa.same s, r⟩
def spJF : Sp := fun vs H Q _ => ∃ (f : Addr), vs = [.ref f] ∧ JF H f ∧ ∀ H', Same H H' → Q (.bl false) H'
def lb3 : Option T3 → T3 → Bool
  | none, _ => false
  | some p, t => !lt3 p t
/-- the number of the first thing that is no step, or not greater than the one ahead -/
def wrgF : List PyData → Option T3 → Nat → Option Nat
  | [], _, _ => none
  | d :: ds, last, k => match stpD d with
    | none => some k
    | some t => if lb3 last t = true then some k else wrgF ds (some t) (k + 1)
theorem wrgF_none {d : PyData} {ds : List PyData} {last : Option T3} {k : Nat} (h : stpD d = none) : wrgF (d :: ds) last k = some k := by
  rw [wrgF, h]
theorem wrgF_some {d : PyData} {ds : List PyData} {last : Option T3} {k : Nat} {t : T3} (h : stpD d = some t) : wrgF (d :: ds) last k = if lb3 last t = true then some k else wrgF ds (some t) (k + 1) := by
  rw [wrgF, h]
theorem stp_at {H : Hp} {v : V} {d : PyData} {t : T3} (h : Da H v d) (e : stpD d = some t) : ∃ a, v = .ref a ∧ S3 H a t := by
  obtain ⟨rfl, _⟩ := stpD_some e
  cases h with
  | tup e all =>
    match all with
    | .cons (.int _) (.cons (.str _) (.cons (.int _) .nil)) => exact ⟨_, rfl, e⟩
/-- what is no framing, and the number that is told -/
def Bad (H : Hp) (v : V) (r : V) : Prop := (∃ d, Da H v d ∧ isTup d = false ∧ r = .non) ∨ (∃ a xs, v = .ref a ∧ H a = some (.tup xs) ∧ 16 < xs.length ∧ r = .non) ∨
  (∃ (a : Addr) (xs : List V) (ds : List PyData), v = .ref a ∧ H a = some (.tup xs) ∧ DaAll H xs ds ∧ ds.length ≤ 16 ∧ (∀ d ∈ ds, szS d) ∧
    ((ds = [] ∧ r = .non) ∨ (∃ k : Nat, ds ≠ [] ∧ wrgF ds none 0 = some k ∧ r = .int (k : Int)) ∨ (ds ≠ [] ∧ wrgF ds none 0 = none ∧ JF H a ∧ r = .int (-1))))
theorem Bad.same {H H' : Hp} {v r : V} (h : Bad H v r) (s : Same H H') : Bad H' v r := by
  rcases h with ⟨d, da, c, e⟩ | ⟨a, xs, e1, e2, e4, e3⟩ | ⟨a, xs, ds, e1, e2, e3, e4, e5, h⟩
  · exact .inl ⟨d, Da.same s _ _ da, c, e⟩
  · exact .inr (.inl ⟨a, xs, e1, s _ _ e2, e4, e3⟩)
  · refine .inr (.inr ⟨a, xs, ds, e1, s _ _ e2, DaAll.same s _ _ e3, e4, e5, ?_⟩)
    rcases h with h | h | ⟨h1, h2, h3, h4⟩
    · exact .inl h
    · exact .inr (.inl h)
    · exact .inr (.inr ⟨h1, h2, h3.same s, h4⟩)
def spNeedFX (C : Addr) : Sp := fun vs H Q E => ∃ (v r : V), vs = [v] ∧ Bad H v r ∧ Eb C E H r
/-- the defs that need_framing calls -/
structure Fs (K : PySem.W.Frag) (mg : Str → Option Value) where
  B : Bfr K mg
  fN : Addr
  fP : Addr
  fS : Addr
  fL : Addr
  fW : Addr
  fJ : Addr
  fF : Addr
  dN : FuncData
  dP : FuncData
  dS : FuncData
  dL : FuncData
  dW : FuncData
  dJ : FuncData
  dF : FuncData
  N : Fun K "is_number" "is_number" sNum fN dN
  P : Fun K "is_piece" "is_piece" sPc fP dP
  S : Fun K "is_step" "is_step" sStep fS dS
  L : Fun K "listed_standings" "listed_standings" sListed fL dL
  W : Fun K "ways_from" "ways_from" sWays fW dW
  J : Fun K "is_joined" "is_joined" sJoined fJ dJ
  F : Fun K "need_framing" "need_framing" sNeedF fF dF
  bN : Binds K dN ["thing", "many"] []
  bP : Binds K dP ["thing"] []
  bS : Binds K dS ["thing"] []
  bL : Binds K dL ["framing"] []
  bW : Binds K dW ["framing", "begin"] []
  bJ : Binds K dJ ["framing"] []
  bF : Binds K dF ["thing"] []
  mN : mg "is_number" = some (.ref fN)
  mP : mg "is_piece" = some (.ref fP)
  mS : mg "is_step" = some (.ref fS)
  mL : mg "listed_standings" = some (.ref fL)
  mW : mg "ways_from" = some (.ref fW)
  mJ : mg "is_joined" = some (.ref fJ)
  mF : mg "need_framing" = some (.ref fF)
  T : TxtF mg
  so : mg "sorted" = none
  en : mg "enumerate" = none
  ms : ∃ t, mg "MOST_STEPS" = some (.int 16 t)
section
variable {P : Program} {w : World} {K : PySem.W.Frag} {mg : Str → Option Value} {base : Heap}
theorem scJoined : FnScope ["framing", "reached", "standing"] ["framing"] (defScope sJoined) := ⟨rfl, rfl, rfl, by decide +kernel, rfl, by decide +kernel, by decide +kernel⟩
theorem ok_JF (Z : Fs K mg) : FnOk P w K mg base CX0 2 Z.fJ Z.dJ ["framing"] spJF := by
  have GL : FnOk P w K mg base CX0 1 Z.fL Z.dL ["framing"] spListed := ok_listed Z.L Z.so
  have GW : FnOk P w K mg base CX0 1 Z.fW Z.dW ["framing", "begin"] spWays := ok_ways Z.W Z.en
  refine Z.J.ok scJoined (fun vs H Q E h => ?_) (fun cdv A outer s H vs Q E hr h => ?_)
  · obtain ⟨f, rfl, _⟩ := h
    rfl
  · obtain ⟨f, rfl, ⟨fr, last, S, kk, fa, fm, c0, c1, hk, nk⟩, q⟩ := h
    have hu := hu_of hr
    refine ⟨_, pss_cons (ps_set (i := 1) scJoined.nd rfl (Or.inl rfl) (pe_call GW hr (by rfl) Z.mW Z.W.kp Z.bW .nil pass0 (pa_cons (pv 0) (pa_cons pe_int pa_nil))))
      (pss_cons (ps_for PassesOwn.never rfl (pi_list (pe_call GL hr (by rfl) Z.mL Z.L.kp Z.bL .nil pass0 (pa_cons (pv 0) pa_nil))) (pg_name (i := 2) scJoined.nd rfl (Or.inl rfl))
        (pss_one (ps_if (pw_or (pt_cmp (pc_dnotin hu (pv 2) (pv 1)) (by rfl)) (pw_or1 (pt_cmp (pc_dnotin hu pe_int (pe_call GW hr (by rfl) Z.mW Z.W.kp Z.bW .nil pass0 (pa_cons (pv 0) (pa_cons (pv 2) pa_nil)))) (by rfl)))).pt
          (pss_one (ps_ret pe_bl)) pss_nil)))
      (pss_one (ps_ret pe_bl))), ?_⟩
    refine ⟨_, rfl, f, fr, last, 0, S, rfl, fa, fm, Nat.zero_le _, c0, c1, fun H1 d kvs s1 n1 e1 h1 k1 => ?_⟩
    refine ⟨_, rfl, f, fr, last, rfl, fa.same s1, fm, fun H2 p ns s2 n2 e2 l2 k2 a2 _ => ⟨p, rfl, ⟨_, SqL.of e2⟩, for_it (walk_list (xs := ns.map V.int)) (fun i σ H' => ∃ v2 : Option V, σ = [some (.ref f), some (.ref d), v2] ∧ Same H2 H' ∧ ∀ g ∈ ns.take i, g ≠ kk)
      ⟨none, rfl, (fun _ _ e => e), fun g z => by cases z⟩ (fun i σ H' _ ⟨_, _, z, _⟩ => SqL.of (z _ _ e2)) ?_ ?_⟩⟩
    · rintro i x σ H3 H4 hi ⟨v2, rfl, s3, al⟩ ⟨rfl, hx⟩
      obtain ⟨k, hk, hki, rfl⟩ : ∃ k : Int, k ∈ ns ∧ ns[i]? = some k ∧ x = .int k := by
        rw [List.getElem?_map] at hx
        cases e : ns[i]? with
        | none =>
          rw [e] at hx
          cases hx
        | some k =>
          rw [e] at hx
          exact ⟨k, List.mem_of_getElem? e, rfl, (Option.some.inj hx).symm⟩
      obtain ⟨k0, k1'⟩ := k2 k hk
      obtain ⟨b, rfl⟩ := Int.eq_ofNat_of_zero_le k0
      have hb : b ≤ last := by omega
      refine ⟨_, rfl, _, rfl, d, _, rfl, DGet.k (k := Sum.inl (b : Int)) (s3 _ _ (s2 _ _ e1)), _, rfl, ?_⟩
      cases hh : (valV kvs (Sum.inl (b : Int) : Key)).isSome with
      | false => exact iteT (q _ (s1.trans (s2.trans s3)))
      | true =>
        refine iteF ?_
        refine ⟨_, rfl, _, rfl, f, fr, last, b, (fun _ => True), rfl, (fa.same s1).same (s2.trans s3), fm, hb, (fun _ _ _ => trivial), (fun _ _ _ => trivial), fun H5 d5 kvs5 s5 n5 e5 _ _ => ?_⟩
        refine ⟨d5, _, rfl, DGet.k (k := Sum.inl (0 : Int)) e5, _, rfl, ?_⟩
        cases h5 : (valV kvs5 (Sum.inl (0 : Int) : Key)).isSome with
        | false => exact iteT (q _ (s1.trans (s2.trans (s3.trans s5))))
        | true =>
          refine iteF ⟨_, rfl, s3.trans s5, fun g hg => ?_⟩
          rw [List.take_succ, hki] at hg
          rcases List.mem_append.mp hg with hg | hg
          · exact al g hg
          · have e9 : g = (b : Int) := by simpa using hg
            rw [e9]
            exact fun z => nk (z ▸ k1 _ hh)
    · rintro σ H3 ⟨v2, rfl, s3, al⟩
      have e9 : ns.take (ns.map V.int).length = ns := by rw [List.length_map, List.take_length]
      rw [e9] at al
      obtain ⟨x, hx, e⟩ := hk
      obtain ⟨y1, y2⟩ := a2 x hx
      rcases e with e | e
      · exact absurd e (al _ y1)
      · exact absurd e (al _ y2)
theorem scNeedF : FnScope ["thing", "number", "step"] ["thing"] (defScope sNeedF) := ⟨rfl, rfl, rfl, by decide +kernel, rfl, by decide +kernel, by decide +kernel⟩
theorem ok_needFX (Z : Fs K mg) : FnOk P w K mg base (L2.CX P w) 3 Z.fF Z.dF ["thing"] (spNeedFX Z.B.C) := by
  have GS : FnOk P w K mg base CX0 2 Z.fS Z.dS ["thing"] spStpD := ok_stpD Z.S Z.T Z.N Z.bN Z.mN Z.P Z.bP Z.mP
  have GJ : FnOk P w K mg base CX0 2 Z.fJ Z.dJ ["framing"] spJF := ok_JF Z
  have GB : FnOk P w K mg base CX0 1 Z.B.f Z.B.d ["self", "number"] (spOne Z.B.C "number") := ok_BadFraming Z.B.F Z.B.T Z.B.I Z.B.n0
  refine Z.F.okX scNeedF (fun vs H Q E h => ?_) (fun cdv A outer s H vs Q E hr h => ?_)
  · obtain ⟨v, r, rfl, _⟩ := h
    rfl
  · obtain ⟨v, r, rfl, bad, q⟩ := h
    have hu := hu_of hr
    have hu0 : (A.deeper (PyProof.Rows.envOfC "need_framing" (defScope sNeedF) s.heap.objs.size Z.fF cdv)).units < cLine := by omega
    obtain ⟨tm, eM⟩ := Z.ms
    refine ⟨_, pss_cons (ps_if (pw_or (pt_not (pt_val (pe_callB call_isi (by rfl) Z.T.isi PyProof.Rows.boot_isinstance (pa_cons (pv 0) (pa_cons (pe_bltn (v := .ty "tuple") (by rfl) Z.T.tuple (by decide +kernel) rfl) pa_nil)))))
        (pw_or1 (pt_not (pt_chain op_le op_le pe_int (pe_callB call_len_seq (by rfl) Z.T.len PySem.boot_len (pa_cons (pv 0) pa_nil)) (pe_glob (v := .int 16) (by rfl) eM ⟨_, rfl⟩))))).pt
        (pss_one (ps_raise rfl (takes_of rfl rfl rfl rfl) (pmk_own3 rfl (pe_new Z.B.T Z.B.iC Z.B.tI GB hr (kb_pos Z.B.b rfl) pass0 (by rfl) Z.B.m (pa_cons pe_non pa_nil))))) pss_nil)
      (pss_cons (ps_for (passes_of rfl) rfl (pi_enumT (by rfl) Z.en (pa_cons (pv 0) pa_nil)) (pg_tup rfl (pgs_cons (pg_name (i := 1) scNeedF.nd rfl (Or.inl rfl)) (pgs_cons (pg_name (i := 2) scNeedF.nd rfl (Or.inl rfl)) pgs_nil)))
        (pss_one (ps_if (pw_or (pt_not (pt_val (pe_call GS hr (by rfl) Z.mS Z.S.kp Z.bS .nil pass0 (pa_cons (pv 2) pa_nil))))
          (pw_or1 (pw_and (pt_cmpR op_gt (pv 1) pe_int (nomark _)) (pw_and1 (pt_cmpR (op_le3 hu0) (pv 2) (pe_ix ix_tup (pv 0) (pe_op op_sub (pv 1) pe_int) (fun _ _ => rfl)) (nomark _)))).pt)).pt
          (pss_one (ps_raise rfl (takes_of rfl rfl rfl rfl) (pmk_own3 rfl (pe_new Z.B.T Z.B.iC Z.B.tI GB hr (kb_pos Z.B.b rfl) pass0 (by rfl) Z.B.m (pa_cons (pv 1) pa_nil))))) pss_nil)))
      (pss_cons (ps_if (pt_not (pt_val (pe_call GJ hr (by rfl) Z.mJ Z.J.kp Z.bJ .nil pass0 (pa_cons (pv 0) pa_nil)))) (pss_one (ps_raise rfl (takes_of rfl rfl rfl rfl) (pmk_own3 rfl (pe_new Z.B.T Z.B.iC Z.B.tI GB hr (kb_pos Z.B.b rfl) pass0 (by rfl) Z.B.m (pa_cons (pe_un un_neg pe_int) pa_nil))))) pss_nil)
      (pss_one ps_never))), ?_⟩
    -- the raise, from any state that came so far
    have fin : ∀ {H1 : Hp} {a : Addr} {r : V} (s1 : Same H H1) (na : H1 a = none) (qe : Eb Z.B.C E H r) (dx : Addr), upd H1 a (exo a Z.B.C none) dx = none → dx ≠ a →
        ∃ (a0 C d : Addr) (fs : List (Str × V)), V.ref a = .ref a0 ∧ (upd (upd (upd H1 a (exo a Z.B.C none)) dx (exd dx [("number", r)])) a (exo a Z.B.C (some dx))) a0 = some (exo a0 C (some d)) ∧ d ≠ a0 ∧
          (upd (upd (upd H1 a (exo a Z.B.C none)) dx (exd dx [("number", r)])) a (exo a Z.B.C (some dx))) d = some (exd d fs) ∧ Fr0 H a0 ∧
          Raises (cxOf (L2.CX P w) P w K mg base ["thing", "number", "step"] "need_framing" (defScope sNeedF) Z.fF cdv A outer s H E) (.ref C) ∧
          E (.ref C) (some d) (upd (delH (upd (upd (upd H1 a (exo a Z.B.C none)) dx (exd dx [("number", r)])) a (exo a Z.B.C (some dx))) a0) d (.xd fs)) := by
      intro H1 a r s1 na qe dx hn ne
      obtain ⟨b1, b2, b3⟩ := bad_heap (x := r) na hn ne
      exact ⟨a, Z.B.C, dx, _, rfl, b1, ne, b2, fr0_none (same_none s1 na), raises_own Z.B.su Z.B.ty, qe _ dx (s1.trans b3) upd_same⟩
    rcases bad with ⟨d, da, c, rfl⟩ | ⟨a, xs, rfl, e, ll, rfl⟩ | ⟨a, xs, ds, rfl, ha, all, l16, szs, bad⟩
    · obtain ⟨t, ty, kt, _, _⟩ := da.ty (K := K)
      rw [c] at kt
      refine ⟨_, rfl, v, .ty "tuple", t, .type "tuple", false, rfl, .ty "tuple", ty, kt, false, rfl, iteT ?_⟩
      exact ⟨rfl, rfl, (by decide), fun a na => ⟨a, .non, rfl, upd_same, fun dx hn ne => ⟨rfl, fin (Same.refl H) na q dx hn ne⟩⟩⟩
    · refine ⟨_, rfl, .ref a, .ty "tuple", .type "tuple", .type "tuple", true, rfl, .ty "tuple", .base (.tup e), kit_ty (by decide +kernel), true, rfl, iteF ?_⟩
      refine ⟨_, rfl, a, _, rfl, .inr (SqT.of e), 1, _, rfl, rfl, _, rfl, ?_⟩
      refine iteT' (decide_eq_true (by omega)) ⟨_, 16, rfl, rfl, _, rfl, iteT' (by rw [decide_eq_false (by omega)]; rfl) ?_⟩
      exact ⟨rfl, rfl, (by decide), fun a na => ⟨a, .non, rfl, upd_same, fun dx hn ne => ⟨rfl, fin (Same.refl H) na q dx hn ne⟩⟩⟩
    · refine ⟨_, rfl, .ref a, .ty "tuple", .type "tuple", .type "tuple", true, rfl, .ty "tuple", .base (.tup ha), kit_ty (by decide +kernel), true, rfl, iteF ?_⟩
      have ln := all.len
      refine ⟨_, rfl, a, _, rfl, .inr (SqT.of ha), 1, _, rfl, rfl, _, rfl, ?_⟩
      by_cases hd0 : ds = []
      · have hr0 : r = .non := by
          rcases bad with ⟨_, z⟩ | ⟨_, z, _⟩ | ⟨z, _⟩
          · exact z
          · exact absurd hd0 z
          · exact absurd hd0 z
        subst hr0
        rw [hd0] at ln
        have ln : xs.length = 0 := ln
        refine iteF' (decide_eq_false (by omega)) ⟨_, rfl, iteT ?_⟩
        exact ⟨rfl, rfl, (by decide), fun a na => ⟨a, .non, rfl, upd_same, fun dx hn ne => ⟨rfl, fin (Same.refl H) na q dx hn ne⟩⟩⟩
      have dl : 0 < ds.length := List.length_pos_iff.mpr hd0
      refine iteT' (decide_eq_true (by omega)) ⟨_, 16, rfl, rfl, _, rfl, iteF' (by rw [decide_eq_true (by omega)]; rfl) ?_⟩
      have qr : ∀ i : Nat, wrgF ds none 0 = some i → Eb Z.B.C E H (.int (i : Int)) := fun i e => by
        rcases bad with ⟨z, _⟩ | ⟨k, _, z, rfl⟩ | ⟨_, z, _⟩
        · exact absurd z hd0
        · rw [z] at e
          cases e
          exact q
        · rw [z] at e
          cases e
      refine ⟨_, rfl, a, _, rfl, SqT.of ha, for_it (walk_enumT (xs := xs)) (fun i σ H' => ∃ (v1 v2 : Option V) (last : Option T3), σ = [some (.ref a), v1, v2] ∧ Same H H' ∧
          wrgF ds none 0 = wrgF (ds.drop i) last i ∧ (i = 0 → last = none) ∧ ∀ j, i = j + 1 → ∃ d t, ds[j]? = some d ∧ stpD d = some t ∧ last = some t)
        ⟨none, none, none, rfl, Same.refl H, rfl, fun _ => rfl, fun j hj => by omega⟩ (fun i σ H' _ ⟨_, _, _, _, z, _⟩ => SqT.of (z _ _ ha)) ?_ ?_⟩
      · rintro i x σ H1 H2 hi ⟨v1, v2, last, rfl, s1, inv, l0, l1⟩ ⟨T, xi, xo, rfl, nT, rfl, g1, g2⟩
        cases g1
        obtain ⟨d, hd, dv⟩ := all.at_ g2
        rw [drop_at hd] at inv
        have s2 := s1.trans (same_upd (o := HO.tup [V.int (i : Nat), xo]) nT)
        have dv2 := Da.same s2 _ _ dv
        refine ⟨T, _, rfl, SqT.of upd_same, rfl, _, _, rfl, _, _, rfl, rfl, ?_⟩
        refine ⟨_, rfl, xo, d, rfl, dv2, szs d (List.mem_of_getElem? hd), fun H3 s3 => ⟨_, rfl, ?_⟩⟩
        have s23 := s2.trans s3
        cases ed : stpD d with
        | none =>
          rw [wrgF_none ed] at inv
          exact iteT ⟨_, rfl, rfl, rfl, (by show 1 ≤ 1000; decide), fun a na => ⟨a, .int (i : Nat), rfl, upd_same, fun dx hn ne => ⟨rfl, fin s23 na (qr i inv) dx hn ne⟩⟩⟩
        | some t =>
          rw [wrgF_some ed] at inv
          refine iteF ?_
          have goOn : lb3 last t = false → ∃ (v1' v2' : Option V) (last' : Option T3), [some (V.ref a), some (V.int (i : Nat)), some xo] = [some (.ref a), v1', v2'] ∧
              wrgF ds none 0 = wrgF (ds.drop (i + 1)) last' (i + 1) ∧ (i + 1 = 0 → last' = none) ∧ ∀ j, i + 1 = j + 1 → ∃ d t, ds[j]? = some d ∧ stpD d = some t ∧ last' = some t := fun z => by
            rw [z, if_neg (by simp)] at inv
            exact ⟨_, _, _, rfl, inv, fun h => by omega, fun j h => by
              obtain rfl : i = j := by omega
              exact ⟨d, t, hd, ed, rfl⟩⟩
          refine ⟨_, rfl, (i : Int), 0, rfl, rfl, _, rfl, ?_⟩
          refine ite2 (fun z => ?_) (fun z => ?_)
          · have z1 : (0 : Int) < i := of_decide_eq_true z
            obtain ⟨j, rfl⟩ : ∃ j, i = j + 1 := ⟨i - 1, by omega⟩
            obtain ⟨dp, tp, hp1, hp2, rfl⟩ := l1 j rfl
            obtain ⟨vp, hvp, dvp⟩ := all.at' hp1
            obtain ⟨a1, rfl, ha1⟩ := stp_at (Da.same s3 _ _ dv2) ed
            obtain ⟨a2, rfl, ha2⟩ := stp_at (Da.same s23 _ _ dvp) hp2
            refine ⟨_, rfl, _, rfl, _, rfl, _, _, rfl, rfl, a, _, (j : Int), V.ref a2, rfl, ?_, SqT.of (s23 _ _ ha), atI_nat hvp, a1, a2, t, tp, rfl, rfl, ha1, ha2, _, rfl, ?_⟩
            · show V.int (((j + 1 : Nat) : Int) - 1) = V.int (j : Int)
              congr 1
              omega
            cases eb2 : lt3 tp t with
            | true =>
              obtain ⟨w1, w2, w3, w4, w5⟩ := goOn (by show (!lt3 tp t) = false; rw [eb2]; rfl)
              exact iteF ⟨w1, w2, w3, w4, s23, w5⟩
            | false =>
              rw [show lb3 (some tp) t = !lt3 tp t from rfl, eb2, if_pos (show (!false) = true from rfl)] at inv
              exact iteT ⟨_, rfl, rfl, rfl, (by show 1 ≤ 1000; decide), fun a na => ⟨a, .int ((j + 1 : Nat) : Nat), rfl, upd_same, fun dx hn ne => ⟨rfl, fin s23 na (qr _ inv) dx hn ne⟩⟩⟩
          · have i0 : i = 0 := by
              have : ¬ (0 : Int) < i := fun k => z (decide_eq_true k)
              omega
            have l9 := l0 i0
            subst l9
            obtain ⟨w1, w2, w3, w4, w5⟩ := goOn rfl
            exact iteF ⟨w1, w2, w3, w4, s23, w5⟩
      · rintro σ H1 ⟨v1, v2, last, rfl, s1, inv, _, _⟩
        rw [all.len, List.drop_length] at inv
        have inv : wrgF ds none 0 = none := inv
        obtain ⟨jf, rfl⟩ : JF H a ∧ r = .int (-1) := by
          rcases bad with ⟨z, _⟩ | ⟨k, _, z, _⟩ | ⟨_, _, z1, z2⟩
          · exact absurd z hd0
          · rw [inv] at z
            cases z
          · exact ⟨z1, z2⟩
        refine ⟨_, rfl, a, rfl, jf.same s1, fun H2 s2 => ⟨_, rfl, iteT ?_⟩⟩
        have s12 := s1.trans s2
        exact ⟨1, rfl, rfl, rfl, (by show 1 ≤ 1000; decide), fun a na => ⟨a, .int (-1), rfl, upd_same, fun dx hn ne => ⟨rfl, fin s12 na q dx hn ne⟩⟩⟩
end
end K02

set_option Elab.async false
set_option linter.all false
set_option maxRecDepth 100000
set_option maxHeartbeats 4000000
/-! is_joined, need_framing. -/
namespace K02
open PySem L2 L2.EV
def spJoined : Sp := fun vs H Q _ => ∃ (f : Addr) (fr : List T3) (last : Nat), vs = [.ref f] ∧ FrA H f fr ∧ Frm fr last ∧ ∀ H', Same H H' → Q (.bl true) H'
def spNeedF : Sp := fun vs H Q _ => ∃ (f : Addr) (fr : List T3) (last : Nat), vs = [.ref f] ∧ FrA H f fr ∧ Frm fr last ∧ ∀ H', Same H H' → Q (.ref f) H'
theorem Frm.fb {fr : List T3} {last : Nat} (fm : Frm fr last) : Fb fr last := ⟨fm.l1, fun x hx => by
  obtain ⟨b1, _, _, b3, _⟩ := fm.stp x hx
  obtain ⟨b5, b6⟩ := fm.lo x hx
  exact ⟨b1, b5, b3, b6⟩, fm.l5⟩
section
variable {P : Program} {w : World} {K : PySem.W.Frag} {mg : Str → Option Value} {base : Heap}
theorem ok_joined (Z : Fs K mg) : FnOk P w K mg base CX0 2 Z.fJ Z.dJ ["framing"] spJoined := by
  have GL : FnOk P w K mg base CX0 1 Z.fL Z.dL ["framing"] spListed := ok_listed Z.L Z.so
  have GW : FnOk P w K mg base CX0 1 Z.fW Z.dW ["framing", "begin"] spWays := ok_ways Z.W Z.en
  refine Z.J.ok scJoined (fun vs H Q E h => ?_) (fun cdv A outer s H vs Q E hr h => ?_)
  · obtain ⟨f, fr, last, rfl, _⟩ := h
    rfl
  · obtain ⟨f, fr, last, rfl, fa, fm, q⟩ := h
    have hu := hu_of hr
    refine ⟨_, pss_cons (ps_set (i := 1) scJoined.nd rfl (Or.inl rfl) (pe_call GW hr (by rfl) Z.mW Z.W.kp Z.bW .nil pass0 (pa_cons (pv 0) (pa_cons pe_int pa_nil))))
      (pss_cons (ps_for PassesOwn.never rfl (pi_list (pe_call GL hr (by rfl) Z.mL Z.L.kp Z.bL .nil pass0 (pa_cons (pv 0) pa_nil))) (pg_name (i := 2) scJoined.nd rfl (Or.inl rfl))
        (pss_one (ps_if (pw_or (pt_cmp (pc_dnotin hu (pv 2) (pv 1)) (by rfl)) (pw_or1 (pt_cmp (pc_dnotin hu pe_int (pe_call GW hr (by rfl) Z.mW Z.W.kp Z.bW .nil pass0 (pa_cons (pv 0) (pa_cons (pv 2) pa_nil)))) (by rfl)))).pt
          (pss_one (ps_ret pe_bl)) pss_nil)))
      (pss_one (ps_ret pe_bl))), ?_⟩
    refine ⟨_, rfl, f, fr, last, 0, (fun _ => True), rfl, fa, fm.fb, Nat.zero_le _, (fun _ _ _ => trivial), (fun _ _ _ => trivial), fun H1 d kvs s1 n1 e1 c1 _ => ?_⟩
    have h1 : ∀ k : Nat, k ≤ last → has kvs k = true := fun k hk => fm.all (S := fun g => has kvs g = true) (Nat.zero_le _) (fun x hx e => c1 x hx (.inl e)) (fun x hx e => c1 x hx (.inr e)) k hk
    refine ⟨_, rfl, f, fr, last, rfl, fa.same s1, fm.fb, fun H2 p ns s2 n2 e2 l2 k2 _ _ => ⟨p, rfl, ⟨_, SqL.of e2⟩, for_it (walk_list (xs := ns.map V.int)) (fun i σ H' => ∃ v2 : Option V, σ = [some (.ref f), some (.ref d), v2] ∧ Same H2 H')
      ⟨none, rfl, fun _ _ e => e⟩ (fun i σ H' _ ⟨_, _, z⟩ => SqL.of (z _ _ e2)) ?_ ?_⟩⟩
    · rintro i x σ H3 H4 hi ⟨v2, rfl, s3⟩ ⟨rfl, hx⟩
      obtain ⟨k, hk, rfl⟩ : ∃ k : Int, k ∈ ns ∧ x = .int k := by
        rw [List.getElem?_map] at hx
        cases e : ns[i]? with
        | none =>
          rw [e] at hx
          cases hx
        | some k =>
          rw [e] at hx
          exact ⟨k, List.mem_of_getElem? e, (Option.some.inj hx).symm⟩
      obtain ⟨k0, k1⟩ := k2 k hk
      obtain ⟨b, rfl⟩ := Int.eq_ofNat_of_zero_le k0
      have hb : b ≤ last := by omega
      have hb' : (valV kvs (Sum.inl (b : Int) : Key)).isSome = true := h1 b hb
      refine ⟨_, rfl, _, rfl, d, _, rfl, DGet.k (k := Sum.inl (b : Int)) (s3 _ _ (s2 _ _ e1)), _, rfl, iteF' (by rw [hb']; rfl) ?_⟩
      refine ⟨_, rfl, _, rfl, f, fr, last, b, (fun _ => True), rfl, (fa.same s1).same (s2.trans s3), fm.fb, hb, (fun _ _ _ => trivial), (fun _ _ _ => trivial), fun H5 d5 kvs5 s5 n5 e5 c5 _ => ?_⟩
      have h5 : ∀ k : Nat, k ≤ last → has kvs5 k = true := fun k hk => fm.all (S := fun g => has kvs5 g = true) hb (fun x hx e => c5 x hx (.inl e)) (fun x hx e => c5 x hx (.inr e)) k hk
      have h0' : (valV kvs5 (Sum.inl (0 : Int) : Key)).isSome = true := h5 0 (Nat.zero_le _)
      refine ⟨d5, _, rfl, DGet.k (k := Sum.inl (0 : Int)) e5, _, rfl, iteF' (by rw [h0']; rfl) ?_⟩
      exact ⟨_, rfl, s3.trans s5⟩
    · rintro σ H3 ⟨v2, rfl, s3⟩
      exact q H3 (s1.trans (s2.trans s3))
theorem ok_needF (Z : Fs K mg) : FnOk P w K mg base CX0 3 Z.fF Z.dF ["thing"] spNeedF := by
  have GS : FnOk P w K mg base CX0 2 Z.fS Z.dS ["thing"] spStep := ok_step Z.S Z.T Z.N Z.bN Z.mN Z.P Z.bP Z.mP
  have GJ : FnOk P w K mg base CX0 2 Z.fJ Z.dJ ["framing"] spJoined := ok_joined Z
  refine Z.F.ok scNeedF (fun vs H Q E h => ?_) (fun cdv A outer s H vs Q E hr h => ?_)
  · obtain ⟨f, fr, last, rfl, _⟩ := h
    rfl
  · obtain ⟨f, fr, last, rfl, fa, fm, q⟩ := h
    have hu := hu_of hr
    have hu0 : (A.deeper (PyProof.Rows.envOfC "need_framing" (defScope sNeedF) s.heap.objs.size Z.fF cdv)).units < cLine := by omega
    obtain ⟨tm, eM⟩ := Z.ms
    refine ⟨_, pss_cons (ps_if (pw_or (pt_not (pt_val (pe_callB call_isi (by rfl) Z.T.isi PyProof.Rows.boot_isinstance (pa_cons (pv 0) (pa_cons (pe_bltn (v := .ty "tuple") (by rfl) Z.T.tuple (by decide +kernel) rfl) pa_nil)))))
        (pw_or1 (pt_not (pt_chain op_le op_le pe_int (pe_callB call_len_seq (by rfl) Z.T.len PySem.boot_len (pa_cons (pv 0) pa_nil)) (pe_glob (v := .int 16) (by rfl) eM ⟨_, rfl⟩))))).pt
        (pss_one ps_never) pss_nil)
      (pss_cons (ps_for PassesOwn.never rfl (pi_enumT (by rfl) Z.en (pa_cons (pv 0) pa_nil)) (pg_tup rfl (pgs_cons (pg_name (i := 1) scNeedF.nd rfl (Or.inl rfl)) (pgs_cons (pg_name (i := 2) scNeedF.nd rfl (Or.inl rfl)) pgs_nil)))
        (pss_one (ps_if (pw_or (pt_not (pt_val (pe_call GS hr (by rfl) Z.mS Z.S.kp Z.bS .nil pass0 (pa_cons (pv 2) pa_nil))))
          (pw_or1 (pw_and (pt_cmpR op_gt (pv 1) pe_int (nomark _)) (pw_and1 (pt_cmpR (op_le3 hu0) (pv 2) (pe_ix ix_tup (pv 0) (pe_op op_sub (pv 1) pe_int) (fun _ _ => rfl)) (nomark _)))).pt)).pt
          (pss_one ps_never) pss_nil)))
      (pss_cons (ps_if (pt_not (pt_val (pe_call GJ hr (by rfl) Z.mJ Z.J.kp Z.bJ .nil pass0 (pa_cons (pv 0) pa_nil)))) (pss_one ps_never) pss_nil)
      (pss_one (ps_ret (pv 0))))), ?_⟩
    obtain ⟨ts, hf, hl, ht⟩ := id fa
    have l0 := fm.l0
    have l1 := fm.l1
    refine ⟨_, rfl, .ref f, .ty "tuple", .type "tuple", .type "tuple", true, rfl, .ty "tuple", .base (.tup hf), kit_ty (by decide +kernel), true, rfl, iteF ?_⟩
    refine ⟨_, rfl, f, _, rfl, .inr (SqT.of hf), 1, _, rfl, rfl, _, rfl, iteT' (decide_eq_true (by simp; omega)) ⟨_, 16, rfl, rfl, _, rfl, ?_⟩⟩
    refine iteF' (by rw [decide_eq_true (by simp; omega)]; rfl) ?_
    refine ⟨_, rfl, f, _, rfl, SqT.of hf, for_it (walk_enumT (xs := ts.map V.ref)) (fun i σ H' => ∃ v1 v2 : Option V, σ = [some (.ref f), v1, v2] ∧ Same H H')
      ⟨none, none, rfl, fun _ _ e => e⟩ (fun i σ H' _ ⟨_, _, _, z⟩ => SqT.of (z _ _ hf)) ?_ ?_⟩
    · rintro i x σ H1 H2 hi ⟨v1, v2, rfl, s1⟩ ⟨T, xi, xo, rfl, nT, rfl, h1, h2⟩
      cases h1
      obtain ⟨t, y, hy, rfl, e4⟩ := at_step (i := i) hl ht h2
      have s2 := s1.trans (same_upd (o := HO.tup [V.int (i : Nat), V.ref t]) nT)
      refine ⟨T, _, rfl, SqT.of upd_same, rfl, _, _, rfl, _, _, rfl, rfl, ?_⟩
      refine ⟨_, rfl, t, y, rfl, s2 _ _ e4, fm.stp y (List.mem_of_getElem? hy), fun H3 s3 => ⟨_, rfl, iteF ?_⟩⟩
      refine ⟨_, rfl, (i : Int), 0, rfl, rfl, _, rfl, ?_⟩
      refine ite2 (fun z => ?_) (fun z => ?_)
      · have z1 : (0 : Int) < i := of_decide_eq_true z
        obtain ⟨j, rfl⟩ : ∃ j, i = j + 1 := ⟨i - 1, by omega⟩
        have jl : j < fr.length := by
          have := (List.getElem?_eq_some_iff.mp hy).1
          omega
        have jt : j < ts.length := by omega
        have e5 := ht j ts[j] fr[j] (List.getElem?_eq_getElem jt) (List.getElem?_eq_getElem jl)
        have lt : lt3 fr[j] y = true := by
          have h3 := List.pairwise_iff_getElem.mp fm.srt j (j + 1) jl (List.getElem?_eq_some_iff.mp hy).1 (by omega)
          rw [(List.getElem?_eq_some_iff.mp hy).2] at h3
          exact h3
        refine ⟨_, rfl, _, rfl, _, rfl, _, _, rfl, rfl, f, _, (j : Int), V.ref ts[j], rfl, ?_, SqT.of (s3 _ _ (s2 _ _ hf)), atI_nat ?_, t, ts[j], y, fr[j], rfl, rfl, s3 _ _ (s2 _ _ e4), s3 _ _ (s2 _ _ e5), _, rfl, ?_⟩
        · show V.int (((j + 1 : Nat) : Int) - 1) = V.int (j : Int)
          congr 1
          omega
        · rw [List.getElem?_map, List.getElem?_eq_getElem jt]
          rfl
        · refine iteF' (by rw [lt]; rfl) ?_
          exact ⟨_, _, rfl, s2.trans s3⟩
      · refine iteF ?_
        exact ⟨_, _, rfl, s2.trans s3⟩
    · rintro σ H1 ⟨v1, v2, rfl, s1⟩
      refine ⟨_, rfl, f, fr, last, rfl, fa.same s1, fm, fun H2 s2 => ⟨_, rfl, iteF ⟨_, rfl, q H2 (s1.trans s2)⟩⟩⟩
end
end K02

set_option Elab.async false
set_option linter.all false
set_option maxRecDepth 100000
set_option maxHeartbeats 4000000
/-! is_joined of any steps. -/
namespace K02
open PySem L2 L2.EV
/-- g can be reached from b, by one step or more -/
def Rch (fr : List T3) (b g : Int) : Prop := ∀ S : Int → Prop, (∀ x ∈ fr, x.1 = b → S x.2.2) → (∀ x ∈ fr, S x.1 → S x.2.2) → S g
/-- all standings can be reached from 0, and 0 from them -/
def Jnd (fr : List T3) : Prop := ∀ x ∈ fr, (Rch fr 0 x.1 ∧ Rch fr x.1 0) ∧ (Rch fr 0 x.2.2 ∧ Rch fr x.2.2 0)
theorem rch_step {fr : List T3} {b : Int} {x : T3} (hx : x ∈ fr) (h : x.1 = b) : Rch fr b x.2.2 := fun S c0 _ => c0 x hx h
theorem rch_go {fr : List T3} {b : Int} {x : T3} (hx : x ∈ fr) (h : Rch fr b x.1) : Rch fr b x.2.2 := fun S c0 c1 => c1 x hx (h S c0 c1)
/-- what is closed and lies in every closed set is what can be reached -/
theorem rch_iff {fr : List T3} {b : Int} {kvs : List (Key × V)} (c : ∀ x ∈ fr, (x.1 = b ∨ has kvs x.1 = true) → has kvs x.2.2 = true) (s : ∀ g : Int, has kvs g = true → Rch fr b g) (g : Int) : has kvs g = true ↔ Rch fr b g :=
  ⟨s g, fun h => h (fun g => has kvs g = true) (fun x hx e => c x hx (.inl e)) (fun x hx e => c x hx (.inr e))⟩
def spJoinG : Sp := fun vs H Q _ => ∃ (f : Addr) (fr : List T3) (last : Nat), vs = [.ref f] ∧ FrA H f fr ∧ Fb fr last ∧ ∀ (b : Bool) H', Same H H' → (b = true ↔ Jnd fr) → Q (.bl b) H'
section
variable {P : Program} {w : World} {K : PySem.W.Frag} {mg : Str → Option Value} {base : Heap}
theorem ok_joinG (Z : Fs K mg) : FnOk P w K mg base CX0 2 Z.fJ Z.dJ ["framing"] spJoinG := by
  have GL : FnOk P w K mg base CX0 1 Z.fL Z.dL ["framing"] spListed := ok_listed Z.L Z.so
  have GW : FnOk P w K mg base CX0 1 Z.fW Z.dW ["framing", "begin"] spWays := ok_ways Z.W Z.en
  refine Z.J.ok scJoined (fun vs H Q E h => ?_) (fun cdv A outer s H vs Q E hr h => ?_)
  · obtain ⟨f, fr, last, rfl, _⟩ := h
    rfl
  · obtain ⟨f, fr, last, rfl, fa, fm, q⟩ := h
    have hu := hu_of hr
    refine ⟨_, pss_cons (ps_set (i := 1) scJoined.nd rfl (Or.inl rfl) (pe_call GW hr (by rfl) Z.mW Z.W.kp Z.bW .nil pass0 (pa_cons (pv 0) (pa_cons pe_int pa_nil))))
      (pss_cons (ps_for PassesOwn.never rfl (pi_list (pe_call GL hr (by rfl) Z.mL Z.L.kp Z.bL .nil pass0 (pa_cons (pv 0) pa_nil))) (pg_name (i := 2) scJoined.nd rfl (Or.inl rfl))
        (pss_one (ps_if (pw_or (pt_cmp (pc_dnotin hu (pv 2) (pv 1)) (by rfl)) (pw_or1 (pt_cmp (pc_dnotin hu pe_int (pe_call GW hr (by rfl) Z.mW Z.W.kp Z.bW .nil pass0 (pa_cons (pv 0) (pa_cons (pv 2) pa_nil)))) (by rfl)))).pt
          (pss_one (ps_ret pe_bl)) pss_nil)))
      (pss_one (ps_ret pe_bl))), ?_⟩
    refine ⟨_, rfl, f, fr, last, 0, Rch fr ((0 : Nat) : Int), rfl, fa, fm, Nat.zero_le _, (fun x hx e => rch_step hx e), (fun x hx h => rch_go hx h), fun H1 d kvs s1 n1 e1 h1 k1 => ?_⟩
    have R0 := rch_iff h1 k1
    refine ⟨_, rfl, f, fr, last, rfl, fa.same s1, fm, fun H2 p ns s2 n2 e2 l2 k2 a2 b2 => ⟨p, rfl, ⟨_, SqL.of e2⟩, for_it (walk_list (xs := ns.map V.int)) (fun i σ H' => ∃ v2 : Option V, σ = [some (.ref f), some (.ref d), v2] ∧ Same H2 H' ∧ ∀ g ∈ ns.take i, Rch fr 0 g ∧ Rch fr g 0)
      ⟨none, rfl, (fun _ _ e => e), fun g z => by cases z⟩ (fun i σ H' _ ⟨_, _, z, _⟩ => SqL.of (z _ _ e2)) ?_ ?_⟩⟩
    · rintro i x σ H3 H4 hi ⟨v2, rfl, s3, al⟩ ⟨rfl, hx⟩
      obtain ⟨k, hk, hki, rfl⟩ : ∃ k : Int, k ∈ ns ∧ ns[i]? = some k ∧ x = .int k := by
        rw [List.getElem?_map] at hx
        cases e : ns[i]? with
        | none =>
          rw [e] at hx
          cases hx
        | some k =>
          rw [e] at hx
          exact ⟨k, List.mem_of_getElem? e, rfl, (Option.some.inj hx).symm⟩
      obtain ⟨k0, k1'⟩ := k2 k hk
      obtain ⟨b, rfl⟩ := Int.eq_ofNat_of_zero_le k0
      have hb : b ≤ last := by omega
      refine ⟨_, rfl, _, rfl, d, _, rfl, DGet.k (k := Sum.inl (b : Int)) (s3 _ _ (s2 _ _ e1)), _, rfl, ?_⟩
      obtain ⟨y, hy, ek⟩ := b2 _ hk
      have no : ¬ (Rch fr 0 (b : Int) ∧ Rch fr (b : Int) 0) → ¬ Jnd fr := fun n j => n (by
        obtain ⟨j1, j2⟩ := j y hy
        rcases ek with e | e
        · rw [e] at j1
          exact j1
        · rw [e] at j2
          exact j2)
      cases hh : (valV kvs (Sum.inl (b : Int) : Key)).isSome with
      | false =>
        refine iteT (q false _ (s1.trans (s2.trans s3)) ⟨fun z => (nomatch z), fun j => absurd j (no fun k => ?_)⟩)
        have z : has kvs (b : Int) = true := (R0 _).mpr k.1
        have z2 : (valV kvs (Sum.inl (b : Int) : Key)).isSome = true := z
        rw [hh] at z2
        cases z2
      | true =>
        refine iteF ?_
        refine ⟨_, rfl, _, rfl, f, fr, last, b, Rch fr (b : Int), rfl, (fa.same s1).same (s2.trans s3), fm, hb, (fun x hx e => rch_step hx e), (fun x hx h => rch_go hx h), fun H5 d5 kvs5 s5 n5 e5 h5 k5 => ?_⟩
        have R5 := rch_iff h5 k5
        refine ⟨d5, _, rfl, DGet.k (k := Sum.inl (0 : Int)) e5, _, rfl, ?_⟩
        cases h6 : (valV kvs5 (Sum.inl (0 : Int) : Key)).isSome with
        | false =>
          refine iteT (q false _ (s1.trans (s2.trans (s3.trans s5))) ⟨fun z => (nomatch z), fun j => absurd j (no fun k => ?_)⟩)
          have z : has kvs5 0 = true := (R5 _).mpr k.2
          have z2 : (valV kvs5 (Sum.inl (0 : Int) : Key)).isSome = true := z
          rw [h6] at z2
          cases z2
        | true =>
          refine iteF ⟨_, rfl, s3.trans s5, fun g hg => ?_⟩
          rw [List.take_succ, hki] at hg
          rcases List.mem_append.mp hg with hg | hg
          · exact al g hg
          · have e9 : g = (b : Int) := by simpa using hg
            rw [e9]
            exact ⟨(R0 _).mp hh, (R5 _).mp h6⟩
    · rintro σ H3 ⟨v2, rfl, s3, al⟩
      have e9 : ns.take (ns.map V.int).length = ns := by rw [List.length_map, List.take_length]
      rw [e9] at al
      exact q true _ (s1.trans (s2.trans s3)) ⟨fun _ x hx => ⟨al _ (a2 x hx).1, al _ (a2 x hx).2⟩, fun _ => rfl⟩
end
end K02

set_option Elab.async false
set_option linter.all false
set_option maxRecDepth 100000
set_option maxHeartbeats 4000000
/-! need_framing of any data. -/
namespace K02
open PySem L2 L2.EV
def itemsD : PyData → List PyData
  | .tuple ds => ds
  | _ => []
def frOf (ds : List PyData) : List T3 := ds.filterMap stpD
/-- the fault of a thing as a framing: none, or what stands in number -/
def FaultIs (d : PyData) (r : Option (Option Int)) : Prop :=
  (isTup d = false ∧ r = some none) ∨ (∃ ds, d = .tuple ds ∧ (ds.length = 0 ∨ 16 < ds.length) ∧ r = some none) ∨
  (∃ ds k, d = .tuple ds ∧ 1 ≤ ds.length ∧ ds.length ≤ 16 ∧ wrgF ds none 0 = some k ∧ r = some (some (k : Int))) ∨
  (∃ ds, d = .tuple ds ∧ 1 ≤ ds.length ∧ ds.length ≤ 16 ∧ wrgF ds none 0 = none ∧ Jnd (frOf ds) ∧ r = none) ∨
  (∃ ds, d = .tuple ds ∧ 1 ≤ ds.length ∧ ds.length ≤ 16 ∧ wrgF ds none 0 = none ∧ ¬ Jnd (frOf ds) ∧ r = some (some (-1)))
theorem fault_is (d : PyData) : ∃ r, FaultIs d r := by
  cases e : isTup d with
  | false => exact ⟨_, .inl ⟨e, rfl⟩⟩
  | true =>
    match d, e with
    | .tuple ds, _ =>
      by_cases c : ds.length = 0 ∨ 16 < ds.length
      · exact ⟨_, .inr (.inl ⟨ds, rfl, c, rfl⟩)⟩
      · cases w : wrgF ds none 0 with
        | some k => exact ⟨_, .inr (.inr (.inl ⟨ds, k, rfl, by omega, by omega, w, rfl⟩))⟩
        | none =>
          by_cases j : Jnd (frOf ds)
          · exact ⟨_, .inr (.inr (.inr (.inl ⟨ds, rfl, by omega, by omega, w, j, rfl⟩)))⟩
          · exact ⟨_, .inr (.inr (.inr (.inr ⟨ds, rfl, by omega, by omega, w, j, rfl⟩)))⟩
def valF : Option Int → V
  | none => .non
  | some i => .int i
abbrev dT (x : T3) : PyData := .tuple [.int x.1, .str x.2.1, .int x.2.2]
/-- no fault: all of them are steps -/
theorem wrg_none : ∀ {ds : List PyData} {last : Option T3} {k : Nat}, wrgF ds last k = none → ds = (frOf ds).map dT ∧ ∀ x ∈ frOf ds, 0 ≤ x.1 ∧ x.1 < 6 ∧ 0 ≤ x.2.2 ∧ x.2.2 < 6
  | [], _, _, _ => ⟨rfl, fun x h => by cases h⟩
  | d :: ds, last, k, h => by
    cases e : stpD d with
    | none =>
      rw [wrgF_none e] at h
      cases h
    | some t =>
      rw [wrgF_some e] at h
      split at h
      · cases h
      · obtain ⟨h1, h2⟩ := wrg_none h
        obtain ⟨h3, h4⟩ := stpD_some e
        have ef : frOf (d :: ds) = t :: frOf ds := by
          unfold frOf
          rw [List.filterMap_cons, e]
        rw [ef]
        refine ⟨?_, fun x hx => ?_⟩
        · rw [List.map_cons, ← h1, h3]
        · rcases List.mem_cons.mp hx with rfl | hx
          · exact h4
          · exact h2 x hx
theorem da_steps {H : Hp} : ∀ {fr : List T3} {xs : List V}, DaAll H xs (fr.map dT) → ∃ ts : List Addr, xs = ts.map V.ref ∧ ts.length = fr.length ∧ ∀ (i : Nat) t x, ts[i]? = some t → fr[i]? = some x → S3 H t x
  | [], _, h => by
    cases h
    exact ⟨[], rfl, rfl, fun i t x h => by cases h⟩
  | y :: fr, _, h => by
    cases h with
    | cons h1 h2 =>
      obtain ⟨ts, rfl, l, a⟩ := da_steps h2
      cases h1 with
      | @tup a0 xs0 _ e all =>
        match xs0, all with
        | _, .cons (.int _) (.cons (.str _) (.cons (.int _) .nil)) =>
          refine ⟨a0 :: ts, rfl, by rw [List.length_cons, List.length_cons, l], fun i t x h1 h2 => ?_⟩
          cases i with
          | zero =>
            cases h1
            cases h2
            exact e
          | succ i => exact a i t x (by simpa using h1) (by simpa using h2)
def spNeedA (C : Addr) : Sp := fun vs H Q E => ∃ (v : V) (d : PyData) (r : Option (Option Int)), vs = [v] ∧ Da H v d ∧ (∀ e ∈ itemsD d, szS e) ∧ FaultIs d r ∧ (r = none → ∀ H', Same H H' → Q v H') ∧ ∀ i, r = some i → Eb C E H (valF i)
section
variable {P : Program} {w : World} {K : PySem.W.Frag} {mg : Str → Option Value} {base : Heap}
theorem ok_needA (Z : Fs K mg) : FnOk P w K mg base (L2.CX P w) 3 Z.fF Z.dF ["thing"] (spNeedA Z.B.C) := by
  have GS : FnOk P w K mg base CX0 2 Z.fS Z.dS ["thing"] spStpD := ok_stpD Z.S Z.T Z.N Z.bN Z.mN Z.P Z.bP Z.mP
  have GJ : FnOk P w K mg base CX0 2 Z.fJ Z.dJ ["framing"] spJoinG := ok_joinG Z
  have GB : FnOk P w K mg base CX0 1 Z.B.f Z.B.d ["self", "number"] (spOne Z.B.C "number") := ok_BadFraming Z.B.F Z.B.T Z.B.I Z.B.n0
  refine Z.F.okX scNeedF (fun vs H Q E h => ?_) (fun cdv A outer s H vs Q E hr h => ?_)
  · obtain ⟨v, d, r, rfl, _⟩ := h
    rfl
  · obtain ⟨v, d, r, rfl, da, szs, ft, qn, qs⟩ := h
    have hu := hu_of hr
    have hu0 : (A.deeper (PyProof.Rows.envOfC "need_framing" (defScope sNeedF) s.heap.objs.size Z.fF cdv)).units < cLine := by omega
    obtain ⟨tm, eM⟩ := Z.ms
    refine ⟨_, pss_cons (ps_if (pw_or (pt_not (pt_val (pe_callB call_isi (by rfl) Z.T.isi PyProof.Rows.boot_isinstance (pa_cons (pv 0) (pa_cons (pe_bltn (v := .ty "tuple") (by rfl) Z.T.tuple (by decide +kernel) rfl) pa_nil)))))
        (pw_or1 (pt_not (pt_chain op_le op_le pe_int (pe_callB call_len_seq (by rfl) Z.T.len PySem.boot_len (pa_cons (pv 0) pa_nil)) (pe_glob (v := .int 16) (by rfl) eM ⟨_, rfl⟩))))).pt
        (pss_one (ps_raise rfl (takes_of rfl rfl rfl rfl) (pmk_own3 rfl (pe_new Z.B.T Z.B.iC Z.B.tI GB hr (kb_pos Z.B.b rfl) pass0 (by rfl) Z.B.m (pa_cons pe_non pa_nil))))) pss_nil)
      (pss_cons (ps_for (passes_of rfl) rfl (pi_enumT (by rfl) Z.en (pa_cons (pv 0) pa_nil)) (pg_tup rfl (pgs_cons (pg_name (i := 1) scNeedF.nd rfl (Or.inl rfl)) (pgs_cons (pg_name (i := 2) scNeedF.nd rfl (Or.inl rfl)) pgs_nil)))
        (pss_one (ps_if (pw_or (pt_not (pt_val (pe_call GS hr (by rfl) Z.mS Z.S.kp Z.bS .nil pass0 (pa_cons (pv 2) pa_nil))))
          (pw_or1 (pw_and (pt_cmpR op_gt (pv 1) pe_int (nomark _)) (pw_and1 (pt_cmpR (op_le3 hu0) (pv 2) (pe_ix ix_tup (pv 0) (pe_op op_sub (pv 1) pe_int) (fun _ _ => rfl)) (nomark _)))).pt)).pt
          (pss_one (ps_raise rfl (takes_of rfl rfl rfl rfl) (pmk_own3 rfl (pe_new Z.B.T Z.B.iC Z.B.tI GB hr (kb_pos Z.B.b rfl) pass0 (by rfl) Z.B.m (pa_cons (pv 1) pa_nil))))) pss_nil)))
      (pss_cons (ps_if (pt_not (pt_val (pe_call GJ hr (by rfl) Z.mJ Z.J.kp Z.bJ .nil pass0 (pa_cons (pv 0) pa_nil)))) (pss_one (ps_raise rfl (takes_of rfl rfl rfl rfl) (pmk_own3 rfl (pe_new Z.B.T Z.B.iC Z.B.tI GB hr (kb_pos Z.B.b rfl) pass0 (by rfl) Z.B.m (pa_cons (pe_un un_neg pe_int) pa_nil))))) pss_nil)
      (pss_one (ps_ret (pv 0))))), ?_⟩
    -- the raise, from any state that came so far
    have fin : ∀ {H1 : Hp} {a : Addr} {r : V} (s1 : Same H H1) (na : H1 a = none) (qe : Eb Z.B.C E H r) (dx : Addr), upd H1 a (exo a Z.B.C none) dx = none → dx ≠ a →
        ∃ (a0 C d : Addr) (fs : List (Str × V)), V.ref a = .ref a0 ∧ (upd (upd (upd H1 a (exo a Z.B.C none)) dx (exd dx [("number", r)])) a (exo a Z.B.C (some dx))) a0 = some (exo a0 C (some d)) ∧ d ≠ a0 ∧
          (upd (upd (upd H1 a (exo a Z.B.C none)) dx (exd dx [("number", r)])) a (exo a Z.B.C (some dx))) d = some (exd d fs) ∧ Fr0 H a0 ∧
          Raises (cxOf (L2.CX P w) P w K mg base ["thing", "number", "step"] "need_framing" (defScope sNeedF) Z.fF cdv A outer s H E) (.ref C) ∧
          E (.ref C) (some d) (upd (delH (upd (upd (upd H1 a (exo a Z.B.C none)) dx (exd dx [("number", r)])) a (exo a Z.B.C (some dx))) a0) d (.xd fs)) := by
      intro H1 a r s1 na qe dx hn ne
      obtain ⟨b1, b2, b3⟩ := bad_heap (x := r) na hn ne
      exact ⟨a, Z.B.C, dx, _, rfl, b1, ne, b2, fr0_none (same_none s1 na), raises_own Z.B.su Z.B.ty, qe _ dx (s1.trans b3) upd_same⟩
    rcases ft with ⟨c, rfl⟩ | ⟨ds, rfl, c, rfl⟩ | ft
    · have q := qs _ rfl
      obtain ⟨t, ty, kt, _, _⟩ := da.ty (K := K)
      rw [c] at kt
      refine ⟨_, rfl, v, .ty "tuple", t, .type "tuple", false, rfl, .ty "tuple", ty, kt, false, rfl, iteT ?_⟩
      exact ⟨rfl, rfl, (by decide), fun a na => ⟨a, .non, rfl, upd_same, fun dx hn ne => ⟨rfl, fin (Same.refl H) na q dx hn ne⟩⟩⟩
    · have q := qs _ rfl
      cases da with
      | @tup a xs _ e all =>
        have ln := all.len
        refine ⟨_, rfl, .ref a, .ty "tuple", .type "tuple", .type "tuple", true, rfl, .ty "tuple", .base (.tup e), kit_ty (by decide +kernel), true, rfl, iteF ?_⟩
        refine ⟨_, rfl, a, _, rfl, .inr (SqT.of e), 1, _, rfl, rfl, _, rfl, ?_⟩
        by_cases c0 : ds.length = 0
        · refine iteF' (decide_eq_false (by omega)) ⟨_, rfl, iteT ?_⟩
          exact ⟨rfl, rfl, (by decide), fun a na => ⟨a, .non, rfl, upd_same, fun dx hn ne => ⟨rfl, fin (Same.refl H) na q dx hn ne⟩⟩⟩
        · refine iteT' (decide_eq_true (by omega)) ⟨_, 16, rfl, rfl, _, rfl, iteT' (by rw [decide_eq_false (by omega)]; rfl) ?_⟩
          exact ⟨rfl, rfl, (by decide), fun a na => ⟨a, .non, rfl, upd_same, fun dx hn ne => ⟨rfl, fin (Same.refl H) na q dx hn ne⟩⟩⟩
    · obtain ⟨ds, ed, d1, l16⟩ : ∃ ds, d = .tuple ds ∧ 1 ≤ ds.length ∧ ds.length ≤ 16 := by
        rcases ft with ⟨ds, k, e, a, b, _⟩ | ⟨ds, e, a, b, _⟩ | ⟨ds, e, a, b, _⟩ <;> exact ⟨ds, e, a, b⟩
      subst ed
      have qr : ∀ i : Nat, wrgF ds none 0 = some i → Eb Z.B.C E H (.int (i : Int)) := fun i e => by
        rcases ft with ⟨ds', k, ed, _, _, e', er⟩ | ⟨ds', ed, _, _, e', _⟩ | ⟨ds', ed, _, _, e', _⟩
        · cases ed
          rw [e] at e'
          cases e'
          exact qs _ er
        · cases ed
          rw [e] at e'
          cases e'
        · cases ed
          rw [e] at e'
          cases e'
      have qj : wrgF ds none 0 = none → (Jnd (frOf ds) → ∀ H', Same H H' → Q v H') ∧ (¬ Jnd (frOf ds) → Eb Z.B.C E H (.int (-1))) := fun e => by
        rcases ft with ⟨ds', k, ed, _, _, e', er⟩ | ⟨ds', ed, _, _, e', j, er⟩ | ⟨ds', ed, _, _, e', j, er⟩
        · cases ed
          rw [e] at e'
          cases e'
        · cases ed
          exact ⟨fun _ => qn er, fun n => absurd j n⟩
        · cases ed
          exact ⟨fun n => absurd n j, fun _ => qs _ er⟩
      clear ft qn qs
      have szs : ∀ e ∈ ds, szS e := szs
      cases da with
      | @tup a xs _ ha all =>
      refine ⟨_, rfl, .ref a, .ty "tuple", .type "tuple", .type "tuple", true, rfl, .ty "tuple", .base (.tup ha), kit_ty (by decide +kernel), true, rfl, iteF ?_⟩
      have ln := all.len
      refine ⟨_, rfl, a, _, rfl, .inr (SqT.of ha), 1, _, rfl, rfl, _, rfl, ?_⟩
      refine iteT' (decide_eq_true (by omega)) ⟨_, 16, rfl, rfl, _, rfl, iteF' (by rw [decide_eq_true (by omega)]; rfl) ?_⟩
      refine ⟨_, rfl, a, _, rfl, SqT.of ha, for_it (walk_enumT (xs := xs)) (fun i σ H' => ∃ (v1 v2 : Option V) (last : Option T3), σ = [some (.ref a), v1, v2] ∧ Same H H' ∧
          wrgF ds none 0 = wrgF (ds.drop i) last i ∧ (i = 0 → last = none) ∧ ∀ j, i = j + 1 → ∃ d t, ds[j]? = some d ∧ stpD d = some t ∧ last = some t)
        ⟨none, none, none, rfl, Same.refl H, rfl, fun _ => rfl, fun j hj => by omega⟩ (fun i σ H' _ ⟨_, _, _, _, z, _⟩ => SqT.of (z _ _ ha)) ?_ ?_⟩
      · rintro i x σ H1 H2 hi ⟨v1, v2, last, rfl, s1, inv, l0, l1⟩ ⟨T, xi, xo, rfl, nT, rfl, g1, g2⟩
        cases g1
        obtain ⟨d, hd, dv⟩ := all.at_ g2
        rw [drop_at hd] at inv
        have s2 := s1.trans (same_upd (o := HO.tup [V.int (i : Nat), xo]) nT)
        have dv2 := Da.same s2 _ _ dv
        refine ⟨T, _, rfl, SqT.of upd_same, rfl, _, _, rfl, _, _, rfl, rfl, ?_⟩
        refine ⟨_, rfl, xo, d, rfl, dv2, szs d (List.mem_of_getElem? hd), fun H3 s3 => ⟨_, rfl, ?_⟩⟩
        have s23 := s2.trans s3
        cases ed : stpD d with
        | none =>
          rw [wrgF_none ed] at inv
          exact iteT ⟨_, rfl, rfl, rfl, (by show 1 ≤ 1000; decide), fun a na => ⟨a, .int (i : Nat), rfl, upd_same, fun dx hn ne => ⟨rfl, fin s23 na (qr i inv) dx hn ne⟩⟩⟩
        | some t =>
          rw [wrgF_some ed] at inv
          refine iteF ?_
          have goOn : lb3 last t = false → ∃ (v1' v2' : Option V) (last' : Option T3), [some (V.ref a), some (V.int (i : Nat)), some xo] = [some (.ref a), v1', v2'] ∧
              wrgF ds none 0 = wrgF (ds.drop (i + 1)) last' (i + 1) ∧ (i + 1 = 0 → last' = none) ∧ ∀ j, i + 1 = j + 1 → ∃ d t, ds[j]? = some d ∧ stpD d = some t ∧ last' = some t := fun z => by
            rw [z, if_neg (by simp)] at inv
            exact ⟨_, _, _, rfl, inv, fun h => by omega, fun j h => by
              obtain rfl : i = j := by omega
              exact ⟨d, t, hd, ed, rfl⟩⟩
          refine ⟨_, rfl, (i : Int), 0, rfl, rfl, _, rfl, ?_⟩
          refine ite2 (fun z => ?_) (fun z => ?_)
          · have z1 : (0 : Int) < i := of_decide_eq_true z
            obtain ⟨j, rfl⟩ : ∃ j, i = j + 1 := ⟨i - 1, by omega⟩
            obtain ⟨dp, tp, hp1, hp2, rfl⟩ := l1 j rfl
            obtain ⟨vp, hvp, dvp⟩ := all.at' hp1
            obtain ⟨a1, rfl, ha1⟩ := stp_at (Da.same s3 _ _ dv2) ed
            obtain ⟨a2, rfl, ha2⟩ := stp_at (Da.same s23 _ _ dvp) hp2
            refine ⟨_, rfl, _, rfl, _, rfl, _, _, rfl, rfl, a, _, (j : Int), V.ref a2, rfl, ?_, SqT.of (s23 _ _ ha), atI_nat hvp, a1, a2, t, tp, rfl, rfl, ha1, ha2, _, rfl, ?_⟩
            · show V.int (((j + 1 : Nat) : Int) - 1) = V.int (j : Int)
              congr 1
              omega
            cases eb2 : lt3 tp t with
            | true =>
              obtain ⟨w1, w2, w3, w4, w5⟩ := goOn (by show (!lt3 tp t) = false; rw [eb2]; rfl)
              exact iteF ⟨w1, w2, w3, w4, s23, w5⟩
            | false =>
              rw [show lb3 (some tp) t = !lt3 tp t from rfl, eb2, if_pos (show (!false) = true from rfl)] at inv
              exact iteT ⟨_, rfl, rfl, rfl, (by show 1 ≤ 1000; decide), fun a na => ⟨a, .int ((j + 1 : Nat) : Nat), rfl, upd_same, fun dx hn ne => ⟨rfl, fin s23 na (qr _ inv) dx hn ne⟩⟩⟩
          · have i0 : i = 0 := by
              have : ¬ (0 : Int) < i := fun k => z (decide_eq_true k)
              omega
            have l9 := l0 i0
            subst l9
            obtain ⟨w1, w2, w3, w4, w5⟩ := goOn rfl
            exact iteF ⟨w1, w2, w3, w4, s23, w5⟩
      · rintro σ H1 ⟨v1, v2, last, rfl, s1, inv, _, _⟩
        rw [all.len, List.drop_length] at inv
        have inv : wrgF ds none 0 = none := inv
        obtain ⟨ej, bd⟩ := wrg_none inv
        obtain ⟨qy, qno⟩ := qj inv
        have fa : FrA H a (frOf ds) := by
          rw [ej] at all
          obtain ⟨ts, rfl, l, c⟩ := da_steps all
          exact ⟨ts, ha, l, c⟩
        have fl : (frOf ds).length ≤ 16 := by
          have := congrArg List.length ej
          rw [List.length_map] at this
          omega
        have fb : Fb (frOf ds) 5 := ⟨fl, fun x hx => by obtain ⟨b1, b2, b3, b4⟩ := bd x hx; exact ⟨b1, by omega, b3, by omega⟩, by decide⟩
        refine ⟨_, rfl, a, frOf ds, 5, rfl, fa.same s1, fb, fun b H2 s2 hb => ⟨_, rfl, ?_⟩⟩
        have s12 := s1.trans s2
        cases b with
        | true => exact iteF ⟨_, rfl, qy (hb.mp rfl) _ s12⟩
        | false => exact iteT ⟨1, rfl, rfl, rfl, (by show 1 ≤ 1000; decide), fun a na => ⟨a, .int (-1), rfl, upd_same, fun dx hn ne => ⟨rfl, fin s12 na (qno fun j => by cases hb.mpr j) dx hn ne⟩⟩⟩
end
end K02

set_option Elab.async false
set_option linter.all false
set_option maxRecDepth 100000
set_option maxHeartbeats 4000000
/-! The law's own look at a word: _law_is_piece. -/
namespace K02
open PySem L2 L2.EV
abbrev sLP : Stmt := top 21
abbrev sIsW : Stmt := top 20
theorem take_one {α : Type} {es : List α} {i : Nat} {e : α} (h : es[i]? = some e) : es.take (i + 1) = es.take i ++ [e] := by
  rw [List.take_succ, h]
  rfl
def stOk (d : PyData) : Prop := ∀ p, d = .str p → p.length ≤ 6000 ∧ PyData.strOk p = true
def spLP : Sp := fun vs H Q _ => ∃ (v : V) (d : PyData), vs = [v] ∧ Da H v d ∧ stOk d ∧ ∀ H', Same H H' → Q (.bl (pcD d)) H'
theorem suf_eq {p : Str} {M : List Nat} {y : Nat} (e : sl p = M ++ [y]) : sl (Txt.removesuffix p ";") = if y = 59 then M else M ++ [y] := by
  rw [StrLaws.removesuffix_eq, at_end]
  have ln : p.length = M.length + 1 := by rw [len_sl, e]; simp
  have d : decide (0 + (";" : Str).length ≤ p.length) = true := decide_eq_true (by rw [semi1]; omega)
  rw [d, Bool.true_and, e]
  by_cases h : y = 59
  · subst h
    simp only [List.length_append, List.length_cons, List.length_nil, if_pos]
    rw [if_pos (by simp)]
    show ((sl p).drop 0).take (p.length - (";" : Str).length - 0) = M
    rw [e, semi1, ln]
    simp
  · rw [if_neg h, if_neg (by simp [h])]
    exact e
section
variable {P : Program} {w : World} {K : PySem.W.Frag} {mg : Str → Option Value} {base : Heap}
theorem scLP : FnScope ["thing", "body", "sign"] ["thing"] (defScope sLP) := ⟨rfl, rfl, rfl, by decide +kernel, rfl, by decide +kernel, by decide +kernel⟩
theorem same_push {H H' : Hp} {D : Addr} {o : HO} (hD : H D = none) (s : Same H H') : Same H (upd H' D o) := fun b x z => by
  rw [upd_ne (ne_of_none z hD)]
  exact s _ _ z
theorem eqv_nilD (ds : List PyData) : PyData.eqv (.list ds) (.list []) = ds.isEmpty := by
  cases ds <;> simp [PyData.eqv, PyData.eqvAll]
theorem da_strs {H : Hp} : ∀ l : List Nat, DaAll H (l.map fun c => V.str ⟨#[c]⟩) (l.map fun c => PyData.str ⟨#[c]⟩)
  | [] => .nil
  | _ :: l => .cons (.str _) (da_strs l)
theorem shaped_strs (l : List Nat) (h : ∀ c ∈ l, c < 0x110000) : SeqAt.shaped (.list (l.map fun c => PyData.str ⟨#[c]⟩)) = true := by
  have all : ∀ l : List Nat, (∀ c ∈ l, c < 0x110000) → PyData.canLayAll0 (l.map fun c => PyData.str ⟨#[c]⟩) = true ∧ PyData.depthAll (l.map fun c => PyData.str ⟨#[c]⟩) = 0 := by
    intro l
    induction l with
    | nil => exact fun _ => ⟨by simp [PyData.canLayAll0], by simp [PyData.depthAll]⟩
    | cons x l ih =>
      intro h
      obtain ⟨a, b⟩ := ih fun c hc => h c (List.mem_cons_of_mem _ hc)
      have so : PyData.strOk ⟨#[x]⟩ = true := by
        unfold PyData.strOk
        rw [← Array.all_toList, List.all_eq_true]
        intro c hc
        have : c = x := by simpa using hc
        rw [this]
        exact decide_eq_true (h x (List.mem_cons_self ..))
      refine ⟨by simp only [List.map_cons, PyData.canLayAll0, PyData.canLay0, a, so, Bool.and_self], ?_⟩
      simp only [List.map_cons, PyData.depthAll, PyData.depth, b]
      omega
  obtain ⟨a, b⟩ := all l h
  show (PyData.canLay0 (.list _) && decide (PyData.depth (.list _) ≤ 64)) = true
  have h1 : PyData.canLay0 (.list (l.map fun c => PyData.str ⟨#[c]⟩)) = true := by
    simp only [PyData.canLay0]
    exact a
  have h2 : PyData.depth (.list (l.map fun c => PyData.str ⟨#[c]⟩)) ≤ 64 := by
    simp only [PyData.depth, b]
    omega
  rw [h1, decide_eq_true h2]
  rfl
theorem all_filt (l : List Nat) : (l.filter fun c => !decide (c ∈ sgs)).isEmpty = l.all (fun c => decide (c ∈ sgs)) := by
  induction l with
  | nil => rfl
  | cons x l ih =>
    rw [List.filter_cons, List.all_cons, ← ih]
    cases decide (x ∈ sgs) <;> rfl
theorem ok_lp {f : Addr} {fd : FuncData} (F : Fun K "_law_is_piece" "_law_is_piece" sLP f fd) (T : TxtF mg) : FnOk P w K mg base CX0 1 f fd ["thing"] spLP := by
  refine F.ok scLP (fun vs H Q E h => ?_) (fun cdv A outer s H vs Q E hr h => ?_)
  · obtain ⟨v, d, rfl, _⟩ := h
    rfl
  · obtain ⟨v, d, rfl, da, st, q⟩ := h
    have hu64 := hr.units
    refine ⟨_, pss_cons (ps_if (pw_or (pt_not (pt_val (pe_callB call_isi (by rfl) T.isi PyProof.Rows.boot_isinstance (pa_cons (pv 0) (pa_cons (pe_bltn (v := .ty "str") (by rfl) T.str (by decide +kernel) rfl) pa_nil))))) (pw_or1 (pt_not (pt_chain op_le op_le pe_int (pe_callB call_len_str (by rfl) T.len PySem.boot_len (pa_cons (pv 0) pa_nil)) pe_int)))).pt (pss_one (ps_ret pe_bl)) pss_nil)
      (pss_cons (ps_set (i := 1) scLP.nd rfl (Or.inl rfl) (pe_ifExp (pt_cmpR op_eq (pe_ix ix_str (pv 0) (pe_un un_neg pe_int) (fun _ _ => rfl)) pe_str (nomark _)) (pe_slice sl_str (pv 0) po_none (po_some (pe_un un_neg pe_int))) (pv 0)))
      (pss_one (ps_ret (pe_cmpR (op_eqD hu64) (pe_lc (own := [("sign", 2)]) (g := gName 2) (te := tVar 2) rfl scLP.nd (pi_str (pv 1))
        (blkOk_by (N := ["thing", "body", "sign"]) (sc := defScope sLP) (by decide +kernel))
        (fun _ _ _ _ _ => pg_name (i := 2) scLP.nd rfl (Or.inl rfl)) (fun _ _ _ _ _ => pts_one (pt_cmpR op_notIn_sign (pv 2) pe_str (by rfl))) (fun _ _ _ _ _ => pv 2)) (pe_lst pa_nil) (nomark _))))), ?_⟩
    obtain ⟨t, ty, kt⟩ := da.tyS (K := K)
    refine ⟨_, rfl, v, .ty "str", t, .type "str", isSt d, rfl, .ty "str", ty, kt, isSt d, rfl, ?_⟩
    match d, da, q with
    | .none, .non, q => exact iteT (q H (Same.refl H))
    | .bool _, .bl _, q => exact iteT (q H (Same.refl H))
    | .int _, .int _, q => exact iteT (q H (Same.refl H))
    | .list _, .lst _ _, q => exact iteT (q H (Same.refl H))
    | .tuple _, .tup _ _, q => exact iteT (q H (Same.refl H))
    | .str p, .str _, q =>
    obtain ⟨lp, so⟩ := st p rfl
    have q : ∀ H', Same H H' → Q (.bl (pcS p)) H' := q
    refine iteF ?_
    refine ⟨_, rfl, p, rfl, by rw [sizeLine_eq]; omega, 1, p.length, rfl, rfl, _, rfl, ?_⟩
    have bad : ¬ (1 ≤ p.length ∧ p.length ≤ 8) → pcS p = false := fun h => by
      unfold pcS
      by_cases a : 1 ≤ p.length
      · have b : ¬ p.length ≤ 8 := fun b => h ⟨a, b⟩
        rw [decide_eq_false b, Bool.and_false, Bool.false_and]
      · rw [decide_eq_false a, Bool.false_and, Bool.false_and]
    have q0 := q H (Same.refl H)
    by_cases a : 1 ≤ p.length
    · refine iteT' (decide_eq_true (by omega)) ⟨p.length, 8, rfl, rfl, _, rfl, ?_⟩
      by_cases b : p.length ≤ 8
      · refine iteF' (by rw [decide_eq_true (by omega)]; rfl) ?_
        have ne : sl p ≠ [] := fun z => by
          rw [len_sl, z] at a
          exact absurd a (by decide)
        obtain ⟨M, y, e⟩ := SrtO.snoc_of (l := sl p) (List.length_pos_iff.mpr ne)
        have se := suf_eq e
        have ln : p.length = M.length + 1 := by rw [len_sl, e]; simp
        have ai : atI p.cps.toList (-1) = some y := by
          show atI (sl p) (-1) = some y
          have ix : ixN (M ++ [y]).length (-1) = some M.length := by
            have l : (M ++ [y]).length = M.length + 1 := by simp
            rw [l]
            unfold ixN
            rw [if_neg (by decide), if_pos (by omega)]
            congr 1
            omega
          rw [e]
          unfold atI
          rw [ix]
          simp
        refine ⟨_, rfl, 1, rfl, p, -1, y, rfl, rfl, by rw [sizeLine_eq]; omega, ai, rfl, _, rfl, ?_⟩
        have sgE : (V.str ⟨#[y]⟩ = V.str ";") ↔ y = 59 := by
          have e1 : (";" : Str) = ⟨#[59]⟩ := by decide +kernel
          rw [e1]
          constructor
          · intro h
            have h2 := congrArg sl (V.str.inj h)
            simpa using h2
          · intro h
            rw [h]
        have val : ∀ bd : Str, sl bd = sl (Txt.removesuffix p ";") → pcS p = (sl bd).all (fun c => decide (c ∈ sgs)) := fun bd h => by
          unfold pcS
          rw [decide_eq_true a, decide_eq_true b, h]
          rfl
        have sub : ∀ c ∈ sl (Txt.removesuffix p ";"), c < 0x110000 := fun c hc => by
          have hs := so
          unfold PyData.strOk at hs
          rw [← Array.all_toList, List.all_eq_true] at hs
          refine of_decide_eq_true (hs c ?_)
          show c ∈ sl p
          rw [e]
          rw [se] at hc
          split at hc
          · exact List.mem_append_left _ hc
          · exact hc
        by_cases hy : y = 59
        · refine iteT' (decide_eq_true (sgE.mpr hy)) ?_
          have hb : sl (cutS p none (some (-1))) = sl (Txt.removesuffix p ";") := by
            rw [se, if_pos hy]
            unfold cutS
            show ((sl p).drop _).take _ = M
            have i1 : HT.sIx p.length 0 none = 0 := rfl
            have i2 : HT.sIx p.length p.length (some (-1)) = M.length := by
              show (if (-1 : Int) < 0 then ((-1 : Int) + (p.length : Int)).toNat else min (-1 : Int).toNat p.length) = M.length
              rw [if_pos (by decide), ln]
              omega
            rw [i1, i2, e]
            simp
          have lb : (cutS p none (some (-1))).length ≤ 6000 := by
            rw [len_sl, hb, se, if_pos hy]
            omega
          refine ⟨_, rfl, 1, rfl, -1, rfl, p, rfl, by rw [sizeLine_eq]; omega, ?_⟩
          generalize cutS p none (some (-1)) = bd at hb lb ⊢
          have vp := val bd hb
          refine ⟨_, rfl, _, rfl, fun D hD => ?_⟩
          refine lc_it walk_str (fun i H' => H' D = some (.lst ((((sl bd).take i).filter fun c => !decide (c ∈ sgs)).map fun c => V.str ⟨#[c]⟩)) ∧ Same H H') ⟨upd_same, same_upd hD⟩ (fun _ _ _ _ => trivial) ?_ ?_
          · rintro i x H1 H2 hi ⟨hl, kp⟩ ⟨rfl, c, hc, rfl⟩
            have hc : (sl bd)[i]? = some c := by simpa using hc
            refine ⟨rfl, _, rfl, c, _, rfl, rfl, _, rfl, ?_⟩
            have tk : ((sl bd).take (i + 1)) = ((sl bd).take i) ++ [c] := take_one hc
            rw [tk, List.filter_append]
            by_cases m : c ∈ sgs
            · refine iteF' (by show (!decide (c ∈ sgs)) = false; rw [decide_eq_true m]; rfl) ⟨?_, kp⟩
              rw [show [c].filter (fun c => !decide (c ∈ sgs)) = [] by simp [m], List.append_nil]
              exact hl
            · refine iteT' (by show (!decide (c ∈ sgs)) = true; rw [decide_eq_false m]; rfl) ⟨_, rfl, _, hl, ?_, ?_, same_push hD kp⟩
              · have f1 := List.length_filter_le (fun c => !decide (c ∈ sgs)) ((sl bd).take i)
                rw [List.length_take] at f1
                rw [List.length_map, sizeLine_eq]
                have : (sl bd).length ≤ 6000 := by rw [← len_sl]; exact lb
                omega
              · rw [show [c].filter (fun c => !decide (c ∈ sgs)) = [c] by simp [m], List.map_append]
                exact upd_same
          · rintro H1 ⟨hl, kp⟩
            have tl : (sl bd).take (bd).cps.size = sl bd := List.take_of_length_le (by show _ ≤ (bd).length; rw [len_sl]; exact Nat.le_refl _)
            rw [tl] at hl
            refine ⟨(by decide), fun p9 h9 => ?_⟩
            have u9 := same_upd (o := HO.lst []) h9
            have ok : ∀ c ∈ (sl bd).filter (fun c => !decide (c ∈ sgs)), c < 0x110000 := fun c hc => sub c (by rw [← hb]; exact (List.mem_filter.mp hc).1)
            refine ⟨.list (((sl bd).filter fun c => !decide (c ∈ sgs)).map fun c => .str ⟨#[c]⟩), .list [], Da.dp _ _ (.lst (u9 _ _ hl) (da_strs _)), Da.dp _ _ (.lst upd_same .nil), shaped_strs _ ok, (by decide +kernel), ?_⟩
            have z := q _ (kp.trans u9)
            rw [vp, ← all_filt] at z
            rw [eqv_nilD, List.isEmpty_map]
            exact z
        · refine iteF' (decide_eq_false (fun h => hy (sgE.mp h))) ⟨_, rfl, ?_⟩
          have hb : sl p = sl (Txt.removesuffix p ";") := by rw [se, if_neg hy, e]
          have lb : p.length ≤ 6000 := lp
          have vp := val p hb
          refine ⟨_, rfl, _, rfl, fun D hD => ?_⟩
          refine lc_it walk_str (fun i H' => H' D = some (.lst ((((sl p).take i).filter fun c => !decide (c ∈ sgs)).map fun c => V.str ⟨#[c]⟩)) ∧ Same H H') ⟨upd_same, same_upd hD⟩ (fun _ _ _ _ => trivial) ?_ ?_
          · rintro i x H1 H2 hi ⟨hl, kp⟩ ⟨rfl, c, hc, rfl⟩
            have hc : (sl p)[i]? = some c := by simpa using hc
            refine ⟨rfl, _, rfl, c, _, rfl, rfl, _, rfl, ?_⟩
            have tk : ((sl p).take (i + 1)) = ((sl p).take i) ++ [c] := take_one hc
            rw [tk, List.filter_append]
            by_cases m : c ∈ sgs
            · refine iteF' (by show (!decide (c ∈ sgs)) = false; rw [decide_eq_true m]; rfl) ⟨?_, kp⟩
              rw [show [c].filter (fun c => !decide (c ∈ sgs)) = [] by simp [m], List.append_nil]
              exact hl
            · refine iteT' (by show (!decide (c ∈ sgs)) = true; rw [decide_eq_false m]; rfl) ⟨_, rfl, _, hl, ?_, ?_, same_push hD kp⟩
              · have f1 := List.length_filter_le (fun c => !decide (c ∈ sgs)) ((sl p).take i)
                rw [List.length_take] at f1
                rw [List.length_map, sizeLine_eq]
                have : (sl p).length ≤ 6000 := by rw [← len_sl]; exact lb
                omega
              · rw [show [c].filter (fun c => !decide (c ∈ sgs)) = [c] by simp [m], List.map_append]
                exact upd_same
          · rintro H1 ⟨hl, kp⟩
            have tl : (sl p).take (p).cps.size = sl p := List.take_of_length_le (by show _ ≤ (p).length; rw [len_sl]; exact Nat.le_refl _)
            rw [tl] at hl
            refine ⟨(by decide), fun p9 h9 => ?_⟩
            have u9 := same_upd (o := HO.lst []) h9
            have ok : ∀ c ∈ (sl p).filter (fun c => !decide (c ∈ sgs)), c < 0x110000 := fun c hc => sub c (by rw [← hb]; exact (List.mem_filter.mp hc).1)
            refine ⟨.list (((sl p).filter fun c => !decide (c ∈ sgs)).map fun c => .str ⟨#[c]⟩), .list [], Da.dp _ _ (.lst (u9 _ _ hl) (da_strs _)), Da.dp _ _ (.lst upd_same .nil), shaped_strs _ ok, (by decide +kernel), ?_⟩
            have z := q _ (kp.trans u9)
            rw [vp, ← all_filt] at z
            rw [eqv_nilD, List.isEmpty_map]
            exact z
      · refine iteT' (by rw [decide_eq_false (by omega)]; rfl) ?_
        rw [bad (fun k => b k.2)] at q0
        exact q0
    · refine iteF' (decide_eq_false (by omega)) ?_
      rw [bad (fun k => a k.1)] at q0
      exact ⟨_, rfl, iteT' rfl q0⟩
end
end K02

set_option Elab.async false
set_option linter.all false
set_option maxRecDepth 100000
set_option maxHeartbeats 4000000
/-! Drawn pieces. -/
namespace K02
open PySem L2 L2.EV
abbrev sPiece : Stmt := top 17
/-- the draws have gone on from H0, where they were at k0 with the list l0: all other things are as they were -/
structure Dr (H0 H : Hp) (m c l0 l : Addr) (k : Int) : Prop where
  at_ : MAt H m c l k
  hl : l = l0 ∨ H0 l = none
  kp : ∀ b o, H0 b = some o → b ≠ m → b ≠ l0 → H b = some o
theorem Dr.refl {H : Hp} {m c l : Addr} {k : Int} (M : MAt H m c l k) : Dr H H m c l l k := ⟨M, .inl rfl, fun b o e _ _ => e⟩
theorem Dr.same {H0 H H' : Hp} {m c l0 l : Addr} {k : Int} (d : Dr H0 H m c l0 l k) (s : Same H H') : Dr H0 H' m c l0 l k :=
  ⟨d.at_.same s, d.hl, fun b o e h1 h2 => s _ _ (d.kp b o e h1 h2)⟩
/-- one part behind another -/
theorem Dr.trans {H0 H H' : Hp} {m c l0 l l' : Addr} {k k' : Int} (d : Dr H0 H m c l0 l k) (e : Dr H H' m c l l' k') : Dr H0 H' m c l0 l' k' := by
  refine ⟨e.at_, ?_, fun b o e1 h1 h2 => e.kp b o (d.kp b o e1 h1 h2) h1 ?_⟩
  · rcases e.hl with h | h
    · rw [h]
      exact d.hl
    · by_cases z : l' = l0
      · exact .inl z
      · refine .inr ?_
        cases q : H0 l' with
        | none => rfl
        | some o =>
          have ne : l' ≠ m := (ne_of_none d.at_.hm h).symm
          rw [d.kp l' o q ne z] at h
          cases h
  · rcases d.hl with hl | hl
    · rw [hl]
      exact h2
    · exact ne_of_none e1 hl
/-- a thing of another kind than the draws' own stays -/
theorem Dr.tup {H0 H : Hp} {m c l0 l : Addr} {k k0 : Int} {a : Addr} {xs : List V} (d : Dr H0 H m c l0 l k) (M : MAt H0 m c l0 k0) (e : H0 a = some (.tup xs)) : H a = some (.tup xs) := by
  obtain ⟨ls, hl, _⟩ := M.hl
  exact d.kp a _ e (ne_of e M.hm (fun z => by cases z)) (ne_of e hl (fun z => by cases z))
theorem Dr.fr {H0 H : Hp} {m c l0 l : Addr} {k k0 : Int} {f : Addr} {fr : List T3} (d : Dr H0 H m c l0 l k) (M : MAt H0 m c l0 k0) (h : FrA H0 f fr) : FrA H f fr := by
  obtain ⟨ts, e, l, cc⟩ := h
  exact ⟨ts, d.tup M e, l, fun i t x h1 h2 => d.tup M (cc i t x h1 h2)⟩
/-- another list stays, and is none of the draws' own -/
theorem Dr.lst {H H' : Hp} {m c l l' : Addr} {k k0 : Int} {a : Addr} {xs : List V} (d : Dr H H' m c l l' k) (M : MAt H m c l k0) (e : H a = some (.lst xs)) (ne : a ≠ l) : H' a = some (.lst xs) ∧ a ≠ l' := by
  refine ⟨d.kp a _ e (ne_of e M.hm (fun z => by cases z)) ne, ?_⟩
  rcases d.hl with z | z
  · rw [z]
    exact ne
  · exact ne_of_none e z
/-- a draw, as spNext wants it -/
theorem dr_next {H : Hp} {m c l : Addr} {k n : Int} {Q : VK} {E : XK} (M : MAt H m c l k) (hn : 0 < n) (hn1 : n < 1000000) (hk : k < 900000)
    (q : ∀ (r : Int) (H' : Hp) (l' : Addr) (k' : Int), 0 ≤ r → r < n → k' ≤ k + 1 → Dr H H' m c l l' k' → Q (.int r) H') : spNext [.ref m, .int n] H Q E :=
  ⟨m, c, l, k, n, rfl, M, hn, hn1, by omega, fun r H' l' k' r0 r1 kk M' fl kp => q r H' l' k' r0 r1 kk ⟨M', fl, kp⟩⟩
theorem MAt.l_some {H : Hp} {m c l : Addr} {k : Int} (M : MAt H m c l k) {a : Addr} (h : H a = none) : a ≠ l := by
  obtain ⟨ls, hl, _⟩ := M.hl
  exact (ne_of_none hl h).symm
theorem sl_app (a b : Str) : sl (a ++ b) = sl a ++ sl b := by
  show (Str.append a b).cps.toList = _
  simp [Str.append]
theorem sl_empty : sl ("" : Str) = [] := by decide +kernel
theorem sl_join : ∀ ys : List Str, sl (Str.join "" ys) = (ys.map sl).flatten
  | [] => rfl
  | [x] => by
    show sl x = _
    simp
  | x :: y :: r => by
    show sl (x ++ "" ++ Str.join "" (y :: r)) = _
    rw [sl_app, sl_app, sl_empty, sl_join (y :: r)]
    simp
theorem txt_join (ys : List Str) : sl (Txt.join "" ys) = (ys.map sl).flatten := by
  have z := PyProof.Rows.join_plain_closes "" ys
  rw [eq_of_beq z, sl_join]
theorem flat_one {ys : List Str} (h : ∀ y ∈ ys, ∃ c, y = ⟨#[c]⟩ ∧ c ∈ sgs) : (∀ c, c ∈ (ys.map sl).flatten → c ∈ sgs) ∧ ((ys.map sl).flatten).length = ys.length := by
  induction ys with
  | nil => exact ⟨fun c h => (by cases h), rfl⟩
  | cons y ys ih =>
    obtain ⟨c, e, hc⟩ := h y (List.mem_cons_self ..)
    have e2 : sl y = [c] := by rw [e]
    obtain ⟨h1, h2⟩ := ih fun y hy => h y (List.mem_cons_of_mem _ hy)
    rw [List.map_cons, List.flatten_cons, e2]
    refine ⟨fun d hd => ?_, ?_⟩
    · rcases List.mem_append.mp hd with hd | hd
      · have e : d = c := by simpa using hd
        rw [e]
        exact hc
      · exact h1 d hd
    · rw [List.length_append, h2, List.length_cons, List.length_cons, List.length_nil]
      omega
theorem MAt.upd {H : Hp} {m c l D : Addr} {k : Int} {o : HO} (M : MAt H m c l k) (hm : D ≠ m) (hc : D ≠ c) (hl : D ≠ l) : MAt (L2.upd H D o) m c l k := by
  obtain ⟨h1, ⟨cs, h2, h3⟩, ⟨ls0, h4, h5⟩, h6, h7, h8⟩ := M
  exact ⟨by rw [upd_ne hm.symm]; exact h1, ⟨cs, by rw [upd_ne hc.symm]; exact h2, h3⟩, ⟨ls0, by rw [upd_ne hl.symm]; exact h4, h5⟩, h6, h7, h8⟩
theorem MAt.c_some {H : Hp} {m c l : Addr} {k : Int} (M : MAt H m c l k) {a : Addr} (h : H a = none) : a ≠ c := by
  obtain ⟨ls, hl, _⟩ := M.hc
  exact (ne_of_none hl h).symm
def spPiece : Sp := fun vs H Q _ => ∃ (m c l : Addr) (k : Int) (last : Bool), vs = [.ref m, .bl last] ∧ MAt H m c l k ∧ k < 800000 ∧
  ∀ (p : Str) (H' : Hp) (l' : Addr) (k' : Int), Pc p last → k' ≤ k + 20 → Dr H H' m c l l' k' → Q (.str p) H'
section
variable {P : Program} {w : World} {K : PySem.W.Frag} {mg : Str → Option Value} {base : Heap}
structure Ls (K : PySem.W.Frag) (mg : Str → Option Value) where
  f1 : Addr
  d1 : FuncData
  N : Fun K "_law_next" "_law_next" sNext f1 d1
  bN : Binds K d1 ["m", "many"] []
  mN : mg "_law_next" = some (.ref f1)
  T : TxtD mg
  ra : mg "range" = none
  f2 : Addr
  d2 : FuncData
  P : Fun K "_law_piece" "_law_piece" sPiece f2 d2
  bP : Binds K d2 ["m", "is_end"] []
  mP : mg "_law_piece" = some (.ref f2)
theorem scPiece : FnScope ["m", "is_end", "many", "k", "found"] ["m", "is_end"] (defScope sPiece) := ⟨rfl, rfl, rfl, by decide +kernel, rfl, by decide +kernel, by decide +kernel⟩
theorem aba : sl ("ab@a" : Str) = [97, 98, 64, 97] := by decide +kernel
theorem aba_sgs : ∀ c ∈ sl ("ab@a" : Str), c ∈ sgs := by decide +kernel
theorem sum_one : ∀ zs : List Str, (∀ y ∈ zs, ∃ c, y = ⟨#[c]⟩ ∧ c ∈ sgs) → (zs.map (·.length)).sum = zs.length := by
  intro zs
  induction zs with
  | nil => exact fun _ => rfl
  | cons y zs ih =>
    intro h
    obtain ⟨c, e, _⟩ := h y (List.mem_cons_self ..)
    have e2 : y.length = 1 := by rw [e]; rfl
    rw [List.map_cons, List.sum_cons, e2, ih fun y hy => h y (List.mem_cons_of_mem _ hy), List.length_cons]
    omega
theorem ok_piece (L : Ls K mg) : FnOk P w K mg base CX0 2 L.f2 L.d2 ["m", "is_end"] spPiece := by
  have GX : FnOk P w K mg base CX0 1 L.f1 L.d1 ["m", "many"] spNext := ok_next L.N L.T
  refine L.P.ok scPiece (fun vs H Q E h => ?_) (fun cdv A outer s H vs Q E hr h => ?_)
  · obtain ⟨m, c, l, k, last, rfl, _⟩ := h
    rfl
  · obtain ⟨m, c, l, k, last, rfl, M, hk, q⟩ := h
    refine ⟨_, pss_cons (ps_set (i := 2) scPiece.nd rfl (Or.inl rfl) (pe_ifExp (pt_val (pv 1)) (pe_call GX hr (by rfl) L.mN L.N.kp L.bN .nil pass0 (pa_cons (pv 0) (pa_cons pe_int pa_nil))) (pe_op op_add pe_int (pe_call GX hr (by rfl) L.mN L.N.kp L.bN .nil pass0 (pa_cons (pv 0) (pa_cons pe_int pa_nil))))))
      (pss_cons (ps_set (i := 4) scPiece.nd rfl (Or.inl rfl) (pe_m1 PySem.F.slot_str_join PySem.F.type_str_join mt_join pe_str (pe_lc (own := [("k", 3)]) (g := gName 3) rfl scPiece.nd (pi_range1 (by rfl) L.ra (pa_cons (pv 2) pa_nil))
        (blkOk_by (N := ["m", "is_end", "many", "k", "found"]) (sc := defScope sPiece) (by decide +kernel))
        (fun _ _ _ _ _ => pg_name (i := 3) scPiece.nd rfl (Or.inl rfl)) (fun _ _ _ _ _ => pts_nil)
        (fun _ _ _ _ _ => pe_ix ix_str pe_str (pe_call GX hr (by rfl) L.mN L.N.kp L.bN .nil pass0 (pa_cons (pv 0) (pa_cons pe_int pa_nil))) (fun _ _ => rfl)))))
      (pss_one (ps_ret (pe_ifExp (pt_val (pv 1)) (pe_op op_add_str (pv 4) pe_str) (pv 4))))), ?_⟩
    have fin : ∀ (H4 : Hp) (l4 : Addr) (k4 : Int) (ys : List Str), (∀ y ∈ ys, ∃ c, y = ⟨#[c]⟩ ∧ c ∈ sgs) → ys.length ≤ 2 → (last = false → 1 ≤ ys.length) → k4 ≤ k + 20 → Dr H H4 m c l l4 k4 →
        (last = false → Q (.str (Txt.join "" ys)) H4) ∧ (last = true → Q (.str (Txt.join "" ys ++ ";")) H4) := by
      intro H4 l4 k4 ys hy l2 l1 kk d4
      obtain ⟨w1, w2⟩ := flat_one hy
      rw [← txt_join] at w1 w2
      refine ⟨fun e => ?_, fun e => ?_⟩
      · subst e
        exact q _ H4 l4 k4 ⟨sl (Txt.join "" ys), by rw [if_neg (by simp), List.append_nil], by rw [w2, if_neg (by simp)]; omega, w1, fun _ e => by have := l1 rfl; rw [e] at w2; simp at w2; omega⟩ kk d4
      · subst e
        exact q _ H4 l4 k4 ⟨sl (Txt.join "" ys), by rw [sl_app, semi, if_pos rfl], by rw [w2, if_pos rfl]; omega, w1, fun e => by cases e⟩ kk d4
    have z0 : ("" : Str).length = 0 := by decide +kernel
    have l4 : ("ab@a" : Str).length = 4 := by decide +kernel
    cases last
    · refine ⟨_, rfl, _, rfl, iteF ⟨_, rfl, m, c, l, k, 2, rfl, M, by decide, by decide, by omega, fun r1 H1 l1 k1 a1 b1 g1 N1 f1 q1 => ⟨1, r1, rfl, rfl, ?_⟩⟩⟩
      have d1 : Dr H H1 m c l l1 k1 := ⟨N1, f1, q1⟩
      refine ⟨⟨_, rfl⟩, _, rfl, 1 + r1, rfl, by omega, by omega, fun D hD => ?_⟩
      have D4 := d1.same (same_upd (o := HO.lst []) hD)
      have nD := d1.at_.l_some hD
      refine lc_it walk_range (fun i H' => ∃ (ys : List Str) (l' : Addr) (k' : Int), H' D = some (.lst (ys.map V.str)) ∧ D ≠ l' ∧ ys.length = i ∧ (∀ y ∈ ys, ∃ c, y = ⟨#[c]⟩ ∧ c ∈ sgs) ∧ k' ≤ k1 + i ∧ MAt H' m c l' k' ∧ (l' = l ∨ H l' = none) ∧ ∀ b o, H b = some o → b ≠ m → b ≠ l → H' b = some o)
        ⟨[], l1, k1, upd_same, nD, rfl, (fun y h => by cases h), by omega, D4.at_, D4.hl, D4.kp⟩ (fun _ _ _ _ => trivial) ?_ ?_
      · rintro i x H4 H5 hi ⟨ys, l5, k4, hl, nl, ly, hy, kk, M4, f4, q4⟩ ⟨rfl, rfl⟩
        have d0 : Dr H H5 m c l l5 k4 := ⟨M4, f4, q4⟩
        have hi7 : i < 2 := by omega
        refine ⟨rfl, _, rfl, m, c, l5, k4, 4, rfl, M4, by decide, by decide, by omega, fun r5 H6 l6 k6 a6 b6 g6 N6 f6 q6 => ?_⟩
        have d6 : Dr H5 H6 m c l5 l6 k6 := ⟨N6, f6, q6⟩
        obtain ⟨e6, n6⟩ := d6.lst M4 hl nl
        obtain ⟨j, rfl⟩ := Int.eq_ofNat_of_zero_le a6
        have js : j < (sl ("ab@a" : Str)).length := by rw [← len_sl, l4]; omega
        refine ⟨"ab@a", (j : Int), (sl ("ab@a" : Str))[j], rfl, rfl, by rw [l4, sizeLine_eq]; omega, atI_nat (List.getElem?_eq_getElem js), _, e6, ?_, ?_⟩
        · rw [List.length_map, ly, sizeLine_eq]
          omega
        · have dk := d0.trans d6
          have hDm : D ≠ m := ne_of e6 N6.hm (fun z => by cases z)
          refine ⟨ys ++ [⟨#[(sl ("ab@a" : Str))[j]]⟩], l6, k6, ?_, n6, by rw [List.length_append, ly]; rfl, fun y h => ?_, by omega, ?_, dk.hl, fun b o z h1 h2 => ?_⟩
          · rw [List.map_append]
            exact upd_same
          · rcases List.mem_append.mp h with h | h
            · exact hy y h
            · exact ⟨_, by simpa using h, aba_sgs _ (List.getElem_mem js)⟩
          · exact N6.upd hDm (d1.at_.c_some hD) n6
          · rw [upd_ne (ne_of_none (d1.kp b o z h1 h2) hD)]
            exact dk.kp b o z h1 h2
      · rintro H4 ⟨ys, l5, k4, hl, nl, ly, hy, kk, M4, f4, q4⟩
        have d4 : Dr H H4 m c l l5 k4 := ⟨M4, f4, q4⟩
        have fn := fin H4 l5 k4 ys hy (by omega) (fun h => by first | omega | cases h) (by omega) d4
        refine ⟨"", D, ys, rfl, rfl, .inl (SqL.of hl), by rw [sum_one ys hy, z0]; omega, ?_⟩
        exact ⟨_, rfl, _, rfl, iteF ⟨_, rfl, fn.1 rfl⟩⟩
    · refine ⟨_, rfl, _, rfl, iteT ⟨_, rfl, m, c, l, k, 3, rfl, M, by decide, by decide, by omega, fun r1 H1 l1 k1 a1 b1 g1 N1 f1 q1 => ?_⟩⟩
      have d1 : Dr H H1 m c l l1 k1 := ⟨N1, f1, q1⟩
      refine ⟨⟨_, rfl⟩, _, rfl, r1, rfl, by omega, by omega, fun D hD => ?_⟩
      have D4 := d1.same (same_upd (o := HO.lst []) hD)
      have nD := d1.at_.l_some hD
      refine lc_it walk_range (fun i H' => ∃ (ys : List Str) (l' : Addr) (k' : Int), H' D = some (.lst (ys.map V.str)) ∧ D ≠ l' ∧ ys.length = i ∧ (∀ y ∈ ys, ∃ c, y = ⟨#[c]⟩ ∧ c ∈ sgs) ∧ k' ≤ k1 + i ∧ MAt H' m c l' k' ∧ (l' = l ∨ H l' = none) ∧ ∀ b o, H b = some o → b ≠ m → b ≠ l → H' b = some o)
        ⟨[], l1, k1, upd_same, nD, rfl, (fun y h => by cases h), by omega, D4.at_, D4.hl, D4.kp⟩ (fun _ _ _ _ => trivial) ?_ ?_
      · rintro i x H4 H5 hi ⟨ys, l5, k4, hl, nl, ly, hy, kk, M4, f4, q4⟩ ⟨rfl, rfl⟩
        have d0 : Dr H H5 m c l l5 k4 := ⟨M4, f4, q4⟩
        have hi7 : i < 2 := by omega
        refine ⟨rfl, _, rfl, m, c, l5, k4, 4, rfl, M4, by decide, by decide, by omega, fun r5 H6 l6 k6 a6 b6 g6 N6 f6 q6 => ?_⟩
        have d6 : Dr H5 H6 m c l5 l6 k6 := ⟨N6, f6, q6⟩
        obtain ⟨e6, n6⟩ := d6.lst M4 hl nl
        obtain ⟨j, rfl⟩ := Int.eq_ofNat_of_zero_le a6
        have js : j < (sl ("ab@a" : Str)).length := by rw [← len_sl, l4]; omega
        refine ⟨"ab@a", (j : Int), (sl ("ab@a" : Str))[j], rfl, rfl, by rw [l4, sizeLine_eq]; omega, atI_nat (List.getElem?_eq_getElem js), _, e6, ?_, ?_⟩
        · rw [List.length_map, ly, sizeLine_eq]
          omega
        · have dk := d0.trans d6
          have hDm : D ≠ m := ne_of e6 N6.hm (fun z => by cases z)
          refine ⟨ys ++ [⟨#[(sl ("ab@a" : Str))[j]]⟩], l6, k6, ?_, n6, by rw [List.length_append, ly]; rfl, fun y h => ?_, by omega, ?_, dk.hl, fun b o z h1 h2 => ?_⟩
          · rw [List.map_append]
            exact upd_same
          · rcases List.mem_append.mp h with h | h
            · exact hy y h
            · exact ⟨_, by simpa using h, aba_sgs _ (List.getElem_mem js)⟩
          · exact N6.upd hDm (d1.at_.c_some hD) n6
          · rw [upd_ne (ne_of_none (d1.kp b o z h1 h2) hD)]
            exact dk.kp b o z h1 h2
      · rintro H4 ⟨ys, l5, k4, hl, nl, ly, hy, kk, M4, f4, q4⟩
        have d4 : Dr H H4 m c l l5 k4 := ⟨M4, f4, q4⟩
        have fn := fin H4 l5 k4 ys hy (by omega) (fun h => by first | omega | cases h) (by omega) d4
        refine ⟨"", D, ys, rfl, rfl, .inl (SqL.of hl), by rw [sum_one ys hy, z0]; omega, ?_⟩
        refine ⟨_, rfl, _, rfl, iteT ⟨_, rfl, _, ";", rfl, rfl, ?_, fn.2 rfl⟩⟩
        have z := (flat_one hy).2
        rw [← txt_join] at z
        rw [semi1, sizeLine_eq, len_sl]
        omega
end
end K02

set_option Elab.async false
set_option linter.all false
set_option maxRecDepth 100000
set_option maxHeartbeats 4000000
/-! Sets of tuples whose items are of any kind of keys: what is asked of such a tuple; the rows of a set. -/
namespace SX
open PySem PySem.Spec PyProof.Rows L2
/-- what is carried by value is of no class, and whether it hashes by value is told at once -/
theorem plain_cls {v : Value} (h : carriedByValue v = true) (n : Nat) : ofAClassStatement n v = pure false := by
  cases v with
  | ref a => simp [carriedByValue] at h
  | _ => cases n <;> rfl
theorem plain_byv {v : Value} (h : carriedByValue v = true) (n : Nat) : ∃ c : Bool, hashByValue n v = pure c := by
  cases v with
  | ref a => simp [carriedByValue] at h
  | _ => cases n <;> exact ⟨_, rfl⟩
section
variable {prog : Program} {w : World} {I : Type} [DecidableEq I] {knd : KeyKind prog w I} {A : Around} {E : Value → Shared → Prop} {s : Shared}
theorem tup_cls {ks : List I} {x : Addr} {Q : Bool → Shared → Prop} (tx : IsTupleKey knd s.heap ks x) (q : Q false s) : wpAny (model prog w) A (ofAClassStatement 8 (.ref x)) Q E s := by
  have ty := tx.typeIs
  obtain ⟨ob, vs, len, at_, _, dt, its⟩ := tx
  unfold ofAClassStatement
  refine wpAny_bind (wpAny_typeOf ty ?_)
  dsimp only
  rw [show (("tuple" : String) == "tuple") = true by decide]
  simp only [if_true, Bool.not_true, Bool.false_eq_true, if_false]
  first
    | skip
  try refine wpAny_bind (wpAny_pure ?_)
  try simp only [Bool.not_true, Bool.false_eq_true, if_false]
  show wpAny _ _ (seqItems? (.ref x) >>= _) _ _ s
  refine wpAny_bind (wpAny_seqItems at_ dt ?_)
  dsimp only
  refine wpAny_bind ?_
  show wpAny _ _ (forIn vs _ _) _ _ s
  rw [← Array.forIn_toList]
  refine wpAny_forIn_list _ (fun more acc s' => acc.1 = none ∧ s' = s ∧ ∀ v ∈ more, carriedByValue v = true) _ (fun v more acc s' ⟨h1, h2, h3⟩ => ?_) (fun acc s' ⟨h1, h2, _⟩ => ?_) _ _ ⟨rfl, rfl, its.byValue⟩
  · subst h2
    rw [plain_cls (h3 v (List.mem_cons_self ..))]
    refine wpAny_bind (wpAny_pure ?_)
    simp only [Bool.false_eq_true, if_false]
    exact wpAny_pure ⟨rfl, rfl, fun u hu => h3 u (List.mem_cons_of_mem _ hu)⟩
  · obtain ⟨a1, a2⟩ := acc
    subst h2
    simp only at h1
    subst h1
    exact wpAny_pure q
theorem tup_byv {ks : List I} {x : Addr} {Q : Bool → Shared → Prop} (tx : IsTupleKey knd s.heap ks x) (q : ∀ c, Q c s) : wpAny (model prog w) A (hashByValue 8 (.ref x)) Q E s := by
  have ty := tx.typeIs
  obtain ⟨ob, vs, len, at_, _, dt, its⟩ := tx
  unfold hashByValue
  refine wpAny_bind (wpAny_specialOf ty F.slot_tuple_hash.lookup ?_)
  show wpAny _ _ (seqItems? (.ref x) >>= _) _ _ s
  refine wpAny_bind (wpAny_seqItems at_ dt ?_)
  refine wpAny_bind ?_
  show wpAny _ _ (forIn vs _ _) _ _ s
  rw [← Array.forIn_toList]
  refine wpAny_forIn_list _ (fun more acc s' => s' = s ∧ ∀ v ∈ more, carriedByValue v = true) _ (fun v more acc s' ⟨h2, h3⟩ => ?_) (fun acc s' ⟨h2, _⟩ => ?_) _ _ ⟨rfl, its.byValue⟩
  rotate_left
  · obtain ⟨a1, a2⟩ := acc
    subst h2
    cases a1 with
    | none => exact wpAny_pure (q true)
    | some c => exact wpAny_pure (q c)
  subst h2
  obtain ⟨c, ec⟩ := plain_byv (h3 v (List.mem_cons_self ..)) 7
  rw [ec]
  refine wpAny_bind (wpAny_pure ?_)
  cases c with
  | true =>
    simp only [Bool.not_true, Bool.false_eq_true, if_false]
    exact wpAny_pure ⟨rfl, fun u hu => h3 u (List.mem_cons_of_mem _ hu)⟩
  | false =>
    simp only [Bool.not_false, if_true]
    exact wpAny_pure (wpAny_pure (q false))
theorem tup_unseen {ks : List I} {x : Addr} {Q : Bool → Shared → Prop} (tx : IsTupleKey knd s.heap ks x) {vs : List Value} (hv : ∀ v ∈ vs, ∃ (ls : List I) (y : Addr), v = .ref y ∧ IsTupleKey knd s.heap ls y) (q : Q false s) :
    wpAny (model prog w) A (searchCouldBeSeen (.ref x) vs) Q E s := by
  unfold searchCouldBeSeen
  refine wpAny_bind ?_
  refine wpAny_forIn_list _ (fun more acc s' => acc.1 = none ∧ s' = s ∧ ∀ v ∈ more, ∃ (ls : List I) (y : Addr), v = .ref y ∧ IsTupleKey knd s.heap ls y) _ (fun v more acc s' ⟨h1, h2, h3⟩ => ?_) (fun acc s' ⟨h1, h2, _⟩ => ?_) _ _ ⟨rfl, rfl, hv⟩
  · subst h2
    obtain ⟨ls, y, rfl, ty⟩ := h3 v (List.mem_cons_self ..)
    have on : ∀ u ∈ more, ∃ (ls : List I) (y : Addr), u = .ref y ∧ IsTupleKey knd s'.heap ls y := fun u hu => h3 u (List.mem_cons_of_mem _ hu)
    dsimp only
    by_cases c : (x == y || (carriedByValue (.ref x) && carriedByValue (.ref y))) = true
    · exact wp_if_pos c (wpAny_pure ⟨rfl, rfl, on⟩)
    · refine wp_if_neg c (wpAny_bind (wpAny_eqIsQuiet_tuple tx ?_))
      simp only [Bool.not_true, Bool.false_eq_true, if_false]
      refine wpAny_bind (wpAny_eqIsQuiet_tuple ty ?_)
      simp only [Bool.not_true, Bool.false_eq_true, if_false]
      refine wpAny_bind (tup_cls tx ?_)
      simp only [Bool.false_eq_true, if_false]
      refine wpAny_bind (tup_cls ty ?_)
      simp only [Bool.false_eq_true, if_false]
      exact wpAny_pure ⟨rfl, rfl, on⟩
  · obtain ⟨a1, a2⟩ := acc
    subst h2
    simp only at h1
    subst h1
    exact wpAny_pure q
end
end SX

set_option Elab.async false
set_option linter.all false
set_option maxRecDepth 100000
set_option maxHeartbeats 4000000
/-! Sets of tuples of any keys: looking one up. -/
namespace SX
open PySem PySem.Spec PyProof.Rows L2
section
variable {prog : Program} {w : World} {I : Type} [DecidableEq I]
def rws (knd : KeyKind prog w I) (L : List (Addr × List I)) : List (Int × Value) := L.map fun e => (tupleKeyHash knd e.2, Value.ref e.1)
/-- the set at a: its table is right for the hashes of the tuples of L -/
structure Tbl (knd : KeyKind prog w I) (h : Heap) (a : Addr) (L : List (Addr × List I)) (es : Array (Int × Value)) (ep : Nat) (t : SetTable) : Prop where
  obj : ∃ o, h.get? a = some o ∧ o.ExactSet ∧ o.data = .set es ep t
  rw_ : es.toList = rws knd L
  tb : TabOk t (L.map fun e => tupleKeyHash knd e.2)
  dif : (L.map (·.2)).Nodup
  tps : ∀ e ∈ L, IsTupleKey knd h e.2 e.1
  ord : w.params.followText "set-order" = true ∨ t.led = true
  free : L.length * 5 < t.mask * 3
  few : L.length < 64
variable {knd : KeyKind prog w I} {A : Around} {E : Value → Shared → Prop} {s : Shared} {h : Heap} {a : Addr} {L : List (Addr × List I)} {es : Array (Int × Value)} {ep : Nat} {t : SetTable}
theorem Tbl.many (T : Tbl knd h a L es ep t) : es.size = L.length := by
  have e := T.rw_
  rw [← Array.length_toList, e]
  unfold rws
  exact List.length_map ..
theorem Tbl.fits (T : Tbl knd h a L es ep t) : t.fits es.size = true := by
  have z1 := T.tb.sz
  have z2 := T.many
  have z3 := T.free
  rw [List.length_map] at z1
  unfold SetTable.fits SetTable.fill
  rw [T.tb.dm, Bool.and_eq_true, beq_iff_eq, decide_eq_true_eq]
  refine ⟨?_, ?_⟩
  · show t.place.size = es.size
    omega
  · show t.place.size + 0 ≤ t.mask
    omega
theorem Tbl.at_ (T : Tbl knd h a L es ep t) {i : Nat} {e : Addr × List I} (hi : L[i]? = some e) : es[i]? = some (tupleKeyHash knd e.2, Value.ref e.1) := by
  have z : es.toList[i]? = some (tupleKeyHash knd e.2, Value.ref e.1) := by
    rw [T.rw_]
    unfold rws
    rw [List.getElem?_map, hi]
    rfl
  rwa [Array.getElem?_toList] at z
theorem Tbl.still (T : Tbl knd h a L es ep t) : ¬ t.gaveWay = true := by
  have z := mask_odd T.tb.mok
  unfold SetTable.gaveWay
  rw [z]
  decide
theorem nth_dummy {m : Nat} : ∀ (n : Nat) (p : SetTable.Probe), p.dummy = none → (nth m p n).dummy = none
  | 0, _, e => e
  | n + 1, p, e => nth_dummy n (adv m p) (by
    unfold adv
    split
    · exact e
    · exact e)
abbrev begun (t : SetTable) (g : Int) : SetTable.Probe := runAt t.mask (SetTable.bits g % (t.mask + 1)) (SetTable.bits g)
theorem place_row (T : Tbl knd h a L es ep t) {i j : Nat} (hj : t.place.toList[i]? = some j) : ∃ e, L[i]? = some e ∧ e ∈ L := by
  have l1 := (List.getElem?_eq_some_iff.mp hj).1
  have l2 := T.tb.sz
  rw [List.length_map, ← Array.length_toList] at l2
  have l3 : i < L.length := by omega
  exact ⟨L[i], List.getElem?_eq_getElem l3, List.getElem_mem l3⟩
theorem seek {ks : List I} {x : Addr} (T : Tbl knd s.heap a L es ep t) (tx : IsTupleKey knd s.heap ks x) (hu : A.units < cLine) {n : Nat} (n0 : n < 10 * SetTable.turns t.mask) (fr : way t.mask (tupleKeyHash knd ks) n ∉ t.place.toList)
    (fu : ∀ c, c < n → way t.mask (tupleKeyHash knd ks) c ∈ t.place.toList) {Q : SetFound → Shared → Prop} (yes : ks ∈ L.map (·.2) → Q (.there none) s) (no : ks ∉ L.map (·.2) → Q (.free (way t.mask (tupleKeyHash knd ks) n) false) s) :
    ∀ (f c : Nat) (st : Option SetTable.Probe), st.getD (t.probeStart (tupleKeyHash knd ks)) = nth t.mask (begun t (tupleKeyHash knd ks)) c → c ≤ n → n - c < f →
      (∀ (i : Nat) e, L[i]? = some e → e.2 = ks → ∃ d, c ≤ d ∧ d < n ∧ t.place.toList[i]? = some (way t.mask (tupleKeyHash knd ks) d)) →
      wpAny (model prog w) A (setSearchFrom a (.ref x) (tupleKeyHash knd ks) true f st) Q E s := by
  intro f
  induction f with
  | zero =>
    intro c st _ _ z
    omega
  | succ f ih =>
    intro c st hst hc hf hr
    obtain ⟨ob, oa, ox, od⟩ := T.obj
    generalize hg : tupleKeyHash knd ks = g at *
    rw [setSearchFrom_succ]
    refine wpAny_bind (wpAny_setState_of oa od T.fits ?_)
    dsimp only
    refine wp_if_neg T.still ?_
    try refine wpAny_bind (wpAny_pure ?_)
    have mv : ∀ q, nth t.mask (nth t.mask (begun t g) c) q = nth t.mask (begun t g) (c + q) := fun q => (nth_add t.mask c _ q).symm
    have mj : ∀ q, (nth t.mask (nth t.mask (begun t g) c) q).j = way t.mask g (c + q) := fun q => by rw [mv]
    have hash : ∀ (i : Nat) e, L[i]? = some e → (es[i]?.map (·.1)).getD 0 = tupleKeyHash knd e.2 := fun i e hi => by
      rw [T.at_ hi]
      rfl
    have sp := go_spec t T.tb.ris T.tb.dm (fun i => (es[i]?.map (·.1)).getD 0) g (10 * SetTable.turns t.mask) (n - c) (nth t.mask (begun t g) c) (nth_dummy c _ rfl) (by omega)
      (fun q hq => by
        rw [mj]
        exact fu _ (by omega)) (by
        rw [mj, show c + (n - c) = n by omega]
        exact fr)
    rcases sp with ⟨q, i, hq, hi, hh, ho, hp⟩ | ⟨ho, hp⟩
    · have hp2 : t.probe (fun i => (es[i]?.map (·.1)).getD 0) g (st.getD (t.probeStart g)) = some (.candidate (way t.mask g (c + q)) i (nth t.mask (begun t g) (c + (q + 1)))) := by
        rw [hst, ← mj, ← mv]
        exact hp
      rw [hp2]
      dsimp only
      rw [mj] at hi
      obtain ⟨e, he, em⟩ := place_row T hi
      have te := T.tps e em
      have sl : t.slot (way t.mask g (c + q)) = .live i := slot_live T.tb.ris hi
      have main : wpAny (model prog w) A (searchRest a (.ref x) g true f es t (way t.mask g (c + q)) i (nth t.mask (begun t g) (c + (q + 1)))) Q E s := by
        unfold searchRest
        rw [T.at_ he]
        dsimp only
        refine wpAny_bind (wpAny_holding (wpAny_eqBool_tuple hu te tx ?_))
        refine wpAny_bind (wpAny_setState_of oa od T.fits ?_)
        dsimp only
        by_cases same : e.2 = ks
        · exact wp_if_pos (by simp [same]) (wpAny_pure (yes (List.mem_map.mpr ⟨e, em, same⟩)))
        · refine wp_if_neg (by simp [same]) ?_
          try refine wpAny_bind (wpAny_pure ?_)
          rw [sameMem]
          dsimp only
          simp only [if_true, sl, T.at_ he]
          refine wpAny_bind (wpAny_isSame_ref_self (wpAny_bind (wpAny_pure ?_)))
          simp only [if_true]
          refine wp_if_neg (by simp [same]) (ih (c + (q + 1)) _ rfl (by omega) (by omega) fun i0 e0 h0 k0 => ?_)
          obtain ⟨d, d1, d2, d3⟩ := hr i0 e0 h0 k0
          refine ⟨d, ?_, d2, d3⟩
          by_cases lt : d < c + q
          · have z := ho (d - c) i0 (by omega) (by
              rw [mj, show c + (d - c) = d by omega]
              exact d3)
            exact absurd ((hash i0 e0 h0).trans (by rw [k0, hg])) z
          · by_cases gt : c + q < d
            · omega
            · have de : d = c + q := by omega
              rw [de] at d3
              have s0 := slot_live T.tb.ris d3
              rw [sl] at s0
              injection s0 with s0
              rw [← s0, he] at h0
              cases h0
              exact absurd k0 same
      by_cases l : t.led = true
      · refine wp_if_neg (by simp [l]) ?_
        try refine wpAny_bind (wpAny_pure ?_)
        exact main
      · refine wp_if_pos (by simp [l]) (wpAny_bind (tup_unseen tx (fun y hy => ?_) ?_))
        · obtain ⟨r, hr1, hr2⟩ := List.mem_map.mp hy
          have hr3 : r ∈ es ∧ r.1 = g := by simpa using hr1
          have hr4 : r ∈ es.toList := by simpa using hr3.1
          rw [T.rw_] at hr4
          obtain ⟨e2, he2, re⟩ := List.mem_map.mp (show r ∈ L.map fun e => (tupleKeyHash knd e.2, Value.ref e.1) from hr4)
          exact ⟨e2.2, e2.1, by rw [← hr2, ← re], T.tps e2 he2⟩
        · refine wp_if_neg (by decide) ?_
          try refine wpAny_bind (wpAny_pure ?_)
          exact main
    · have hp2 : t.probe (fun i => (es[i]?.map (·.1)).getD 0) g (st.getD (t.probeStart g)) = some (.empty (way t.mask g n) none) := by
        have z := mj (n - c)
        rw [show c + (n - c) = n by omega] at z
        rw [hst, ← z]
        exact hp
      rw [hp2]
      dsimp only
      refine wpAny_pure (no fun hm => ?_)
      obtain ⟨e0, m0, k0⟩ := List.mem_map.mp hm
      obtain ⟨i0, l0, ei⟩ := List.getElem_of_mem m0
      have h0 : L[i0]? = some e0 := by rw [List.getElem?_eq_getElem l0, ei]
      obtain ⟨d, d1, d2, d3⟩ := hr i0 e0 h0 k0
      have z := ho (d - c) i0 (by omega) (by
        rw [mj, show c + (d - c) = d by omega]
        exact d3)
      exact absurd ((hash i0 e0 h0).trans (by rw [k0, hg])) z
/-- looked up as adding does -/
theorem looked {ks : List I} {x : Addr} (T : Tbl knd s.heap a L es ep t) (tx : IsTupleKey knd s.heap ks x) (hu : A.units < cLine) {Q : SetFound → Shared → Prop} (yes : ks ∈ L.map (·.2) → Q (.there none) s)
    (no : ∀ n, ks ∉ L.map (·.2) → way t.mask (tupleKeyHash knd ks) n ∉ t.place.toList → (∀ c, c < n → way t.mask (tupleKeyHash knd ks) c ∈ t.place.toList) → Q (.free (way t.mask (tupleKeyHash knd ks) n) false) s) :
    wpAny (model prog w) A (setSearch a (.ref x) (tupleKeyHash knd ks) true) Q E s := by
  have fre := T.free
  obtain ⟨n, n1, n2, n3⟩ := T.tb.first (by rw [List.length_map]; omega) (tupleKeyHash knd ks)
  have n4 : n < 100000 := by
    have z : SetTable.turns t.mask ≤ 142 := by
      unfold SetTable.turns
      rcases T.tb.mok with e | e | e <;> omega
    omega
  unfold setSearch
  refine seek T tx hu n1 n2 n3 yes (fun m => no n m n2 n3) 100000 0 none rfl (Nat.zero_le _) (by omega) fun i e he ek => ?_
  have hh : (L.map fun e => tupleKeyHash knd e.2)[i]? = some (tupleKeyHash knd ks) := by
    rw [List.getElem?_map, he, ← ek]
    rfl
  have hl : i < t.place.toList.length := by
    have l1 := (List.getElem?_eq_some_iff.mp he).1
    have l2 := T.tb.sz
    rw [List.length_map, ← Array.length_toList] at l2
    omega
  obtain ⟨d, d1, d2⟩ := T.tb.before n2 hh (List.getElem?_eq_getElem hl)
  exact ⟨d, Nat.zero_le _, d1, by rw [List.getElem?_eq_getElem hl, d2]⟩
end
end SX

set_option Elab.async false
set_option linter.all false
set_option maxRecDepth 100000
set_option maxHeartbeats 4000000
/-! Sets of tuples of any keys: putting one in. -/
namespace SX
open PySem PySem.Spec PyProof.Rows L2
section
variable {prog : Program} {w : World} {I : Type} [DecidableEq I] {knd : KeyKind prog w I} {A : Around} {E : Value → Shared → Prop} {s : Shared} {a : Addr} {L : List (Addr × List I)} {es : Array (Int × Value)} {ep : Nat} {t : SetTable}
/-- a tuple stands where no set stands -/
theorem tup_but {h h' : Heap} {ks : List I} {x : Addr} {ob : Obj} (tx : IsTupleKey knd h ks x) (oa : h.get? a = some ob) (od : ob.data = .set es ep t) (sb : Heap.SameBut a h h') : IsTupleKey knd h' ks x := by
  obtain ⟨o2, vs, len, at_, c, dt, its⟩ := tx
  refine ⟨o2, vs, len, (sb.2 x fun e => ?_).trans at_, c, dt, its⟩
  rw [e, oa] at at_
  cases at_
  rw [od] at dt
  cases dt
theorem tup_on {h h' : Heap} {ks : List I} {x : Addr} (tx : IsTupleKey knd h ks x) (k : ∀ b o, h.get? b = some o → h'.get? b = some o) : IsTupleKey knd h' ks x := by
  obtain ⟨o2, vs, len, at_, r⟩ := tx
  exact ⟨o2, vs, len, k _ _ at_, r⟩
/-- which rows come of an order of their places -/
theorem rows_by (hr : es.toList = rws knd L) {order : Array Nat} (pm : order.toList.Perm (List.range L.length)) :
    ∃ M : List (Addr × List I), (order.filterMap (es[·]?)).toList = rws knd M ∧ M.Perm L ∧ (M.map fun e => tupleKeyHash knd e.2) = order.toList.map fun i => (es.map (·.1)).getD i 0 := by
  have here : ∀ i (l : i < L.length), es[i]? = some (tupleKeyHash knd (L[i]).2, Value.ref (L[i]).1) := fun i l => by
    rw [← Array.getElem?_toList, hr]
    unfold rws
    rw [List.getElem?_map, List.getElem?_eq_getElem l]
    rfl
  have go : ∀ is : List Nat, (∀ i ∈ is, i < L.length) → ∃ M : List (Addr × List I), is.filterMap (es[·]?) = rws knd M ∧ is.filterMap (L[·]?) = M ∧ (M.map fun e => tupleKeyHash knd e.2) = is.map fun i => (es.map (·.1)).getD i 0 := by
    intro is
    induction is with
    | nil => exact fun _ => ⟨[], rfl, rfl, rfl⟩
    | cons i is ih =>
      intro lt
      have l := lt i (List.mem_cons_self ..)
      obtain ⟨M, m1, m2, m3⟩ := ih fun j hj => lt j (List.mem_cons_of_mem _ hj)
      have hd : (es.map (·.1)).getD i 0 = tupleKeyHash knd (L[i]).2 := by
        have z : (es.map (·.1))[i]? = some (tupleKeyHash knd (L[i]).2) := by
          rw [Array.getElem?_map, here i l]
          rfl
        simp [Array.getD_eq_getD_getElem?, z]
      exact ⟨L[i] :: M, by rw [List.filterMap_cons_some (here i l), m1]; rfl, by rw [List.filterMap_cons_some (List.getElem?_eq_getElem l), m2], by rw [List.map_cons, List.map_cons, m3, hd]⟩
  obtain ⟨M, m1, m2, m3⟩ := go order.toList fun i hi => List.mem_range.mp (pm.mem_iff.mp hi)
  refine ⟨M, by first | (rw [Array.toList_filterMap]; exact m1) | simpa using m1, ?_, m3⟩
  have all : ∀ n, n ≤ L.length → (List.range n).filterMap (L[·]?) = L.take n := by
    intro n
    induction n with
    | zero => exact fun _ => rfl
    | succ n ih =>
      intro l
      have ln : n < L.length := l
      rw [List.range_succ, List.filterMap_append, ih (by omega), List.take_succ, List.getElem?_eq_getElem ln, List.filterMap_cons_some (List.getElem?_eq_getElem ln)]
      rfl
  have z := pm.filterMap (L[·]?)
  rw [m2, all _ (Nat.le_refl _), List.take_length] at z
  exact z
theorem mid_perm {α : Type} (l : List α) (n : Nat) (x : α) : (l.take n ++ x :: l.drop n).Perm (x :: l) := by
  have z := List.perm_middle (a := x) (l₁ := l.take n) (l₂ := l.drop n)
  rwa [List.take_append_drop] at z
theorem rws_len (M : List (Addr × List I)) : (rws knd M).length = M.length := List.length_map ..
/-- a table that is too full is laid anew -/
theorem laid_anew {ob : Obj} (oa : s.heap.get? a = some ob) (ox : ob.ExactSet) (od : ob.data = .set es ep t) (hr : es.toList = rws knd L) (sz : t.place.size = es.size) (dm : t.dummies = #[]) (fl : es.size ≤ t.mask) (df : (L.map (·.2)).Nodup)
    (tp : ∀ e ∈ L, IsTupleKey knd s.heap e.2 e.1) (ol : w.params.followText "set-order" = true ∨ t.led = true) (fw : L.length < 64) {wish M : Nat} (e1 : SetTable.sizeAbove wish - 1 = M) (mk : MaskOk M) (e2 : SetTable.sizeAbove wish ≤ 128) (e3 : L.length * 5 < M * 3)
    {Q : Unit → Shared → Prop} (q : ∀ h' L' es' ep' t', Heap.SameBut a s.heap h' → Tbl knd h' a L' es' ep' t' → L'.Perm L → Q () { s with heap := h' }) : wpAny (model prog w) A (setRelay a wish) Q E s := by
  have n1 : es.size = L.length := by
    rw [← Array.length_toList, hr, rws_len]
  have ft : t.fits es.size = true := by
    unfold SetTable.fits SetTable.fill
    rw [dm, Bool.and_eq_true, beq_iff_eq, decide_eq_true_eq]
    exact ⟨sz, by show t.place.size + 0 ≤ t.mask; omega⟩
  obtain ⟨t', order, re, pm, tb', em, el, _, _⟩ := relaid_ok t (hs := es.map (·.1)) (wanted := wish) e1 mk (by rw [Array.size_map]; omega)
  rw [Array.size_map, n1] at pm
  obtain ⟨L2, r1, r2, r3⟩ := rows_by hr pm
  rw [← r3] at tb'
  have n2 : (order.filterMap (es[·]?)).size = L.length := by
    rw [← Array.length_toList, r1, rws_len, r2.length_eq]
  rw [setRelay_eq]
  refine wpAny_bind (wpAny_setState_of oa od ft ?_)
  dsimp only
  refine wp_if_neg (by rw [sizeLine_eq]; omega) ?_
  try refine wpAny_bind (wpAny_pure ?_)
  rw [re]
  dsimp only
  refine wpAny_bind (wp_if_neg (by rw [n2, n1]; simp) ?_)
  try refine wpAny_bind (wpAny_pure ?_)
  refine wpAny_pure ?_
  dsimp only
  refine wpAny_storeSet_of oa od ?_ (by rw [n2, sizeLine_eq]; omega)
  have sb : Heap.SameBut a s.heap (s.heap.update a (Obj.putSet (order.filterMap (es[·]?)) t')) := Heap.SameBut.update ..
  refine q _ L2 _ (ep + 1) t' sb ⟨⟨_, store_at oa od, ⟨ox.1, ox.2.1, ox.2.2⟩, rfl⟩, r1, tb', (r2.map (·.2)).nodup_iff.mpr df, fun e he => tup_but (tp e (r2.mem_iff.mp he)) oa od sb, by rw [el]; exact ol, by rw [r2.length_eq, em]; exact e3, by rw [r2.length_eq]; exact fw⟩ r2
/-- one is put in -/
theorem put_in {ks : List I} {x : Addr} (T : Tbl knd s.heap a L es ep t) (tx : IsTupleKey knd s.heap ks x) (hu : A.units < cLine) (fw : L.length + 1 < 64) {Q : Bool → Shared → Prop}
    (q : ∀ c h' L' es' ep' t', Heap.SameBut a s.heap h' → Tbl knd h' a L' es' ep' t' → (ks ∈ L.map (·.2) → L' = L) → (ks ∉ L.map (·.2) → L'.Perm ((x, ks) :: L)) → Q c { s with heap := h' }) :
    wpAny (model prog w) A (setAddHashed a (.ref x) (tupleKeyHash knd ks)) Q E s := by
  obtain ⟨ob, oa, ox, od⟩ := T.obj
  have n1 := T.many
  have fre := T.free
  unfold setAddHashed
  refine wpAny_holding ?_
  rw [show (100000 : Nat) = 99999 + 1 from rfl, setAddHashedIn_succ]
  refine wpAny_bind (wpAny_setState_of oa od T.fits ?_)
  dsimp only
  refine wp_if_neg (by simp [byScan, Value.scannable]) ?_
  try refine wpAny_bind (wpAny_pure ?_)
  refine wpAny_bind (looked T tx hu (fun m => ?_) fun n m nf nb => ?_)
  · dsimp only
    exact wpAny_pure (q false s.heap L es ep t (Heap.SameBut.refl a s.heap) T (fun _ => rfl) fun z => absurd m z)
  · dsimp only
    refine wpAny_bind (wpAny_setState_of oa od T.fits ?_)
    dsimp only
    obtain ⟨p1, p2, p3, p4, p5, _, _, _, p9⟩ := T.tb.put nf nb
    generalize hpt : t.put (way t.mask (tupleKeyHash knd ks) n) = pt at p1 p3 p4 p5 p9 ⊢
    obtain ⟨t1, pl⟩ := pt
    dsimp only at p1 p3 p4 p5 p9 ⊢
    subst p1
    generalize hpl : SetTable.below t.place (way t.mask (tupleKeyHash knd ks) n) = pl at p2 p3 ⊢
    have pm := mid_perm L pl (x, ks)
    have rows : (SetTable.insertAt es pl (tupleKeyHash knd ks, Value.ref x)).toList = rws knd (L.take pl ++ (x, ks) :: L.drop pl) := by
      rw [SetTable.toList_insertAt, T.rw_]
      unfold rws
      rw [List.map_append, List.map_cons, List.map_take, List.map_drop]
    have p3 : TabOk t1 ((L.take pl ++ (x, ks) :: L.drop pl).map fun e => tupleKeyHash knd e.2) := by
      rw [List.map_append, List.map_cons, List.map_take, List.map_drop]
      exact p3
    have n2 : (SetTable.insertAt es pl (tupleKeyHash knd ks, Value.ref x)).size = L.length + 1 := by
      rw [← Array.length_toList, rows, rws_len, pm.length_eq]
      rfl
    generalize SetTable.insertAt es pl (tupleKeyHash knd ks, Value.ref x) = es1 at rows n2 ⊢
    generalize L.take pl ++ (x, ks) :: L.drop pl = L1 at pm p3 rows
    have ln : L1.length = L.length + 1 := pm.length_eq
    have df1 : (L1.map (·.2)).Nodup := (pm.map (·.2)).nodup_iff.mpr (List.nodup_cons.mpr ⟨m, T.dif⟩)
    have rest : ∀ t2 : SetTable, TabOk t2 (L1.map fun e => tupleKeyHash knd e.2) → t2.mask = t.mask → t2.led = t.led → t2.fill = L.length + 1 → wpAny (model prog w) A (do
        storeSet a es1 t2
        if (!false && t2.tooFull) = true then do
          setRelay a (SetTable.grown (es.size + 1))
          pure true
        else pure true) Q E s := by
      intro t2 tb2 em el ef
      have z2 := tb2.sz
      rw [List.length_map, ln] at z2
      have sb : Heap.SameBut a s.heap (s.heap.update a (Obj.putSet es1 t2)) := Heap.SameBut.update ..
      have oa1 := store_at (es' := es1) (t' := t2) oa od
      refine wpAny_bind (wpAny_storeSet_of oa od ?_ (by rw [n2, sizeLine_eq]; omega))
      generalize s.heap.update a (Obj.putSet es1 t2) = h1 at sb oa1 ⊢
      have tps1 : ∀ e ∈ L1, IsTupleKey knd h1 e.2 e.1 := fun e he => by
        rcases List.mem_cons.mp (pm.mem_iff.mp he) with z | z
        · rw [z]
          exact tup_but tx oa od sb
        · exact tup_but (T.tps e z) oa od sb
      have ol : w.params.followText "set-order" = true ∨ t2.led = true := by
        rw [el]
        exact T.ord
      by_cases full : t2.tooFull = true
      · refine wp_if_pos (by simp [full]) ?_
        have fl : (L.length + 1) * 5 ≥ t2.mask * 3 := by
          have z := full
          unfold SetTable.tooFull at z
          rwa [decide_eq_true_eq, ef] at z
        have which : (t.mask = 7 ∧ L.length = 4) ∨ (t.mask = 31 ∧ L.length = 18) := by
          rcases T.tb.mok with e | e | e <;> rw [em, e] at fl <;> rw [e] at fre
          · exact .inl ⟨e, by omega⟩
          · exact .inr ⟨e, by omega⟩
          · omega
        have big : ∀ M, SetTable.sizeAbove (SetTable.grown (es.size + 1)) - 1 = M → MaskOk M → SetTable.sizeAbove (SetTable.grown (es.size + 1)) ≤ 128 → (L.length + 1) * 5 < M * 3 →
            wpAny (model prog w) A (setRelay a (SetTable.grown (es.size + 1)) >>= fun _ => pure true) Q E { s with heap := h1 } := fun M m1 m2 m3 m4 => by
          refine wpAny_bind (laid_anew (s := { s with heap := h1 }) (knd := knd) (L := L1) (es := es1) (t := t2) oa1 ⟨ox.1, ox.2.1, ox.2.2⟩ rfl rows (by rw [z2, n2]) tb2.dm (by rcases which with ⟨e, l⟩ | ⟨e, l⟩ <;> rw [n2, em, e] <;> omega) df1 tps1 ol (by omega) m1 m2 m3 (by rw [ln]; exact m4) fun h2 L2 es2 ep2 t3 sb2 T2 pm2 => ?_)
          exact wpAny_pure (q true h2 L2 es2 ep2 t3 (sb.trans sb2) T2 (fun z => absurd z m) fun _ => pm2.trans pm)
        rcases which with ⟨_, l⟩ | ⟨_, l⟩
        · exact big 31 (by rw [n1, l, size_20]) (.inr (.inl rfl)) (by rw [n1, l, size_20]; decide) (by omega)
        · exact big 127 (by rw [n1, l, size_76]) (.inr (.inr rfl)) (by rw [n1, l, size_76]; decide) (by omega)
      · refine wp_if_neg (by simp [full]) (wpAny_pure (q true h1 L1 es1 (ep + 1) t2 sb ⟨⟨_, oa1, ⟨ox.1, ox.2.1, ox.2.2⟩, rfl⟩, rows, tb2, df1, tps1, ol, ?_, by omega⟩ (fun z => absurd z m) fun _ => pm))
        have z := full
        unfold SetTable.tooFull at z
        rw [decide_eq_true_eq, ef] at z
        rw [ln]
        omega
    have off : TabOk { mask := t1.mask, place := t1.place, dummies := t1.dummies, finger := t1.finger, led := t1.led, moves := t1.moves, plain := false } (L1.map fun e => tupleKeyHash knd e.2) := ⟨p3.ris, p3.dm, p3.sz, p3.mok, p3.bd, p3.reach⟩
    have fi : t1.fill = L.length + 1 := by
      rw [p9, List.length_map]
    by_cases pn : t1.plain = true
    · refine wp_if_pos pn (wpAny_bind (tup_byv tx fun c => ?_))
      cases c with
      | true =>
        simp only [if_true]
        exact rest t1 p3 p4 p5 fi
      | false =>
        simp only [Bool.false_eq_true, if_false]
        exact rest _ off p4 p5 fi
    · refine wp_if_neg pn (wpAny_bind (wpAny_pure ?_))
      simp only [if_true]
      exact rest t1 p3 p4 p5 fi
end
end SX

set_option Elab.async false
set_option linter.all false
set_option maxRecDepth 100000
set_option maxHeartbeats 4000000
/-! Sets of tuples of any keys: set(list). -/
namespace SX
open PySem PySem.Spec PyProof.Rows L2
section
variable {I : Type}
/-- what stands in the set behind so many items of a list -/
structure Sofar (all : List (Addr × List I)) (n : Nat) (L : List (Addr × List I)) : Prop where
  of_ : ∀ e ∈ L, e ∈ all.take n
  has : ∀ e ∈ all.take n, e.2 ∈ L.map (·.2)
  le : L.length ≤ n
theorem Sofar.none_ (all : List (Addr × List I)) : Sofar all 0 [] := ⟨(fun e z => by cases z), (fun e z => by simp at z), Nat.le_refl _⟩
theorem take_more {α : Type} {l : List α} {n : Nat} {x : α} (e : l[n]? = some x) : l.take (n + 1) = l.take n ++ [x] := by
  rw [List.take_succ, e]
  rfl
theorem Sofar.known {all L : List (Addr × List I)} {n : Nat} {x : Addr × List I} (g : Sofar all n L) (e : all[n]? = some x) (m : x.2 ∈ L.map (·.2)) : Sofar all (n + 1) L := by
  refine ⟨fun y hy => ?_, fun y hy => ?_, Nat.le_succ_of_le g.le⟩ <;> rw [take_more e] at *
  · exact List.mem_append_left _ (g.of_ y hy)
  · rcases List.mem_append.mp hy with z | z
    · exact g.has y z
    · cases List.mem_singleton.mp z
      exact m
theorem Sofar.new_ {all L L' : List (Addr × List I)} {n : Nat} {x : Addr × List I} (g : Sofar all n L) (e : all[n]? = some x) (pm : L'.Perm (x :: L)) : Sofar all (n + 1) L' := by
  refine ⟨fun y hy => ?_, fun y hy => ?_, by rw [pm.length_eq]; exact Nat.succ_le_succ g.le⟩ <;> rw [take_more e] at *
  · rcases List.mem_cons.mp (pm.mem_iff.mp hy) with z | z
    · exact List.mem_append_right _ (List.mem_singleton.mpr z)
    · exact List.mem_append_left _ (g.of_ y z)
  · refine (pm.map (·.2)).mem_iff.mpr ?_
    rcases List.mem_append.mp hy with z | z
    · exact List.mem_cons_of_mem _ (g.has y z)
    · cases List.mem_singleton.mp z
      exact List.mem_cons_self ..
end
section
variable {prog : Program} {w : World} {I : Type} [DecidableEq I] {knd : KeyKind prog w I} {A : Around} {E : Value → Shared → Prop} {s : Shared}
theorem Tbl.on {h h' : Heap} {a : Addr} {L : List (Addr × List I)} {es : Array (Int × Value)} {ep : Nat} {t : SetTable} (T : Tbl knd h a L es ep t) (ka : ∀ o, h.get? a = some o → h'.get? a = some o) (tp : ∀ e ∈ L, IsTupleKey knd h' e.2 e.1) : Tbl knd h' a L es ep t := by
  obtain ⟨o, oa, r⟩ := T.obj
  exact ⟨⟨o, ka o oa, r⟩, T.rw_, T.tb, T.dif, tp, T.ord, T.free, T.few⟩
abbrev emptySet (w : World) : Obj := { cls := .type "set", dict := none, data := .set #[] 0 (.fresh 0 0 (!w.params.followText "set-order")) }
theorem tbl_new {h : Heap} {a : Addr} (e : h.get? a = some (emptySet w)) : Tbl knd h a [] #[] 0 (.fresh 0 0 (!w.params.followText "set-order")) := by
  refine ⟨⟨_, e, ⟨rfl, rfl, rfl⟩, rfl⟩, rfl, ⟨List.Pairwise.nil, rfl, rfl, .inl rfl, (fun x z => by cases z), (fun i g j z => by simp at z)⟩, List.nodup_nil, (fun e z => by cases z), ?_, by show 0 * 5 < 7 * 3; decide, by show 0 < 64; decide⟩
  show _ ∨ (!w.params.followText "set-order") = true
  cases w.params.followText "set-order" with
  | true => exact .inl rfl
  | false => exact .inr rfl
theorem fill_loop {J : Addr} {fp wr : List Addr} {G : Array GenState → Array GenState → Prop} {n : Nat} {Y : Nat → Value → Prop} {St : Nat → Shared → Prop} {R : Result → Shared → Prop} (W : WalksS prog w A.in1 J fp wr G n Y St) {S : Addr} (nS : S ∉ fp)
    {all : List (Addr × List I)} (en : n = all.length) (fw : all.length < 64) (val : ∀ i v, Y i v → ∃ e, all[i]? = some e ∧ v = .ref e.1) {h0 : Heap} (tp : ∀ e ∈ all, IsTupleKey knd h0 e.2 e.1) (zS : h0.get? S = none) (zw : ∀ b ∈ wr, h0.get? b = none) (hu : A.in1.units < cLine) :
    ∀ (k i : Nat) (s : Shared), n - i = k → i ≤ n → St i s → (∀ b o, h0.get? b = some o → s.heap.get? b = some o) → (∃ L es ep t, Tbl knd s.heap S L es ep t ∧ Sofar all i L) →
      (∀ s' L es ep t, Moved (S :: wr) G s s' → Tbl knd s'.heap S L es ep t → Sofar all n L → (∀ b o, h0.get? b = some o → s'.heap.get? b = some o) → R (.ok (.ret .none)) s') →
      codeAny (model prog w) A (.builtin "set.update.loop" ⟨[.ref S, .ref J], []⟩) R s := by
  have nw : S ∉ wr := fun z => nS (W.sub _ z)
  have up : ∀ b ∈ wr, b ∈ S :: wr := fun b hb => List.mem_cons_of_mem _ hb
  have old : ∀ {s s' : Shared}, Moved wr G s s' → (∀ b o, h0.get? b = some o → s.heap.get? b = some o) → ∀ b o, h0.get? b = some o → s'.heap.get? b = some o := fun mv k b o e => by
    refine mv.heap b o (fun hb => ?_) (k b o e)
    rw [zw b hb] at e
    cases e
  intro k
  induction k with
  | zero =>
    rintro i s ek il st kp ⟨L, es, ep, t, T, g⟩ r
    obtain rfl : i = n := by omega
    refine codeAny_builtin F.entry_set_update_loop ?_
    rw [Around.under_plainId F.plain_set_update_loop _]
    show wpAny _ A.in1 (pyNext (.ref J) >>= _) _ _ s
    refine wpAny_bind (W.done s _ _ st fun s' mv => ?_)
    show wpAny _ A.in1 (ret Value.none) _ _ s'
    have kp' := old mv kp
    exact wpAny_pure (r s' L es ep t (mv.mono up) (T.on (fun o e => mv.heap S o nw e) fun e he => tup_on (tp e (List.mem_of_mem_take (g.of_ e he))) kp') g kp')
  | succ k ih =>
    rintro i s ek il st kp ⟨L, es, ep, t, T, g⟩ r
    have lt : i < n := by omega
    refine codeAny_builtin F.entry_set_update_loop ?_
    rw [Around.under_plainId F.plain_set_update_loop _]
    show wpAny _ A.in1 (pyNext (.ref J) >>= _) _ _ s
    refine wpAny_bind (W.item i s _ _ lt st fun v s' yv st' mv => ?_)
    obtain ⟨e, he, rfl⟩ := val i v yv
    have kp' := old mv kp
    have T' : Tbl knd s'.heap S L es ep t := T.on (fun o q => mv.heap S o nw q) fun y hy => tup_on (tp y (List.mem_of_mem_take (g.of_ y hy))) kp'
    have te : IsTupleKey knd s'.heap e.2 e.1 := tup_on (tp e (List.mem_of_getElem? he)) kp'
    have gl := g.le
    show wpAny _ A.in1 (holding [Value.ref e.1] (setAdd S (.ref e.1)) >>= _) _ _ s'
    refine wpAny_bind (wpAny_holding ?_)
    unfold setAdd
    refine wpAny_holding (wpAny_bind (wpAny_pyHash_tuple hu te ?_))
    refine put_in (s := { s' with toks := s'.toks + (e.2.length + 1) }) T' te hu (by omega) fun c h' L' es' ep' t' sb T2 c1 c2 => ?_
    have g' : Sofar all (i + 1) L' := by
      by_cases m : e.2 ∈ L.map (·.2)
      · rw [c1 m]
        exact g.known he m
      · exact g.new_ he (c2 m)
    have kp2 : ∀ b o, h0.get? b = some o → h'.get? b = some o := fun b o q => (sb.2 b fun z => by
      rw [z, zS] at q
      cases q).trans (kp' b o q)
    refine wpAny_pure ⟨plainId_quiet F.plain_set_update_loop _, ih (i + 1) _ (by omega) lt (W.frame _ s' _ _ st' (Nat.le_add_right _ _) fun b hb o q => ?_) kp2 ⟨L', es', ep', t', T2, g'⟩ fun s2 L2 es2 ep2 t2 mv2 T3 g3 kp3 => ?_⟩
    · rw [sb.2 b fun z => nS (z ▸ hb)]
      exact q
    · refine r s2 L2 es2 ep2 t2 (Moved.trans W.gtrans ((mv.mono up).then_heap (Nat.le_add_right _ _) fun b o hb q => ?_) mv2) T3 g3 kp3
      rw [sb.2 b fun z => hb (z ▸ List.mem_cons_self ..)]
      exact q
end
end SX

set_option Elab.async false
set_option linter.all false
set_option maxRecDepth 100000
set_option maxHeartbeats 4000000
/-! Sets of tuples of any keys: the call set(list). -/
namespace SX
open PySem PySem.Spec PyProof.Rows L2
section
variable {prog : Program} {w : World} {I : Type} [DecidableEq I] {knd : KeyKind prog w I} {A : Around} {E : Value → Shared → Prop} {s : Shared}
theorem made {l : Addr} {vs : Array Value} {all : List (Addr × List I)} {Q : Value → Shared → Prop} (nh : A.handled = none) (il : s.heap.IsList l vs) (ev : vs.toList = all.map fun e => Value.ref e.1) (tp : ∀ e ∈ all, IsTupleKey knd s.heap e.2 e.1) (fw : all.length < 64)
    (hu : A.units + 3 < cLine) (q : ∀ (h' : Heap) (tk : Nat) L es ep t, Tbl knd h' s.heap.objs.size L es ep t → Sofar all all.length L → (∀ b o, s.heap.get? b = some o → h'.get? b = some o) → Q (.ref s.heap.objs.size) { s with heap := h', toks := tk }) :
    wpAny (model prog w) A (call (.type "set") [.ref l]) Q E s := by
  have n0 : vs.size = all.length := by
    rw [← Array.length_toList, ev, List.length_map]
  obtain ⟨m1, m2, mro⟩ := F.called_set.mro
  have f1 := F.called_set.made
  have f2 := F.called_set.sub
  have f3 := F.called_set.notType
  have f4 := F.called_set.canCreate
  have f5 := F.typeCall_set_1 (.ref l)
  refine wpAny_call (codeAny_of_tree ?_)
  show wpAny _ _ (callAny (.type "set") _) _ _ _
  refine wpAny_pure ⟨Code.quiet_builtin _ (by decide +kernel), codeAny_builtin F.entry_type_call ?_⟩
  rw [Around.under_plain (weight_type_call_type "set" [.ref l] []) rfl]
  repeat any_goals (first | assumption | wp_step)
  refine codeAny_mono (code_set_led1 (.ref l) (E := E) (Q₁ := fun v s1 => v = .ref s.heap.objs.size ∧ s1 = { s with heap := s.heap.push (emptySet w) }) ⟨rfl, rfl⟩) fun fl s1 r1 => ?_
  match fl, r1 with
  | .error e, r1 => exact r1
  | .ok .next, r1 => exact r1.elim
  | .ok .brk, r1 => exact r1.elim
  | .ok .cont, r1 => exact r1.elim
  | .ok (.ret v), r1 =>
    obtain ⟨rfl, rfl⟩ := r1
    have at_ : (s.heap.push (emptySet w)).get? s.heap.objs.size = some (emptySet w) := Heap.get?_push_size _ rfl
    have ty : Shared.TypeIs { s with heap := s.heap.push (emptySet w) } (.ref s.heap.objs.size) "set" := ⟨_, at_, rfl⟩
    have g1 := F.called_set.init.lookup
    have g2 := F.called_set.init.bind (.ref s.heap.objs.size)
    repeat any_goals (first | assumption | wp_step)
    refine codeAny_mono (codeAny_call_builtin (R := wants (fun r s2 => r = .none ∧ ∃ h' tk L es ep t, s2 = { s with heap := h', toks := tk } ∧ Tbl knd h' s.heap.objs.size L es ep t ∧ Sofar all all.length L ∧ (∀ b o, s.heap.get? b = some o → h'.get? b = some o)) E)
      F.called_set.init.plain F.entry_set_init (check_set_init_1 ty ?_)) fun fl2 s2 r2 => ?_
    · obtain ⟨ol, oa, oc, on, od⟩ := il
      obtain ⟨cls0, dict0, data0, slots0⟩ := ol
      simp only at oc od
      subst oc
      subst od
      have oa1 : (s.heap.push (emptySet w)).get? l = some { cls := .type "list", dict := dict0, data := .seq vs on, slots := slots0 } := Heap.get?_push_of_some _ oa
      have t1 := F.sub_list_set
      have t2 := F.sub_list_frozenset
      have t3 : (Value.type "list" == Value.type "dict") = false := by decide
      have il1 : (s.heap.push (emptySet w)).IsList l vs := ⟨_, oa1, rfl, on, rfl⟩
      unfold Builtin.«set.__init__» noKeywords Builtin.Frozenset.updateFrom
      generalize eP : pyIter = PI
      wp_walk
      subst eP
      refine wpAny_pyIter_list il1 (wpAny_bind (wpAny_runValue ?_))
      have lt : l < s.heap.objs.size := Heap.lt_size oa
      have z1 : (s.heap.push (emptySet w)).objs.size = s.heap.objs.size + 1 := Heap.size_push ..
      have d1 : l ≠ (s.heap.push (emptySet w)).objs.size := by
        rw [z1]
        exact Nat.ne_of_lt (Nat.lt_succ_of_lt lt)
      have d2 : s.heap.objs.size ∉ [(s.heap.push (emptySet w)).objs.size, l] := by
        rw [z1]
        simp only [List.mem_cons, List.not_mem_nil, or_false, not_or]
        exact ⟨Nat.ne_of_lt (Nat.lt_succ_self _), Nat.ne_of_gt lt⟩
      have val : ∀ (i : Nat) (v : Value), vs[i]? = some v → ∃ e, all[i]? = some e ∧ v = .ref e.1 := fun i v hv => by
        rw [← Array.getElem?_toList, ev, List.getElem?_map] at hv
        obtain ⟨e, he, z⟩ := Option.map_eq_some_iff.mp hv
        exact ⟨e, he, z.symm⟩
      have gone : ∀ b, s.heap.objs.size ≤ b → s.heap.get? b = none := fun b hb => by
        cases z : s.heap.get? b with
        | none => rfl
        | some o => exact absurd (Nat.lt_of_lt_of_le (Heap.lt_size z) hb) (Nat.lt_irrefl _)
      refine fill_loop ((Walks.list (by simp [nh]) _ l d1 vs).toS) d2 n0 fw val tp (gone _ (Nat.le_refl _)) (fun b hb => gone b (by
          rw [List.mem_singleton.mp hb, z1]
          exact Nat.le_succ _)) hu (vs.size - 0) 0 _ (by omega) (Nat.zero_le _) ⟨⟨_, Heap.get?_push_size _ rfl, rfl, rfl⟩, il1.push _⟩ (fun b o e => Heap.get?_push_of_some _ (Heap.get?_push_of_some _ e)) ?start ?stop
      case start => exact ⟨[], #[], 0, _, tbl_new (Heap.get?_push_of_some _ at_), Sofar.none_ all⟩
      case stop =>
        intro s3 L es ep t mv T g kp
        obtain ⟨h3, g3, dr3, tk3, os3⟩ := s3
        have e1 : g3 = s.gens := mv.gens
        have e2 : dr3 = s.drawn := mv.drawn
        have e3 : os3 = s.os := mv.os
        subst e1
        subst e2
        subst e3
        show wpAny _ _ _ _ _ _
        refine wpAny_pure ?_
        show wpAny _ _ (ret Value.none) _ _ _
        rw [n0] at g
        exact wpAny_pure ⟨rfl, h3, tk3, L, es, ep, t, rfl, T, g, kp⟩
    · match fl2, r2 with
      | .error e, r2 => exact r2
      | .ok .next, r2 => exact r2.elim
      | .ok .brk, r2 => exact r2.elim
      | .ok .cont, r2 => exact r2.elim
      | .ok (.ret r), r2 =>
        obtain ⟨rfl, h', tk, L, es, ep, t, rfl, T, g, kp⟩ := r2
        repeat any_goals (first | assumption | wp_step)
        exact q _ _ _ _ _ _ T g kp
end
end SX

set_option Elab.async false
set_option linter.all false
set_option maxRecDepth 100000
set_option maxHeartbeats 4000000
/-! Sets of tuples of an int, a text and an int: the rules set(list) and sorted(set). -/
namespace SX
open PySem PySem.Spec PyProof.Rows L2
/-- what stands at v in the heap -/
def tripAt (h : Heap) (v : Value) : T3 := match v with
  | .ref a => match h.get? a with
    | some o => match o.data with
      | .seq vs _ => match vs.toList with
        | [.int x _, .str y _, .int z _] => (x, y, z)
        | _ => (0, "", 0)
      | _ => (0, "", 0)
    | none => (0, "", 0)
  | _ => (0, "", 0)
theorem tripAt_of {h : Heap} {v : Value} {x : T3} (p : IsTrip h v x) : tripAt h v = x := by
  obtain ⟨a, o, t, u, r, n, rfl, ho, _, hd⟩ := p
  unfold tripAt
  simp only [ho, hd]
def keyOf (x : T3) : List Key := [.inl x.1, .inr x.2.1, .inl x.2.2]
def unkey : List Key → T3
  | [.inl a, .inr b, .inl c] => (a, b, c)
  | _ => (0, "", 0)
theorem unkey_of (x : T3) : unkey (keyOf x) = x := rfl
def row (e : Addr × T3) : Addr × List Key := (e.1, keyOf e.2)
section
variable {prog : Program} {w : World} {A : Around} {E : Value → Shared → Prop} {s : Shared}
theorem trip_key {h : Heap} {a : Addr} {x : T3} (p : IsTrip h (.ref a) x) : IsTupleKey (mixKind prog w) h (keyOf x) a := by
  obtain ⟨b, o, t, u, r, n, e, ho, hc, hd⟩ := p
  cases e
  exact ⟨o, _, n, ho, hc, hd, .cons (kV_is (k := .inl x.1) ⟨t, rfl⟩) (.cons (kV_is (k := .inr x.2.1) ⟨u, rfl⟩) (.cons (kV_is (k := .inl x.2.2) ⟨r, rfl⟩) .nil))⟩
theorem sorted_set {a : Addr} {L : List (Addr × T3)} {es : Array (Int × Value)} {ep : Nat} {t : SetTable} {Q : Value → Shared → Prop} (T : Tbl (mixKind prog w) s.heap a (L.map row) es ep t) (nh : A.handled = none) (tr : ∀ e ∈ L, IsTrip s.heap (.ref e.1) e.2)
    (q : ∀ (s' : Shared) (p : Addr) (n : Nat) (M : List (Addr × T3)), (∀ b o, s.heap.get? b = some o → s'.heap.get? b = some o) → s'.gens = s.gens → s'.os = s.os → s.heap.objs.size ≤ p → s'.heap.get? p = some (seqObj "list" (M.map fun e => Value.ref e.1).toArray n) →
      M.Perm L → SrtO.Srtd (fun x y : Addr × T3 => lt3 x.2 y.2) M → Q (.ref p) s') : wpAny (model prog w) A (call (.builtin "sorted") [.ref a]) Q E s := by
  obtain ⟨ob, oa, ox, od⟩ := T.obj
  have fw := T.few
  have mn := T.many
  rw [List.length_map] at fw mn
  refine Calls.call_function_entry kind_sorted plain_sorted entry_sorted (args_sorted1 _) ?_
  unfold Builtin.«sorted»
  refine wpAny_bind (m := checkCount "sorted" 1 1 _) (wpAny_pure ?_)
  refine wpAny_bind (collect_set (A := A.in1) nh ⟨ob, oa, ox.1, od⟩ T.fits (by unfold scanBound; omega) T.tb.ris T.ord fun s1 vs k1 z1 g1 o1 pm => ?_)
  have ev : es.toList.map (·.2) = L.map fun e => Value.ref e.1 := by
    rw [T.rw_]
    unfold rws
    rw [List.map_map, List.map_map]
    rfl
  rw [ev] at pm
  have vl : vs.length = L.length := by
    rw [pm.length_eq, List.length_map]
  refine wpAny_bind (wpAny_newList ?_ (by rw [sizeLine_eq]; omega))
  have hoL : (s1.heap.push (seqObj "list" vs.toArray 0)).get? s1.heap.objs.size = some (seqObj "list" vs.toArray 0) := Heap.get?_push_size _ rfl
  have on : ∀ b o, s.heap.get? b = some o → (s1.heap.push (seqObj "list" vs.toArray 0)).get? b = some o := fun b o e => Heap.get?_push_of_some _ (k1 b o e)
  have trV : ∀ v ∈ vs, IsTrip s.heap v (tripAt s.heap v) := fun v hv => by
    obtain ⟨e, he, rfl⟩ := List.mem_map.mp (pm.mem_iff.mp hv)
    have z := tr e he
    rw [tripAt_of z]
    exact z
  refine wpAny_bind (wpAny_holding (wpAny_call_entry slot_list_sort ⟨_, hoL, rfl⟩ entry_list_sort (SrtO.list_sort_ord (s := { s1 with heap := s1.heap.push (seqObj "list" vs.toArray 0) }) (swo3k (tripAt s.heap)) hoL (by rw [sizeLine_eq]; omega) (fun h2 => ?_) fun out h1 h3 => ⟨_, rfl, ?_⟩) (args_list_sort _)))
  · refine trips_sortable (by omega) (fun v hv => (trV v hv).keeps fun b o e _ => on b o e) fun o e => ?_
    have e' : some o = some (seqObj "list" vs.toArray 0) := e.symm.trans hoL
    cases e'
    intro c
    exact absurd (Value.type.inj c) (by decide)
  · obtain ⟨n, hn⟩ := sortedHeap_at (vs := vs) (out := out.toArray) hoL
    have po : out.Perm (L.map fun e => Value.ref e.1) := h3.perm.trans pm
    have isr : ∀ v ∈ out, ∃ e ∈ L, v = Value.ref e.1 := fun v hv => by
      obtain ⟨e, he, z⟩ := List.mem_map.mp (po.mem_iff.mp hv)
      exact ⟨e, he, z.symm⟩
    have back : (out.map fun v => ((match v with | .ref b => b | _ => 0 : Addr), tripAt s.heap v)).map (fun e => Value.ref e.1) = out := by
      rw [List.map_map]
      conv => rhs; rw [← List.map_id out]
      refine List.map_congr_left fun v hv => ?_
      obtain ⟨e, _, rfl⟩ := isr v hv
      rfl
    have pM : (out.map fun v => ((match v with | .ref b => b | _ => 0 : Addr), tripAt s.heap v)).Perm L := by
      have z := po.map fun v => ((match v with | .ref b => b | _ => 0 : Addr), tripAt s.heap v)
      rw [List.map_map] at z
      have e : L.map ((fun v => ((match v with | .ref b => b | _ => 0 : Addr), tripAt s.heap v)) ∘ fun e => Value.ref e.1) = L := by
        conv => rhs; rw [← List.map_id L]
        refine List.map_congr_left fun e he => ?_
        show (e.1, tripAt s.heap (.ref e.1)) = e
        rw [tripAt_of (tr e he)]
      rwa [e] at z
    refine wpAny_pure ⟨_, rfl, q _ s1.heap.objs.size n _ (fun b u e => ?_) g1 o1 z1 (by rw [back]; exact hn) pM (SrtO.srtd_map (lt := fun x y : Addr × T3 => lt3 x.2 y.2) (f := fun v => ((match v with | .ref b => b | _ => 0 : Addr), tripAt s.heap v)) h1)⟩
    have lt := Heap.lt_size (k1 b u e)
    show (sortedHeap (s1.heap.push (seqObj "list" vs.toArray 0)) s1.heap.objs.size vs out.toArray).get? b = some u
    rw [sortedHeap_old (Nat.ne_of_lt lt) (by rw [size_push']; exact Nat.lt_succ_of_lt lt)]
    exact on b u e
end
end SX

set_option Elab.async false
set_option linter.all false
set_option maxRecDepth 100000
set_option maxHeartbeats 4000000
/-! The rules set(list) and sorted(set), for tuples of an int, a text and an int. -/
namespace SX
open PySem PySem.Spec PyProof.Rows L2
/-- the set at a, whatever has become of the tuples -/
def Tab0 (P : Program) (w : World) (h : Heap) (a : Addr) (L : List (Addr × T3)) : Prop := ∃ (es : Array (Int × Value)) (ep : Nat) (t : SetTable), (∃ o, h.get? a = some o ∧ o.ExactSet ∧ o.data = .set es ep t) ∧ es.toList = rws (mixKind P w) (L.map row) ∧
  TabOk t ((L.map row).map fun e => tupleKeyHash (mixKind P w) e.2) ∧ ((L.map row).map (·.2)).Nodup ∧ (w.params.followText "set-order" = true ∨ t.led = true) ∧ (L.map row).length * 5 < t.mask * 3 ∧ (L.map row).length < 64
def SetM (P : Program) (w : World) (a : Addr) (L : List (Addr × T3)) : HO := .ext fun h => Tab0 P w h a L
section
variable {P : Program} {w : World} {h : Heap} {a : Addr} {L : List (Addr × T3)} {es : Array (Int × Value)} {ep : Nat} {t : SetTable}
theorem tab0_of (T : Tbl (mixKind P w) h a (L.map row) es ep t) : Tab0 P w h a L := ⟨es, ep, t, T.obj, T.rw_, T.tb, T.dif, T.ord, T.free, T.few⟩
theorem tbl_of (R : Tab0 P w h a L) (tp : ∀ e ∈ L, IsTrip h (.ref e.1) e.2) : ∃ es ep t, Tbl (mixKind P w) h a (L.map row) es ep t := by
  obtain ⟨es, ep, t, h1, h2, h3, h4, h5, h6, h7⟩ := R
  refine ⟨es, ep, t, h1, h2, h3, h4, fun e he => ?_, h5, h6, h7⟩
  obtain ⟨x, hx, rfl⟩ := List.mem_map.mp he
  exact trip_key (tp x hx)
theorem setM_ok {H : Hp} (R : Tab0 P w h a L) : ObjOk P w H h a (SetM P w a L) := by
  obtain ⟨o, ho, _⟩ := R.choose_spec.choose_spec.choose_spec.1
  refine ⟨R, ⟨o, ho⟩, fun h1 h2 p k => ?_⟩
  obtain ⟨es, ep, t, ⟨o2, ho2, r⟩, q⟩ := (show Tab0 P w h1 a L from p)
  exact ⟨es, ep, t, ⟨o2, k o2 ho2, r⟩, q⟩
end
abbrev Tr (H : Hp) (e : Addr × T3) : Prop := H e.1 = some (.tup [.int e.2.1, .str e.2.2.1, .int e.2.2.2])
section
variable {X : Cx} {pins : List (Addr × Obj)} {σ : L2.St} {H : Hp} {s : Shared}
theorem trip_in (I : Inv X pins σ H s) {e : Addr × T3} (he : Tr H e) : IsTrip s.heap (.ref e.1) e.2 := by
  obtain ⟨_, its, rv, o, ho, hc, n, hd⟩ := I.hok _ _ he
  obtain ⟨u1, u2, u3, rfl, ⟨t1, rfl⟩, ⟨t2, rfl⟩, ⟨t3, rfl⟩⟩ := vals_3 rv
  exact ⟨e.1, o, t1, t2, t3, n, rfl, ho, hc, hd⟩
theorem refs_are : ∀ {l : List (Addr × T3)} {us : List Value}, Vals (l.map fun e => V.ref e.1) us → us = l.map fun e => Value.ref e.1
  | [], _, .nil => rfl
  | e :: l, _, .cons r t => by
    cases r
    rw [refs_are t, List.map_cons]
theorem are_refs : ∀ l : List (Addr × T3), Vals (l.map fun e => V.ref e.1) (l.map fun e => Value.ref e.1)
  | [] => .nil
  | e :: l => .cons rfl (are_refs l)
/-- set(xs) -/
def rSetM (K : PySem.W.Frag) (P : Program) (w : World) : List V → Hp → VK → Prop := fun vs H Q => ∃ (l : Addr) (ts : List (Addr × T3)), vs = [V.ref l] ∧ SqL K H l (ts.map fun e => V.ref e.1) ∧ (∀ e ∈ ts, Tr H e) ∧ ts.length < 64 ∧
  ∀ (a : Addr) (L : List (Addr × T3)), H a = none → (∀ e ∈ L, e ∈ ts) → (∀ e ∈ ts, e.2 ∈ L.map (·.2)) → (L.map (·.2)).Nodup → Q (.ref a) (upd H a (SetM P w a L))
theorem cr_setM (hc : X.calm = true) (hu : X.A.units + 64 < cLine) : CallR X (.type "set") (rSetM X.K X.prog X.w) := by
  intro pins s σ H vs us Q I r h
  obtain ⟨l, ts, rfl, hl, htr, few, q⟩ := h
  obtain ⟨its, rv, pl, hz⟩ := I.list hl
  obtain ⟨u, rfl, ru⟩ := vals1 r
  obtain rfl : u = Value.ref l := ru
  have hn : H s.heap.objs.size = none := I.hok.fresh (Nat.le_refl _)
  have ev : its.toArray.toList = (ts.map row).map fun e => Value.ref e.1 := by
    rw [List.map_map]
    exact refs_are rv
  refine made (prog := X.prog) (w := X.w) (knd := mixKind X.prog X.w) (all := ts.map row) (I.ok.hd hc) pl.isList ev (fun e he => ?_) (by rw [List.length_map]; exact few) (by omega) fun h' tk L es ep t T g k => ?_
  · obtain ⟨x, hx, rfl⟩ := List.mem_map.mp he
    exact trip_key (trip_in I (htr x hx))
  · have sub : ∀ e ∈ L, ∃ x ∈ ts, row x = e := fun e he => List.mem_map.mp (List.mem_of_mem_take (g.of_ e he))
    have eL : (L.map fun e => (e.1, unkey e.2)).map row = L := by
      rw [List.map_map]
      conv => rhs; rw [← List.map_id L]
      refine List.map_congr_left fun e he => ?_
      obtain ⟨x, _, rfl⟩ := sub e he
      rfl
    rw [← eL] at T
    have nd : ((L.map fun e => (e.1, unkey e.2)).map (·.2)).Nodup := by
      have z := T.dif
      rw [List.map_map] at z
      have e : ((fun x : Addr × List Key => x.2) ∘ row) = keyOf ∘ fun x : Addr × T3 => x.2 := rfl
      rw [e, ← List.map_map] at z
      exact List.Pairwise.of_map keyOf (fun _ _ ne z => ne (congrArg keyOf z)) z
    refine ⟨.ref s.heap.objs.size, upd H s.heap.objs.size (SetM X.prog X.w s.heap.objs.size (L.map fun e => (e.1, unkey e.2))), I.laid (t' := tk) k (Nat.le_refl _) (setM_ok (tab0_of T)), rfl, q _ _ hn (fun e he => ?_) (fun e he => ?_) nd⟩
    · obtain ⟨y, hy, rfl⟩ := List.mem_map.mp he
      obtain ⟨x, hx, rfl⟩ := sub y hy
      exact hx
    · have z := g.has (row e) (by rw [List.take_length]; exact List.mem_map_of_mem (f := row) he)
      obtain ⟨y, hy, ey⟩ := List.mem_map.mp z
      refine List.mem_map.mpr ⟨(y.1, unkey y.2), List.mem_map_of_mem (f := fun e => (e.1, unkey e.2)) hy, ?_⟩
      show unkey y.2 = e.2
      rw [ey]
      rfl
/-- sorted of such a set -/
def rSortM (P : Program) (w : World) : List V → Hp → VK → Prop := fun vs H Q => ∃ (a : Addr) (L : List (Addr × T3)), vs = [V.ref a] ∧ H a = some (SetM P w a L) ∧ (∀ e ∈ L, Tr H e) ∧
  ∀ (M : List (Addr × T3)) (p : Addr), M.Perm L → SrtO.Srtd (fun x y : Addr × T3 => lt3 x.2 y.2) M → H p = none → Q (.ref p) (upd H p (.lst (M.map fun e => V.ref e.1)))
theorem cr_sortM (hc : X.calm = true) : CallR X (.builtin "sorted") (rSortM X.prog X.w) := by
  intro pins s σ H vs us Q I r h
  obtain ⟨a, L, rfl, ha, htr, q⟩ := h
  obtain ⟨u, rfl, ru⟩ := vals1 r
  obtain rfl : u = Value.ref a := ru
  have R0 : Tab0 X.prog X.w s.heap a L := (I.hok a _ ha).1
  obtain ⟨es, ep, t, T⟩ := tbl_of R0 fun e he => trip_in I (htr e he)
  have few := T.few
  rw [List.length_map] at few
  refine sorted_set T (I.ok.hd hc) (fun e he => trip_in I (htr e he)) fun s' p n M k g o hp hg pm so => ?_
  have hlen : (M.map fun e => V.ref e.1).length ≤ sizeLine := by
    rw [List.length_map, pm.length_eq, sizeLine_eq]
    omega
  have hn : H p = none := I.hok.fresh hp
  have J : Inv X pins σ (upd H p (.lst (M.map fun e => V.ref e.1))) s' := I.call' (ch := []) o (Un.laid k hp hn) (I.hok.laid k hp ⟨hlen, _, n, are_refs M, hg⟩) (by rw [g]; exact I.bare) (fun _ z => nomatch z)
  exact ⟨.ref p, _, J, rfl, q M p pm so hn⟩
end
end SX

set_option Elab.async false
set_option linter.all false
set_option maxRecDepth 100000
set_option maxHeartbeats 4000000
/-! Drawn framings: sets. -/
namespace K02
open PySem L2 L2.EV
abbrev sFraming : Stmt := top 18
theorem lt3_tri {x y : T3} (h1 : lt3 x y = false) (h2 : lt3 y x = false) : x = y := by
  have a := lt3_no.mp h1
  have b := lt3_no.mp h2
  have e1 : x.1 = y.1 := by
    have a1 : ¬ x.1 < y.1 := fun q => a (.inl q)
    have b1 : ¬ y.1 < x.1 := fun q => b (.inl q)
    omega
  have a2 : ¬ sl x.2.1 < sl y.2.1 := fun q => a (.inr ⟨e1, .inl q⟩)
  have b2 : ¬ sl y.2.1 < sl x.2.1 := fun q => b (.inr ⟨e1.symm, .inl q⟩)
  have e2 : x.2.1 = y.2.1 := sl_inj (List.le_antisymm (List.not_lt.mp b2) (List.not_lt.mp a2))
  have a3 : ¬ x.2.2 < y.2.2 := fun q => a (.inr ⟨e1, .inr ⟨e2, q⟩⟩)
  have b3 : ¬ y.2.2 < x.2.2 := fun q => b (.inr ⟨e1.symm, .inr ⟨e2.symm, q⟩⟩)
  exact Prod.ext e1 (Prod.ext e2 (by omega))
/-- steps at ts -/
def At3 (H : Hp) (ts : List Addr) (xs : List T3) : Prop := ts.length = xs.length ∧ ∀ (i : Nat) t x, ts[i]? = some t → xs[i]? = some x → S3 H t x
theorem At3.same {H H' : Hp} {ts : List Addr} {xs : List T3} (h : At3 H ts xs) (s : KeepT H H') : At3 H' ts xs := ⟨h.1, fun i t x h1 h2 => s _ _ (h.2 i t x h1 h2)⟩
theorem At3.snoc {H : Hp} {ts : List Addr} {xs : List T3} {t : Addr} {x : T3} (h : At3 H ts xs) (hx : S3 H t x) : At3 H (ts ++ [t]) (xs ++ [x]) := by
  refine ⟨by rw [List.length_append, List.length_append, h.1]; rfl, fun i u y h1 h2 => ?_⟩
  by_cases e : i < ts.length
  · rw [List.getElem?_append_left e] at h1
    rw [List.getElem?_append_left (by rw [← h.1]; exact e)] at h2
    exact h.2 i u y h1 h2
  · have i1 := (List.getElem?_eq_some_iff.mp h1).1
    rw [List.length_append] at i1
    have e2 : i = ts.length := by simp only [List.length_cons, List.length_nil] at i1; omega
    subst e2
    rw [List.getElem?_append_right (Nat.le_refl _), Nat.sub_self] at h1
    rw [h.1, List.getElem?_append_right (Nat.le_refl _), Nat.sub_self] at h2
    have e3 : t = u := Option.some.inj h1
    have e4 : x = y := Option.some.inj h2
    rw [← e3, ← e4]
    exact hx
def spFraming : Sp := fun vs H Q _ => ∃ (m c l : Addr) (k : Int) (b : Nat), vs = [.ref m, .int (b : Int)] ∧ b ≤ 5 ∧ MAt H m c l k ∧ k < 700000 ∧
  ∀ (f : Addr) (fr : List T3) (last : Nat) (H' : Hp) (l' : Addr) (k' : Int), FrA H' f fr → Frm fr last → last ≤ b → fr.length ≤ 2 * b + 3 → k' ≤ k + 400 → Dr H H' m c l l' k' → Q (.ref f) H'
/-- the found steps at F -/
structure FS (H H' : Hp) (m c l F : Addr) (kb : Int) (last : Nat) (xs : List T3) : Prop where
  ex : ∃ (ts : List Addr) (l' : Addr) (k' : Int), H' F = some (.lst (ts.map V.ref)) ∧ At3 H' ts xs ∧ F ≠ l' ∧ F ≠ m ∧ F ≠ c ∧ k' ≤ kb ∧ Dr H H' m c l l' k'
  ok : ∀ x ∈ xs, Stp x ∧ x.1 ≤ last ∧ x.2.2 ≤ last
  hF : ∀ b o, H b = some o → b ≠ m → b ≠ l → b ≠ F
theorem bl_eq (t : Int) : decide (V.int t = V.int 0) = decide (t = 0) := by
  rw [dec_int]
  by_cases z : t = 0
  · rw [z]
    rfl
  · rw [decide_eq_false z]
    exact beq_eq_false_iff_ne.mpr z
theorem Dr.keepT {H0 H : Hp} {m c l0 l : Addr} {k k0 : Int} (d : Dr H0 H m c l0 l k) (M : MAt H0 m c l0 k0) : KeepT H0 H := fun a xs e => d.tup M e
/-- one step more -/
theorem FS.push {H H1 H2 H3 : Hp} {m c l F l1 l2 t : Addr} {k1 k2 kb : Int} {last : Nat} {xs : List T3} {ts : List Addr} {x : T3} (hF : H1 F = some (.lst (ts.map V.ref))) (ha : At3 H1 ts xs) (n1 : F ≠ l1) (n2 : F ≠ m) (n3 : F ≠ c) (d1 : Dr H H1 m c l l1 k1)
    (d2 : Dr H1 H2 m c l1 l2 k2) (ht : H2 t = none) (e3 : H3 = upd (upd H2 t (.tup [.int x.1, .str x.2.1, .int x.2.2])) F (.lst (ts.map V.ref ++ [.ref t]))) (hk : k2 ≤ kb)
    (ok : ∀ y ∈ xs, Stp y ∧ y.1 ≤ last ∧ y.2.2 ≤ last) (okx : Stp x ∧ x.1 ≤ last ∧ x.2.2 ≤ last) (hF0 : ∀ b o, H b = some o → b ≠ m → b ≠ l → b ≠ F) : FS H H3 m c l F kb last (xs ++ [x]) := by
  obtain ⟨hF2, n4⟩ := d2.lst d1.at_ hF n1
  have u := same_upd (o := HO.tup [.int x.1, .str x.2.1, .int x.2.2]) ht
  have hF2' := u _ _ hF2
  have kt := keepT_upd (o := .lst (ts.map V.ref ++ [.ref t])) hF2' (fun xs z => by cases z)
  have D2 := (d1.trans d2).same u
  subst e3
  refine ⟨⟨ts ++ [t], l2, k2, by rw [List.map_append]; exact upd_same, ?_, n4, n2, n3, hk, ⟨D2.at_.upd n2 n3 n4, D2.hl, fun b o z h1 h2 => ?_⟩⟩, fun y hy => ?_, hF0⟩
  · refine At3.snoc (ha.same ?_) (kt _ _ upd_same)
    exact ((d2.keepT d1.at_).trans (Same.keepT u)).trans kt
  · rw [upd_ne (hF0 b o z h1 h2)]
    exact D2.kp b o z h1 h2
  · rcases List.mem_append.mp hy with h | h
    · exact ok y h
    · have e : y = x := by simpa using h
      rw [e]
      exact okx

theorem srt_of {M : List (Addr × T3)} (sr : SrtO.Srtd (fun x y : Addr × T3 => lt3 x.2 y.2) M) (nd : (M.map (·.2)).Nodup) : (M.map (·.2)).Pairwise (fun x y => lt3 x y = true) := by
  have s2 : (M.map (·.2)).Pairwise fun x y => lt3 y x = false := List.pairwise_map.mpr sr
  refine (s2.and nd).imp fun {x y} z => ?_
  cases e : lt3 x y with
  | true => rfl
  | false => exact absurd (lt3_tri e z.1) z.2
/-- a set, sorted: a framing -/
theorem frm_of {H H' : Hp} {ts : List Addr} {xs : List T3} {last : Nat} {L M : List (Addr × T3)} {p : Addr} (ha : At3 H ts xs) (sub : ∀ e ∈ L, e ∈ ts.zip xs) (cov : ∀ e ∈ ts.zip xs, e.2 ∈ L.map (·.2)) (nd : (L.map (·.2)).Nodup) (pm : M.Perm L) (sr : SrtO.Srtd (fun x y : Addr × T3 => lt3 x.2 y.2) M) (l1 : xs.length ≤ 16) (l5 : last ≤ 5)
    (ok : ∀ x ∈ xs, Stp x ∧ x.1 ≤ last ∧ x.2.2 ≤ last) (up : ∀ k : Nat, 1 ≤ k → k ≤ last → ∃ x ∈ xs, x.2.2 = (k : Int) ∧ 0 ≤ x.1 ∧ x.1 < k) (dn : ∀ k : Nat, k ≤ last → ∃ x ∈ xs, x.1 = (k : Int) ∧ (x.2.2 = 0 ∨ ((k : Int) < x.2.2 ∧ x.2.2 ≤ last)))
    (s : Same H H') (hp : H' p = some (.tup (M.map fun e => V.ref e.1))) : FrA H' p (M.map (·.2)) ∧ Frm (M.map (·.2)) last ∧ (M.map (·.2)).length ≤ xs.length := by
  have mem : ∀ x, x ∈ M.map (·.2) ↔ x ∈ xs := fun x => by
    rw [(pm.map (·.2)).mem_iff]
    refine ⟨fun h => ?_, fun h => ?_⟩
    · obtain ⟨e, he, rfl⟩ := List.mem_map.mp h
      exact (List.of_mem_zip (sub e he)).2
    · obtain ⟨i, hi, e⟩ := List.getElem_of_mem h
      have ht : i < ts.length := by rw [ha.1]; exact hi
      have z := cov (ts[i], xs[i]) (by
        refine List.mem_of_getElem? (i := i) ?_
        rw [List.getElem?_zip_eq_some]
        exact ⟨List.getElem?_eq_getElem ht, List.getElem?_eq_getElem hi⟩)
      rw [← e]
      exact z
  have nd2 : (M.map (·.2)).Nodup := by
    rw [(pm.map (·.2)).nodup_iff]
    exact nd
  have lx : (M.map (·.2)).length ≤ xs.length := nd2.length_le_of_subset fun x hx => (mem x).mp hx
  have len : (M.map (·.2)).length ≤ 16 := Nat.le_trans lx l1
  refine ⟨⟨M.map (·.1), by rw [List.map_map]; exact hp, by rw [List.length_map, List.length_map], fun i t x h1 h2 => ?_⟩, ⟨?_, len, fun x hx => (ok x ((mem x).mp hx)).1, srt_of sr nd2, fun k h1 h2 => ?_, fun k hk => ?_, fun x hx => (ok x ((mem x).mp hx)).2, l5⟩, lx⟩
  · rw [List.getElem?_map] at h1 h2
    cases e : M[i]? with
    | none =>
      rw [e] at h1
      cases h1
    | some y =>
      rw [e] at h1 h2
      cases h1
      cases h2
      have z := sub y (pm.mem_iff.mp (List.mem_of_getElem? e))
      obtain ⟨j, hj, ej⟩ := List.getElem_of_mem z
      have z2 : (ts.zip xs)[j]? = some y := by rw [List.getElem?_eq_getElem hj, ej]
      rw [List.getElem?_zip_eq_some] at z2
      exact s _ _ (ha.2 j _ _ z2.1 z2.2)
  · obtain ⟨x, hx, _⟩ := dn 0 (Nat.zero_le _)
    exact List.length_pos_of_mem ((mem x).mpr hx)
  · obtain ⟨x, hx, e⟩ := up k h1 h2
    exact ⟨x, (mem x).mpr hx, e⟩
  · obtain ⟨x, hx, e⟩ := dn k hk
    exact ⟨x, (mem x).mpr hx, e⟩
end K02

set_option Elab.async false
set_option linter.all false
set_option maxRecDepth 100000
set_option maxHeartbeats 4000000
/-! The law's own look at a step. -/
namespace K02
open PySem L2 L2.EV
abbrev sLS : Stmt := top 22
def spIsW : Sp := fun vs H Q _ => ∃ (v : V) (d : PyData) (b : Int), vs = [v, .int 0, .int b] ∧ Da H v d ∧ Q (.bl (numD (b + 1) d).isSome) H
def spLS : Sp := fun vs H Q _ => ∃ (v : V) (d : PyData), vs = [v] ∧ Da H v d ∧ (∀ e ∈ itemsD d, stOk e) ∧ ∀ H', Same H H' → Q (.bl (stpD d).isSome) H'
structure Li (K : PySem.W.Frag) (mg : Str → Option Value) where
  T : TxtF mg
  f1 : Addr
  d1 : FuncData
  F1 : Fun K "_law_is_whole" "_law_is_whole" sIsW f1 d1
  b1 : Binds K d1 ["thing", "least", "most"] []
  m1 : mg "_law_is_whole" = some (.ref f1)
  f2 : Addr
  d2 : FuncData
  F2 : Fun K "_law_is_piece" "_law_is_piece" sLP f2 d2
  b2 : Binds K d2 ["thing"] []
  m2 : mg "_law_is_piece" = some (.ref f2)
  f3 : Addr
  d3 : FuncData
  F3 : Fun K "_law_is_step" "_law_is_step" sLS f3 d3
  b3 : Binds K d3 ["thing"] []
  m3 : mg "_law_is_step" = some (.ref f3)
theorem ends_is {p : Str} {M : List Nat} {y : Nat} (e : sl p = M ++ [y]) : Txt.endswith p ";" = decide (y = 59) := by
  have ln : p.length = M.length + 1 := by rw [len_sl, e]; simp
  show (decide (0 + (";" : Str).length ≤ p.length) && Builtin.Str.subAt p ";" (p.length - (";" : Str).length)) = _
  rw [at_end]
  have d : decide (0 + (";" : Str).length ≤ p.length) = true := decide_eq_true (by rw [semi1]; omega)
  rw [d, Bool.true_and, e]
  by_cases h : y = 59
  · subst h
    simp
  · rw [decide_eq_false h]
    simp [h]
theorem pcS_snoc {p : Str} (h : pcS p = true) : ∃ M y, sl p = M ++ [y] := by
  unfold pcS at h
  rw [Bool.and_eq_true, Bool.and_eq_true] at h
  have a : 1 ≤ p.length := of_decide_eq_true h.1.1
  exact SrtO.snoc_of (l := sl p) (by rw [← len_sl]; omega)
section
variable {P : Program} {w : World} {K : PySem.W.Frag} {mg : Str → Option Value} {base : Heap}
theorem scIsW : FnScope ["thing", "least", "most"] ["thing", "least", "most"] (defScope sIsW) := ⟨rfl, rfl, rfl, by decide +kernel, rfl, by decide +kernel, by decide +kernel⟩
theorem ok_isW {f : Addr} {fd : FuncData} (F : Fun K "_law_is_whole" "_law_is_whole" sIsW f fd) (T : TxtF mg) : FnOk P w K mg base CX0 1 f fd ["thing", "least", "most"] spIsW := by
  refine F.ok scIsW (fun vs H Q E h => ?_) (fun cdv A outer s H vs Q E hr h => ?_)
  · obtain ⟨v, d, b, rfl, _⟩ := h
    rfl
  · obtain ⟨v, d, b, rfl, da, q⟩ := h
    refine ⟨_, pss_one (ps_ret (pe_and (pe_callB call_isi (by rfl) T.isi PyProof.Rows.boot_isinstance (pa_cons (pv 0) (pa_cons (pe_bltn (v := .ty "int") (by rfl) T.int (by decide +kernel) rfl) pa_nil)))
      (pe_and (pe_not (pe_callB call_isi (by rfl) T.isi PyProof.Rows.boot_isinstance (pa_cons (pv 0) (pa_cons (pe_bltn (v := .ty "bool") (by rfl) T.bool (by decide +kernel) rfl) pa_nil))))
        (pe_one (pe_chain op_le op_le (pv 1) (pv 0) (pv 2)))))), ?_⟩
    obtain ⟨t, ty, _, ki, kb⟩ := da.ty (K := K)
    refine ⟨_, rfl, v, .ty "int", t, .type "int", isInt d, rfl, .ty "int", ty, ki, isInt d, rfl, ?_⟩
    cases da with
    | int n =>
      refine iteT ?_
      refine ⟨_, rfl, .int n, .ty "bool", t, .type "bool", false, rfl, .ty "bool", ty, kb, false, rfl, true, rfl, iteT ?_⟩
      have q : Q (.bl (if 0 ≤ n ∧ n < b + 1 then some n else none).isSome) H := q
      refine ⟨_, rfl, _, rfl, 0, n, rfl, rfl, _, rfl, ?_⟩
      refine ite2 (fun z => ?_) (fun z => ?_)
      · have z1 : 0 ≤ n := of_decide_eq_true z
        refine ⟨_, rfl, n, b, rfl, rfl, ?_⟩
        show Q (.bl (decide (n ≤ b))) H
        by_cases c : n ≤ b
        · rw [if_pos ⟨z1, by omega⟩] at q
          rw [decide_eq_true c]
          exact q
        · rw [if_neg (fun k => c (by omega))] at q
          rw [decide_eq_false c]
          exact q
      · have z1 : ¬ 0 ≤ n := fun k => z (decide_eq_true k)
        rw [if_neg (fun k => z1 k.1)] at q
        exact q
    | bl b =>
      refine iteT ?_
      exact ⟨_, rfl, .bl b, .ty "bool", t, .type "bool", true, rfl, .ty "bool", ty, kb, true, rfl, false, rfl, iteF q⟩
    | non => exact iteF q
    | str x => exact iteF q
    | lst e h => exact iteF q
    | tup e h => exact iteF q
theorem scLS : FnScope ["thing"] ["thing"] (defScope sLS) := ⟨rfl, rfl, rfl, by decide +kernel, rfl, by decide +kernel, by decide +kernel⟩
theorem ok_ls (L : Li K mg) : FnOk P w K mg base CX0 2 L.f3 L.d3 ["thing"] spLS := by
  have GW : FnOk P w K mg base CX0 1 L.f1 L.d1 ["thing", "least", "most"] spIsW := ok_isW L.F1 L.T
  have GP : FnOk P w K mg base CX0 1 L.f2 L.d2 ["thing"] spLP := ok_lp L.F2 L.T
  have T := L.T
  refine L.F3.ok scLS (fun vs H Q E h => ?_) (fun cdv A outer s H vs Q E hr h => ?_)
  · obtain ⟨v, d, rfl, _⟩ := h
    rfl
  · obtain ⟨v, d, rfl, da, st, q⟩ := h
    refine ⟨_, pss_cons (ps_if (pw_or (pt_not (pt_val (pe_callB call_isi (by rfl) T.isi PyProof.Rows.boot_isinstance (pa_cons (pv 0) (pa_cons (pe_bltn (v := .ty "tuple") (by rfl) T.tuple (by decide +kernel) rfl) pa_nil)))))
        (pw_or (pt_cmpR op_ne (pe_callB call_len_seq (by rfl) T.len PySem.boot_len (pa_cons (pv 0) pa_nil)) pe_int (nomark _)) (pw_or1 (pt_not (pt_val (pe_call GP hr (by rfl) L.m2 L.F2.kp L.b2 .nil pass0 (pa_cons (pe_ix ix_tup (pv 0) pe_int (fun _ _ => rfl)) pa_nil))))))).pt (pss_one (ps_ret pe_bl)) pss_nil)
      (pss_cons (ps_if (pw_or (pt_not (pt_val (pe_call GW hr (by rfl) L.m1 L.F1.kp L.b1 .nil pass0 (pa_cons (pe_ix ix_tup (pv 0) pe_int (fun _ _ => rfl)) (pa_cons pe_int (pa_cons pe_int pa_nil)))))) (pw_or1 (pt_not (pt_val (pe_call GW hr (by rfl) L.m1 L.F1.kp L.b1 .nil pass0 (pa_cons (pe_ix ix_tup (pv 0) pe_int (fun _ _ => rfl)) (pa_cons pe_int (pa_cons pe_int pa_nil)))))))).pt (pss_one (ps_ret pe_bl)) pss_nil)
      (pss_one (ps_ret (pe_cmpR op_eq (pe_cmpR op_eq (pe_ix ix_tup (pv 0) pe_int (fun _ _ => rfl)) pe_int (nomark _)) (pe_cmpR op_eq (pe_ix ix_str (pe_ix ix_tup (pv 0) pe_int (fun _ _ => rfl)) (pe_un un_neg pe_int) (fun _ _ => rfl)) pe_str (nomark _)) (nomark _))))), ?_⟩
    obtain ⟨t, ty, kt, _, _⟩ := da.ty (K := K)
    refine ⟨_, rfl, v, .ty "tuple", t, .type "tuple", isTup d, rfl, .ty "tuple", ty, kt, isTup d, rfl, ?_⟩
    match d, da, st, q with
    | .none, .non, _, q => exact iteT (q H (Same.refl H))
    | .bool _, .bl _, _, q => exact iteT (q H (Same.refl H))
    | .int _, .int _, _, q => exact iteT (q H (Same.refl H))
    | .list _, .lst _ _, _, q => exact iteT (q H (Same.refl H))
    | .str _, .str _, _, q => exact iteT (q H (Same.refl H))
    | .tuple ds, @Da.tup _ a xs _ e all, st, q =>
    refine iteF ?_
    have ln := all.len
    refine ⟨_, rfl, a, _, rfl, .inr (SqT.of e), rfl, _, rfl, ?_⟩
    by_cases c3 : xs.length = 3
    · refine iteF' (by simp [c3]) ?_
      obtain ⟨v0, v1, v2, rfl⟩ : ∃ v0 v1 v2, xs = [v0, v1, v2] := match xs, c3 with
        | [a, b, c], _ => ⟨a, b, c, rfl⟩
      obtain ⟨d0, d1, d2, rfl⟩ : ∃ v0 v1 v2, ds = [v0, v1, v2] := match ds, (show ds.length = 3 by rw [← ln]; rfl) with
        | [a, b, c], _ => ⟨a, b, c, rfl⟩
      obtain ⟨x0, x1, x2⟩ : Da H v0 d0 ∧ Da H v1 d1 ∧ Da H v2 d2 := by
        cases all with
        | cons h0 t => cases t with
          | cons h1 t => cases t with
            | cons h2 t => exact ⟨h0, h1, h2⟩
      have st1 : stOk d1 := st d1 (by show d1 ∈ [d0, d1, d2]; simp)
      refine ⟨_, rfl, a, _, 1, v1, rfl, rfl, SqT.of e, atI_nat (j := 1) rfl, v1, d1, rfl, x1, st1, fun H1 s1 => ⟨_, rfl, ?_⟩⟩
      have none_ : ∀ H', Same H H' → (stpD (.tuple [d0, d1, d2])) = none → Q (.bl false) H' := fun H' s h => by
        have z := q H' s
        rw [h] at z
        exact z
      cases p1 : pcD d1 with
      | false =>
        refine iteT (none_ _ s1 ?_)
        cases d1 with
        | str p =>
          show (match numD 6 d0, numD 6 d2 with
            | some i, some j => if pcS p = true ∧ Txt.endswith p ";" = decide (j = 0) then some (i, p, j) else none
            | _, _ => none) = none
          have p1 : pcS p = false := p1
          rw [p1]
          cases numD 6 d0 <;> cases numD 6 d2 <;> simp
        | _ => rfl
      | true =>
        refine iteF ?_
        match d1, x1, st1, p1 with
        | .str p, .str _, st1, p1 =>
        have p1 : pcS p = true := p1
        have eS : ∀ i j, numD 6 d0 = some i → numD 6 d2 = some j → stpD (.tuple [d0, .str p, d2]) = if Txt.endswith p ";" = decide (j = 0) then some (i, p, j) else none := fun i j h1 h2 => by
          show (match numD 6 d0, numD 6 d2 with
            | some i, some j => if pcS p = true ∧ Txt.endswith p ";" = decide (j = 0) then some (i, p, j) else none
            | _, _ => none) = _
          rw [h1, h2, p1]
          simp
        refine ⟨_, rfl, a, _, 0, v0, rfl, rfl, SqT.of (s1 _ _ e), atI_nat (j := 0) rfl, v0, d0, 5, rfl, Da.same s1 _ _ x0, _, rfl, ?_⟩
        cases n0 : numD 6 d0 with
        | none =>
          rw [show numD (5 + 1) d0 = none from n0]
          refine iteT (none_ _ s1 ?_)
          show (match numD 6 d0, numD 6 d2 with
            | some i, some j => if pcS p = true ∧ Txt.endswith p ";" = decide (j = 0) then some (i, p, j) else none
            | _, _ => none) = none
          rw [n0]
        | some i =>
          rw [show numD (5 + 1) d0 = some i from n0]
          refine iteF ?_
          refine ⟨_, rfl, a, _, 2, v2, rfl, rfl, SqT.of (s1 _ _ e), atI_nat (j := 2) rfl, v2, d2, 5, rfl, Da.same s1 _ _ x2, _, rfl, ?_⟩
          cases n2 : numD 6 d2 with
          | none =>
            rw [show numD (5 + 1) d2 = none from n2]
            refine iteT (none_ _ s1 ?_)
            show (match numD 6 d0, numD 6 d2 with
              | some i, some j => if pcS p = true ∧ Txt.endswith p ";" = decide (j = 0) then some (i, p, j) else none
              | _, _ => none) = none
            rw [n0, n2]
          | some j =>
            rw [show numD (5 + 1) d2 = some j from n2]
            refine iteF ?_
            obtain ⟨M, y, ey⟩ := pcS_snoc p1
            obtain ⟨rfl, j0, j6⟩ := numD_some n2
            cases x2
            have ai : atI p.cps.toList (-1) = some y := by
              show atI (sl p) (-1) = some y
              have ix : ixN (M ++ [y]).length (-1) = some M.length := by
                have l : (M ++ [y]).length = M.length + 1 := by simp
                rw [l]
                unfold ixN
                rw [if_neg (by decide), if_pos (by omega)]
                congr 1
                omega
              rw [ey]
              unfold atI
              rw [ix]
              simp
            have lp := (st1 p rfl).1
            have z := q _ s1
            rw [eS i j n0 n2, ends_is ey] at z
            have sgE : (V.str ⟨#[y]⟩ = V.str ";") ↔ y = 59 := by
              have e1 : (";" : Str) = ⟨#[59]⟩ := by decide +kernel
              rw [e1]
              constructor
              · intro h
                have h2 := congrArg sl (V.str.inj h)
                simpa using h2
              · intro h
                rw [h]
            have dS : decide (V.str ⟨#[y]⟩ = V.str ";") = decide (y = 59) := by
              by_cases h : y = 59
              · rw [decide_eq_true h, decide_eq_true (sgE.mpr h)]
              · rw [decide_eq_false h, decide_eq_false fun k => h (sgE.mp k)]
            refine ⟨_, rfl, a, _, 2, .int j, rfl, rfl, SqT.of (s1 _ _ e), atI_nat (j := 2) rfl, rfl, ?_⟩
            refine ⟨_, rfl, a, _, 1, .str p, rfl, rfl, SqT.of (s1 _ _ e), atI_nat (j := 1) rfl, 1, rfl, p, -1, y, rfl, rfl, by rw [sizeLine_eq]; omega, ai, rfl, rfl, ?_⟩
            show Q (.bl (decide (V.bl (decide (V.int j = V.int 0)) = V.bl (decide (V.str ⟨#[y]⟩ = V.str ";"))))) H1
            rw [dS, bl_eq]
            by_cases k : decide (y = 59) = decide (j = 0)
            · rw [if_pos k] at z
              rw [k, decide_eq_true rfl]
              exact z
            · rw [if_neg k] at z
              rw [decide_eq_false fun h => k (V.bl.inj h).symm]
              exact z
    · refine iteT' (by simp; omega) ?_
      have z := q H (Same.refl H)
      rw [show stpD (.tuple ds) = none from ?_] at z
      · exact z
      · cases h : stpD (.tuple ds) with
        | none => rfl
        | some x =>
          have z2 := (stpD_some h).1
          injection z2 with z2
          rw [ln, z2] at c3
          exact absurd rfl c3
end
end K02

set_option Elab.async false
set_option linter.all false
set_option maxRecDepth 100000
set_option maxHeartbeats 4000000
/-! Sets of ints: the call set(list). -/
namespace SX
open PySem PySem.Spec PyProof.Rows L2
section
variable {prog : Program} {w : World} {A : Around} {E : Value → Shared → Prop} {s : Shared}
theorem madeI {l : Addr} {vs : Array Value} {ns : List Int} {Q : Value → Shared → Prop} (nh : A.handled = none) (il : s.heap.IsList l vs) (ev : IntsAre vs.toList ns) (fw : ns.length + 1 < scanBound)
    (q : ∀ (h' : Heap) (tk c : Nat), c ≤ ns.length → SetR w h' s.heap.objs.size (fun j => decide (j ∈ ns)) c → (∀ b o, s.heap.get? b = some o → h'.get? b = some o) → Q (.ref s.heap.objs.size) { s with heap := h', toks := tk }) :
    wpAny (model prog w) A (call (.type "set") [.ref l]) Q E s := by
  have n0 : vs.size = ns.length := by
    rw [← Array.length_toList]
    exact ev.length
  obtain ⟨m1, m2, mro⟩ := F.called_set.mro
  have f1 := F.called_set.made
  have f2 := F.called_set.sub
  have f3 := F.called_set.notType
  have f4 := F.called_set.canCreate
  have f5 := F.typeCall_set_1 (.ref l)
  refine wpAny_call (codeAny_of_tree ?_)
  show wpAny _ _ (callAny (.type "set") _) _ _ _
  refine wpAny_pure ⟨Code.quiet_builtin _ (by decide +kernel), codeAny_builtin F.entry_type_call ?_⟩
  rw [Around.under_plain (weight_type_call_type "set" [.ref l] []) rfl]
  repeat any_goals (first | assumption | wp_step)
  refine codeAny_mono (code_set_led1 (.ref l) (E := E) (Q₁ := fun v s1 => v = .ref s.heap.objs.size ∧ s1 = { s with heap := s.heap.push (emptySet w) }) ⟨rfl, rfl⟩) fun fl s1 r1 => ?_
  match fl, r1 with
  | .error e, r1 => exact r1
  | .ok .next, r1 => exact r1.elim
  | .ok .brk, r1 => exact r1.elim
  | .ok .cont, r1 => exact r1.elim
  | .ok (.ret v), r1 =>
    obtain ⟨rfl, rfl⟩ := r1
    have at_ : (s.heap.push (emptySet w)).get? s.heap.objs.size = some (emptySet w) := Heap.get?_push_size _ rfl
    have ty : Shared.TypeIs { s with heap := s.heap.push (emptySet w) } (.ref s.heap.objs.size) "set" := ⟨_, at_, rfl⟩
    have g1 := F.called_set.init.lookup
    have g2 := F.called_set.init.bind (.ref s.heap.objs.size)
    repeat any_goals (first | assumption | wp_step)
    refine codeAny_mono (codeAny_call_builtin (R := wants (fun r s2 => r = .none ∧ ∃ h' tk c, s2 = { s with heap := h', toks := tk } ∧ c ≤ ns.length ∧ SetR w h' s.heap.objs.size (fun j => decide (j ∈ ns)) c ∧ (∀ b o, s.heap.get? b = some o → h'.get? b = some o)) E)
      F.called_set.init.plain F.entry_set_init (check_set_init_1 ty ?_)) fun fl2 s2 r2 => ?_
    · obtain ⟨ol, oa, oc, on, od⟩ := il
      obtain ⟨cls0, dict0, data0, slots0⟩ := ol
      simp only at oc od
      subst oc
      subst od
      have oa1 : (s.heap.push (emptySet w)).get? l = some { cls := .type "list", dict := dict0, data := .seq vs on, slots := slots0 } := Heap.get?_push_of_some _ oa
      have t1 := F.sub_list_set
      have t2 := F.sub_list_frozenset
      have t3 : (Value.type "list" == Value.type "dict") = false := by decide
      have il1 : (s.heap.push (emptySet w)).IsList l vs := ⟨_, oa1, rfl, on, rfl⟩
      unfold Builtin.«set.__init__» noKeywords Builtin.Frozenset.updateFrom
      generalize eP : pyIter = PI
      wp_walk
      subst eP
      refine wpAny_pyIter_list il1 (wpAny_bind (wpAny_runValue ?_))
      have lt : l < s.heap.objs.size := Heap.lt_size oa
      have z1 : (s.heap.push (emptySet w)).objs.size = s.heap.objs.size + 1 := Heap.size_push ..
      have d1 : l ≠ (s.heap.push (emptySet w)).objs.size := by
        rw [z1]
        exact Nat.ne_of_lt (Nat.lt_succ_of_lt lt)
      have d2 : s.heap.objs.size ∉ [(s.heap.push (emptySet w)).objs.size, l] := by
        rw [z1]
        simp only [List.mem_cons, List.not_mem_nil, or_false, not_or]
        exact ⟨Nat.ne_of_lt (Nat.lt_succ_self _), Nat.ne_of_gt lt⟩
      have val : ∀ (i : Nat) (v : Value), vs[i]? = some v → ∃ k t, ns[i]? = some k ∧ v = .int k t := fun i v hv => by
        have hv2 : vs.toList[i]? = some v := by rw [Array.getElem?_toList]; exact hv
        have il2 := (List.getElem?_eq_some_iff.mp hv2).1
        have in2 : i < ns.length := by rw [← n0]; simpa using il2
        obtain ⟨tk, z⟩ := ev.get i _ (List.getElem?_eq_getElem in2)
        rw [hv2] at z
        exact ⟨_, tk, List.getElem?_eq_getElem in2, Option.some.inj z⟩
      have gone : ∀ b, s.heap.objs.size ≤ b → s.heap.get? b = none := fun b hb => by
        cases z : s.heap.get? b with
        | none => rfl
        | some o => exact absurd (Nat.lt_of_lt_of_le (Heap.lt_size z) hb) (Nat.lt_irrefl _)
      refine set_update_ints ((Walks.list (by simp [nh]) _ l d1 vs).toS) s.heap.objs.size d2 ns n0 fw val (vs.size - 0) 0 _ (by omega) (Nat.zero_le _) ⟨⟨_, Heap.get?_push_size _ rfl, rfl, rfl⟩, il1.push _⟩ ⟨0, Nat.le_refl _, setR_new_at (Heap.get?_push_of_some _ at_)⟩ ?stop
      intro s3 c mv cc R
      have kp : ∀ b o, s.heap.get? b = some o → s3.heap.get? b = some o := fun b o e => by
        refine mv.heap b o (fun hm => ?_) (Heap.get?_push_of_some _ (Heap.get?_push_of_some _ e))
        rcases List.mem_cons.mp hm with hm | hm
        · rw [hm, gone _ (Nat.le_refl _)] at e
          cases e
        · rw [List.mem_singleton.mp hm, gone _ (by rw [z1]; exact Nat.le_succ _)] at e
          cases e
      obtain ⟨h3, g3, dr3, tk3, os3⟩ := s3
      have e1 : g3 = s.gens := mv.gens
      have e2 : dr3 = s.drawn := mv.drawn
      have e3 : os3 = s.os := mv.os
      subst e1
      subst e2
      subst e3
      show wpAny _ _ _ _ _ _
      refine wpAny_pure ?_
      show wpAny _ _ (ret Value.none) _ _ _
      rw [n0] at cc
      exact wpAny_pure ⟨rfl, h3, tk3, c, rfl, cc, R, kp⟩
    · match fl2, r2 with
      | .error e, r2 => exact r2
      | .ok .next, r2 => exact r2.elim
      | .ok .brk, r2 => exact r2.elim
      | .ok .cont, r2 => exact r2.elim
      | .ok (.ret r), r2 =>
        obtain ⟨rfl, h', tk, c, rfl, cc, R, kp⟩ := r2
        repeat any_goals (first | assumption | wp_step)
        exact q _ _ _ cc R kp
end
end SX

set_option Elab.async false
set_option linter.all false
set_option maxRecDepth 100000
set_option maxHeartbeats 4000000
/-! The rule set(xs) of a list of ints. -/
namespace SX
open PySem PySem.Spec PyProof.Rows L2
section
variable {X : Cx}
theorem ints_in : ∀ {ns : List Int} {us : List Value}, Vals (ns.map V.int) us → IntsAre us ns
  | [], _, .nil => .nil
  | n :: ns, _, .cons h t => by
    obtain ⟨k, rfl⟩ := h
    exact .cons _ _ (ints_in t)
/-- set(xs) of a list of ints -/
def rSetI (K : PySem.W.Frag) (w : World) : List V → Hp → VK → Prop := fun vs H Q => ∃ (l : Addr) (ns : List Int), vs = [V.ref l] ∧ SqL K H l (ns.map V.int) ∧ ns.length < 60 ∧
  ∀ (p : Addr) (c : Nat), H p = none → c ≤ ns.length → Q (.ref p) (upd H p (SetO w p (fun j => decide (j ∈ ns)) c))
theorem cr_setI (hc : X.calm = true) : CallR X (.type "set") (rSetI X.K X.w) := by
  intro pins s σ H vs us Q I r h
  obtain ⟨l, ns, rfl, hl, few, q⟩ := h
  obtain ⟨its, rv, pl, hz⟩ := I.list hl
  obtain ⟨u, rfl, ru⟩ := vals1 r
  obtain rfl : u = Value.ref l := ru
  have hn : H s.heap.objs.size = none := I.hok.fresh (Nat.le_refl _)
  have sc : 64 < scanBound := by decide +kernel
  refine madeI (prog := X.prog) (w := X.w) (I.ok.hd hc) pl.isList (by simpa using ints_in rv) (by omega) fun h' tk c cc R k => ?_
  exact ⟨.ref s.heap.objs.size, upd H s.heap.objs.size (SetO X.w s.heap.objs.size (fun j => decide (j ∈ ns)) c), I.laid (t' := tk) k (Nat.le_refl _) (setO_new R), rfl, q _ c hn cc⟩
end
end SX

set_option Elab.async false
set_option linter.all false
set_option maxRecDepth 100000
set_option maxHeartbeats 4000000
/-! The law's own standings, what it reaches. -/
namespace K02
open PySem L2 L2.EV
abbrev sLStandings : Stmt := top 19
abbrev sReached : Stmt := top 23
abbrev Pr := Int × Int
def st1 (fs : List Int) (x : Pr) : List Int := if x.1 ∈ fs ∧ x.2 ∉ fs then fs ++ [x.2] else fs
def pass (L : List Pr) (fs : List Int) : List Int := L.foldl st1 fs
def passes (L : List Pr) : Nat → List Int
  | 0 => [0]
  | n + 1 => pass L (passes L n)
def ClosedP (L : List Pr) (fs : List Int) : Prop := ∀ x ∈ L, x.1 ∈ fs → x.2 ∈ fs
def RchP (L : List Pr) (g : Int) : Prop := ∀ S : Int → Prop, (∀ x ∈ L, x.1 = 0 → S x.2) → (∀ x ∈ L, S x.1 → S x.2) → S g
theorem st1_sub {fs : List Int} {x : Pr} {g : Int} (h : g ∈ fs) : g ∈ st1 fs x := by
  unfold st1
  split
  · exact List.mem_append_left _ h
  · exact h
theorem pass_sub : ∀ {L : List Pr} {fs : List Int} {g : Int}, g ∈ fs → g ∈ pass L fs
  | [], _, _, h => h
  | x :: L, fs, g, h => pass_sub (L := L) (st1_sub h)
theorem pass_hit : ∀ {L : List Pr} {fs : List Int} {x : Pr}, x ∈ L → x.1 ∈ fs → x.2 ∈ pass L fs
  | y :: L, fs, x, h, h1 => by
    rcases List.mem_cons.mp h with rfl | h
    · refine pass_sub (L := L) ?_
      unfold st1
      split
      · simp
      · next c =>
        exact Classical.byContradiction fun n => c ⟨h1, n⟩
    · exact pass_hit (L := L) h (st1_sub h1)
theorem st1_nodup {fs : List Int} {x : Pr} (h : fs.Nodup) : (st1 fs x).Nodup := by
  unfold st1
  split
  · next c =>
    refine List.nodup_append.mpr ⟨h, by simp, fun a ha b hb => ?_⟩
    have e : b = x.2 := by simpa using hb
    rw [e]
    exact fun z => c.2 (z ▸ ha)
  · exact h
theorem pass_nodup : ∀ {L : List Pr} {fs : List Int}, fs.Nodup → (pass L fs).Nodup
  | [], _, h => h
  | x :: L, fs, h => pass_nodup (L := L) (st1_nodup h)
theorem st1_from {fs : List Int} {x : Pr} {g : Int} (h : g ∈ st1 fs x) : g ∈ fs ∨ (g = x.2 ∧ x.1 ∈ fs) := by
  unfold st1 at h
  split at h
  · next c =>
    rcases List.mem_append.mp h with h | h
    · exact .inl h
    · exact .inr ⟨by simpa using h, c.1⟩
  · exact .inl h
theorem pass_inv {S : Int → Prop} : ∀ {L : List Pr} {fs : List Int}, (∀ g ∈ fs, S g) → (∀ x ∈ L, S x.1 → S x.2) → ∀ g ∈ pass L fs, S g
  | [], _, h, _ => h
  | x :: L, fs, h, c => pass_inv (L := L) (fun g hg => by
      rcases st1_from hg with z | ⟨z, y⟩
      · exact h g z
      · rw [z]
        exact c x (List.mem_cons_self ..) (h _ y)) fun y hy => c y (List.mem_cons_of_mem _ hy)
theorem passes_nodup {L : List Pr} : ∀ n, (passes L n).Nodup
  | 0 => by simp [passes]
  | n + 1 => pass_nodup (passes_nodup n)
theorem passes_zero {L : List Pr} : ∀ n, (0 : Int) ∈ passes L n
  | 0 => by simp [passes]
  | n + 1 => pass_sub (passes_zero n)
theorem passes_sound {L : List Pr} : ∀ n, ∀ g ∈ passes L n, g = 0 ∨ RchP L g
  | 0, g, h => .inl (by simpa [passes] using h)
  | n + 1, g, h => pass_inv (S := fun g => g = 0 ∨ RchP L g) (passes_sound n) (fun x hx z => .inr (by
      rcases z with z | z
      · exact fun S c0 _ => c0 x hx z
      · exact fun S c0 c1 => c1 x hx (z S c0 c1))) g h
theorem passes_targets {L : List Pr} : ∀ n, ∀ g ∈ passes L n, g ∈ 0 :: L.map (·.2)
  | 0, g, h => by
    have : g = 0 := by simpa [passes] using h
    rw [this]
    exact List.mem_cons_self ..
  | n + 1, g, h => pass_inv (S := fun g => g ∈ 0 :: L.map (·.2)) (passes_targets n) (fun x hx _ => List.mem_cons_of_mem _ (List.mem_map.mpr ⟨x, hx, rfl⟩)) g h
theorem passes_grow {L : List Pr} : ∀ n, ClosedP L (passes L n) ∨ n + 1 ≤ (passes L n).length
  | 0 => .inr (Nat.le_refl _)
  | n + 1 => by
    have nd := passes_nodup (L := L) (n + 1)
    rcases passes_grow (L := L) n with c | c
    · left
      have same : ∀ g ∈ passes L (n + 1), g ∈ passes L n := pass_inv (S := fun g => g ∈ passes L n) (fun g h => h) fun x hx h => c x hx h
      exact fun x hx h => pass_sub (c x hx (same _ h))
    · by_cases k : ClosedP L (passes L n)
      · left
        have same : ∀ g ∈ passes L (n + 1), g ∈ passes L n := pass_inv (S := fun g => g ∈ passes L n) (fun g h => h) fun x hx h => k x hx h
        exact fun x hx h => pass_sub (k x hx (same _ h))
      · right
        obtain ⟨x, hx⟩ := Classical.not_forall.mp k
        obtain ⟨hx, z⟩ := Classical.not_imp.mp hx
        obtain ⟨h1, h2⟩ := Classical.not_imp.mp z
        have := (show (x.2 :: passes L n).Nodup from List.nodup_cons.mpr ⟨h2, passes_nodup n⟩).length_le_of_subset (l₂ := passes L (n + 1)) fun g hg => by
          rcases List.mem_cons.mp hg with rfl | hg
          · exact pass_hit hx h1
          · exact pass_sub hg
        rw [List.length_cons] at this
        omega
theorem passes_closed {L : List Pr} : ClosedP L (passes L L.length) := by
  rcases passes_grow (L := L) L.length with c | c
  · exact c
  · -- all the targets have come
    have sub := passes_targets (L := L) L.length
    have nd := passes_nodup (L := L) L.length
    refine fun x hx _ => Classical.byContradiction fun n => ?_
    have len : (passes L L.length).length ≤ ((0 :: L.map (·.2)).erase x.2).length := nd.length_le_of_subset fun g hg => by
      have ne : g ≠ x.2 := fun z => n (z ▸ hg)
      exact (List.mem_erase_of_ne ne).mpr (sub g hg)
    rw [List.length_erase_of_mem (List.mem_cons_of_mem _ (List.mem_map.mpr ⟨x, hx, rfl⟩)), List.length_cons, List.length_map] at len
    omega
theorem passes_iff {L : List Pr} (g : Int) : g ∈ passes L L.length ↔ g = 0 ∨ RchP L g := by
  refine ⟨passes_sound _ g, fun z => ?_⟩
  rcases z with rfl | z
  · exact passes_zero _
  · exact z (fun g => g ∈ passes L L.length) (fun x hx e => passes_closed x hx (by rw [e]; exact passes_zero _)) fun x hx h => passes_closed x hx h
theorem pass_len : ∀ {L : List Pr} {fs : List Int}, (pass L fs).length ≤ fs.length + L.length
  | [], _ => Nat.le_refl _
  | x :: L, fs => by
    have h := pass_len (L := L) (fs := st1 fs x)
    have : (st1 fs x).length ≤ fs.length + 1 := by
      unfold st1
      split
      · simp
      · omega
    show (pass L (st1 fs x)).length ≤ _
    rw [List.length_cons]
    omega
theorem passes_len {L : List Pr} : ∀ n, (passes L n).length ≤ 1 + n * L.length
  | 0 => by simp [passes]
  | n + 1 => by
    have a := passes_len (L := L) n
    have b := pass_len (L := L) (fs := passes L n)
    show (pass L (passes L n)).length ≤ _
    rw [Nat.succ_mul]
    omega
/-- pairs at ts -/
def At2 (H : Hp) (ts : List Addr) (L : List Pr) : Prop := ts.length = L.length ∧ ∀ (i : Nat) t x, ts[i]? = some t → L[i]? = some x → H t = some (.tup [.int x.1, .int x.2])
def spReached : Sp := fun vs H Q _ => ∃ (p : Addr) (ts : List Addr) (L : List Pr), vs = [.ref p, .int 0] ∧ H p = some (.lst (ts.map V.ref)) ∧ At2 H ts L ∧ L.length ≤ 16 ∧
  ∀ (H' : Hp) (r : Addr) (ns : List Int), Same H H' → H' r = some (.lst (ns.map V.int)) → ns.Pairwise (· < ·) → (∀ k, k ∈ ns ↔ k = 0 ∨ RchP L k) → Q (.ref r) H'
def spLStandings : Sp := fun vs H Q _ => ∃ (f : Addr) (fr : List T3), vs = [.ref f] ∧ FrA H f fr ∧ fr.length ≤ 16 ∧
  ∀ (H' : Hp) (p : Addr) (ns : List Int), Same H H' → H' p = some (.lst (ns.map V.int)) → ns.Pairwise (· < ·) → (∀ k, k ∈ ns ↔ ∃ x ∈ fr, k = x.1 ∨ k = x.2.2) → Q (.ref p) H'
structure Lj (K : PySem.W.Frag) (mg : Str → Option Value) where
  so : mg "sorted" = none
  se : mg "set" = none
  ra : mg "range" = none
  le : mg "len" = none
  f1 : Addr
  d1 : FuncData
  F1 : Fun K "_law_standings" "_law_standings" sLStandings f1 d1
  b1 : Binds K d1 ["framing"] []
  m1 : mg "_law_standings" = some (.ref f1)
  f2 : Addr
  d2 : FuncData
  F2 : Fun K "_law_all_reached" "_law_all_reached" sReached f2 d2
  b2 : Binds K d2 ["pairs", "begin"] []
  m2 : mg "_law_all_reached" = some (.ref f2)
theorem inV_dec (g : Int) (l : List Int) : inV (.int g) (l.map V.int) = decide (g ∈ l) := by
  unfold inV
  rw [List.any_map]
  by_cases h : g ∈ l
  · rw [decide_eq_true h, List.any_eq_true]
    exact ⟨g, h, by simp [eqV]⟩
  · rw [decide_eq_false h, List.any_eq_false]
    intro y hy z
    have z : eqV (.int y) (.int g) = true := z
    have e : y = g := by simpa [eqV] using z
    exact h (e ▸ hy)
theorem flat_ints (l : List Int) : (l.map V.int).all flatV = true := by
  rw [List.all_eq_true]
  intro x hx
  obtain ⟨y, _, rfl⟩ := List.mem_map.mp hx
  rfl
section
variable {P : Program} {w : World} {K : PySem.W.Frag} {mg : Str → Option Value} {base : Heap}
theorem scReached : FnScope ["pairs", "begin", "found", "turn", "one", "other"] ["pairs", "begin"] (defScope sReached) := ⟨rfl, rfl, rfl, by decide +kernel, rfl, by decide +kernel, by decide +kernel⟩
theorem ok_reached (Z : Lj K mg) : FnOk P w K mg base CX0 1 Z.f2 Z.d2 ["pairs", "begin"] spReached := by
  refine Z.F2.ok scReached (fun vs H Q E h => ?_) (fun cdv A outer s H vs Q E hr h => ?_)
  · obtain ⟨p, ts, L, rfl, _⟩ := h
    rfl
  · obtain ⟨p, ts, L, rfl, hp, a2, l16, q⟩ := h
    refine ⟨_, pss_cons (ps_set (i := 2) scReached.nd rfl (Or.inl rfl) (pe_lst (pa_cons (pv 1) pa_nil)))
      (pss_cons (ps_for PassesOwn.never rfl (pi_range1 (by rfl) Z.ra (pa_cons (pe_callB call_len_seq (by rfl) Z.le PySem.boot_len (pa_cons (pv 0) pa_nil)) pa_nil)) (pg_name (i := 3) scReached.nd rfl (Or.inl rfl))
        (pss_one (ps_for PassesOwn.never rfl (pi_list (pv 0)) (pg_tup rfl (pgs_cons (pg_name (i := 4) scReached.nd rfl (Or.inl rfl)) (pgs_cons (pg_name (i := 5) scReached.nd rfl (Or.inl rfl)) pgs_nil)))
          (pss_one (ps_if (pw_and (pt_cmpR op_in_seq (pv 4) (pv 2) (by rfl)) (pw_and1 (pt_cmpR op_notIn_seq (pv 5) (pv 2) (by rfl)))).pt
            (pss_one (ps_expr (pe_bm PySem.F.plainAttrs_list PySem.F.slot_list_append PySem.F.type_list_append mt_append (pv 2) (pa_cons (pv 5) pa_nil)))) pss_nil)))))
      (pss_one (ps_ret (pe_callB cr_sortedI (by rfl) Z.so (by decide +kernel) (pa_cons (pv 2) pa_nil))))), ?_⟩
    refine ⟨_, rfl, (by show 1 ≤ sizeLine; decide), fun F hF => ?_⟩
    have uF := same_upd (o := HO.lst [V.int 0]) hF
    have lt : ts.length = L.length := a2.1
    refine ⟨_, rfl, p, _, rfl, .inl (SqL.of (uF _ _ hp)), _, rfl, by rw [List.length_map]; omega, by rw [List.length_map]; omega, ?_⟩
    have hN : (((ts.map V.ref).length : Nat) : Int).toNat = L.length := by rw [List.length_map, lt]; omega
    rw [hN]
    have small : ∀ i k, i ≤ L.length → (pass (L.take k) (passes L i)).length ≤ 400 := fun i k hi => by
      have a := passes_len (L := L) i
      have b := pass_len (L := L.take k) (fs := passes L i)
      rw [List.length_take] at b
      have c : i * L.length ≤ 16 * 16 := Nat.mul_le_mul (by omega) l16
      omega
    refine for_it walk_range (fun i σ H' => ∃ (v3 v4 v5 : Option V), σ = [some (.ref p), some (.int 0), some (.ref F), v3, v4, v5] ∧ Same H H' ∧ H' F = some (.lst ((passes L i).map V.int)))
      ⟨none, none, none, rfl, uF, upd_same⟩ (fun _ _ _ _ _ => trivial) ?_ ?_
    · rintro i x σ H1z H1 hi ⟨v3, v4, v5, rfl, s1, h1⟩ ⟨rfl, rfl⟩
      refine ⟨_, rfl, p, rfl, ⟨_, SqL.of (s1 _ _ hp)⟩, for_it (walk_list (xs := ts.map V.ref)) (fun k σ H' => ∃ (v4 v5 : Option V), σ = [some (.ref p), some (.int 0), some (.ref F), some (.int (0 + (i : Int))), v4, v5] ∧ Same H H' ∧ H' F = some (.lst ((pass (L.take k) (passes L i)).map V.int)))
        ⟨v4, v5, rfl, s1, h1⟩ (fun k σ H' _ ⟨_, _, _, z, _⟩ => SqL.of (z _ _ hp)) ?_ ?_⟩
      · rintro k x σ H2z H2 hk ⟨v4, v5, rfl, s2, h2⟩ ⟨rfl, hx⟩
        obtain ⟨t, ht, rfl⟩ : ∃ t, ts[k]? = some t ∧ x = V.ref t := by
          rw [List.getElem?_map] at hx
          cases e : ts[k]? with
          | none =>
            rw [e] at hx
            cases hx
          | some t =>
            rw [e] at hx
            exact ⟨t, rfl, (Option.some.inj hx).symm⟩
        have kl : k < L.length := by
          have := (List.getElem?_eq_some_iff.mp ht).1
          omega
        have e1 := s2 _ _ (a2.2 k t _ ht (List.getElem?_eq_getElem kl))
        have sm := small i k (by omega)
        have nx : pass (L.take (k + 1)) (passes L i) = st1 (pass (L.take k) (passes L i)) L[k] := by
          rw [take_one (List.getElem?_eq_getElem kl)]
          unfold pass
          rw [List.foldl_append]
          rfl
        refine ⟨t, _, rfl, SqT.of e1, rfl, _, _, rfl, _, _, rfl, rfl, ?_⟩
        refine ⟨_, rfl, _, rfl, F, _, rfl, .inl (SqL.of h2), rfl, flat_ints _, _, rfl, ?_⟩
        rw [if_neg (by simp), inV_dec]
        generalize hfs : pass (L.take k) (passes L i) = fs at nx h2 sm
        by_cases c1 : L[k].1 ∈ fs
        · refine iteT' (decide_eq_true c1) ?_
          refine ⟨_, rfl, _, rfl, F, _, rfl, .inl (SqL.of h2), rfl, flat_ints _, _, rfl, ?_⟩
          rw [if_pos rfl, inV_dec]
          by_cases c2 : L[k].2 ∈ fs
          · refine iteF' (by rw [decide_eq_true c2]; rfl) ?_
            refine ⟨_, _, rfl, s2, ?_⟩
            rw [nx]
            unfold st1
            rw [if_neg fun z => z.2 c2]
            exact h2
          · refine iteT' (by rw [decide_eq_false c2]; rfl) ?_
            refine ⟨_, rfl, .inl ⟨rfl, _, SqL.of h2⟩, _, rfl, F, _, _, rfl, rfl, h2, by rw [List.length_map, sizeLine_eq]; omega, ?_⟩
            refine ⟨_, _, rfl, same_set hF s2, ?_⟩
            rw [nx]
            unfold st1
            rw [if_pos ⟨c1, c2⟩, List.map_append]
            exact upd_same
        · refine iteF' (decide_eq_false c1) ?_
          refine ⟨_, _, rfl, s2, ?_⟩
          rw [nx]
          unfold st1
          rw [if_neg fun z => c1 z.1]
          exact h2
      · rintro σ H2 ⟨v4, v5, rfl, s2, h2⟩
        rw [show L.take (ts.map V.ref).length = L by rw [List.length_map, lt, List.take_length]] at h2
        exact ⟨_, _, _, rfl, s2, h2⟩
    · rintro σ H2 ⟨v3, v4, v5, rfl, s2, h2⟩
      refine ⟨_, rfl, F, _, rfl, SqL.of h2, fun ns r pm srt hr => ?_⟩
      refine q _ r ns (s2.trans (same_upd hr)) upd_same ?_ fun k => by rw [pm.mem_iff]; exact passes_iff k
      have nd : ns.Nodup := pm.nodup_iff.mpr (passes_nodup _)
      refine (srt.and nd).imp fun {x y} z => ?_
      have := z.1
      have := z.2
      omega
end
end K02

set_option Elab.async false
set_option linter.all false
set_option maxRecDepth 100000
set_option maxHeartbeats 4000000
/-! The law's own standings; joined, as the law has it. -/
namespace K02
open PySem L2 L2.EV
def flip3 (x : T3) : T3 := (x.2.2, x.2.1, x.1)
theorem rch_trans {fr : List T3} {a b c : Int} (h1 : Rch fr a b) (h2 : Rch fr b c) : Rch fr a c := fun S c0 c1 => h2 S (fun x hx e => c1 x hx (by rw [e]; exact h1 S c0 c1)) c1
theorem rch_front {fr : List T3} {b g : Int} {y : T3} (hy : y ∈ fr) (e : y.1 = b) (h : Rch fr y.2.2 g) : Rch fr b g := rch_trans (rch_step hy e) h
theorem rch_flip {fr : List T3} {g b : Int} (h : Rch fr g b) : Rch (fr.map flip3) b g :=
  h (fun z => Rch (fr.map flip3) z g) (fun x hx e => rch_step (x := flip3 x) (List.mem_map.mpr ⟨x, hx, rfl⟩) rfl |> fun k => by
      have k : Rch (fr.map flip3) x.2.2 x.1 := k
      rw [e] at k
      exact k)
    (fun x hx k => rch_front (y := flip3 x) (List.mem_map.mpr ⟨x, hx, rfl⟩) rfl k)
theorem flip_flip (fr : List T3) : (fr.map flip3).map flip3 = fr := by
  rw [List.map_map]
  exact List.map_id fr
theorem rch_flip_iff {fr : List T3} {g b : Int} : Rch (fr.map flip3) b g ↔ Rch fr g b := ⟨fun h => by
  have z := rch_flip h
  rw [flip_flip] at z
  exact z, rch_flip⟩

def pairsA (fr : List T3) : List Pr := fr.map fun x => (x.1, x.2.2)
def pairsB (fr : List T3) : List Pr := fr.map fun x => (x.2.2, x.1)
theorem rchA {fr : List T3} {g : Int} : RchP (pairsA fr) g ↔ Rch fr 0 g := by
  constructor
  · intro h S c0 c1
    refine h S (fun x hx e => ?_) fun x hx e => ?_
    · obtain ⟨y, hy, rfl⟩ := List.mem_map.mp hx
      exact c0 y hy e
    · obtain ⟨y, hy, rfl⟩ := List.mem_map.mp hx
      exact c1 y hy e
  · intro h S c0 c1
    exact h S (fun x hx e => c0 (x.1, x.2.2) (List.mem_map.mpr ⟨x, hx, rfl⟩) e) fun x hx e => c1 (x.1, x.2.2) (List.mem_map.mpr ⟨x, hx, rfl⟩) e
theorem rchB {fr : List T3} {g : Int} : RchP (pairsB fr) g ↔ Rch fr g 0 := by
  rw [← rch_flip_iff, ← rchA]
  unfold pairsA pairsB
  rw [List.map_map]
  rfl
theorem rch_target {fr : List T3} {b g : Int} (h : Rch fr b g) : ∃ x ∈ fr, g = x.2.2 := h (fun g => ∃ x ∈ fr, g = x.2.2) (fun x hx _ => ⟨x, hx, rfl⟩) fun x hx _ => ⟨x, hx, rfl⟩
theorem rch_source {fr : List T3} {b g : Int} (h : Rch fr b g) : ∃ x ∈ fr, b = x.1 := Classical.byContradiction fun n => by
  have z : ∀ g, Rch fr b g → False := fun g h => h (fun _ => False) (fun x hx e => n ⟨x, hx, e.symm⟩) fun _ _ f => f
  exact z g h
/-- the law's own lists are alike just if the framing is joined -/
theorem jnd_law {fr : List T3} (ne : fr ≠ []) {A B S : List Int} (hA : ∀ k, k ∈ A ↔ k = 0 ∨ Rch fr 0 k) (hB : ∀ k, k ∈ B ↔ k = 0 ∨ Rch fr k 0) (hS : ∀ k, k ∈ S ↔ ∃ x ∈ fr, k = x.1 ∨ k = x.2.2) :
    ((∀ k, k ∈ A ↔ k ∈ S) ∧ ∀ k, k ∈ B ↔ k ∈ S) ↔ Jnd fr := by
  constructor
  · rintro ⟨a, b⟩
    have z : Rch fr 0 0 := by
      obtain ⟨x, hx⟩ := List.exists_mem_of_ne_nil _ ne
      have a1 := (hA _).mp ((a x.1).mpr ((hS _).mpr ⟨x, hx, .inl rfl⟩))
      have b2 := (hB _).mp ((b x.2.2).mpr ((hS _).mpr ⟨x, hx, .inr rfl⟩))
      have st : Rch fr 0 x.2.2 := by
        rcases a1 with e | e
        · exact rch_step hx e
        · exact rch_go hx e
      rcases b2 with e | e
      · rw [e] at st
        exact st
      · exact rch_trans st e
    have toA : ∀ k, k ∈ S → Rch fr 0 k := fun k hk => by
      rcases (hA k).mp ((a k).mpr hk) with e | e
      · rw [e]
        exact z
      · exact e
    have toB : ∀ k, k ∈ S → Rch fr k 0 := fun k hk => by
      rcases (hB k).mp ((b k).mpr hk) with e | e
      · rw [e]
        exact z
      · exact e
    intro x hx
    have s1 := (hS x.1).mpr ⟨x, hx, .inl rfl⟩
    have s2 := (hS x.2.2).mpr ⟨x, hx, .inr rfl⟩
    exact ⟨⟨toA _ s1, toB _ s1⟩, toA _ s2, toB _ s2⟩
  · intro j
    obtain ⟨x, hx⟩ := List.exists_mem_of_ne_nil _ ne
    have z0 : (0 : Int) ∈ S := by
      obtain ⟨y, hy, e⟩ := rch_target (j x hx).1.2
      exact (hS _).mpr ⟨y, hy, .inr e⟩
    have all : ∀ k, k ∈ S → Rch fr 0 k ∧ Rch fr k 0 := fun k hk => by
      obtain ⟨y, hy, e⟩ := (hS k).mp hk
      rcases e with rfl | rfl
      · exact (j y hy).1
      · exact (j y hy).2
    refine ⟨fun k => ⟨fun hk => ?_, fun hk => (hA k).mpr (.inr (all k hk).1)⟩, fun k => ⟨fun hk => ?_, fun hk => (hB k).mpr (.inr (all k hk).2)⟩⟩
    · rcases (hA k).mp hk with rfl | h
      · exact z0
      · obtain ⟨y, hy, e⟩ := rch_target h
        exact (hS _).mpr ⟨y, hy, .inr e⟩
    · rcases (hB k).mp hk with rfl | h
      · exact z0
      · obtain ⟨y, hy, e⟩ := rch_source h
        exact (hS _).mpr ⟨y, hy, .inl e⟩
section
variable {P : Program} {w : World} {K : PySem.W.Frag} {mg : Str → Option Value} {base : Heap}
theorem scLStandings : FnScope ["framing", "step"] ["framing"] (defScope sLStandings) := ⟨rfl, rfl, rfl, by decide +kernel, rfl, by decide +kernel, by decide +kernel⟩
theorem ok_lstandings (Z : Lj K mg) : FnOk P w K mg base CX0 1 Z.f1 Z.d1 ["framing"] spLStandings := by
  refine Z.F1.ok scLStandings (fun vs H Q E h => ?_) (fun cdv A outer s H vs Q E hr h => ?_)
  · obtain ⟨f, fr, rfl, _⟩ := h
    rfl
  · obtain ⟨f, fr, rfl, fa, l1, q⟩ := h
    refine ⟨_, pss_one (ps_ret (pe_callB (cr_sortedSet rfl) (by rfl) Z.so (by decide +kernel) (pa_cons (pe_callTy (SX.cr_setI rfl) (by rfl) Z.se (by decide +kernel) (pa_cons (pe_op op_cat
        (pe_lc (own := [("step", 1)]) (g := gName 1) (te := tOp (rIxT K) (tVar 1) (tC (.int 0))) rfl scLStandings.nd (pi_tup (pv 0)) (blkOk_by (N := ["framing", "step"]) (sc := defScope sLStandings) (by decide +kernel)) (fun _ _ _ _ _ => pg_name (i := 1) scLStandings.nd rfl (Or.inl rfl)) (fun _ _ _ _ _ => pts_nil) (fun _ _ _ _ _ => pe_ix ix_tup (pv 1) pe_int (fun _ _ => rfl)))
        (pe_lc (own := [("step", 1)]) (g := gName 1) (te := tOp (rIxT K) (tVar 1) (tC (.int 2))) rfl scLStandings.nd (pi_tup (pv 0)) (blkOk_by (N := ["framing", "step"]) (sc := defScope sLStandings) (by decide +kernel)) (fun _ _ _ _ _ => pg_name (i := 1) scLStandings.nd rfl (Or.inl rfl)) (fun _ _ _ _ _ => pts_nil) (fun _ _ _ _ _ => pe_ix ix_tup (pv 1) pe_int (fun _ _ => rfl)))) pa_nil)) pa_nil))), ?_⟩
    obtain ⟨ts, hf, hl, ht⟩ := id fa
    have col : ∀ (H0 : Hp) (D : Addr) (j : Nat) (g : T3 → Int) (R : Hp → Prop), True := fun _ _ _ _ _ => trivial
    clear col
    refine ⟨_, rfl, f, rfl, ⟨_, SqT.of hf⟩, fun D hD => ?_⟩
    refine lc_it (walk_tup (xs := ts.map V.ref)) (fun i H' => H' D = some (.lst (((fr.take i).map fun x => x.1).map V.int)) ∧ ∀ b o, H b = some o → H' b = some o) ⟨upd_same, fun b o z => same_upd hD b o z⟩ (fun i H' _ z => SqT.of (z.2 _ _ hf)) ?_ ?_
    · rintro i x H2 H3 hi ⟨hl2, kp⟩ ⟨rfl, hx⟩
      obtain ⟨t, y, hy, rfl, e4⟩ := at_step (i := i) hl ht hx
      refine ⟨rfl, ⟨_, rfl, t, _, 0, _, rfl, rfl, SqT.of (kp _ _ e4), atI_nat (j := 0) rfl, _, hl2, ?_, ?_, fun b o z => ?_⟩⟩
      · rw [List.length_map, List.length_map, List.length_take, sizeLine_eq]
        omega
      · rw [take_one hy, List.map_append, List.map_append]
        exact upd_same
      · rw [upd_ne (ne_of_none z hD)]
        exact kp b o z
    rintro H2 ⟨hl2, kp⟩
    rw [List.length_map, hl, List.take_length] at hl2
    refine ⟨_, rfl, f, rfl, ⟨_, SqT.of (kp _ _ hf)⟩, fun D2 hD2 => ?_⟩
    have nD : D ≠ D2 := ne_of_none hl2 hD2
    refine lc_it (walk_tup (xs := ts.map V.ref)) (fun i H' => H' D2 = some (.lst (((fr.take i).map fun x => x.2.2).map V.int)) ∧ ∀ b o, H2 b = some o → H' b = some o) ⟨upd_same, fun b o z => same_upd hD2 b o z⟩ (fun i H' _ z => SqT.of (z.2 _ _ (kp _ _ hf))) ?_ ?_
    · rintro i x H3 H4 hi ⟨hl3, kp3⟩ ⟨rfl, hx⟩
      obtain ⟨t, y, hy, rfl, e4⟩ := at_step (i := i) hl ht hx
      refine ⟨rfl, ⟨_, rfl, t, _, 2, _, rfl, rfl, SqT.of (kp3 _ _ (kp _ _ e4)), atI_nat (j := 2) rfl, _, hl3, ?_, ?_, fun b o z => ?_⟩⟩
      · rw [List.length_map, List.length_map, List.length_take, sizeLine_eq]
        omega
      · rw [take_one hy, List.map_append, List.map_append]
        exact upd_same
      · rw [upd_ne (ne_of_none z hD2)]
        exact kp3 b o z
    rintro H3 ⟨hl3, kp3⟩
    rw [List.length_map, hl, List.take_length] at hl3
    refine ⟨D, D2, _, _, rfl, rfl, kp3 _ _ hl2, hl3, by rw [List.length_map, List.length_map, List.length_map, List.length_map, sizeLine_eq]; omega, fun p hp => ?_⟩
    have up := same_upd (o := HO.lst ((fr.map fun x => x.1).map V.int ++ (fr.map fun x => x.2.2).map V.int)) hp
    refine ⟨p, (fr.map fun x => x.1) ++ fr.map fun x => x.2.2, rfl, by rw [List.map_append]; exact SqL.of upd_same, by rw [List.length_append, List.length_map, List.length_map]; omega, fun p2 c n2 cc => ?_⟩
    have u2 := same_upd (o := SetO w p2 (fun j => decide (j ∈ (fr.map fun x => x.1) ++ fr.map fun x => x.2.2)) c) n2
    refine ⟨p2, _, c, rfl, upd_same, ?_, fun ns p3 srt mem len n3 => ?_⟩
    · rw [List.length_append, List.length_map, List.length_map] at cc
      omega
    · have u3 := same_upd (o := HO.lst (ns.map V.int)) n3
      have sm : Same H _ := ((show Same H H2 from kp).trans (show Same H2 H3 from kp3)).trans ((up.trans u2).trans u3)
      refine q _ p3 ns sm upd_same srt fun k => ?_
      rw [mem k]
      constructor
      · intro z
        have z := of_decide_eq_true z
        rcases List.mem_append.mp z with z | z
        · obtain ⟨x, hx, rfl⟩ := List.mem_map.mp z
          exact ⟨x, hx, .inl rfl⟩
        · obtain ⟨x, hx, rfl⟩ := List.mem_map.mp z
          exact ⟨x, hx, .inr rfl⟩
      · rintro ⟨x, hx, h⟩
        refine decide_eq_true (List.mem_append.mpr ?_)
        rcases h with rfl | rfl
        · exact .inl (List.mem_map.mpr ⟨x, hx, rfl⟩)
        · exact .inr (List.mem_map.mpr ⟨x, hx, rfl⟩)
end
end K02

set_option Elab.async false
set_option linter.all false
set_option maxRecDepth 100000
/-! x < y of two tuples (int, text, int). -/
namespace L2
open PySem PySem.Spec PyProof.Rows
def rLt3 : R2 := fun x y H Q => ∃ (a b : Addr) (m n : T3), x = .ref a ∧ y = .ref b ∧ H a = some (.tup [.int m.1, .str m.2.1, .int m.2.2]) ∧ H b = some (.tup [.int n.1, .str n.2.1, .int n.2.2]) ∧ Q (.bl (lt3 m n)) H
def lexE (m n : T3) : Nat → Bool := fun j => if j = 0 then m.1 == n.1 else if j = 1 then m.2.1 == n.2.1 else m.2.2 == n.2.2
def lexL (m n : T3) : Nat → Bool := fun j => if j = 0 then decide (m.1 < n.1) else if j = 1 then decide (sl m.2.1 < sl n.2.1) else decide (m.2.2 < n.2.2)
theorem lex_lt3 (m n : T3) : Ob.lexAt (lexE m n) (lexL m n) false 0 3 = lt3 m n := by
  obtain ⟨m1, m2, m3⟩ := m
  obtain ⟨n1, n2, n3⟩ := n
  simp only [Ob.lexAt, lt3, lexE, lexL]
  by_cases e1 : m1 = n1
  · subst e1
    by_cases e2 : m2 = n2
    · subst e2
      by_cases e3 : m3 = n3
      · subst e3
        simp
      · simp [e3]
    · simp [e2]
  · simp [e1]
section
variable {X : Cx}
theorem op_lt3 (hu : X.A.units < cLine) : OpR X (compareOp .Lt) rLt3 := by
  intro pins s σ H x y v u Q I rx ry h
  obtain ⟨a, b, m, n, rfl, rfl, ha, hb, q⟩ := h
  cases rx
  cases ry
  obtain ⟨l1, r1, p1, _⟩ := I.tuple (SqT.of ha)
  obtain ⟨l2, r2, p2, _⟩ := I.tuple (SqT.of hb)
  obtain ⟨_, _, _, rfl, ⟨t1, rfl⟩, ⟨t2, rfl⟩, ⟨t3, rfl⟩⟩ := vals_3 r1
  obtain ⟨_, _, _, rfl, ⟨w1, rfl⟩, ⟨w2, rfl⟩, ⟨w3, rfl⟩⟩ := vals_3 r2
  have R := Ob.RcOp.tuples_lt (A := X.A) (s := s) (e := lexE m n) (r := lexL m n) p1 p2 hu
    (fun j h1 _ => match j, h1 with
      | 0, _ => SeqAt.EqAt.int_int _ _ _ _
      | 1, _ => SeqAt.EqAt.str_str _ _ _ _
      | 2, _ => SeqAt.EqAt.int_int _ _ _ _)
    (fun j h1 _ _ => match j, h1 with
      | 0, _ => Ob.RcOp.lt_int _ _ _ _
      | 1, _ => lt_strR _ _ _ _
      | 2, _ => Ob.RcOp.lt_int _ _ _ _)
  refine R X.prog X.w X.xe (EP X pins σ Q) ⟨.bl _, H, I, rfl, ?_⟩
  show Q (.bl (Ob.lexAt (lexE m n) (lexL m n) false 0 3)) H
  rw [lex_lt3]
  exact q
end
end L2

set_option Elab.async false
set_option linter.all false
set_option maxRecDepth 100000
set_option maxHeartbeats 4000000
/-! The law's own fault. -/
namespace K02
open PySem L2 L2.EV
abbrev sFault : Stmt := top 24
def spFault : Sp := fun vs H Q _ => ∃ (v : V) (d : PyData) (r : Option (Option Int)), vs = [v] ∧ Da H v d ∧ (∀ e ∈ itemsD d, ∀ g ∈ itemsD e, stOk g) ∧ FaultIs d r ∧
  (r = none → ∀ H', Same H H' → Q .non H') ∧ ∀ i, r = some i → ∀ (H' : Hp) (p : Addr), Same H H' → H' p = some (.lst [valF i]) → Q (.ref p) H'
structure Lk (K : PySem.W.Frag) (mg : Str → Option Value) where
  I : Li K mg
  J : Lj K mg
  en : mg "enumerate" = none
  f : Addr
  d : FuncData
  F : Fun K "_law_fault" "_law_fault" sFault f d
  b : Binds K d ["thing"] []
  m : mg "_law_fault" = some (.ref f)
theorem ints_eqv (a b : List Int) : PyData.eqv (.list (a.map PyData.int)) (.list (b.map PyData.int)) = decide (a = b) := by
  have all : ∀ a b : List Int, PyData.eqvAll (a.map PyData.int) (b.map PyData.int) = decide (a = b) := by
    intro a
    induction a with
    | nil => intro b; cases b <;> simp [PyData.eqvAll]
    | cons x a ih =>
      intro b
      cases b with
      | nil => simp [PyData.eqvAll]
      | cons y b =>
        rw [List.map_cons, List.map_cons, PyData.eqvAll, ih, PyData.eqv]
        by_cases h : x = y
        · subst h
          by_cases k : a = b
          · subst k
            simp
          · simp [k]
        · have : (x == y) = false := beq_eq_false_iff_ne.mpr h
          simp [h, this]
  rw [PyData.eqv]
  exact all a b
theorem lt_ext : ∀ {a b : List Int}, a.Pairwise (· < ·) → b.Pairwise (· < ·) → (∀ k, k ∈ a ↔ k ∈ b) → a = b
  | [], [], _, _, _ => rfl
  | [], y :: b, _, _, h => by cases (h y).mpr (List.mem_cons_self ..)
  | x :: a, [], _, _, h => by cases (h x).mp (List.mem_cons_self ..)
  | x :: a, y :: b, ha, hb, h => by
    obtain ⟨a1, a2⟩ := List.pairwise_cons.mp ha
    obtain ⟨b1, b2⟩ := List.pairwise_cons.mp hb
    have e : x = y := by
      rcases List.mem_cons.mp ((h x).mp (List.mem_cons_self ..)) with z | z
      · exact z
      · rcases List.mem_cons.mp ((h y).mpr (List.mem_cons_self ..)) with q | q
        · exact q.symm
        · have := a1 _ q
          have := b1 _ z
          omega
    subst e
    rw [lt_ext a2 b2 fun k => ?_]
    constructor
    · intro hk
      have := a1 k hk
      rcases List.mem_cons.mp ((h k).mp (List.mem_cons_of_mem _ hk)) with z | z
      · omega
      · exact z
    · intro hk
      have := b1 k hk
      rcases List.mem_cons.mp ((h k).mpr (List.mem_cons_of_mem _ hk)) with z | z
      · omega
      · exact z
theorem at2_snoc {H : Hp} {ps : List Addr} {L : List Pr} {i : Nat} {p : Addr} {x : Pr} (h : At2 H ps (L.take i)) (hx : L[i]? = some x) (e : H p = some (.tup [.int x.1, .int x.2])) : At2 H (ps ++ [p]) (L.take (i + 1)) := by
  rw [take_one hx]
  refine ⟨by rw [List.length_append, List.length_append, h.1]; rfl, fun j t y h1 h2 => ?_⟩
  by_cases c : j < ps.length
  · rw [List.getElem?_append_left c] at h1
    rw [List.getElem?_append_left (by rw [← h.1]; exact c)] at h2
    exact h.2 j t y h1 h2
  · have j1 := (List.getElem?_eq_some_iff.mp h1).1
    rw [List.length_append] at j1
    have e2 : j = ps.length := by simp only [List.length_cons, List.length_nil] at j1; omega
    subst e2
    rw [List.getElem?_append_right (Nat.le_refl _), Nat.sub_self] at h1
    rw [h.1, List.getElem?_append_right (Nat.le_refl _), Nat.sub_self] at h2
    have e3 : p = t := Option.some.inj h1
    have e4 : x = y := Option.some.inj h2
    rw [← e3, ← e4]
    exact e
section
variable {P : Program} {w : World} {K : PySem.W.Frag} {mg : Str → Option Value} {base : Heap}
abbrev NF : List Str := ["thing", "k", "step", "pairs", "some", "to", "one"]
theorem scFault : FnScope NF ["thing"] (defScope sFault) := ⟨rfl, rfl, rfl, by decide +kernel, rfl, by decide +kernel, by decide +kernel⟩
theorem ok_fault (Z : Lk K mg) : FnOk P w K mg base CX0 3 Z.f Z.d ["thing"] spFault := by
  have GS : FnOk P w K mg base CX0 2 Z.I.f3 Z.I.d3 ["thing"] spLS := ok_ls Z.I
  have GL : FnOk P w K mg base CX0 1 Z.J.f1 Z.J.d1 ["framing"] spLStandings := ok_lstandings Z.J
  have GR : FnOk P w K mg base CX0 1 Z.J.f2 Z.J.d2 ["pairs", "begin"] spReached := ok_reached Z.J
  have T := Z.I.T
  refine Z.F.ok scFault (fun vs H Q E h => ?_) (fun cdv A outer s H vs Q E hr h => ?_)
  · obtain ⟨v, d, r, rfl, _⟩ := h
    rfl
  · obtain ⟨v, d, r, rfl, da, st, ft, qn, qs⟩ := h
    have hu64 := hr.units
    have hu0 : (A.deeper (PyProof.Rows.envOfC "_law_fault" (defScope sFault) s.heap.objs.size Z.f cdv)).units < cLine := by omega
    have r1 := hr.mono (j := 1) (by omega)
    refine ⟨_, pss_cons (ps_if (pw_or (pt_not (pt_val (pe_callB call_isi (by rfl) T.isi PyProof.Rows.boot_isinstance (pa_cons (pv 0) (pa_cons (pe_bltn (v := .ty "tuple") (by rfl) T.tuple (by decide +kernel) rfl) pa_nil)))))
        (pw_or1 (pt_not (pt_chain op_le op_le pe_int (pe_callB call_len_seq (by rfl) T.len PySem.boot_len (pa_cons (pv 0) pa_nil)) pe_int)))).pt (pss_one (ps_ret (pe_lst (pa_cons pe_non pa_nil)))) pss_nil)
      (pss_cons (ps_for PassesOwn.never rfl (pi_enumT (by rfl) Z.en (pa_cons (pv 0) pa_nil)) (pg_tup rfl (pgs_cons (pg_name (i := 1) scFault.nd rfl (Or.inl rfl)) (pgs_cons (pg_name (i := 2) scFault.nd rfl (Or.inl rfl)) pgs_nil)))
        (pss_one (ps_if (pw_or (pt_not (pt_val (pe_call GS hr (by rfl) Z.I.m3 Z.I.F3.kp Z.I.b3 .nil pass0 (pa_cons (pv 2) pa_nil))))
          (pw_or1 (pw_and (pt_cmpR op_gt (pv 1) pe_int (nomark _)) (pw_and1 (pt_not (pt_cmpR (op_lt3 hu0) (pe_ix ix_tup (pv 0) (pe_op op_sub (pv 1) pe_int) (fun _ _ => rfl)) (pv 2) (nomark _))))).pt)).pt
          (pss_one (ps_ret (pe_lst (pa_cons (pv 1) pa_nil)))) pss_nil)))
      (pss_cons (ps_par (i := 3) (j := 4) (x := "pairs") (y := "some") rfl scFault.nd rfl rfl (by decide) rfl rfl (pa_cons
          (pe_lc (own := [("step", 2)]) (g := gName 2) (te := tTup (tCons (tOp (rIxT K) (tVar 2) (tC (.int 0))) (tCons (tOp (rIxT K) (tVar 2) (tC (.int 2))) tNil))) rfl scFault.nd (pi_tup (pv 0)) (blkOk_by (N := NF) (sc := defScope sFault) (by decide +kernel)) (fun _ _ _ _ _ => pg_name (i := 2) scFault.nd rfl (Or.inl rfl)) (fun _ _ _ _ _ => pts_nil)
            (fun _ _ _ _ _ => pe_tup (pa_cons (pe_ix ix_tup (pv 2) pe_int (fun _ _ => rfl)) (pa_cons (pe_ix ix_tup (pv 2) pe_int (fun _ _ => rfl)) pa_nil))))
          (pa_cons (pe_call GL r1 (by rfl) Z.J.m1 Z.J.F1.kp Z.J.b1 .nil pass0 (pa_cons (pv 0) pa_nil)) pa_nil)) (by rfl))
      (pss_cons (ps_if (pw_or (pt_cmpR (op_neD hu64) (pe_call GR r1 (by rfl) Z.J.m2 Z.J.F2.kp Z.J.b2 .nil pass0 (pa_cons (pv 3) (pa_cons pe_int pa_nil))) (pv 4) (nomark _))
          (pw_or1 (pt_cmpR (op_neD hu64) (pe_call GR r1 (by rfl) Z.J.m2 Z.J.F2.kp Z.J.b2 .nil pass0 (pa_cons
            (pe_lc (own := [("one", 6), ("to", 5)]) (g := gTup K 2 (gCons (gName 6) (gCons (gName 5) gNil))) (te := tTup (tCons (tVar 5) (tCons (tVar 6) tNil))) rfl scFault.nd (pi_list (pv 3)) (blkOk_by (N := NF) (sc := defScope sFault) (by decide +kernel))
              (fun _ _ _ _ _ => pg_tup rfl (pgs_cons (pg_name (i := 6) scFault.nd rfl (Or.inl rfl)) (pgs_cons (pg_name (i := 5) scFault.nd rfl (Or.inl rfl)) pgs_nil))) (fun _ _ _ _ _ => pts_nil)
              (fun _ _ _ _ _ => pe_tup (pa_cons (pv 5) (pa_cons (pv 6) pa_nil)))) (pa_cons pe_int pa_nil))) (pv 4) (nomark _)))).pt
          (pss_one (ps_ret (pe_lst (pa_cons (pe_un un_neg pe_int) pa_nil)))) pss_nil)
      (pss_one (ps_ret pe_non))))), ?_⟩
    rcases ft with ⟨c, rfl⟩ | ⟨ds, rfl, c, rfl⟩ | ft
    · have q := qs _ rfl
      obtain ⟨t, ty, kt, _, _⟩ := da.ty (K := K)
      rw [c] at kt
      refine ⟨_, rfl, v, .ty "tuple", t, .type "tuple", false, rfl, .ty "tuple", ty, kt, false, rfl, iteT ?_⟩
      exact ⟨by show 1 ≤ sizeLine; decide, fun p hp => q _ p (same_upd hp) upd_same⟩
    · have q := qs _ rfl
      cases da with
      | @tup a xs _ e all =>
        have ln := all.len
        refine ⟨_, rfl, .ref a, .ty "tuple", .type "tuple", .type "tuple", true, rfl, .ty "tuple", .base (.tup e), kit_ty (by decide +kernel), true, rfl, iteF ?_⟩
        refine ⟨_, rfl, a, _, rfl, .inr (SqT.of e), 1, _, rfl, rfl, _, rfl, ?_⟩
        by_cases c0 : ds.length = 0
        · refine iteF' (decide_eq_false (by omega)) ⟨_, rfl, iteT ?_⟩
          exact ⟨by show 1 ≤ sizeLine; decide, fun p hp => q _ p (same_upd hp) upd_same⟩
        · refine iteT' (decide_eq_true (by omega)) ⟨_, 16, rfl, rfl, _, rfl, iteT' (by rw [decide_eq_false (by omega)]; rfl) ?_⟩
          exact ⟨by show 1 ≤ sizeLine; decide, fun p hp => q _ p (same_upd hp) upd_same⟩
    · obtain ⟨ds, ed, d1, l16⟩ : ∃ ds, d = .tuple ds ∧ 1 ≤ ds.length ∧ ds.length ≤ 16 := by
        rcases ft with ⟨ds, k, e, a, b, _⟩ | ⟨ds, e, a, b, _⟩ | ⟨ds, e, a, b, _⟩ <;> exact ⟨ds, e, a, b⟩
      subst ed
      have qr : ∀ i : Nat, wrgF ds none 0 = some i → ∀ (H' : Hp) (p : Addr), Same H H' → H' p = some (.lst [.int (i : Int)]) → Q (.ref p) H' := fun i e => by
        rcases ft with ⟨ds', k, ed, _, _, e', er⟩ | ⟨ds', ed, _, _, e', _⟩ | ⟨ds', ed, _, _, e', _⟩
        · cases ed
          rw [e] at e'
          cases e'
          exact qs _ er
        · cases ed
          rw [e] at e'
          cases e'
        · cases ed
          rw [e] at e'
          cases e'
      have qj : wrgF ds none 0 = none → (Jnd (frOf ds) → ∀ H', Same H H' → Q .non H') ∧ (¬ Jnd (frOf ds) → ∀ (H' : Hp) (p : Addr), Same H H' → H' p = some (.lst [.int (-1)]) → Q (.ref p) H') := fun e => by
        rcases ft with ⟨ds', k, ed, _, _, e', er⟩ | ⟨ds', ed, _, _, e', j, er⟩ | ⟨ds', ed, _, _, e', j, er⟩
        · cases ed
          rw [e] at e'
          cases e'
        · cases ed
          exact ⟨fun _ => qn er, fun n => absurd j n⟩
        · cases ed
          exact ⟨fun n => absurd n j, fun _ => qs _ er⟩
      clear ft qn qs
      have st : ∀ e ∈ ds, ∀ g ∈ itemsD e, stOk g := st
      cases da with
      | @tup a xs _ ha all =>
      refine ⟨_, rfl, .ref a, .ty "tuple", .type "tuple", .type "tuple", true, rfl, .ty "tuple", .base (.tup ha), kit_ty (by decide +kernel), true, rfl, iteF ?_⟩
      have ln := all.len
      refine ⟨_, rfl, a, _, rfl, .inr (SqT.of ha), 1, _, rfl, rfl, _, rfl, ?_⟩
      refine iteT' (decide_eq_true (by omega)) ⟨_, 16, rfl, rfl, _, rfl, iteF' (by rw [decide_eq_true (by omega)]; rfl) ?_⟩
      refine ⟨_, rfl, a, _, rfl, SqT.of ha, for_it (walk_enumT (xs := xs)) (fun i σ H' => ∃ (v1 v2 : Option V) (last : Option T3), σ = [some (.ref a), v1, v2, none, none, none, none] ∧ Same H H' ∧
          wrgF ds none 0 = wrgF (ds.drop i) last i ∧ (i = 0 → last = none) ∧ ∀ j, i = j + 1 → ∃ d t, ds[j]? = some d ∧ stpD d = some t ∧ last = some t)
        ⟨none, none, none, rfl, Same.refl H, rfl, fun _ => rfl, fun j hj => by omega⟩ (fun i σ H' _ ⟨_, _, _, _, z, _⟩ => SqT.of (z _ _ ha)) ?_ ?_⟩
      · rintro i x σ H1 H2 hi ⟨v1, v2, last, rfl, s1, inv, l0, l1⟩ ⟨T, xi, xo, rfl, nT, rfl, g1, g2⟩
        cases g1
        obtain ⟨d, hd, dv⟩ := all.at_ g2
        rw [drop_at hd] at inv
        have s2 := s1.trans (same_upd (o := HO.tup [V.int (i : Nat), xo]) nT)
        have dv2 := Da.same s2 _ _ dv
        refine ⟨T, _, rfl, SqT.of upd_same, rfl, _, _, rfl, _, _, rfl, rfl, ?_⟩
        refine ⟨_, rfl, xo, d, rfl, dv2, st d (List.mem_of_getElem? hd), fun H3 s3 => ⟨_, rfl, ?_⟩⟩
        have s23 := s2.trans s3
        cases ed : stpD d with
        | none =>
          rw [wrgF_none ed] at inv
          exact iteT ⟨_, rfl, by show 1 ≤ sizeLine; decide, fun p hp => qr i inv _ p (s23.trans (same_upd hp)) upd_same⟩
        | some t =>
          rw [wrgF_some ed] at inv
          refine iteF ?_
          have goOn : lb3 last t = false → ∃ (v1' v2' : Option V) (last' : Option T3), [some (V.ref a), some (V.int (i : Nat)), some xo, none, none, none, none] = [some (.ref a), v1', v2', none, none, none, none] ∧
              wrgF ds none 0 = wrgF (ds.drop (i + 1)) last' (i + 1) ∧ (i + 1 = 0 → last' = none) ∧ ∀ j, i + 1 = j + 1 → ∃ d t, ds[j]? = some d ∧ stpD d = some t ∧ last' = some t := fun z => by
            rw [z, if_neg (by simp)] at inv
            exact ⟨_, _, _, rfl, inv, fun h => by omega, fun j h => by
              obtain rfl : i = j := by omega
              exact ⟨d, t, hd, ed, rfl⟩⟩
          refine ⟨_, rfl, (i : Int), 0, rfl, rfl, _, rfl, ?_⟩
          refine ite2 (fun z => ?_) (fun z => ?_)
          · have z1 : (0 : Int) < i := of_decide_eq_true z
            obtain ⟨j, rfl⟩ : ∃ j, i = j + 1 := ⟨i - 1, by omega⟩
            obtain ⟨dp, tp, hp1, hp2, rfl⟩ := l1 j rfl
            obtain ⟨vp, hvp, dvp⟩ := all.at' hp1
            obtain ⟨a1, rfl, ha1⟩ := stp_at (Da.same s3 _ _ dv2) ed
            obtain ⟨a2, rfl, ha2⟩ := stp_at (Da.same s23 _ _ dvp) hp2
            refine ⟨_, rfl, _, rfl, _, _, rfl, rfl, a, _, (j : Int), V.ref a2, rfl, ?_, SqT.of (s23 _ _ ha), atI_nat hvp, _, rfl, a2, a1, tp, t, rfl, rfl, ha2, ha1, _, rfl, ?_⟩
            · show V.int (((j + 1 : Nat) : Int) - 1) = V.int (j : Int)
              congr 1
              omega
            cases eb2 : lt3 tp t with
            | true =>
              obtain ⟨w1, w2, w3, w4, w5⟩ := goOn (by show (!lt3 tp t) = false; rw [eb2]; rfl)
              exact iteF ⟨w1, w2, w3, w4, s23, w5⟩
            | false =>
              rw [show lb3 (some tp) t = !lt3 tp t from rfl, eb2, if_pos (show (!false) = true from rfl)] at inv
              exact iteT ⟨_, rfl, by show 1 ≤ sizeLine; decide, fun p hp => qr _ inv _ p (s23.trans (same_upd hp)) upd_same⟩
          · have i0 : i = 0 := by
              have : ¬ (0 : Int) < i := fun k => z (decide_eq_true k)
              omega
            have l9 := l0 i0
            subst l9
            obtain ⟨w1, w2, w3, w4, w5⟩ := goOn rfl
            exact iteF ⟨w1, w2, w3, w4, s23, w5⟩
      · rintro σ H1 ⟨v1, v2, last, rfl, s1, inv, _, _⟩
        rw [all.len, List.drop_length] at inv
        have inv : wrgF ds none 0 = none := inv
        obtain ⟨ej, bd⟩ := wrg_none inv
        obtain ⟨qy, qno⟩ := qj inv
        obtain ⟨ts, rfl, tl, tc⟩ : ∃ ts : List Addr, xs = ts.map V.ref ∧ ts.length = (frOf ds).length ∧ ∀ (i : Nat) t x, ts[i]? = some t → (frOf ds)[i]? = some x → S3 H t x := by
          rw [ej] at all
          exact da_steps all
        have fl : (frOf ds).length = ds.length := by
          have := congrArg List.length ej
          rw [List.length_map] at this
          exact this.symm
        generalize frOf ds = fr at ej bd qy qno tl tc fl
        have fa : FrA H a fr := ⟨ts, ha, tl, tc⟩
        have f16 : fr.length ≤ 16 := by omega
        have fne : fr ≠ [] := fun z => by
          rw [z] at fl
          simp only [List.length_nil] at fl
          omega
        refine ⟨_, rfl, a, rfl, ⟨_, SqT.of (s1 _ _ ha)⟩, fun D hD => ?_⟩
        refine lc_it (walk_tup (xs := ts.map V.ref)) (fun i H' => ∃ ps : List Addr, H' D = some (.lst (ps.map V.ref)) ∧ At2 H' ps ((pairsA fr).take i) ∧ Same H1 H') ⟨[], upd_same, ⟨rfl, fun i t x h => by cases h⟩, same_upd hD⟩ (fun i H' _ ⟨_, _, _, z⟩ => SqT.of (z _ _ (s1 _ _ ha))) ?_ ?_
        · rintro i x H2z H2 hi ⟨ps, hD2, a2, k2⟩ ⟨rfl, hx⟩
          obtain ⟨t, y, hy, rfl, e4⟩ := at_step (i := i) tl tc hx
          have e5 := k2 _ _ (s1 _ _ e4)
          have pl : ps.length ≤ 16 := by
            rw [a2.1, List.length_take]
            unfold pairsA
            rw [List.length_map]
            omega
          refine ⟨rfl, ⟨_, rfl, t, _, 0, _, rfl, rfl, SqT.of e5, atI_nat (j := 0) rfl, _, rfl, t, _, 2, _, rfl, rfl, SqT.of e5, atI_nat (j := 2) rfl, (by show 2 ≤ sizeLine; decide), fun p hp => ?_⟩⟩
          have up := same_upd (o := HO.tup [V.int y.1, V.int y.2.2]) hp
          refine ⟨_, up _ _ hD2, by rw [List.length_map, sizeLine_eq]; omega, ps ++ [p], by rw [List.map_append]; exact upd_same, ?_, same_set hD (Same.trans k2 up)⟩
          have k8 := keepT_upd (o := .lst (ps.map V.ref ++ [V.ref p])) (up _ _ hD2) (fun xs z => by cases z)
          have pi : (pairsA fr)[i]? = some (y.1, y.2.2) := by
            unfold pairsA
            rw [List.getElem?_map, hy]
            rfl
          exact at2_snoc ⟨a2.1, fun i t x h1 h2 => k8 _ _ (up _ _ (a2.2 i t x h1 h2))⟩ pi (k8 _ _ upd_same)
        rintro H2 ⟨ps, hD2, a2, k2⟩
        have pAl : (pairsA fr).length = fr.length := by unfold pairsA; rw [List.length_map]
        rw [show (pairsA fr).take (ts.map V.ref).length = pairsA fr by rw [List.length_map, tl, ← pAl, List.take_length]] at a2
        have s12 := Same.trans s1 k2
        refine ⟨_, rfl, a, fr, rfl, fa.same s12, f16, fun H3 pS ns s3 eS srtS memS => ⟨_, _, rfl, ?_⟩⟩
        have s13 := s12.trans s3
        have at3 : At2 H3 ps (pairsA fr) := ⟨a2.1, fun i t x h1 h2 => s3 _ _ (a2.2 i t x h1 h2)⟩
        refine ⟨_, rfl, D, ps, pairsA fr, rfl, s3 _ _ hD2, at3, by omega, fun H4 rA nsA s4 eA srtA memA => ?_⟩
        refine ⟨_, rfl, .list (nsA.map PyData.int), .list (ns.map PyData.int), dp_list eA, dp_list (s4 _ _ eS), shaped_ints _, shaped_ints _, _, rfl, ?_⟩
        rw [ints_eqv]
        have s14 := s13.trans s4
        have retNo : ¬ Jnd fr → ∀ H', Same H H' → ∀ p, H' p = none → Q (.ref p) (upd H' p (.lst [.int (-1)])) := fun nj H' s' p hp => qno nj _ p (s'.trans (same_upd hp)) upd_same
        have memA' : ∀ k, k ∈ nsA ↔ k = 0 ∨ Rch fr 0 k := fun k => by rw [memA k, rchA]
        by_cases cA : nsA = ns
        · refine iteF' (by simp [cA]) ?_
          subst cA
          refine ⟨_, rfl, D, rfl, ⟨_, SqL.of (s4 _ _ (s3 _ _ hD2))⟩, fun D5 hD5 => ?_⟩
          have hDl := s4 _ _ (s3 _ _ hD2)
          have at4 : At2 H4 ps (pairsA fr) := ⟨a2.1, fun i t x h1 h2 => s4 _ _ (at3.2 i t x h1 h2)⟩
          refine lc_it (walk_list (xs := ps.map V.ref)) (fun i H' => ∃ ws : List Addr, H' D5 = some (.lst (ws.map V.ref)) ∧ At2 H' ws ((pairsB fr).take i) ∧ Same H4 H') ⟨[], upd_same, ⟨rfl, fun i t x h => by cases h⟩, same_upd hD5⟩ (fun i H' _ ⟨_, _, _, z⟩ => SqL.of (z _ _ hDl)) ?_ ?_
          · rintro i x H5z H5 hi ⟨ws, hD6, a6, k6⟩ ⟨rfl, hx⟩
            obtain ⟨t, ht, rfl⟩ : ∃ t, ps[i]? = some t ∧ x = V.ref t := by
              rw [List.getElem?_map] at hx
              cases e : ps[i]? with
              | none =>
                rw [e] at hx
                cases hx
              | some t =>
                rw [e] at hx
                exact ⟨t, rfl, (Option.some.inj hx).symm⟩
            have il : i < fr.length := by
              have := (List.getElem?_eq_some_iff.mp ht).1
              rw [a2.1, pAl] at this
              exact this
            have pa : (pairsA fr)[i]? = some (fr[i].1, fr[i].2.2) := by
              unfold pairsA
              rw [List.getElem?_map, List.getElem?_eq_getElem il]
              rfl
            have pb : (pairsB fr)[i]? = some (fr[i].2.2, fr[i].1) := by
              unfold pairsB
              rw [List.getElem?_map, List.getElem?_eq_getElem il]
              rfl
            have e5 := k6 _ _ (at4.2 i t _ ht pa)
            have wl : ws.length ≤ 16 := by
              rw [a6.1, List.length_take]
              unfold pairsB
              rw [List.length_map]
              omega
            refine ⟨t, _, rfl, SqT.of e5, rfl, _, _, rfl, _, _, rfl, rfl, rfl, ?_⟩
            refine ⟨_, rfl, _, rfl, (by show 2 ≤ sizeLine; decide), fun p hp => ?_⟩
            have up := same_upd (o := HO.tup [V.int fr[i].2.2, V.int fr[i].1]) hp
            refine ⟨_, up _ _ hD6, by rw [List.length_map, sizeLine_eq]; omega, ws ++ [p], by rw [List.map_append]; exact upd_same, ?_, same_set hD5 (Same.trans k6 up)⟩
            have k8 := keepT_upd (o := .lst (ws.map V.ref ++ [V.ref p])) (up _ _ hD6) (fun xs z => by cases z)
            exact at2_snoc ⟨a6.1, fun i t x h1 h2 => k8 _ _ (up _ _ (a6.2 i t x h1 h2))⟩ pb (k8 _ _ upd_same)
          rintro H5 ⟨ws, hD6, a6, k6⟩
          have pBl : (pairsB fr).length = fr.length := by unfold pairsB; rw [List.length_map]
          rw [show (pairsB fr).take (ps.map V.ref).length = pairsB fr by rw [List.length_map, a2.1, pAl, ← pBl, List.take_length]] at a6
          refine ⟨D5, ws, pairsB fr, rfl, hD6, a6, by omega, fun H6 rB nsB s6 eB srtB memB => ?_⟩
          have s16 := (Same.trans s14 k6).trans s6
          refine ⟨_, rfl, .list (nsB.map PyData.int), .list (nsA.map PyData.int), dp_list eB, dp_list (s6 _ _ (k6 _ _ (s4 _ _ eS))), shaped_ints _, shaped_ints _, _, rfl, ?_⟩
          rw [ints_eqv]
          have memB' : ∀ k, k ∈ nsB ↔ k = 0 ∨ Rch fr k 0 := fun k => by rw [memB k, rchB]
          have jl := jnd_law fne memA' memB' memS
          by_cases cB : nsB = nsA
          · refine iteF' (by simp [cB]) ?_
            subst cB
            exact qy (jl.mp ⟨fun _ => Iff.rfl, fun _ => Iff.rfl⟩) _ s16
          · refine iteT' (by simp [cB]) ?_
            have nj : ¬ Jnd fr := fun j => cB (lt_ext srtB srtS (jl.mpr j).2)
            exact ⟨1, rfl, (by show 1 ≤ sizeLine; decide), fun p hp => retNo nj _ s16 p hp⟩
        · refine iteT' (by simp [cA]) ?_
          have nj : ¬ Jnd fr := fun j => by
            have e : ∀ k, k ∈ passes (pairsB fr) (pairsB fr).length ↔ k = 0 ∨ Rch fr k 0 := fun k => by rw [passes_iff, rchB]
            exact cA (lt_ext srtA srtS ((jnd_law fne memA' e memS).mpr j).1)
          exact ⟨1, rfl, (by show 1 ≤ sizeLine; decide), fun p hp => retNo nj _ s14 p hp⟩
end
end K02

set_option Elab.async false
set_option linter.all false
set_option maxRecDepth 100000
set_option maxHeartbeats 4000000
/-! repr of data, of any size. -/
namespace L2
namespace EV
open PySem PySem.Spec PyProof.Rows _root_.EV
/-- repr of data -/
def rShowV (K : PySem.W.Frag) : List V → Hp → VK → Prop := fun xs H Q => ∃ (v : V) (d : PyData), xs = [v] ∧ Dp K H v d ∧ d.showable = true ∧ d.hasDict = false ∧ d.shown.length ≤ sizeLine ∧ d.depth ≤ 5 ∧ Q (.str d.shown) H
theorem call_showV {X : Cx} (hgd : X.A.guards = some []) (hu : X.A.units + 64 < cLine) : CallR X (.builtin "repr") (rShowV X.K) := by
  intro pins s σ H xs us Q I r h
  obtain ⟨v, d, rfl, hd, sh, nd, sz, dp, q⟩ := h
  obtain ⟨u, rfl, ru⟩ := vals1 r
  obtain ⟨as, rd⟩ := Dp.reads I d v u hd ru
  have at_ : ∀ a : Addr, u = .ref a → wpAny (model X.prog X.w) X.A (call (.builtin "repr") [u]) (EP X pins σ Q) X.xe s := fun a e => by
    subst e
    exact repr_of_reads' rd sh (fun z => by rw [nd] at z; cases z) hgd (by omega) (fun _ _ e => e) (fun h' t tk hk => ⟨.str _, H, I.kept (t' := tk) hk, ⟨_, rfl⟩, q⟩) sz
  cases hd with
  | non =>
    obtain rfl : u = Value.none := ru
    simp only [PyData.shown] at q
    exact PySem.P.repr_of_none ⟨.str _, H, I.tok _, ⟨_, rfl⟩, q⟩
  | bl b =>
    obtain rfl : u = Value.bool b := ru
    simp only [PyData.shown] at q
    exact PySem.P.repr_of_bool ⟨.str _, H, I.tok _, ⟨_, rfl⟩, q⟩
  | int i =>
    obtain ⟨t, rfl⟩ := (show ∃ t, u = Value.int i t from ru)
    simp only [PyData.shown] at q
    simp only [PyData.showable, decide_eq_true_eq] at sh
    exact PySem.P.repr_of_int sh ⟨.str _, H, I.tok _, ⟨_, rfl⟩, q⟩
  | str x =>
    obtain ⟨t, rfl⟩ := (show ∃ t, u = Value.str x t from ru)
    simp only [PyData.shown] at q sz
    exact PySem.P.repr_of_str ⟨.str _, H, I.tok _, ⟨_, rfl⟩, q⟩ sz
  | @lst a xs ds h1 h2 => exact at_ a ru
  | @tup a xs ds h1 h2 => exact at_ a ru
end EV
end L2
namespace K02
open PySem L2 L2.EV
structure Okd (d : PyData) (n dp : Nat) : Prop where
  sh : d.showable = true
  nd : d.hasDict = false
  sz : d.shown.length ≤ n
  dp : d.depth ≤ dp
  lay : d.canLay0 = true
theorem Okd.le {d : PyData} {n m dp dq : Nat} (h : Okd d n dp) (a : n ≤ m) (b : dp ≤ dq) : Okd d m dq := ⟨h.sh, h.nd, Nat.le_trans h.sz a, Nat.le_trans h.dp b, h.lay⟩
theorem okd_int {i : Int} (h0 : 0 ≤ i) (h1 : i < 64) : Okd (.int i) 10 0 := by
  obtain ⟨k, rfl⟩ := Int.eq_ofNat_of_zero_le h0
  have hk : k < 64 := by omega
  have z : ∀ k : Fin 64, (PyData.int ((k.val : Nat) : Int)).showable = true ∧ (PyData.int ((k.val : Nat) : Int)).shown.length ≤ 10 := by decide +kernel
  obtain ⟨z1, z2⟩ := z ⟨k, hk⟩
  exact ⟨z1, by simp only [PyData.hasDict], z2, by simp only [PyData.depth]; omega, by simp only [PyData.canLay0]⟩
theorem okd_str {x : Str} {m : Nat} (hs : PyData.strOk x = true) (hl : x.length ≤ m) : Okd (.str x) (10 * m + 2) 0 := by
  refine ⟨by simp only [PyData.showable], by simp only [PyData.hasDict], ?_, by simp only [PyData.depth]; omega, by simp only [PyData.canLay0]; exact hs⟩
  simp only [PyData.shown]
  have z := PySem.StrLaws.reprText_len x (fun c hc => by
    unfold PyData.strOk at hs
    rw [← Array.all_toList, List.all_eq_true] at hs
    have := of_decide_eq_true (hs c hc)
    exact Nat.lt_trans this (by decide))
  omega
theorem okd_all {n dp : Nat} : ∀ {ds : List PyData}, (∀ d ∈ ds, Okd d n dp) → PyData.showableAll ds = true ∧ PyData.hasDictAll ds = false ∧ ((PyData.shownAll ds).map (·.length)).sum ≤ n * ds.length ∧ (PyData.shownAll ds).length = ds.length ∧ PyData.depthAll ds ≤ dp ∧ PyData.canLayAll0 ds = true
  | [], _ => ⟨by simp [PyData.showableAll], by simp [PyData.hasDictAll], by simp [PyData.shownAll], by simp [PyData.shownAll], by simp [PyData.depthAll], by simp [PyData.canLayAll0]⟩
  | d :: ds, h => by
    have h1 := h d (List.mem_cons_self ..)
    obtain ⟨a, b, c, e, f, g⟩ := okd_all (ds := ds) fun d hd => h d (List.mem_cons_of_mem _ hd)
    have h2 := h1.sz
    have h3 := h1.dp
    refine ⟨by simp only [PyData.showableAll, h1.sh, a, Bool.and_self], by simp only [PyData.hasDictAll, h1.nd, b, Bool.or_self], ?_, by simp only [PyData.shownAll, List.length_cons, e], by simp only [PyData.depthAll]; omega, by simp only [PyData.canLayAll0, h1.lay, g, Bool.and_self]⟩
    simp only [PyData.shownAll, List.map_cons, List.sum_cons, List.length_cons, Nat.mul_add, Nat.mul_one]
    omega
theorem okd_list {n dp m : Nat} {ds : List PyData} (h : ∀ d ∈ ds, Okd d n dp) (hl : ds.length ≤ m) : Okd (.list ds) (m * (n + 2) + 3) (dp + 1) := by
  obtain ⟨a, b, c, e, f, g⟩ := okd_all h
  refine ⟨by simp only [PyData.showable, a], by simp only [PyData.hasDict, b], ?_, by simp only [PyData.depth]; omega, by simp only [PyData.canLay0, g]⟩
  simp only [PyData.shown]
  have z := listText_len_le (PyData.shownAll ds)
  rw [e] at z
  have y : n * ds.length ≤ n * m := Nat.mul_le_mul_left _ hl
  rw [Nat.mul_add, Nat.mul_comm m n]
  omega
theorem okd_tuple {n dp m : Nat} {ds : List PyData} (h : ∀ d ∈ ds, Okd d n dp) (hl : ds.length ≤ m) : Okd (.tuple ds) (m * (n + 2) + 3) (dp + 1) := by
  obtain ⟨a, b, c, e, f, g⟩ := okd_all h
  refine ⟨by simp only [PyData.showable, a], by simp only [PyData.hasDict, b], ?_, by simp only [PyData.depth]; omega, by simp only [PyData.canLay0, g]⟩
  simp only [PyData.shown]
  have z := tupleText_len_le (PyData.shownAll ds)
  rw [e] at z
  have y : n * ds.length ≤ n * m := Nat.mul_le_mul_left _ hl
  rw [Nat.mul_add, Nat.mul_comm m n]
  omega
end K02

set_option Elab.async false
set_option linter.all false
set_option maxRecDepth 100000
set_option maxHeartbeats 4000000
/-! The law's outcome. -/
namespace K02
open PySem L2 L2.EV
abbrev sOutc : Stmt := top 25
def Shw (d : PyData) : Prop := d.showable = true ∧ d.hasDict = false ∧ d.shown.length ≤ sizeLine ∧ d.depth ≤ 5
def spOutc : Sp := fun vs H Q _ => ∃ (v : V) (d : PyData) (r : Option (Option Int)), vs = [v] ∧ Da H v d ∧ (∀ e ∈ itemsD d, szS e) ∧ Shw d ∧ FaultIs d r ∧
  (r = none → ∀ H', Same H H' → Q .non H') ∧ ∀ i, r = some i → ∀ (H' : Hp) (p : Addr), Same H H' → H' p = some (.lst [valF i]) → Q (.ref p) H'
structure Lo (K : PySem.W.Frag) (mg : Str → Option Value) where
  Z : Fs K mg
  re : mg "repr" = none
  f : Addr
  d : FuncData
  F : Fun K "_law_outcome" "_law_outcome" sOutc f d
  b : Binds K d ["thing"] []
  m : mg "_law_outcome" = some (.ref f)
section
variable {P : Program} {w : World} {K : PySem.W.Frag} {mg : Str → Option Value} {base : Heap}
theorem scOutc : FnScope ["thing", "found", "e"] ["thing"] (defScope sOutc) := ⟨rfl, rfl, rfl, by decide +kernel, rfl, by decide +kernel, by decide +kernel⟩
theorem ok_outc (O : Lo K mg) : FnG P w K mg base CX0 4 O.f O.d ["thing"] spOutc := by
  have GF : FnOk P w K mg base (L2.CX P w) 3 O.Z.fF O.Z.dF ["thing"] (spNeedA O.Z.B.C) := ok_needA O.Z
  have XT : XfC K O.Z.B.C := ⟨O.Z.B.T.ga, O.Z.B.T.gg, O.Z.B.T.exC, O.Z.B.T.hd⟩
  refine okG O.F scOutc (fun vs H Q E h => ?_) (fun cdv A outer s H vs Q E hr hgd h => ?_)
  · obtain ⟨v, d, r, rfl, _⟩ := h
    rfl
  · obtain ⟨v, d, r, rfl, da, szs, sh, ft, qn, qs⟩ := h
    have ggd : (A.deeper (PyProof.Rows.envOfC "_law_outcome" (defScope sOutc) s.heap.objs.size O.f cdv)).guards = some [] := hgd
    have hu64 := hr.units
    refine ⟨_, pss_cons (ps_set (i := 1) scOutc.nd rfl (Or.inl rfl) pe_str)
      (pss_cons (ps_try_as (i := 2) (c := .ref O.Z.B.C) (Wout := fun _ _ _ _ => False) rfl rfl scOutc.nd rfl rfl ⟨by rfl, by decide, .inl O.Z.B.m⟩ takes0
          (fun W pn xe tk _ => pss_one (ps_set (i := 1) scOutc.nd rfl (Or.inl rfl) (pe_ifExp (pt_cmpR op_eq (pe_callB (show CallR _ (.builtin "repr") (rShowV K) from call_showV ggd hu64) (by rfl) O.re (by decide +kernel) (pa_cons (pe_callS (E := WE W) GF hr (by rfl) O.Z.mF O.Z.F.kp O.Z.bF (passAt tk) (pa_cons (pv 0) pa_nil)) pa_nil)) (pe_callB (show CallR _ (.builtin "repr") (rShowV K) from call_showV ggd hu64) (by rfl) O.re (by decide +kernel) (pa_cons (pv 0) pa_nil)) (nomark _)) pe_non pe_str)))
          (fun a oe cls d pn hz hf => pss_one (ps_set (i := 1) scOutc.nd rfl (Or.inl rfl) (pe_lst (pa_cons (pe_xf XT O.Z.B.n0 hz hf (pv 2)) pa_nil)))))
      (pss_one (ps_ret (pv 1)))), ?_⟩
    obtain ⟨sh1, sh2, sh3, sh4⟩ := sh
    refine ⟨_, rfl, v, d, r, rfl, da, szs, ft, fun er H1 s1 => ?_, fun i er H' dx s1 e => ?_⟩
    · have dp1 := Da.dp (K := K) _ _ (Da.same s1 _ _ da)
      refine ⟨v, d, rfl, dp1, sh1, sh2, sh3, sh4, ⟨_, rfl, v, d, rfl, dp1, sh1, sh2, sh3, sh4, ⟨rfl, _, rfl, iteT' (by simp) ?_⟩⟩⟩
      exact ⟨_, rfl, qn er _ s1⟩
    · refine ⟨true, PySem.W.exm_ref O.Z.B.su O.Z.B.T.hd O.Z.B.ty O.Z.B.own, fun _ a na => ?_, fun h => by cases h⟩
      refine ⟨_, rfl, rfl, rfl, dx, _, valF i, rfl, e, rfl, ?_⟩
      refine ⟨(by show 1 ≤ sizeLine; decide), fun p np => ?_⟩
      have u := same_upd (o := HO.lst [valF i]) np
      exact ⟨_, rfl, qs i er _ p (s1.trans u) upd_same⟩
end
end K02

set_option Elab.async false
set_option linter.all false
set_option maxRecDepth 100000
set_option maxHeartbeats 4000000
/-! need_framing, fault, outcome of {}. -/
namespace K02
open PySem L2 L2.EV
def spNeedX (C : Addr) : Sp := fun vs H Q E => ∃ (a : Addr), vs = [.ref a] ∧ H a = some (.dK []) ∧ Eb C E H .non
def spFaultX : Sp := fun vs H Q _ => ∃ (a : Addr), vs = [.ref a] ∧ H a = some (.dK []) ∧ ∀ (H' : Hp) (p : Addr), Same H H' → H' p = some (.lst [.non]) → Q (.ref p) H'
section
variable {P : Program} {w : World} {K : PySem.W.Frag} {mg : Str → Option Value} {base : Heap}
theorem ok_needX (Z : Fs K mg) : FnOk P w K mg base (L2.CX P w) 3 Z.fF Z.dF ["thing"] (spNeedX Z.B.C) := by
  have GB : FnOk P w K mg base CX0 1 Z.B.f Z.B.d ["self", "number"] (spOne Z.B.C "number") := ok_BadFraming Z.B.F Z.B.T Z.B.I Z.B.n0
  refine Z.F.okX scNeedF (fun vs H Q E h => ?_) (fun cdv A outer s H vs Q E hr h => ?_)
  · obtain ⟨a, rfl, _⟩ := h
    rfl
  · obtain ⟨a, rfl, e, q⟩ := h
    obtain ⟨tm, eM⟩ := Z.ms
    refine ⟨_, pss_cons (ps_if (pw_or (pt_not (pt_val (pe_callB call_isi (by rfl) Z.T.isi PyProof.Rows.boot_isinstance (pa_cons (pv 0) (pa_cons (pe_bltn (v := .ty "tuple") (by rfl) Z.T.tuple (by decide +kernel) rfl) pa_nil)))))
        (pw_or1 (pt_not (pt_chain op_le op_le pe_int (pe_callB call_len_seq (by rfl) Z.T.len PySem.boot_len (pa_cons (pv 0) pa_nil)) (pe_glob (v := .int 16) (by rfl) eM ⟨_, rfl⟩))))).pt
        (pss_one (ps_raise rfl (takes_of rfl rfl rfl rfl) (pmk_own3 rfl (pe_new Z.B.T Z.B.iC Z.B.tI GB hr (kb_pos Z.B.b rfl) pass0 (by rfl) Z.B.m (pa_cons pe_non pa_nil))))) pss_nil)
      (⟨fun _ _ _ _ _ _ h => h.elim⟩ : PSs _ _ tNever), ?_⟩
    refine ⟨_, rfl, .ref a, .ty "tuple", .type "dict", .type "tuple", false, rfl, .ty "tuple", .base (.dK e), kit_ty (by decide +kernel), false, rfl, iteT ?_⟩
    refine ⟨rfl, rfl, (by decide), fun b nb => ⟨b, .non, rfl, upd_same, fun dx hn ne => ⟨rfl, ?_⟩⟩⟩
    obtain ⟨b1, b2, b3⟩ := bad_heap (x := V.non) nb hn ne
    exact ⟨b, Z.B.C, dx, _, rfl, b1, ne, b2, fr0_none nb, raises_own Z.B.su Z.B.ty, q _ dx b3 upd_same⟩
theorem ok_faultX (Z : Lk K mg) : FnOk P w K mg base CX0 3 Z.f Z.d ["thing"] spFaultX := by
  have T := Z.I.T
  refine Z.F.ok scFault (fun vs H Q E h => ?_) (fun cdv A outer s H vs Q E hr h => ?_)
  · obtain ⟨a, rfl, _⟩ := h
    rfl
  · obtain ⟨a, rfl, e, q⟩ := h
    refine ⟨_, pss_cons (ps_if (pw_or (pt_not (pt_val (pe_callB call_isi (by rfl) T.isi PyProof.Rows.boot_isinstance (pa_cons (pv 0) (pa_cons (pe_bltn (v := .ty "tuple") (by rfl) T.tuple (by decide +kernel) rfl) pa_nil)))))
        (pw_or1 (pt_not (pt_chain op_le op_le pe_int (pe_callB call_len_seq (by rfl) T.len PySem.boot_len (pa_cons (pv 0) pa_nil)) pe_int)))).pt (pss_one (ps_ret (pe_lst (pa_cons pe_non pa_nil)))) pss_nil)
      (⟨fun _ _ _ _ _ _ h => h.elim⟩ : PSs _ _ tNever), ?_⟩
    refine ⟨_, rfl, .ref a, .ty "tuple", .type "dict", .type "tuple", false, rfl, .ty "tuple", .base (.dK e), kit_ty (by decide +kernel), false, rfl, iteT ?_⟩
    exact ⟨by show 1 ≤ sizeLine; decide, fun p hp => q _ p (same_upd hp) upd_same⟩
theorem ok_outcX (O : Lo K mg) : FnG P w K mg base CX0 4 O.f O.d ["thing"] spFaultX := by
  have GF : FnOk P w K mg base (L2.CX P w) 3 O.Z.fF O.Z.dF ["thing"] (spNeedX O.Z.B.C) := ok_needX O.Z
  have XT : XfC K O.Z.B.C := ⟨O.Z.B.T.ga, O.Z.B.T.gg, O.Z.B.T.exC, O.Z.B.T.hd⟩
  refine okG O.F scOutc (fun vs H Q E h => ?_) (fun cdv A outer s H vs Q E hr hgd h => ?_)
  · obtain ⟨a, rfl, _⟩ := h
    rfl
  · obtain ⟨a, rfl, e, q⟩ := h
    have ggd : (A.deeper (PyProof.Rows.envOfC "_law_outcome" (defScope sOutc) s.heap.objs.size O.f cdv)).guards = some [] := hgd
    have hu64 := hr.units
    refine ⟨_, pss_cons (ps_set (i := 1) scOutc.nd rfl (Or.inl rfl) pe_str)
      (pss_cons (ps_try_as (i := 2) (c := .ref O.Z.B.C) (Wout := fun _ _ _ _ => False) rfl rfl scOutc.nd rfl rfl ⟨by rfl, by decide, .inl O.Z.B.m⟩ takes0
          (fun W pn xe tk _ => pss_one (ps_set (i := 1) scOutc.nd rfl (Or.inl rfl) (pe_ifExp (pt_cmpR op_eq (pe_callB (show CallR _ (.builtin "repr") (rShowV K) from call_showV ggd hu64) (by rfl) O.re (by decide +kernel) (pa_cons (pe_callS (E := WE W) GF hr (by rfl) O.Z.mF O.Z.F.kp O.Z.bF (passAt tk) (pa_cons (pv 0) pa_nil)) pa_nil)) (pe_callB (show CallR _ (.builtin "repr") (rShowV K) from call_showV ggd hu64) (by rfl) O.re (by decide +kernel) (pa_cons (pv 0) pa_nil)) (nomark _)) pe_non pe_str)))
          (fun a oe cls d pn hz hf => pss_one (ps_set (i := 1) scOutc.nd rfl (Or.inl rfl) (pe_lst (pa_cons (pe_xf XT O.Z.B.n0 hz hf (pv 2)) pa_nil)))))
      (pss_one (ps_ret (pv 1)))), ?_⟩
    refine ⟨_, rfl, a, rfl, e, fun H' dx s1 e1 => ?_⟩
    refine ⟨true, PySem.W.exm_ref O.Z.B.su O.Z.B.T.hd O.Z.B.ty O.Z.B.own, fun _ b nb => ?_, fun h => by cases h⟩
    refine ⟨_, rfl, rfl, rfl, dx, _, .non, rfl, e1, rfl, ?_⟩
    refine ⟨(by show 1 ≤ sizeLine; decide), fun p np => ?_⟩
    exact ⟨_, rfl, q _ p (s1.trans (same_upd np)) upd_same⟩
end
end K02

set_option Elab.async false
set_option linter.all false
set_option maxRecDepth 100000
set_option maxHeartbeats 4000000
/-! sorted of a tuple of tuples (int, text, int). -/
namespace SX
open PySem PySem.Spec PyProof.Rows L2
section
variable {prog : Program} {w : World} {A : Around} {E : Value → Shared → Prop} {s : Shared}
theorem taken {l : Addr} {vs : List Value} {Q : List Value → Shared → Prop} (il : s.heap.IsTuple l vs.toArray) (few : vs.length < 64)
    (q : ∀ s1 : Shared, (∀ b o, s.heap.get? b = some o → s1.heap.get? b = some o) → s.heap.objs.size ≤ s1.heap.objs.size → s1.gens = s.gens → s1.os = s.os → Q vs s1) : wpAny (model prog w) A (collect (.ref l)) Q E s := by
  obtain ⟨⟨c0, d0, dt0, sl0⟩, oa, oc, on, od⟩ := id il
  simp only at oc od
  subst oc
  subst od
  unfold collect
  refine wpAny_bind (wpAny_runValue (codeAny_builtin PyProof.Rows.entry_proto_collect' ?_))
  show wpAny (model prog w) _ (do again (.builtin "list.__iadd__" ⟨[← newList [], .ref l], []⟩)) _ _ s
  refine wpAny_bind (wpAny_newList (wpAny_pure ⟨Code.quiet_builtin _ (by decide +kernel), codeAny_builtin PyProof.Rows.entry_list_iadd' ?_⟩))
  have o1 : (s.heap.push (seqObj "list" #[] 0)).get? l = some ⟨.type "tuple", d0, .seq vs.toArray on, sl0⟩ := Heap.get?_push_of_some _ oa
  show wpAny (model prog w) _ (Builtin.List.listExtendWith (.ref s.heap.objs.size) (.ref l) (.ref s.heap.objs.size)) _ _ { s with heap := s.heap.push (seqObj "list" #[] 0) }
  unfold Builtin.List.listExtendWith
  have at0 : (s.heap.push (seqObj "list" #[] 0)).get? s.heap.objs.size = some (seqObj "list" #[] 0) := Heap.get?_push_size _ rfl
  refine wpAny_bind (wpAny_typeOf (T := "tuple") ⟨_, o1, rfl⟩ ?_)
  have isT : (Builtin.List.listSameRef (.ref s.heap.objs.size) (.ref l) || Value.type "tuple" == Value.type "list" || Value.type "tuple" == Value.type "tuple") = true := by
    rw [show (Value.type "tuple" == Value.type "tuple") = true from rfl, Bool.or_true]
  rw [if_pos isT]
  refine wpAny_bind (listItems_at o1 rfl (wpAny_bind (listItems_at (xs := #[]) (n := 0) at0 rfl ?_)))
  rw [if_neg (by simp)]
  have room : ((#[] : Array Value) ++ vs.toArray).size ≤ sizeLine + 1 := by
    rw [Array.size_append, List.size_toArray, sizeLine_eq]
    show 0 + vs.length ≤ _
    omega
  refine wpAny_bind (listUpdate_at (xs := #[]) (n := 0) at0 rfl (wpAny_pure ?_) (Nat.zero_le _) room)
  generalize hs1 : ({ s with heap := (s.heap.push (seqObj "list" #[] 0)).update s.heap.objs.size (Obj.mapSeq (· ++ vs.toArray)) } : Shared) = s1
  obtain ⟨n1, at1⟩ : ∃ n1, s1.heap.get? s.heap.objs.size = some (seqObj "list" ((#[] : Array Value) ++ vs.toArray) n1) := by
    rw [← hs1]
    exact ⟨_, get?_update_seq at0 _⟩
  have old : ∀ b o, s.heap.get? b = some o → s1.heap.get? b = some o := fun b o e => by
    rw [← hs1]
    show ((s.heap.push (seqObj "list" #[] 0)).update s.heap.objs.size (Obj.mapSeq (· ++ vs.toArray))).get? b = some o
    rw [Heap.get?_update_ne _ _ _ _ (Nat.ne_of_lt (Heap.lt_size e))]
    exact Heap.get?_push_of_some _ e
  show wpAny (model prog w) A (do
    let o ← load s.heap.objs.size
    match o.data with
    | .seq xs _ => pure xs.toList
    | _ => unsupported "internal:collect") Q E s1
  refine wpAny_bind (wpAny_load at1 ?_)
  show wpAny (model prog w) A (pure ((#[] : Array Value) ++ vs.toArray).toList) Q E s1
  have ev : ((#[] : Array Value) ++ vs.toArray).toList = vs := by simp
  rw [ev]
  refine wpAny_pure (q s1 old ?_ (by rw [← hs1]) (by rw [← hs1]))
  exact Nat.le_of_lt (Heap.lt_size at1)
theorem sorted_tup {l : Addr} {L : List (Addr × T3)} {Q : Value → Shared → Prop} (il : s.heap.IsTuple l (L.map fun e => Value.ref e.1).toArray) (nh : A.handled = none) (few : L.length < 64) (tr : ∀ e ∈ L, IsTrip s.heap (.ref e.1) e.2)
    (q : ∀ (s' : Shared) (p : Addr) (n : Nat) (M : List (Addr × T3)), (∀ b o, s.heap.get? b = some o → s'.heap.get? b = some o) → s'.gens = s.gens → s'.os = s.os → s.heap.objs.size ≤ p → s'.heap.get? p = some (seqObj "list" (M.map fun e => Value.ref e.1).toArray n) →
      M.Perm L → SrtO.Srtd (fun x y : Addr × T3 => lt3 x.2 y.2) M → Q (.ref p) s') : wpAny (model prog w) A (call (.builtin "sorted") [.ref l]) Q E s := by
  refine Calls.call_function_entry kind_sorted plain_sorted entry_sorted (args_sorted1 _) ?_
  unfold Builtin.«sorted»
  refine wpAny_bind (m := checkCount "sorted" 1 1 _) (wpAny_pure ?_)
  generalize hv : (L.map fun e => Value.ref e.1) = vs at il
  have vl : vs.length = L.length := by rw [← hv, List.length_map]
  refine wpAny_bind (taken (A := A.in1) il (by omega) fun s1 k1 z1 g1 o1 => ?_)
  refine wpAny_bind (wpAny_newList ?_ (by rw [sizeLine_eq]; omega))
  have hoL : (s1.heap.push (seqObj "list" vs.toArray 0)).get? s1.heap.objs.size = some (seqObj "list" vs.toArray 0) := Heap.get?_push_size _ rfl
  have on : ∀ b o, s.heap.get? b = some o → (s1.heap.push (seqObj "list" vs.toArray 0)).get? b = some o := fun b o e => Heap.get?_push_of_some _ (k1 b o e)
  have trV : ∀ v ∈ vs, IsTrip s.heap v (tripAt s.heap v) := fun v hv2 => by
    rw [← hv] at hv2
    obtain ⟨e, he, rfl⟩ := List.mem_map.mp hv2
    have z := tr e he
    rw [tripAt_of z]
    exact z
  refine wpAny_bind (wpAny_holding (wpAny_call_entry slot_list_sort ⟨_, hoL, rfl⟩ entry_list_sort (SrtO.list_sort_ord (s := { s1 with heap := s1.heap.push (seqObj "list" vs.toArray 0) }) (swo3k (tripAt s.heap)) hoL (by rw [sizeLine_eq]; omega) (fun h2 => ?_) fun out h1 h3 => ⟨_, rfl, ?_⟩) (args_list_sort _)))
  · refine trips_sortable (by omega) (fun v hv => (trV v hv).keeps fun b o e _ => on b o e) fun o e => ?_
    have e' : some o = some (seqObj "list" vs.toArray 0) := e.symm.trans hoL
    cases e'
    intro c
    exact absurd (Value.type.inj c) (by decide)
  · obtain ⟨n, hn⟩ := sortedHeap_at (vs := vs) (out := out.toArray) hoL
    have po : out.Perm (L.map fun e => Value.ref e.1) := by
      rw [hv]
      exact h3.perm
    have isr : ∀ v ∈ out, ∃ e ∈ L, v = Value.ref e.1 := fun v hv => by
      obtain ⟨e, he, z⟩ := List.mem_map.mp (po.mem_iff.mp hv)
      exact ⟨e, he, z.symm⟩
    have back : (out.map fun v => ((match v with | .ref b => b | _ => 0 : Addr), tripAt s.heap v)).map (fun e => Value.ref e.1) = out := by
      rw [List.map_map]
      conv => rhs; rw [← List.map_id out]
      refine List.map_congr_left fun v hv => ?_
      obtain ⟨e, _, rfl⟩ := isr v hv
      rfl
    have pM : (out.map fun v => ((match v with | .ref b => b | _ => 0 : Addr), tripAt s.heap v)).Perm L := by
      have z := po.map fun v => ((match v with | .ref b => b | _ => 0 : Addr), tripAt s.heap v)
      rw [List.map_map] at z
      have e : L.map ((fun v => ((match v with | .ref b => b | _ => 0 : Addr), tripAt s.heap v)) ∘ fun e => Value.ref e.1) = L := by
        conv => rhs; rw [← List.map_id L]
        refine List.map_congr_left fun e he => ?_
        show (e.1, tripAt s.heap (.ref e.1)) = e
        rw [tripAt_of (tr e he)]
      rwa [e] at z
    refine wpAny_pure ⟨_, rfl, q _ s1.heap.objs.size n _ (fun b u e => ?_) g1 o1 z1 (by rw [back]; exact hn) pM (SrtO.srtd_map (lt := fun x y : Addr × T3 => lt3 x.2 y.2) (f := fun v => ((match v with | .ref b => b | _ => 0 : Addr), tripAt s.heap v)) h1)⟩
    have lt := Heap.lt_size (k1 b u e)
    show (sortedHeap (s1.heap.push (seqObj "list" vs.toArray 0)) s1.heap.objs.size vs out.toArray).get? b = some u
    rw [sortedHeap_old (Nat.ne_of_lt lt) (by rw [size_push']; exact Nat.lt_succ_of_lt lt)]
    exact on b u e
end
section
variable {X : Cx}
/-- sorted of a tuple of such tuples -/
def rSortTup (K : PySem.W.Frag) : List V → Hp → VK → Prop := fun vs H Q => ∃ (a : Addr) (L : List (Addr × T3)), vs = [V.ref a] ∧ SqT K H a (L.map fun e => V.ref e.1) ∧ (∀ e ∈ L, Tr H e) ∧ L.length < 64 ∧
  ∀ (M : List (Addr × T3)) (p : Addr), M.Perm L → SrtO.Srtd (fun x y : Addr × T3 => lt3 x.2 y.2) M → H p = none → Q (.ref p) (upd H p (.lst (M.map fun e => V.ref e.1)))
theorem cr_sortTup (hc : X.calm = true) : CallR X (.builtin "sorted") (rSortTup X.K) := by
  intro pins s σ H vs us Q I r h
  obtain ⟨a, L, rfl, ha, htr, few, q⟩ := h
  obtain ⟨u, rfl, ru⟩ := vals1 r
  obtain rfl : u = Value.ref a := ru
  obtain ⟨its, rv, it, _⟩ := I.tuple ha
  obtain rfl := refs_are rv
  refine sorted_tup it (I.ok.hd hc) few (fun e he => trip_in I (htr e he)) fun s' p n M k g o hp hg pm so => ?_
  have hlen : (M.map fun e => V.ref e.1).length ≤ sizeLine := by
    rw [List.length_map, pm.length_eq, sizeLine_eq]
    omega
  have hn : H p = none := I.hok.fresh hp
  have J : Inv X pins σ (upd H p (.lst (M.map fun e => V.ref e.1))) s' := I.call' (ch := []) o (Un.laid k hp hn) (I.hok.laid k hp ⟨hlen, _, n, are_refs M, hg⟩) (by rw [g]; exact I.bare) (fun _ z => nomatch z)
  exact ⟨.ref p, _, J, rfl, q M p pm so hn⟩
end
end SX

set_option Elab.async false
set_option linter.all false
set_option maxRecDepth 100000
set_option maxHeartbeats 4000000
/-! Drawn framings: the def. -/
namespace K02
open PySem L2 L2.EV
section
variable {P : Program} {w : World} {K : PySem.W.Frag} {mg : Str → Option Value} {base : Heap}
structure Lf (K : PySem.W.Frag) (mg : Str → Option Value) where
  L : Ls K mg
  f : Addr
  d : FuncData
  F : Fun K "_law_framing" "_law_framing" sFraming f d
  b : Binds K d ["m", "most"] []
  g : mg "_law_framing" = some (.ref f)
  so : mg "sorted" = none
  tu : mg "tuple" = none
  se : mg "set" = none
theorem scFraming : FnScope ["m", "most", "steps", "last", "here", "k", "to"] ["m", "most"] (defScope sFraming) := ⟨rfl, rfl, rfl, by decide +kernel, rfl, by decide +kernel, by decide +kernel⟩
theorem ok_framing (G : Lf K mg) : FnOk P w K mg base CX0 3 G.f G.d ["m", "most"] spFraming := by
  have GX : FnOk P w K mg base CX0 1 G.L.f1 G.L.d1 ["m", "many"] spNext := ok_next G.L.N G.L.T
  have GP : FnOk P w K mg base CX0 2 G.L.f2 G.L.d2 ["m", "is_end"] spPiece := ok_piece G.L
  refine G.F.ok scFraming (fun vs H Q E h => ?_) (fun cdv A outer s H vs Q E hr h => ?_)
  · obtain ⟨m, c, l, k, b, rfl, _⟩ := h
    rfl
  · obtain ⟨m, c, l, k, bm, rfl, hbm, M, hk, q⟩ := h
    have hr1 := hr.mono (j := 1) (by omega)
    have hu64 : (A.deeper (PyProof.Rows.envOfC "_law_framing" (defScope sFraming) s.heap.objs.size G.f cdv)).units + 64 < cLine := by have := hr.un; omega
    refine ⟨_, pss_cons (ps_par (i := 2) (j := 3) (x := "steps") (y := "last") rfl scFraming.nd rfl rfl (by decide) rfl rfl (pa_cons (pe_lst pa_nil) (pa_cons (pe_call GX hr1 (by rfl) G.L.mN G.L.N.kp G.L.bN .nil pass0 (pa_cons (pv 0) (pa_cons (pe_op op_add (pv 1) pe_int) pa_nil))) pa_nil)) (by rfl))
      (pss_cons (ps_for PassesOwn.never rfl (pi_range2 (by rfl) G.L.ra (pa_cons pe_int (pa_cons (pe_op op_add (pv 3) pe_int) pa_nil))) (pg_name (i := 4) scFraming.nd rfl (Or.inl rfl))
        (pss_one (ps_expr (pe_bm PySem.F.plainAttrs_list PySem.F.slot_list_append PySem.F.type_list_append mt_append (pv 2) (pa_cons (pe_tup (pa_cons (pe_call GX hr1 (by rfl) G.L.mN G.L.N.kp G.L.bN .nil pass0 (pa_cons (pv 0) (pa_cons (pv 4) pa_nil))) (pa_cons (pe_call GP hr (by rfl) G.L.mP G.L.P.kp G.L.bP .nil pass0 (pa_cons (pv 0) (pa_cons pe_bl pa_nil))) (pa_cons (pv 4) pa_nil)))) pa_nil)))))
      (pss_cons (ps_for PassesOwn.never rfl (pi_range1 (by rfl) G.L.ra (pa_cons (pe_op op_add (pv 3) pe_int) pa_nil)) (pg_name (i := 4) scFraming.nd rfl (Or.inl rfl))
        (pss_one (ps_if (pw_or (pt_cmpR op_eq (pv 4) (pv 3) (nomark _)) (pw_or1 (pt_cmpR op_eq (pe_call GX hr1 (by rfl) G.L.mN G.L.N.kp G.L.bN .nil pass0 (pa_cons (pv 0) (pa_cons pe_int pa_nil))) pe_int (nomark _)))).pt
          (pss_one (ps_expr (pe_bm PySem.F.plainAttrs_list PySem.F.slot_list_append PySem.F.type_list_append mt_append (pv 2) (pa_cons (pe_tup (pa_cons (pv 4) (pa_cons (pe_call GP hr (by rfl) G.L.mP G.L.P.kp G.L.bP .nil pass0 (pa_cons (pv 0) (pa_cons pe_bl pa_nil))) (pa_cons pe_int pa_nil)))) pa_nil))))
          (pss_one (ps_expr (pe_bm PySem.F.plainAttrs_list PySem.F.slot_list_append PySem.F.type_list_append mt_append (pv 2) (pa_cons (pe_tup (pa_cons (pv 4) (pa_cons (pe_call GP hr (by rfl) G.L.mP G.L.P.kp G.L.bP .nil pass0 (pa_cons (pv 0) (pa_cons pe_bl pa_nil))) (pa_cons (pe_op op_add (pe_op op_add (pv 4) pe_int) (pe_call GX hr1 (by rfl) G.L.mN G.L.N.kp G.L.bN .nil pass0 (pa_cons (pv 0) (pa_cons (pe_op op_sub (pv 3) (pv 4)) pa_nil)))) pa_nil)))) pa_nil)))))))
      (pss_cons (ps_for PassesOwn.never rfl (pi_range1 (by rfl) G.L.ra (pa_cons (pe_call GX hr1 (by rfl) G.L.mN G.L.N.kp G.L.bN .nil pass0 (pa_cons (pv 0) (pa_cons pe_int pa_nil))) pa_nil)) (pg_name (i := 5) scFraming.nd rfl (Or.inl rfl))
        (pss_cons (ps_set (i := 6) scFraming.nd rfl (Or.inl rfl) (pe_call GX hr1 (by rfl) G.L.mN G.L.N.kp G.L.bN .nil pass0 (pa_cons (pv 0) (pa_cons (pe_op op_add (pv 3) pe_int) pa_nil))))
        (pss_one (ps_expr (pe_bm PySem.F.plainAttrs_list PySem.F.slot_list_append PySem.F.type_list_append mt_append (pv 2) (pa_cons (pe_tup (pa_cons (pe_call GX hr1 (by rfl) G.L.mN G.L.N.kp G.L.bN .nil pass0 (pa_cons (pv 0) (pa_cons (pe_op op_add (pv 3) pe_int) pa_nil))) (pa_cons (pe_call GP hr (by rfl) G.L.mP G.L.P.kp G.L.bP .nil pass0 (pa_cons (pv 0) (pa_cons (pe_cmpR op_eq (pv 6) pe_int (nomark _)) pa_nil))) (pa_cons (pv 6) pa_nil)))) pa_nil))))))
      (pss_one (ps_ret (pe_callTy call_tuple_of (by rfl) G.tu (by decide +kernel) (pa_cons (pe_callB (SX.cr_sortM rfl) (by rfl) G.so (by decide +kernel) (pa_cons (pe_callTy (SX.cr_setM rfl hu64) (by rfl) G.se (by decide +kernel) (pa_cons (pv 2) pa_nil)) pa_nil)) pa_nil))))))), ?_⟩
    refine ⟨by decide, fun F hF => ?_⟩
    have u0 := same_upd (o := HO.lst []) hF
    have M0 := M.same u0
    refine ⟨_, rfl, _, rfl, bm, 1, rfl, rfl, m, c, l, k, _, rfl, M0, by omega, by omega, by omega, fun r0 H1 l1 k1 a1 b1 g1 N1 f1 q1 => ?_⟩
    have d1 : Dr _ H1 m c l l1 k1 := ⟨N1, f1, q1⟩
    obtain ⟨last, rfl⟩ := Int.eq_ofNat_of_zero_le a1
    have lbm : last ≤ bm := by omega
    have l5 : last ≤ 5 := by omega
    have nm : F ≠ m := (ne_of_none M.hm hF).symm
    have nc : F ≠ c := M.c_some hF
    obtain ⟨hF1, n1⟩ := d1.lst M0 upd_same (M.l_some hF)
    have D1 := ((Dr.refl M).same u0).trans d1
    have fs0 : FS H H1 m c l F k1 last [] := ⟨⟨[], l1, k1, hF1, ⟨rfl, fun i t x h => by cases h⟩, n1, nm, nc, Int.le_refl _, D1⟩, (fun x h => by cases h), fun b o z h1 h2 => ne_of_none z hF⟩
    have hn : ((last : Int) + 1 - 1).toNat = last := by omega
    have hn2 : ((last : Int) + 1).toNat = last + 1 := by omega
    refine ⟨_, _, rfl, _, rfl, last, 1, rfl, rfl, 1, _, rfl, ⟨by decide, by decide, by omega, by omega⟩, for_it walk_range (fun i σ H' => ∃ (v4 : Option V) (xs : List T3), σ = [some (.ref m), some (.int (bm : Int)), some (.ref F), some (.int (last : Int)), v4, none, none] ∧
      FS H H' m c l F (k1 + 22 * i) last xs ∧ xs.length = i ∧ ∀ j : Nat, 1 ≤ j → j ≤ i → ∃ x ∈ xs, x.2.2 = (j : Int) ∧ 0 ≤ x.1 ∧ x.1 < j)
      ⟨none, [], rfl, by simpa using fs0, rfl, fun j h1 h => absurd h (by omega)⟩ (fun _ _ _ _ _ => trivial) ?_ ?_⟩
    · rintro i x σ H2 H3 hi ⟨v4, xs, rfl, fs, lx, up⟩ ⟨rfl, rfl⟩
      have hil : i < last := by omega
      obtain ⟨ts, l3, k3, hF3, ha3, n3, _, _, kk3, D3⟩ := fs.ex
      refine ⟨_, rfl, .inl ⟨rfl, _, SqL.of hF3⟩, _, rfl, _, rfl, m, c, l3, k3, _, rfl, D3.at_, by omega, by omega, by omega, fun rh H7 l7 k7 a7 b7 g7 N7 f7 q7 => ?_⟩
      have d7 : Dr _ H7 m c l3 l7 k7 := ⟨N7, f7, q7⟩
      refine ⟨_, rfl, m, c, l7, k7, false, rfl, N7, by omega, fun pp H4 l4 k4 hp kk4 d4 => ?_⟩
      refine ⟨_, rfl, (by show 3 ≤ sizeLine; decide), fun tp htp => ?_⟩
      have d74 := d7.trans d4
      obtain ⟨hF4, n4⟩ := d74.lst D3.at_ hF3 n3
      refine ⟨F, ts.map V.ref, _, rfl, rfl, same_upd htp _ _ hF4, by rw [List.length_map, ha3.1, sizeLine_eq]; omega, ?_⟩
      have okx : Stp ((rh, pp, 1 + (i : Int)) : T3) ∧ (rh : Int) ≤ last ∧ (1 + (i : Int) : Int) ≤ last := ⟨⟨a7, by show rh < 6; omega, by rw [show decide ((1 + (i : Int) : Int) = 0) = false from decide_eq_false (by omega)]; exact hp, by show (0 : Int) ≤ 1 + i; omega, by show (1 + (i : Int)) < 6; omega⟩, by omega, by omega⟩
      have fs' := FS.push (x := (rh, pp, 1 + (i : Int))) hF3 ha3 n3 nm nc D3 d74 htp rfl (kb := k1 + 22 * ((i + 1 : Nat) : Int)) (by omega) fs.ok okx fs.hF
      refine ⟨_, _, rfl, fs', by rw [List.length_append, lx]; rfl, fun j h1 h2 => ?_⟩
      by_cases e : j = i + 1
      · subst e
        exact ⟨_, List.mem_append_right _ (List.mem_singleton.mpr rfl), by show 1 + (i : Int) = ((i + 1 : Nat) : Int); omega, a7, by show rh < ((i + 1 : Nat) : Int); omega⟩
      · obtain ⟨x, hx, e2⟩ := up j h1 (by omega)
        exact ⟨x, List.mem_append_left _ hx, e2⟩
    · rintro σ H2 ⟨v4, xs, rfl, fs, lx, up⟩
      rw [hn] at fs lx up
      refine ⟨_, rfl, last, 1, rfl, rfl, _, rfl, by omega, by omega, for_it walk_range (fun i σ H' => ∃ (v4 : Option V) (xs : List T3), σ = [some (.ref m), some (.int (bm : Int)), some (.ref F), some (.int (last : Int)), v4, none, none] ∧
        FS H H' m c l F (k1 + 110 + 23 * i) last xs ∧ xs.length = last + i ∧ (∀ j : Nat, 1 ≤ j → j ≤ last → ∃ x ∈ xs, x.2.2 = (j : Int) ∧ 0 ≤ x.1 ∧ x.1 < j) ∧ ∀ j : Nat, j < i → ∃ x ∈ xs, x.1 = (j : Int) ∧ (x.2.2 = 0 ∨ ((j : Int) < x.2.2 ∧ x.2.2 ≤ last)))
        ⟨v4, xs, rfl, ⟨?_, fs.ok, fs.hF⟩, lx, up, fun j h => absurd h (by omega)⟩ (fun _ _ _ _ _ => trivial) ?_ ?_⟩
      · obtain ⟨ts, l3, k3, hF3, ha3, n3, w1, w2, kk3, D3⟩ := fs.ex
        exact ⟨ts, l3, k3, hF3, ha3, n3, w1, w2, by omega, D3⟩
      · rintro i x σ H2 H3 hi ⟨v4, xs, rfl, fs, lx, up, dn⟩ ⟨rfl, rfl⟩
        have hil : i ≤ last := by omega
        have e0 : (0 + (i : Int)) = (i : Int) := Int.zero_add _
        show gName 4 (V.int (0 + (i : Int))) _ _ _
        rw [e0]
        obtain ⟨ts, l3, k3, hF3, ha3, n3, _, _, kk3, D3⟩ := fs.ex
        have fin : ∀ (t : Int) (pp : Str), (t = 0 ∨ ((i : Int) < t ∧ t ≤ last)) → (xs ++ [((i : Int), pp, t)]).length = last + (i + 1) ∧ (∀ j : Nat, 1 ≤ j → j ≤ last → ∃ x ∈ xs ++ [((i : Int), pp, t)], x.2.2 = (j : Int) ∧ 0 ≤ x.1 ∧ x.1 < j) ∧ ∀ j : Nat, j < i + 1 → ∃ x ∈ xs ++ [((i : Int), pp, t)], x.1 = (j : Int) ∧ (x.2.2 = 0 ∨ ((j : Int) < x.2.2 ∧ x.2.2 ≤ last)) := fun t pp et => by
          refine ⟨by rw [List.length_append, lx]; rfl, fun j h1 h2 => ?_, fun j hj => ?_⟩
          · obtain ⟨x, hx, e2⟩ := up j h1 h2
            exact ⟨x, List.mem_append_left _ hx, e2⟩
          · by_cases e : j = i
            · subst e
              exact ⟨_, List.mem_append_right _ (List.mem_singleton.mpr rfl), rfl, et⟩
            · obtain ⟨x, hx, e2⟩ := dn j (by omega)
              exact ⟨x, List.mem_append_left _ hx, e2⟩
        refine ⟨_, rfl, _, rfl, rfl, _, rfl, ?_⟩
        refine ite2 (fun z => ?_) (fun z => ?_)
        · skip
          refine ⟨_, rfl, .inl ⟨rfl, _, SqL.of hF3⟩, _, rfl, _, rfl, m, c, l3, k3, true, rfl, D3.at_, by omega, fun pp H4 l4 k4 hp kk4 d4 => ?_⟩
          refine ⟨(by show 3 ≤ sizeLine; decide), fun tp htp => ?_⟩
          obtain ⟨hF4, n4⟩ := d4.lst D3.at_ hF3 n3
          refine ⟨F, ts.map V.ref, _, rfl, rfl, same_upd htp _ _ hF4, by rw [List.length_map, ha3.1, sizeLine_eq]; omega, ?_⟩
          have okx : Stp (((i : Int), pp, 0) : T3) ∧ ((i : Int) : Int) ≤ last ∧ (0 : Int) ≤ last := ⟨⟨by show (0 : Int) ≤ i; omega, by show (i : Int) < 6; omega, hp, Int.le_refl _, by show (0 : Int) < 6; decide⟩, by omega, by omega⟩
          have fs' := FS.push (x := ((i : Int), pp, 0)) hF3 ha3 n3 nm nc D3 d4 htp rfl (kb := k1 + 110 + 23 * ((i + 1 : Nat) : Int)) (by omega) fs.ok okx fs.hF
          obtain ⟨w1, w2, w3⟩ := fin 0 pp (.inl rfl)
          exact ⟨_, _, rfl, fs', w1, w2, w3⟩
        · have z1 : ¬ (i : Int) = last := fun y => z (decide_eq_true (congrArg V.int y))
          refine ⟨_, rfl, m, c, l3, k3, 2, rfl, D3.at_, by decide, by decide, by omega, fun rz H7 l7 k7 a7 b7 g7 N7 f7 q7 => ?_⟩
          have d7 : Dr _ H7 m c l3 l7 k7 := ⟨N7, f7, q7⟩
          obtain ⟨hF7, n7⟩ := d7.lst D3.at_ hF3 n3
          have D7 := D3.trans d7
          have ha7 := ha3.same (d7.keepT D3.at_)
          refine ⟨rfl, _, rfl, ?_⟩
          refine ite2 (fun z => ?_) (fun z => ?_)
          · skip
            refine ⟨_, rfl, .inl ⟨rfl, _, SqL.of hF7⟩, _, rfl, _, rfl, m, c, l7, k7, true, rfl, D7.at_, by omega, fun pp H4 l4 k4 hp kk4 d4 => ?_⟩
            refine ⟨(by show 3 ≤ sizeLine; decide), fun tp htp => ?_⟩
            obtain ⟨hF4, n4⟩ := d4.lst D7.at_ hF7 n7
            refine ⟨F, ts.map V.ref, _, rfl, rfl, same_upd htp _ _ hF4, by rw [List.length_map, ha3.1, sizeLine_eq]; omega, ?_⟩
            have okx : Stp (((i : Int), pp, 0) : T3) ∧ ((i : Int) : Int) ≤ last ∧ (0 : Int) ≤ last := ⟨⟨by show (0 : Int) ≤ i; omega, by show (i : Int) < 6; omega, hp, Int.le_refl _, by show (0 : Int) < 6; decide⟩, by omega, by omega⟩
            have fs' := FS.push (x := ((i : Int), pp, 0)) hF7 ha7 n7 nm nc D7 d4 htp rfl (kb := k1 + 110 + 23 * ((i + 1 : Nat) : Int)) (by omega) fs.ok okx fs.hF
            obtain ⟨w1, w2, w3⟩ := fin 0 pp (.inl rfl)
            exact ⟨_, _, rfl, fs', w1, w2, w3⟩
          · refine ⟨_, rfl, .inl ⟨rfl, _, SqL.of hF7⟩, _, rfl, _, rfl, m, c, l7, k7, false, rfl, D7.at_, by omega, fun pp H4 l4 k4 hp kk4 d4 => ?_⟩
            have D4 := D7.trans d4
            refine ⟨_, rfl, _, 1, rfl, rfl, _, rfl, _, rfl, _, rfl, _, _, rfl, rfl, m, c, l4, k4, _, rfl, D4.at_, by omega, by omega, by omega, fun rg H8 l8 k8 a8 b8 g8 N8 f8 q8 => ?_⟩
            have d8 : Dr _ H8 m c l4 l8 k8 := ⟨N8, f8, q8⟩
            have d48 := d4.trans d8
            refine ⟨_, rg, rfl, rfl, (by show 3 ≤ sizeLine; decide), fun tp htp => ?_⟩
            obtain ⟨hF4, n4⟩ := d48.lst D7.at_ hF7 n7
            refine ⟨F, ts.map V.ref, _, rfl, rfl, same_upd htp _ _ hF4, by rw [List.length_map, ha3.1, sizeLine_eq]; omega, ?_⟩
            have okx : Stp (((i : Int), pp, (i : Int) + 1 + rg) : T3) ∧ ((i : Int) : Int) ≤ last ∧ ((i : Int) + 1 + rg) ≤ last := ⟨⟨by show (0 : Int) ≤ i; omega, by show (i : Int) < 6; omega, by rw [show decide (((i : Int) + 1 + rg) = 0) = false from decide_eq_false (by omega)]; exact hp, by show 0 ≤ (i : Int) + 1 + rg; omega, by show (i : Int) + 1 + rg < 6; omega⟩, by omega, by omega⟩
            have fs' := FS.push (x := ((i : Int), pp, (i : Int) + 1 + rg)) hF7 ha7 n7 nm nc D7 d48 htp rfl (kb := k1 + 110 + 23 * ((i + 1 : Nat) : Int)) (by omega) fs.ok okx fs.hF
            obtain ⟨w1, w2, w3⟩ := fin ((i : Int) + 1 + rg) pp (.inr ⟨by omega, by omega⟩)
            exact ⟨_, _, rfl, fs', w1, w2, w3⟩
      · rintro σ H2 ⟨v4, xs, rfl, fs, lx, up, dn⟩
        rw [hn2] at fs lx dn
        obtain ⟨ts, l3, k3, hF3, ha3, n3, _, _, kk3, D3⟩ := fs.ex
        refine ⟨_, rfl, m, c, l3, k3, 3, rfl, D3.at_, by decide, by decide, by omega, fun r2 H3 l4 k4 a4 b4 g4 N4 f4 q4 => ?_⟩
        have d4 : Dr H2 H3 m c l3 l4 k4 := ⟨N4, f4, q4⟩
        obtain ⟨hF4, n4⟩ := d4.lst D3.at_ hF3 n3
        have fs4 : FS H H3 m c l F (k1 + 250) last xs := ⟨⟨ts, l4, k4, hF4, ha3.same (d4.keepT D3.at_), n4, nm, nc, by omega, D3.trans d4⟩, fs.ok, fs.hF⟩
        refine ⟨r2, rfl, by omega, by omega, for_it walk_range (fun i σ H' => ∃ (v4 v5 v6 : Option V) (xs : List T3), σ = [some (.ref m), some (.int (bm : Int)), some (.ref F), some (.int (last : Int)), v4, v5, v6] ∧
          FS H H' m c l F (k1 + 250 + 24 * i) last xs ∧ xs.length = last + (last + 1) + i ∧ (∀ j : Nat, 1 ≤ j → j ≤ last → ∃ x ∈ xs, x.2.2 = (j : Int) ∧ 0 ≤ x.1 ∧ x.1 < j) ∧ ∀ j : Nat, j < last + 1 → ∃ x ∈ xs, x.1 = (j : Int) ∧ (x.2.2 = 0 ∨ ((j : Int) < x.2.2 ∧ x.2.2 ≤ last)))
          ⟨v4, none, none, xs, rfl, by simpa using fs4, lx, up, dn⟩ (fun _ _ _ _ _ => trivial) ?_ ?_⟩
        · rintro i x σ H5 H6 hi ⟨v4, v5, v6, xs, rfl, fs, lx, up, dn⟩ ⟨rfl, rfl⟩
          have hi6 : i < 2 := by omega
          obtain ⟨ts, l5', k5, hF5, ha5, n5, _, _, kk5, D5⟩ := fs.ex
          refine ⟨_, rfl, _, rfl, last, 1, rfl, rfl, m, c, l5', k5, _, rfl, D5.at_, by omega, by omega, by omega, fun rt H8 l8 k8 a8 b8 g8 N8 f8 q8 => ?_⟩
          have d8 : Dr _ H8 m c l5' l8 k8 := ⟨N8, f8, q8⟩
          have D8 := D5.trans d8
          obtain ⟨hF8, n8⟩ := d8.lst D5.at_ hF5 n5
          have ha8 := ha5.same (d8.keepT D5.at_)
          refine ⟨_, rfl, .inl ⟨rfl, _, SqL.of hF8⟩, _, rfl, _, rfl, last, 1, rfl, rfl, m, c, l8, k8, _, rfl, D8.at_, by omega, by omega, by omega, fun rh H7 l7 k7 a7 b7 g7 N7 f7 q7 => ?_⟩
          have d7 : Dr _ H7 m c l8 l7 k7 := ⟨N7, f7, q7⟩
          refine ⟨_, rfl, _, rfl, rfl, m, c, l7, k7, decide (V.int (rt) = V.int 0), rfl, N7, by omega, fun pp H4 l4 k4 hp kk4 d4 => ?_⟩
          rw [bl_eq] at hp
          refine ⟨_, rfl, (by show 3 ≤ sizeLine; decide), fun tp htp => ?_⟩
          have d74 := d7.trans d4
          obtain ⟨hF4, n4⟩ := d74.lst D8.at_ hF8 n8
          refine ⟨F, ts.map V.ref, _, rfl, rfl, same_upd htp _ _ hF4, by rw [List.length_map, ha5.1, sizeLine_eq]; omega, ?_⟩
          have okx : Stp ((rh, pp, rt) : T3) ∧ (rh : Int) ≤ last ∧ (rt : Int) ≤ last := ⟨⟨a7, by show rh < 6; omega, hp, a8, by show rt < 6; omega⟩, by omega, by omega⟩
          have fs' := FS.push (x := (rh, pp, rt)) hF8 ha8 n8 nm nc D8 d74 htp rfl (kb := k1 + 250 + 24 * ((i + 1 : Nat) : Int)) (by omega) fs.ok okx fs.hF
          exact ⟨_, _, _, _, rfl, fs', by rw [List.length_append, lx]; rfl, fun j h1 h2 => by
            obtain ⟨x, hx, e2⟩ := up j h1 h2
            exact ⟨x, List.mem_append_left _ hx, e2⟩, fun j hj => by
            obtain ⟨x, hx, e2⟩ := dn j hj
            exact ⟨x, List.mem_append_left _ hx, e2⟩⟩
        · rintro σ H5 ⟨v4, v5, v6, xs, rfl, fs, lx, up, dn⟩
          obtain ⟨ts, l6, k6, hF6, ha6, n6, _, _, kk6, D6⟩ := fs.ex
          have hr2 : r2.toNat ≤ 2 := by omega
          have l16 : xs.length ≤ 16 := by omega
          have ezl : (ts.zip xs).map (fun e => V.ref e.1) = ts.map V.ref := by
            rw [show (fun e : Addr × T3 => V.ref e.1) = V.ref ∘ Prod.fst from rfl, ← List.map_map, List.map_fst_zip (Nat.le_of_eq ha6.1)]
          have tr6 : ∀ e ∈ ts.zip xs, SX.Tr H5 e := fun e he => by
            obtain ⟨j, hj, ej⟩ := List.getElem_of_mem he
            have z2 : (ts.zip xs)[j]? = some e := by rw [List.getElem?_eq_getElem hj, ej]
            rw [List.getElem?_zip_eq_some] at z2
            exact ha6.2 j _ _ z2.1 z2.2
          have lz : (ts.zip xs).length ≤ 16 := by rw [List.length_zip]; omega
          refine ⟨_, rfl, F, ts.zip xs, rfl, by rw [ezl]; exact SqL.of hF6, tr6, by omega, fun a L ha0 sub cov nd => ?_⟩
          have ua := same_upd (o := SX.SetM P w a L) ha0
          refine ⟨a, L, rfl, upd_same, fun e he => ua _ _ (tr6 e (sub e he)), fun Mt p pm sr hp => ?_⟩
          have up2 := same_upd (o := HO.lst (Mt.map fun e => V.ref e.1)) hp
          refine ⟨p, _, rfl, .inl ⟨SqL.of upd_same, fun p6 hp6 => ?_⟩⟩
          have u6 := same_upd (o := HO.tup (Mt.map fun e => V.ref e.1)) hp6
          have sm := (ua.trans up2).trans u6
          obtain ⟨fa, fm, lm⟩ := frm_of (p := p6) ha6 sub cov nd pm sr l16 l5 fs.ok up (fun k hk => dn k (by omega)) sm upd_same
          exact q p6 _ last _ l6 k6 fa fm lbm (by omega) (by omega) (D6.same sm)
end
end K02

set_option Elab.async false
set_option linter.all false
set_option maxRecDepth 100000
set_option maxHeartbeats 4000000
/-! Slices and sums of tracked tuples. -/
namespace L2
open PySem PySem.Spec PyProof.Rows
/-- t[lo:hi]: somewhere, all else stays -/
def rSlW (K : PySem.W.Frag) : V → Option Int → Option Int → Hp → VK → Prop := fun x lo hi H Q => ∃ a xs, x = .ref a ∧ H a = some (.tup xs) ∧ ∀ p H', (∀ b o, H b = some o → H' b = some o) → H' p = some (.tup (cutV xs lo hi)) → Q (.ref p) H'
theorem sl_tupS {X : Cx} : SlR X (rSlW X.K) := by
  intro pins s σ H x v vl vu lo hi sl Q I rx hs pl pu h
  obtain ⟨a, xs, rfl, ha, q⟩ := h
  refine sl_tupA pins s σ H _ v vl vu lo hi sl Q I rx hs pl pu ⟨a, xs, rfl, SqT.of ha, fun z => ?_, fun _ p hp => q p _ (K02.same_upd hp) upd_same⟩
  refine q a H (fun _ _ e => e) ?_
  rw [ha]
  unfold cutV
  rw [z.1, z.2]
  simp
def rCatZ : R2 := fun x y H Q => ∃ a b xs ys, x = .ref a ∧ y = .ref b ∧ H a = some (.tup xs) ∧ H b = some (.tup ys) ∧ xs.length + ys.length ≤ sizeLine ∧
  ∀ H' p, (∀ b o, H b = some o → H' b = some o) → H' p = some (.tup (xs ++ ys)) → Q (.ref p) H'
theorem op_catZ {X : Cx} : OpR X (binaryOp .Add) rCatZ := by
  intro pins s σ H x y v u Q I rx ry h
  obtain ⟨a, b, xs, ys, rfl, rfl, ha, hb, hz, q⟩ := h
  refine op_catA pins s σ H _ _ v u Q I rx ry ⟨a, b, xs, ys, rfl, rfl, SqT.of ha, SqT.of hb, hz, fun z => q H b (fun _ _ e => e) (by rw [z]; exact hb), fun _ z => q H a (fun _ _ e => e) (by rw [z, List.append_nil]; exact ha), fun _ _ p hp => q _ p (fun c o e => ?_) upd_same⟩
  rw [upd_ne (ne_of_none e hp)]
  exact e
end L2
namespace K02
open PySem L2 L2.EV
def repS (a : Str) (n : Int) : Str := ⟨(List.replicate n.toNat a.cps).foldl (· ++ ·) #[]⟩
theorem rep_size (a : Array Nat) : ∀ (k : Nat) (acc : Array Nat), ((List.replicate k a).foldl (· ++ ·) acc).size = acc.size + k * a.size
  | 0, acc => by simp
  | k + 1, acc => by
    rw [List.replicate_succ, List.foldl_cons, rep_size a k, Array.size_append, Nat.succ_mul]
    omega
def rMulS : R2 := fun x y H Q => ∃ (a : Str) (n : Int), x = .str a ∧ y = .int n ∧ 2 ≤ n ∧ n ≤ 1000 ∧ 1 ≤ a.length ∧ a.length ≤ 1000 ∧ Q (.str (repS a n)) H
theorem op_mulS {X : Cx} : OpR X (binaryOp .Mult) rMulS := by
  intro pins s σ H x y v u Q I rx ry h
  obtain ⟨a, n, rfl, rfl, h1, h2, h3, h4, q⟩ := h
  obtain ⟨t, rfl⟩ := rx
  obtain ⟨t', rfl⟩ := ry
  obtain ⟨k, rfl⟩ := Int.eq_ofNat_of_zero_le (show 0 ≤ n by omega)
  have ml : a.length * k ≤ 1000 * 1000 := Nat.mul_le_mul h4 (by omega)
  have e0 : (decide ((k : Int) = 1)) = false := decide_eq_false (by omega)
  have e1 : ((k : Int) == 1 || a.length == 0) = false := by
    rw [Bool.or_eq_false_iff]
    exact ⟨by simp; omega, by simp; intro z; rw [z] at h3; simp at h3⟩
  refine P.mul_str (by rw [decide_eq_false (by omega), decide_eq_false (by omega)]; rfl) (fun _ _ => ?_) (fun _ _ => ?_) ?_
  · have z : (1000000 : Int) ≤ (2 ^ 63 - 1) / (k : Int) := by
      refine Int.le_ediv_of_mul_le (by omega) ?_
      omega
    omega
  · show decide (a.length * ((k : Int)).toNat > sizeLine) = false
    rw [sizeLine_eq]
    refine decide_eq_false ?_
    rw [Int.toNat_natCast]
    omega
  · rw [if_neg (by omega), e1, if_neg (by decide)]
    simp only [Made.post]
    refine ⟨?_, .str (repS a (k : Int)), H, I.tok _, ⟨_, rfl⟩, q⟩
    show ((List.replicate ((k : Int)).toNat a.cps).foldl (· ++ ·) #[]).size ≤ sizeLine
    rw [rep_size, Int.toNat_natCast, sizeLine_eq]
    have z : k * a.cps.size ≤ 1000 * 1000 := Nat.mul_le_mul (by omega) h4
    simp only [List.size_toArray, List.length_nil]
    omega

abbrev sSpoil : Stmt := top 26
abbrev NS : List Str := ["m", "framing", "at", "way", "step", "some", "odds"]
end K02

set_option Elab.async false
set_option linter.all false
set_option maxRecDepth 100000
set_option maxHeartbeats 4000000
/-! _law_spoiled: the items. -/
namespace K02
open PySem L2 L2.EV
def rt (H : Hp) (m l : Addr) : Hp := fun b => if b = m ∨ b = l then none else H b
theorem rt_mk {H : Hp} {m l b : Addr} {o : HO} (e : H b = some o) (h1 : b ≠ m) (h2 : b ≠ l) : rt H m l b = some o := by
  unfold rt
  rw [if_neg (by intro z; rcases z with z | z; exact h1 z; exact h2 z)]
  exact e
theorem rt_some {H : Hp} {m l b : Addr} {o : HO} (e : rt H m l b = some o) : H b = some o ∧ b ≠ m ∧ b ≠ l := by
  unfold rt at e
  by_cases h : b = m ∨ b = l
  · rw [if_pos h] at e
    cases e
  · rw [if_neg h] at e
    exact ⟨e, fun z => h (.inl z), fun z => h (.inr z)⟩
theorem rt_sub {H : Hp} {m l : Addr} : Same (rt H m l) H := fun b o e => (rt_some e).1
theorem rt_same {H H' : Hp} {m l : Addr} (s : Same H H') : Same (rt H m l) (rt H' m l) := fun b o e => by
  obtain ⟨h, h1, h2⟩ := rt_some e
  exact rt_mk (s _ _ h) h1 h2
theorem rt_dr {H H' : Hp} {m c l l' : Addr} {k : Int} (d : Dr H H' m c l l' k) : Same (rt H m l) (rt H' m l') := fun b o e => by
  obtain ⟨h, h1, h2⟩ := rt_some e
  refine rt_mk (d.kp _ _ h h1 h2) h1 ?_
  rcases d.hl with z | z
  · rw [z]
    exact h2
  · exact ne_of_none h z
theorem MAt.rtt {H' : Hp} {m c l p : Addr} {k : Int} {xs : List V} (M : MAt H' m c l k) (hp : H' p = some (.tup xs)) : rt H' m l p = some (.tup xs) := by
  obtain ⟨ls, hl, _⟩ := M.hl
  exact rt_mk hp (ne_of hp M.hm (fun z => by cases z)) (ne_of hp hl (fun z => by cases z))

/-- items that may be looked at -/
def giB (e : PyData) : Bool := (itemsD e).all (fun g => match g with
  | .str p => decide (p.length ≤ 1000) && PyData.strOk p
  | _ => true) && (e.showable && (!e.hasDict && (decide (e.shown.length ≤ 600) && (decide (e.depth ≤ 2) && e.canLay0))))
theorem gi_ok {e : PyData} (h : giB e = true) : Okd e 600 2 ∧ szS e ∧ ∀ g ∈ itemsD e, stOk g := by
  unfold giB at h
  rw [Bool.and_eq_true, Bool.and_eq_true, Bool.and_eq_true, Bool.and_eq_true, Bool.and_eq_true] at h
  obtain ⟨a, b, c, d, f, g⟩ := h
  have st : ∀ g ∈ itemsD e, ∀ p, g = .str p → p.length ≤ 1000 ∧ PyData.strOk p = true := fun g hg p z => by
    subst z
    have := List.all_eq_true.mp a _ hg
    rw [Bool.and_eq_true] at this
    exact ⟨of_decide_eq_true this.1, this.2⟩
  refine ⟨⟨b, by simpa using c, of_decide_eq_true d, of_decide_eq_true f, g⟩, fun x y z ez p ep => ?_, fun g hg p ep => ?_⟩
  · subst ez
    exact (st y (by show y ∈ [x, y, z]; simp) p ep).1
  · obtain ⟨h1, h2⟩ := st g hg p ep
    exact ⟨by omega, h2⟩
theorem gi_of {e : PyData} (o : Okd e 600 2) (st : ∀ g ∈ itemsD e, ∀ p, g = .str p → p.length ≤ 1000 ∧ PyData.strOk p = true) : giB e = true := by
  unfold giB
  rw [Bool.and_eq_true, Bool.and_eq_true, Bool.and_eq_true, Bool.and_eq_true, Bool.and_eq_true]
  refine ⟨List.all_eq_true.mpr fun g hg => ?_, o.sh, by rw [o.nd]; rfl, decide_eq_true o.sz, decide_eq_true o.dp, o.lay⟩
  cases g with
  | str p =>
    obtain ⟨h1, h2⟩ := st _ hg p rfl
    show (decide (p.length ≤ 1000) && PyData.strOk p) = true
    rw [decide_eq_true h1, h2]
    rfl
  | _ => rfl
def ItOk (G : Hp) (x : V) : Prop := ∃ d, Da G x d ∧ giB d = true
theorem ItOk.same {G G' : Hp} {x : V} (h : ItOk G x) (s : Same G G') : ItOk G' x := by
  obtain ⟨d, a, b⟩ := h
  exact ⟨d, Da.same s _ _ a, b⟩
/-- the state: the draws, the step -/
structure Ct (m c l t0 : Addr) (k : Int) (y : T3) (σ : L2.St) (H : Hp) : Prop where
  M : MAt H m c l k
  v : σ[4]? = some (some (.ref t0))
  s : S3 H t0 y
  st : Stp y
section
variable {m c l t0 : Addr} {k : Int} {y : T3}
theorem Ct.same {σ : L2.St} {H H' : Hp} (C : Ct m c l t0 k y σ H) (s : Same H H') : Ct m c l t0 k y σ H' := ⟨C.M.same s, C.v, s _ _ C.s, C.st⟩
theorem MAt.newT {H : Hp} {p : Addr} {xs : List V} (M : MAt H m c l k) (hp : H p = none) : rt (L2.upd H p (.tup xs)) m l p = some (.tup xs) := (M.same (same_upd hp)).rtt upd_same
theorem MAt.newL {H : Hp} {p : Addr} {xs : List V} (M : MAt H m c l k) (hp : H p = none) : rt (L2.upd H p (.lst xs)) m l p = some (.lst xs) := rt_mk upd_same (ne_of_none M.hm hp).symm (M.l_some hp)
def RI (m c l t0 : Addr) (k : Int) (y : T3) (t : TE) : Prop := ∀ (σ : L2.St) (H : Hp) (Q : VK), Ct m c l t0 k y σ H → (∀ H' x, Same H H' → ItOk (rt H' m l) x → Q x H') → t σ H Q
def RIs (m c l t0 : Addr) (k : Int) (y : T3) (t : TA) (n : Nat) : Prop := ∀ (σ : L2.St) (H : Hp) (Q : List V → Hp → Prop), Ct m c l t0 k y σ H → (∀ H' xs, Same H H' → xs.length = n → (∀ x ∈ xs, ItOk (rt H' m l) x) → Q xs H') → t σ H Q
theorem ri_nil : RIs m c l t0 k y tNil 0 := fun σ H Q _ h => h H [] (Same.refl H) rfl (fun x hx => by cases hx)
theorem ri_cons {t : TE} {ta : TA} {n : Nat} (h1 : RI m c l t0 k y t) (h2 : RIs m c l t0 k y ta n) : RIs m c l t0 k y (tCons t ta) (n + 1) := fun σ H Q C h => h1 σ H _ C fun H1 x s1 o1 => h2 σ H1 _ (C.same s1) fun H2 xs s2 l2 o2 => h H2 (x :: xs) (s1.trans s2) (by rw [List.length_cons, l2]) fun z hz => by
  rcases List.mem_cons.mp hz with rfl | hz
  · exact o1.same (rt_same s2)
  · exact o2 z hz
theorem ri_c {v : V} {d : PyData} (hd : ∀ H, Da H v d) (g : giB d = true) : RI m c l t0 k y (tC v) := fun σ H Q _ h => h H v (Same.refl H) ⟨d, hd _, g⟩
def cts : List V → TA
  | [] => tNil
  | v :: r => tCons (tC v) (cts r)
theorem cts_ok : ∀ {vs : List V} {σ : L2.St} {H : Hp} {R : List V → Hp → Prop}, R vs H → cts vs σ H R
  | [], _, _, _, h => h
  | v :: r, σ, H, R, h => cts_ok (vs := r) h
theorem ri_tup {vs : List V} {ds : List PyData} (hd : ∀ H, DaAll H vs ds) (hl : vs.length ≤ 10) (g : giB (.tuple ds) = true) : RI m c l t0 k y (tTup (cts vs)) := fun σ H Q C h => by
  refine cts_ok ⟨by rw [sizeLine_eq]; omega, fun p hp => h _ _ (same_upd hp) ⟨_, .tup (C.M.newT hp) (hd _), g⟩⟩
theorem ri_neg {a b : Int} {s : Str} (g : giB (.tuple [.int (-a), .str s, .int b]) = true) : RI m c l t0 k y (tTup (tCons (tUn (rU fun i => V.int (-i)) (tC (.int a))) (tCons (tC (.str s)) (tCons (tC (.int b)) tNil)))) := fun σ H Q C h =>
  ⟨a, rfl, ⟨by show 3 ≤ sizeLine; decide, fun p hp => h _ _ (same_upd hp) ⟨_, .tup (C.M.newT hp) (.cons (.int _) (.cons (.str _) (.cons (.int _) .nil))), g⟩⟩⟩
theorem ri_mul {a b n : Int} {s : Str} (n2 : 2 ≤ n) (n3 : n ≤ 1000) (s1 : 1 ≤ s.length) (s2 : s.length ≤ 1000) (g : giB (.tuple [.int a, .str (repS s n), .int b]) = true) : RI m c l t0 k y (tTup (tCons (tC (.int a)) (tCons (tOp rMulS (tC (.str s)) (tC (.int n))) (tCons (tC (.int b)) tNil)))) := fun σ H Q C h =>
  ⟨s, n, rfl, rfl, n2, n3, s1, s2, ⟨by show 3 ≤ sizeLine; decide, fun p hp => h _ _ (same_upd hp) ⟨_, .tup (C.M.newT hp) (.cons (.int _) (.cons (.str _) (.cons (.int _) .nil))), g⟩⟩⟩
theorem okI {i : Int} (h0 : 0 ≤ i) (h1 : i < 6) : Okd (.int i) 102 0 := (okd_int h0 (by omega)).le (by decide) (Nat.le_refl _)
theorem okS {s : Str} (h : PyData.strOk s = true) (l : s.length ≤ 10) : Okd (.str s) 102 0 := okd_str (m := 10) h l
theorem gi_step {y : T3} (h : Stp y) {ds : List PyData} (hs : ∀ g ∈ ds, (∃ i : Int, g = .int i ∧ 0 ≤ i ∧ i < 6) ∨ ∃ s : Str, g = .str s ∧ s.length ≤ 10 ∧ PyData.strOk s = true) (l : ds.length ≤ 4) : Okd (.tuple ds) 600 2 ∧ Okd (.list ds) 600 2 ∧ ∀ g ∈ ds, ∀ p, g = .str p → p.length ≤ 1000 ∧ PyData.strOk p = true := by
  have one : ∀ g ∈ ds, Okd g 102 0 := fun g hg => by
    rcases hs g hg with ⟨i, rfl, a, b⟩ | ⟨s, rfl, a, b⟩
    · exact okI a b
    · exact okS b a
  refine ⟨(okd_tuple one l).le (by decide) (by decide), (okd_list one l).le (by decide) (by decide), fun g hg p ep => ?_⟩
  rcases hs g hg with ⟨i, rfl, _⟩ | ⟨s, rfl, a, b⟩
  · cases ep
  · cases ep
    exact ⟨by omega, b⟩
theorem pc_str {p : Str} {b : Bool} (h : Pc p b) : PyData.strOk p = true := by
  obtain ⟨q, e, _, hb, _⟩ := h
  unfold PyData.strOk
  rw [← Array.all_toList, show p.cps.toList = sl p from rfl, e, List.all_eq_true]
  intro c hc
  have low : ∀ c ∈ sgs, c < 0x110000 := by decide +kernel
  refine decide_eq_true ?_
  rcases List.mem_append.mp hc with hc | hc
  · exact low c (hb c hc)
  · cases b with
    | false => cases hc
    | true =>
      have z : c = 59 := by simpa using hc
      omega
theorem stp_items {y : T3} (h : Stp y) : (0 ≤ y.1 ∧ y.1 < 6) ∧ (y.2.1.length ≤ 8 ∧ PyData.strOk y.2.1 = true) ∧ 0 ≤ y.2.2 ∧ y.2.2 < 6 := by
  obtain ⟨a, b, pc, c, d⟩ := h
  exact ⟨⟨a, b⟩, ⟨(pc_len pc).2, pc_str pc⟩, c, d⟩
theorem gi_dT {y : T3} (h : Stp y) : giB (dT y) = true := by
  obtain ⟨⟨a, b⟩, ⟨e, f⟩, g, i⟩ := stp_items h
  obtain ⟨o, _, st⟩ := gi_step h (ds := [.int y.1, .str y.2.1, .int y.2.2]) (fun x hx => by
    have cs : x = .int y.1 ∨ x = .str y.2.1 ∨ x = .int y.2.2 := by simpa using hx
    rcases cs with rfl | rfl | rfl
    · exact .inl ⟨_, rfl, a, b⟩
    · exact .inr ⟨_, rfl, by omega, f⟩
    · exact .inl ⟨_, rfl, g, i⟩) (by simp)
  exact gi_of o st
theorem ri_sl {K : PySem.W.Frag} : RI m c l t0 k y (tSl (rSlW K) (tVar 4) tNoPart (tPart (tC (.int 2)))) := fun σ H Q C h => by
  obtain ⟨⟨a, b⟩, ⟨e, f⟩, g, i⟩ := stp_items C.st
  obtain ⟨o, _, st⟩ := gi_step C.st (ds := [.int y.1, .str y.2.1]) (fun x hx => by
    have cs : x = .int y.1 ∨ x = .str y.2.1 := by simpa using hx
    rcases cs with rfl | rfl
    · exact .inl ⟨_, rfl, a, b⟩
    · exact .inr ⟨_, rfl, by omega, f⟩) (by simp)
  exact ⟨_, C.v, 2, rfl, t0, _, rfl, C.s, fun p H' s e2 => h H' (.ref p) s ⟨_, .tup ((C.M.same s).rtt e2) (.cons (.int y.1) (.cons (.str y.2.1) .nil)), gi_of o st⟩⟩
theorem ri_cat : RI m c l t0 k y (tOp rCatZ (tVar 4) (tTup (tCons (tC (.int 0)) tNil))) := fun σ H Q C h => by
  obtain ⟨⟨a, b⟩, ⟨e, f⟩, g, i⟩ := stp_items C.st
  obtain ⟨o, _, st⟩ := gi_step C.st (ds := [.int y.1, .str y.2.1, .int y.2.2, .int 0]) (fun x hx => by
    have cs : x = .int y.1 ∨ x = .str y.2.1 ∨ x = .int y.2.2 ∨ x = .int 0 := by simpa using hx
    rcases cs with rfl | rfl | rfl | rfl
    · exact .inl ⟨_, rfl, a, b⟩
    · exact .inr ⟨_, rfl, by omega, f⟩
    · exact .inl ⟨_, rfl, g, i⟩
    · exact .inl ⟨_, rfl, by decide, by decide⟩) (by simp)
  refine ⟨_, C.v, ⟨by show 1 ≤ sizeLine; decide, fun p hp => ?_⟩⟩
  have u := same_upd (o := HO.tup [V.int 0]) hp
  exact ⟨t0, p, _, _, rfl, rfl, u _ _ C.s, upd_same, by show 4 ≤ sizeLine; decide, fun H' q s e2 => h H' (.ref q) (u.trans s) ⟨_, .tup ((C.M.same (u.trans s)).rtt e2) (.cons (.int y.1) (.cons (.str y.2.1) (.cons (.int y.2.2) (.cons (.int 0) .nil)))), gi_of o st⟩⟩
theorem ri_lst {K : PySem.W.Frag} : RI m c l t0 k y (tCB (fun xs H Q => ∃ p ys, xs = [.ref p] ∧ (SqL K H p ys ∨ SqT K H p ys) ∧ ∀ l, H l = none → Q (.ref l) (upd H l (.lst ys))) (tCons (tVar 4) tNil)) := fun σ H Q C h => by
  obtain ⟨⟨a, b⟩, ⟨e, f⟩, g, i⟩ := stp_items C.st
  obtain ⟨_, o, st⟩ := gi_step C.st (ds := [.int y.1, .str y.2.1, .int y.2.2]) (fun x hx => by
    have cs : x = .int y.1 ∨ x = .str y.2.1 ∨ x = .int y.2.2 := by simpa using hx
    rcases cs with rfl | rfl | rfl
    · exact .inl ⟨_, rfl, a, b⟩
    · exact .inr ⟨_, rfl, by omega, f⟩
    · exact .inl ⟨_, rfl, g, i⟩) (by simp)
  exact ⟨_, C.v, t0, _, rfl, .inr (SqT.of C.s), fun p hp => h _ (.ref p) (same_upd hp) ⟨_, .lst (C.M.newL hp) (.cons (.int y.1) (.cons (.str y.2.1) (.cons (.int y.2.2) .nil))), gi_of o (fun g hg => by cases hg)⟩⟩
theorem gs_lst {ta : TA} {n i : Nat} {u : TS} {D : Ends} {σ : L2.St} {H : Hp} (h : RIs m c l t0 k y ta n) (C : Ct m c l t0 k y σ H)
    (kk : ∀ H' xs, Same H H' → xs.length = n → (∀ x ∈ xs, ItOk (rt H' m l) x) → xs.length ≤ sizeLine ∧ ∀ p, H' p = none → u D (σ.set i (some (.ref p))) (L2.upd H' p (.lst xs))) : tSeq (tAsg (tLst ta) (gName i)) u D σ H := h σ H _ C kk
theorem gs_cat {ta : TA} {n i : Nat} {u : TS} {D : Ends} {σ : L2.St} {H : Hp} {p0 : Addr} {x0 : List V} (h : RIs m c l t0 k y ta n) (C : Ct m c l t0 k y σ H) (e0 : σ[i]? = some (some (.ref p0))) (eH : H p0 = some (.lst x0))
    (kk : ∀ H' xs, Same H H' → xs.length = n → (∀ x ∈ xs, ItOk (rt H' m l) x) → xs.length ≤ sizeLine ∧ ∀ q, H' q = none → x0.length + xs.length ≤ sizeLine ∧ ∀ p, L2.upd H' q (.lst xs) p = none → u D (σ.set i (some (.ref p))) (L2.upd (L2.upd H' q (.lst xs)) p (.lst (x0 ++ xs)))) :
    tSeq (tAsg (tOp rCat (tVar i) (tLst ta)) (gName i)) u D σ H :=
  ⟨.ref p0, e0, h σ H _ C fun H' xs s l o => ⟨(kk H' xs s l o).1, fun q hq => ⟨p0, q, x0, xs, rfl, rfl, same_upd hq _ _ (s _ _ eH), upd_same, ((kk H' xs s l o).2 q hq).1, ((kk H' xs s l o).2 q hq).2⟩⟩⟩
end
end K02

set_option Elab.async false
set_option linter.all false
set_option maxRecDepth 100000
set_option maxHeartbeats 4000000
/-! _law_spoiled. -/
namespace K02
open PySem L2 L2.EV
structure Lb (K : PySem.W.Frag) (mg : Str → Option Value) where
  G : Lf K mg
  f : Addr
  d : FuncData
  F : Fun K "_law_spoiled" "_law_spoiled" sSpoil f d
  b : Binds K d ["m", "framing"] []
  m : mg "_law_spoiled" = some (.ref f)
/-- what is spoiled may be looked at -/
def Gd (d : PyData) : Prop := (∀ e ∈ itemsD d, szS e) ∧ (∀ e ∈ itemsD d, ∀ g ∈ itemsD e, stOk g) ∧ Shw d
def spSpoil : Sp := fun vs H Q _ => ∃ (m c l f : Addr) (k : Int) (fr : List T3) (last : Nat), vs = [.ref m, .ref f] ∧ MAt H m c l k ∧ k < 700000 ∧ FrA H f fr ∧ Frm fr last ∧ fr.length ≤ 11 ∧
  ∀ (v : V) (H' : Hp) (l' : Addr) (k' : Int), ((∃ d, Da H' v d ∧ Gd d) ∨ ∃ a, v = .ref a ∧ H' a = some (.dK [])) → k' ≤ k + 10 → Dr H H' m c l l' k' → Q v H'
theorem da_frI {H : Hp} : ∀ {ts : List Addr} {fr : List T3}, ts.length = fr.length → (∀ (i : Nat) t x, ts[i]? = some t → fr[i]? = some x → S3 H t x) → DaAll H (ts.map V.ref) (fr.map dT)
  | [], [], _, _ => .nil
  | [], _ :: _, h, _ => by cases h
  | _ :: _, [], h, _ => by cases h
  | t :: ts, x :: fr, h, e => .cons (.tup (e 0 t x rfl rfl) (.cons (.int _) (.cons (.str _) (.cons (.int _) .nil)))) (da_frI (ts := ts) (by simpa using h) fun i u y h1 h2 => e (i + 1) u y (by simpa using h1) (by simpa using h2))
theorem gd_tuple {ds : List PyData} (h : ∀ e ∈ ds, giB e = true) (l : ds.length ≤ 200) : Gd (.tuple ds) := by
  have o := okd_tuple (n := 600) (dp := 2) (m := 200) (fun e he => (gi_ok (h e he)).1) l
  have sz : (PyData.shown (.tuple ds)).length ≤ sizeLine := by
    have := o.sz
    rw [sizeLine_eq]
    omega
  exact ⟨fun e he => (gi_ok (h e he)).2.1, fun e he => (gi_ok (h e he)).2.2, ⟨o.sh, o.nd, sz, Nat.le_trans o.dp (by decide)⟩⟩
theorem gd_list {ds : List PyData} (h : ∀ e ∈ ds, giB e = true) (l : ds.length ≤ 200) : Gd (.list ds) := by
  have o := okd_list (n := 600) (dp := 2) (m := 200) (fun e he => (gi_ok (h e he)).1) l
  have sz : (PyData.shown (.list ds)).length ≤ sizeLine := by
    have := o.sz
    rw [sizeLine_eq]
    omega
  exact ⟨(fun e he => by cases he), (fun e he => by cases he), ⟨o.sh, o.nd, sz, Nat.le_trans o.dp (by decide)⟩⟩
theorem cut_to {xs : List V} {i : Nat} : cutV xs none (some (i : Int)) = xs.take i := by
  unfold cutV
  rw [HT.sIx_nat, HT.sIx_none, List.drop_zero, Nat.sub_zero]
  by_cases h : i ≤ xs.length
  · rw [Nat.min_eq_left h]
  · rw [Nat.min_eq_right (by omega), List.take_length, List.take_of_length_le (by omega)]
theorem cut_from {xs : List V} {i : Nat} : cutV xs (some (i : Int)) none = xs.drop i := by
  unfold cutV
  rw [HT.sIx_nat, HT.sIx_none]
  by_cases h : i ≤ xs.length
  · rw [Nat.min_eq_left h, List.take_of_length_le (by simp)]
  · rw [Nat.min_eq_right (by omega), List.drop_length, List.drop_of_length_le (by omega)]
    simp
theorem gi_cut {ds : List PyData} (h : ∀ e ∈ ds, giB e = true) {i j : Nat} {md : List PyData} (hm : ∀ e ∈ md, giB e = true) : ∀ e ∈ ds.take i ++ md ++ ds.drop j, giB e = true := fun e he => by
  rcases List.mem_append.mp he with he | he
  · rcases List.mem_append.mp he with he | he
    · exact h e (List.mem_of_mem_take he)
    · exact hm e he
  · exact h e (List.mem_of_mem_drop he)
theorem gi_more {y : T3} (h : Stp y) : giB (.tuple [.int y.1, .str (y.2.1 ++ "a"), .int y.2.2]) = true := by
  obtain ⟨⟨a, b⟩, ⟨e, f⟩, g, i⟩ := stp_items h
  have l1 : (y.2.1 ++ ("a" : Str)).length ≤ 10 := by
    show (y.2.1.cps ++ ("a" : Str).cps).size ≤ 10
    rw [Array.size_append]
    have : ("a" : Str).cps.size = 1 := by decide
    have : y.2.1.cps.size = y.2.1.length := rfl
    omega
  have k1 : PyData.strOk (y.2.1 ++ ("a" : Str)) = true := by
    unfold PyData.strOk at f ⊢
    show (y.2.1.cps ++ ("a" : Str).cps).all _ = true
    rw [Array.all_append, f]
    decide +kernel
  obtain ⟨o, _, st⟩ := gi_step h (ds := [.int y.1, .str (y.2.1 ++ "a"), .int y.2.2]) (fun x hx => by
    have cs : x = .int y.1 ∨ x = .str (y.2.1 ++ "a") ∨ x = .int y.2.2 := by simpa using hx
    rcases cs with rfl | rfl | rfl
    · exact .inl ⟨_, rfl, a, b⟩
    · exact .inr ⟨_, rfl, l1, k1⟩
    · exact .inl ⟨_, rfl, g, i⟩) (by simp)
  exact gi_of o st
theorem da_tr {H : Hp} : ∀ {M : List (Addr × T3)}, (∀ e ∈ M, SX.Tr H e) → DaAll H (M.map fun e => V.ref e.1) (M.map fun e => dT e.2)
  | [], _ => .nil
  | e :: M, h => .cons (.tup (h e (by simp)) (.cons (.int _) (.cons (.str _) (.cons (.int _) .nil)))) (da_tr (M := M) fun x hx => h x (by simp [hx]))
theorem tr_zip {H : Hp} : ∀ {ts : List Addr} {fr : List T3}, ts.length = fr.length → (∀ (i : Nat) t x, ts[i]? = some t → fr[i]? = some x → S3 H t x) → ∀ e ∈ ts.zip fr, SX.Tr H e
  | [], _, _, _ => fun e he => by cases he
  | _ :: _, [], h, _ => by cases h
  | t :: ts, x :: fr, h, q => fun e he => by
    rcases List.mem_cons.mp he with rfl | he
    · exact q 0 _ _ rfl rfl
    · exact tr_zip (ts := ts) (fr := fr) (by simpa using h) (fun i u y h1 h2 => q (i + 1) u y (by simpa using h1) (by simpa using h2)) e he
theorem zip_fst : ∀ {ts : List Addr} {fr : List T3}, ts.length = fr.length → ((ts.zip fr).map fun e => V.ref e.1) = ts.map V.ref
  | [], _, _ => rfl
  | _ :: _, [], h => by cases h
  | t :: ts, x :: fr, h => by
    exact congrArg (V.ref t :: ·) (zip_fst (ts := ts) (fr := fr) (by simpa using h))
theorem zip_snd : ∀ {ts : List Addr} {fr : List T3}, ∀ e ∈ ts.zip fr, e.2 ∈ fr := fun e he => (List.of_mem_zip (a := e.1) (b := e.2) he).2
theorem gi_zz {y : T3} (h : Stp y) {a b : Int} (a0 : 0 ≤ a) (a1 : a < 6) (b0 : 0 ≤ b) (b1 : b < 5) : giB (dT (a, "zz", 1 + b)) = true := by
  obtain ⟨o, _, st⟩ := gi_step h (ds := [.int a, .str "zz", .int (1 + b)]) (fun x hx => by
    have cs : x = .int a ∨ x = .str "zz" ∨ x = .int (1 + b) := by simpa using hx
    rcases cs with rfl | rfl | rfl
    · exact .inl ⟨_, rfl, a0, a1⟩
    · exact .inr ⟨_, rfl, by decide, by decide +kernel⟩
    · exact .inl ⟨_, rfl, by omega, by omega⟩) (by simp)
  exact gi_of o st
def OddR (G : Hp) (x : V) : Prop := (∃ d, Da G x d ∧ Gd d) ∨ ∃ a, x = .ref a ∧ G a = some (.dK [])
theorem OddR.same {G G' : Hp} {x : V} (h : OddR G x) (s : Same G G') : OddR G' x := by
  rcases h with ⟨d, h, g⟩ | ⟨a, e, h⟩
  · exact .inl ⟨d, h.same s, g⟩
  · exact .inr ⟨a, e, s _ _ h⟩
theorem gd_atom {d : PyData} (h : itemsD d = []) (g : giB d = true) : Gd d := by
  have o := (gi_ok g).1
  have sz : (PyData.shown d).length ≤ sizeLine := by
    have := o.sz
    rw [sizeLine_eq]
    omega
  exact ⟨(fun e he => by rw [h] at he; cases he), (fun e he => by rw [h] at he; cases he), ⟨o.sh, o.nd, sz, Nat.le_trans o.dp (by decide)⟩⟩
theorem cut_is {xs : List V} {lo hi : Option Int} : ∃ n j, cutV xs lo hi = (xs.drop n).take j := ⟨_, _, rfl⟩
theorem da_reps {H : Hp} {vs : List V} {ds : List PyData} (h : DaAll H vs ds) : ∀ n : Nat, DaAll H (List.replicate n vs).flatten (List.replicate n ds).flatten
  | 0 => .nil
  | n + 1 => by
    rw [List.replicate_succ, List.replicate_succ, List.flatten_cons, List.flatten_cons]
    exact h.app (da_reps h n)
theorem gi_reps {ds : List PyData} (h : ∀ e ∈ ds, giB e = true) (n : Nat) : ∀ e ∈ (List.replicate n ds).flatten, giB e = true := fun e he => by
  obtain ⟨l, hl, he⟩ := List.mem_flatten.mp he
  cases (List.mem_replicate.mp hl).2
  exact h e he
theorem ri_t3 {m c l t0 : Addr} {k : Int} {y : T3} {a b : Int} {s : Str} (g : giB (.tuple [.int a, .str s, .int b]) = true) : RI m c l t0 k y (tTup (tCons (tC (.int a)) (tCons (tC (.str s)) (tCons (tC (.int b)) tNil)))) :=
  ri_tup (vs := [.int a, .str s, .int b]) (fun _ => .cons (.int a) (.cons (.str s) (.cons (.int b) .nil))) (by show 3 ≤ 10; decide) g
theorem ri_bl {m c l t0 : Addr} {k : Int} {y : T3} {a : Bool} {b : Int} {s : Str} (g : giB (.tuple [.bool a, .str s, .int b]) = true) : RI m c l t0 k y (tTup (tCons (tC (.bl a)) (tCons (tC (.str s)) (tCons (tC (.int b)) tNil)))) :=
  ri_tup (vs := [.bl a, .str s, .int b]) (fun _ => .cons (.bl a) (.cons (.str s) (.cons (.int b) .nil))) (by show 3 ≤ 10; decide) g
theorem ri_i3 {m c l t0 : Addr} {k : Int} {y : T3} {a s b : Int} (g : giB (.tuple [.int a, .int s, .int b]) = true) : RI m c l t0 k y (tTup (tCons (tC (.int a)) (tCons (tC (.int s)) (tCons (tC (.int b)) tNil)))) :=
  ri_tup (vs := [.int a, .int s, .int b]) (fun _ => .cons (.int a) (.cons (.int s) (.cons (.int b) .nil))) (by show 3 ≤ 10; decide) g
theorem ri_emp {m c l t0 : Addr} {k : Int} {y : T3} : RI m c l t0 k y (tTup tNil) := ri_tup (vs := []) (fun _ => .nil) (by decide) (by decide +kernel)
theorem gName_go2 {i : Nat} {v : V} {σ : L2.St} {H : Hp} {k : L2.St → Hp → Prop} (h : k (σ.set i (some v)) H) : gName i v σ H k := h
section
variable {P : Program} {w : World} {K : PySem.W.Frag} {mg : Str → Option Value} {base : Heap}
theorem scSpoil : FnScope NS ["m", "framing"] (defScope sSpoil) := ⟨rfl, rfl, rfl, by decide +kernel, rfl, by decide +kernel, by decide +kernel⟩
theorem ok_spoil (Z : Lb K mg) : FnOk P w K mg base CX0 2 Z.f Z.d ["m", "framing"] spSpoil := by
  have GX : FnOk P w K mg base CX0 1 Z.G.L.f1 Z.G.L.d1 ["m", "many"] spNext := ok_next Z.G.L.N Z.G.L.T
  refine Z.F.ok scSpoil (fun vs H Q E h => ?_) (fun cdv A outer s H vs Q E hr h => ?_)
  · obtain ⟨m, c, l, f, k, fr, last, rfl, _⟩ := h
    rfl
  · obtain ⟨m, c, l, f, k, fr, last, rfl, M, hk, fa, fm, l11, q⟩ := h
    refine ⟨_, (pss_cons (ps_par (i := 2) (j := 3) (x := "at") (y := "way") rfl scSpoil.nd rfl rfl (by decide) rfl rfl (pa_cons (pe_call GX hr (by rfl) Z.G.L.mN Z.G.L.N.kp Z.G.L.bN .nil pass0 (pa_cons (pv 0) (pa_cons (pe_callB call_len_seq (by rfl) Z.G.L.T.len PySem.boot_len (pa_cons (pv 1) pa_nil)) pa_nil))) (pa_cons (pe_call GX hr (by rfl) Z.G.L.mN Z.G.L.N.kp Z.G.L.bN .nil pass0 (pa_cons (pv 0) (pa_cons pe_int pa_nil))) pa_nil)) (by rfl))
      (pss_cons (ps_set (i := 4) scSpoil.nd rfl (Or.inl rfl) (pe_ix ix_tup (pv 1) (pv 2) (fun _ _ => rfl)))
      (pss_cons (ps_set (i := 5) scSpoil.nd rfl (Or.inl rfl) (pe_lst (pa_cons pe_non (pa_cons pe_int (pa_cons pe_str (pa_cons (pe_tup pa_nil) (pa_cons (pe_slice sl_tupS (pv 4) po_none (po_some pe_int)) (pa_cons (pe_op op_catZ (pv 4) (pe_tup (pa_cons pe_int pa_nil))) (pa_cons (pe_callTy call_list_of (by rfl) Z.G.L.T.list (by decide +kernel) (pa_cons (pv 4) pa_nil)) (pa_cons (pe_tup (pa_cons pe_int (pa_cons pe_str (pa_cons pe_int pa_nil)))) (pa_cons (pe_tup (pa_cons (pe_un un_neg pe_int) (pa_cons pe_str (pa_cons pe_int pa_nil)))) (pa_cons (pe_tup (pa_cons pe_int (pa_cons pe_str (pa_cons pe_int pa_nil)))) pa_nil))))))))))))
      (pss_cons (ps_set (i := 5) scSpoil.nd rfl (Or.inl rfl) (pe_op op_cat (pv 5) (pe_lst (pa_cons (pe_tup (pa_cons pe_int (pa_cons pe_str (pa_cons pe_int pa_nil)))) (pa_cons (pe_tup (pa_cons pe_bl (pa_cons pe_str (pa_cons pe_int pa_nil)))) (pa_cons (pe_tup (pa_cons pe_int (pa_cons pe_str (pa_cons pe_int pa_nil)))) (pa_cons (pe_tup (pa_cons pe_int (pa_cons pe_str (pa_cons pe_int pa_nil)))) (pa_cons (pe_tup (pa_cons pe_int (pa_cons pe_str (pa_cons pe_int pa_nil)))) (pa_cons (pe_tup (pa_cons pe_int (pa_cons (pe_op op_mulS pe_str pe_int) (pa_cons pe_int pa_nil)))) pa_nil)))))))))
      (pss_cons (ps_set (i := 5) scSpoil.nd rfl (Or.inl rfl) (pe_op op_cat (pv 5) (pe_lst (pa_cons (pe_tup (pa_cons pe_int (pa_cons pe_int (pa_cons pe_int pa_nil)))) (pa_cons (pe_tup (pa_cons pe_int (pa_cons pe_str (pa_cons pe_int pa_nil)))) (pa_cons (pe_tup (pa_cons pe_int (pa_cons pe_str (pa_cons pe_int pa_nil)))) pa_nil))))))
      (pss_cons (ps_if (pt_cmpR op_eq (pv 3) pe_int (nomark _)) (pss_cons (ps_set (i := 6) scSpoil.nd rfl (Or.inl rfl) (pe_lst (pa_cons (pe_callTy call_list_of (by rfl) Z.G.L.T.list (by decide +kernel) (pa_cons (pv 1) pa_nil)) (pa_cons pe_non (pa_cons (pe_tup pa_nil) (pa_cons (pe_op op_repT (pv 1) pe_int) (pa_cons (pe_revT (pv 1) (pe_un un_neg pe_int) (fun _ _ => rfl)) (pa_cons (pe_op op_catZ (pv 1) (pe_slice sl_tupS (pv 1) (po_some (pe_un un_neg pe_int)) po_none)) (pa_cons pe_str (pa_cons pe_dnewK pa_nil)))))))))) (pss_one (ps_ret (pe_ix ix_list (pv 6) (pe_call GX hr (by rfl) Z.G.L.mN Z.G.L.N.kp Z.G.L.bN .nil pass0 (pa_cons (pv 0) (pa_cons pe_int pa_nil))) (fun _ _ => rfl))))) pss_nil)
      (pss_cons (ps_if (pt_cmpR op_lt (pv 3) pe_int (nomark _)) (pss_one (ps_ret (pe_op op_catZ (pe_op op_catZ (pe_slice sl_tupS (pv 1) po_none (po_some (pv 2))) (pe_tup (pa_cons (pe_ix ix_list (pv 5) (pe_call GX hr (by rfl) Z.G.L.mN Z.G.L.N.kp Z.G.L.bN .nil pass0 (pa_cons (pv 0) (pa_cons pe_int pa_nil))) (fun _ _ => rfl)) pa_nil))) (pe_slice sl_tupS (pv 1) (po_some (pe_op op_add (pv 2) pe_int)) po_none)))) pss_nil)
      (pss_cons (ps_if (pt_cmpR op_eq (pv 3) pe_int (nomark _)) (pss_one (ps_ret (pe_op op_catZ (pe_slice sl_tupS (pv 1) po_none (po_some (pv 2))) (pe_slice sl_tupS (pv 1) (po_some (pe_op op_add (pv 2) pe_int)) po_none)))) pss_nil)
      (pss_cons (ps_if (pt_cmpR op_eq (pv 3) pe_int (nomark _)) (pss_one (ps_ret (pe_callTy call_tuple_of (by rfl) Z.G.tu (by decide +kernel) (pa_cons (pe_callB (SX.cr_sortTup rfl) (by rfl) Z.G.so (by decide +kernel) (pa_cons (pe_op op_catZ (pv 1) (pe_tup (pa_cons (pe_tup (pa_cons (pe_call GX hr (by rfl) Z.G.L.mN Z.G.L.N.kp Z.G.L.bN .nil pass0 (pa_cons (pv 0) (pa_cons pe_int pa_nil))) (pa_cons pe_str (pa_cons (pe_op op_add pe_int (pe_call GX hr (by rfl) Z.G.L.mN Z.G.L.N.kp Z.G.L.bN .nil pass0 (pa_cons (pv 0) (pa_cons pe_int pa_nil)))) pa_nil)))) pa_nil))) pa_nil)) pa_nil)))) pss_nil)
      (pss_one (ps_ret (pe_op op_catZ (pe_op op_catZ (pe_slice sl_tupS (pv 1) po_none (po_some (pv 2))) (pe_tup (pa_cons (pe_tup (pa_cons (pe_ix ix_tup (pv 4) pe_int (fun _ _ => rfl)) (pa_cons (pe_op op_add_str (pe_ix ix_tup (pv 4) pe_int (fun _ _ => rfl)) pe_str) (pa_cons (pe_ix ix_tup (pv 4) pe_int (fun _ _ => rfl)) pa_nil)))) pa_nil))) (pe_slice sl_tupS (pv 1) (po_some (pe_op op_add (pv 2) pe_int)) po_none))))))))))))), ?_⟩
    have hlen := fm.l0
    obtain ⟨ts, hf, hl, ht⟩ := id fa
    refine ⟨_, rfl, _, rfl, f, _, rfl, .inr (SqT.of hf), m, c, l, k, _, rfl, M, by rw [List.length_map, hl]; omega, by rw [List.length_map, hl]; omega, by omega, fun ra H1 l1 k1 a1 b1 g1 N1 f1 q1 => ?_⟩
    have d1 : Dr H H1 m c l l1 k1 := ⟨N1, f1, q1⟩
    refine ⟨_, rfl, m, c, l1, k1, 7, rfl, N1, by decide, by decide, by omega, fun rw_ H2 l2 k2 a2 b2 g2 N2 f2 q2 => ?_⟩
    have d2 : Dr H1 H2 m c l1 l2 k2 := ⟨N2, f2, q2⟩
    have D2 := d1.trans d2
    have fa2 := D2.fr M fa
    obtain ⟨ra, rfl⟩ := Int.eq_ofNat_of_zero_le a1
    rw [List.length_map, hl] at b1
    have ral : ra < fr.length := by omega
    obtain ⟨ts2, hf2, hl2, ht2⟩ := id fa2
    have t2l : ra < ts2.length := by omega
    have e0 := ht2 ra _ _ (List.getElem?_eq_getElem t2l) (List.getElem?_eq_getElem ral)
    have st0 : Stp fr[ra] := fm.stp _ (List.getElem_mem ral)
    refine ⟨_, _, rfl, ?_⟩
    refine ⟨_, rfl, _, rfl, f, _, (ra : Int), .ref ts2[ra], rfl, rfl, SqT.of hf2, atI_nat (by rw [List.getElem?_map, List.getElem?_eq_getElem t2l]; rfl), ?_⟩
    refine gName_go2 ?_
    have C0 : Ct m c l2 ts2[ra] k2 fr[ra] (List.set (List.set (List.set (L2.start NS [V.ref m, V.ref f]) 2 (some (V.int (ra : Int)))) 3 (some (V.int rw_))) 4 (some (V.ref ts2[ra]))) H2 := ⟨N2, rfl, e0, st0⟩
    refine gs_lst (ri_cons (ri_c (d := .none) (fun H => .non) (by decide +kernel)) (ri_cons (ri_c (d := .int 5) (fun H => .int _) (by decide +kernel)) (ri_cons (ri_c (d := .str "a") (fun H => .str _) (by decide +kernel)) (ri_cons ri_emp (ri_cons ri_sl (ri_cons ri_cat (ri_cons ri_lst
      (ri_cons (ri_t3 (by decide +kernel)) (ri_cons (ri_neg (by decide +kernel)) (ri_cons (ri_t3 (by decide +kernel)) ri_nil)))))))))) C0 (fun Ha xa sa la oa => ⟨by rw [la]; decide, fun pa hpa => ?_⟩)
    have ua := same_upd (o := HO.lst xa) hpa
    have C1 : Ct m c l2 ts2[ra] k2 fr[ra] (List.set (List.set (List.set (List.set (L2.start NS [V.ref m, V.ref f]) 2 (some (V.int (ra : Int)))) 3 (some (V.int rw_))) 4 (some (V.ref ts2[ra]))) 5 (some (.ref pa))) (upd Ha pa (.lst xa)) := ⟨N2.same (sa.trans ua), rfl, (sa.trans ua) _ _ e0, st0⟩
    refine gs_cat (ri_cons (ri_t3 (by decide +kernel)) (ri_cons (ri_bl (by decide +kernel)) (ri_cons (ri_t3 (by decide +kernel)) (ri_cons (ri_t3 (by decide +kernel)) (ri_cons (ri_t3 (by decide +kernel)) (ri_cons (ri_mul (by decide) (by decide) (by decide +kernel) (by decide +kernel) (by decide +kernel)) ri_nil)))))) C1 rfl upd_same (fun Hb xb sb lb ob => ⟨by rw [lb]; decide, fun pb hpb => ⟨by rw [la, lb]; decide, fun pc hpc => ?_⟩⟩)
    have ub := same_upd (o := HO.lst xb) hpb
    have uc := same_upd (o := HO.lst (xa ++ xb)) hpc
    have s1 := ((sa.trans ua).trans (sb.trans ub)).trans uc
    have o1 : ∀ x ∈ xa ++ xb, ItOk (rt (upd (upd Hb pb (.lst xb)) pc (.lst (xa ++ xb))) m l2) x := fun x hx => by
      rcases List.mem_append.mp hx with hx | hx
      · exact (oa x hx).same (rt_same (ua.trans (sb.trans (ub.trans uc))))
      · exact (ob x hx).same (rt_same (ub.trans uc))
    have lx : (xa ++ xb).length = 16 := by rw [List.length_append, la, lb]
    have ec := upd_same (H := upd Hb pb (.lst xb)) (a := pc) (o := HO.lst (xa ++ xb))
    clear oa ob ua sa sb ub uc C1 hpc
    generalize xa ++ xb = x2 at o1 lx ec s1 ⊢
    generalize upd (upd Hb pb (.lst xb)) pc (.lst x2) = H3 at s1 o1 ec ⊢
    have C2 : Ct m c l2 ts2[ra] k2 fr[ra] (List.set (List.set (List.set (List.set (List.set (L2.start NS [V.ref m, V.ref f]) 2 (some (V.int (ra : Int)))) 3 (some (V.int rw_))) 4 (some (V.ref ts2[ra]))) 5 (some (.ref pa))) 5 (some (.ref pc))) H3 := ⟨N2.same s1, rfl, s1 _ _ e0, st0⟩
    refine gs_cat (ri_cons (ri_i3 (by decide +kernel)) (ri_cons (ri_t3 (by decide +kernel)) (ri_cons (ri_t3 (by decide +kernel)) ri_nil))) C2 rfl ec (fun Hd xd sd ld od => ⟨by rw [ld]; decide, fun pd hpd => ⟨by rw [lx, ld]; decide, fun pS hpS => ?_⟩⟩)
    have ud := same_upd (o := HO.lst xd) hpd
    have ue := same_upd (o := HO.lst (x2 ++ xd)) hpS
    have s2 := s1.trans (sd.trans (ud.trans ue))
    have o2 : ∀ x ∈ x2 ++ xd, ItOk (rt (upd (upd Hd pd (.lst xd)) pS (.lst (x2 ++ xd))) m l2) x := fun x hx => by
      rcases List.mem_append.mp hx with hx | hx
      · exact (o1 x hx).same (rt_same (sd.trans (ud.trans ue)))
      · exact (od x hx).same (rt_same (ud.trans ue))
    have lx2 : (x2 ++ xd).length = 19 := by rw [List.length_append, lx, ld]
    have ee := upd_same (H := upd Hd pd (.lst xd)) (a := pS) (o := HO.lst (x2 ++ xd))
    have nS : H2 pS = none := same_none (s1.trans (sd.trans ud)) hpS
    clear o1 od s1 sd ud ue ec C2 hpS ld lx
    generalize x2 ++ xd = xs at o2 ee s2 lx2 nS ⊢
    generalize upd (upd Hd pd (.lst xd)) pS (.lst xs) = H4 at s2 o2 ee nS ⊢
    have M4 := N2.same s2
    have fa4 := fa2.same s2
    have D4 := D2.same s2
    have frG : ∀ e ∈ fr.map dT, giB e = true := fun e he => by
      obtain ⟨x, hx, rfl⟩ := List.mem_map.mp he
      exact gi_dT (fm.stp x hx)
    have M4l : ∀ {p : Addr}, H4 p = none → p ≠ l2 := fun h => M4.l_some h
    -- the end, with a tuple
    have fin : ∀ (H7 : Hp) (l7 : Addr) (k7 : Int) (p : Addr) (ys : List V) (ds : List PyData), H7 p = some (.tup ys) → DaAll H7 ys ds → (∀ e ∈ ds, giB e = true) → ds.length ≤ 200 → k7 ≤ k + 10 → Dr H H7 m c l l7 k7 → Q (.ref p) H7 := fun H7 l7 k7 p ys ds e7 al g7 l7' kk7 D7 =>
      q _ H7 l7 k7 (.inl ⟨.tuple ds, .tup e7 al, gd_tuple g7 l7'⟩) kk7 D7
    obtain ⟨ts4, hf4, hl4, ht4⟩ := id fa4
    have da4 : DaAll H4 (ts4.map V.ref) (fr.map dT) := da_frI hl4 ht4
    have e04 : H4 ts2[ra] = _ := s2 _ _ e0
    have hw : rw_ = 0 ∨ rw_ = 1 ∨ rw_ = 2 ∨ rw_ = 3 ∨ rw_ = 4 ∨ rw_ = 5 ∨ rw_ = 6 := by omega
    have mid : (rw_ = 1 ∨ rw_ = 2 ∨ rw_ = 3) ∨ ¬ (rw_ = 1 ∨ rw_ = 2 ∨ rw_ = 3) := Classical.em _
    by_cases w0 : rw_ = 0
    · refine ⟨_, rfl, rfl, _, rfl, iteT' (by simp [w0]) ?_⟩
      refine ⟨_, rfl, f, _, rfl, .inr (SqT.of hf4), fun pL hpL => ?_⟩
      have uL := same_upd (o := HO.lst (ts4.map V.ref)) hpL
      have eL := M4.newL (p := pL) (xs := ts4.map V.ref) hpL
      refine ⟨Nat.zero_le _, fun pE hpE => ?_⟩
      have uE := same_upd (o := HO.tup []) hpE
      have eE := (M4.same uL).newT (p := pE) (xs := []) hpE
      have eL5 := rt_same (m := m) (l := l2) uE _ _ eL
      have s45 := uL.trans uE
      clear uL uE hpE eL
      generalize upd (upd H4 pL (.lst (ts4.map V.ref))) pE (.tup []) = H5 at eE s45 eL5 ⊢
      have M5 := M4.same s45
      have hf5 := s45 _ _ hf4
      have d5 : DaAll (rt H5 m l2) (ts4.map V.ref) (fr.map dT) := da_frI hl4 fun i t x h1 h2 => M5.rtt (s45 _ _ (ht4 i t x h1 h2))
      have o1 : OddR (rt H5 m l2) (.ref pL) := .inl ⟨.list _, .lst eL5 d5, gd_list frG (by rw [List.length_map]; omega)⟩
      have o3 : OddR (rt H5 m l2) (.ref pE) := .inl ⟨.tuple [], .tup eE .nil, gd_tuple (fun e he => by cases he) (by decide)⟩
      refine ⟨_, rfl, f, 17, _, rfl, rfl, SqT.of hf5, ?_, by decide, by decide, ?_, fun pR hpR => ?_⟩
      · intro z
        have := congrArg List.length z
        rw [List.length_map, hl4] at this
        have z0 : fr.length = 0 := this
        omega
      · rw [List.length_map, hl4]
        omega
      have u6 := same_upd (o := HO.tup (List.replicate (17 : Int).toNat (ts4.map V.ref)).flatten) hpR
      have e6 := M5.newT (p := pR) (xs := (List.replicate (17 : Int).toNat (ts4.map V.ref)).flatten) hpR
      generalize upd H5 pR (.tup (List.replicate (17 : Int).toNat (ts4.map V.ref)).flatten) = H6 at u6 e6 ⊢
      have r6 := rt_same (m := m) (l := l2) u6
      have o4 : OddR (rt H6 m l2) (.ref pR) := .inl ⟨.tuple _, .tup e6 (da_reps (d5.same r6) _), gd_tuple (gi_reps frG _) (by
        rw [List.length_flatten, List.map_replicate, List.sum_replicate_nat, List.length_map]
        show 17 * _ ≤ 200
        omega)⟩
      have M6 := M5.same u6
      refine ⟨_, rfl, 1, rfl, -1, rfl, rfl, f, _, rfl, u6 _ _ hf5, fun pV hpV => ?_⟩
      have u7 := same_upd (o := HO.tup (ts4.map V.ref).reverse) hpV
      have e7 := M6.newT (p := pV) (xs := (ts4.map V.ref).reverse) hpV
      generalize upd H6 pV (.tup (ts4.map V.ref).reverse) = H7 at u7 e7 ⊢
      have r7 := rt_same (m := m) (l := l2) u7
      have o5 : OddR (rt H7 m l2) (.ref pV) := .inl ⟨.tuple _, .tup e7 ((d5.same (r6.trans r7)).rev), gd_tuple (fun e he => frG e (List.mem_reverse.mp he)) (by
        rw [List.length_reverse, List.length_map]
        omega)⟩
      have M7 := M6.same u7
      have hf7 := u7 _ _ (u6 _ _ hf5)
      refine ⟨_, rfl, _, rfl, 1, rfl, -1, rfl, f, _, rfl, hf7, fun pT H8 s8 e8 => ?_⟩
      obtain ⟨cn, cj, ce⟩ := cut_is (xs := ts4.map V.ref) (lo := some (-1)) (hi := none)
      rw [ce] at e8
      refine ⟨f, pT, _, _, rfl, rfl, s8 _ _ hf7, e8, ?_, fun H9 pC s9 e9 => ?_⟩
      · rw [List.length_take, List.length_drop, List.length_map, hl4, sizeLine_eq]
        omega
      have s79 : Same H7 H9 := fun b o e => s9 _ _ (s8 _ _ e)
      have r9 := rt_same (m := m) (l := l2) s79
      have M9 := M7.same s79
      have d9 := d5.same ((r6.trans r7).trans r9)
      have o6 : OddR (rt H9 m l2) (.ref pC) := .inl ⟨.tuple _, .tup (M9.rtt e9) (d9.app ((d9.drop cn).take cj)), gd_tuple (fun e he => by
        rcases List.mem_append.mp he with he | he
        · exact frG e he
        · exact frG e (List.mem_of_mem_drop (List.mem_of_mem_take he))) (by
        rw [List.length_append, List.length_take, List.length_drop, List.length_map]
        omega)⟩
      refine fun pD hpD => ?_
      have u10 := same_upd (o := HO.dK []) hpD
      have e10 : rt (upd H9 pD (.dK [])) m l2 pD = some (.dK []) := rt_mk upd_same (ne_of_none M9.hm hpD).symm (M9.l_some hpD)
      generalize upd H9 pD (.dK []) = H10 at u10 e10 ⊢
      have r10 := rt_same (m := m) (l := l2) u10
      have M10 := M9.same u10
      have all : ∀ x ∈ [V.ref pL, .non, .ref pE, .ref pR, .ref pV, .ref pC, .str "a", .ref pD], OddR (rt H10 m l2) x := fun x hx => by
        have cs : x = V.ref pL ∨ x = .non ∨ x = .ref pE ∨ x = .ref pR ∨ x = .ref pV ∨ x = .ref pC ∨ x = .str "a" ∨ x = .ref pD := by simpa using hx
        have r710 := r9.trans r10
        have r610 := r7.trans r710
        have r510 := r6.trans r610
        rcases cs with rfl | rfl | rfl | rfl | rfl | rfl | rfl | rfl
        · exact o1.same r510
        · exact .inl ⟨.none, .non, gd_atom rfl (by decide +kernel)⟩
        · exact o3.same r510
        · exact o4.same r610
        · exact o5.same r710
        · exact o6.same r10
        · exact .inl ⟨.str "a", .str _, gd_atom rfl (by decide +kernel)⟩
        · exact .inr ⟨_, rfl, e10⟩
      refine ⟨(by show 8 ≤ sizeLine; rw [sizeLine_eq]; decide), fun pO hpO => gName_go2 ?_⟩
      have lO : [V.ref pL, .non, .ref pE, .ref pR, .ref pV, .ref pC, .str "a", .ref pD].length = 8 := rfl
      generalize [V.ref pL, .non, .ref pE, .ref pR, .ref pV, .ref pC, .str "a", .ref pD] = os at all lO hpO ⊢
      have u11 := same_upd (o := HO.lst os) hpO
      have e11 := upd_same (H := H10) (a := pO) (o := HO.lst os)
      have nO := M10.l_some hpO
      generalize upd H10 pO (.lst os) = H11 at u11 e11 ⊢
      have M11 := M10.same u11
      have r11 := rt_same (m := m) (l := l2) u11
      refine ⟨_, rfl, _, rfl, m, c, l2, k2, 8, rfl, M11, by decide, by decide, by omega, fun rd Hd ld kd ad bd gd Nd fd qd => ?_⟩
      have dd : Dr H11 Hd m c l2 ld kd := ⟨Nd, fd, qd⟩
      obtain ⟨rd, rfl⟩ := Int.eq_ofNat_of_zero_le ad
      have rdl : rd < os.length := by omega
      have ed := (dd.lst M11 e11 nO).1
      refine ⟨pO, os, (rd : Int), os[rd], rfl, rfl, SqL.of ed, atI_nat (List.getElem?_eq_getElem rdl), ?_⟩
      have s411 : Same H4 H11 := fun b o e => u11 _ _ (u10 _ _ (s79 _ _ (u7 _ _ (u6 _ _ (s45 _ _ e)))))
      exact q _ Hd ld kd ((all _ (List.getElem_mem rdl)).same ((r11.trans (rt_dr dd)).trans rt_sub)) (by omega) ((D4.same s411).trans dd)
    refine ⟨_, rfl, rfl, _, rfl, iteF' (by simp [w0]) ?_⟩
    by_cases w3 : rw_ < 4
    · refine ⟨_, rfl, rw_, 4, rfl, rfl, _, rfl, iteT' (decide_eq_true w3) ?_⟩
      refine ⟨_, rfl, _, rfl, _, rfl, f, _, rfl, hf4, fun p1 H5 s5 e5 => ?_⟩
      rw [cut_to] at e5
      refine ⟨_, rfl, _, rfl, m, c, l2, k2, 19, rfl, M4.same s5, by decide, by decide, by omega, fun rc H6 l6 k6 a6 b6 g6 N6 f6 q6 => ?_⟩
      have d6 : Dr H5 H6 m c l2 l6 k6 := ⟨N6, f6, q6⟩
      have o5 : ∀ x ∈ xs, ItOk (rt H5 m l2) x := fun x hx => (o2 x hx).same (rt_same s5)
      have o6 : ∀ x ∈ xs, ItOk H6 x := fun x hx => ((o5 x hx).same (rt_dr d6)).same rt_sub
      obtain ⟨rc, rfl⟩ := Int.eq_ofNat_of_zero_le a6
      have rcl : rc < xs.length := by omega
      have e6 := (d6.lst (M4.same s5) (s5 _ _ ee) (N2.l_some nS)).1
      obtain ⟨dd, hdd, gdd⟩ := o6 _ (List.getElem_mem rcl)
      refine ⟨pS, xs, (rc : Int), xs[rc], rfl, rfl, SqL.of e6, atI_nat (List.getElem?_eq_getElem rcl), ?_⟩
      refine ⟨(by show 1 ≤ sizeLine; rw [sizeLine_eq]; decide), fun pt hpt => ?_⟩
      have u6 := same_upd (o := HO.tup [xs[rc]]) hpt
      have e6t := upd_same (H := H6) (a := pt) (o := HO.tup [xs[rc]])
      generalize upd H6 pt (.tup [xs[rc]]) = H7 at u6 e6t ⊢
      have d7 := d6.same u6
      have e7 := d7.tup (M4.same s5) e5
      have hf7 := d7.tup (M4.same s5) (s5 _ _ hf4)
      have da7 : DaAll H7 (ts4.map V.ref) (fr.map dT) := da_frI hl4 fun i t x h1 h2 => d7.tup (M4.same s5) (s5 _ _ (ht4 i t x h1 h2))
      have hdd7 := hdd.same u6
      refine ⟨p1, pt, _, _, rfl, rfl, e7, e6t, ?_, fun H8 p8 s8 e8 => ?_⟩
      · rw [List.length_take, List.length_map, hl4, sizeLine_eq]
        show _ + 1 ≤ _
        omega
      refine ⟨_, rfl, _, rfl, _, 1, rfl, rfl, _, rfl, f, _, rfl, s8 _ _ hf7, fun p9 H9 s9 e9 => ?_⟩
      rw [show ((ra : Int) + 1) = ((ra + 1 : Nat) : Int) from rfl, cut_from] at e9
      refine ⟨p8, p9, _, _, rfl, rfl, s9 _ _ e8, e9, ?_, fun Ha pa' sa' ea => ?_⟩
      · rw [List.length_append, List.length_take, List.length_drop, List.length_map, hl4, sizeLine_eq]
        show _ + 1 + _ ≤ _
        omega
      have s7a : Same H7 Ha := fun b o e => sa' _ _ (s9 _ _ (s8 _ _ e))
      have al := ((da7.take ra).app (.cons hdd7 .nil)).app (da7.drop (ra + 1))
      exact fin Ha l6 k6 pa' _ _ ea (al.same s7a) (gi_cut frG (fun e he => by cases List.mem_singleton.mp he; exact gdd)) (by simp; omega) (by omega) ((D4.same s5).trans (d7.same s7a))
    refine ⟨_, rfl, rw_, 4, rfl, rfl, _, rfl, iteF' (decide_eq_false w3) ?_⟩
    by_cases w4 : rw_ = 4
    · refine ⟨_, rfl, rfl, _, rfl, iteT' (by simp [w4]) ?_⟩
      refine ⟨_, rfl, _, rfl, _, rfl, f, _, rfl, hf4, fun p1 H5 s5 e5 => ?_⟩
      rw [cut_to] at e5
      refine ⟨_, rfl, _, rfl, _, 1, rfl, rfl, _, rfl, f, _, rfl, s5 _ _ hf4, fun p2 H6 s6 e6 => ?_⟩
      rw [show ((ra : Int) + 1) = ((ra + 1 : Nat) : Int) from rfl, cut_from] at e6
      refine ⟨p1, p2, _, _, rfl, rfl, s6 _ _ e5, e6, ?_, fun H7 p s7 e7 => ?_⟩
      · rw [List.length_take, List.length_drop, List.length_map, hl4, sizeLine_eq]
        omega
      have s47 : Same H4 H7 := fun b o e => s7 _ _ (s6 _ _ (s5 _ _ e))
      have al := ((da4.take ra).app (.nil)).app (da4.drop (ra + 1))
      rw [List.append_nil] at al
      exact fin H7 l2 k2 p _ _ e7 (al.same s47) (gi_cut frG (fun e he => by cases he)) (by simp; omega) (by omega) (D4.same s47)
    refine ⟨_, rfl, rfl, _, rfl, iteF' (by simp [w4]) ?_⟩
    by_cases w5 : rw_ = 5
    · refine ⟨_, rfl, rfl, _, rfl, iteT' (by simp [w5]) ?_⟩
      refine ⟨_, rfl, _, rfl, m, c, l2, k2, 6, rfl, M4, by decide, by decide, by omega, fun r6 H5 l5 k5 a5 b5 g5 N5 f5 q5 => ?_⟩
      have d5 : Dr H4 H5 m c l2 l5 k5 := ⟨N5, f5, q5⟩
      refine ⟨_, rfl, m, c, l5, k5, 5, rfl, N5, by decide, by decide, by omega, fun r5 H6 l6 k6 a6 b6 g6 N6 f6 q6 => ?_⟩
      have d6 : Dr H5 H6 m c l5 l6 k6 := ⟨N6, f6, q6⟩
      refine ⟨1, _, rfl, rfl, ?_⟩
      refine ⟨(by show 3 ≤ sizeLine; rw [sizeLine_eq]; decide), fun pt hpt => ⟨(by show 1 ≤ sizeLine; rw [sizeLine_eq]; decide), fun pu hpu => ?_⟩⟩
      have d46 := d5.trans d6
      have u6 := same_upd (o := HO.tup [.int r6, .str "zz", .int (1 + r5)]) hpt
      have u7 := same_upd (o := HO.tup [.ref pt]) hpu
      have tn0 : SX.Tr (upd H6 pt (.tup [.int r6, .str "zz", .int (1 + r5)])) (pt, (r6, "zz", 1 + r5)) := upd_same
      have tn : SX.Tr _ (pt, (r6, "zz", 1 + r5)) := u7 _ _ tn0
      have e7t := upd_same (H := upd H6 pt (.tup [.int r6, .str "zz", .int (1 + r5)])) (a := pu) (o := HO.tup [.ref pt])
      have s67 := u6.trans u7
      clear u6 u7 tn0 hpu
      generalize upd (upd H6 pt (.tup [.int r6, .str "zz", .int (1 + r5)])) pu (.tup [.ref pt]) = H7 at tn e7t s67 ⊢
      have d47 := d46.same s67
      refine ⟨f, pu, _, _, rfl, rfl, d47.tup M4 hf4, e7t, ?_, fun H8 p8 s8 e8 => ?_⟩
      · rw [List.length_map, hl4, sizeLine_eq]
        show _ + 1 ≤ _
        omega
      have d48 := d47.same s8
      have tr8 : ∀ e ∈ ts4.zip fr ++ [(pt, (r6, ("zz" : Str), 1 + r5))], SX.Tr H8 e := fun e he => by
        rcases List.mem_append.mp he with he | he
        · exact tr_zip hl4 (fun i t x h1 h2 => d48.tup M4 (ht4 i t x h1 h2)) e he
        · cases List.mem_singleton.mp he
          exact s8 _ _ tn
      have g8 : ∀ e ∈ ts4.zip fr ++ [(pt, (r6, ("zz" : Str), 1 + r5))], giB (dT e.2) = true := fun e he => by
        rcases List.mem_append.mp he with he | he
        · exact gi_dT (fm.stp _ (zip_snd e he))
        · cases List.mem_singleton.mp he
          exact gi_zz st0 a5 b5 a6 b6
      have l8 : (ts4.zip fr ++ [(pt, (r6, ("zz" : Str), 1 + r5))]).length ≤ 12 := by
        rw [List.length_append, List.length_zip]
        show _ + 1 ≤ 12
        omega
      refine ⟨p8, ts4.zip fr ++ [(pt, (r6, ("zz" : Str), 1 + r5))], rfl, SqT.of (by rw [e8, List.map_append, zip_fst hl4]; rfl), tr8, by omega, fun Mm p9 pm so hp9 => ?_⟩
      have u9 := same_upd (o := HO.lst (Mm.map fun e => V.ref e.1)) hp9
      refine ⟨p9, _, rfl, .inl ⟨SqL.of upd_same, fun pz hpz => ?_⟩⟩
      have uz := same_upd (o := HO.tup (Mm.map fun e => V.ref e.1)) hpz
      have s8z := u9.trans uz
      have al := da_tr (M := Mm) (H := H8) fun e he => tr8 e (pm.mem_iff.mp he)
      exact fin _ l6 k6 pz _ _ upd_same (al.same s8z) (fun e he => by
        obtain ⟨z, hz, rfl⟩ := List.mem_map.mp he
        exact g8 z (pm.mem_iff.mp hz)) (by have z := pm.length_eq; rw [List.length_map]; omega) (by omega) (D4.trans (d48.same s8z))
    refine ⟨_, rfl, rfl, _, rfl, iteF' (by simp [w5]) ?_⟩
    refine ⟨_, rfl, _, rfl, _, rfl, f, _, rfl, hf4, fun p1 H5 s5 e5 => ?_⟩
    rw [cut_to] at e5
    have e05 := s5 _ _ e04
    have pl := (stp_items st0).2.1.1
    refine ⟨_, rfl, ts2[ra], _, 0, .int fr[ra].1, rfl, rfl, SqT.of e05, rfl, ?_⟩
    refine ⟨_, rfl, ts2[ra], _, 1, .str fr[ra].2.1, rfl, rfl, SqT.of e05, rfl, _, _, rfl, rfl, ?_, ?_⟩
    · show fr[ra].2.1.length + 1 ≤ sizeLine
      rw [sizeLine_eq]
      omega
    refine ⟨_, rfl, ts2[ra], _, 2, .int fr[ra].2.2, rfl, rfl, SqT.of e05, rfl, ?_⟩
    refine ⟨(by show 3 ≤ sizeLine; rw [sizeLine_eq]; decide), fun pt hpt => ⟨(by show 1 ≤ sizeLine; rw [sizeLine_eq]; decide), fun pu hpu => ?_⟩⟩
    have u6 := same_upd (o := HO.tup [.int fr[ra].1, .str (fr[ra].2.1 ++ "a"), .int fr[ra].2.2]) hpt
    have u7 := same_upd (o := HO.tup [.ref pt]) hpu
    have hdd : Da (upd H5 pt (.tup [.int fr[ra].1, .str (fr[ra].2.1 ++ "a"), .int fr[ra].2.2])) (.ref pt) (.tuple [.int fr[ra].1, .str (fr[ra].2.1 ++ "a"), .int fr[ra].2.2]) := .tup upd_same (.cons (.int _) (.cons (.str _) (.cons (.int _) .nil)))
    have hdd7 := hdd.same u7
    have e7t := upd_same (H := upd H5 pt (.tup [.int fr[ra].1, .str (fr[ra].2.1 ++ "a"), .int fr[ra].2.2])) (a := pu) (o := HO.tup [.ref pt])
    have s57 := u6.trans u7
    clear u6 u7 hdd hpu
    generalize upd (upd H5 pt (.tup [.int fr[ra].1, .str (fr[ra].2.1 ++ "a"), .int fr[ra].2.2])) pu (.tup [.ref pt]) = H7 at hdd7 e7t s57 ⊢
    refine ⟨p1, pu, _, _, rfl, rfl, s57 _ _ e5, e7t, ?_, fun H8 p8 s8 e8 => ?_⟩
    · rw [List.length_take, List.length_map, hl4, sizeLine_eq]
      show _ + 1 ≤ _
      omega
    refine ⟨_, rfl, _, rfl, _, 1, rfl, rfl, _, rfl, f, _, rfl, s8 _ _ (s57 _ _ (s5 _ _ hf4)), fun p9 H9 s9 e9 => ?_⟩
    rw [show ((ra : Int) + 1) = ((ra + 1 : Nat) : Int) from rfl, cut_from] at e9
    refine ⟨p8, p9, _, _, rfl, rfl, s9 _ _ e8, e9, ?_, fun Ha pa' sa' ea => ?_⟩
    · rw [List.length_append, List.length_take, List.length_drop, List.length_map, hl4, sizeLine_eq]
      show _ + 1 + _ ≤ _
      omega
    have s7a : Same H7 Ha := fun b o e => sa' _ _ (s9 _ _ (s8 _ _ e))
    have s47 : Same H4 H7 := fun b o e => s57 _ _ (s5 _ _ e)
    have da7 := da4.same s47
    have al := ((da7.take ra).app (.cons hdd7 .nil)).app (da7.drop (ra + 1))
    exact fin Ha l2 k2 pa' _ _ ea (al.same s7a) (gi_cut frG (fun e he => by cases List.mem_singleton.mp he; exact gi_more st0)) (by simp; omega) (by omega) (D4.same (s47.trans s7a))
end
end K02

set_option Elab.async false
set_option linter.all false
set_option maxRecDepth 100000
set_option maxHeartbeats 4000000
/-! A drawn framing has no fault. -/
namespace K02
open PySem L2 L2.EV
theorem stpD_dT {x : T3} (h : Stp x) : stpD (dT x) = some x := by
  obtain ⟨a, b, pc, c, d⟩ := h
  have n1 : numD 6 (.int x.1) = some x.1 := by
    unfold numD
    simp [a, b]
  have n2 : numD 6 (.int x.2.2) = some x.2.2 := by
    unfold numD
    simp [c, d]
  have p1 : pcS x.2.1 = true := by
    unfold pcS
    rw [decide_eq_true (pc_len pc).1, decide_eq_true (pc_len pc).2, List.all_eq_true.mpr fun c hc => decide_eq_true (pc_cut pc c hc)]
    rfl
  show (match numD 6 (.int x.1), numD 6 (.int x.2.2) with | some i, some j => if pcS x.2.1 = true ∧ Txt.endswith x.2.1 ";" = decide (j = 0) then some (i, x.2.1, j) else none | _, _ => none) = some x
  rw [n1, n2]
  show (if pcS x.2.1 = true ∧ Txt.endswith x.2.1 ";" = decide (x.2.2 = 0) then some (x.1, x.2.1, x.2.2) else none) = some x
  rw [if_pos ⟨p1, pc_ends pc⟩]
theorem frOf_dT : ∀ {fr : List T3}, (∀ x ∈ fr, Stp x) → frOf (fr.map dT) = fr
  | [], _ => rfl
  | x :: fr, h => by
    unfold frOf
    rw [List.map_cons, List.filterMap_cons, stpD_dT (h x (by simp))]
    exact congrArg (x :: ·) (frOf_dT (fr := fr) fun y hy => h y (by simp [hy]))
theorem jnd_frm {fr : List T3} {last : Nat} (fm : Frm fr last) : Jnd fr := by
  have go : ∀ a b : Int, 0 ≤ a → a ≤ last → 0 ≤ b → b ≤ last → Rch fr a b := fun a b a0 a1 b0 b1 S c0 c => by
    obtain ⟨a, rfl⟩ := Int.eq_ofNat_of_zero_le a0
    obtain ⟨b, rfl⟩ := Int.eq_ofNat_of_zero_le b0
    exact fm.all (by omega) c0 c b (by omega)
  intro x hx
  obtain ⟨h1, h2, h3, h4⟩ := fm.fb.lo x hx
  have l0 : (0 : Int) ≤ last := by omega
  exact ⟨⟨go 0 _ (by decide) l0 h1 h2, go _ 0 h1 h2 (by decide) l0⟩, go 0 _ (by decide) l0 h3 h4, go _ 0 h3 h4 (by decide) l0⟩
theorem wrg_srt : ∀ {fr : List T3} {last : Option T3} {k : Nat}, (∀ x ∈ fr, Stp x) → fr.Pairwise (fun x y => lt3 x y = true) → (∀ p, last = some p → ∀ x ∈ fr, lt3 p x = true) → wrgF (fr.map dT) last k = none
  | [], _, _, _, _, _ => rfl
  | x :: fr, last, k, hs, hp, hl => by
    obtain ⟨h1, h2⟩ := List.pairwise_cons.mp hp
    have lb : lb3 last x = false := by
      cases last with
      | none => rfl
      | some p =>
        show (!lt3 p x) = false
        rw [hl p rfl x (by simp)]
        rfl
    rw [List.map_cons, wrgF_some (stpD_dT (hs x (by simp))), lb, if_neg (by decide)]
    exact wrg_srt (fun y hy => hs y (by simp [hy])) h2 (fun p e y hy => by
      cases e
      exact h1 y hy)
theorem frm_fault {fr : List T3} {last : Nat} (fm : Frm fr last) : FaultIs (.tuple (fr.map dT)) none :=
  .inr (.inr (.inr (.inl ⟨_, rfl, by rw [List.length_map]; exact fm.l0, by rw [List.length_map]; exact fm.l1, wrg_srt fm.stp fm.srt (fun p e => by cases e), by rw [frOf_dT fm.stp]; exact jnd_frm fm, rfl⟩)))
/-- a drawn framing may be looked at -/
theorem frm_gd {fr : List T3} {last : Nat} (fm : Frm fr last) : Gd (.tuple (fr.map dT)) := gd_tuple (fun e he => by
  obtain ⟨x, hx, rfl⟩ := List.mem_map.mp he
  exact gi_dT (fm.stp x hx)) (by rw [List.length_map]; exact Nat.le_trans fm.l1 (by decide))
theorem frm_da {H : Hp} {f : Addr} {fr : List T3} (h : FrA H f fr) : Da H (.ref f) (.tuple (fr.map dT)) := by
  obtain ⟨ts, hf, hl, ht⟩ := h
  exact .tup hf (da_frI hl ht)
end K02

set_option Elab.async false
set_option linter.all false
set_option maxRecDepth 100000
set_option maxHeartbeats 4000000
/-! The framing of sixteen steps, and of seventeen. -/
namespace K02
open PySem L2 L2.EV
def mostT : List T3 := [(0, "ab;", 0), (0, "ac;", 0), (0, "ad;", 0), (0, "ae;", 0), (0, "af;", 0), (0, "ag;", 0), (0, "ah;", 0), (0, "ai;", 0), (0, "aj;", 0), (0, "ak;", 0), (0, "al;", 0), (0, "am;", 0), (0, "an;", 0), (0, "ao;", 0), (0, "ap;", 0), (0, "b;", 0)]
theorem most_fault : FaultIs (.tuple (mostT.map dT)) none := by
  refine .inr (.inr (.inr (.inl ⟨_, rfl, by decide, by decide, by decide +kernel, ?_, rfl⟩)))
  have e : frOf (mostT.map dT) = mostT := by decide +kernel
  rw [e]
  have z : ∀ x ∈ mostT, x.1 = 0 ∧ x.2.2 = 0 := by decide +kernel
  have r : Rch mostT 0 0 := fun S c0 _ => by
    have := c0 (0, "b;", 0) (by decide +kernel) rfl
    exact this
  intro x hx
  obtain ⟨h1, h2⟩ := z x hx
  rw [h1, h2]
  exact ⟨⟨r, r⟩, r, r⟩
theorem more_fault : FaultIs (.tuple (mostT.map dT ++ [dT (0, "c;", 0)])) (some none) :=
  .inr (.inl ⟨_, rfl, .inr (by decide), rfl⟩)
theorem most_gi : ∀ e ∈ mostT.map dT, giB e = true := by decide +kernel
theorem more_gi : ∀ e ∈ mostT.map dT ++ [dT (0, "c;", 0)], giB e = true := by decide +kernel
theorem most_gd : Gd (.tuple (mostT.map dT)) := gd_tuple most_gi (by decide)
theorem more_gd : Gd (.tuple (mostT.map dT ++ [dT (0, "c;", 0)])) := gd_tuple more_gi (by decide)
end K02

set_option Elab.async false
set_option linter.all false
set_option maxRecDepth 100000
set_option maxHeartbeats 4000000
/-! The outcome and the law's own, of all that may be looked at. -/
namespace K02
open PySem L2 L2.EV
def Ans (G : Hp) (v : V) (r : Option (Option Int)) : Prop := (r = none ∧ v = .non) ∨ ∃ i p, r = some i ∧ v = .ref p ∧ G p = some (.lst [valF i])
/-- v has the fault r -/
def HasF (H : Hp) (v : V) (r : Option (Option Int)) : Prop := (∃ d, Da H v d ∧ Gd d ∧ FaultIs d r) ∨ (r = some none ∧ ∃ a, v = .ref a ∧ H a = some (.dK []))
def spLook : Sp := fun vs H Q _ => ∃ (v : V) (r : Option (Option Int)), vs = [v] ∧ HasF H v r ∧ ∀ u H', Same H H' → Ans H' u r → Q u H'
theorem oddF {H : Hp} {v : V} (h : OddR H v) : ∃ r, HasF H v r := by
  rcases h with ⟨d, h1, h2⟩ | ⟨a, e, h⟩
  · obtain ⟨r, hr⟩ := fault_is d
    exact ⟨r, .inl ⟨d, h1, h2, hr⟩⟩
  · exact ⟨_, .inr ⟨rfl, a, e, h⟩⟩
def ansD : Option (Option Int) → PyData
  | none => .none
  | some none => .list [.none]
  | some (some i) => .list [.int i]
theorem ans_da {G : Hp} {v : V} {r : Option (Option Int)} (h : Ans G v r) : Da G v (ansD r) := by
  rcases h with ⟨rfl, rfl⟩ | ⟨i, p, rfl, rfl, h⟩
  · exact .non
  · cases i with
    | none => exact .lst h (.cons .non .nil)
    | some i => exact .lst h (.cons (.int i) .nil)
section
variable {P : Program} {w : World} {K : PySem.W.Frag} {mg : Str → Option Value} {base : Heap}
theorem fnOk_or {CX : CXT} {k : Nat} {f : Addr} {fd : FuncData} {ps : List Str} {sp sp' sp2 : Sp} (F : FnOk P w K mg base CX k f fd ps sp) (F' : FnOk P w K mg base CX k f fd ps sp') (h : ∀ vs H Q E, sp2 vs H Q E → sp vs H Q E ∨ sp' vs H Q E) : FnOk P w K mg base CX k f fd ps sp2 :=
  ⟨fun vs H Q E q => (h vs H Q E q).elim (F.len vs H Q E) (F'.len vs H Q E), fun A outer s H args us vs Q E hr he hb hv hs => (h vs H Q E hs).elim (fun z => F.run A outer s H args us vs Q E hr he hb hv z) fun z => F'.run A outer s H args us vs Q E hr he hb hv z⟩
theorem fnG_or {CX : CXT} {k : Nat} {f : Addr} {fd : FuncData} {ps : List Str} {sp sp' sp2 : Sp} (F : FnG P w K mg base CX k f fd ps sp) (F' : FnG P w K mg base CX k f fd ps sp') (h : ∀ vs H Q E, sp2 vs H Q E → sp vs H Q E ∨ sp' vs H Q E) : FnG P w K mg base CX k f fd ps sp2 :=
  ⟨fun vs H Q E q => (h vs H Q E q).elim (F.len vs H Q E) (F'.len vs H Q E), fun A outer s H args us vs Q E hr hg he hb hv hs => (h vs H Q E hs).elim (fun z => F.run A outer s H args us vs Q E hr hg he hb hv z) fun z => F'.run A outer s H args us vs Q E hr hg he hb hv z⟩
theorem ok_look (O : Lo K mg) : FnG P w K mg base CX0 4 O.f O.d ["thing"] spLook := fnG_or (ok_outc O) (ok_outcX O) fun vs H Q E h => by
  obtain ⟨v, r, rfl, hf, q⟩ := h
  rcases hf with ⟨d, h1, ⟨g1, g2, g3⟩, h3⟩ | ⟨rfl, a, rfl, h⟩
  · exact .inl ⟨v, d, r, rfl, h1, g1, g3, h3, fun e H' s => q _ H' s (.inl ⟨e, rfl⟩), fun i e H' p s ep => q _ H' s (.inr ⟨i, p, e, rfl, ep⟩)⟩
  · exact .inr ⟨a, rfl, h, fun H' p s ep => q _ H' s (.inr ⟨none, p, rfl, rfl, ep⟩)⟩
theorem ok_look2 (Z : Lk K mg) : FnOk P w K mg base CX0 3 Z.f Z.d ["thing"] spLook := fnOk_or (ok_fault Z) (ok_faultX Z) fun vs H Q E h => by
  obtain ⟨v, r, rfl, hf, q⟩ := h
  rcases hf with ⟨d, h1, ⟨g1, g2, g3⟩, h3⟩ | ⟨rfl, a, rfl, h⟩
  · exact .inl ⟨v, d, r, rfl, h1, g2, h3, fun e H' s => q _ H' s (.inl ⟨e, rfl⟩), fun i e H' p s ep => q _ H' s (.inr ⟨i, p, e, rfl, ep⟩)⟩
  · exact .inr ⟨a, rfl, h, fun H' p s ep => q _ H' s (.inr ⟨none, p, rfl, rfl, ep⟩)⟩
end
end K02

set_option Elab.async false
set_option linter.all false
set_option maxRecDepth 100000
set_option maxHeartbeats 4000000
/-! What is answered may be shown. -/
namespace K02
open PySem L2 L2.EV
theorem wrg_lt : ∀ {ds : List PyData} {last : Option T3} {k j : Nat}, wrgF ds last k = some j → j < k + ds.length
  | [], _, _, _, h => by cases h
  | d :: ds, last, k, j, h => by
    rw [List.length_cons]
    cases e : stpD d with
    | none =>
      rw [wrgF_none e] at h
      cases h
      omega
    | some t =>
      rw [wrgF_some e] at h
      split at h
      · cases h
        omega
      · have := wrg_lt h
        omega
def shB (d : PyData) : Bool := d.showable && !d.hasDict && decide (d.shown.length ≤ 1000) && decide (d.depth ≤ 5)
theorem shB_shw {d : PyData} (h : shB d = true) : Shw d := by
  unfold shB at h
  rw [Bool.and_eq_true, Bool.and_eq_true, Bool.and_eq_true] at h
  obtain ⟨⟨⟨a, b⟩, c⟩, d⟩ := h
  refine ⟨a, by simpa using b, ?_, of_decide_eq_true d⟩
  have := of_decide_eq_true c
  rw [sizeLine_eq]
  omega
theorem sh_num : ∀ j : Nat, j < 16 → shB (ansD (some (some (j : Int)))) = true := by decide +kernel
theorem fault_shw {d : PyData} {r : Option (Option Int)} (h : FaultIs d r) : Shw (ansD r) := by
  rcases h with ⟨_, rfl⟩ | ⟨ds, _, _, rfl⟩ | ⟨ds, k, _, _, l, w, rfl⟩ | ⟨ds, _, _, _, _, _, rfl⟩ | ⟨ds, _, _, _, _, _, rfl⟩
  · exact shB_shw (by decide +kernel)
  · exact shB_shw (by decide +kernel)
  · have := wrg_lt w
    exact shB_shw (sh_num k (by omega))
  · exact shB_shw (by decide +kernel)
  · exact shB_shw (by decide +kernel)
theorem hasF_shw {H : Hp} {v : V} {r : Option (Option Int)} (h : HasF H v r) : Shw (ansD r) := by
  rcases h with ⟨d, _, _, h⟩ | ⟨rfl, _⟩
  · exact fault_shw h
  · exact shB_shw (by decide +kernel)
end K02

set_option Elab.async false
set_option linter.all false
set_option maxRecDepth 100000
set_option maxHeartbeats 4000000
/-! The law. -/
namespace K02
open PySem L2 L2.EV
abbrev sLaw : Stmt := top 27
abbrev NL : List Str := ["script", "m", "turn", "framing", "k", "thing", "some", "most"]
structure Lall (K : PySem.W.Frag) (mg : Str → Option Value) where
  S : Lb K mg
  O : Lo K mg
  W : Lk K mg
  fB : Addr
  dB : FuncData
  Be : Fun K "_law_begun" "_law_begun" sBegun fB dB
  bB : Binds K dB ["script"] []
  mB : mg "_law_begun" = some (.ref fB)
  mi : mg "min" = none
def spLaw (K : PySem.W.Frag) : Sp := fun vs H Q _ => ∃ (a : Addr) (ns : List Int), vs = [.ref a] ∧ SqL K H a (ns.map V.int) ∧ ns.length ≤ 63 ∧ ∀ H', Q (.bl true) H'
theorem HasF.same {H H' : Hp} {v : V} {r : Option (Option Int)} (h : HasF H v r) (s : Same H H') : HasF H' v r := by
  rcases h with ⟨d, h1, h2, h3⟩ | ⟨e, a, e2, h⟩
  · exact .inl ⟨d, Da.same s _ _ h1, h2, h3⟩
  · exact .inr ⟨e, a, e2, s _ _ h⟩
theorem Ans.non {G : Hp} {v : V} (h : Ans G v none) : v = .non := by
  rcases h with ⟨_, h⟩ | ⟨i, p, e, _⟩
  · exact h
  · cases e
def oddDs : List PyData := [.str "a", .str ";", .str "@", .str "a@9z", .str "abcdefg;", .str "abcdefgh", .str "abcdefghi", .str "", .str "a;b", .str "A", .str "a-", .str " a", .none, .int 5, .tuple [.str "a"], .list [.str "a"], .str "a\n", .str ";;"]
def wB (d : PyData) : Bool := match d with
  | .str p => decide (p.length ≤ 1000) && PyData.strOk p
  | _ => true
theorem wB_ok {d : PyData} (h : wB d = true) : szT d ∧ stOk d := by
  have z : ∀ p, d = .str p → p.length ≤ 1000 ∧ PyData.strOk p = true := fun p e => by
    subst e
    have h : (decide (p.length ≤ 1000) && PyData.strOk p) = true := h
    rw [Bool.and_eq_true] at h
    exact ⟨of_decide_eq_true h.1, h.2⟩
  exact ⟨fun p e => (z p e).1, fun p e => ⟨Nat.le_trans (z p e).1 (by decide), (z p e).2⟩⟩
theorem odd_ok : ∀ d ∈ oddDs, szT d ∧ stOk d := fun d hd => wB_ok ((by decide +kernel : ∀ d ∈ oddDs, wB d = true) d hd)
theorem most_str : ∀ i < 15, mostT[i]? = ((sl ("bcdefghijklmnop" : Str))[i]?).map fun c => ((0, "a" ++ (⟨#[c]⟩ : Str) ++ ";", 0) : T3) := by decide +kernel
theorem most_at {i : Nat} (h : i < 15) : ∃ c, (sl ("bcdefghijklmnop" : Str))[i]? = some c ∧ mostT[i]? = some (0, "a" ++ (⟨#[c]⟩ : Str) ++ ";", 0) := by
  have z := most_str i h
  have l : (sl ("bcdefghijklmnop" : Str)).length = 15 := by decide +kernel
  have e := List.getElem?_eq_getElem (l := sl ("bcdefghijklmnop" : Str)) (i := i) (by omega)
  rw [e] at z
  exact ⟨_, e, z⟩
theorem len_s : (";" : Str).length = 1 := by decide +kernel
theorem len_a {c : Nat} : ("a" : Str).length + (⟨#[c]⟩ : Str).length = 2 := by
  have : ("a" : Str).length = 1 := by decide +kernel
  rw [this]
  rfl
theorem len_ac {c : Nat} : ("a" ++ (⟨#[c]⟩ : Str)).length = 2 := by
  show (("a" : Str).cps ++ #[c]).size = 2
  rw [Array.size_append]
  exact len_a (c := c)
theorem sh_bool (b : Bool) : Shw (.bool b) := by
  cases b
  · exact shB_shw (by decide +kernel)
  · exact shB_shw (by decide +kernel)
section
variable {P : Program} {w : World} {K : PySem.W.Frag} {mg : Str → Option Value} {base : Heap}
theorem scLaw : FnScope NL ["script"] (defScope sLaw) := ⟨rfl, rfl, rfl, by decide +kernel, rfl, by decide +kernel, by decide +kernel⟩
theorem ok_law (L : Lall K mg) {f : Addr} {fd : FuncData} (F : Fun K "law" "law" sLaw f fd) : FnG P w K mg base CX0 5 f fd ["script"] (spLaw K) := by
  have GB : FnOk P w K mg base CX0 1 L.fB L.dB ["script"] (spBegun K) := ok_begun L.Be L.S.G.L.T
  have GG : FnOk P w K mg base CX0 3 L.S.G.f L.S.G.d ["m", "most"] spFraming := ok_framing L.S.G
  have GS : FnOk P w K mg base CX0 2 L.S.f L.S.d ["m", "framing"] spSpoil := ok_spoil L.S
  have GO : FnG P w K mg base CX0 4 L.O.f L.O.d ["thing"] spLook := ok_look L.O
  have GK : FnOk P w K mg base CX0 3 L.W.f L.W.d ["thing"] spLook := ok_look2 L.W
  have GP : FnOk P w K mg base CX0 1 L.O.Z.fP L.O.Z.dP ["thing"] spPcD := ok_pcD L.O.Z.P L.O.Z.T
  have GQ : FnOk P w K mg base CX0 1 L.W.I.f2 L.W.I.d2 ["thing"] spLP := ok_lp L.W.I.F2 L.W.I.T
  refine okG F scLaw (fun vs H Q E h => ?_) (fun cdv A outer s H vs Q E hr hgd h => ?_)
  · obtain ⟨a, ns, rfl, _⟩ := h
    rfl
  · obtain ⟨a, ns, rfl, hS, hlen, q⟩ := h
    have ggd : (A.deeper (PyProof.Rows.envOfC "law" (defScope sLaw) s.heap.objs.size f cdv)).guards = some [] := hgd
    have hu64 := hr.units
    have r1 := hr.mono (j := 1) (by decide)
    have r2 := hr.mono (j := 2) (by decide)
    have r3 := hr.mono (j := 3) (by decide)
    refine ⟨_, pss_cons (ps_set (i := 1) scLaw.nd rfl (Or.inl rfl) (pe_call GB r1 (by rfl) L.mB L.Be.kp L.bB .nil pass0 (pa_cons (pv 0) pa_nil)))
      (pss_cons (ps_for PassesOwn.never rfl (pi_range1 (by rfl) L.S.G.L.ra (pa_cons (pe_op op_add pe_int (pe_callB (call_min2 rfl) (by rfl) L.mi (by decide +kernel) (pa_cons (pe_callB call_len_seq (by rfl) L.S.G.L.T.len PySem.boot_len (pa_cons (pv 0) pa_nil)) (pa_cons pe_int pa_nil)))) pa_nil)) (pg_name (i := 2) scLaw.nd rfl (Or.inl rfl))
        (pss_cons (ps_set (i := 3) scLaw.nd rfl (Or.inl rfl) (pe_call GG r3 (by rfl) L.S.G.g L.S.G.F.kp L.S.G.b .nil pass0 (pa_cons (pv 1) (pa_cons pe_int pa_nil))))
        (pss_cons (ps_if (pw_or (pt_cmp (pc_notN (pe_callG GO hr ggd (by rfl) L.O.m L.O.F.kp L.O.b pass0 (pa_cons (pv 3) pa_nil)))) (pw_or1 (pt_cmp (pc_notN (pe_call GK r3 (by rfl) L.W.m L.W.F.kp L.W.b .nil pass0 (pa_cons (pv 3) pa_nil)))))).pt (pss_one (ps_ret pe_bl)) pss_nil)
        (pss_one (ps_for PassesOwn.never rfl (pi_range1 (by rfl) L.S.G.L.ra (pa_cons pe_int pa_nil)) (pg_name (i := 4) scLaw.nd rfl (Or.inl rfl))
          (pss_cons (ps_set (i := 5) scLaw.nd rfl (Or.inl rfl) (pe_call GS r2 (by rfl) L.S.m L.S.F.kp L.S.b .nil pass0 (pa_cons (pv 1) (pa_cons (pv 3) pa_nil))))
          (pss_one (ps_if (pt_cmpR op_ne (pe_callB (call_showV ggd hu64) (by rfl) L.O.re (by decide +kernel) (pa_cons (pe_callG GO hr ggd (by rfl) L.O.m L.O.F.kp L.O.b pass0 (pa_cons (pv 5) pa_nil)) pa_nil)) (pe_callB (call_showV ggd hu64) (by rfl) L.O.re (by decide +kernel) (pa_cons (pe_call GK r3 (by rfl) L.W.m L.W.F.kp L.W.b .nil pass0 (pa_cons (pv 5) pa_nil)) pa_nil)) (nomark _)) (pss_one (ps_ret pe_bl)) pss_nil))))))))
      (pss_cons (ps_set (i := 6) scLaw.nd rfl (Or.inl rfl) (pe_lst (pa_cons pe_str (pa_cons pe_str (pa_cons pe_str (pa_cons pe_str (pa_cons pe_str (pa_cons pe_str (pa_cons pe_str (pa_cons pe_str (pa_cons pe_str (pa_cons pe_str (pa_cons pe_str (pa_cons pe_str (pa_cons pe_non (pa_cons pe_int pa_nil))))))))))))))))
      (pss_cons (ps_for PassesOwn.never rfl (pi_list (pe_op op_cat (pv 6) (pe_lst (pa_cons (pe_tup (pa_cons pe_str pa_nil)) (pa_cons (pe_lst (pa_cons pe_str pa_nil)) (pa_cons pe_str (pa_cons pe_str pa_nil))))))) (pg_name (i := 5) scLaw.nd rfl (Or.inl rfl))
        (pss_one (ps_if (pt_cmpR op_ne (pe_callB (call_showV ggd hu64) (by rfl) L.O.re (by decide +kernel) (pa_cons (pe_call GP r1 (by rfl) L.O.Z.mP L.O.Z.P.kp L.O.Z.bP .nil pass0 (pa_cons (pv 5) pa_nil)) pa_nil)) (pe_callB (call_showV ggd hu64) (by rfl) L.O.re (by decide +kernel) (pa_cons (pe_call GQ r1 (by rfl) L.W.I.m2 L.W.I.F2.kp L.W.I.b2 .nil pass0 (pa_cons (pv 5) pa_nil)) pa_nil)) (nomark _)) (pss_one (ps_ret pe_bl)) pss_nil)))
      (pss_cons (ps_set (i := 7) scLaw.nd rfl (Or.inl rfl) (pe_callTy call_tuple_of (by rfl) L.S.G.tu (by decide +kernel) (pa_cons (pe_op op_cat
          (pe_lc (own := [("k", 4)]) (g := gName 4) rfl scLaw.nd (pi_range1 (by rfl) L.S.G.L.ra (pa_cons pe_int pa_nil)) (blkOk_by (N := NL) (sc := defScope sLaw) (by decide +kernel))
            (fun _ _ _ _ _ => pg_name (i := 4) scLaw.nd rfl (Or.inl rfl)) (fun _ _ _ _ _ => pts_nil)
            (fun _ _ _ _ _ => pe_tup (pa_cons pe_int (pa_cons (pe_op op_add_str (pe_op op_add_str pe_str (pe_ix ix_str pe_str (pv 4) (fun _ _ => rfl))) pe_str) (pa_cons pe_int pa_nil)))))
          (pe_lst (pa_cons (pe_tup (pa_cons pe_int (pa_cons pe_str (pa_cons pe_int pa_nil)))) pa_nil))) pa_nil)))
      (pss_one (ps_ret (pe_and (pe_cmp (pc_isN (pe_callG GO hr ggd (by rfl) L.O.m L.O.F.kp L.O.b pass0 (pa_cons (pv 7) pa_nil))))
        (pe_one (pe_cmpR (op_eqD hu64) (pe_callG GO hr ggd (by rfl) L.O.m L.O.F.kp L.O.b pass0 (pa_cons (pe_op op_catZ (pv 7) (pe_tup (pa_cons (pe_tup (pa_cons pe_int (pa_cons pe_str (pa_cons pe_int pa_nil)))) pa_nil))) pa_nil)) (pe_lst (pa_cons pe_non pa_nil)) (nomark _)))))))))), ?_⟩
    refine ⟨_, rfl, a, ns, rfl, hS, by omega, fun m mc l0 H0 M0 hm hmc hl sm0 => ?_⟩
    have nl : (ns.map V.int).length ≤ 63 := by rw [List.length_map]; exact hlen
    refine ⟨_, rfl, a, _, rfl, .inl (sm0.seq hS), _, 5, rfl, 2, _, rfl, rfl, _, rfl, by split <;> omega, by split <;> omega, ?_⟩
    have hN : (2 + if (5 : Int) < ((ns.map V.int).length : Nat) then 5 else (((ns.map V.int).length : Nat) : Int)).toNat ≤ 7 := by split <;> omega
    generalize (2 + if (5 : Int) < ((ns.map V.int).length : Nat) then 5 else (((ns.map V.int).length : Nat) : Int)).toNat = N at hN ⊢
    refine for_it walk_range (fun i σ H' => ∃ (v2 v3 v4 v5 : Option V) (l : Addr) (k : Int), σ = [some (.ref a), some (.ref m), v2, v3, v4, v5, none, none] ∧ MAt H' m mc l k ∧ k ≤ 440 * i)
      ⟨none, none, none, none, l0, 0, rfl, M0, by omega⟩ (fun _ _ _ _ _ => trivial) ?_ ?_
    · rintro i x σ H1z H1 hi ⟨v2, v3, v4, v5, l1, k1, rfl, M1, kk1⟩ ⟨rfl, rfl⟩
      refine ⟨_, rfl, m, mc, l1, k1, 4, rfl, by decide, M1, by omega, fun f fr last H2 l2 k2 fa fm lb lf kk2 D2 => ?_⟩
      have M2 := D2.at_
      have l11 : fr.length ≤ 11 := by omega
      have hf : ∀ {G : Hp}, FrA G f fr → HasF G (.ref f) none := fun h => .inl ⟨_, frm_da h, frm_gd fm, frm_fault fm⟩
      refine ⟨_, rfl, .ref f, none, rfl, hf fa, fun u3 H3 s3 a3 => ?_⟩
      cases a3.non
      refine ⟨_, rfl, iteF' (by simp) ?_⟩
      refine ⟨_, rfl, .ref f, none, rfl, hf (fa.same s3), fun u4 H4 s4 a4 => ?_⟩
      cases a4.non
      refine ⟨_, rfl, iteF' (by simp) ?_⟩
      have s24 := s3.trans s4
      refine ⟨_, rfl, by decide, by decide, ?_⟩
      refine for_it walk_range (fun j σ H' => ∃ (v4 v5 : Option V) (l : Addr) (k : Int), σ = [some (.ref a), some (.ref m), some (.int (0 + (i : Int))), some (.ref f), v4, v5, none, none] ∧ MAt H' m mc l k ∧ k ≤ k2 + 10 * j ∧ FrA H' f fr)
        ⟨v4, v5, l2, k2, rfl, M2.same s24, by omega, fa.same s24⟩ (fun _ _ _ _ _ => trivial) ?_ ?_
      · rintro j x σ H5z H5 hj ⟨v4, v5, l5, k5, rfl, M5, kk5, fa5⟩ ⟨rfl, rfl⟩
        have hj4 : j < 4 := hj
        refine ⟨_, rfl, _, rfl, m, mc, l5, f, k5, fr, last, rfl, M5, by omega, fa5, fm, l11, fun v H6 l6 k6 od kk6 D6 => ?_⟩
        obtain ⟨r, hv⟩ := oddF od
        obtain ⟨sh1, sh2, sh3, sh4⟩ := hasF_shw hv
        refine ⟨_, rfl, v, r, rfl, hv, fun u7 H7 s7 a7 => ?_⟩
        refine ⟨u7, ansD r, rfl, Da.dp _ _ (ans_da a7), sh1, sh2, sh3, sh4, ?_⟩
        refine ⟨_, rfl, v, r, rfl, hv.same s7, fun u8 H8 s8 a8 => ?_⟩
        refine ⟨u8, ansD r, rfl, Da.dp _ _ (ans_da a8), sh1, sh2, sh3, sh4, rfl, _, rfl, iteF' (by simp) ?_⟩
        have s78 := s7.trans s8
        exact ⟨_, _, l6, k6, rfl, D6.at_.same s78, by push_cast; omega, (D6.fr M5 fa5).same s78⟩
      · rintro σ H5 ⟨v4, v5, l5, k5, rfl, M5, kk5, fa5⟩
        have kk5 : k5 ≤ k2 + 10 * (4 : Int) := kk5
        exact ⟨_, _, _, _, l5, k5, rfl, M5, by push_cast; omega⟩
    · rintro σ HE ⟨v2, v3, v4, v5, l, k, rfl, ME, kkE⟩
      refine ⟨(by show 14 ≤ sizeLine; rw [sizeLine_eq]; decide), fun pS hpS => gName_go2 ?_⟩
      have u1 := same_upd (o := HO.lst [.str "a", .str ";", .str "@", .str "a@9z", .str "abcdefg;", .str "abcdefgh", .str "abcdefghi", .str "", .str "a;b", .str "A", .str "a-", .str " a", .non, .int 5]) hpS
      have e1 := upd_same (H := HE) (a := pS) (o := HO.lst [.str "a", .str ";", .str "@", .str "a@9z", .str "abcdefg;", .str "abcdefgh", .str "abcdefghi", .str "", .str "a;b", .str "A", .str "a-", .str " a", .non, .int 5])
      generalize upd HE pS _ = HF at u1 e1 ⊢
      refine ⟨_, rfl, (by show 1 ≤ sizeLine; rw [sizeLine_eq]; decide), fun pt hpt => ⟨(by show 1 ≤ sizeLine; rw [sizeLine_eq]; decide), fun pl hpl => ⟨(by show 4 ≤ sizeLine; rw [sizeLine_eq]; decide), fun pm hpm => ?_⟩⟩⟩
      have u2 := same_upd (o := HO.tup [.str "a"]) hpt
      have e2 := upd_same (H := HF) (a := pt) (o := HO.tup [.str "a"])
      generalize upd HF pt _ = HG at u2 e2 hpl hpm ⊢
      have u3 := same_upd (o := HO.lst [.str "a"]) hpl
      have e3 := upd_same (H := HG) (a := pl) (o := HO.lst [.str "a"])
      generalize upd HG pl _ = HH at u3 e3 hpm ⊢
      have u4 := same_upd (o := HO.lst [.ref pt, .ref pl, .str "a\n", .str ";;"]) hpm
      have e4 := upd_same (H := HH) (a := pm) (o := HO.lst [.ref pt, .ref pl, .str "a\n", .str ";;"])
      generalize upd HH pm _ = HI at u4 e4 ⊢
      refine ⟨pS, pm, _, _, rfl, rfl, u4 _ _ (u3 _ _ (u2 _ _ e1)), e4, (by show 18 ≤ sizeLine; rw [sizeLine_eq]; decide), fun px hpx => ?_⟩
      have al : DaAll HI ([.str "a", .str ";", .str "@", .str "a@9z", .str "abcdefg;", .str "abcdefgh", .str "abcdefghi", .str "", .str "a;b", .str "A", .str "a-", .str " a", .non, .int 5] ++ [.ref pt, .ref pl, .str "a\n", .str ";;"]) oddDs :=
        .cons (.str _) (.cons (.str _) (.cons (.str _) (.cons (.str _) (.cons (.str _) (.cons (.str _) (.cons (.str _) (.cons (.str _) (.cons (.str _) (.cons (.str _) (.cons (.str _) (.cons (.str _) (.cons .non (.cons (.int _) (.cons (.tup (u4 _ _ (u3 _ _ e2)) (.cons (.str _) .nil)) (.cons (.lst (u4 _ _ e3) (.cons (.str _) .nil)) (.cons (.str _) (.cons (.str _) .nil)))))))))))))))))
      generalize ([.str "a", .str ";", .str "@", .str "a@9z", .str "abcdefg;", .str "abcdefgh", .str "abcdefghi", .str "", .str "a;b", .str "A", .str "a-", .str " a", .non, .int 5] ++ [.ref pt, .ref pl, .str "a\n", .str ";;"] : List V) = xs at al ⊢
      have u5 := same_upd (o := HO.lst xs) hpx
      have e5 := upd_same (H := HI) (a := px) (o := HO.lst xs)
      generalize upd HI px _ = HJ at u5 e5 ⊢
      refine ⟨px, rfl, ⟨_, SqL.of e5⟩, for_it (walk_list (xs := xs)) (fun j σ H' => ∃ (v5 : Option V), σ = [some (.ref a), some (.ref m), v2, v3, v4, v5, some (.ref pS), none] ∧ Same HJ H')
        ⟨v5, rfl, Same.refl HJ⟩ (fun j σ H' _ ⟨_, _, z⟩ => SqL.of (z _ _ e5)) ?_ ?_⟩
      · rintro j x σ H6z H6 hj ⟨v5, rfl, s6⟩ ⟨rfl, hx⟩
        obtain ⟨d, hd, dx⟩ := al.at_ hx
        obtain ⟨z1, z2⟩ := odd_ok d (List.mem_of_getElem? hd)
        obtain ⟨sh1, sh2, sh3, sh4⟩ := sh_bool (pcD d)
        have dx6 := Da.same s6 _ _ (Da.same u5 _ _ dx)
        refine ⟨_, rfl, x, d, rfl, dx6, z1, fun H7 s7 => ?_⟩
        refine ⟨.bl (pcD d), .bool (pcD d), rfl, Da.dp _ _ (.bl _), sh1, sh2, sh3, sh4, ?_⟩
        refine ⟨_, rfl, x, d, rfl, Da.same s7 _ _ dx6, z2, fun H8 s8 => ?_⟩
        refine ⟨.bl (pcD d), .bool (pcD d), rfl, Da.dp _ _ (.bl _), sh1, sh2, sh3, sh4, rfl, _, rfl, iteF' (by simp) ?_⟩
        exact ⟨_, rfl, s6.trans (s7.trans s8)⟩
      · rintro σ H6 ⟨v5, rfl, s6⟩
        refine ⟨_, rfl, by decide, by decide, fun D hD => ?_⟩
        refine lc_it walk_range (fun i H' => ∃ ts : List Addr, H' D = some (.lst (ts.map V.ref)) ∧ ts.length = i ∧ (∀ (j : Nat) t x, ts[j]? = some t → mostT[j]? = some x → S3 H' t x) ∧ Same H6 H')
          ⟨[], upd_same, rfl, (fun j t x h => by cases h), same_upd hD⟩ (fun _ _ _ _ => trivial) ?_ ?_
        · rintro i x H7z H7 hi ⟨ts, hD7, tl, tc, s7⟩ ⟨rfl, rfl⟩
          have hi15 : i < 15 := hi
          obtain ⟨cc, hc, hm⟩ := most_at hi15
          refine ⟨rfl, _, rfl, "bcdefghijklmnop", 0 + (i : Int), cc, rfl, rfl, (by show 15 ≤ sizeLine; rw [sizeLine_eq]; decide), (by rw [Int.zero_add]; exact atI_nat hc), ?_⟩
          refine ⟨_, _, rfl, rfl, (by rw [len_a, sizeLine_eq]; decide), ?_⟩
          refine ⟨_, _, rfl, rfl, (by rw [len_ac, len_s, sizeLine_eq]; decide), ?_⟩
          refine ⟨(by show 3 ≤ sizeLine; rw [sizeLine_eq]; decide), fun p hp => ?_⟩
          have up := same_upd (o := HO.tup [.int 0, .str ("a" ++ (⟨#[cc]⟩ : Str) ++ ";"), .int 0]) hp
          refine ⟨_, up _ _ hD7, by rw [List.length_map, sizeLine_eq]; omega, ts ++ [p], by rw [List.map_append]; exact upd_same, by rw [List.length_append, tl]; rfl, ?_, same_set hD (Same.trans s7 up)⟩
          have k8 := keepT_upd (o := .lst (ts.map V.ref ++ [V.ref p])) (up _ _ hD7) (fun xs z => by cases z)
          intro j t x h1 h2
          by_cases c : j < ts.length
          · rw [List.getElem?_append_left c] at h1
            exact k8 _ _ (up _ _ (tc j t x h1 h2))
          · have i1 := (List.getElem?_eq_some_iff.mp h1).1
            rw [List.length_append] at i1
            have e2 : j = ts.length := by simp only [List.length_cons, List.length_nil] at i1; omega
            subst e2
            rw [List.getElem?_append_right (Nat.le_refl _), Nat.sub_self] at h1
            rw [tl, hm] at h2
            cases h1
            cases h2
            exact k8 _ _ upd_same
        rintro H7 ⟨ts, hD7, tl, tc, s7⟩
        have tl : ts.length = 15 := tl
        refine ⟨(by show 3 ≤ sizeLine; rw [sizeLine_eq]; decide), fun pu hpu => ⟨(by show 1 ≤ sizeLine; rw [sizeLine_eq]; decide), fun pv hpv => ?_⟩⟩
        have u8 := same_upd (o := HO.tup [.int 0, .str "b;", .int 0]) hpu
        have e8 := upd_same (H := H7) (a := pu) (o := HO.tup [.int 0, .str "b;", .int 0])
        generalize upd H7 pu _ = H8 at u8 e8 hpv ⊢
        have u9 := same_upd (o := HO.lst [.ref pu]) hpv
        have e9 := upd_same (H := H8) (a := pv) (o := HO.lst [.ref pu])
        generalize upd H8 pv _ = H9 at u9 e9 ⊢
        refine ⟨D, pv, _, _, rfl, rfl, u9 _ _ (u8 _ _ hD7), e9, (by rw [List.length_map, tl, sizeLine_eq]; show 15 + 1 ≤ 16777216; decide), fun pq hpq => ?_⟩
        have u10 := same_upd (o := HO.lst (ts.map V.ref ++ [.ref pu])) hpq
        have e10 := upd_same (H := H9) (a := pq) (o := HO.lst (ts.map V.ref ++ [.ref pu]))
        generalize upd H9 pq _ = H10 at u10 e10 ⊢
        refine ⟨pq, _, rfl, .inl ⟨SqL.of e10, fun pz hpz => gName_go2 ?_⟩⟩
        have u11 := same_upd (o := HO.tup (ts.map V.ref ++ [.ref pu])) hpz
        have e11 := upd_same (H := H10) (a := pz) (o := HO.tup (ts.map V.ref ++ [.ref pu]))
        generalize upd H10 pz _ = H11 at u11 e11 ⊢
        have s711 : Same H7 H11 := fun b o e => u11 _ _ (u10 _ _ (u9 _ _ (u8 _ _ e)))
        have e8' := u11 _ _ (u10 _ _ (u9 _ _ e8))
        have fa : FrA H11 pz mostT := by
          refine ⟨ts ++ [pu], by rw [e11, List.map_append]; rfl, by rw [List.length_append, tl]; rfl, fun j t x h1 h2 => ?_⟩
          by_cases c : j < ts.length
          · rw [List.getElem?_append_left c] at h1
            exact s711 _ _ (tc j t x h1 h2)
          · have i1 := (List.getElem?_eq_some_iff.mp h1).1
            rw [List.length_append] at i1
            have e2 : j = ts.length := by simp only [List.length_cons, List.length_nil] at i1; omega
            subst e2
            rw [List.getElem?_append_right (Nat.le_refl _), Nat.sub_self] at h1
            rw [tl] at h2
            cases h1
            cases h2
            exact e8'
        refine ⟨_, rfl, .ref pz, none, rfl, .inl ⟨_, frm_da fa, most_gd, most_fault⟩, fun u12 H12 s12 a12 => ?_⟩
        cases a12.non
        refine ⟨_, rfl, iteT' (by simp) ?_⟩
        refine ⟨_, rfl, (by show 3 ≤ sizeLine; rw [sizeLine_eq]; decide), fun pg hpg => ⟨(by show 1 ≤ sizeLine; rw [sizeLine_eq]; decide), fun ph hph => ?_⟩⟩
        have u13 := same_upd (o := HO.tup [.int 0, .str "c;", .int 0]) hpg
        have e13 := upd_same (H := H12) (a := pg) (o := HO.tup [.int 0, .str "c;", .int 0])
        generalize upd H12 pg _ = H13 at u13 e13 hph ⊢
        have u14 := same_upd (o := HO.tup [.ref pg]) hph
        have e14 := upd_same (H := H13) (a := ph) (o := HO.tup [.ref pg])
        generalize upd H13 ph _ = H14 at u14 e14 ⊢
        have s1114 : Same H11 H14 := fun b o e => u14 _ _ (u13 _ _ (s12 _ _ e))
        refine ⟨pz, ph, _, _, rfl, rfl, s1114 _ _ e11, e14, (by rw [List.length_append, List.length_map, tl, sizeLine_eq]; show 15 + 1 + 1 ≤ 16777216; decide), fun H15 p15 s15 e15 => ?_⟩
        have da : Da H15 (.ref p15) (.tuple (mostT.map dT ++ [dT (0, "c;", 0)])) := by
          have z := frm_da (fa.same (s1114.trans (show Same H14 H15 from s15)))
          cases z with
          | tup e al2 =>
            rw [s15 _ _ (s1114 _ _ e11)] at e
            cases e
            exact .tup e15 (al2.app (.cons (.tup (s15 _ _ (u14 _ _ e13)) (.cons (.int _) (.cons (.str _) (.cons (.int _) .nil)))) .nil))
        refine ⟨.ref p15, some none, rfl, .inl ⟨_, da, more_gd, more_fault⟩, fun u16 H16 s16 a16 => ?_⟩
        refine ⟨(by show 1 ≤ sizeLine; rw [sizeLine_eq]; decide), fun pw hpw => ?_⟩
        have u17 := same_upd (o := HO.lst [.non]) hpw
        refine ⟨.list [.none], .list [.none], Da.dp _ _ (Da.same u17 _ _ (ans_da a16)), Da.dp _ _ (.lst upd_same (.cons .non .nil)), rfl, rfl, ?_⟩
        exact q _
end
end K02

set_option Elab.async false
set_option linter.all false
set_option maxRecDepth 100000
set_option maxHeartbeats 8000000
/-! What the top has written. -/
namespace K02
open PySem L2 L2.EV PySem.Spec PyProof.Rows
theorem oxc {K : PySem.W.Frag} {C N : Addr} {nm q : Str} {bs : List Value} {sn : List Str} {sub : List Value} {ab : Bool} {col : Option Bool} {dd : Option Addr} {k0 k1 k2 k3 k5 : Option Value} {B newId initId : String} {bm : List Value}
    (cl : K.lookup C = some (excClassObj nm q C N bs bm true sn sub ab col dd k0 k1 k2 k3 k5 newId)) (F : ExcBaseFacts B newId initId bm) (pas : ∀ self, refuseLoop self "__setattr__" bm = pure ()) (obj : bm.contains (.type "object") = true)
    (sa : PySem.W.findIn K (.ref C) "__setattr__" = some (some (.builtin "object.__setattr__"))) (ga : PySem.W.findIn K (.ref C) "__getattribute__" = some (some (.builtin "BaseException.__getattribute__")))
    (gg : PySem.W.findIn K (.ref C) "__getattr__" = some none) (exC : PySem.W.subIn K (.ref C) (.type "BaseException") = some true) (kC : PySem.W.keepIn K (.ref C) = true) (hd : PySem.W.hasDictIn K C = true)
    (ca : PySem.W.findIn K (.ref C) "__class__" = some (some (.builtin "object.__class__"))) (cn : PySem.W.specialIn K (.builtin "object.__class__") "__get__" = some (some (.builtin "getset_descriptor.__get__")))
    (ct : PySem.W.takesIn K (.builtin "object.__class__") = some true) (om : PySem.W.mroIn K C (.type "object") = some true) : OxC K C B newId initId bm :=
  ⟨F, ⟨nm, q, N, bs, sn, sub, ab, col, dd, k0, k1, k2, k3, k5, cl⟩, pas, obj, sa, ga, gg, exC, kC, hd, ca, cn, ct, om⟩
theorem fund_mk {K : PySem.W.Frag} {x qual : Str} {st : Stmt} {f T : Addr} {oc toc : Value} {od an tod : Option Addr} {osl tsl : Array (Option Value)} {n : Nat} {kV doc pm cdv ct : Value} (l : K.lookup f = some ⟨oc, od, .func (PySem.W.fnOf x qual (defArgs st) (defBody st) (defScope st) (.ref T) kV doc pm an cdv ct), osl⟩)
    (t : K.lookup T = some ⟨toc, tod, .seq #[.none] n, tsl⟩) (c : PySem.W.codeIn K cdv qual = true) (k : PySem.W.keepIn K (.ref f) = true) :
    FunD K x qual (defArgs st) (defBody st) (defScope st) [V.non] [] f (PySem.W.fnOf x qual (defArgs st) (defBody st) (defScope st) (.ref T) kV doc pm an cdv ct) :=
  ⟨⟨oc, od, .ref T, kV, doc, pm, an, cdv, ct, osl, rfl, l, c, .inr ⟨by simp, T, _, [.none], n, rfl, t, rfl, .cons rfl .nil⟩, .inl rfl⟩, k⟩
theorem all_mk {P : Program} {w : World} {K : PySem.W.Frag} {h : Heap} {mg : Str → Option Value} {fa C f_ini f_iN f_iP f_iS f_iL f_iW f_iJ f_iF f_lB f_lN f_lP f_lF f_lA f_lI f_lC f_lS f_lR f_lU f_lO f_lX f_la : Addr}
    {od_iN an_iN : Option Addr} {sl_iN : Array (Option Value)} {oc_iN kV_iN dc_iN pm_iN cd_iN ct_iN : Value}
    {od_iP an_iP : Option Addr} {sl_iP : Array (Option Value)} {oc_iP kV_iP dc_iP pm_iP cd_iP ct_iP : Value}
    {od_iS an_iS : Option Addr} {sl_iS : Array (Option Value)} {oc_iS kV_iS dc_iS pm_iS cd_iS ct_iS : Value}
    {od_iL an_iL : Option Addr} {sl_iL : Array (Option Value)} {oc_iL kV_iL dc_iL pm_iL cd_iL ct_iL : Value}
    {od_iW an_iW : Option Addr} {sl_iW : Array (Option Value)} {oc_iW kV_iW dc_iW pm_iW cd_iW ct_iW : Value}
    {od_iJ an_iJ : Option Addr} {sl_iJ : Array (Option Value)} {oc_iJ kV_iJ dc_iJ pm_iJ cd_iJ ct_iJ : Value}
    {od_iF an_iF : Option Addr} {sl_iF : Array (Option Value)} {oc_iF kV_iF dc_iF pm_iF cd_iF ct_iF : Value}
    {od_lB an_lB : Option Addr} {sl_lB : Array (Option Value)} {oc_lB kV_lB dc_lB pm_lB cd_lB ct_lB : Value}
    {od_lN an_lN : Option Addr} {sl_lN : Array (Option Value)} {oc_lN kV_lN dc_lN pm_lN cd_lN ct_lN : Value}
    {od_lP an_lP : Option Addr} {sl_lP : Array (Option Value)} {oc_lP kV_lP dc_lP pm_lP cd_lP ct_lP : Value}
    {od_lF an_lF : Option Addr} {sl_lF : Array (Option Value)} {oc_lF kV_lF dc_lF pm_lF cd_lF ct_lF : Value}
    {od_lA an_lA : Option Addr} {sl_lA : Array (Option Value)} {oc_lA kV_lA dc_lA pm_lA cd_lA ct_lA : Value}
    {od_lI an_lI : Option Addr} {sl_lI : Array (Option Value)} {oc_lI kV_lI dc_lI pm_lI cd_lI ct_lI : Value}
    {od_lC an_lC : Option Addr} {sl_lC : Array (Option Value)} {oc_lC kV_lC dc_lC pm_lC cd_lC ct_lC : Value}
    {od_lS an_lS : Option Addr} {sl_lS : Array (Option Value)} {oc_lS kV_lS dc_lS pm_lS cd_lS ct_lS : Value}
    {od_lR an_lR : Option Addr} {sl_lR : Array (Option Value)} {oc_lR kV_lR dc_lR pm_lR cd_lR ct_lR : Value}
    {od_lU an_lU : Option Addr} {sl_lU : Array (Option Value)} {oc_lU kV_lU dc_lU pm_lU cd_lU ct_lU : Value}
    {od_lO an_lO : Option Addr} {sl_lO : Array (Option Value)} {oc_lO kV_lO dc_lO pm_lO cd_lO ct_lO : Value}
    {od_lX an_lX : Option Addr} {sl_lX : Array (Option Value)} {oc_lX kV_lX dc_lX pm_lX cd_lX ct_lX : Value}
    {od_la an_la : Option Addr} {sl_la : Array (Option Value)} {oc_la kV_la dc_la pm_la cd_la ct_la : Value}
    {od_ini an_ini : Option Addr} {sl_ini : Array (Option Value)} {oc_ini kV_ini dc_ini pm_ini cd_ini ct_ini : Value}
    {t_vS : Tok}
    {t_vM : Tok}
    {t_vT : Tok}
    {t_vD : Tok}
    (X : K.In h) (G : h.Ns mainGlobals mg) (hfa : mg "law" = some (.ref fa))
    (a_iN : PySem.W.nsIn K mainGlobals "is_number" = some (some (.ref f_iN)))
    (l_iN : K.lookup f_iN = some ⟨oc_iN, od_iN, .func (PySem.W.fnOf "is_number" "is_number" (defArgs sNum) (defBody sNum) (defScope sNum) .none kV_iN dc_iN pm_iN an_iN cd_iN ct_iN), sl_iN⟩) (c_iN : PySem.W.codeIn K cd_iN "is_number" = true) (k_iN : PySem.W.keepIn K (.ref f_iN) = true)
    (a_iP : PySem.W.nsIn K mainGlobals "is_piece" = some (some (.ref f_iP)))
    (l_iP : K.lookup f_iP = some ⟨oc_iP, od_iP, .func (PySem.W.fnOf "is_piece" "is_piece" (defArgs sPc) (defBody sPc) (defScope sPc) .none kV_iP dc_iP pm_iP an_iP cd_iP ct_iP), sl_iP⟩) (c_iP : PySem.W.codeIn K cd_iP "is_piece" = true) (k_iP : PySem.W.keepIn K (.ref f_iP) = true)
    (a_iS : PySem.W.nsIn K mainGlobals "is_step" = some (some (.ref f_iS)))
    (l_iS : K.lookup f_iS = some ⟨oc_iS, od_iS, .func (PySem.W.fnOf "is_step" "is_step" (defArgs sStep) (defBody sStep) (defScope sStep) .none kV_iS dc_iS pm_iS an_iS cd_iS ct_iS), sl_iS⟩) (c_iS : PySem.W.codeIn K cd_iS "is_step" = true) (k_iS : PySem.W.keepIn K (.ref f_iS) = true)
    (a_iL : PySem.W.nsIn K mainGlobals "listed_standings" = some (some (.ref f_iL)))
    (l_iL : K.lookup f_iL = some ⟨oc_iL, od_iL, .func (PySem.W.fnOf "listed_standings" "listed_standings" (defArgs sListed) (defBody sListed) (defScope sListed) .none kV_iL dc_iL pm_iL an_iL cd_iL ct_iL), sl_iL⟩) (c_iL : PySem.W.codeIn K cd_iL "listed_standings" = true) (k_iL : PySem.W.keepIn K (.ref f_iL) = true)
    (a_iW : PySem.W.nsIn K mainGlobals "ways_from" = some (some (.ref f_iW)))
    (l_iW : K.lookup f_iW = some ⟨oc_iW, od_iW, .func (PySem.W.fnOf "ways_from" "ways_from" (defArgs sWays) (defBody sWays) (defScope sWays) .none kV_iW dc_iW pm_iW an_iW cd_iW ct_iW), sl_iW⟩) (c_iW : PySem.W.codeIn K cd_iW "ways_from" = true) (k_iW : PySem.W.keepIn K (.ref f_iW) = true)
    (a_iJ : PySem.W.nsIn K mainGlobals "is_joined" = some (some (.ref f_iJ)))
    (l_iJ : K.lookup f_iJ = some ⟨oc_iJ, od_iJ, .func (PySem.W.fnOf "is_joined" "is_joined" (defArgs sJoined) (defBody sJoined) (defScope sJoined) .none kV_iJ dc_iJ pm_iJ an_iJ cd_iJ ct_iJ), sl_iJ⟩) (c_iJ : PySem.W.codeIn K cd_iJ "is_joined" = true) (k_iJ : PySem.W.keepIn K (.ref f_iJ) = true)
    (a_iF : PySem.W.nsIn K mainGlobals "need_framing" = some (some (.ref f_iF)))
    (l_iF : K.lookup f_iF = some ⟨oc_iF, od_iF, .func (PySem.W.fnOf "need_framing" "need_framing" (defArgs sNeedF) (defBody sNeedF) (defScope sNeedF) .none kV_iF dc_iF pm_iF an_iF cd_iF ct_iF), sl_iF⟩) (c_iF : PySem.W.codeIn K cd_iF "need_framing" = true) (k_iF : PySem.W.keepIn K (.ref f_iF) = true)
    (a_lB : PySem.W.nsIn K mainGlobals "_law_begun" = some (some (.ref f_lB)))
    (l_lB : K.lookup f_lB = some ⟨oc_lB, od_lB, .func (PySem.W.fnOf "_law_begun" "_law_begun" (defArgs sBegun) (defBody sBegun) (defScope sBegun) .none kV_lB dc_lB pm_lB an_lB cd_lB ct_lB), sl_lB⟩) (c_lB : PySem.W.codeIn K cd_lB "_law_begun" = true) (k_lB : PySem.W.keepIn K (.ref f_lB) = true)
    (a_lN : PySem.W.nsIn K mainGlobals "_law_next" = some (some (.ref f_lN)))
    (l_lN : K.lookup f_lN = some ⟨oc_lN, od_lN, .func (PySem.W.fnOf "_law_next" "_law_next" (defArgs sNext) (defBody sNext) (defScope sNext) .none kV_lN dc_lN pm_lN an_lN cd_lN ct_lN), sl_lN⟩) (c_lN : PySem.W.codeIn K cd_lN "_law_next" = true) (k_lN : PySem.W.keepIn K (.ref f_lN) = true)
    (a_lP : PySem.W.nsIn K mainGlobals "_law_piece" = some (some (.ref f_lP)))
    (l_lP : K.lookup f_lP = some ⟨oc_lP, od_lP, .func (PySem.W.fnOf "_law_piece" "_law_piece" (defArgs sPiece) (defBody sPiece) (defScope sPiece) .none kV_lP dc_lP pm_lP an_lP cd_lP ct_lP), sl_lP⟩) (c_lP : PySem.W.codeIn K cd_lP "_law_piece" = true) (k_lP : PySem.W.keepIn K (.ref f_lP) = true)
    (a_lF : PySem.W.nsIn K mainGlobals "_law_framing" = some (some (.ref f_lF)))
    (l_lF : K.lookup f_lF = some ⟨oc_lF, od_lF, .func (PySem.W.fnOf "_law_framing" "_law_framing" (defArgs sFraming) (defBody sFraming) (defScope sFraming) .none kV_lF dc_lF pm_lF an_lF cd_lF ct_lF), sl_lF⟩) (c_lF : PySem.W.codeIn K cd_lF "_law_framing" = true) (k_lF : PySem.W.keepIn K (.ref f_lF) = true)
    (a_lA : PySem.W.nsIn K mainGlobals "_law_standings" = some (some (.ref f_lA)))
    (l_lA : K.lookup f_lA = some ⟨oc_lA, od_lA, .func (PySem.W.fnOf "_law_standings" "_law_standings" (defArgs sLStandings) (defBody sLStandings) (defScope sLStandings) .none kV_lA dc_lA pm_lA an_lA cd_lA ct_lA), sl_lA⟩) (c_lA : PySem.W.codeIn K cd_lA "_law_standings" = true) (k_lA : PySem.W.keepIn K (.ref f_lA) = true)
    (a_lI : PySem.W.nsIn K mainGlobals "_law_is_whole" = some (some (.ref f_lI)))
    (l_lI : K.lookup f_lI = some ⟨oc_lI, od_lI, .func (PySem.W.fnOf "_law_is_whole" "_law_is_whole" (defArgs sIsW) (defBody sIsW) (defScope sIsW) .none kV_lI dc_lI pm_lI an_lI cd_lI ct_lI), sl_lI⟩) (c_lI : PySem.W.codeIn K cd_lI "_law_is_whole" = true) (k_lI : PySem.W.keepIn K (.ref f_lI) = true)
    (a_lC : PySem.W.nsIn K mainGlobals "_law_is_piece" = some (some (.ref f_lC)))
    (l_lC : K.lookup f_lC = some ⟨oc_lC, od_lC, .func (PySem.W.fnOf "_law_is_piece" "_law_is_piece" (defArgs sLP) (defBody sLP) (defScope sLP) .none kV_lC dc_lC pm_lC an_lC cd_lC ct_lC), sl_lC⟩) (c_lC : PySem.W.codeIn K cd_lC "_law_is_piece" = true) (k_lC : PySem.W.keepIn K (.ref f_lC) = true)
    (a_lS : PySem.W.nsIn K mainGlobals "_law_is_step" = some (some (.ref f_lS)))
    (l_lS : K.lookup f_lS = some ⟨oc_lS, od_lS, .func (PySem.W.fnOf "_law_is_step" "_law_is_step" (defArgs sLS) (defBody sLS) (defScope sLS) .none kV_lS dc_lS pm_lS an_lS cd_lS ct_lS), sl_lS⟩) (c_lS : PySem.W.codeIn K cd_lS "_law_is_step" = true) (k_lS : PySem.W.keepIn K (.ref f_lS) = true)
    (a_lR : PySem.W.nsIn K mainGlobals "_law_all_reached" = some (some (.ref f_lR)))
    (l_lR : K.lookup f_lR = some ⟨oc_lR, od_lR, .func (PySem.W.fnOf "_law_all_reached" "_law_all_reached" (defArgs sReached) (defBody sReached) (defScope sReached) .none kV_lR dc_lR pm_lR an_lR cd_lR ct_lR), sl_lR⟩) (c_lR : PySem.W.codeIn K cd_lR "_law_all_reached" = true) (k_lR : PySem.W.keepIn K (.ref f_lR) = true)
    (a_lU : PySem.W.nsIn K mainGlobals "_law_fault" = some (some (.ref f_lU)))
    (l_lU : K.lookup f_lU = some ⟨oc_lU, od_lU, .func (PySem.W.fnOf "_law_fault" "_law_fault" (defArgs sFault) (defBody sFault) (defScope sFault) .none kV_lU dc_lU pm_lU an_lU cd_lU ct_lU), sl_lU⟩) (c_lU : PySem.W.codeIn K cd_lU "_law_fault" = true) (k_lU : PySem.W.keepIn K (.ref f_lU) = true)
    (a_lO : PySem.W.nsIn K mainGlobals "_law_outcome" = some (some (.ref f_lO)))
    (l_lO : K.lookup f_lO = some ⟨oc_lO, od_lO, .func (PySem.W.fnOf "_law_outcome" "_law_outcome" (defArgs sOutc) (defBody sOutc) (defScope sOutc) .none kV_lO dc_lO pm_lO an_lO cd_lO ct_lO), sl_lO⟩) (c_lO : PySem.W.codeIn K cd_lO "_law_outcome" = true) (k_lO : PySem.W.keepIn K (.ref f_lO) = true)
    (a_lX : PySem.W.nsIn K mainGlobals "_law_spoiled" = some (some (.ref f_lX)))
    (l_lX : K.lookup f_lX = some ⟨oc_lX, od_lX, .func (PySem.W.fnOf "_law_spoiled" "_law_spoiled" (defArgs sSpoil) (defBody sSpoil) (defScope sSpoil) .none kV_lX dc_lX pm_lX an_lX cd_lX ct_lX), sl_lX⟩) (c_lX : PySem.W.codeIn K cd_lX "_law_spoiled" = true) (k_lX : PySem.W.keepIn K (.ref f_lX) = true)
    (a_la : PySem.W.nsIn K mainGlobals "law" = some (some (.ref f_la)))
    (l_la : K.lookup f_la = some ⟨oc_la, od_la, .func (PySem.W.fnOf "law" "law" (defArgs sLaw) (defBody sLaw) (defScope sLaw) .none kV_la dc_la pm_la an_la cd_la ct_la), sl_la⟩) (c_la : PySem.W.codeIn K cd_la "law" = true) (k_la : PySem.W.keepIn K (.ref f_la) = true)
    (aC : PySem.W.nsIn K mainGlobals "BadFraming" = some (some (.ref C)))
    (OXC : OxC K C "ValueError" "ValueError.__new__" "ValueError.__init__" [.type "ValueError", .type "Exception", .type "BaseException", .type "object"])
    (iCC : PySem.W.findIn K (.ref C) "__init__" = some (some (.ref f_ini))) (tIC : PySem.W.typeIn K (.ref f_ini) = some (.type "function"))
    (n0 : PySem.W.findIn K (.ref C) "number" = some none)
    (l_ini : K.lookup f_ini = some ⟨oc_ini, od_ini, .func (PySem.W.fnOf "__init__" "BadFraming.__init__" (defArgs sBadFraming) (defBody sBadFraming) (defScope sBadFraming) .none kV_ini dc_ini pm_ini an_ini cd_ini ct_ini), sl_ini⟩) (c_ini : PySem.W.codeIn K cd_ini "BadFraming.__init__" = true) (k_ini : PySem.W.keepIn K (.ref f_ini) = true)
    (suC : PySem.W.subIn K (.ref C) (.type "BaseException") = some true) (tyC : PySem.W.typeIn K (.ref C) = some (.type "type")) (owC : PySem.W.subIn K (.ref C) (.ref C) = some true)
    (g_vS : PySem.W.nsIn K mainGlobals "SIGNS" = some (some (.str "abcdefghijklmnopqrstuvwxyz0123456789@" t_vS)))
    (g_vM : PySem.W.nsIn K mainGlobals "MOST_SIGNS" = some (some (.int 8 t_vM)))
    (g_vT : PySem.W.nsIn K mainGlobals "MOST_STEPS" = some (some (.int 16 t_vT)))
    (g_vD : PySem.W.nsIn K mainGlobals "MANY_STANDINGS" = some (some (.int 6 t_vD)))
    (z_isinstance : PySem.W.nsIn K mainGlobals "isinstance" = some none)
    (z_int : PySem.W.nsIn K mainGlobals "int" = some none)
    (z_bool : PySem.W.nsIn K mainGlobals "bool" = some none)
    (z_str : PySem.W.nsIn K mainGlobals "str" = some none)
    (z_tuple : PySem.W.nsIn K mainGlobals "tuple" = some none)
    (z_len : PySem.W.nsIn K mainGlobals "len" = some none)
    (z_all : PySem.W.nsIn K mainGlobals "all" = some none)
    (z_sorted : PySem.W.nsIn K mainGlobals "sorted" = some none)
    (z_enumerate : PySem.W.nsIn K mainGlobals "enumerate" = some none)
    (z_list : PySem.W.nsIn K mainGlobals "list" = some none)
    (z_range : PySem.W.nsIn K mainGlobals "range" = some none)
    (z_min : PySem.W.nsIn K mainGlobals "min" = some none)
    (z_set : PySem.W.nsIn K mainGlobals "set" = some none)
    (z_repr : PySem.W.nsIn K mainGlobals "repr" = some none)
    (z_ValueError : PySem.W.nsIn K mainGlobals "ValueError" = some none)
    (v_V : PySem.W.findCls K (.type "ValueError") (.type "type") "__init__" = some (.val (.builtin "ValueError.__init__"))) :
    ∃ fd : FuncData, (∀ (s : Shared) (u : Value), BindsTo s fd ⟨[u], []⟩ [("script", u)]) ∧ ∀ base : Heap, K.In base → base.Ns mainGlobals mg → FnG P w K mg base CX0 5 fa fd ["script"] (spLaw K) := by
  have e := hfa.symm.trans (PySem.W.mg_of X G a_la)
  cases e
  have F_iN := fun_mk (st := sNum) l_iN c_iN k_iN
  have b_iN := F_iN.binds (ps := ["thing", "many"]) fun _ _ _ _ _ _ us hl => match us, hl with | [_, _], _ => rfl
  have m_iN := PySem.W.mg_of X G a_iN
  have F_iP := fun_mk (st := sPc) l_iP c_iP k_iP
  have b_iP := F_iP.binds (ps := ["thing"]) fun _ _ _ _ _ _ us hl => match us, hl with | [_], _ => rfl
  have m_iP := PySem.W.mg_of X G a_iP
  have F_iS := fun_mk (st := sStep) l_iS c_iS k_iS
  have b_iS := F_iS.binds (ps := ["thing"]) fun _ _ _ _ _ _ us hl => match us, hl with | [_], _ => rfl
  have m_iS := PySem.W.mg_of X G a_iS
  have F_iL := fun_mk (st := sListed) l_iL c_iL k_iL
  have b_iL := F_iL.binds (ps := ["framing"]) fun _ _ _ _ _ _ us hl => match us, hl with | [_], _ => rfl
  have m_iL := PySem.W.mg_of X G a_iL
  have F_iW := fun_mk (st := sWays) l_iW c_iW k_iW
  have b_iW := F_iW.binds (ps := ["framing", "begin"]) fun _ _ _ _ _ _ us hl => match us, hl with | [_, _], _ => rfl
  have m_iW := PySem.W.mg_of X G a_iW
  have F_iJ := fun_mk (st := sJoined) l_iJ c_iJ k_iJ
  have b_iJ := F_iJ.binds (ps := ["framing"]) fun _ _ _ _ _ _ us hl => match us, hl with | [_], _ => rfl
  have m_iJ := PySem.W.mg_of X G a_iJ
  have F_iF := fun_mk (st := sNeedF) l_iF c_iF k_iF
  have b_iF := F_iF.binds (ps := ["thing"]) fun _ _ _ _ _ _ us hl => match us, hl with | [_], _ => rfl
  have m_iF := PySem.W.mg_of X G a_iF
  have F_lB := fun_mk (st := sBegun) l_lB c_lB k_lB
  have b_lB := F_lB.binds (ps := ["script"]) fun _ _ _ _ _ _ us hl => match us, hl with | [_], _ => rfl
  have m_lB := PySem.W.mg_of X G a_lB
  have F_lN := fun_mk (st := sNext) l_lN c_lN k_lN
  have b_lN := F_lN.binds (ps := ["m", "many"]) fun _ _ _ _ _ _ us hl => match us, hl with | [_, _], _ => rfl
  have m_lN := PySem.W.mg_of X G a_lN
  have F_lP := fun_mk (st := sPiece) l_lP c_lP k_lP
  have b_lP := F_lP.binds (ps := ["m", "is_end"]) fun _ _ _ _ _ _ us hl => match us, hl with | [_, _], _ => rfl
  have m_lP := PySem.W.mg_of X G a_lP
  have F_lF := fun_mk (st := sFraming) l_lF c_lF k_lF
  have b_lF := F_lF.binds (ps := ["m", "most"]) fun _ _ _ _ _ _ us hl => match us, hl with | [_, _], _ => rfl
  have m_lF := PySem.W.mg_of X G a_lF
  have F_lA := fun_mk (st := sLStandings) l_lA c_lA k_lA
  have b_lA := F_lA.binds (ps := ["framing"]) fun _ _ _ _ _ _ us hl => match us, hl with | [_], _ => rfl
  have m_lA := PySem.W.mg_of X G a_lA
  have F_lI := fun_mk (st := sIsW) l_lI c_lI k_lI
  have b_lI := F_lI.binds (ps := ["thing", "least", "most"]) fun _ _ _ _ _ _ us hl => match us, hl with | [_, _, _], _ => rfl
  have m_lI := PySem.W.mg_of X G a_lI
  have F_lC := fun_mk (st := sLP) l_lC c_lC k_lC
  have b_lC := F_lC.binds (ps := ["thing"]) fun _ _ _ _ _ _ us hl => match us, hl with | [_], _ => rfl
  have m_lC := PySem.W.mg_of X G a_lC
  have F_lS := fun_mk (st := sLS) l_lS c_lS k_lS
  have b_lS := F_lS.binds (ps := ["thing"]) fun _ _ _ _ _ _ us hl => match us, hl with | [_], _ => rfl
  have m_lS := PySem.W.mg_of X G a_lS
  have F_lR := fun_mk (st := sReached) l_lR c_lR k_lR
  have b_lR := F_lR.binds (ps := ["pairs", "begin"]) fun _ _ _ _ _ _ us hl => match us, hl with | [_, _], _ => rfl
  have m_lR := PySem.W.mg_of X G a_lR
  have F_lU := fun_mk (st := sFault) l_lU c_lU k_lU
  have b_lU := F_lU.binds (ps := ["thing"]) fun _ _ _ _ _ _ us hl => match us, hl with | [_], _ => rfl
  have m_lU := PySem.W.mg_of X G a_lU
  have F_lO := fun_mk (st := sOutc) l_lO c_lO k_lO
  have b_lO := F_lO.binds (ps := ["thing"]) fun _ _ _ _ _ _ us hl => match us, hl with | [_], _ => rfl
  have m_lO := PySem.W.mg_of X G a_lO
  have F_lX := fun_mk (st := sSpoil) l_lX c_lX k_lX
  have b_lX := F_lX.binds (ps := ["m", "framing"]) fun _ _ _ _ _ _ us hl => match us, hl with | [_, _], _ => rfl
  have m_lX := PySem.W.mg_of X G a_lX
  have F_la := fun_mk (st := sLaw) l_la c_la k_la
  have b_la := F_la.binds (ps := ["script"]) fun _ _ _ _ _ _ us hl => match us, hl with | [_], _ => rfl
  have m_la := PySem.W.mg_of X G a_la
  have F_ini := fun_mk (st := sBadFraming) l_ini c_ini k_ini
  have b_ini := F_ini.binds (ps := ["self", "number"]) fun _ _ _ _ _ _ us hl => match us, hl with | [_, _], _ => rfl
  have y_isinstance := PySem.W.mg_none_of X G z_isinstance
  have y_int := PySem.W.mg_none_of X G z_int
  have y_bool := PySem.W.mg_none_of X G z_bool
  have y_str := PySem.W.mg_none_of X G z_str
  have y_tuple := PySem.W.mg_none_of X G z_tuple
  have y_len := PySem.W.mg_none_of X G z_len
  have y_all := PySem.W.mg_none_of X G z_all
  have y_sorted := PySem.W.mg_none_of X G z_sorted
  have y_enumerate := PySem.W.mg_none_of X G z_enumerate
  have y_list := PySem.W.mg_none_of X G z_list
  have y_range := PySem.W.mg_none_of X G z_range
  have y_min := PySem.W.mg_none_of X G z_min
  have y_set := PySem.W.mg_none_of X G z_set
  have y_repr := PySem.W.mg_none_of X G z_repr
  have y_ValueError := PySem.W.mg_none_of X G z_ValueError
  have x_vS := PySem.W.mg_of X G g_vS
  have x_vM := PySem.W.mg_of X G g_vM
  have x_vT := PySem.W.mg_of X G g_vT
  have x_vD := PySem.W.mg_of X G g_vD
  have TF : TxtF mg := ⟨y_isinstance, y_int, y_bool, y_str, y_tuple, y_len, y_all, ⟨_, x_vS⟩, ⟨_, x_vM⟩, ⟨_, x_vD⟩⟩
  have TD : TxtD mg := ⟨y_list, y_int, y_len⟩
  have IV : BI K mg "ValueError" "ValueError" "ValueError.__init__" := ⟨y_ValueError, by decide +kernel, by kernel_rfl, v_V, by decide +kernel⟩
  let zO : Bfr K mg := { C := C, f := f_ini, d := _, T := OXC, I := IV, F := F_ini, b := b_ini, m := PySem.W.mg_of X G aC, iC := iCC, tI := tIC, n0 := n0, su := suC, ty := tyC, own := owC }
  let zF : Fs K mg := { B := zO, fN := f_iN, dN := _, N := F_iN, bN := b_iN, mN := m_iN, fP := f_iP, dP := _, P := F_iP, bP := b_iP, mP := m_iP, fS := f_iS, dS := _, S := F_iS, bS := b_iS, mS := m_iS, fL := f_iL, dL := _, L := F_iL, bL := b_iL, mL := m_iL, fW := f_iW, dW := _, W := F_iW, bW := b_iW, mW := m_iW, fJ := f_iJ, dJ := _, J := F_iJ, bJ := b_iJ, mJ := m_iJ, fF := f_iF, dF := _, F := F_iF, bF := b_iF, mF := m_iF, T := TF, so := y_sorted, en := y_enumerate, ms := ⟨_, x_vT⟩ }
  let zI : Li K mg := { T := TF, f1 := f_lI, d1 := _, F1 := F_lI, b1 := b_lI, m1 := m_lI, f2 := f_lC, d2 := _, F2 := F_lC, b2 := b_lC, m2 := m_lC, f3 := f_lS, d3 := _, F3 := F_lS, b3 := b_lS, m3 := m_lS }
  let zJ : Lj K mg := { so := y_sorted, se := y_set, ra := y_range, le := y_len, f1 := f_lA, d1 := _, F1 := F_lA, b1 := b_lA, m1 := m_lA, f2 := f_lR, d2 := _, F2 := F_lR, b2 := b_lR, m2 := m_lR }
  let zK : Lk K mg := { I := zI, J := zJ, en := y_enumerate, f := f_lU, d := _, F := F_lU, b := b_lU, m := m_lU }
  let zP : Lo K mg := { Z := zF, re := y_repr, f := f_lO, d := _, F := F_lO, b := b_lO, m := m_lO }
  let zL : Ls K mg := { f1 := f_lN, d1 := _, N := F_lN, bN := b_lN, mN := m_lN, T := TD, ra := y_range, f2 := f_lP, d2 := _, P := F_lP, bP := b_lP, mP := m_lP }
  let zG : Lf K mg := { L := zL, f := f_lF, d := _, F := F_lF, b := b_lF, g := m_lF, so := y_sorted, tu := y_tuple, se := y_set }
  let zB : Lb K mg := { G := zG, f := f_lX, d := _, F := F_lX, b := b_lX, m := m_lX }
  let zA : Lall K mg := { S := zB, O := zP, W := zK, fB := f_lB, dB := _, Be := F_lB, bB := b_lB, mB := m_lB, mi := y_min }
  exact ⟨PySem.W.fnOf "law" "law" (defArgs sLaw) (defBody sLaw) (defScope sLaw) .none kV_la dc_la pm_la an_la cd_la ct_la, fun s u => .of_eq rfl, fun base _ _ => ok_law zA F_la⟩
theorem walk {l : PySem.W.OpenLaw} {q : Program} {loose : List Str} {XP : (Str → Option Value) → Heap → Prop} {YP : World → Heap → Prop} {d : DefRec} {K : Params → PySem.W.Frag} (hn : l.most = some 63) (hdf : d.params.defaults = [])
    (hY : ∀ (w : World) (h : Heap), YP w h → (K w.params).In h)
    (F : ∀ (w : World) (mg : Str → Option Value) (fa : Addr) (h : Heap), (K w.params).In h → h.Ns mainGlobals mg → mg d.name = some (.ref fa) →
      ∃ fd : FuncData, (∀ (s : Shared) (u : Value), BindsTo s fd ⟨[u], []⟩ [("script", u)]) ∧ ∀ base : Heap, (K w.params).In base → base.Ns mainGlobals mg → FnG l.prog w (K w.params) mg base CX0 5 fa fd ["script"] (spLaw (K w.params))) :
    PySem.W.WalkO q loose XP YP l.row.toRowW d [] (fun f vs => PySem.call f vs) :=
  walk_ofG (n := 63) (k := 5) (x := "script") (sp := spLaw) hn (by decide) hdf ⟨rfl, by decide, by decide⟩ hY F (fun _ _ a ns hl _ hS => ⟨a, ns, rfl, hS, hl, fun _ => rfl⟩)
end K02

set_option Elab.async false
set_option maxRecDepth 100000
open PySem PySem.W PyProof.Rows
set_option maxRecDepth 100000 in
set_option maxHeartbeats 0 in
theorem PySem.Challenge.cw_tornlines_k02_whole_faults_of_framings_holds : PySem.Challenge.rw_tornlines_k02_whole_faults_of_framings.Holds := by
  w_on; o_law; k_head; (case hw => w_witness2)
  k_fill
  refine K02.walk (l := PySem.Challenge.rw_tornlines_k02_whole_faults_of_framings) rfl rfl (fun w h Y => by first | exact PySem.W.kIn_of Y | exact PySem.W.km_in_of Y) ?F
  case F =>
    intro w mg fa h KX G hmg
    refine' K02.all_mk KX G hmg ?a_iN ?l_iN ?c_iN ?k_iN ?a_iP ?l_iP ?c_iP ?k_iP ?a_iS ?l_iS ?c_iS ?k_iS ?a_iL ?l_iL ?c_iL ?k_iL ?a_iW ?l_iW ?c_iW ?k_iW ?a_iJ ?l_iJ ?c_iJ ?k_iJ ?a_iF ?l_iF ?c_iF ?k_iF ?a_lB ?l_lB ?c_lB ?k_lB ?a_lN ?l_lN ?c_lN ?k_lN ?a_lP ?l_lP ?c_lP ?k_lP ?a_lF ?l_lF ?c_lF ?k_lF ?a_lA ?l_lA ?c_lA ?k_lA ?a_lI ?l_lI ?c_lI ?k_lI ?a_lC ?l_lC ?c_lC ?k_lC ?a_lS ?l_lS ?c_lS ?k_lS ?a_lR ?l_lR ?c_lR ?k_lR ?a_lU ?l_lU ?c_lU ?k_lU ?a_lO ?l_lO ?c_lO ?k_lO ?a_lX ?l_lX ?c_lX ?k_lX ?a_la ?l_la ?c_la ?k_la ?aC ?OXC ?iCC ?tIC ?n0 ?l_ini ?c_ini ?k_ini ?suC ?tyC ?owC ?g_vS ?g_vM ?g_vT ?g_vD ?z_isinstance ?z_int ?z_bool ?z_str ?z_tuple ?z_len ?z_all ?z_sorted ?z_enumerate ?z_list ?z_range ?z_min ?z_set ?z_repr ?z_ValueError ?v_V
    (case a_iN => k_is)
    (case l_iN => k_is)
    (case c_iN => k_is)
    (case k_iN => k_is)
    (case a_iP => k_is)
    (case l_iP => k_is)
    (case c_iP => k_is)
    (case k_iP => k_is)
    (case a_iS => k_is)
    (case l_iS => k_is)
    (case c_iS => k_is)
    (case k_iS => k_is)
    (case a_iL => k_is)
    (case l_iL => k_is)
    (case c_iL => k_is)
    (case k_iL => k_is)
    (case a_iW => k_is)
    (case l_iW => k_is)
    (case c_iW => k_is)
    (case k_iW => k_is)
    (case a_iJ => k_is)
    (case l_iJ => k_is)
    (case c_iJ => k_is)
    (case k_iJ => k_is)
    (case a_iF => k_is)
    (case l_iF => k_is)
    (case c_iF => k_is)
    (case k_iF => k_is)
    (case a_lB => k_is)
    (case l_lB => k_is)
    (case c_lB => k_is)
    (case k_lB => k_is)
    (case a_lN => k_is)
    (case l_lN => k_is)
    (case c_lN => k_is)
    (case k_lN => k_is)
    (case a_lP => k_is)
    (case l_lP => k_is)
    (case c_lP => k_is)
    (case k_lP => k_is)
    (case a_lF => k_is)
    (case l_lF => k_is)
    (case c_lF => k_is)
    (case k_lF => k_is)
    (case a_lA => k_is)
    (case l_lA => k_is)
    (case c_lA => k_is)
    (case k_lA => k_is)
    (case a_lI => k_is)
    (case l_lI => k_is)
    (case c_lI => k_is)
    (case k_lI => k_is)
    (case a_lC => k_is)
    (case l_lC => k_is)
    (case c_lC => k_is)
    (case k_lC => k_is)
    (case a_lS => k_is)
    (case l_lS => k_is)
    (case c_lS => k_is)
    (case k_lS => k_is)
    (case a_lR => k_is)
    (case l_lR => k_is)
    (case c_lR => k_is)
    (case k_lR => k_is)
    (case a_lU => k_is)
    (case l_lU => k_is)
    (case c_lU => k_is)
    (case k_lU => k_is)
    (case a_lO => k_is)
    (case l_lO => k_is)
    (case c_lO => k_is)
    (case k_lO => k_is)
    (case a_lX => k_is)
    (case l_lX => k_is)
    (case c_lX => k_is)
    (case k_lX => k_is)
    (case a_la => k_is)
    (case l_la => k_is)
    (case c_la => k_is)
    (case k_la => k_is)
    (case aC => k_is)
    case OXC =>
      refine' K02.oxc ?cl PySem.F.excBase_ValueError (fun self => PySem.F.store_ValueError.passes self) (by decide +kernel) ?sa ?ga ?gg ?exC ?kC ?hd ?ca ?cn ?ct ?om
      (case cl => k_is)
      (case sa => k_is)
      (case ga => k_is)
      (case gg => k_is)
      (case exC => k_is)
      (case kC => k_is)
      (case hd => k_is)
      (case ca => k_is)
      (case cn => k_is)
      (case ct => k_is)
      (case om => k_is)
    (case iCC => k_is)
    (case tIC => k_is)
    (case n0 => k_is)
    (case l_ini => k_is)
    (case c_ini => k_is)
    (case k_ini => k_is)
    (case suC => k_is)
    (case tyC => k_is)
    (case owC => k_is)
    (case g_vS => k_is)
    (case g_vM => k_is)
    (case g_vT => k_is)
    (case g_vD => k_is)
    (case z_isinstance => k_is)
    (case z_int => k_is)
    (case z_bool => k_is)
    (case z_str => k_is)
    (case z_tuple => k_is)
    (case z_len => k_is)
    (case z_all => k_is)
    (case z_sorted => k_is)
    (case z_enumerate => k_is)
    (case z_list => k_is)
    (case z_range => k_is)
    (case z_min => k_is)
    (case z_set => k_is)
    (case z_repr => k_is)
    (case z_ValueError => k_is)
    (case v_V => k_is)
#print axioms PySem.Challenge.cw_tornlines_k02_whole_faults_of_framings_holds
