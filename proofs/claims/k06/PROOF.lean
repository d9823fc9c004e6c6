import PyProof.Rows.All
import Wide.All
import OpenK.AllK
import Wide.FinOn
import KE.KExcInit
import KE.KExcIs
import HandS.ForMost
import HandS.Exc
import HandS.ExcInit
import HandS.Defaults
import HandS.IsInst
import HandS.Conv
import HandS.Small
import HandS.SortRule
import HandS.TupLe
import HandS.NamedTupSort
import PyProof.Rows.SortKeyStr
import PyProof.FString5
import HandS.StrMore
import HandS.Walk
import PyProof.Rows.StrLen
import PyProof.StrLawsAffix
import HandS.Set
import HandS.Strs
import HandS.SetBool
import KE.GoesMore
import HandS.TupAny
import HandS.TryMany
import HandS.ExcValue
import HandS.ExcOwn
import HandS.WordsExc
import HandS.ExcField
import HandS.ExcIs
import HandS.DeepEq
import PyProof.ReprRoads
import PySem.Challenge.RW_tornlines_k06_whole_faults_of_readers
set_option Elab.async false
set_option linter.all false
set_option maxRecDepth 100000
set_option maxHeartbeats 4000000
/-! Own exception classes over any built-in base: made with positional or keyword arguments, kept as values, their fields read, asked by isinstance. -/
namespace EV
open PySem PySem.W PySem.Calls PyProof.Rows PySem.HandSPX
open Builtin Builtin.ObjectAttr
section
variable {prog : Program} {w : World} {A : Around} {E : Value → Shared → Prop} {R : Result → Shared → Prop}
variable {hp : Heap} {g : Array GenState} {d : Drawn} {t : Nat} {os : OsState}
/-- an exception's first field, whatever its base -/
theorem put_first {K : W.Frag} {nm : Str} {tk : Tok} {v : Value} {x C : Addr} {fv : Array Value} {cd : ClassData}
    (X : K.In hp) (hx : hp.get? x = some { cls := .ref C, data := .fields fv }) (hcd : W.clsIn K C = some cd)
    (pas : refuseLoop (.ref x) "__setattr__" cd.mro = pure ()) (hob : cd.mro.contains (.type "object") = true) (hne : cd.mro.isEmpty = false)
    (hh : cd.hasDict = true) (ha : W.findIn K (.ref C) nm = some none)
    (hq : ∀ h' tk' dx, (∀ b o, b ≠ x → hp.get? b = some o → h'.get? b = some o) → hp.objs.size ≤ dx → dx ≠ x →
      h'.get? x = some { cls := .ref C, dict := some dx, data := .fields fv } → h'.Ns1 dx (fun y => if y = nm then some v else none) →
      R (.ok (.ret .none)) ⟨h', g, d, tk', os⟩) :
    codeAny (model prog w) A (.call (.builtin "object.__setattr__") ⟨[.ref x, .str nm tk, v], []⟩) R ⟨hp, g, d, t, os⟩ := by
  have J : W.InstAt hp x { cls := .ref C, data := .fields fv } C none := ⟨hx, rfl, rfl, trivial⟩
  have hxs : x ≠ hp.objs.size := Nat.ne_of_lt (Heap.lt_size hx)
  have isO : W.Looks (model prog w) hp (isInstance (.ref x) (.type "object")) true :=
    J.type.andThen (W.looks_mroIn X (by unfold W.mroIn; rw [hcd, Option.bind_some, if_neg (by rw [hne]; decide), hob]))
  refine codeAny_call_builtin F.store_object.slot.plain F.store_object.entry
    (@W.check_slot (model prog w) _ _ ⟨hp, g, d, t, os⟩ "object.__setattr__" "object" "__setattr__" (.ref x) [.str nm tk, v] [] _
      F.store_object.kind F.store_object.split isO (F.store_object.args (.ref x) (.str nm tk) v) ?_)
  have order : W.Looks (model prog w) hp (mroOf (.ref C)) cd.mro := (W.looks_clsIn X hcd).andThen .now
  have taker : W.Looks (model prog w) hp (storeTaker? none) none := .now
  have data : W.Looks (model prog w) hp (classData C) cd := W.looks_clsIn X hcd
  rw [W.osa_eq, refuse_eq]
  refine wpAny_bind (wpAny_bind (J.type.at (wpAny_bind (order.at ?_))))
  rw [pas]
  refine wpAny_pure (wpAny_bind (J.type.at (wpAny_bind ((W.looks_findIn X ha).at (wpAny_bind (taker.at ?_))))))
  show wpAny _ _ (storeInOwnDict (.ref x) (.ref C) (.str nm tk) nm v false) _ _ _
  obtain ⟨q1, q2, q3, q4, q5, q6, q7, q8, q9, q10, q11⟩ := cd
  dsimp only at hh
  subst hh
  unfold storeInOwnDict ownDictForStores
  repeat (first
    | with_reducible refine store_in_new ?_ ?_
    | with_reducible refine wpAny_loadPart_at hx ?_
    | with_reducible refine data.at ?_
    | wp_step)
  · exact ⟨_, #[], _, (Heap.get?_update_ne _ _ _ _ hxs.symm).trans (Heap.get?_push_at rfl rfl), rfl, fun e he => absurd he (by simp), fun _ => rfl⟩
  · intro h' tk' nsd same
    have hx1 : (hp.push { cls := .type "dict", data := .dict #[] }).get? x = some { cls := .ref C, data := .fields fv } := Heap.get?_push_of_some _ hx
    refine hq h' tk' hp.objs.size (fun b o nb q => ?_) (Nat.le_refl _) hxs.symm ?_ nsd
    · exact (same.2 b (Nat.ne_of_lt (Heap.lt_size q))).trans
        ((Heap.get?_update_ne _ _ _ _ nb).trans (Heap.get?_push_of_some _ q))
    · exact (same.2 x hxs).trans (Heap.get?_update_self _ hx1 rfl)
/-- a further field -/
theorem put_more {K : W.Frag} {nm : Str} {tk : Tok} {v : Value} {x C dx : Addr} {fv : Array Value} {cd : ClassData} {m0 : Str → Option Value} {nl : List Str}
    (X : K.In hp) (hx : hp.get? x = some { cls := .ref C, dict := some dx, data := .fields fv }) (nsd : hp.Ns1 dx m0) (wi : Within m0 nl) (hz : nl.length ≤ 1000)
    (hcd : W.clsIn K C = some cd) (pas : refuseLoop (.ref x) "__setattr__" cd.mro = pure ()) (hob : cd.mro.contains (.type "object") = true)
    (hne : cd.mro.isEmpty = false) (hh : cd.hasDict = true) (ha : W.findIn K (.ref C) nm = some none)
    (hq : ∀ h' tk', (∀ b o, b ≠ dx → hp.get? b = some o → h'.get? b = some o) → h'.Ns1 dx (fun y => if y = nm then some v else m0 y) →
      R (.ok (.ret .none)) ⟨h', g, d, tk', os⟩) :
    codeAny (model prog w) A (.call (.builtin "object.__setattr__") ⟨[.ref x, .str nm tk, v], []⟩) R ⟨hp, g, d, t, os⟩ := by
  obtain ⟨oD, _, _, hoD, _, _⟩ := nsd.count wi
  have J : W.InstAt hp x { cls := .ref C, dict := some dx, data := .fields fv } C (some oD) := ⟨hx, rfl, rfl, hoD⟩
  have isO : W.Looks (model prog w) hp (isInstance (.ref x) (.type "object")) true :=
    J.type.andThen (W.looks_mroIn X (by unfold W.mroIn; rw [hcd, Option.bind_some, if_neg (by rw [hne]; decide), hob]))
  refine codeAny_call_builtin F.store_object.slot.plain F.store_object.entry
    (@W.check_slot (model prog w) _ _ ⟨hp, g, d, t, os⟩ "object.__setattr__" "object" "__setattr__" (.ref x) [.str nm tk, v] [] _
      F.store_object.kind F.store_object.split isO (F.store_object.args (.ref x) (.str nm tk) v) ?_)
  have order : W.Looks (model prog w) hp (mroOf (.ref C)) cd.mro := (W.looks_clsIn X hcd).andThen .now
  have taker : W.Looks (model prog w) hp (storeTaker? none) none := .now
  have data : W.Looks (model prog w) hp (classData C) cd := W.looks_clsIn X hcd
  rw [W.osa_eq, refuse_eq]
  refine wpAny_bind (wpAny_bind (J.type.at (wpAny_bind (order.at ?_))))
  rw [pas]
  refine wpAny_pure (wpAny_bind (J.type.at (wpAny_bind ((W.looks_findIn X ha).at (wpAny_bind (taker.at ?_))))))
  show wpAny _ _ (storeInOwnDict (.ref x) (.ref C) (.str nm tk) nm v false) _ _ _
  obtain ⟨q1, q2, q3, q4, q5, q6, q7, q8, q9, q10, q11⟩ := cd
  dsimp only at hh
  subst hh
  unfold storeInOwnDict ownDictForStores
  repeat (first
    | with_reducible refine OEX.store_in_old nsd wi hz ?_
    | with_reducible refine wpAny_loadPart_at hx ?_
    | with_reducible refine data.at ?_
    | wp_step)
  intro h' tk' ns' same
  exact hq h' tk' (fun b o nb q => (same.2 b nb).trans q) ns'
end
/-! ### an own exception class called with keywords -/
section
variable {M : Model} {A : Around} {E : Value → Shared → Prop} {h : Heap} {g : Array GenState} {d : Drawn} {t : Nat} {os : OsState}
variable {nm q : Str} {C N : Addr} {bs bm : List Value} {hd : Bool} {sn : List Str} {sub : List Value} {ab : Bool} {col : Option Bool} {dd : Option Addr}
variable {k0 k1 k2 k3 k5 : Option Value} {B newId initId : String}
theorem check_newK (F : ExcBaseFacts B newId initId bm) {rest : List Value} {kw : List (Str × Value)} {Q : Unit → Shared → Prop}
    (hC : h.get? C = some (excClassObj nm q C N bs bm hd sn sub ab col dd k0 k1 k2 k3 k5 newId)) (hq : Q () ⟨h, g, d, t, os⟩) :
    wpAny M A (checkBuiltinCall newId ⟨.ref C :: rest, kw⟩) Q E ⟨h, g, d, t, os⟩ := by
  have hasIt : (Value.ref C :: bm).contains (.type B) = true := by rw [List.contains_cons, F.hasB, Bool.or_true]
  have star := F.noStar
  simp only [checkBuiltinCall, F.newKind, F.newSplit, F.newRow]
  repeat (first
    | refine wpAny_loadPart_at hC ?_
    | (refine wpAny_isSubtype_exc hC ?_; rw [hasIt])
    | refine wpAny_staticBase_exc hC ?_
    | refine wpAny_madeBy_exc hC ?_
    | simp only [bne_self_eq_false, Bool.false_eq_true, if_false]
    | wp_step)
  exact hq
end
section
variable {prog : Program} {w : World} {A : Around} {E : Value → Shared → Prop} {R : Result → Shared → Prop}
variable {h : Heap} {g : Array GenState} {d : Drawn} {t : Nat} {os : OsState}
variable {nm q : Str} {C N : Addr} {bs bm : List Value} {hd : Bool} {sn : List Str} {sub : List Value} {ab : Bool} {col : Option Bool} {dd : Option Addr}
variable {k0 k1 k2 k3 k5 : Option Value} {B newId initId : String}
theorem newK (F : ExcBaseFacts B newId initId bm) {rest : List Value} {kw : List (Str × Value)}
    (hC : h.get? C = some (excClassObj nm q C N bs bm hd sn sub ab col dd k0 k1 k2 k3 k5 newId))
    (hq : R (.ok (.ret (.ref (h.objs.size + 1)))) ⟨(h.push (W.kdv_tup rest)).push (excO C h.objs.size), g, d, t, os⟩) (hrest : rest.length ≤ sizeLine) :
    codeAny (model prog w) A (.builtin newId ⟨.ref C :: rest, kw⟩) R ⟨h, g, d, t, os⟩ := by
  have ends := F.ends
  have b1 : (Value.ref C :: bm).contains (.type B) = true := by rw [List.contains_cons, F.hasB, Bool.or_true]
  have b2 : (Value.ref C :: bm).contains (.type "AttributeError") = false := by rw [List.contains_cons, F.noAttr]; rfl
  have b3 : (Value.ref C :: bm).contains (.type "NameError") = false := by rw [List.contains_cons, F.noName]; rfl
  refine codeAny_builtinAt F.entry ?_
  unfold Builtin.«BaseException.__new__»
  refine PySem.wpAt_bind ?_
  show PySem.wpAt _ _ _ (stack >>= _) _ _ _
  refine PySem.wpAt_bind (PySem.wpAt_stack fun p below => PySem.wpAt_of_wpAny ?_)
  wp_walk
  refine PySem.wpAt_of_wpAny ?_
  rw [F.owner]
  repeat (first
    | with_reducible refine wpAny_madeHere_exc F.canon hC ?_
    | with_reducible refine wpAny_loadPart_at hC ?_
    | (with_reducible refine wpAny_isSubtype_exc hC ?_; first | rw [b1] | rw [b2] | rw [b3])
    | wp_step)
  show R _ _
  rw [Heap.size_push]
  exact hq
theorem typeCallK (F : ExcBaseFacts B newId initId bm) {rest : List Value} {kw : List (Str × Value)} {fI : Addr} {Q : Fin → Shared → Prop}
    (hC : h.get? C = some (excClassObj nm q C N bs bm hd sn sub ab col dd k0 k1 k2 k3 k5 newId))
    (hi : W.Looks (model prog w) h (typeLookup (.ref C) "__init__") (some (.ref fI)))
    (hb : ∀ self, W.Looks (model prog w) h (bindSpecial (.ref fI) self) (.ref fI, [self])) (hrest : rest.length ≤ sizeLine)
    (hq : codeAny (model prog w) A (.call (.ref fI) ⟨.ref (h.objs.size + 1) :: rest, kw⟩)
      (fun r s' => match r with | .ok (.ret v) => v = .none ∧ Q (.done (.ret (.ref (h.objs.size + 1)))) s' | .ok _ => False | .error e => E e s')
      ⟨(h.push (W.kdv_tup rest)).push (excO C h.objs.size), g, d, t, os⟩) :
    wpAny (model prog w) A (Builtin.«type.__call__» ⟨.ref C :: rest, kw⟩) Q E ⟨h, g, d, t, os⟩ := by
  repeat (first
    | with_reducible refine wpAny_loadPart_at hC ?_
    | with_reducible refine wpAny_madeBy_exc hC ?_
    | wp_step)
  refine codeAny_call_builtin_code (Code.quiet_builtin _ F.quiet) (check_newK F hC ?_)
  refine newK F hC ?_ hrest
  show wpAny _ _ _ _ _ _
  have kp : ∀ b o, h.get? b = some o → ((h.push (W.kdv_tup rest)).push (excO C h.objs.size)).get? b = some o :=
    fun b o e => Heap.get?_push_of_some _ (Heap.get?_push_of_some _ e)
  have hC1 := kp _ _ hC
  have new : ((h.push (W.kdv_tup rest)).push (excO C h.objs.size)).get? (h.objs.size + 1) = some (excO C h.objs.size) := by heap_get
  have self : (Value.ref C :: bm).contains (.ref C) = true := by simp
  have i1 := hi.keeps kp
  have b1 := (hb (.ref (h.objs.size + 1))).keeps kp
  unfold isInstance
  repeat (first
    | with_reducible refine wpAny_loadPart_at new ?_
    | (with_reducible refine wpAny_isSubtype_exc hC1 ?_; rw [self])
    | wp_step)
  show wpAny _ _ (typeLookup (.ref C) _) _ _ _
  refine i1.at ?_
  refine wpAny_holding (wpAny_bind (b1.at ?_))
  refine wpAny_bind (wpAny_call (codeAny_mono hq fun r s' z => ?_))
  rcases r with e | (v | _ | _ | _) <;> first | exact z | exact z.elim | skip
  obtain ⟨rfl, z⟩ := z
  first
    | exact wpAny_pure (wpAny_pure z)
    | (wp_walk; exact z)
theorem callK (F : ExcBaseFacts B newId initId bm) {rest : List Value} {kw : List (Str × Value)} {fI : Addr}
    (hC : h.get? C = some (excClassObj nm q C N bs bm hd sn sub ab col dd k0 k1 k2 k3 k5 newId))
    (hi : W.Looks (model prog w) h (typeLookup (.ref C) "__init__") (some (.ref fI)))
    (hb : ∀ self, W.Looks (model prog w) h (bindSpecial (.ref fI) self) (.ref fI, [self])) (hrest : rest.length ≤ sizeLine)
    (hq : codeAny (model prog w) (A.under (.builtin "type.__call__" ⟨.ref C :: rest, kw⟩)) (.call (.ref fI) ⟨.ref (h.objs.size + 1) :: rest, kw⟩)
      (W.InitBack (h.objs.size + 1) R) ⟨(h.push (W.kdv_tup rest)).push (excO C h.objs.size), g, d, t, os⟩) :
    codeAny (model prog w) A (.call (.ref C) ⟨rest, kw⟩) R ⟨h, g, d, t, os⟩ := by
  have f1 := tc_lookup
  have f2 := tc_bind (.ref C)
  have ty : (⟨h, g, d, t, os⟩ : Shared).TypeIs (.ref C) "type" := ⟨_, hC, rfl⟩
  refine codeAny_of_tree ?_
  show wpAny _ _ (callAny (.ref C) _) _ _ _
  repeat (any_goals (first
    | assumption
    | with_reducible refine wpAny_loadPart_at hC ?_
    | wp_step))
  refine ⟨rfl, ?_⟩
  refine codeAny_call_builtin_at (Code.quiet_builtin _ (by decide +kernel)) entry_typeCall ?_
  refine wpAny_check_type_call_sub hC ?_
  refine typeCallK F hC hi hb hrest (codeAny_mono hq fun r s' z => ?_)
  rcases r with e | (v | _ | _ | _) <;> exact z
end
end EV
namespace L2
namespace EV
open PySem PySem.Spec PyProof.Rows _root_.EV
/-- what the written part says of an own exception class at C, straight under the built-in base B -/
structure OxC (K : PySem.W.Frag) (C : Addr) (B newId initId : String) (bm : List Value) : Prop where
  F : ExcBaseFacts B newId initId bm
  cls : ∃ nm q N bs sn sub ab col dd k0 k1 k2 k3 k5, K.lookup C = some (excClassObj nm q C N bs bm true sn sub ab col dd k0 k1 k2 k3 k5 newId)
  pas : ∀ self, refuseLoop self "__setattr__" bm = pure ()
  obj : bm.contains (.type "object") = true
  sa : PySem.W.findIn K (.ref C) "__setattr__" = some (some (.builtin "object.__setattr__"))
  ga : PySem.W.findIn K (.ref C) "__getattribute__" = some (some (.builtin "BaseException.__getattribute__"))
  gg : PySem.W.findIn K (.ref C) "__getattr__" = some none
  exC : PySem.W.subIn K (.ref C) (.type "BaseException") = some true
  kC : PySem.W.keepIn K (.ref C) = true
  hd : PySem.W.hasDictIn K C = true
  ca : PySem.W.findIn K (.ref C) "__class__" = some (some (.builtin "object.__class__"))
  cn : PySem.W.specialIn K (.builtin "object.__class__") "__get__" = some (some (.builtin "getset_descriptor.__get__"))
  ct : PySem.W.takesIn K (.builtin "object.__class__") = some true
  om : PySem.W.mroIn K C (.type "object") = some true
section
variable {X : Cx} {pins : List (Addr × Obj)} {σ : St} {H : Hp} {s : Shared} {a C dx : Addr} {f : Str} {y : V} {u : Value} {fs : List (Str × V)}
variable {Q : Unit → Shared → Prop} {E : Value → Shared → Prop} {A : Around} {B newId initId : String} {bm : List Value}
theorem OxC.data {K : PySem.W.Frag} (T : OxC K C B newId initId bm) : ∃ cd, PySem.W.clsIn K C = some cd ∧ cd.mro = .ref C :: bm ∧ cd.hasDict = true := by
  obtain ⟨nm, q, N, bs, sn, sub, ab, col, dd, k0, k1, k2, k3, k5, hC⟩ := T.cls
  refine ⟨{ name := nm, bases := bs, mro := .ref C :: bm, ns := N, qualname := q, hasDict := true, slotNames := sn, subclasses := sub, abstract := ab, collection := col, hasDel := false }, ?_, rfl, rfl⟩
  unfold PySem.W.clsIn
  rw [hC] <;> rfl
theorem OxC.look {K : PySem.W.Frag} (T : OxC K C B newId initId bm) {cd : ClassData} (e : cd.mro = .ref C :: bm) (self : Value) :
    refuseLoop self "__setattr__" cd.mro = pure () ∧ cd.mro.contains (.type "object") = true ∧ cd.mro.isEmpty = false := by
  rw [e, refuseLoop_ref]
  refine ⟨T.pas self, ?_, rfl⟩
  rw [List.contains_cons, T.obj, Bool.or_true]
/-- self.f = y, the first field -/
theorem ox_first (T : OxC X.K C B newId initId bm) (I : Inv X pins σ H s) (e : H a = some (exo a C none)) (no : PySem.W.findIn X.K (.ref C) f = some none) (ry : RelV y u)
    (h : ∀ dx s', H dx = none → dx ≠ a → Inv X pins σ (upd (upd H dx (exd dx [(f, y)])) a (exo a C (some dx))) s' → Q () s') :
    wpAny (model X.prog X.w) A (setAttr (.ref a) f u) Q E s := by
  obtain ⟨cd, hcl, hmr, hdi⟩ := T.data
  obtain ⟨l1, l2, l3⟩ := T.look hmr (.ref a)
  obtain ⟨t1, ho⟩ := exo_at I.hok e
  obtain ⟨hp, g, d, t, os⟩ := s
  refine PySem.W.set_plain I.kIn (ox := { cls := .ref C, dict := none, data := .fields #[.ref t1, .none, .none, .none, .bool false, .none] })
    (od := none) ⟨ho, rfl, rfl, trivial⟩ T.sa ?_
  refine put_first I.kIn ho hcl l1 l2 l3 hdi no fun h' tk' dx k big ne hx hn => ?_
  have free : H dx = none := I.hok.fresh big
  have old : ∀ {b : Addr} {o : Obj}, hp.get? b = some o → b ≠ dx := fun {b o} q => Nat.ne_of_lt (Nat.lt_of_lt_of_le (Heap.lt_size q) big)
  have nota : ∀ {b : Addr}, H b = none → b ≠ a := fun {b} n z => by
    subst z
    rw [e] at n
    cases n
  have un : Un X.fs [] H (upd (upd H dx (exd dx [(f, y)])) a (exo a C (some dx))) hp h' := by
    refine ⟨fun b o q n _ _ => k b o (nota n) q, fun b o q n _ _ => ⟨o.slots, k b o (nota n) q⟩, fun b o q n _ => ?_, fun b o q _ => ?_, fun b xs q => ?_, fun b o v q => ?_, fun b ps q => ⟨#[], ?_⟩⟩
    · rw [upd_ne (nota n), upd_ne (old q)]
      exact n
    · by_cases hb : b = a
      · subst hb
        exact ⟨_, hx⟩
      · exact ⟨o, k b o hb q⟩
    · rw [upd_ne (at_ne e q exo_tup), upd_ne (ne_of_none q free)]
      exact q
    · rw [upd_ne (at_ne e q exo_frz), upd_ne (ne_of_none q free)]
      exact q
    · rw [upd_ne (at_ne e q exo_tbl), upd_ne (ne_of_none q free), q]
      simp
  refine h dx _ free ne (I.un (t' := tk') un fun b o q => ?_)
  by_cases hb : b = a
  · subst hb
    rw [upd_same] at q
    cases q
    exact exo_ok hx
  · rw [upd_ne hb] at q
    by_cases hd : b = dx
    · subst hd
      rw [upd_same] at q
      cases q
      exact exd_ok hn (relO_put (fs := []) ry fun g => True.intro)
    · rw [upd_ne hd] at q
      refine (I.hok b o q).stay (fun c v hc z => k c v ?_ z) (fun c hc => ?_) fun c xs hc => ?_
      · rcases hc with hc | hc
        · subst hc
          exact hb
        · exact at_ne e hc exo_own
      · rw [upd_ne (at_ne e hc exo_own), upd_ne (ne_of_none hc free)]
        exact hc
      · rw [upd_ne (at_ne e hc exo_tup), upd_ne (ne_of_none hc free)]
        exact hc
/-- self.f = y, a further field -/
theorem ox_more (T : OxC X.K C B newId initId bm) (I : Inv X pins σ H s) (e : H a = some (exo a C (some dx))) (ed : H dx = some (exd dx fs)) (hl : fs.length ≤ 900)
    (no : PySem.W.findIn X.K (.ref C) f = some none) (ry : RelV y u) (h : ∀ s', Inv X pins σ (upd H dx (exd dx ((f, y) :: fs))) s' → Q () s') :
    wpAny (model X.prog X.w) A (setAttr (.ref a) f u) Q E s := by
  obtain ⟨cd, hcl, hmr, hdi⟩ := T.data
  obtain ⟨l1, l2, l3⟩ := T.look hmr (.ref a)
  obtain ⟨t1, ho⟩ := exo_at I.hok e
  obtain ⟨mA, hns, rel⟩ := exd_at I.hok ed
  have hw := within_of rel
  obtain ⟨hp, g, d, t, os⟩ := s
  obtain ⟨oD, _, _, hoD, _, _⟩ := hns.count hw
  refine PySem.W.set_plain I.kIn (ox := { cls := .ref C, dict := some dx, data := .fields #[.ref t1, .none, .none, .none, .bool false, .none] })
    (od := some oD) ⟨ho, rfl, rfl, hoD⟩ T.sa ?_
  refine put_more I.kIn ho hns hw (by rw [List.length_map]; omega) hcl l1 l2 l3 hdi no fun h' tk' k hn => ?_
  have there : ∃ o, h'.get? dx = some o := by
    obtain ⟨o, _, _, e', _⟩ := hn
    exact ⟨o, e'⟩
  refine h _ (I.write (t' := tk') (x := dx) (e := dx) (o := exd dx ((f, y) :: fs)) ?_ (.inl rfl) k there (exd_ok hn (relO_put ry rel)))
  rw [ed]
  exact True.intro
/-- B.__init__(self, ..) of an exception without fields: nothing of it is told -/
theorem ox_init {us : List Value} {Q : Value → Shared → Prop} (T : OxC X.K C B newId initId bm) (I : Inv X pins σ H s) (e : H a = some (exo a C none)) (hl : us.length ≤ sizeLine)
    (h : ∀ s', Inv X pins σ H s' → Q .none s') : wpAny (model X.prog X.w) A (call (.builtin initId) (.ref a :: us)) Q E s := by
  obtain ⟨nm, q, N, bs, sn, sub, ab, col, dd, k0, k1, k2, k3, k5, hC⟩ := T.cls
  obtain ⟨t1, ho⟩ := exo_at I.hok e
  obtain ⟨hp, g, d, t, os⟩ := s
  refine wpAny_call (PySem.HandSPX.init_base T.F (fun _ => rfl) (I.kIn _ _ hC) ho hl fun h' t2 k hx => ?_)
  have J := I.write (t' := t) (x := a) (e := a) (o := exo a C none) (by rw [e]; exact True.intro) (.inl rfl) k ⟨_, hx⟩ (exo_ok hx)
  have eu : upd H a (exo a C none) = H := by
    funext b
    by_cases hb : b = a
    · subst hb
      rw [upd_same, e]
    · rw [upd_ne hb]
  rw [eu] at J
  exact h _ J
end
/-! ### the readings -/
def tBin (K : PySem.W.Frag) (B newId initId : String) (bm : List Value) (ta : TA) : TE := fun σ H Q => ta σ H fun vs H1 =>
  ∃ (a C : Addr) (ws : List V), vs = .ref a :: ws ∧ ws.length ≤ 1000 ∧ OxC K C B newId initId bm ∧ H1 a = some (exo a C none) ∧ Q .non H1
def tPut (K : PySem.W.Frag) (B newId initId : String) (bm : List Value) (f : Str) (to te : TE) : TS := fun D σ H => te σ H fun y H1 => to σ H1 fun x H2 =>
  ∃ a C : Addr, x = .ref a ∧ OxC K C B newId initId bm ∧ PySem.W.findIn K (.ref C) f = some none ∧
    ((H2 a = some (exo a C none) ∧ ∀ dx, H2 dx = none → dx ≠ a → D.nx σ (upd (upd H2 dx (exd dx [(f, y)])) a (exo a C (some dx)))) ∨
      ∃ (dx : Addr) (fs : List (Str × V)), H2 a = some (exo a C (some dx)) ∧ H2 dx = some (exd dx fs) ∧ fs.length ≤ 900 ∧ D.nx σ (upd H2 dx (exd dx ((f, y) :: fs))))
/-- C(..) as a value: gV puts the exception itself, the values by position and those by name in the parameters' order -/
def tNew (C : Addr) (n m : Nat) (sp : Sp) (gV : List V → List V → List V) (t tk : TA) : TE := fun σ H Q => t σ H fun vs H1 => tk σ H1 fun zs H2 =>
  vs.length = n ∧ zs.length = m ∧ vs.length ≤ 1000 ∧ ∀ a, H2 a = none → sp (gV (.ref a :: vs) zs) (upd H2 a (exo a C none)) (fun v H3 => v = .non ∧ Q (.ref a) H3) (fun _ _ _ => False)
/-- e.f, e such an exception -/
def tFld (K : PySem.W.Frag) (f : Str) (te : TE) : TE := fun σ H Q => te σ H fun x H1 =>
  ∃ (a C dx : Addr) (B newId initId : String) (bm : List Value) (fs : List (Str × V)) (v : V), x = .ref a ∧ OxC K C B newId initId bm ∧ PySem.W.findIn K (.ref C) f = some none ∧
    H1 a = some (exo a C (some dx)) ∧ H1 dx = some (exd dx fs) ∧ fs.lookup f = some v ∧ Q v H1
/-- isinstance(e, c) -/
def rIsX (K : PySem.W.Frag) : List V → Hp → VK → Prop := fun xs H Q => ∃ (a C : Addr) (od : Option Addr) (fs : List (Str × V)) (B newId initId : String) (bm : List Value) (c : V) (u : Value) (b : Bool),
  xs = [.ref a, c] ∧ ClsV c u ∧ OxC K C B newId initId bm ∧ H a = some (exo a C od) ∧ (∀ dx, od = some dx → H dx = some (exd dx fs)) ∧ PySem.W.kitOne K (.ref C) u = some b ∧ Q (.bl b) H
section
variable {X : Cx} {o e : Expr} {es : List Expr} {to te : TE} {ta : TA} {f : Str} {p p' p1 p2 pos : Pos} {B newId initId : String} {bm : List Value}
theorem pe_bin {nB : Str} {pl : Sem Bool} (hg : Gl X nB) (hm : X.mg nB = none) (hv : bootBuiltins nB = some (.type B)) (ty : typeOf (.type B) = pure (.type "type"))
    (vV : PySem.W.findCls X.K (.type B) (.type "type") "__init__" = some (.val (.builtin initId))) (q4 : Manifest.isStub B = false) (ha : PA X (e :: es) ta) (q3 : PySem.W.handedIn (.builtin initId) = true)
    (hn1 : nB ≠ "__name__" := by decide) (hn2 : (nB == ("__debug__" : Str)) = false := by decide)
    (hc : eval (.Call (.Attribute (.Name nB p1) "__init__" p2) (e :: es) [] pos) X.env = (do
      let ov ← eval (.Name nB p1) X.env
      standAt p2.atName
      let (f, first) ← holding [ov] (getMethod ov "__init__" pl)
      callWith pos f first (backTo pos (starEach (e :: es) X.env)) (backToKw pos (keywordEach [] X.env))) := by rfl)
    (he : starEach (e :: es) X.env = (false, eval e X.env) :: starEach es X.env := by rfl) (hpl : (backTo pos (starEach es X.env)).any (·.1) = false := by rfl) :
    PE X (.Call (.Attribute (.Name nB p1) "__init__" p2) (e :: es) [] pos) (tBin X.K B newId initId bm ta) := by
  refine ⟨fun pins s σ H Q I h => ?_⟩
  refine PySem.W.methodCall_KW (ld_blt I hg hm hv ?_ hn1 hn2) hc
  obtain ⟨m, fr⟩ := I.fr
  refine PySem.W.method_type fr I.ok.mod.kin ty q4 vV q3 ?_
  show wpAny _ _ (callWith pos (Value.builtin initId) [] (backTo pos (starEach (e :: es) X.env)) []) _ _ _
  refine PyProof.Rows.callWith_method1 (thn (ha.run pos pins _ σ H _ (I.tok _) h) fun us s1 ⟨vs, H1, I1, r1, a, C, ws, ev, hl, T, ea, q⟩ => ?_) he hpl
  subst ev
  cases r1 with
  | @cons _ u0 _ ur ra rr =>
    obtain rfl : u0 = Value.ref a := ra
    have len : ur.length ≤ sizeLine := by
      have e1 := Paired.length rr
      rw [← e1, sizeLine_eq]
      omega
    exact ox_init T I1 ea len fun s' J => ⟨.non, H1, J, rfl, q⟩
/-- self.f = e -/
theorem ps_put (ho : PE X o to) (he : PE X e te) (hs : swapsWith e (some (.Attribute o f p')) pos.line X.env = pure false := by rfl) :
    PS X (.Assign [.Attribute o f p'] e pos) (tPut X.K B newId initId bm f to te) := by
  refine ⟨fun pins s σ H D I h => ?_⟩
  refine plainObj_wpAny_Assign_Attribute (thn (he.run pins s σ H _ I h) fun v s1 ⟨y, H1, I1, r1, q1⟩ => ?_) hs
  refine thn (ho.run pins s1 σ H1 _ I1 q1) fun u s2 ⟨x, H2, I2, r2, a, C, ex, T, no, q⟩ => ?_
  subst ex
  obtain rfl : u = Value.ref a := r2
  rcases q with ⟨ea, q⟩ | ⟨dx, fs, ea, ed, hl, q⟩
  · exact ox_first T I2 ea no r1 fun dx s' n ne J => ⟨σ, _, J, q dx n ne⟩
  · exact ox_more T I2 ea ed hl no r1 fun s' J => ⟨σ, _, J, q⟩
/-- e.f -/
theorem pe_xfld (he : PE X e te) (hb : attributeBase e f X.env (eval e X.env) = eval e X.env := by rfl) : PE X (.Attribute e f pos) (tFld X.K f te) := by
  refine ⟨fun pins s σ H Q I h => ?_⟩
  refine attr_of hb (thn (he.run pins s σ H _ I h) fun u s1 ⟨x, H1, I1, rx, a, C, dx, B, newId, initId, bm, fs, v, ex, T, no, ea, ed, l, q⟩ => ?_)
  subst ex
  obtain rfl : u = Value.ref a := rx
  obtain ⟨t1, ho⟩ := exo_at I1.hok ea
  obtain ⟨mA, hns, hr⟩ := exd_at I1.hok ed
  obtain ⟨od, hod, hl⟩ := lookIn_ns hns
  obtain ⟨u, hu, ru⟩ := RelO.some_of (v := v) (o := mA f) (by rw [← l]; exact hr f)
  have J : PySem.W.InstAt s1.heap a { cls := .ref C, dict := some dx, data := .fields #[.ref t1, .none, .none, .none, .bool false, .none] } C (some od) := ⟨ho, rfl, rfl, hod⟩
  exact HandSPX.exc_get I1.kIn J T.ga T.gg T.exC (PySem.W.findObj_own T.hd no rfl (by rw [hl, hu])) (handed_of ru) ⟨v, H1, I1.tok _, ru, q⟩
theorem call_isX : CallR X (.builtin "isinstance") (rIsX X.K) := by
  intro pins s σ H xs us Q I r h
  obtain ⟨a, C, od, fs, B, newId, initId, bm, c, u, b, rfl, k, T, ea, ed, e, q⟩ := h
  obtain ⟨u1, u2, rfl, r1, r2⟩ := vals2 r
  have e2 := k.eq r2
  subst e2
  obtain rfl : u1 = Value.ref a := r1
  obtain ⟨t1, ho⟩ := exo_at I.hok ea
  obtain ⟨cd, hcl, _⟩ := T.data
  have some_ : (PySem.W.clsIn X.K C).isSome = true := by rw [hcl]; rfl
  have fin : ∀ tk, EP X pins σ Q (.bool b) { s with toks := tk } := fun tk => ⟨.bl b, H, I.tok tk, rfl, q⟩
  cases od with
  | none =>
    have J : PySem.W.InstAt s.heap a { cls := .ref C, dict := none, data := .fields #[.ref t1, .none, .none, .none, .bool false, .none] } C none := ⟨ho, rfl, rfl, trivial⟩
    exact PySem.W.kia_one (PySem.W.kitx_exc some_ T.ga T.gg T.exC T.ca T.cn T.ct T.om) I.kIn J e (fun z => nomatch z) fin
  | some dx =>
    obtain ⟨mA, hns, hr⟩ := exd_at I.hok (ed dx rfl)
    obtain ⟨o', hod, hl⟩ := lookIn_ns hns
    have J : PySem.W.InstAt s.heap a { cls := .ref C, dict := some dx, data := .fields #[.ref t1, .none, .none, .none, .bool false, .none] } C (some o') := ⟨ho, rfl, rfl, hod⟩
    exact PySem.W.kia_one (PySem.W.kitx_exc some_ T.ga T.gg T.exC T.ca T.cn T.ct T.om) I.kIn J e (fun z => nomatch z) fin
end
/-! ### making one, kept as a value -/
section
variable {X : Cx} {CX : CXT} {k n : Nat} {fI C : Addr} {fd : FuncData} {ps ks : List Str} {sp : Sp} {x : Str} {p pos : Pos} {e : Expr} {es : List Expr} {kws : List Keyword}
variable {t tk : TA} {g : List Value → List Value → List Value} {gV : List V → List V → List V} {B newId initId : String} {bm : List Value}
theorem run_new {pins : List (Addr × Obj)} {σ : St} {H : Hp} {s : Shared} {Q : VK} {us ws : List Value} {vs zs : List V} (T : OxC X.K C B newId initId bm)
    (iC : PySem.W.findIn X.K (.ref C) "__init__" = some (some (.ref fI))) (tI : PySem.W.typeIn X.K (.ref fI) = some (.type "function"))
    (F : FnOk X.prog X.w X.K X.mg X.base CX k fI fd ps sp) (hr : Room (k + 1) X.A) (hb : KBn X.K fd ps (n + 1) ks g gV) (hx : Passes CX X (fun _ _ _ => False))
    (I : Inv X pins σ H s) (r : Vals vs us) (rz : Vals zs ws) (l1 : vs.length = n) (l2 : zs.length = ks.length) (l3 : vs.length ≤ 1000)
    (h : ∀ a, H a = none → sp (gV (.ref a :: vs) zs) (upd H a (exo a C none)) (fun v H3 => v = .non ∧ Q (.ref a) H3) (fun _ _ _ => False)) :
    wpAny (model X.prog X.w) X.A (call (.ref C) us (ks.zip ws)) (EP X pins σ Q) X.xe s := by
  obtain ⟨nm, q, N, bs, sn, sub, ab, col, dd, k0, k1, k2, k3, k5, hC⟩ := T.cls
  obtain ⟨hp, g1, dr, tk, os⟩ := s
  have big : hp.objs.size ≤ hp.objs.size + 1 := Nat.le_succ _
  have free : H (hp.objs.size + 1) = none := I.hok.fresh big
  have hq := h (hp.objs.size + 1) free
  have kp : ∀ b o, hp.get? b = some o → ((hp.push (PySem.W.kdv_tup us)).push (PySem.HandSPX.excO C hp.objs.size)).get? b = some o := fun b o e =>
    Heap.get?_push_of_some _ (Heap.get?_push_of_some _ e)
  have new : ((hp.push (PySem.W.kdv_tup us)).push (PySem.HandSPX.excO C hp.objs.size)).get? (hp.objs.size + 1) = some (PySem.HandSPX.excO C hp.objs.size) := by heap_get
  have I2 : Inv X pins σ (upd H (hp.objs.size + 1) (exo (hp.objs.size + 1) C none))
      ⟨(hp.push (PySem.W.kdv_tup us)).push (PySem.HandSPX.excO C hp.objs.size), g1, dr, tk, os⟩ :=
    I.laid (t' := tk) (a := hp.objs.size + 1) (o := exo (hp.objs.size + 1) C none) (h' := (hp.push (PySem.W.kdv_tup us)).push (PySem.HandSPX.excO C hp.objs.size)) kp big (exo_ok new)
  have ra : Vals (V.ref (hp.objs.size + 1) :: vs) (Value.ref (hp.objs.size + 1) :: us) := .cons rfl r
  have lu : us.length ≤ sizeLine := by
    have e1 := Paired.length r
    rw [← e1, sizeLine_eq]
    omega
  have n1 : (Value.ref (hp.objs.size + 1) :: us).length = n + 1 := by
    rw [List.length_cons, ← r.length, l1]
  refine wpAny_call (EV.callK T.F (I.kIn _ _ hC) (PySem.W.looks_findIn I.kIn iC) (fun self => PySem.W.bind_fn I.kIn self tI) lu
    (codeAny_mono (F.run _ X.stack _ _ ⟨Value.ref (hp.objs.size + 1) :: us, ks.zip ws⟩ (g (Value.ref (hp.objs.size + 1) :: us) ws) _ _ (fun _ _ _ => False)
      (hr.make C us (ks.zip ws)) (I2.env0.make C us (ks.zip ws)) (hb.to _ _ ws I2.kIn n1 (rz.length.symm.trans l2)) (hb.rel ra rz) hq) fun r s' hq' => ?_))
  cases r with
  | error er => exact hx pins σ _ _ er s' I2 hq'
  | ok fl =>
    cases fl with
    | ret u =>
      obtain ⟨v, H3, I3, rv, ev, q3⟩ := I2.after hq'
      subst ev
      exact ⟨rv, ⟨V.ref (hp.objs.size + 1), H3, I3, rfl, q3⟩⟩
    | next => exact False.elim hq'
    | brk => exact False.elim hq'
    | cont => exact False.elim hq'
/-- C(e, ..) -/
theorem pe_new (T : OxC X.K C B newId initId bm) (iC : PySem.W.findIn X.K (.ref C) "__init__" = some (some (.ref fI))) (tI : PySem.W.typeIn X.K (.ref fI) = some (.type "function"))
    (F : FnOk X.prog X.w X.K X.mg X.base CX k fI fd ps sp) (hr : Room (k + 1) X.A) (hb : KBn X.K fd ps (n + 1) [] g gV) (hx : Passes CX X (fun _ _ _ => False))
    (hg : Gl X x) (hm : X.mg x = some (.ref C)) (ha : PA X (e :: es) t) (hdb : (x == ("__debug__" : Str)) = false := by decide)
    (he : starEach (e :: es) X.env = (false, eval e X.env) :: starEach es X.env := by rfl) (hpl : (backTo pos (starEach es X.env)).any (·.1) = false := by rfl) :
    PE X (.Call (.Name x p) (e :: es) [] pos) (tNew C n 0 sp gV t tNil) := by
  refine ⟨fun pins s σ H Q I h => ?_⟩
  refine wpAny_Call_Name_kw (ld_glob I hg hm ?_ hdb)
  refine PySem.W.callWith_K (h₀ := X.base) I.ok.mod.kin T.kC (thn (ha.run pos pins s σ H _ I h) fun us s1 ⟨vs, H1, I1, r1, q1⟩ => ⟨I1.kIn, ?_⟩) he hpl
  obtain ⟨l1, _, l3, q2⟩ := q1
  exact run_new (ws := []) (zs := []) T iC tI F hr hb hx I1 r1 .nil l1 rfl l3 q2
/-- C(k = v, ..) -/
theorem pe_newK (T : OxC X.K C B newId initId bm) (iC : PySem.W.findIn X.K (.ref C) "__init__" = some (some (.ref fI))) (tI : PySem.W.typeIn X.K (.ref fI) = some (.type "function"))
    (F : FnOk X.prog X.w X.K X.mg X.base CX k fI fd ps sp) (hr : Room (k + 1) X.A) (hb : KBn X.K fd ps 1 ks g gV) (hx : Passes CX X (fun _ _ _ => False))
    (hg : Gl X x) (hm : X.mg x = some (.ref C)) (hkw : PK X kws tk) (hall : (backToKw pos (keywordEach kws X.env)).all (·.1.isSome) = true := by rfl)
    (hks : (backToKw pos (keywordEach kws X.env)).filterMap (·.1) = ks := by rfl) (hdb : (x == ("__debug__" : Str)) = false := by decide)
    (hpl : ((backTo pos (starEach [] X.env)).any (·.1) || (backToKw pos (keywordEach kws X.env)).any (·.1.isNone)) = false := by rfl) :
    PE X (.Call (.Name x p) [] kws pos) (tNew C 0 ks.length sp gV tNil tk) := by
  refine ⟨fun pins s σ H Q I h => ?_⟩
  refine wpAny_Call_Name_kw (ld_glob I hg hm ?_ hdb)
  refine PySem.W.callWith_KW0 (h₀ := X.base) I.ok.mod.kin T.kC hall ?_ hpl
  refine thn (hkw.run pos pins s σ H _ I h) fun ws s2 ⟨zs, H2, I2, rz, l1, l2, l3, q2⟩ => ⟨I2.kIn, ?_⟩
  rw [hks]
  exact run_new (us := []) (vs := []) T iC tI F hr hb hx I2 .nil rz rfl l2 (by decide) q2
end
end EV
end L2
/-! Defs that show values by repr: a promise that is kept where no repr runs yet. -/
namespace L2
namespace EV
open PySem PySem.Spec PyProof.Rows _root_.EV
/-- FnOk, where no repr runs yet -/
structure FnG (P : Program) (w : World) (K : PySem.W.Frag) (mg : Str → Option Value) (base : Heap) (CX : CXT) (k : Nat) (f : Addr) (fd : FuncData) (ps : List Str) (sp : Sp) : Prop where
  len : ∀ vs H Q E, sp vs H Q E → vs.length = ps.length
  run : ∀ (A : Around) (outer : List Env) (s : Shared) (H : Hp) (args : Args) (us : List Value) (vs : List V) (Q : VK) (E : XK), Room k A → A.guards = some [] →
    Env0 P w K mg base A outer s H → BindsTo s fd args (ps.zip us) → Vals vs us → sp vs H Q E → codeAny (model P w) A (.call (.ref f) args) (CR CX outer P w H s Q E) s
section
variable {P : Program} {w : World} {K : PySem.W.Frag} {mg : Str → Option Value} {base : Heap}
theorem okG {x qual : Str} {st : Stmt} {f : Addr} {fd : FuncData} {N ps : List Str} {k : Nat} {sp : Sp} (F : Fun K x qual st f fd) (S : FnScope N ps (defScope st))
    (len : ∀ vs H Q E, sp vs H Q E → vs.length = ps.length)
    (hbody : ∀ (cdv : Value) (A : Around) (outer : List Env) (s : Shared) (H : Hp) (vs : List V) (Q : VK) (E : XK), Room k (A.deeper (envOfC qual (defScope st) s.heap.objs.size f cdv)) →
      A.guards = some [] → sp vs H Q E →
      ∃ t, PSs (cxOf CX0 P w K mg base N qual (defScope st) f cdv A outer s H E).nox (defBody st) t ∧ t { nx := fun _ H' => Q .non H', rt := Q } (start N vs) H) :
    FnG P w K mg base CX0 (k + 1) f fd ps sp := by
  obtain ⟨oc, od, kV, doc, pm, an, cdv, ct, osl, rfl, lk, hcd⟩ := F.ex
  refine ⟨len, fun A outer s H args us vs Q E hr hgd e0 hb r hsp => ?_⟩
  have hl := len _ _ _ _ hsp
  have keptB : ∀ b o, base.get? b = some o → s.heap.get? b = some o := fun b o e => (e0.bs b o e).1
  have KX : K.In s.heap := e0.mod.kin.keeps keptB
  have lim : s.heap.NoLimit := e0.mod.nolimit.keeps keptB
  have kinds : ∀ y ∈ ps.zip us, (defScope st).names.lookup y.1 = some .local ∨
      ((defScope st).names.lookup y.1 = some .cell ∧ ((cellsFrom (s.heap.objs.size + 1) (defScope st).names []).lookup y.1).isSome = true) := fun ⟨n, v⟩ hy =>
    (S.par n (List.of_mem_zip hy).1).elim .inl fun q => .inr ⟨q, PySem.W.cellsFrom_some _ _ _ (.inl q)⟩
  refine codeAny_call_function hr.depth (KX _ _ lk) rfl S.co S.gen rfl (PySem.W.codeRec_of KX hcd) (hb _ _ _ _ ?_)
  refine wpAny_newFunctionEnv_cells S.kind kinds fun env he s1 x => ?_
  subst he
  refine ⟨lim.keeps x.toInCall.keep, codeAny_func ?_⟩
  obtain ⟨t, ht0, hq⟩ := hbody cdv A outer s H vs Q E (hr.deeper _) hgd hsp
  have ht := ht0.nox
  have I : Inv (cxOf CX0 P w K mg base N qual (defScope st) f cdv A outer s H E) [] (start N vs) H s1 := inv_start S hr.hd e0 hl r x
  refine wpAny_mono (ht.run [] s1 (start N vs) H _ I hq) (fun fl s' hs => ?_) fun e s' hs => hs
  cases fl with
  | ret u =>
    obtain ⟨v, σ', H', J, rv, q⟩ := hs
    exact ⟨v, H', J.os, J.bare, J.base, J.hok, rv, q⟩
  | next =>
    obtain ⟨σ', H', J, q⟩ := hs
    exact ⟨V.non, H', J.os, J.bare, J.base, J.hok, rfl, q⟩
  | brk =>
    obtain ⟨_, _, _, q⟩ := hs
    exact False.elim q
  | cont =>
    obtain ⟨_, _, _, q⟩ := hs
    exact False.elim q
end
section
variable {X : Cx} {CX : CXT} {k : Nat} {f : Addr} {fd : FuncData} {ps : List Str} {sp : Sp} {x : Str} {p pos : Pos} {e : Expr} {es : List Expr} {t : TA} {E : XK}
/-- f(e, ..) of such a def -/
theorem pe_callG (F : FnG X.prog X.w X.K X.mg X.base CX k f fd ps sp) (hr : Room k X.A) (hgd : X.A.guards = some []) (hg : Gl X x) (hm : X.mg x = some (.ref f))
    (hk : PySem.W.keepIn X.K (.ref f) = true) (hb : Binds X.K fd ps []) (hx : Passes CX X E) (ha : PA X (e :: es) t) (hdb : (x == ("__debug__" : Str)) = false := by decide)
    (he : starEach (e :: es) X.env = (false, eval e X.env) :: starEach es X.env := by rfl) (hpl : (backTo pos (starEach es X.env)).any (·.1) = false := by rfl) :
    PE X (.Call (.Name x p) (e :: es) [] pos) (fun σ H Q => t σ H fun vs H1 => sp vs H1 Q E) := by
  refine ⟨fun pins s σ H Q I h => ?_⟩
  refine wpAny_Call_Name_kw (ld_glob I hg hm ?_ hdb)
  refine PySem.W.callWith_K (h₀ := X.base) I.ok.mod.kin hk (thn (ha.run pos pins s σ H _ I h) fun us s1 ⟨vs, H1, I1, r, q⟩ => ⟨I1.kIn, ?_⟩) he hpl
  have hl : us.length = ps.length := by
    rw [← r.length]
    exact F.len _ _ _ _ q
  have bn := hb s1 us I1.kIn (by rw [List.append_nil]; exact hl)
  rw [List.append_nil] at bn
  refine wpAny_call (codeAny_mono (F.run X.A X.stack s1 H1 ⟨us, []⟩ us vs Q E hr hgd I1.env0 bn r q) fun r2 s2 hq => ?_)
  cases r2 with
  | error er => exact hx pins σ H1 s1 er s2 I1 hq
  | ok fl =>
    cases fl with
    | ret u => exact I1.after hq
    | next => exact False.elim hq
    | brk => exact False.elim hq
    | cont => exact False.elim hq
end
/-- the law's own call, of a promise that is kept where no repr runs -/
theorem law_callG {P : Program} {w : World} {K : PySem.W.Frag} {mg mb : Str → Option Value} {k : Nat} {fa a : Addr} {fd : FuncData} {x : Str} {sp : Sp} {s1 : Shared} {vs : List Value} {ns : List Int}
    (KX : K.In s1.heap) (hns : s1.heap.Ns mainGlobals mg) (hb : s1.heap.Ns builtinsNs mb) (hbb : ∀ x : Str, x ≠ "__name__" → mb x = bootBuiltins x) (hlim : s1.heap.NoLimit) (hg : s1.gens = #[])
    (ha : s1.heap.get? a = some { cls := .type "list", data := .seq vs.toArray }) (hi : IntsAre vs ns) (hl : ns.length ≤ sizeLine) (hr : Room k callerA)
    (F : ∀ base : Heap, K.In base → base.Ns mainGlobals mg → FnG P w K mg base CX0 k fa fd [x] sp) (hbind : ∀ (s : Shared) (u : Value), BindsTo s fd ⟨[u], []⟩ [(x, u)])
    (hsp : ∀ H : Hp, Only H → SqL K H a (ns.map V.int) → sp [.ref a] H (fun v _ => v = .bl true) fun _ _ _ => False) :
    codeAny (model P w) callerA (.call (.ref fa) ⟨[.ref a], []⟩) (fun r s' => r = .ok (.ret (.bool true)) ∧ OldK s1.heap s'.heap ∧ s'.os = s1.os ∧ AllBare s'.gens) s1 := by
  have rv := vals_ints hi
  have lenV := hi.length
  have core : ∀ H : Hp, Only H → SqL K H a (ns.map V.int) → HOk P w H s1.heap → (∀ b, H b ≠ none → b = a) → (H a ≠ none → K.lookup a = none) →
      codeAny (model P w) callerA (.call (.ref fa) ⟨[.ref a], []⟩) (fun r s' => r = .ok (.ret (.bool true)) ∧ OldK s1.heap s'.heap ∧ s'.os = s1.os ∧ AllBare s'.gens) s1 := by
    intro H hO hS hok onlyA notK
    have noDict : ∀ {b : Addr} {o : Obj} {es : Array DictEntry} {ep : Nat}, s1.heap.get? b = some o → o.data = .dict es ep → H b = none := fun {b o es ep} e d => by
      cases q : H b with
      | none => rfl
      | some u =>
        obtain rfl : b = a := onlyA b (by rw [q]; simp)
        rw [ha] at e
        cases e
        exact nomatch (show Data.seq vs.toArray _ = Data.dict es ep from d)
    have nsK : ∀ {b : Addr} {m : Str → Option Value}, s1.heap.Ns b m → (hidT s1.heap H).Ns b m := fun {b m} ⟨o, es, ep, e, d, r⟩ => ⟨o, es, ep, hidT_get e (noDict e d), d, r⟩
    have kin : K.In (hidT s1.heap H) := fun b o e => hidT_get (KX b o e) (by
      cases q : H b with
      | none => rfl
      | some u =>
        obtain rfl : b = a := onlyA b (by rw [q]; simp)
        rw [notK (by rw [q]; simp)] at e
        cases e)
    obtain ⟨mc, c1, c2⟩ := hlim
    have hM : Mod K mg (hidT s1.heap H) := ⟨kin, nsK hns, ⟨mb, nsK hb, hbb⟩, ⟨mc, nsK c1, c2⟩⟩
    have noF : ∀ b, b ∉ frs [] := fun b z => absurd (show b ∈ ([] : List Addr) from z) (by simp)
    have e0 : Env0 P w K mg (hidT s1.heap H) callerA [] s1 H :=
      ⟨rfl, hM, fun b o e => of_hidT e, Nat.le_of_eq (hidT_size _ _), trivial, fun b z => absurd z (noF b), hok, .of_eq hg⟩
    refine codeAny_mono ((F _ kin (nsK hns)).run callerA [] s1 H ⟨[.ref a], []⟩ [.ref a] [.ref a] _ _ hr rfl e0 (hbind s1 (.ref a)) (.cons rfl .nil) (hsp H hO hS)) fun r s' h => ?_
    cases r with
    | error e => exact False.elim h
    | ok fl =>
      cases fl with
      | next => exact False.elim h
      | brk => exact False.elim h
      | cont => exact False.elim h
      | ret u =>
        obtain ⟨v, H', os, bare, un, hok', r', q⟩ := h
        obtain rfl : v = .bl true := q
        obtain rfl : u = Value.bool true := r'
        refine ⟨rfl, OldK.of_keep fun b o e => ?_, os, bare⟩
        cases q : H b with
        | none => exact un.keep b o e q (noF b) (by simp)
        | some u =>
          rcases hO b with z | ⟨ob, xs, z⟩
          · rw [q] at z
            cases z
          · obtain ⟨e1, _⟩ := hok b _ z
            obtain ⟨e2, _⟩ := hok' b _ (un.frzs b ob _ z)
            rw [e] at e1
            cases e1
            exact e2
  cases hk : K.lookup a with
  | some o =>
    have e := KX a o hk
    rw [ha] at e
    cases e
    refine core (fun _ => none) (fun _ => .inl rfl) (.inr ⟨_, vs.toArray, _, hk, rfl, rfl, rfl, ?_, by simpa using rv⟩) (fun b u z => ?_) (fun b z => absurd rfl z) fun z => absurd rfl z
    · rw [List.size_toArray, lenV]
      exact hl
    · exact nomatch (show (none : Option HO) = some u from z)
  | none =>
    refine core (fun b => if b = a then some (.frz { cls := .type "list", data := .seq vs.toArray } (.lst (ns.map V.int))) else none) (fun b => ?_)
      (.inl (.inr ⟨{ cls := .type "list", data := .seq vs.toArray }, if_pos rfl⟩)) (fun b u z => ?_) (fun b z => ?_) fun _ => hk
    · by_cases hb : b = a
      · exact .inr ⟨_, _, if_pos hb⟩
      · exact .inl (if_neg hb)
    · by_cases hb : b = a
      · have z2 := (if_pos hb).symm.trans z
        cases z2
        subst hb
        exact ⟨ha, by rw [List.length_map]; exact hl, vs, _, rv, ha⟩
      · exact nomatch (if_neg hb).symm.trans z
    · by_cases hb : b = a
      · exact hb
      · exact absurd (if_neg hb) z
theorem walk_ofG {l : PySem.W.OpenLaw} {n k : Nat} {q : Program} {loose : List Str} {XP : (Str → Option Value) → Heap → Prop} {YP : World → Heap → Prop} {d : DefRec} {K : Params → PySem.W.Frag} {sp : PySem.W.Frag → Sp} {x : Str}
    (hn : l.most = some n) (hn2 : n ≤ sizeLine) (hdf : d.params.defaults = []) (hr : Room k callerA) (hY : ∀ (w : World) (h : Heap), YP w h → (K w.params).In h)
    (F : ∀ (w : World) (mg : Str → Option Value) (fa : Addr) (h : Heap), (K w.params).In h → h.Ns mainGlobals mg → mg d.name = some (.ref fa) →
      ∃ fd : FuncData, (∀ (s : Shared) (u : Value), BindsTo s fd ⟨[u], []⟩ [(x, u)]) ∧
        ∀ base : Heap, (K w.params).In base → base.Ns mainGlobals mg → FnG l.prog w (K w.params) mg base CX0 k fa fd [x] (sp (K w.params)))
    (hsp : ∀ (K : PySem.W.Frag) (H : Hp) (a : Addr) (ns : List Int), ns.length ≤ n → Only H → SqL K H a (ns.map V.int) → sp K [.ref a] H (fun v _ => v = .bl true) fun _ _ _ => False) :
    PySem.W.WalkO q loose XP YP l.row.toRowW d [] (fun f vs => PySem.call f vs) := by
  refine Att.attach_call hn hdf fun w s0 s1 mg mb fa o pm cd doc a vs ns G Y ho hd hcd hmg hobj hints hlen hg => ?_
  have KX := hY w _ Y
  obtain ⟨fd, hb, hF⟩ := F w mg fa _ KX G.T.g hmg
  exact law_callG KX G.T.g G.T.b G.T.builtins G.T.nolimit hg hobj hints (Nat.le_trans hlen hn2) hr hF hb fun H hO hS => hsp _ H a ns hlen hO hS
end EV
end L2
/-! repr of a list of data. -/
namespace L2
namespace EV
open PySem PySem.Spec PyProof.Rows _root_.EV
/-- v stands for d: data without dicts, or the dict {"a": 1} -/
inductive Sh (K : PySem.W.Frag) (H : Hp) : V → PyData → Prop
  | plain {v : V} {d : PyData} : Dp K H v d → d.hasDict = false → Sh K H v d
  | one {a : Addr} : H a = some (.dK [(Sum.inr "a", V.int 1)]) → Sh K H (.ref a) (.dict [(.str "a", .int 1)])
def Small (d : PyData) : Prop := d.showable = true ∧ d.shown.length ≤ 60 ∧ d.depth ≤ 5
inductive ShAll (K : PySem.W.Frag) (H : Hp) : List V → List PyData → Prop
  | nil : ShAll K H [] []
  | cons {v : V} {vs : List V} {d : PyData} {ds : List PyData} : Sh K H v d → Small d → ShAll K H vs ds → ShAll K H (v :: vs) (d :: ds)
section
variable {X : Cx} {pins : List (Addr × Obj)} {σ : St} {H : Hp} {s : Shared}
theorem sh_reads (I : Inv X pins σ H s) {v : V} {d : PyData} {u : Value} (h : Sh X.K H v d) (r : RelV v u) : ∃ as, Reads s.heap u d as ∧ (d.hasDict = true → sysModules ∉ as) := by
  cases h with
  | plain hd no =>
    obtain ⟨as, q⟩ := Dp.reads I d v u hd r
    exact ⟨as, q, fun z => by rw [no] at z; cases z⟩
  | @one a e =>
    obtain rfl : u = Value.ref a := r
    obtain ⟨_, nsys, vs, kv, o, es, ep, ho, ex, hd, _, pr, _⟩ := (show ObjOk X.prog X.w H s.heap a (.dK [(Sum.inr "a", V.int 1)]) from I.hok a _ e)
    cases kv with
    | @cons _ p _ ps hk kr =>
      cases kr
      obtain ⟨k, v⟩ := p
      obtain ⟨ek, t, ev⟩ := hk
      dsimp only at ek ev
      subst ek ev
      generalize hes : es.toList = l at pr
      cases pr with
      | @cons e1 _ l2 _ k1 k2 k3 =>
        cases k3
        obtain ⟨t2, ek⟩ : ∃ t2, e1.key = Value.str "a" t2 := Value.isStrOf_shape k1
        refine ⟨[a], Reads.dict (as := []) (bs := []) ho ex.1 hd ?_ ?_, fun _ z => ?_⟩
        · rw [hes]
          show ReadsAll s.heap [e1.key] [PyData.str "a"] []
          rw [ek]
          exact ReadsAll.cons (Reads.str _ _) ReadsAll.nil
        · rw [hes]
          show ReadsAll s.heap [e1.val] [PyData.int 1] []
          rw [k2]
          exact ReadsAll.cons (Reads.int _ _) ReadsAll.nil
        · obtain rfl : sysModules = a := by simpa using z
          simp at nsys
theorem sh_all (I : Inv X pins σ H s) : ∀ {vs : List V} {ds : List PyData} {us : List Value}, ShAll X.K H vs ds → Vals vs us →
    ∃ as bs, ReadsAll s.heap us ds as ∧ ReadAtMost s.heap (PyData.depthAll ds) bs ∧ ReprAllK X.prog X.w bs s.heap (PyData.depthAll ds) us (PyData.shownAll ds)
  | _, _, _, .nil, .nil => ⟨[], [], ReadsAll.nil, (fun _ h => nomatch h), by simp only [PyData.shownAll]; exact .nil⟩
  | _, _, _, .cons (d := d) (ds := ds) h sm t, .cons r rt => by
    obtain ⟨as1, q1, hsm⟩ := sh_reads I h r
    obtain ⟨as2, b2, q2, m2, k2⟩ := sh_all I t rt
    obtain ⟨b1, m1, k1⟩ := ReprK.of_reads (prog := X.prog) (w := X.w) q1 sm.1 hsm (Nat.le_trans sm.2.1 (by decide))
    refine ⟨as1 ++ as2, b1 ++ b2, ReadsAll.cons q1 q2, ?_, ?_⟩
    · simp only [PyData.depthAll]
      exact (m1.mono (Nat.le_max_left _ _)).append (m2.mono (Nat.le_max_right _ _))
    · simp only [PyData.depthAll, PyData.shownAll]
      exact .cons ((k1.more fun b hb => List.mem_append_left _ hb).level_le (Nat.le_max_left _ _)) (k2.more_le (fun b hb => List.mem_append_right _ hb) (Nat.le_max_right _ _))
theorem shall_depth {K : PySem.W.Frag} {H : Hp} : ∀ {vs : List V} {ds : List PyData}, ShAll K H vs ds → PyData.depthAll ds ≤ 5 ∧ (∀ t ∈ PyData.shownAll ds, t.length ≤ 60) ∧ (PyData.shownAll ds).length = vs.length
  | _, _, .nil => ⟨by simp only [PyData.depthAll]; omega, by simp [PyData.shownAll], by simp [PyData.shownAll]⟩
  | _, _, .cons h sm t => by
    obtain ⟨h1, h2, h3⟩ := shall_depth t
    refine ⟨by simp only [PyData.depthAll]; have := sm.2.2; omega, ?_, by simp [PyData.shownAll, h3]⟩
    intro t ht
    simp only [PyData.shownAll, List.mem_cons] at ht
    rcases ht with rfl | ht
    · exact sm.2.1
    · exact h2 t ht
theorem sum_le60 : ∀ {ts : List Str}, (∀ t ∈ ts, t.length ≤ 60) → (ts.map (·.length)).sum ≤ 60 * ts.length
  | [], _ => by simp
  | t :: ts, h => by
    have h1 := h t (List.mem_cons_self ..)
    have h2 := sum_le60 (ts := ts) fun t ht => h t (List.mem_cons_of_mem _ ht)
    simp only [List.map_cons, List.sum_cons, List.length_cons]
    omega
/-- repr(l), l a list of some data -/
def rShow (K : PySem.W.Frag) : List V → Hp → VK → Prop := fun xs H Q => ∃ (l : Addr) (v : V) (vs : List V) (ds : List PyData), xs = [.ref l] ∧ H l = some (.lst (v :: vs)) ∧ ShAll K H (v :: vs) ds ∧ vs.length ≤ 1000 ∧
  Q (.str (listText (PyData.shownAll ds))) H
theorem call_show (hgd : X.A.guards = some []) (hu : X.A.units + 64 < cLine) : CallR X (.builtin "repr") (rShow X.K) := by
  intro pins s σ H xs us Q I r h
  obtain ⟨l, v, vs, ds, rfl, e, sh, lz, q⟩ := h
  obtain ⟨u, rfl, ru⟩ := vals1 r
  obtain rfl : u = Value.ref l := ru
  obtain ⟨_, its, n, rv, ho⟩ := (show ObjOk X.prog X.w H s.heap l (.lst (v :: vs)) from I.hok l _ e)
  obtain ⟨as, bs, q1, m1, k1⟩ := sh_all I sh rv
  obtain ⟨dp, sz, ln⟩ := shall_depth sh
  have whole : Reads s.heap (.ref l) (.list ds) (l :: as) := Reads.list ho rfl rfl (by simpa using q1)
  have hna : l ∉ bs := not_mem_of_deeper whole (by simp only [PyData.depth]; omega) m1
  have hz : (listText (PyData.shownAll ds)).length ≤ sizeLine := by
    have h1 := listText_len_le (PyData.shownAll ds)
    have h2 := sum_le60 sz
    rw [ln, List.length_cons] at *
    rw [sizeLine_eq]
    omega
  cases rv with
  | @cons _ u1 _ ut r1 r2 =>
    refine call_repr_slot (by omega) ⟨_, ho, rfl⟩ PySem.F.slot_list_repr.toG ?_
    refine call_list_reprK ho rfl rfl hna (by simpa using k1.length_eq) (fun i y ey => k1.item i y (by simpa using ey)) (A := X.A.in1) hgd (fun b _ => Clear.nil b) ?_ (fun _ _ z => z) (fun h' t tk hk => ⟨_, _, rfl, ?_⟩) hz
    · show X.A.units + 1 + (PyData.depthAll ds + 1) < cLine
      omega
    · exact ⟨.str _, H, I.kept (t' := tk) hk, ⟨_, rfl⟩, q⟩
end
end EV
end L2
/-! Tuples of an int, a text and an int: sorted, and <=. -/
namespace L2
open PySem PySem.Spec PyProof.Rows
abbrev T3 : Type := Int × Str × Int
abbrev sl (a : Str) : List Nat := a.cps.toList
theorem sl_inj {a b : Str} (h : sl a = sl b) : a = b := by
  cases a with
  | mk x =>
    cases b with
    | mk y =>
      have : x = y := Array.toList_inj.mp h
      rw [this]
/-- x is ahead of y -/
def lt3 (a b : T3) : Bool := if a.1 = b.1 then (if a.2.1 = b.2.1 then decide (a.2.2 < b.2.2) else decide (sl a.2.1 < sl b.2.1)) else decide (a.1 < b.1)
theorem lt3_iff {a b : T3} : lt3 a b = true ↔ a.1 < b.1 ∨ (a.1 = b.1 ∧ (sl a.2.1 < sl b.2.1 ∨ (a.2.1 = b.2.1 ∧ a.2.2 < b.2.2))) := by
  unfold lt3
  by_cases e1 : a.1 = b.1
  · rw [if_pos e1]
    by_cases e2 : a.2.1 = b.2.1
    · rw [if_pos e2, decide_eq_true_eq]
      refine ⟨fun h => .inr ⟨e1, .inr ⟨e2, h⟩⟩, ?_⟩
      rintro (h | ⟨_, h | ⟨_, h⟩⟩)
      · omega
      · rw [e2] at h
        exact absurd h (List.lt_irrefl _)
      · exact h
    · rw [if_neg e2, decide_eq_true_eq]
      refine ⟨fun h => .inr ⟨e1, .inl h⟩, ?_⟩
      rintro (h | ⟨_, h | ⟨h, _⟩⟩)
      · omega
      · exact h
      · exact absurd h e2
  · rw [if_neg e1, decide_eq_true_eq]
    refine ⟨fun h => .inl h, ?_⟩
    rintro (h | ⟨h, _⟩)
    · exact h
    · exact absurd h e1
theorem lt3_no {a b : T3} : lt3 a b = false ↔ ¬ (a.1 < b.1 ∨ (a.1 = b.1 ∧ (sl a.2.1 < sl b.2.1 ∨ (a.2.1 = b.2.1 ∧ a.2.2 < b.2.2)))) := by
  rw [← lt3_iff]
  cases lt3 a b <;> simp
theorem swo3 : SrtO.Swo lt3 := by
  refine ⟨fun x y h => ?_, fun x y z h1 h2 => ?_⟩
  · have a := lt3_iff.mp h
    refine lt3_no.mpr ?_
    rintro (h1 | ⟨h1, h2⟩)
    · rcases a with a | ⟨a, _⟩ <;> omega
    · rcases a with a | ⟨_, a⟩
      · omega
      · rcases h2 with h2 | ⟨h2, h3⟩
        · rcases a with a | ⟨a, _⟩
          · exact List.lt_asymm a h2
          · rw [a] at h2
            exact List.lt_irrefl _ h2
        · rcases a with a | ⟨_, a⟩
          · rw [h2] at a
            exact List.lt_irrefl _ a
          · omega
  · have a := lt3_no.mp h1
    have b := lt3_no.mp h2
    refine lt3_no.mpr ?_
    have a1 : ¬ y.1 < x.1 := fun q => a (.inl q)
    have b1 : ¬ z.1 < y.1 := fun q => b (.inl q)
    rintro (q | ⟨q1, q2⟩)
    · omega
    · have e1 : y.1 = x.1 := by omega
      have e2 : z.1 = y.1 := by omega
      have a2 : ¬ sl y.2.1 < sl x.2.1 := fun q => a (.inr ⟨e1, .inl q⟩)
      have b2 : ¬ sl z.2.1 < sl y.2.1 := fun q => b (.inr ⟨e2, .inl q⟩)
      have l1 : sl x.2.1 ≤ sl y.2.1 := List.not_lt.mp a2
      have l2 : sl y.2.1 ≤ sl z.2.1 := List.not_lt.mp b2
      rcases q2 with q2 | ⟨q2, q3⟩
      · exact absurd q2 (List.not_lt.mpr (List.le_trans l1 l2))
      · have e3 : sl y.2.1 = sl x.2.1 := by
          rw [q2] at l2
          exact List.le_antisymm l2 l1
        have e4 := sl_inj e3
        have a3 : ¬ y.2.2 < x.2.2 := fun q => a (.inr ⟨e1, .inr ⟨e4, q⟩⟩)
        have b3 : ¬ z.2.2 < y.2.2 := fun q => b (.inr ⟨e2, .inr ⟨q2.trans e4.symm, q⟩⟩)
        omega
theorem swo3k {α : Type} (k : α → T3) : SrtO.Swo fun v u : α => lt3 (k v) (k u) := ⟨fun x y => swo3.asym (k x) (k y), fun x y z => swo3.tr (k x) (k y) (k z)⟩
/-- v is a tuple of an int, a text and an int in the heap -/
def IsTrip (h : Heap) (v : Value) (x : T3) : Prop := ∃ a o t u r n, v = .ref a ∧ h.get? a = some o ∧ o.cls = .type "tuple" ∧ o.data = .seq #[.int x.1 t, .str x.2.1 u, .int x.2.2 r] n
theorem IsTrip.keeps {h h' : Heap} {v : Value} {x : T3} (p : IsTrip h v x) (k : ∀ b o, h.get? b = some o → o.cls = .type "tuple" → h'.get? b = some o) : IsTrip h' v x := by
  obtain ⟨a, o, t, u, r, n, e, ho, hc, hd⟩ := p
  exact ⟨a, o, t, u, r, n, e, k _ _ ho hc, hc, hd⟩
theorem firsts3 {h : Heap} : ∀ {vs : List Value}, (∀ v ∈ vs, ∃ x, IsTrip h v x) → ∃ fs : List Value, PySem.W.KatTups h vs fs ∧ fs.length = vs.length ∧ ∀ f ∈ fs, ∃ x t, f = Value.int x t
  | [], _ => ⟨[], PySem.W.KatTups.nil, rfl, fun _ hm => by simp at hm⟩
  | v :: vs, hp => by
    obtain ⟨fs, h1, h2, h3⟩ := firsts3 (vs := vs) fun v' hm => hp v' (List.mem_cons_of_mem _ hm)
    obtain ⟨x, a, o, t, u, r, n, e, ho, hc, hd⟩ := hp v (List.mem_cons_self ..)
    subst e
    refine ⟨.int x.1 t :: fs, PySem.W.KatTups.cons ho hc hd rfl h1, by rw [List.length_cons, List.length_cons, h2], fun f hm => ?_⟩
    rcases List.mem_cons.mp hm with rfl | hm
    · exact ⟨x.1, t, rfl⟩
    · exact h3 f hm
section
variable {prog : Program} {w : World} {A : Around} {E : Value → Shared → Prop} {s : Shared}
theorem trip_cmp {vs : List Value} {k : Value → T3} (hp : ∀ v ∈ vs, IsTrip s.heap v (k v)) : SrtO.Cmp prog w A s (tuples' true) (fun p => p.1 ∈ vs) (SrtO.lt2 fun v u => lt3 (k v) (k u)) := by
  intro p q hm hm'
  have h1 := hp _ hm
  have h2 := hp _ hm'
  show wpAny (model prog w) A (keyLt' (tuples' true) p.1 q.1) (fun r s' => s' = s ∧ r = lt3 (k p.1) (k q.1)) (fun _ _ => False) s
  generalize k p.1 = x at h1 ⊢
  generalize k q.1 = y at h2 ⊢
  obtain ⟨x1, x2, x3⟩ := x
  obtain ⟨y1, y2, y3⟩ := y
  obtain ⟨a, o, t, u, r, n, e, ho, hc, hd⟩ := h1
  obtain ⟨a', o', t', u', r', n', e', ho', hc', hd'⟩ := h2
  rw [e, e']
  unfold lt3
  refine PySem.W.kat_lt ho hd ho' hd' ?_
  show PySem.W.KatLex prog w A true (decide (3 < 3)) _ [(.int x1 t, .int y1 t'), (.str x2 u, .str y2 u'), (.int x3 r, .int y3 r')] 0 s
  refine PySem.W.kat_cons (SeqAt.EqAt.int_int x1 t y1 t' prog w _ _ ?_)
  refine PySem.W.kat_go (fun e1 => ?_) (fun e1 => ?_)
  · have ex : x1 = y1 := by simpa using e1
    subst ex
    refine PySem.W.kat_yes (PySem.W.kat_cons (SeqAt.EqAt.str_str x2 u y2 u' prog w _ _ ?_))
    refine PySem.W.kat_go (fun e2 => ?_) (fun e2 => ?_)
    · have ey : x2 = y2 := by simpa using e2
      subst ey
      refine PySem.W.kat_yes (PySem.W.kat_cons (SeqAt.EqAt.int_int x3 r y3 r' prog w _ _ ?_))
      refine PySem.W.kat_go (fun e3 => ?_) (fun e3 => ?_)
      · have ez : x3 = y3 := by simpa using e3
        subst ez
        refine PySem.W.kat_yes (PySem.W.kat_nil ⟨rfl, ?_⟩)
        simp
      · refine PySem.W.kat_no (PySem.W.kat_one _ _ (PyProof.Rows.lt_int ?_))
        refine (show s = s ∧ _ from ⟨rfl, ?_⟩)
        simp
    · have ey : ¬ x2 = y2 := by simpa using e2
      refine PySem.W.kat_no (PySem.W.kat_one _ _ (PyProof.Rows.lt_str ?_))
      refine (show s = s ∧ _ from ⟨rfl, ?_⟩)
      simp [ey]
  · have ex : ¬ x1 = y1 := by simpa using e1
    refine PySem.W.kat_no (oneLt_int ⟨rfl, ?_⟩)
    simp [ex]
theorem trips_sortable {a : Addr} {vs : List Value} {k : Value → T3} (h0 : 0 < vs.length) (hp : ∀ v ∈ vs, IsTrip s.heap v (k v)) (ha : ∀ o, s.heap.get? a = some o → o.cls ≠ .type "tuple") : SrtO.SortableO prog w A s a vs fun v u => lt3 (k v) (k u) := by
  intro h' keep
  have hp' : ∀ v ∈ vs, IsTrip h' v (k v) := fun v hm => (hp v hm).keeps fun b o e c => keep b o (fun z => by subst z; exact ha o e c) e
  obtain ⟨fs, h1, h2, h3⟩ := firsts3 fun v hm => ⟨_, hp' v hm⟩
  refine ⟨tuples' true, fun Q E hq => ?_, trip_cmp hp'⟩
  refine PySem.W.kat_kind (T := .type "int") h1 (by omega) (fun f hm => ?_) (by rfl) ?_
  · obtain ⟨x, t, rfl⟩ := h3 f hm
    exact PySem.W.Looks.now
  · have e : (Value.type "int" != Value.type "tuple") = true := by first | decide +kernel | rfl | decide
    rw [e]
    exact hq
theorem sorted_trips {l : Addr} {vs : List Value} {k : Value → T3} {Q : Value → Shared → Prop} (hl : s.heap.IsList l vs.toArray) (hz : vs.length ≤ sizeLine) (hp : ∀ v ∈ vs, IsTrip s.heap v (k v))
    (h : ∀ (h' : Heap) (d : Addr) (out : List Value), SrtO.Srtd (fun v u => lt3 (k v) (k u)) out → SrtO.Stb (fun v u => lt3 (k v) (k u)) out vs → (∀ b o, s.heap.get? b = some o → h'.get? b = some o) → s.heap.objs.size ≤ d → (∃ n, h'.get? d = some (seqObj "list" out.toArray n)) → Q (.ref d) { s with heap := h' }) :
    wpAny (model prog w) A (call (.builtin "sorted") [.ref l]) Q E s := by
  refine SrtO.sorted_ord (swo3k k) hl hz (fun h2 h₁ a ha kk => ?_) fun out hs hb => ?_
  · refine trips_sortable (s := { s with heap := h₁ }) (by omega) (fun v hm => (hp v hm).keeps fun b o e _ => (kk b o e).2) fun o e => ?_
    have e' : some o = some (seqObj "list" vs.toArray 0) := e.symm.trans ha
    cases e'
    intro c
    exact absurd (Value.type.inj c) (by decide)
  · exact h _ _ out hs hb (fun b o e => sortedAll_old e) (Nat.le_succ _) (sortedAll_at s.heap vs out.toArray)
end
/-- sorted(xs), xs a list of such tuples (k says which): a new list of the same ones -/
def rSorted3 (K : PySem.W.Frag) : List V → Hp → VK → Prop := fun vs H Q => ∃ (a : Addr) (xs : List V) (k : V → T3), vs = [V.ref a] ∧ SqL K H a xs ∧ (∀ x ∈ xs, ∃ t, x = V.ref t ∧ H t = some (.tup [.int (k x).1, .str (k x).2.1, .int (k x).2.2])) ∧
  ∀ ys p, SrtO.Srtd (fun x y => lt3 (k x) (k y)) ys → ys.Perm xs → H p = none → Q (.ref p) (upd H p (.lst ys))
theorem vals_3 {x y z : V} {us : List Value} (r : Vals [x, y, z] us) : ∃ u w' t', us = [u, w', t'] ∧ RelV x u ∧ RelV y w' ∧ RelV z t' := by
  cases r with
  | cons r1 r2 =>
    obtain ⟨u, w', rfl, r3, r4⟩ := vals2 r2
    exact ⟨_, u, w', rfl, r1, r3, r4⟩
section
variable {X : Cx}
theorem cr_sorted3 : CallR X (.builtin "sorted") (rSorted3 X.K) := by
  intro pins s σ H vs us Q I r h
  obtain ⟨a, xs, k, rfl, hs, hx, q⟩ := h
  obtain ⟨its, rv, hl, hz⟩ := I.list hs
  obtain ⟨u, rfl, ru⟩ := vals1 r
  obtain rfl : u = Value.ref a := ru
  obtain ⟨e1, e2⟩ := refs_back rv fun x m => by
    obtain ⟨t, e, _⟩ := hx x m
    exact ⟨t, e⟩
  refine sorted_trips (k := fun u => k (backV u)) hl.isList (by rw [← rv.length]; exact hz) (fun v hv => ?_) fun h' d out h1 h2 kp hd hn => ?_
  · obtain ⟨t, rfl⟩ := e2 v hv
    have hm : V.ref t ∈ xs := by rw [e1]; exact List.mem_map.mpr ⟨_, hv, rfl⟩
    obtain ⟨t', e, ht⟩ := hx _ hm
    cases e
    obtain ⟨_, its2, r2, o, ho, hc, n, hd⟩ := I.hok _ _ ht
    obtain ⟨u1, u2, u3, rfl, ri, rj, rk⟩ := vals_3 r2
    obtain ⟨t1, rfl⟩ := ri
    obtain ⟨t2, rfl⟩ := rj
    obtain ⟨t3, rfl⟩ := rk
    exact ⟨t, o, t1, t2, t3, n, rfl, ho, hc, hd⟩
  · have h3 : ∀ u ∈ out, ∃ a, u = Value.ref a := fun u hu => e2 u (h2.perm.mem_iff.mp hu)
    obtain ⟨n, hn⟩ := hn
    have hb : SrtO.Stb (fun x y => lt3 (k x) (k y)) (out.map backV) xs := by
      rw [e1]
      exact SrtO.Stb.map (swo3k k) backV h2
    refine ⟨.ref d, upd H d (.lst (out.map backV)), I.laid (t' := s.toks) kp hd ⟨?_, out, n, vals_back h3, hn⟩, rfl, q _ d (SrtO.srtd_map h1) hb.perm (I.hok.fresh hd)⟩
    rw [hb.len]
    exact hz
/-- x <= y of two such tuples -/
def rLe3 : R2 := fun x y H Q => ∃ (a b : Addr) (m n : T3), x = .ref a ∧ y = .ref b ∧ H a = some (.tup [.int m.1, .str m.2.1, .int m.2.2]) ∧ H b = some (.tup [.int n.1, .str n.2.1, .int n.2.2]) ∧ Q (.bl (!lt3 n m)) H
theorem le_lex (m n : T3) : Ob.lexAt (fun j => if j = 0 then m.1 == n.1 else if j = 1 then m.2.1 == n.2.1 else m.2.2 == n.2.2)
    (fun j => if j = 0 then decide (m.1 ≤ n.1) else if j = 1 then decide (sl m.2.1 ≤ sl n.2.1) else decide (m.2.2 ≤ n.2.2)) true 0 3 = !lt3 n m := by
  obtain ⟨m1, m2, m3⟩ := m
  obtain ⟨n1, n2, n3⟩ := n
  simp only [Ob.lexAt, lt3]
  by_cases e1 : m1 = n1
  · subst e1
    by_cases e2 : m2 = n2
    · subst e2
      by_cases e3 : m3 = n3
      · subst e3
        simp
      · simp only [beq_self_eq_true, if_true, Nat.zero_add, Nat.one_ne_zero, if_false, Nat.reduceAdd, Nat.reduceEqDiff, beq_iff_eq, e3]
        by_cases z : m3 ≤ n3
        · rw [decide_eq_true z, decide_eq_false (by omega)]
          rfl
        · rw [decide_eq_false z, decide_eq_true (by omega)]
          rfl
    · have e2' : ¬ n2 = m2 := fun z => e2 z.symm
      simp only [beq_self_eq_true, if_true, Nat.zero_add, Nat.one_ne_zero, if_false, beq_iff_eq, e2, e2']
      by_cases z : sl m2 ≤ sl n2
      · rw [decide_eq_true z, decide_eq_false (List.not_lt.mpr z)]
        rfl
      · rw [decide_eq_false z, decide_eq_true (List.not_le.mp z)]
        rfl
  · have e1' : ¬ n1 = m1 := fun z => e1 z.symm
    simp only [if_true, beq_iff_eq, e1, e1', if_false]
    by_cases z : m1 ≤ n1
    · rw [decide_eq_true z, decide_eq_false (by omega)]
      rfl
    · rw [decide_eq_false z, decide_eq_true (by omega)]
      rfl
theorem RcOp.le_str {A : Around} {s : Shared} (a b : Str) (t u : Tok) : Ob.RcOp .LtE A s (.str a t) (.str b u) (decide (sl a ≤ sl b)) := fun _ _ _ _ h => PySem.P.le_str (by
  have e : (!decide (b.cps.toList < a.cps.toList)) = decide (sl a ≤ sl b) := by
    by_cases z : sl a ≤ sl b
    · rw [decide_eq_true z, decide_eq_false (List.not_lt.mpr z)]
      rfl
    · rw [decide_eq_false z, decide_eq_true (List.not_le.mp z)]
      rfl
  rw [e]
  exact h)
theorem op_le3 (hu : X.A.units < cLine) : OpR X (compareOp .LtE) rLe3 := by
  intro pins s σ H x y v u Q I rx ry h
  obtain ⟨a, b, m, n, rfl, rfl, ha, hb, q⟩ := h
  cases rx
  cases ry
  obtain ⟨its, r1, p1, _⟩ := I.tuple (SqT.of ha)
  obtain ⟨its2, r2, p2, _⟩ := I.tuple (SqT.of hb)
  obtain ⟨u1, u2, u3, rfl, ⟨t1, rfl⟩, ⟨t2, rfl⟩, ⟨t3, rfl⟩⟩ := vals_3 r1
  obtain ⟨v1, v2, v3, rfl, ⟨w1, rfl⟩, ⟨w2, rfl⟩, ⟨w3, rfl⟩⟩ := vals_3 r2
  have R := Ob.RcOp.tuples_le (A := X.A) (s := s) (e := fun j => if j = 0 then m.1 == n.1 else if j = 1 then m.2.1 == n.2.1 else m.2.2 == n.2.2)
    (r := fun j => if j = 0 then decide (m.1 ≤ n.1) else if j = 1 then decide (sl m.2.1 ≤ sl n.2.1) else decide (m.2.2 ≤ n.2.2)) p1 p2 hu (fun j h1 h2 => by
    match j, h1 with
    | 0, _ => exact SeqAt.EqAt.int_int _ _ _ _
    | 1, _ => exact SeqAt.EqAt.str_str _ _ _ _
    | 2, _ => exact SeqAt.EqAt.int_int _ _ _ _) (fun j h1 h2 _ => by
    match j, h1 with
    | 0, _ => exact Ob.RcOp.le_int _ _ _ _
    | 1, _ => exact RcOp.le_str _ _ _ _
    | 2, _ => exact Ob.RcOp.le_int _ _ _ _)
  have e3 : Ob.lexAt (fun j => if j = 0 then m.1 == n.1 else if j = 1 then m.2.1 == n.2.1 else m.2.2 == n.2.2)
    (fun j => if j = 0 then decide (m.1 ≤ n.1) else if j = 1 then decide (sl m.2.1 ≤ sl n.2.1) else decide (m.2.2 ≤ n.2.2)) (decide (3 ≤ 3)) 0 (min 3 3) = !lt3 n m := le_lex m n
  have z : wpAny (model X.prog X.w) X.A (compareOp .LtE (.ref a) (.ref b)) (EP X pins σ Q) X.xe s := R X.prog X.w X.xe (EP X pins σ Q) ⟨.bl _, H, I, rfl, by
    rw [← e3] at q
    exact q⟩
  exact z
end
end L2
/-! The law's draws. -/
namespace K06
open PySem L2 L2.EV
def top (i : Nat) : Stmt := PySem.Challenge.pw_tornlines_k06_whole_faults_of_readers.main.body.getD i (.Pass ⟨0, 0, 0, 0⟩)
abbrev sBegun : Stmt := top 71
abbrev sNext : Stmt := top 72
/-! ### data of ints -/
theorem canLay_ints : ∀ ns : List Int, PyData.canLayAll0 (ns.map PyData.int) = true
  | [] => by simp [PyData.canLayAll0]
  | n :: ns => by simp [PyData.canLayAll0, PyData.canLay0, canLay_ints ns]
theorem depth_ints : ∀ ns : List Int, PyData.depthAll (ns.map PyData.int) = 0
  | [] => by simp [PyData.depthAll]
  | n :: ns => by simp [PyData.depthAll, PyData.depth, depth_ints ns]
theorem shaped_ints (ns : List Int) : SeqAt.shaped (.list (ns.map PyData.int)) = true := by
  show (PyData.canLay0 (.list (ns.map PyData.int)) && decide (PyData.depth (.list (ns.map PyData.int)) ≤ 64)) = true
  rw [Bool.and_eq_true]
  refine ⟨by simp only [PyData.canLay0]; exact canLay_ints ns, decide_eq_true ?_⟩
  simp only [PyData.depth, depth_ints]
  omega
theorem dp_ints {K : PySem.W.Frag} {H : Hp} : ∀ ns : List Int, DpAll K H (ns.map V.int) (ns.map PyData.int)
  | [] => .nil
  | n :: ns => .cons (.int n) (dp_ints ns)
theorem dp_list {K : PySem.W.Frag} {H : Hp} {a : Addr} {ns : List Int} (h : H a = some (.lst (ns.map V.int))) : Dp K H (.ref a) (.list (ns.map PyData.int)) := .lst (SqL.of h) (dp_ints ns)
theorem eqv_nil (ns : List Int) : PyData.eqv (.list (ns.map PyData.int)) (.list []) = ns.isEmpty := by
  cases ns <;> simp [PyData.eqv, PyData.eqvAll]
/-! ### the draws' dict -/
def mkv (c l : Addr) (k : Int) : List (Key × V) := [(Sum.inr "cells", .ref c), (Sum.inr "left", .ref l), (Sum.inr "at", .int k)]
theorem n1 : ¬ (("cells" : Str) = "left") := by decide +kernel
theorem n2 : ¬ (("cells" : Str) = "at") := by decide +kernel
theorem n3 : ¬ (("left" : Str) = "at") := by decide +kernel
theorem n1' : ¬ (("left" : Str) = "cells") := by decide +kernel
theorem n2' : ¬ (("at" : Str) = "cells") := by decide +kernel
theorem n3' : ¬ (("at" : Str) = "left") := by decide +kernel
theorem k1 {a b : Str} (h : ¬ a = b) : ¬ ((Sum.inr a : Key) = Sum.inr b) := fun z => h (Sum.inr.inj z)
theorem v_cells (c l : Addr) (k : Int) : valV (mkv c l k) (Sum.inr "cells" : Key) = some (.ref c) := by simp [valV, mkv, List.find?_cons]
theorem v_left (c l : Addr) (k : Int) : valV (mkv c l k) (Sum.inr "left" : Key) = some (.ref l) := by simp [valV, mkv, List.find?_cons, n1]
theorem v_at (c l : Addr) (k : Int) : valV (mkv c l k) (Sum.inr "at" : Key) = some (.int k) := by simp [valV, mkv, List.find?_cons, n2, n3]
theorem p_left (c l l' : Addr) (k : Int) : putK (mkv c l k) (Sum.inr "left" : Key) (.ref l') = mkv c l' k := by simp [putK, mkv, n1, n3']
theorem p_at (c l : Addr) (k k' : Int) : putK (mkv c l k) (Sum.inr "at" : Key) (.int k') = mkv c l k' := by simp [putK, mkv, n2, n3]
theorem mk_merge (c l : Addr) (k : Int) : mergeK [] (mkv c l k) = mkv c l k := by simp [mergeK, putK, mkv, n1, n2, n3]
structure MAt (H : Hp) (m c l : Addr) (k : Int) : Prop where
  hm : H m = some (.dK (mkv c l k))
  hc : ∃ cs : List Int, H c = some (.lst (cs.map V.int)) ∧ cs.length ≤ 1000
  hl : ∃ ls : List Int, H l = some (.lst (ls.map V.int)) ∧ ls.length ≤ 1000
  ne : c ≠ l
  k0 : 0 ≤ k
  k1 : k ≤ 1000000
/-- a drawn number from 0 to n - 1; only the dict and its list of great cells have changed -/
def spNext : Sp := fun vs H Q _ => ∃ (m c l : Addr) (k n : Int), vs = [.ref m, .int n] ∧ MAt H m c l k ∧ 0 < n ∧ n < 1000000 ∧ k < 1000000 ∧
  ∀ (r : Int) (H' : Hp) (l' : Addr) (k' : Int), 0 ≤ r → r < n → k' ≤ k + 1 → MAt H' m c l' k' → (l' = l ∨ H l' = none) → (∀ b o, H b = some o → b ≠ m → b ≠ l → H' b = some o) → Q (.int r) H'
/-- the beginning -/
def spBegun (K : PySem.W.Frag) : Sp := fun vs H Q _ => ∃ (a : Addr) (ns : List Int), vs = [.ref a] ∧ SqL K H a (ns.map V.int) ∧ ns.length ≤ 1000 ∧
  ∀ (m c l : Addr) (H' : Hp), MAt H' m c l 0 → H m = none → H c = none → H l = none → Same H H' → Q (.ref m) H'
structure TxtD (mg : Str → Option Value) : Prop where
  list : mg "list" = none
  int : mg "int" = none
  len : mg "len" = none
theorem same_upd {H : Hp} {p : Addr} {o : HO} (h : H p = none) : Same H (upd H p o) := fun b u e => by
  rw [upd_ne (ne_of_none e h)]
  exact e
theorem MAt.same {H H' : Hp} {m c l : Addr} {k : Int} (M : MAt H m c l k) (s : Same H H') : MAt H' m c l k := by
  obtain ⟨h1, ⟨cs, h2, h3⟩, ⟨ls, h4, h5⟩, h6, h7, h8⟩ := M
  exact ⟨s _ _ h1, ⟨cs, s _ _ h2, h3⟩, ⟨ls, s _ _ h4, h5⟩, h6, h7, h8⟩
theorem MAt.set {H : Hp} {m c l : Addr} {k : Int} {ls : List Int} (M : MAt H m c l k) (hz : ls.length ≤ 1000) : MAt (upd H l (.lst (ls.map V.int))) m c l k := by
  obtain ⟨h1, ⟨cs, h2, h3⟩, ⟨ls0, h4, h5⟩, h6, h7, h8⟩ := M
  have ml : m ≠ l := ne_of h1 h4 (fun z => by cases z)
  exact ⟨by rw [upd_ne ml]; exact h1, ⟨cs, by rw [upd_ne h6]; exact h2, h3⟩, ⟨ls, upd_same, hz⟩, h6, h7, h8⟩
/-- another list of great cells -/
theorem MAt.turn {H : Hp} {m c l p : Addr} {k : Int} {ls : List Int} (M : MAt H m c l k) (hp : H p = none) (hz : ls.length ≤ 1000) : MAt (upd (upd H p (.lst (ls.map V.int))) m (.dK (mkv c p k))) m c p k := by
  obtain ⟨h1, ⟨cs, h2, h3⟩, ⟨ls0, h4, h5⟩, h6, h7, h8⟩ := M
  have mp : p ≠ m := (ne_of_none h1 hp).symm
  have cp : c ≠ p := ne_of_none h2 hp
  have cm : c ≠ m := ne_of h2 h1 (fun z => by cases z)
  exact ⟨upd_same, ⟨cs, by rw [upd_ne cm, upd_ne cp]; exact h2, h3⟩, ⟨ls, by rw [upd_ne mp]; exact upd_same, hz⟩, cp, h7, h8⟩
/-- another counter -/
theorem MAt.count {H : Hp} {m c l : Addr} {k k' : Int} (M : MAt H m c l k) (h0 : 0 ≤ k') (h1' : k' ≤ 1000000) : MAt (upd H m (.dK (mkv c l k'))) m c l k' := by
  obtain ⟨h1, ⟨cs, h2, h3⟩, ⟨ls0, h4, h5⟩, h6, h7, h8⟩ := M
  have lm : l ≠ m := ne_of h4 h1 (fun z => by cases z)
  have cm : c ≠ m := ne_of h2 h1 (fun z => by cases z)
  exact ⟨upd_same, ⟨cs, by rw [upd_ne cm]; exact h2, h3⟩, ⟨ls0, by rw [upd_ne lm]; exact h4, h5⟩, h6, h0, h1'⟩
section
variable {K : PySem.W.Frag} {σ : St} {H : Hp} {m c l : Addr} {k : Int}
theorem rd_left {Q : VK} (h0 : σ[0]? = some (some (.ref m))) (M : MAt H m c l k) (q : Q (.ref l) H) : tDGet (tVar 0) (tC (.str "left")) σ H Q := by
  have z : DGet H m (.str "left") (valV (mkv c l k) (Sum.inr "left" : Key)) := DGet.k (k := Sum.inr "left") M.hm
  rw [v_left] at z
  exact ⟨_, h0, m, _, rfl, z, q⟩
theorem rd_cells {Q : VK} (h0 : σ[0]? = some (some (.ref m))) (M : MAt H m c l k) (q : Q (.ref c) H) : tDGet (tVar 0) (tC (.str "cells")) σ H Q := by
  have z : DGet H m (.str "cells") (valV (mkv c l k) (Sum.inr "cells" : Key)) := DGet.k (k := Sum.inr "cells") M.hm
  rw [v_cells] at z
  exact ⟨_, h0, m, _, rfl, z, q⟩
theorem rd_at {Q : VK} (h0 : σ[0]? = some (some (.ref m))) (M : MAt H m c l k) (q : Q (.int k) H) : tDGet (tVar 0) (tC (.str "at")) σ H Q := by
  have z : DGet H m (.str "at") (valV (mkv c l k) (Sum.inr "at" : Key)) := DGet.k (k := Sum.inr "at") M.hm
  rw [v_at] at z
  exact ⟨_, h0, m, _, rfl, z, q⟩
/-- a list of ints against the empty one -/
theorem ne_empty {Q : Bool → Hp → Prop} {a : Addr} {ls : List Int} (hl : H a = some (.lst (ls.map V.int))) (q : ∀ p, H p = none → Q (!ls.isEmpty) (upd H p (.lst []))) :
    tLst tNil σ H fun y H2 => rNeD K (.ref a) y H2 fun x H' => ∃ k, x = .bl k ∧ Q k H' := by
  refine ⟨by decide, fun p hp => ⟨.list (ls.map PyData.int), .list [], dp_list (same_upd hp _ _ hl), .lst (SqL.of upd_same) .nil, shaped_ints ls, shaped_ints [], _, rfl, ?_⟩⟩
  rw [eqv_nil]
  exact q p hp
theorem cut_one (ls : List Int) : cutV (ls.map V.int) (some 1) none = (ls.drop 1).map V.int := by
  unfold cutV
  have e1 : HT.sIx (ls.map V.int).length 0 (some 1) = min 1 (ls.map V.int).length := HT.sIx_nat _ _ 1
  rw [e1, HT.sIx_none]
  cases ls with
  | nil => rfl
  | cons x r =>
    have e2 : min 1 ((x :: r).map V.int).length = 1 := by simp
    rw [e2]
    show List.take ((x :: r).map V.int).length.pred (r.map V.int) = r.map V.int
    exact List.take_of_length_le (by simp)
end
theorem byAll {P : Int → Prop} {G : Prop} (a : (∀ x, P x) → G) (b : ∀ x, P x) : G := a b
theorem iteF' {b : Bool} {A B : Prop} (h : b = false) (q : B) : if b = true then A else B := by
  rw [h]
  exact iteF q
theorem iteT' {b : Bool} {A B : Prop} (h : b = true) (q : A) : if b = true then A else B := by
  rw [h]
  exact iteT q
theorem seq_while {tc : TT} {tb u : TS} {D : Ends} {σ : St} {H : Hp} (W : Nat → Hp → Prop) (R : Hp → Prop) {j0 : Nat} (h0 : W j0 H) (hr : ∀ H2, R H2 → u D σ H2)
    (turn : (∀ H2, R H2 → u D σ H2) → ∀ j H1, W j H1 → tc σ H1 fun b H2 => if b = true then
      ∃ N : St → Hp → Prop, (∀ σ' H', N σ' H' → ∃ j', j' < j ∧ (σ' = σ ∧ W j' H')) ∧ tb { nx := N, rt := D.rt, bk := u D, ct := N } σ H2 else u D σ H2) :
    tSeq (tWhile tc tb) u D σ H := by
  refine ⟨fun j σ' H' => σ' = σ ∧ W j H', ⟨j0, rfl, h0⟩, ?_⟩
  rintro j σ' H1 ⟨rfl, w⟩
  exact turn hr j H1 w
section
variable {P : Program} {w : World} {K : PySem.W.Frag} {mg : Str → Option Value} {base : Heap}
theorem scN : FnScope ["m", "many", "rest", "k", "cell", "mixed"] ["m", "many"] (defScope sNext) := ⟨rfl, rfl, rfl, by decide +kernel, rfl, by decide +kernel, by decide +kernel⟩
theorem ok_next {f : Addr} {fd : FuncData} (F : Fun K "_law_next" "_law_next" sNext f fd) (T : TxtD mg) : FnOk P w K mg base CX0 1 f fd ["m", "many"] spNext := by
  refine F.ok scN (fun vs H Q E h => ?_) (fun cdv A outer s H vs Q E hr h => ?_)
  · obtain ⟨m, c, l, k, n, rfl, _⟩ := h
    rfl
  · obtain ⟨m, c, l, k, n, rfl, M, n0, n1, kk, q⟩ := h
    have hu := hu_of hr
    have hu2 := hr.units
    refine ⟨_, pss_cons (ps_while PassesOwn.never
        (pw_and (pt_cmpR (op_neD hu2) (pe_dget hu (pv 0) pe_str (fun _ _ => rfl)) (pe_lst pa_nil) (nomark _))
          (pw_and1 (pt_cmpR op_eq (pe_ix ix_list (pe_dget hu (pv 0) pe_str (fun _ _ => rfl)) pe_int (fun _ _ => rfl)) pe_int (nomark _)))).pt
        (pss_one (ps_dput hu (pv 0) pe_str (pe_slice sl_list (pe_dget hu (pv 0) pe_str (fun _ _ => rfl)) (po_some pe_int) po_none) rfl)))
      (pss_cons (ps_if (pt_cmpR (op_neD hu2) (pe_dget hu (pv 0) pe_str (fun _ _ => rfl)) (pe_lst pa_nil) (nomark _))
        (pss_cons (ps_set (i := 2) scN.nd rfl (Or.inl rfl) (pe_callTy call_int1 (by rfl) T.int (by decide +kernel) (pa_cons (pe_ix ix_list (pe_dget hu (pv 0) pe_str (fun _ _ => rfl)) pe_int (fun _ _ => rfl)) pa_nil)))
        (pss_cons (ps_asg (pe_op op_fdiv (pv 2) (pv 1)) (pg_sub (pe_dget hu (pv 0) pe_str (fun _ _ => rfl)) pe_int set_list))
        (pss_one (ps_ret (pe_op op_mod (pv 2) (pv 1)))))) pss_nil)
      (pss_cons (ps_set (i := 3) scN.nd rfl (Or.inl rfl) (pe_op op_add (pe_dget hu (pv 0) pe_str (fun _ _ => rfl)) pe_int))
      (pss_cons (ps_dput hu (pv 0) pe_str (pv 3) rfl)
      (pss_cons (ps_set (i := 4) scN.nd rfl (Or.inl rfl) (pe_ifExp (pt_cmpR (op_neD hu2) (pe_dget hu (pv 0) pe_str (fun _ _ => rfl)) (pe_lst pa_nil) (nomark _))
        (pe_ix ix_list (pe_dget hu (pv 0) pe_str (fun _ _ => rfl))
          (pe_op op_mod (pe_callTy call_int1 (by rfl) T.int (by decide +kernel) (pa_cons (pv 3) pa_nil)) (pe_callB call_len_seq (by rfl) T.len PySem.boot_len (pa_cons (pe_dget hu (pv 0) pe_str (fun _ _ => rfl)) pa_nil))) (fun _ _ => rfl))
        pe_int))
      (pss_cons (ps_set (i := 5) scN.nd rfl (Or.inl rfl) (pe_op op_mul (pe_callTy call_int1 (by rfl) T.int (by decide +kernel) (pa_cons
        (pe_op op_add (pe_op op_add (pe_op op_mod (pe_callTy call_int1 (by rfl) T.int (by decide +kernel) (pa_cons (pv 4) pa_nil)) pe_int) (pe_op op_mul pe_int (pv 3))) (pe_op op_mul (pe_op op_mul pe_int (pv 3)) (pv 3))) pa_nil)) pe_int))
      (pss_cons (ps_set (i := 5) scN.nd rfl (Or.inl rfl) (pe_op op_mul (pe_callTy call_int1 (by rfl) T.int (by decide +kernel) (pa_cons
        (pe_op op_add (pe_op op_mod (pe_callTy call_int1 (by rfl) T.int (by decide +kernel) (pa_cons (pv 5) pa_nil)) pe_int) (pe_op op_mul pe_int (pv 3))) pa_nil)) pe_int))
      (pss_one (ps_ret (pe_op op_mod (pe_callTy call_int1 (by rfl) T.int (by decide +kernel) (pa_cons
        (pe_op op_fdiv (pe_op op_mod (pe_callTy call_int1 (by rfl) T.int (by decide +kernel) (pa_cons (pv 5) pa_nil)) pe_int) pe_int) pa_nil)) (pv 1)))))))))), ?_⟩
    obtain ⟨ls0, hl0, ll0⟩ := id M.hl
    refine seq_while (fun j H1 => ∃ (l1 : Addr) (ls : List Int), MAt H1 m c l1 k ∧ H1 l1 = some (.lst (ls.map V.int)) ∧ ls.length = j ∧ (l1 = l ∨ H l1 = none) ∧ (∀ b o, H b = some o → b ≠ m → b ≠ l → H1 b = some o) ∧ ∃ o, H1 l = some o)
      (fun H1 => ∃ (l1 : Addr) (ls : List Int), MAt H1 m c l1 k ∧ H1 l1 = some (.lst (ls.map V.int)) ∧ (l1 = l ∨ H l1 = none) ∧ (∀ b o, H b = some o → b ≠ m → b ≠ l → H1 b = some o))
      ⟨l, ls0, M, hl0, rfl, .inl rfl, fun b o e _ _ => e, _, hl0⟩ ?_ ?_
    · rintro H1 ⟨l1, ls, M1, hl, fl, kp⟩
      refine rd_left rfl M1 (ne_empty hl fun p hp => ?_)
      have M2 := MAt.same M1 (same_upd (o := .lst []) hp)
      have hl2 : upd H1 p (.lst []) l1 = some (.lst (ls.map V.int)) := same_upd hp _ _ hl
      cases ls with
      | cons x r =>
        refine iteT' rfl ?_
        refine rd_left rfl M2 ?_
        refine ⟨l1, _, 0, .int x, rfl, rfl, SqL.of hl2, atI_nat (j := 0) rfl, .inl ⟨x, rfl, ?_⟩⟩
        refine ⟨_, rfl, _, rfl, x, n, rfl, rfl, ⟨n0, by omega⟩, ?_⟩
        refine rd_left rfl M2 ?_
        refine ⟨l1, _, 0, 0, rfl, rfl, hl2, by simp [ixN], ?_⟩
        refine ⟨_, rfl, _, rfl, x, n, rfl, rfl, n0, ?_⟩
        show Q (.int (x % n)) _
        have hz : ((x / n) :: r).length ≤ 1000 := by
          obtain ⟨ls', e1, e2⟩ := M2.hl
          rw [hl2] at e1
          have e3 := congrArg List.length (HO.lst.inj (Option.some.inj e1))
          simp only [List.length_map] at e3
          rw [List.length_cons] at e3 ⊢
          omega
        refine q (x % n) _ l1 k (Int.emod_nonneg _ (by omega)) (Int.emod_lt_of_pos _ n0) (by omega) (M2.set hz) fl fun b o e h1 h2 => ?_
        have h3 : b ≠ l1 := by
          rcases fl with z | z
          · rw [z]
            exact h2
          · exact ne_of_none e z
        rw [upd_ne h3]
        exact same_upd hp _ _ (kp b o e h1 h2)
      | nil =>
        refine iteF' rfl ?_
        refine rd_at rfl M2 ⟨k, 1, rfl, rfl, ?_⟩
        refine ⟨_, rfl, _, rfl, m, _, rfl, DPut.k (k := Sum.inr "at") M2.hm (small1000 (by show 3 ≤ 1000; decide)), ?_⟩
        rw [p_at]
        have M3 := M2.count (k' := k + 1) (by have := M2.k0; omega) (by omega)
        obtain ⟨cs, hc, lc⟩ := id M3.hc
        have k0 := M.k0
        have kp3 : ∀ b o, H b = some o → b ≠ m → b ≠ l → upd (upd H1 p (.lst [])) m (.dK (mkv c l1 (k + 1))) b = some o := fun b o e h1 h2 => by
          rw [upd_ne h1]
          exact same_upd hp _ _ (kp b o e h1 h2)
        refine rd_cells rfl M3 (ne_empty hc fun p3 hp3 => ?_)
        have M4 := MAt.same M3 (same_upd (o := .lst []) hp3)
        have hc4 := same_upd (o := .lst []) hp3 _ _ hc
        have kp4 : ∀ b o, H b = some o → b ≠ m → b ≠ l → upd (upd (upd H1 p (.lst [])) m (.dK (mkv c l1 (k + 1)))) p3 (.lst []) b = some o := fun b o e h1 h2 => same_upd hp3 _ _ (kp3 b o e h1 h2)
        apply byAll
        case a =>
          intro fin
          by_cases he : cs.isEmpty = true
          · refine iteF' (by rw [he]; rfl) ?_
            generalize (3 : Int) = x
            exact fin x
          · refine iteT' (by simpa using he) ?_
            refine rd_cells rfl M4 ?_
            have ne0 : 0 < cs.length := List.length_pos_iff.mpr (fun z => he (by rw [z]; rfl))
            have pos : (0 : Int) < ((cs.map V.int).length : Nat) := by
              simp only [List.length_map]
              omega
            refine ⟨_, rfl, .inl ⟨k + 1, rfl, ?_⟩⟩
            refine rd_cells rfl M4 ?_
            refine ⟨c, _, rfl, .inl (SqL.of hc4), k + 1, _, rfl, rfl, pos, ?_⟩
            have i0 := Int.emod_nonneg (k + 1) (Int.ne_of_gt pos)
            have i1 := Int.emod_lt_of_pos (k + 1) pos
            obtain ⟨j, hj⟩ := Int.eq_ofNat_of_zero_le i0
            have jl : j < cs.length := by
              simp only [List.length_map] at i1 hj
              omega
            obtain ⟨x, hx⟩ : ∃ x : Int, cs[j]? = some x := ⟨cs[j], List.getElem?_eq_getElem jl⟩
            refine ⟨c, _, _, V.int x, rfl, rfl, SqL.of hc4, ?_, ?_⟩
            · rw [hj]
              refine atI_nat ?_
              rw [List.getElem?_map, hx]
              rfl
            · exact fin x
        case b =>
          intro x
          have k2 : -(2 ^ 64) < k + 1 ∧ k + 1 < 2 ^ 64 := ⟨by omega, by omega⟩
          refine ⟨_, rfl, .inl ⟨x, rfl, _, _, rfl, rfl, (by show (0 : Int) < 2147483629; decide), _, rfl, _, _, rfl, rfl, .inl ⟨by decide, by decide⟩, _, _, rfl, rfl, _, rfl, _, _, rfl, rfl, .inl ⟨by decide, by decide⟩,
            _, rfl, _, _, rfl, rfl, .inr k2, _, _, rfl, rfl, .inl ⟨_, rfl, _, _, rfl, rfl, .inr ⟨by decide, by decide⟩, ?_⟩⟩⟩
          refine ⟨_, rfl, .inl ⟨_, rfl, _, _, rfl, rfl, (by show (0 : Int) < 2147483647; decide), _, rfl, _, _, rfl, rfl, .inl ⟨by decide, by decide⟩, _, _, rfl, rfl, .inl ⟨_, rfl, _, _, rfl, rfl, .inr ⟨by decide, by decide⟩, ?_⟩⟩⟩
          refine ⟨_, rfl, .inl ⟨_, rfl, _, _, rfl, rfl, (by show (0 : Int) < 2147483587; decide), _, _, rfl, rfl, ⟨by decide, by decide⟩, .inl ⟨_, rfl, _, rfl, _, _, rfl, rfl, n0, ?_⟩⟩⟩
          exact q _ _ l1 (k + 1) (Int.emod_nonneg _ (by omega)) (Int.emod_lt_of_pos _ n0) (by omega) M4 fl kp4
    · rintro out j H1 ⟨l1, ls, M1, hl, lj, fl, kp, lo⟩
      refine rd_left rfl M1 (ne_empty hl fun p hp => ?_)
      have M2 := MAt.same M1 (same_upd (o := .lst []) hp)
      have hl2 : upd H1 p (.lst []) l1 = some (.lst (ls.map V.int)) := same_upd hp _ _ hl
      have kp2 : ∀ b o, H b = some o → b ≠ m → b ≠ l → upd H1 p (.lst []) b = some o := fun b o e h1 h2 => same_upd hp _ _ (kp b o e h1 h2)
      have lo2 : ∃ o, upd H1 p (.lst []) l = some o := lo.elim fun o e => ⟨o, same_upd hp _ _ e⟩
      cases ls with
      | nil =>
        refine iteF' rfl (iteF' rfl ?_)
        exact out _ ⟨l1, [], M2, hl2, fl, kp2⟩
      | cons x r =>
        refine iteT' rfl (rd_left rfl M2 ⟨l1, _, 0, .int x, rfl, rfl, SqL.of hl2, atI_nat (j := 0) rfl, rfl, _, rfl, ?_⟩)
        refine ite2 (fun z => ?_) (fun z => ?_)
        · refine ⟨_, fun _ _ z => z, ?_⟩
          refine rd_left rfl M2 ⟨1, rfl, l1, _, rfl, SqL.of hl2, fun p2 hp2 => ?_⟩
          have M3 : MAt (upd (upd H1 p (.lst [])) p2 (.lst (cutV ((x :: r).map V.int) (some 1) none))) m c l1 k := MAt.same M2 (same_upd hp2)
          refine ⟨_, rfl, m, _, rfl, DPut.k (k := Sum.inr "left") M3.hm (small1000 (by show 3 ≤ 1000; decide)), ?_⟩
          rw [p_left, cut_one]
          have hz : ((x :: r).drop 1).length ≤ 1000 := by
            obtain ⟨ls', e1, e2⟩ := M2.hl
            rw [hl2] at e1
            have e3 := congrArg List.length (HO.lst.inj (Option.some.inj e1))
            simp only [List.length_map] at e3
            rw [List.length_cons] at e3
            simp only [List.drop_succ_cons, List.drop_zero]
            omega
          have mp : p2 ≠ m := (ne_of_none M2.hm hp2).symm
          refine ⟨r.length, by rw [← lj]; simp, rfl, p2, r, M2.turn hp2 hz, by rw [upd_ne mp]; exact upd_same, rfl, .inr ?_, fun b o e h1 h2 => ?_, ?_⟩
          · cases q0 : H p2 with
            | none => rfl
            | some o =>
              have a2 : p2 ≠ l := by
                obtain ⟨o, e⟩ := lo2
                exact (ne_of_none e hp2).symm
              rw [kp2 p2 o q0 mp a2] at hp2
              cases hp2
          · rw [upd_ne h1]
            exact same_upd hp2 _ _ (kp2 b o e h1 h2)
          · obtain ⟨o, e⟩ := lo2
            refine ⟨o, ?_⟩
            by_cases lm : l = m
            · subst lm
              rw [M.hm] at hl0
              cases hl0
            · rw [upd_ne lm]
              exact same_upd hp2 _ _ e
        · exact out _ ⟨l1, x :: r, M2, hl2, fl, kp2⟩
theorem scB : FnScope ["script", "cell"] ["script"] (defScope sBegun) := ⟨rfl, rfl, rfl, by decide +kernel, rfl, by decide +kernel, by decide +kernel⟩
theorem ok_begun {f : Addr} {fd : FuncData} (F : Fun K "_law_begun" "_law_begun" sBegun f fd) (T : TxtD mg) : FnOk P w K mg base CX0 1 f fd ["script"] (spBegun K) := by
  refine F.ok scB (fun vs H Q E h => ?_) (fun cdv A outer s H vs Q E hr h => ?_)
  · obtain ⟨a, ns, rfl, _⟩ := h
    rfl
  · obtain ⟨a, ns, rfl, hS, hl, q⟩ := h
    refine ⟨_, pss_one (ps_ret (pe_disp (pps_cons pe_str (pe_callTy call_list_of (by rfl) T.list (by decide +kernel) (pa_cons (pv 0) pa_nil))
      (pps_cons pe_str (pe_lc (own := [("cell", 1)]) (g := gName 1) rfl scB.nd (pi_list (pv 0)) (blkOk_by (N := ["script", "cell"]) (sc := defScope sBegun) (by decide +kernel))
        (fun _ _ _ _ _ => pg_name (i := 1) scB.nd rfl (Or.inl rfl)) (fun _ _ _ _ _ => pts_one (pt_cmpR op_ge (pv 1) (pe_op op_pow pe_int pe_int) (nomark _))) (fun _ _ _ _ _ => pv 1))
      (pps_cons pe_str pe_int pps_nil))) rfl rfl (by simp) (by decide))), ?_⟩
    intro m hm
    have s1 : Same H (upd H m (.dK [])) := same_upd hm
    refine ⟨_, rfl, a, ns.map V.int, rfl, .inl (s1.seq hS), fun c hc => ?_⟩
    have s2 := s1.trans (same_upd (o := .lst (ns.map V.int)) hc)
    refine ⟨_, rfl, a, rfl, ⟨_, s2.seq hS⟩, fun l hl0 => ?_⟩
    have mc : m ≠ c := ne_of_none upd_same hc
    have hm2 : upd (upd H m (.dK [])) c (.lst (ns.map V.int)) m = some (.dK []) := by
      rw [upd_ne mc]
      exact upd_same
    have ml : m ≠ l := ne_of_none hm2 hl0
    have cl : c ≠ l := ne_of_none (upd_same) hl0
    refine lc_list (K := K) (a := a) (xs := ns.map V.int) (fun i H' => ∃ acc : List Int, H' l = some (.lst (acc.map V.int)) ∧ acc.length ≤ i ∧ ∀ b o, upd (upd H m (.dK [])) c (.lst (ns.map V.int)) b = some o → H' b = some o)
      ⟨[], upd_same, Nat.le_refl _, fun b o e => same_upd hl0 _ _ e⟩ (fun i H' _ ⟨acc, _, _, k⟩ => Same.seq (s2.trans k) hS) ?_ ?_
    · rintro i x H' hi ⟨acc, ha, la, kp⟩
      obtain ⟨z, rfl⟩ : ∃ z, x = V.int z := by
        rw [List.getElem?_map] at hi
        cases e : ns[i]? with
        | none =>
          rw [e] at hi
          cases hi
        | some z =>
          rw [e] at hi
          exact ⟨z, (Option.some.inj hi).symm⟩
      have il : i < ns.length := by
        have := (List.getElem?_eq_some_iff.mp hi).1
        simpa using this
      refine ⟨rfl, _, rfl, 10, 18, rfl, rfl, ⟨by decide, by decide, by decide⟩, _, _, rfl, rfl, _, rfl, ?_⟩
      refine ite2 (fun _ => ⟨_, rfl, acc.map V.int, ha, ?_, acc ++ [z], ?_, ?_, fun b o e => ?_⟩) (fun _ => ⟨acc, ha, Nat.le_succ_of_le la, kp⟩)
      · rw [List.length_map]
        exact small1000 (by omega)
      · rw [List.map_append]
        exact upd_same
      · simp only [List.length_append, List.length_cons, List.length_nil]
        omega
      · rw [upd_ne (ne_of_none e hl0)]
        exact kp b o e
    · rintro H' ⟨acc, ha, la, kp⟩
      rw [List.length_map] at la
      refine ⟨kp _ _ hm2, mkv c l 0, rfl, (by show 3 ≤ 15; decide), ?_⟩
      rw [mk_merge]
      have lm : l ≠ m := ml.symm
      have cm : c ≠ m := mc.symm
      refine q m c l _ ⟨upd_same, ⟨ns, by rw [upd_ne cm]; exact kp _ _ upd_same, hl⟩, ⟨acc, by rw [upd_ne lm]; exact ha, by omega⟩, cl, by decide, by decide⟩ hm (s1.free hc) (s2.free hl0) fun b o e => ?_
      rw [upd_ne (ne_of_none e hm)]
      exact kp _ _ (s2 _ _ e)
end
end K06
/-! is_number, is_piece, is_step: of what a framing holds. -/
namespace K06
open PySem L2 L2.EV
abbrev sNum : Stmt := top 11
abbrev sPc : Stmt := top 12
abbrev sStep : Stmt := top 13
def sgs : List Nat := sl ("abcdefghijklmnopqrstuvwxyz0123456789@" : Str)
theorem no59 : ¬ (59 ∈ sgs) := by decide +kernel
theorem semi : sl (";" : Str) = [59] := by decide +kernel
theorem semi1 : (";" : Str).length = 1 := by decide +kernel
/-- a piece; it ends a line if last -/
def Pc (p : Str) (last : Bool) : Prop := ∃ b : List Nat, sl p = b ++ (if last = true then [59] else []) ∧ b.length ≤ 7 ∧ (∀ c ∈ b, c ∈ sgs) ∧ (last = false → b ≠ [])
theorem len_sl (p : Str) : p.length = (sl p).length := by
  show p.cps.size = p.cps.toList.length
  simp
theorem pc_len {p : Str} {l : Bool} (h : Pc p l) : 1 ≤ p.length ∧ p.length ≤ 8 := by
  obtain ⟨b, e, h1, _, h2⟩ := h
  rw [len_sl, e, List.length_append]
  cases l with
  | true =>
    rw [if_pos rfl]
    simp only [List.length_cons, List.length_nil]
    omega
  | false =>
    have := List.length_pos_iff.mpr (h2 rfl)
    rw [if_neg (by simp)]
    simp only [List.length_nil]
    omega
theorem at_end {p : Str} : Builtin.Str.subAt p ";" (p.length - (";" : Str).length) = (((sl p).drop ((sl p).length - 1)).take 1 == [59]) := by
  rw [StrLaws.subAt_eq, semi1, len_sl]
  show (((sl p).drop _).take 1 == sl (";" : Str)) = _
  rw [semi]
theorem pc_last {p : Str} {l : Bool} (h : Pc p l) : (decide (0 + (";" : Str).length ≤ p.length) && Builtin.Str.subAt p ";" (p.length - (";" : Str).length)) = l := by
  have z := pc_len h
  rw [at_end]
  have d : decide (0 + (";" : Str).length ≤ p.length) = true := decide_eq_true (by rw [semi1]; omega)
  rw [d, Bool.true_and]
  obtain ⟨b, e, h1, hb, h2⟩ := h
  rw [e]
  cases l with
  | true =>
    rw [if_pos rfl]
    simp
  | false =>
    rw [if_neg (by simp), List.append_nil]
    obtain ⟨M, y, rfl⟩ := SrtO.snoc_of (l := b) (List.length_pos_iff.mpr (h2 rfl))
    have hy : y ∈ sgs := hb y (by simp)
    have ne : ¬ y = 59 := fun q => no59 (q ▸ hy)
    simp [ne]
theorem pc_ends {p : Str} {l : Bool} (h : Pc p l) : Txt.endswith p ";" = l := pc_last h
theorem pc_cut {p : Str} {l : Bool} (h : Pc p l) : ∀ c ∈ sl (Txt.removesuffix p ";"), c ∈ sgs := by
  have z := pc_last h
  rw [StrLaws.removesuffix_eq]
  rw [show (decide (0 + (";" : Str).length ≤ p.length) && Builtin.Str.subAt p ";" (p.length - (";" : Str).length)) = l from z]
  obtain ⟨b, e, h1, hb, h2⟩ := h
  intro c hc
  cases l with
  | true =>
    rw [if_pos rfl] at hc e
    rw [semi1, len_sl] at hc
    have e' : p.cps.toList = b ++ [59] := e
    simp only [e, e', List.drop_zero, List.length_append, List.length_cons, List.length_nil] at hc
    have : (b ++ [59]).take (b.length + (0 + 1) - 1 - 0) = b := by simp
    rw [this] at hc
    exact hb c (by simpa using hc)
  | false =>
    rw [if_neg (by simp)] at hc
    rw [e, if_neg (by simp), List.append_nil] at hc
    exact hb c hc
/-- is_number(n, many) -/
def spNum : Sp := fun vs H Q _ => ∃ n m : Int, vs = [.int n, .int m] ∧ Q (.bl (decide (0 ≤ n) && decide (n < m))) H
/-- is_piece(p), p a piece -/
def spPc : Sp := fun vs H Q _ => ∃ (p : Str) (l : Bool), vs = [.str p] ∧ Pc p l ∧ ∀ H', Same H H' → Q (.bl true) H'
/-- what a step is -/
def Stp (x : T3) : Prop := 0 ≤ x.1 ∧ x.1 < 6 ∧ Pc x.2.1 (decide (x.2.2 = 0)) ∧ 0 ≤ x.2.2 ∧ x.2.2 < 6
/-- a step at t -/
abbrev S3 (H : Hp) (t : Addr) (x : T3) : Prop := H t = some (.tup [.int x.1, .str x.2.1, .int x.2.2])
def spStep : Sp := fun vs H Q _ => ∃ (t : Addr) (x : T3), vs = [.ref t] ∧ S3 H t x ∧ Stp x ∧ ∀ H', Same H H' → Q (.bl true) H'
structure TxtF (mg : Str → Option Value) : Prop where
  isi : mg "isinstance" = none
  int : mg "int" = none
  bool : mg "bool" = none
  str : mg "str" = none
  tuple : mg "tuple" = none
  len : mg "len" = none
  all : mg "all" = none
  signs : ∃ t, mg "SIGNS" = some (.str "abcdefghijklmnopqrstuvwxyz0123456789@" t)
  mSigns : ∃ t, mg "MOST_SIGNS" = some (.int 8 t)
  many : ∃ t, mg "MANY_STANDINGS" = some (.int 6 t)
section
variable {P : Program} {w : World} {K : PySem.W.Frag} {mg : Str → Option Value} {base : Heap}
theorem scNum : FnScope ["thing", "many"] ["thing", "many"] (defScope sNum) := ⟨rfl, rfl, rfl, by decide +kernel, rfl, by decide +kernel, by decide +kernel⟩
theorem ok_num {f : Addr} {fd : FuncData} (F : Fun K "is_number" "is_number" sNum f fd) (T : TxtF mg) : FnOk P w K mg base CX0 1 f fd ["thing", "many"] spNum := by
  refine F.ok scNum (fun vs H Q E h => ?_) (fun cdv A outer s H vs Q E hr h => ?_)
  · obtain ⟨n, m, rfl, _⟩ := h
    rfl
  · obtain ⟨n, m, rfl, q⟩ := h
    refine ⟨_, pss_one (ps_ret (pe_and (pe_callB call_isi (by rfl) T.isi PyProof.Rows.boot_isinstance (pa_cons (pv 0) (pa_cons (pe_bltn (v := .ty "int") (by rfl) T.int (by decide +kernel) rfl) pa_nil)))
      (pe_and (pe_not (pe_callB call_isi (by rfl) T.isi PyProof.Rows.boot_isinstance (pa_cons (pv 0) (pa_cons (pe_bltn (v := .ty "bool") (by rfl) T.bool (by decide +kernel) rfl) pa_nil))))
        (pe_one (pe_chain op_le op_lt pe_int (pv 0) (pv 1)))))), ?_⟩
    refine ⟨_, rfl, .int n, .ty "int", .type "int", .type "int", true, rfl, .ty "int", .base (.int n), kit_ty (by decide +kernel), true, rfl, iteT ?_⟩
    refine ⟨_, rfl, .int n, .ty "bool", .type "int", .type "bool", false, rfl, .ty "bool", .base (.int n), kit_ty (by decide +kernel), false, rfl, true, rfl, iteT ?_⟩
    refine ⟨_, rfl, 0, n, rfl, rfl, _, rfl, ?_⟩
    refine ite2 (fun z => ?_) (fun z => ?_)
    · refine ⟨_, rfl, n, m, rfl, rfl, ?_⟩
      rw [z, Bool.true_and] at q
      exact q
    · rw [eq_false_of_ne_true z, Bool.false_and] at q
      exact q
theorem scPc : FnScope ["thing", "sign"] ["thing"] (defScope sPc) := ⟨rfl, rfl, rfl, by decide +kernel, rfl, by decide +kernel, by decide +kernel⟩
theorem ok_pc {f : Addr} {fd : FuncData} (F : Fun K "is_piece" "is_piece" sPc f fd) (T : TxtF mg) : FnOk P w K mg base CX0 1 f fd ["thing"] spPc := by
  refine F.ok scPc (fun vs H Q E h => ?_) (fun cdv A outer s H vs Q E hr h => ?_)
  · obtain ⟨p, l, rfl, _⟩ := h
    rfl
  · obtain ⟨p, l, rfl, hp, q⟩ := h
    obtain ⟨ts, eS⟩ := T.signs
    obtain ⟨tm, eM⟩ := T.mSigns
    refine ⟨_, pss_cons (ps_if (pw_or (pt_not (pt_val (pe_callB call_isi (by rfl) T.isi PyProof.Rows.boot_isinstance (pa_cons (pv 0) (pa_cons (pe_bltn (v := .ty "str") (by rfl) T.str (by decide +kernel) rfl) pa_nil)))))
        (pw_or1 (pt_not (pt_chain op_le op_le pe_int (pe_callB call_len_str (by rfl) T.len PySem.boot_len (pa_cons (pv 0) pa_nil)) (pe_glob (v := .int 8) (by rfl) eM ⟨_, rfl⟩))))).pt
        (pss_one (ps_ret pe_bl)) pss_nil)
      (pss_one (ps_ret (pe_callB (cr_all rfl) (by rfl) T.all (by decide +kernel) (pa_cons (pe_lc (own := [("sign", 1)]) (g := gName 1) rfl scPc.nd
        (pi_str (pe_m1 PySem.F.slot_str_removesuffix PySem.F.type_str_removesuffix mt_removesuffix (pv 0) pe_str)) (blkOk_by (N := ["thing", "sign"]) (sc := defScope sPc) (by decide +kernel))
        (fun _ _ _ _ _ => pg_name (i := 1) scPc.nd rfl (Or.inl rfl)) (fun _ _ _ _ _ => pts_nil) (fun _ _ _ _ _ => pe_cmpR op_in_sign (pv 1) (pe_glob (v := .str "abcdefghijklmnopqrstuvwxyz0123456789@") (by rfl) eS ⟨_, rfl⟩) (by rfl))) pa_nil)))), ?_⟩
    have z := pc_len hp
    refine ⟨_, rfl, .str p, .ty "str", .type "str", .type "str", true, rfl, .ty "str", .base (.str p), kit_ty (by decide +kernel), true, rfl, iteF ?_⟩
    refine ⟨.str p, rfl, p, rfl, by rw [sizeLine_eq]; omega, 1, p.length, rfl, rfl, _, rfl, iteT' (decide_eq_true (by omega)) ⟨p.length, 8, rfl, rfl, _, rfl, ?_⟩⟩
    refine iteF' (by rw [decide_eq_true (by omega)]; rfl) ?_
    refine ⟨_, rfl, ⟨p, rfl⟩, p, ";", rfl, rfl, by rw [sizeLine_eq]; omega, _, rfl, fun D hD => ?_⟩
    refine lc_it walk_str (fun i H' => H' D = some (.lst ((List.replicate i true).map V.bl)) ∧ ∀ b o, H b = some o → H' b = some o) ⟨upd_same, fun b o z => same_upd hD b o z⟩ (fun _ _ _ _ => trivial) ?_ ?_
    · rintro i x H1 H2 hi ⟨hl, kp⟩ ⟨rfl, c, hc, rfl⟩
      refine ⟨rfl, ⟨_, rfl, c, _, rfl, rfl, ?_⟩⟩
      have hm : c ∈ sgs := pc_cut hp c (List.mem_of_getElem? (by simpa using hc))
      refine ⟨_, hl, ?_, ?_, fun b o z => ?_⟩
      · rw [List.length_map, List.length_replicate, sizeLine_eq]
        have l1 := PyProof.Rows.len_removesuffix p ";"
        have l2 : (Txt.removesuffix p ";").cps.size = (Txt.removesuffix p ";").length := rfl
        omega
      · have e : decide (c ∈ ("abcdefghijklmnopqrstuvwxyz0123456789@" : Str).cps.toList) = true := decide_eq_true hm
        rw [e, List.replicate_succ', List.map_append]
        exact upd_same
      · rw [upd_ne (ne_of_none z hD)]
        exact kp b o z
    · rintro H1 ⟨hl, kp⟩
      refine ⟨D, _, rfl, SqL.of hl, ?_⟩
      rw [show (List.replicate (Txt.removesuffix p ";").cps.size true).all id = true by simp]
      exact q H1 kp
theorem scStep : FnScope ["thing", "start", "piece", "goal"] ["thing"] (defScope sStep) := ⟨rfl, rfl, rfl, by decide +kernel, rfl, by decide +kernel, by decide +kernel⟩
theorem ok_step {f fN fP : Addr} {fd fdN fdP : FuncData} (F : Fun K "is_step" "is_step" sStep f fd) (T : TxtF mg) (FN : Fun K "is_number" "is_number" sNum fN fdN) (bN : Binds K fdN ["thing", "many"] []) (mN : mg "is_number" = some (.ref fN))
    (FP : Fun K "is_piece" "is_piece" sPc fP fdP) (bP : Binds K fdP ["thing"] []) (mP : mg "is_piece" = some (.ref fP)) : FnOk P w K mg base CX0 2 f fd ["thing"] spStep := by
  have GN : FnOk P w K mg base CX0 1 fN fdN ["thing", "many"] spNum := ok_num FN T
  have GP : FnOk P w K mg base CX0 1 fP fdP ["thing"] spPc := ok_pc FP T
  refine F.ok scStep (fun vs H Q E h => ?_) (fun cdv A outer s H vs Q E hr h => ?_)
  · obtain ⟨t, x, rfl, _⟩ := h
    rfl
  · obtain ⟨t, x, rfl, e, hx, q⟩ := h
    obtain ⟨tm, eM⟩ := T.many
    refine ⟨_, pss_cons (ps_if (pw_or (pt_not (pt_val (pe_callB call_isi (by rfl) T.isi PyProof.Rows.boot_isinstance (pa_cons (pv 0) (pa_cons (pe_bltn (v := .ty "tuple") (by rfl) T.tuple (by decide +kernel) rfl) pa_nil)))))
        (pw_or1 (pt_cmpR op_ne (pe_callB call_len_seq (by rfl) T.len PySem.boot_len (pa_cons (pv 0) pa_nil)) pe_int (nomark _)))).pt
        (pss_one (ps_ret pe_bl)) pss_nil)
      (pss_cons (ps_asg (pv 0) (pg_tup rfl (pgs_cons (pg_name (i := 1) scStep.nd rfl (Or.inl rfl)) (pgs_cons (pg_name (i := 2) scStep.nd rfl (Or.inl rfl)) (pgs_cons (pg_name (i := 3) scStep.nd rfl (Or.inl rfl)) pgs_nil)))))
      (pss_cons (ps_if (pw_or (pt_not (pt_val (pe_call GN hr (by rfl) mN FN.kp bN .nil pass0 (pa_cons (pv 1) (pa_cons (pe_glob (v := .int 6) (by rfl) eM ⟨_, rfl⟩) pa_nil)))))
        (pw_or (pt_not (pt_val (pe_call GP hr (by rfl) mP FP.kp bP .nil pass0 (pa_cons (pv 2) pa_nil))))
          (pw_or1 (pt_not (pt_val (pe_call GN hr (by rfl) mN FN.kp bN .nil pass0 (pa_cons (pv 3) (pa_cons (pe_glob (v := .int 6) (by rfl) eM ⟨_, rfl⟩) pa_nil)))))))).pt
        (pss_one (ps_ret pe_bl)) pss_nil)
      (pss_one (ps_ret (pe_cmpR op_eq (pe_m1 PySem.F.slot_str_endswith PySem.F.type_str_endswith mt_endswith (pv 2) pe_str) (pe_cmpR op_eq (pv 3) pe_int (nomark _)) (nomark _)))))), ?_⟩
    obtain ⟨h0, h6, hp, g0, g6⟩ := hx
    refine ⟨_, rfl, .ref t, .ty "tuple", .type "tuple", .type "tuple", true, rfl, .ty "tuple", .base (.tup e), kit_ty (by decide +kernel), true, rfl, iteF ?_⟩
    refine ⟨_, rfl, t, _, rfl, .inr (SqT.of e), rfl, _, rfl, iteF ?_⟩
    refine ⟨_, rfl, t, _, rfl, SqT.of e, rfl, _, _, rfl, _, _, rfl, _, _, rfl, rfl, ?_⟩
    refine ⟨_, rfl, x.1, 6, rfl, _, rfl, ?_⟩
    refine iteF' (by rw [decide_eq_true h0, decide_eq_true h6]; rfl) ?_
    refine ⟨_, rfl, x.2.1, _, rfl, hp, fun H1 s1 => ⟨_, rfl, iteF ?_⟩⟩
    refine ⟨_, rfl, x.2.2, 6, rfl, _, rfl, ?_⟩
    refine iteF' (by rw [decide_eq_true g0, decide_eq_true g6]; rfl) ?_
    refine ⟨_, rfl, ⟨_, rfl⟩, x.2.1, _, rfl, rfl, ⟨_, rfl, rfl, rfl, ?_⟩⟩
    rw [pc_ends hp]
    have e1 : decide (V.int x.2.2 = V.int 0) = decide (x.2.2 = 0) := by
      rw [dec_int]
      by_cases z : x.2.2 = 0
      · rw [z]
        rfl
      · rw [decide_eq_false z]
        exact beq_eq_false_iff_ne.mpr z
    rw [e1, decide_eq_true rfl]
    exact q H1 s1
end
end K06
/-! {elt for tg in iter if .. for tg1 in iter1 if ..}: a set of ints by a comprehension of two clauses. -/
namespace L2
namespace EV
open PySem PySem.Spec PyProof.Rows
/-- the comprehension itself -/
abbrev sc2 (elt t0 i0 t1 i1 : Expr) (f0 f1 : List Expr) (sc : Scope) (pos : Pos) : Expr := .SetComp elt [⟨t0, i0, f0, 0⟩, ⟨t1, i1, f1, 0⟩] sc pos
section
variable (elt t0 i0 t1 i1 : Expr) (f0 f1 : List Expr) (sc : Scope) (pos : Pos) (it acc : Value) (env : Env)
theorem turn_outer : compTurn (sc2 elt t0 i0 t1 i1 f0 f1 sc pos) 0 it acc env = (do
    standAt i0.pos
    match ← pyNext it with
    | none => pure (.done .next)
    | some u =>
      letOwnedTupleGo t0 it u
      assign t0 env u
      let mut go := true
      for c in f0 do
        if go then go ← isTrue c env (eval c env)
      if go then
        let xs ← eval i1 env
        standAt i1.pos
        let xs ← foldedSetIterable i1 env xs
        let _ ← runOwn (.compStart (sc2 elt t0 i0 t1 i1 f0 f1 sc pos) 1 (← holding [xs] (pyIter xs)) acc env) env
      again (.compLoop (sc2 elt t0 i0 t1 i1 f0 f1 sc pos) 0 it acc env)) := by rfl
theorem turn_inner : compTurn (sc2 elt t0 i0 t1 i1 f0 f1 sc pos) 1 it acc env = (do
    standAt i1.pos
    match ← pyNext it with
    | none => pure (.done .next)
    | some u =>
      letOwnedTupleGo t1 it u
      assign t1 env u
      let mut go := true
      for c in f1 do
        if go then go ← isTrue c env (eval c env)
      if go then
        (do let y ← eval elt env; standAt elt.pos; let _ ← call (.builtin "set.add") [acc, y])
      again (.compLoop (sc2 elt t0 i0 t1 i1 f0 f1 sc pos) 1 it acc env)) := by rfl
end
section
variable {prog : Program} {w : World} {A : Around} {R : Result → Shared → Prop} {s : Shared} {elt t0 i0 t1 i1 : Expr} {f0 f1 : List Expr} {sc : Scope} {pos : Pos} {it acc : Value} {env : Env}
/-- what is wanted of an error in the block -/
abbrev Erx (prog : Program) (w : World) (A : Around) (env : Env) (R : Result → Shared → Prop) : Value → Shared → Prop := notedBy (model prog w) A env fun e s' => R (.error e) s'
/-- the tests of a clause -/
abbrev tests (fs : List Expr) (env : Env) : Sem Bool := forIn fs true fun c r => if r = true then do let ok ← isTrue c env (eval c env); pure (ForInStep.yield ok) else pure (ForInStep.yield r)
theorem loop_outer (fold : ∀ x, foldedSetIterable i1 env x = pure x) (J : Nat → Shared → Prop)
    (turn : ∀ n s, J n s → wpAny (model prog w) A (pyNext it) (fun r s1 => match r with
      | none => R (.ok .next) s1
      | some u => wpAny (model prog w) A (letOwnedTupleGo t0 it u) (fun _ s2 => wpAny (model prog w) A (assign t0 env u) (fun _ s3 => wpAny (model prog w) A (tests f0 env) (fun ok s4 =>
          if ok = true then wpAny (model prog w) A (eval i1 env) (fun xs s5 => wpAny (model prog w) A (pyIter xs) (fun itv s6 =>
            codeAny (model prog w) A (.compStart (sc2 elt t0 i0 t1 i1 f0 f1 sc pos) 1 itv acc env) (fun r s' => (∃ fl, r = .ok fl) ∧ ∃ m, m < n ∧ J m s') s6) (Erx prog w A env R) s5) (Erx prog w A env R) s4
          else ∃ m, m < n ∧ J m s4) (Erx prog w A env R) s3) (Erx prog w A env R) s2) (Erx prog w A env R) s1) (Erx prog w A env R) s) (n : Nat) (h : J n s) :
    codeAny (model prog w) A (.compLoop (sc2 elt t0 i0 t1 i1 f0 f1 sc pos) 0 it acc env) R s := by
  refine codeAny_loop rfl J (fun n s hJ => ?_) n h
  show wpAny _ A ((compTurn (sc2 elt t0 i0 t1 i1 f0 f1 sc pos) 0 it acc env).onRaise (fun x => do noteFrame x env; theTreesLotGoes x)) _ _ s
  refine wpAny_noted ?_
  rw [turn_outer]
  refine wpAny_bind (wpAny_standAt (wpAny_bind (wpAny_mono (turn n s hJ) (fun r s1 q1 => ?_) fun _ _ z => z)))
  cases r with
  | none => exact wpAny_pure q1
  | some u =>
    refine wpAny_bind (wpAny_mono q1 (fun _ s2 q2 => ?_) fun _ _ z => z)
    refine wpAny_bind (wpAny_mono q2 (fun _ s3 q3 => ?_) fun _ _ z => z)
    refine wpAny_bind (wpAny_mono q3 (fun ok s4 q4 => ?_) fun _ _ z => z)
    cases ok with
    | false => exact wpAny_pure ⟨rfl, q4⟩
    | true =>
      refine wpAny_bind (wpAny_mono q4 (fun xs s5 q5 => ?_) fun _ _ z => z)
      refine wpAny_bind (wpAny_standAt (wpAny_bind (wpAny_of_eq (fold xs) ?_)))
      refine wpAny_bind (wpAny_holding (wpAny_mono q5 (fun itv s6 q6 => ?_) fun _ _ z => z))
      refine wpAny_bind (wpAny_runOwn ?_)
      rw [Around.mark_none]
      refine codeAny_mono q6 fun r s' hr => ?_
      obtain ⟨⟨fl, rfl⟩, hm⟩ := hr
      first
        | exact wpAny_pure ⟨rfl, hm⟩
        | exact wpAny_bind (wpAny_pure (wpAny_pure ⟨rfl, hm⟩))
theorem loop_inner (J : Nat → Shared → Prop)
    (turn : ∀ n s, J n s → wpAny (model prog w) A (pyNext it) (fun r s1 => match r with
      | none => R (.ok .next) s1
      | some u => wpAny (model prog w) A (letOwnedTupleGo t1 it u) (fun _ s2 => wpAny (model prog w) A (assign t1 env u) (fun _ s3 => wpAny (model prog w) A (tests f1 env) (fun ok s4 =>
          if ok = true then wpAny (model prog w) A (eval elt env) (fun y s5 => wpAny (model prog w) A (call (.builtin "set.add") [acc, y]) (fun _ s6 => ∃ m, m < n ∧ J m s6) (Erx prog w A env R) s5) (Erx prog w A env R) s4
          else ∃ m, m < n ∧ J m s4) (Erx prog w A env R) s3) (Erx prog w A env R) s2) (Erx prog w A env R) s1) (Erx prog w A env R) s) (n : Nat) (h : J n s) :
    codeAny (model prog w) A (.compLoop (sc2 elt t0 i0 t1 i1 f0 f1 sc pos) 1 it acc env) R s := by
  refine codeAny_loop rfl J (fun n s hJ => ?_) n h
  show wpAny _ A ((compTurn (sc2 elt t0 i0 t1 i1 f0 f1 sc pos) 1 it acc env).onRaise (fun x => do noteFrame x env; theTreesLotGoes x)) _ _ s
  refine wpAny_noted ?_
  rw [turn_inner]
  refine wpAny_bind (wpAny_standAt (wpAny_bind (wpAny_mono (turn n s hJ) (fun r s1 q1 => ?_) fun _ _ z => z)))
  cases r with
  | none => exact wpAny_pure q1
  | some u =>
    refine wpAny_bind (wpAny_mono q1 (fun _ s2 q2 => ?_) fun _ _ z => z)
    refine wpAny_bind (wpAny_mono q2 (fun _ s3 q3 => ?_) fun _ _ z => z)
    refine wpAny_bind (wpAny_mono q3 (fun ok s4 q4 => ?_) fun _ _ z => z)
    cases ok with
    | false => exact wpAny_pure ⟨rfl, q4⟩
    | true =>
      refine wpAny_bind (wpAny_bind (wpAny_mono q4 (fun y s5 q5 => ?_) fun _ _ z => z))
      refine wpAny_bind (wpAny_standAt (wpAny_bind (wpAny_mono q5 (fun _ s6 q6 => ?_) fun _ _ z => z)))
      exact wpAny_pure (wpAny_pure ⟨rfl, q6⟩)
/-- a clause's start: its walk is begun already, or begins here -/
theorem start_inner (h0 : codeAny (model prog w) A (.compLoop (sc2 elt t0 i0 t1 i1 f0 f1 sc pos) 1 it acc env) R s)
    (h : wpAny (model prog w) A (pyIter it) (fun itv s' => codeAny (model prog w) A (.compLoop (sc2 elt t0 i0 t1 i1 f0 f1 sc pos) 1 itv acc env) R s') (Erx prog w A env R) s) :
    codeAny (model prog w) A (.compStart (sc2 elt t0 i0 t1 i1 f0 f1 sc pos) 1 it acc env) R s := by
  refine codeAny_of_tree ?_
  show wpAny _ _ ((compStart (sc2 elt t0 i0 t1 i1 f0 f1 sc pos) 1 it acc env).onRaise (fun x => do noteFrame x env; standAt theWindowsPlace)) _ _ s
  refine wpAny_notedAt ?_
  unfold compStart
  show wpAny _ _ (ask >>= _) _ _ s
  refine wpAny_bind (wpAny_askSetting (wpAny_ite ?_))
  split
  · first
      | exact wpAny_bind (wpAny_pure (wpAny_pure (And.intro rfl h0)))
      | exact wpAny_pure (And.intro rfl h0)
  · refine wpAny_bind (wpAny_rule ?_)
    show wpAny _ _ (standAt i1.pos >>= _) _ _ s
    exact wpAny_bind (wpAny_standAt (wpAny_bind (wpAny_mono h (fun itv s' q => wpAny_pure (And.intro rfl q)) fun _ _ z => z)))
end
/-- the set at D has got y -/
def addedS (w : World) (D : Addr) (y : V) (H : Hp) (N : Hp → Prop) : Prop := ∃ (k : Int) (S : Int → Bool) (n : Nat), y = .int k ∧ H D = some (SetO w D S n) ∧ n + 1 < scanBound ∧
  N (upd H D (SetO w D (fun j => S j || decide (j = k)) (if S k = true then n else n + 1)))
/-- the reading: D the new set; behind the first clause's store and tests the second walk, from which Nx is reached -/
def tSc2 (w : World) (wi : TI) (g : TG) (tt : TT) (wi1 : TI) (g1 : TG) (tt1 : TT) (te : TE) (vs vs1 : List Nat) : TE := fun σ H Q => wi σ H fun J H1 => ∀ D, H1 D = none →
  ∃ W : Nat → Nat → Hp → Prop, (∃ m, W 0 m (upd H1 D (SetO w D (fun _ => false) 0))) ∧ ∀ i m H, W i m H →
    (J.stop i H ∧ Q (.ref D) H) ∨ (J.go i H ∧ ∃ Nx : Hp → Prop, (∀ H', Nx H' → ∃ m', m' < m ∧ W (i + 1) m' H') ∧ ∀ x H', J.yld i H x H' → g x (wipe σ vs) H' fun σ2 H2 => wipe σ2 vs = wipe σ vs ∧ tt σ2 H2 fun b H3 =>
      if b = true then wi1 σ2 H3 fun J1 H4 => ∃ W1 : Nat → Nat → Hp → Prop, (∃ m, W1 0 m H4) ∧ ∀ j k H, W1 j k H →
        (J1.stop j H ∧ Nx H) ∨ (J1.go j H ∧ ∃ Nx1 : Hp → Prop, (∀ H', Nx1 H' → ∃ k', k' < k ∧ W1 (j + 1) k' H') ∧ ∀ x H', J1.yld j H x H' → g1 x (wipe σ2 vs1) H' fun σ3 H5 => wipe σ3 vs1 = wipe σ2 vs1 ∧ tt1 σ3 H5 fun b H6 =>
          if b = true then te σ3 H6 fun y H7 => addedS w D y H7 Nx1 else Nx1 H6)
      else Nx H3)
section
variable {X : Cx}
theorem add_in {pins : List (Addr × Obj)} {σ : L2.St} {H : Hp} {s : Shared} {D : Addr} {y : V} {u : Value} {N : Hp → Prop} {Q : Value → Shared → Prop} (I : Inv X pins σ H s) (r : RelV y u) (a : addedS X.w D y H N)
    (h : ∀ H' s', Inv X pins σ H' s' → N H' → Q .none s') : wpAny (model X.prog X.w) X.A (call (.builtin "set.add") [.ref D, u]) Q X.xe s := by
  obtain ⟨k, S, n, rfl, hD, room, nx⟩ := a
  refine thn (mt_sadd pins s σ H (.ref D) [.int k] (.ref D) [u] (fun v H' => v = .non ∧ N H') I rfl (.cons r .nil) ⟨D, k, S, n, rfl, rfl, hD, room, rfl, nx⟩) fun v s' q => ?_
  obtain ⟨v', H', I', rv, rfl, nx'⟩ := q
  obtain rfl : v = Value.none := rv
  exact h H' s' I' nx'
variable {elt tg iter tg1 iter1 : Expr} {ifs ifs1 : List Expr} {scope : Scope} {own : List (Str × Nat)} {vs1 : List Nat} {pos : Pos} {wi wi1 : TI} {g g1 : TG} {tt tt1 : TT} {te : TE}
theorem pe_sc2 (hc : X.calm = true) (hN : X.N.Nodup) (hi : PI X tg iter wi) (ok : BlkOk X.N X.env.scope scope own) (hv : ∀ i ∈ vs1, i ∈ own.map (·.2))
    (blk : ∀ (s : Shared) (H : Hp) (C : Addr) (cl : List (Str × Addr)) (fp : List Addr), PG (X.blk s H scope (compEnvC scope cl C X.env) fp) tg g ∧ PTs (X.blk s H scope (compEnvC scope cl C X.env) fp) ifs tt ∧
      PI (X.blk s H scope (compEnvC scope cl C X.env) fp) tg1 iter1 wi1 ∧ PG (X.blk s H scope (compEnvC scope cl C X.env) fp) tg1 g1 ∧ PTs (X.blk s H scope (compEnvC scope cl C X.env) fp) ifs1 tt1 ∧
      PE (X.blk s H scope (compEnvC scope cl C X.env) fp) elt te)
    (fold : ∀ x, foldedSetIterable iter X.env x = pure x := by intro _; rfl) (fold1 : ∀ env x, foldedSetIterable iter1 env x = pure x := by intro _ _; rfl) :
    PE X (sc2 elt tg iter tg1 iter1 ifs ifs1 scope pos) (tSc2 X.w wi g tt wi1 g1 tt1 te (own.map (·.2)) vs1) := by
  refine ⟨fun pins s σ H Q I h => ?_⟩
  rw [PpSet.eval_SetComp]
  have cellOf : ∀ y ∈ scope.names, y.2 = .free → ∃ c, X.env.cells.lookup y.1 = some c := fun y hy e => (ok.free y hy e).elim (fun k => I.ok.has _ (.inl k)) fun k => I.ok.has _ (.inr k)
  refine wpAny_comprehension_free (use := none) rfl fold (closure_ok cellOf) ok.kind (fun y hy e => by rw [ok.uniq y hy, e]) (thn (hi.run pins s σ H _ I h) fun xv s1 hx => thn hx fun itv s2 h2 => ?_)
  obtain ⟨it, fp, tn, J, H2, e, I2, T, st2, f2, q⟩ := h2
  subst e
  refine PpSet.newSet_ok (newEnv_comp ?_)
  generalize hD : s2.heap.objs.size = D
  have freeD : H2 D = none := I2.hok.fresh (Nat.le_of_eq hD)
  obtain ⟨W, ⟨m0, w0⟩, turn⟩ := q D freeD
  generalize hso : ({ cls := .type "set", dict := none, data := .set #[] 0 (.fresh 0 0 (!X.w.params.followText "set-order")) } : Obj) = so
  have keepSo : ∀ b o, s2.heap.get? b = some o → (s2.heap.push so).get? b = some o := fun b o e => Heap.get?_push_of_some _ e
  have I3 : Inv X pins σ (upd H2 D (SetO X.w D (fun _ => false) 0)) { s2 with heap := s2.heap.push so } := by
    refine I2.laid (t' := s2.toks) keepSo (Nat.le_of_eq hD) ?_
    rw [← hD, ← hso]
    exact setO_new (setR_fresh X.w)
  generalize hs3 : ({ s2 with heap := s2.heap.push so } : Shared) = s3 at I3 ⊢
  have h3 : s3.heap = s2.heap.push so := by rw [← hs3]
  have below : ∀ b ∈ fp, b < s2.heap.objs.size := fun b hb => (T.obj _ _ st2 b hb).elim fun o e => Heap.lt_size e.1
  generalize hH3 : upd H2 D (SetO X.w D (fun _ => false) 0) = H3 at I3 w0 ⊢
  have f3 : ∀ b ∈ fp, FpOk X pins H3 b ∧ b < s3.heap.objs.size := fun b hb => by
    have lt := below b hb
    refine ⟨⟨?_, (f2 b hb).2⟩, by rw [h3, Heap.size_push]; exact Nat.lt_succ_of_lt lt⟩
    rw [← hH3, upd_ne (by rw [← hD]; exact Nat.ne_of_lt lt)]
    exact (f2 b hb).1
  have st3 : tn 0 s3.heap := T.keep _ _ _ st2 fun b _ o e => by rw [h3]; exact keepSo b o e
  have I4 := block_start I3 ok hN f3
  obtain ⟨pg, pt, pi1, pg1, pt1, pe⟩ := blk s3 H3 s3.heap.objs.size (cellsFrom (s3.heap.objs.size + 1) scope.names (cloFrom X.env.cells scope.names [])) fp
  show codeAny _ _ (.compStart (sc2 elt tg iter tg1 iter1 ifs ifs1 scope pos) 0 (.ref it) (.ref D) (compEnvC scope (cellsFrom (s3.heap.objs.size + 1) scope.names (cloFrom X.env.cells scope.names [])) s3.heap.objs.size X.env))
    (compPost (model X.prog X.w) X.A X.xe none (EP X pins σ Q) (.ref D) s3.heap.objs.size) { s3 with heap := pushCells (s3.heap.push { cls := .type "dict", data := .dict #[] }) scope.names }
  generalize hce : compEnvC scope (cellsFrom (s3.heap.objs.size + 1) scope.names (cloFrom X.env.cells scope.names [])) s3.heap.objs.size X.env = ce at I4 pg pt pi1 pg1 pt1 pe ⊢
  have locals : ce.locals = s3.heap.objs.size := by
    subst hce
    rfl
  generalize hs4 : ({ s3 with heap := pushCells (s3.heap.push { cls := .type "dict", data := .dict #[] }) scope.names } : Shared) = s4 at I4 ⊢
  have st4 : tn 0 s4.heap := T.keep _ _ _ st3 fun b _ o e => by
    rw [← hs4]
    exact pushCells_keeps _ _ _ _ (Heap.get?_push_of_some _ e)
  have clearOf : ∀ {H' : Hp}, H3 = H' → ∀ b ∈ fp, H' b = none := fun e b hb => by
    rw [← e]
    exact (f3 b hb).1.1
  -- a record of the outer walk, within the block
  have outer : ∀ {σ' : L2.St} {H' : Hp} {s' : Shared}, Inv (X.blk s3 H3 scope ce fp) [] σ' H' s' → (∀ b ∈ fp, H' b = none) → ∀ b ∈ fp, FpOk (X.blk s3 H3 scope ce fp) [] H' b := fun I' clear b hb =>
    ⟨clear b hb, (I'.ok.exf b hb).1, I'.ok.exfs b hb, .inl hb, fun x c e => (I'.ok.exf b hb).2 x c e, fun p hp => by simp at hp⟩
  -- what the outer loop keeps
  let Keep : Nat → Shared → Prop := fun n s' => ∃ i H', Inv (X.blk s3 H3 scope ce fp) [] (wipe σ (own.map (·.2))) H' s' ∧ tn i s'.heap ∧ (∀ b ∈ fp, H' b = none) ∧ W i n H'
  have loop : codeAny (model X.prog X.w) X.A (.compLoop (sc2 elt tg iter tg1 iter1 ifs ifs1 scope pos) 0 (.ref it) (.ref D) ce) (compPost (model X.prog X.w) X.A X.xe none (EP X pins σ Q) (.ref D) s3.heap.objs.size) s4 := by
    refine loop_outer (fold1 ce) Keep ?_ m0 ⟨0, H3, I4, st4, clearOf rfl, w0⟩
    rintro n s5 ⟨i, H5, I5, st5, n5, w5⟩
    rcases turn i n H5 w5 with ⟨stop, done⟩ | ⟨go, Nx, hNx, one⟩
    · refine thnF (T.done (X.blk s3 H3 scope ce fp) rfl rfl rfl hc i [] s5 _ H5 (fun _ _ => False) I5 (outer I5 n5) st5 stop) fun r s6 ⟨hr, I6⟩ => ?_
      subst hr
      have I7 : Inv X pins σ H5 s6 := I3.call' (ch := fp) I6.os I6.base I6.hok I6.bare fun b hb => by
        obtain ⟨⟨z1, z2, z3, z4, z5, z6⟩, _⟩ := f3 b hb
        exact ⟨z4, z2, z5, z6⟩
      have free5 : H5 s3.heap.objs.size = none := by
        have z : H5 ce.locals = none := I6.free
        rw [locals] at z
        exact z
      obtain ⟨m, hn, _⟩ := I6.loc
      have hn : s6.heap.Ns ce.locals m := hn
      rw [locals] at hn
      obtain ⟨y0, y1, y2, y3, y4, y5⟩ := I3.fpOk (Nat.le_refl _) free5
      refine ⟨m, hn, fun h'' sb => ?_⟩
      exact ⟨.ref D, H5, I7.turned (t' := s6.toks) (fun b o nb e => (sb.2 b nb).trans e) y0 y1 y3 y4 y5, rfl, done⟩
    · refine thnF (T.item (X.blk s3 H3 scope ce fp) rfl rfl rfl hc i [] s5 _ H5 (fun _ _ => False) I5 (outer I5 n5) st5 go) fun r s6 ⟨u, hr, h6⟩ => ?_
      subst hr
      refine thnF h6 fun _ s7 ⟨x, H7, I7, r7, y7, st7, n7⟩ => ?_
      refine thnF (pg.run _ s7 _ H7 x u _ (I7.pinned (outer I7 n7) (T.obj _ _ st7)) r7 (one x H7 y7)) fun _ s8 ⟨σ8, H8, I8, hw8, q8⟩ => ?_
      refine thnF (pt.run _ s8 σ8 H8 _ I8 q8) fun b s9 ⟨H9, I9, q9⟩ => ?_
      have len8 : (wipe σ (own.map (·.2))).length = σ8.length := by rw [← hw8, wipe_length]
      have know8 : ∀ (j : Nat) v, (wipe σ (own.map (·.2)))[j]? = some (some v) → σ8[j]? = some (some v) ∧ j ∉ own.map (·.2) := fun j v e => by
        rw [← hw8] at e
        exact wipe_some e
      -- the turn's end, from any slots that know what the block knew
      have fin : ∀ {σ9 : L2.St} {s' : Shared} {H' : Hp}, Inv (X.blk s3 H3 scope ce fp) ([] ++ pinsAt fp s7.heap) σ9 H' s' → (wipe σ (own.map (·.2))).length = σ9.length →
          (∀ (j : Nat) v, (wipe σ (own.map (·.2)))[j]? = some (some v) → σ9[j]? = some (some v)) → Nx H' → ∃ m, m < n ∧ Keep m s' := fun {σ9 s' H'} I' hl hk nx => by
        obtain ⟨m', lt, w'⟩ := hNx H' nx
        have pinned : ∀ b ∈ fp, ∀ o, s7.heap.get? b = some o → s'.heap.get? b = some o ∧ H' b = none := fun b hb o e => by
          have z := I'.pin (b, o) (List.mem_append_right _ (List.mem_append_right _ (mem_pinsAt hb e)))
          exact ⟨z.1, z.2.1⟩
        refine ⟨m', lt, i + 1, H', (I'.unpinned (pins := [])).weak hl hk, T.keep _ _ _ st7 fun b hb o e => (pinned b hb o e).1, fun b hb => ?_, w'⟩
        obtain ⟨o, e, _⟩ := T.obj _ _ st7 b hb
        exact (pinned b hb o e).2
      cases b with
      | false =>
        simp only [Bool.false_eq_true, if_false] at q9 ⊢
        exact fin I9 len8 (fun j v e => (know8 j v e).1) q9
      | true =>
        simp only [if_true] at q9 ⊢
        refine thnF (pi1.run _ s9 σ8 H9 _ I9 q9) fun xv s10 hx => thnF hx fun itv s11 h11 => ?_
        obtain ⟨it1, fp1, tn1, J1, H11, e1, I11, T1, st11, f11, W1, ⟨m1, w1⟩, turn1⟩ := h11
        subst e1
        have inner : ∀ {H' : Hp}, (∀ b ∈ fp1, H' b = none) → ∀ b ∈ fp1, FpOk (X.blk s3 H3 scope ce fp) ([] ++ pinsAt fp s7.heap) H' b := fun clear b hb => ⟨clear b hb, (f11 b hb).2⟩
        let Keep1 : Nat → Shared → Prop := fun k s' => ∃ j H', Inv (X.blk s3 H3 scope ce fp) ([] ++ pinsAt fp s7.heap) (wipe σ8 vs1) H' s' ∧ tn1 j s'.heap ∧ (∀ b ∈ fp1, H' b = none) ∧ W1 j k H'
        have loop1 : codeAny (model X.prog X.w) X.A (.compLoop (sc2 elt tg iter tg1 iter1 ifs ifs1 scope pos) 1 (.ref it1) (.ref D) ce) (fun r s' => (∃ fl, r = .ok fl) ∧ ∃ m, m < n ∧ Keep m s') s11 := by
          refine loop_inner Keep1 ?_ m1 ⟨0, H11, I11.weak (wipe_length _ _) (fun j v e => (wipe_some e).1), st11, fun b hb => (f11 b hb).1, w1⟩
          rintro k s12 ⟨j, H12, I12, st12, n12, w12⟩
          rcases turn1 j k H12 w12 with ⟨stop1, nx1⟩ | ⟨go1, Nx1, hNx1, one1⟩
          · refine thnF (T1.done (X.blk s3 H3 scope ce fp) rfl rfl rfl hc j _ s12 (wipe σ8 vs1) H12 (fun _ _ => False) I12 (inner n12) st12 stop1) fun r s13 ⟨hr, I13⟩ => ?_
            subst hr
            refine ⟨⟨_, rfl⟩, fin I13 (len8.trans (wipe_length σ8 vs1).symm) (fun j v e => ?_) nx1⟩
            obtain ⟨z1, z2⟩ := know8 j v e
            rw [wipe_out fun z => z2 (hv j z)]
            exact z1
          · refine thnF (T1.item (X.blk s3 H3 scope ce fp) rfl rfl rfl hc j _ s12 (wipe σ8 vs1) H12 (fun _ _ => False) I12 (inner n12) st12 go1) fun r s13 ⟨u1, hr, h13⟩ => ?_
            subst hr
            refine thnF h13 fun _ s14 ⟨x1, H14, I14, r14, y14, st14, n14⟩ => ?_
            refine thnF (pg1.run _ s14 (wipe σ8 vs1) H14 x1 u1 _ (I14.pinned (inner n14) (T1.obj _ _ st14)) r14 (one1 x1 H14 y14)) fun _ s15 ⟨σ15, H15, I15, hw15, q15⟩ => ?_
            refine thnF (pt1.run _ s15 σ15 H15 _ I15 q15) fun b1 s16 ⟨H16, I16, q16⟩ => ?_
            have fin1 : ∀ {s' : Shared} {H' : Hp}, Inv (X.blk s3 H3 scope ce fp) (([] ++ pinsAt fp s7.heap) ++ pinsAt fp1 s14.heap) σ15 H' s' → Nx1 H' → ∃ m, m < k ∧ Keep1 m s' := fun {s' H'} I' nx => by
              obtain ⟨m', lt, w'⟩ := hNx1 H' nx
              have pinned : ∀ b ∈ fp1, ∀ o, s14.heap.get? b = some o → s'.heap.get? b = some o ∧ H' b = none := fun b hb o e => by
                have z := I'.pin (b, o) (List.mem_append_right _ (List.mem_append_right _ (mem_pinsAt hb e)))
                exact ⟨z.1, z.2.1⟩
              refine ⟨m', lt, j + 1, H', I'.unpinned.weak (by rw [← hw15, wipe_length]) (fun j v e => by rw [← hw15] at e; exact (wipe_some e).1), T1.keep _ _ _ st14 fun b hb o e => (pinned b hb o e).1, fun b hb => ?_, w'⟩
              obtain ⟨o, e, _⟩ := T1.obj _ _ st14 b hb
              exact (pinned b hb o e).2
            cases b1 with
            | false =>
              simp only [Bool.false_eq_true, if_false] at q16 ⊢
              exact fin1 I16 q16
            | true =>
              simp only [if_true] at q16 ⊢
              refine thnF (pe.run _ s16 σ15 H16 _ I16 q16) fun z s17 ⟨yv, H17, I17, r17, ad⟩ => ?_
              exact thnF (add_in (X := X.blk s3 H3 scope ce fp) (Q := fun _ s' => ∃ m, m < k ∧ Keep1 m s') I17 r17 ad fun H' s18 I18 nx => fin1 I18 nx) fun _ _ z => z
        exact start_inner loop1 (T1.self X.A 0 _ _ _ st11 loop1)
  exact PpSet.codeAny_compStart_set loop (T.self X.A 0 _ _ _ st4 loop)
end
end EV
end L2
/-! enumerate over a tuple. -/
namespace PySem
open Sem (wp)
open AutoSeq1 (wpAny_loadPart')
theorem meets_enumerate_newT (l : Addr) (items : Array Value) (n : Nat) (dct : Option Addr) (sl : Array (Option Value)) :
    Meets (Builtin.«enumerate.__new__» ⟨[.type "enumerate", .ref l], []⟩) (fun _ R s => s.heap.get? l = some { cls := .type "tuple", dict := dct, data := .seq items n, slots := sl } ∧
      R (.ok (.ret (.ref (s.heap.push { cls := .type "tuple_iterator", data := .fields #[.ref l, .int 0 0] }).objs.size)))
        { s with heap := (s.heap.push { cls := .type "tuple_iterator", data := .fields #[.ref l, .int 0 0] }).push { cls := .type "enumerate", data := .fields #[.none, .bool false, .ref s.heap.objs.size, rawInt 0, .none, .none] } }) :=
  .of_wp fun prog w A R s h => by
    obtain ⟨hp, g, d, tk, os⟩ := s; obtain ⟨hl, h⟩ := h
    have hsub := sub_enumerate
    have hL : Heap.IsTuple (Shared.heap ⟨hp, g, d, tk, os⟩) l items := ⟨_, hl, rfl, n, rfl⟩
    wp_walk using wpAny_loadPart' hl
    refine wpAny_stack_any fun st => wpAny_pure ?_
    split
    · rename_i c _ _ _ _ _
      cases (c == Value.type "enumerate")
      · wp_walk using wpAny_loadPart' hl, wpAny_pyIter_tuple hL
        exact ⟨_, rfl, h⟩
      · wp_walk using wpAny_loadPart' hl, wpAny_pyIter_tuple hL
        exact ⟨_, rfl, h⟩
    · wp_walk using wpAny_loadPart' hl, wpAny_pyIter_tuple hL
      exact ⟨_, rfl, h⟩
section
variable {prog : Program} {w : World} {A : Around} {E : Value → Shared → Prop} {s : Shared}
theorem call_enumerate_tuple {l : Addr} {items : Array Value} {Q : Value → Shared → Prop} (hL : s.heap.IsTuple l items)
    (h : ∀ h', IsEnum h' (s.heap.objs.size + 1) s.heap.objs.size 0 .none → h'.IsTupleIter s.heap.objs.size l 0 → h'.objs.size = s.heap.objs.size + 2 →
      (∀ b o, s.heap.get? b = some o → h'.get? b = some o) → Q (.ref (s.heap.objs.size + 1)) { s with heap := h' }) :
    wpAny (model prog w) A (call (.type "enumerate") [.ref l]) Q E s := by
  obtain ⟨⟨c, dct, dt, sl⟩, hl, hc, n, hd⟩ := hL
  replace hc : c = .type "tuple" := hc
  replace hd : dt = .seq items n := hd
  subst hc hd
  refine callType_new F.called_enumerate (by decide) (F.typeCall_enumerate_1 _) (F.newCall_enumerate_1 _) (fun obj => F.args_object_init_2 obj _) F.entry_enumerate_new
    (meets_enumerate_newT l items n dct sl) ⟨hl, ?_⟩
  have hz : (s.heap.push { cls := .type "tuple_iterator", data := .fields #[.ref l, .int 0 0] }).objs.size = s.heap.objs.size + 1 := Heap.size_push ..
  show _ ∧ _
  rw [hz]
  have he : IsEnum ((s.heap.push { cls := .type "tuple_iterator", data := .fields #[.ref l, .int 0 0] }).push
      { cls := .type "enumerate", data := .fields #[.none, .bool false, .ref s.heap.objs.size, rawInt 0, .none, .none] }) (s.heap.objs.size + 1) s.heap.objs.size 0 .none := by
    have := Heap.get?_push_size (s.heap.push { cls := .type "tuple_iterator", data := .fields #[.ref l, .int 0 0] })
      (o := { cls := .type "enumerate", data := .fields #[.none, .bool false, .ref s.heap.objs.size, rawInt 0, .none, .none] }) rfl
    rw [hz] at this; exact this
  refine ⟨⟨_, he, rfl⟩, h _ he ⟨_, Heap.get?_push_of_some _ (Heap.get?_push_size _ rfl), rfl, rfl⟩ (by rw [Heap.size_push, hz]) fun b o x => Heap.get?_push_of_some _ (Heap.get?_push_of_some _ x)⟩
end
end PySem
namespace L2
open PySem PySem.Spec PyProof.Rows
def IteT (K : PySem.W.Frag) (a : Addr) : It :=
  ⟨fun i H => ∃ (xs : List V) (x : V), SqT K H a xs ∧ xs[i]? = some x, fun i H v H' => ∃ T x, v = .ref T ∧ H T = none ∧ H' = upd H T (.tup [.int (i : Nat), x]) ∧ ∀ xs, SqT K H a xs → xs[i]? = some x, fun i H => ∃ xs : List V, SqT K H a xs ∧ xs.length = i⟩
theorem turn_enumT {P : Program} {w : World} {K : PySem.W.Frag} {elts : List Expr} {kk : Nat} {tpos : Pos} (a e it : Addr) (hai : a ≠ it) (hae : a ≠ e) :
    Turn P w K (.Tuple elts kk tpos) (IteT K a) [e, it] e (fun i h => (∃ old, IsEnum h e it ((i : Nat) : Int) old) ∧ h.IsTupleIter it a i ∧ e ≠ it) where
  mem := by simp
  obj := fun i h st b hb => by
    obtain ⟨⟨old, he⟩, ⟨o, ho, hc, hd⟩, _⟩ := st
    have e' : b = e ∨ b = it := by simpa using hb
    rcases e' with z | z
    · rw [z]; exact ⟨_, he, fun v q => nomatch q⟩
    · rw [z]; exact ⟨o, ho, fun v q => by rw [hd] at q; cases q⟩
  keep := fun i h h' st k => let ⟨⟨old, he⟩, hi, hne⟩ := st; ⟨⟨old, k e (by simp) _ he⟩, hi.at fun o q => k it (by simp) o q, hne⟩
  item := by
    intro X hP hw hK hc i pins s σ H E I hf st hg
    subst hP hw hK
    obtain ⟨⟨old, he⟩, hit, hne⟩ := st
    obtain ⟨xs, x, hq, hx⟩ := hg
    obtain ⟨its, rv, p, hz⟩ := I.tuple hq
    obtain ⟨u, hu, ru⟩ := rv.get hx
    have hel : e < s.heap.objs.size := Heap.lt_size he
    have hil : it < s.heap.objs.size := by obtain ⟨_, q, _⟩ := hit; exact Heap.lt_size q
    have hlt : i < its.toArray.size := by
      have := (List.getElem?_eq_some_iff.mp hu).1
      simpa using this
    refine wpAny_pyNext_enum_itemD (Draws.tuple (A := X.A.in1) (show X.A.in1.handled = none from I.ok.hd hc) it a hai its.toArray) he ⟨hit, show s.heap.IsTuple a its.toArray from p⟩ hlt hne (by simp [hne, Ne.symm hae]) fun u' h' tk hu' ho st' hT hsz hk => ?_
    have e0 : u' = u := by
      have q1 : its[i]? = some u' := by simpa using hu'
      rw [hu] at q1
      exact (Option.some.inj q1).symm
    subst e0
    obtain ⟨hit', _⟩ := st'
    refine ⟨_, rfl, wpAny_letOwnedTupleGo_enum (s := { s with heap := h', toks := tk + 1 }) ho fun h'' he' sb => ?_⟩
    have hT2 : h''.get? s.heap.objs.size = some { cls := .type "tuple", data := .seq #[.int i tk, u'] } := (sb.2 _ (Nat.ne_of_gt hel)).trans hT
    have new : ObjOk X.prog X.w (upd H s.heap.objs.size (.tup [.int (i : Nat), x])) h'' s.heap.objs.size (.tup [.int (i : Nat), x]) :=
      ⟨by show 2 ≤ sizeLine; decide, [.int i tk, u'], .cons ⟨_, rfl⟩ (.cons ru .nil), ⟨_, hT2, rfl, _, rfl⟩⟩
    have I1 : Inv X pins σ (upd H s.heap.objs.size (.tup [.int (i : Nat), x])) { s with heap := h'', toks := tk + 1 } :=
      I.turnedNew (ch := [e, it]) (fun b ob hb q => (sb.2 b (fun z => hb (by simp [z]))).trans (hk b ob (fun z => hb (by simp [z])) (fun z => hb (by simp [z])) q)) hf (Nat.le_refl _) new
    refine ⟨.ref s.heap.objs.size, _, I1, rfl, ⟨_, x, rfl, I.hok.fresh (Nat.le_refl _), rfl, fun ys hy => by rw [I.tuple_inj hy hq]; exact hx⟩, ⟨⟨u', ?_⟩, hit'.at fun o q => (sb.2 it (Ne.symm hne)).trans q, hne⟩, fun b hb => ?_⟩
    · have e1 : ((i + 1 : Nat) : Int) = (i : Int) + 1 := by omega
      rw [e1]; exact he'
    · have hb' : b < s.heap.objs.size := by
        have e' : b = e ∨ b = it := by simpa using hb
        rcases e' with z | z
        · rw [z]; exact hel
        · rw [z]; exact hil
      rw [upd_ne (Nat.ne_of_lt hb')]
      exact (hf b hb).1
  done := by
    intro X hP hw hK hc i pins s σ H E I hf st hg
    subst hP hw hK
    obtain ⟨⟨old, he⟩, hit, hne⟩ := st
    obtain ⟨xs, hq, hx⟩ := hg
    obtain ⟨its, rv, p, hz⟩ := I.tuple hq
    obtain ⟨f0, f1, f2, f3, f4, f5⟩ := hf it (by simp)
    have hl := rv.length
    have hn : its.toArray.size = i := by simp; omega
    exact wpAny_pyNext_enum_endD (Draws.tuple (A := X.A.in1) (show X.A.in1.handled = none from I.ok.hd hc) it a hai its.toArray) he ⟨hn.symm ▸ hit, show s.heap.IsTuple a its.toArray from p⟩ fun h' eb => ⟨rfl, I.turned (t' := s.toks) (fun b o hb q => eb b o hb q) f0 f1 f3 f4 f5⟩
  self := fun A i s Q E st h => let ⟨⟨_, he⟩, _⟩ := st; wpAny_pyIter_enum he h
def iEnumT (K : PySem.W.Frag) (ta : TA) : TI := fun σ H R => ta σ H fun vs H1 => ∃ a xs, vs = [.ref a] ∧ SqT K H1 a xs ∧ R (IteT K a) H1
theorem pi_enumT {X : Cx} {e : Expr} {ta : TA} {p pos tpos : Pos} {elts : List Expr} {kk : Nat} (hg : Gl X "enumerate") (hm : X.mg "enumerate" = none) (ha : PA X [e] ta) (hs : starEach [e] X.env = [(false, eval e X.env)] := by rfl) :
    PI X (.Tuple elts kk tpos) (.Call (.Name "enumerate" p) [e] [] pos) (iEnumT X.K ta) := by
  refine ⟨fun pins s σ H R I h => ?_⟩
  refine Call_ (ld_blt I hg hm boot_enumerate (PyProof.Rows.callWith_type1 (thn (ha.run pos pins s σ H _ I h) fun us s1 ⟨vs, H1, I1, r1, q1⟩ => ?_) hs rfl))
  obtain ⟨a, xs, ex, hq, q⟩ := q1
  subst ex
  cases r1 with
  | cons r rr =>
    cases rr
    cases r
    obtain ⟨its, rv, p', hz⟩ := I1.tuple hq
    have hal : a < s1.heap.objs.size := by
      obtain ⟨o, q, _⟩ := id p'
      exact Heap.lt_size q
    refine call_enumerate_tuple (show s1.heap.IsTuple a its.toArray from p') fun h' he hit hsz hk => wpAny_pyIter_enum he ?_
    have I2 : Inv X pins σ H1 { s1 with heap := h' } := I1.kept (t' := s1.toks) hk
    refine ⟨s1.heap.objs.size + 1, [s1.heap.objs.size + 1, s1.heap.objs.size], _, _, H1, rfl, I2, turn_enumT a (s1.heap.objs.size + 1) s1.heap.objs.size (Nat.ne_of_lt hal) (Nat.ne_of_lt (Nat.lt_succ_of_lt hal)), ⟨⟨.none, he⟩, hit, Nat.succ_ne_self _⟩, fun b hb => ?_, q⟩
    have e' : b = s1.heap.objs.size + 1 ∨ b = s1.heap.objs.size := by simpa using hb
    have hle : s1.heap.objs.size ≤ b := by
      rcases e' with z | z
      · rw [z]; exact Nat.le_add_right _ _
      · rw [z]; exact Nat.le_refl _
    exact I1.fpOk hle (I1.hok.fresh hle)
theorem walk_enumT {K : PySem.W.Frag} {a : Addr} {xs : List V} : Walk (IteT K a) xs.length (fun H => SqT K H a xs) (YPair (fun i => some (.int (i : Nat))) (fun i => xs[i]?)) := by
  refine ⟨fun i _ hi q => ⟨xs, xs[i], q, by simp [hi]⟩, fun _ q => ⟨xs, q, rfl⟩, fun i H v H' _ q y => ?_⟩
  obtain ⟨T, x, h1, h2, h3, h4⟩ := y
  exact ⟨T, .int (i : Nat), x, h1, h2, h3, rfl, h4 xs q⟩
end L2
/-! Framings; listed_standings. -/
namespace K06
open PySem L2 L2.EV
abbrev sListed : Stmt := top 14
/-- a framing at f -/
def FrA (H : Hp) (f : Addr) (fr : List T3) : Prop := ∃ ts : List Addr, H f = some (.tup (ts.map V.ref)) ∧ ts.length = fr.length ∧ ∀ (i : Nat) t x, ts[i]? = some t → fr[i]? = some x → S3 H t x
theorem FrA.same {H H' : Hp} {f : Addr} {fr : List T3} (h : FrA H f fr) (s : Same H H') : FrA H' f fr := by
  obtain ⟨ts, e, l, c⟩ := h
  exact ⟨ts, s _ _ e, l, fun i t x h1 h2 => s _ _ (c i t x h1 h2)⟩
structure Frm (fr : List T3) (last : Nat) : Prop where
  l0 : 1 ≤ fr.length
  l1 : fr.length ≤ 16
  stp : ∀ x ∈ fr, Stp x
  srt : fr.Pairwise (fun x y => lt3 x y = true)
  ring : ∀ k : Nat, k ≤ last → ∃ x ∈ fr, x.1 = (k : Int) ∧ x.2.2 = (if k < last then (k : Int) + 1 else 0)
  lo : ∀ x ∈ fr, x.1 ≤ last ∧ x.2.2 ≤ last
  l5 : last ≤ 5
/-- what is closed under the steps, from b on, holds all standings -/
theorem Frm.all {fr : List T3} {last : Nat} (F : Frm fr last) {S : Int → Prop} {b : Nat} (hb : b ≤ last) (c0 : ∀ x ∈ fr, x.1 = (b : Int) → S x.2.2) (c : ∀ x ∈ fr, S x.1 → S x.2.2) : ∀ k : Nat, k ≤ last → S k := by
  have up : ∀ j : Nat, b + j ≤ last → j = 0 ∨ S ((b + j : Nat) : Int) := by
    intro j
    induction j with
    | zero => exact fun _ => .inl rfl
    | succ j ih =>
      intro h
      obtain ⟨x, hx, e1, e2⟩ := F.ring (b + j) (by omega)
      rw [if_pos (by omega)] at e2
      have e3 : (((b + (j + 1) : Nat)) : Int) = ((b + j : Nat) : Int) + 1 := by omega
      rw [e3, ← e2]
      refine .inr ?_
      rcases ih (by omega) with z | z
      · subst z
        exact c0 x hx (by simpa using e1)
      · exact c x hx (by rw [e1]; exact z)
  have s0 : S 0 := by
    obtain ⟨x, hx, e1, e2⟩ := F.ring last (Nat.le_refl _)
    rw [if_neg (by omega)] at e2
    rw [← e2]
    obtain ⟨j, rfl⟩ := Nat.le.dest hb
    rcases up j (Nat.le_refl _) with z | z
    · subst z
      exact c0 x hx (by simpa using e1)
    · exact c x hx (by rw [e1]; exact z)
  intro k
  induction k with
  | zero => exact fun _ => s0
  | succ k ih =>
    intro h
    obtain ⟨x, hx, e1, e2⟩ := F.ring k (by omega)
    rw [if_pos (by omega)] at e2
    have e3 : ((k + 1 : Nat) : Int) = (k : Int) + 1 := by omega
    rw [e3, ← e2]
    exact c x hx (by rw [e1]; exact ih (by omega))
theorem sc_it {J : It} {n : Nat} {G : Hp → Prop} {Y : Nat → Hp → V → Hp → Prop} (w : Walk J n G Y) {H0 : Hp} {Qd : Hp → Prop} {body : V → Hp → (Hp → Prop) → Prop} (Pv : Nat → Hp → Prop) (h0 : Pv 0 H0) (hG : ∀ i H, i ≤ n → Pv i H → G H)
    (hs : ∀ i x H H', i < n → Pv i H → Y i H x H' → body x H' (Pv (i + 1))) (hd : ∀ H, Pv n H → Qd H) :
    ∃ W : Nat → Nat → Hp → Prop, (∃ m, W 0 m H0) ∧ ∀ i m H, W i m H → (J.stop i H ∧ Qd H) ∨ (J.go i H ∧ ∃ Nx : Hp → Prop, (∀ H', Nx H' → ∃ m', m' < m ∧ W (i + 1) m' H') ∧ ∀ x H', J.yld i H x H' → body x H' Nx) := by
  refine ⟨fun i m H => m = n - i ∧ i ≤ n ∧ Pv i H, ⟨n, by simp, Nat.zero_le _, h0⟩, ?_⟩
  rintro i m H ⟨rfl, hi, p⟩
  have q := hG i H hi p
  by_cases hlt : i < n
  · exact .inr ⟨w.goes i H hlt q, Pv (i + 1), fun H' p' => ⟨n - (i + 1), by omega, rfl, hlt, p'⟩, fun x H' y => hs i x H H' hlt p (w.yields i H x H' hlt q y)⟩
  · have e : i = n := by omega
    subst e
    exact .inl ⟨w.stops H q, hd H p⟩
theorem at_step {H : Hp} {ts : List Addr} {fr : List T3} {i : Nat} {x : V} (hl : ts.length = fr.length) (ht : ∀ (i : Nat) t x, ts[i]? = some t → fr[i]? = some x → S3 H t x) (hx : (ts.map V.ref)[i]? = some x) :
    ∃ t y, fr[i]? = some y ∧ x = .ref t ∧ S3 H t y := by
  rw [List.getElem?_map] at hx
  cases e : ts[i]? with
  | none =>
    rw [e] at hx
    cases hx
  | some t =>
    rw [e] at hx
    have il : i < fr.length := by
      have := (List.getElem?_eq_some_iff.mp e).1
      omega
    exact ⟨t, fr[i], List.getElem?_eq_getElem il, (Option.some.inj hx).symm, ht i t _ e (List.getElem?_eq_getElem il)⟩
/-- listed_standings(framing): a new list of numbers up to last -/
def spListed : Sp := fun vs H Q _ => ∃ (f : Addr) (fr : List T3) (last : Nat), vs = [.ref f] ∧ FrA H f fr ∧ Frm fr last ∧
  ∀ (H' : Hp) (p : Addr) (ns : List Int), Same H H' → H p = none → H' p = some (.lst (ns.map V.int)) → ns.length ≤ 32 → (∀ k ∈ ns, 0 ≤ k ∧ k ≤ last) → Q (.ref p) H'
theorem pe_sc2s {X : Cx} {elt tg iter tg1 iter1 : Expr} {ifs ifs1 : List Expr} {scope : Scope} {own : List (Str × Nat)} {vs1 : List Nat} {pos : Pos} {wi wi1 : TI} {g g1 : TG} {tt tt1 : TT} {te : TE} (hc : X.calm = true) (hN : X.N.Nodup) (hi : PI X tg iter wi) (ok : BlkOk X.N X.env.scope scope own) (hv : ∀ i ∈ vs1, i ∈ own.map (·.2))
    (b1 : ∀ (s : Shared) (H : Hp) (C : Addr) (cl : List (Str × Addr)) (fp : List Addr), PG (X.blk s H scope (compEnvC scope cl C X.env) fp) tg g)
    (b2 : ∀ (s : Shared) (H : Hp) (C : Addr) (cl : List (Str × Addr)) (fp : List Addr), PTs (X.blk s H scope (compEnvC scope cl C X.env) fp) ifs tt)
    (b3 : ∀ (s : Shared) (H : Hp) (C : Addr) (cl : List (Str × Addr)) (fp : List Addr), PI (X.blk s H scope (compEnvC scope cl C X.env) fp) tg1 iter1 wi1)
    (b4 : ∀ (s : Shared) (H : Hp) (C : Addr) (cl : List (Str × Addr)) (fp : List Addr), PG (X.blk s H scope (compEnvC scope cl C X.env) fp) tg1 g1)
    (b5 : ∀ (s : Shared) (H : Hp) (C : Addr) (cl : List (Str × Addr)) (fp : List Addr), PTs (X.blk s H scope (compEnvC scope cl C X.env) fp) ifs1 tt1)
    (b6 : ∀ (s : Shared) (H : Hp) (C : Addr) (cl : List (Str × Addr)) (fp : List Addr), PE (X.blk s H scope (compEnvC scope cl C X.env) fp) elt te)
    (fold : ∀ x, foldedSetIterable iter X.env x = pure x := by intro _; rfl) (fold1 : ∀ env x, foldedSetIterable iter1 env x = pure x := by intro _ _; rfl) :
    PE X (.SetComp elt [⟨tg, iter, ifs, 0⟩, ⟨tg1, iter1, ifs1, 0⟩] scope pos) (tSc2 X.w wi g tt wi1 g1 tt1 te (own.map (·.2)) vs1) :=
  pe_sc2 hc hN hi ok hv (fun s H C cl fp => ⟨b1 s H C cl fp, b2 s H C cl fp, b3 s H C cl fp, b4 s H C cl fp, b5 s H C cl fp, b6 s H C cl fp⟩) fold fold1
theorem same_set {D : Addr} {H H' : Hp} {o : HO} (hD : H D = none) (k : Same H H') : Same H (upd H' D o) := fun b u e => by
  rw [upd_ne (ne_of_none e hD)]
  exact k _ _ e
theorem scan64 : 64 < scanBound := by decide +kernel
section
variable {P : Program} {w : World} {K : PySem.W.Frag} {mg : Str → Option Value} {base : Heap}
theorem scListed : FnScope ["framing", "start", "piece", "goal", "standing"] ["framing"] (defScope sListed) := ⟨rfl, rfl, rfl, by decide +kernel, rfl, by decide +kernel, by decide +kernel⟩
theorem ok_listed {f : Addr} {fd : FuncData} (F : Fun K "listed_standings" "listed_standings" sListed f fd) (hs : mg "sorted" = none) : FnOk P w K mg base CX0 1 f fd ["framing"] spListed := by
  refine F.ok scListed (fun vs H Q E h => ?_) (fun cdv A outer s H vs Q E hr h => ?_)
  · obtain ⟨f, fr, last, rfl, _⟩ := h
    rfl
  · obtain ⟨f, fr, last, rfl, fa, fm, q⟩ := h
    refine ⟨_, pss_one (ps_ret (pe_callB (cr_sortedSet rfl) (by rfl) hs (by decide +kernel) (pa_cons (pe_sc2s (g := gTup K 3 (gCons (gName 1) (gCons (gName 2) (gCons (gName 3) gNil)))) (tt := tYes) (wi1 := iTup K (tTup (tCons (tVar 1) (tCons (tVar 3) tNil)))) (g1 := gName 4) (tt1 := tYes) (te := tVar 4) (own := [("start", 1), ("piece", 2), ("goal", 3), ("standing", 4)]) (vs1 := [4]) rfl scListed.nd (pi_tup (pv 0))
      (blkOk_by (N := ["framing", "start", "piece", "goal", "standing"]) (sc := defScope sListed) (by decide +kernel)) (by decide)
      (fun _ _ _ _ _ => pg_tup rfl (pgs_cons (pg_name (i := 1) scListed.nd rfl (Or.inl rfl)) (pgs_cons (pg_name (i := 2) scListed.nd rfl (Or.inl rfl)) (pgs_cons (pg_name (i := 3) scListed.nd rfl (Or.inl rfl)) pgs_nil)))) (fun _ _ _ _ _ => pts_nil)
      (fun _ _ _ _ _ => pi_tup (pe_tup (pa_cons (pv 1) (pa_cons (pv 3) pa_nil)))) (fun _ _ _ _ _ => pg_name (i := 4) scListed.nd rfl (Or.inl rfl)) (fun _ _ _ _ _ => pts_nil) (fun _ _ _ _ _ => pv 4)) pa_nil))), ?_⟩
    obtain ⟨ts, hf, hl, ht⟩ := id fa
    refine ⟨_, rfl, f, rfl, ⟨_, SqT.of hf⟩, fun D hD => ?_⟩
    refine sc_it (walk_tup (xs := ts.map V.ref)) (fun i H' => Same H H' ∧ ∃ (S : Int → Bool) (n : Nat), H' D = some (SetO w D S n) ∧ n ≤ 2 * i ∧ ∀ k, S k = true → 0 ≤ k ∧ k ≤ last)
      ⟨same_upd hD, _, _, upd_same, Nat.le_refl _, fun k z => by cases z⟩ (fun i H' _ z => SqT.of (z.1 _ _ hf)) ?_ ?_
    · rintro i x H1 H2 hi ⟨sm, S, n, hS, hn, hk⟩ ⟨rfl, hx⟩
      obtain ⟨t, y, hy, rfl, e3⟩ := at_step (i := i) hl ht hx
      have e4 : H2 t = _ := sm _ _ e3
      obtain ⟨b1, b2, _, b3, b4⟩ := fm.stp y (List.mem_of_getElem? hy)
      obtain ⟨b5, b6⟩ := fm.lo y (List.mem_of_getElem? hy)
      refine ⟨t, _, rfl, SqT.of e4, rfl, _, _, rfl, _, _, rfl, _, _, rfl, rfl, rfl, ?_⟩
      refine ⟨_, rfl, _, rfl, (by show 2 ≤ sizeLine; decide), fun p hp => ⟨p, rfl, ⟨_, SqT.of upd_same⟩, ?_⟩⟩
      refine sc_it (walk_tup (xs := [V.int y.1, V.int y.2.2])) (fun j H' => Same H H' ∧ H' p = some (.tup [V.int y.1, V.int y.2.2]) ∧ ∃ (S : Int → Bool) (n : Nat), H' D = some (SetO w D S n) ∧ n ≤ 2 * i + j ∧ ∀ k, S k = true → 0 ≤ k ∧ k ≤ last)
        ⟨fun b u e => same_upd hp _ _ (sm _ _ e), upd_same, S, n, by rw [upd_ne (ne_of_none hS hp)]; exact hS, hn, hk⟩ (fun j H' _ z => SqT.of z.2.1) ?_ ?_
      · rintro j x H2 H3 hj ⟨sm2, hp2, S2, n2, hS2, hn2, hk2⟩ ⟨rfl, hx2⟩
        have hj2 : j < 2 := hj
        obtain ⟨k, rfl, k0, k1⟩ : ∃ k : Int, x = .int k ∧ 0 ≤ k ∧ k ≤ last := by
          match j, hj2 with
          | 0, _ => exact ⟨y.1, (Option.some.inj hx2).symm, b1, b5⟩
          | 1, _ => exact ⟨y.2.2, (Option.some.inj hx2).symm, b3, b6⟩
        have sc := scan64
        have l1 := fm.l1
        have hi2 : i < fr.length := (List.getElem?_eq_some_iff.mp hy).1
        refine ⟨rfl, _, rfl, k, S2, n2, rfl, hS2, by omega, same_set hD sm2, ?_, _, _, upd_same, ?_, fun k2 z => ?_⟩
        · rw [upd_ne (ne_of hp2 hS2 (fun z => by cases z))]
          exact hp2
        · split <;> omega
        · rw [Bool.or_eq_true] at z
          rcases z with z | z
          · exact hk2 k2 z
          · have e5 : k2 = k := of_decide_eq_true z
            rw [e5]
            exact ⟨k0, k1⟩
      · rintro H2 ⟨sm2, hp2, S2, n2, hS2, hn2, hk2⟩
        refine ⟨sm2, S2, n2, hS2, ?_, hk2⟩
        have hn3 : n2 ≤ 2 * i + 2 := hn2
        omega
    · rintro H1 ⟨sm, S, n, hS, hn, hk⟩
      refine ⟨D, S, n, rfl, hS, ?_, fun ns p _ h2 h3 h4 => ?_⟩
      · have := fm.l1
        simp only [List.length_map] at hn
        omega
      · refine q _ p ns ?_ ?_ upd_same ?_ ?_
        · exact fun b u e => by
            rw [upd_ne (ne_of_none (sm _ _ e) h4)]
            exact sm _ _ e
        · exact sm.free h4
        · have := fm.l1
          simp only [List.length_map] at hn
          omega
        · exact fun k z => hk k ((h2 k).mp z)
end
end K06
/-! ways_from: all standings are found. -/
namespace K06
open PySem L2 L2.EV
abbrev sWays : Stmt := top 15
abbrev has (kvs : List (Key × V)) (g : Int) : Bool := (valV kvs (Sum.inl g : Key)).isSome
/-- ways_from(framing, b): a new dict that has all standings -/
def spWays : Sp := fun vs H Q _ => ∃ (f : Addr) (fr : List T3) (last b : Nat), vs = [.ref f, .int b] ∧ FrA H f fr ∧ Frm fr last ∧ b ≤ last ∧
  ∀ (H' : Hp) (d : Addr) (kvs : List (Key × V)), Same H H' → H d = none → H' d = some (.dK kvs) → (∀ k : Nat, k ≤ last → has kvs k = true) → Q (.ref d) H'
/-- the standings up to last that are not found -/
def miss (last : Nat) (kvs : List (Key × V)) : Nat := ((List.range (last + 1)).filter fun k : Nat => !has kvs k).length
theorem miss_le {last : Nat} {kvs : List (Key × V)} : miss last kvs ≤ last + 1 := by
  have := List.length_filter_le (fun k : Nat => !has kvs k) (List.range (last + 1))
  rw [List.length_range] at this
  exact this
theorem filt_lt {α : Type} {p q : α → Bool} : ∀ {l : List α} {a : α}, a ∈ l → p a = true → q a = false → (∀ x, q x = true → p x = true) → (l.filter q).length < (l.filter p).length
  | x :: l, a, hm, hp, hq, h => by
    have le : ∀ m : List α, (m.filter q).length ≤ (m.filter p).length := fun m => by
      induction m with
      | nil => exact Nat.le_refl _
      | cons y m ih =>
        rw [List.filter_cons, List.filter_cons]
        by_cases z : q y = true
        · rw [if_pos z, if_pos (h y z), List.length_cons, List.length_cons]
          omega
        · rw [if_neg z]
          split
          · rw [List.length_cons]
            omega
          · exact ih
    rw [List.filter_cons, List.filter_cons]
    rcases List.mem_cons.mp hm with z | z
    · subst z
      rw [if_pos hp, if_neg (by rw [hq]; simp), List.length_cons]
      have := le l
      omega
    · have ih := filt_lt z hp hq h
      by_cases y : q x = true
      · rw [if_pos y, if_pos (h x y), List.length_cons, List.length_cons]
        omega
      · rw [if_neg y]
        split
        · rw [List.length_cons]
          omega
        · exact ih
theorem has_put {kvs : List (Key × V)} {g k : Int} {v : V} : has (putK kvs (Sum.inl g) v) k = (decide (k = g) || has kvs k) := by
  unfold has
  rw [valV_put]
  by_cases e : k = g
  · subst e
    rw [if_pos rfl, decide_eq_true rfl]
    rfl
  · rw [if_neg (fun z => e (Sum.inl.inj z)), decide_eq_false e, Bool.false_or]
theorem miss_put {last : Nat} {kvs : List (Key × V)} {g : Int} {v : V} (h0 : 0 ≤ g) (h1 : g ≤ last) (n : has kvs g = false) : miss last (putK kvs (Sum.inl g) v) < miss last kvs := by
  obtain ⟨a, rfl⟩ := Int.eq_ofNat_of_zero_le h0
  refine filt_lt (a := a) (List.mem_range.mpr (by omega)) (by simp only [n, Bool.not_false]) ?_ ?_
  · rw [has_put, decide_eq_true rfl]
    rfl
  · intro x hx
    rw [has_put] at hx
    cases z : has kvs x with
    | false => rfl
    | true =>
      rw [z] at hx
      simp at hx
/-- the rows: tuples of a way and a standing -/
def Rows (H : Hp) (last n : Nat) (ps : List (Addr × Int)) : Prop := ∀ q ∈ ps, 0 ≤ q.2 ∧ q.2 ≤ last ∧ ∃ (wy : Addr) (xs : List V), H q.1 = some (.tup [.ref wy, .int q.2]) ∧ H wy = some (.tup xs) ∧ xs.length ≤ n
def KeepT (H H' : Hp) : Prop := ∀ a xs, H a = some (.tup xs) → H' a = some (.tup xs)
theorem Rows.keep {H H' : Hp} {last n m : Nat} {ps : List (Addr × Int)} (h : Rows H last n ps) (k : KeepT H H') (l : n ≤ m) : Rows H' last m ps := fun q hq => by
  obtain ⟨h0, h1, wy, xs, e1, e2, e3⟩ := h q hq
  exact ⟨h0, h1, wy, xs, k _ _ e1, k _ _ e2, Nat.le_trans e3 l⟩
theorem Same.keepT {H H' : Hp} (s : Same H H') : KeepT H H' := fun a xs e => s _ _ e
theorem KeepT.trans {H H' H2 : Hp} (a : KeepT H H') (b : KeepT H' H2) : KeepT H H2 := fun x xs e => b _ _ (a _ _ e)
theorem keepT_upd {H : Hp} {d : Addr} {o : HO} {o' : HO} (e : H d = some o') (n : ∀ xs, o' ≠ .tup xs) : KeepT H (upd H d o) := fun a xs h => by
  by_cases z : a = d
  · subst z
    rw [e] at h
    exact absurd (Option.some.inj h) (n xs)
  · rw [upd_ne z]
    exact h
/-- t + u, u not empty: the result is somewhere, all else stays -/
def rCatS (K : PySem.W.Frag) : R2 := fun x y H Q => ∃ a b xs ys, x = .ref a ∧ y = .ref b ∧ SqT K H a xs ∧ H b = some (.tup ys) ∧ ys ≠ [] ∧ xs.length + ys.length ≤ sizeLine ∧ ∀ p H', Same H H' → H' p = some (.tup (xs ++ ys)) → Q (.ref p) H'
theorem op_catS {X : Cx} : OpR X (binaryOp .Add) (rCatS X.K) := by
  intro pins s σ H x y v u Q I rx ry h
  obtain ⟨a, b, xs, ys, rfl, rfl, ha, hb, hn, hz, q⟩ := h
  refine op_catA pins s σ H _ _ v u Q I rx ry ⟨a, b, xs, ys, rfl, rfl, ha, SqT.of hb, hz, fun z => ?_, fun _ z => absurd z hn, fun _ _ p hp => q p _ (same_upd hp) upd_same⟩
  subst z
  exact q b H (fun _ _ e => e) (by rw [hb]; rfl)
structure Co (H0 H : Hp) (d r u : Addr) (last m0 : Nat) (ps qs : List (Addr × Int)) (kvs : List (Key × V)) : Prop where
  sm : Same H0 H
  hd : H d = some (.dK kvs)
  hr : H r = some (.lst (ps.map fun q => V.ref q.1))
  hu : H u = some (.lst (qs.map fun q => V.ref q.1))
  rp : Rows H last kvs.length ps
  rq : Rows H last kvs.length qs
  cnt : kvs.length + miss last kvs ≤ last + 1
  me : (qs = [] ∧ miss last kvs ≤ m0) ∨ miss last kvs < m0
  ql : qs.length ≤ kvs.length
theorem Co.same {H0 H H' : Hp} {d r u : Addr} {last m0 : Nat} {ps qs : List (Addr × Int)} {kvs : List (Key × V)} (C : Co H0 H d r u last m0 ps qs kvs) (s : Same H H') : Co H0 H' d r u last m0 ps qs kvs :=
  ⟨C.sm.trans s, s _ _ C.hd, s _ _ C.hr, s _ _ C.hu, C.rp.keep (Same.keepT s) (Nat.le_refl _), C.rq.keep (Same.keepT s) (Nat.le_refl _), C.cnt, C.me, C.ql⟩
/-- what is reached from a standing that stands in the rows, or is found -/
def Clo (fr : List T3) (b : Nat) (kvs : List (Key × V)) (open_ : Int → T3 → Prop) : Prop := ∀ x ∈ fr, (x.1 = (b : Int) ∨ has kvs x.1 = true) → open_ x.1 x ∨ has kvs x.2.2 = true
section
variable {P : Program} {w : World} {K : PySem.W.Frag} {mg : Str → Option Value} {base : Heap}
theorem scWays : FnScope ["framing", "begin", "found", "rows", "further", "way", "standing", "number", "start", "piece", "goal"] ["framing", "begin"] (defScope sWays) := ⟨rfl, rfl, rfl, by decide +kernel, rfl, by decide +kernel, by decide +kernel⟩
theorem ok_ways {f : Addr} {fd : FuncData} (F : Fun K "ways_from" "ways_from" sWays f fd) (he : mg "enumerate" = none) : FnOk P w K mg base CX0 1 f fd ["framing", "begin"] spWays := by
  refine F.ok scWays (fun vs H Q E h => ?_) (fun cdv A outer s H vs Q E hr h => ?_)
  · obtain ⟨f, fr, last, b, rfl, _⟩ := h
    rfl
  · obtain ⟨f, fr, last, b, rfl, fa, fm, hb, q⟩ := h
    have hu := hu_of hr
    refine ⟨_, pss_cons (ps_set (i := 2) scWays.nd rfl (Or.inl rfl) pe_dnewK)
      (pss_cons (ps_set (i := 3) scWays.nd rfl (Or.inl rfl) (pe_lst (pa_cons (pe_tup (pa_cons (pe_tup pa_nil) (pa_cons (pv 1) pa_nil))) pa_nil)))
      (pss_cons (ps_while PassesOwn.never (pt_truth (pv 3) (fun _ => rfl))
        (pss_cons (ps_set (i := 4) scWays.nd rfl (Or.inl rfl) (pe_lst pa_nil))
        (pss_cons (ps_for PassesOwn.never rfl (pi_list (pv 3)) (pg_tup rfl (pgs_cons (pg_name (i := 5) scWays.nd rfl (Or.inl rfl)) (pgs_cons (pg_name (i := 6) scWays.nd rfl (Or.inl rfl)) pgs_nil)))
          (pss_one (ps_for PassesOwn.never rfl (pi_enumT (by rfl) he (pa_cons (pv 0) pa_nil)) (pg_tup rfl (pgs_cons (pg_name (i := 7) scWays.nd rfl (Or.inl rfl)) (pgs_cons (pg_tup rfl (pgs_cons (pg_name (i := 8) scWays.nd rfl (Or.inl rfl)) (pgs_cons (pg_name (i := 9) scWays.nd rfl (Or.inl rfl)) (pgs_cons (pg_name (i := 10) scWays.nd rfl (Or.inl rfl)) pgs_nil)))) pgs_nil)))
            (pss_one (ps_if (pw_and (pt_cmpR op_eq (pv 8) (pv 6) (nomark _)) (pw_and1 (pt_cmp (pc_dnotin hu (pv 10) (pv 2)) (by rfl)))).pt
              (pss_cons (ps_dput hu (pv 2) (pv 10) (pe_op op_catS (pv 5) (pe_tup (pa_cons (pv 7) pa_nil))) rfl)
                (pss_one (ps_expr (pe_bm PySem.F.plainAttrs_list PySem.F.slot_list_append PySem.F.type_list_append mt_append (pv 4) (pa_cons (pe_tup (pa_cons (pe_dget hu (pv 2) (pv 10) (fun _ _ => rfl)) (pa_cons (pv 10) pa_nil))) pa_nil)))))
              pss_nil)))))
        (pss_one (ps_set (i := 3) scWays.nd rfl (Or.inl rfl) (pv 4))))))
      (pss_one (ps_ret (pv 2))))), ?_⟩
    intro d hd0
    have sd := same_upd (o := HO.dK []) hd0
    refine ⟨by decide, fun e0 he0 => ⟨_, rfl, (by show 2 ≤ sizeLine; decide), fun p0 hp0 => ⟨(by show 1 ≤ sizeLine; decide), fun r hr0 => ?_⟩⟩⟩
    have s1 := same_upd (o := HO.tup []) he0
    have s2 := same_upd (o := HO.tup [V.ref e0, V.int (b : Int)]) hp0
    have s3 := same_upd (o := HO.lst [V.ref p0]) hr0
    refine ⟨fun j σ H' => ∃ (r : Addr) (kvs : List (Key × V)) (ps : List (Addr × Int)) (v4 v5 v6 v7 v8 v9 v10 : Option V), σ = [some (.ref f), some (.int b), some (.ref d), some (.ref r), v4, v5, v6, v7, v8, v9, v10] ∧
      Same H H' ∧ H' d = some (.dK kvs) ∧ H' r = some (.lst (ps.map fun q => V.ref q.1)) ∧ Rows H' last kvs.length ps ∧ kvs.length + miss last kvs ≤ last + 1 ∧ Clo fr b kvs (fun g _ => ∃ q ∈ ps, q.2 = g) ∧ j = 2 * miss last kvs + (if ps = [] then 0 else 1), ⟨_, r, [], [(p0, (b : Int))], none, none, none, none, none, none, none, rfl, ?_, ?_, ?_, ?_, ?_, ?_, rfl⟩, ?_⟩
    · exact sd.trans (s1.trans (s2.trans s3))
    · exact s3 _ _ (s2 _ _ (s1 _ _ upd_same))
    · exact upd_same
    · intro q hq
      have e : q = (p0, (b : Int)) := by simpa using hq
      subst e
      refine ⟨by show (0 : Int) ≤ (b : Int); omega, by show (b : Int) ≤ last; omega, e0, [], s3 _ _ upd_same, s3 _ _ (s2 _ _ upd_same), Nat.le_refl _⟩
    · have := miss_le (last := last) (kvs := [])
      simp only [List.length_nil]
      omega
    · intro x hx h
      rcases h with h | h
      · exact .inl ⟨_, List.mem_singleton.mpr rfl, h.symm⟩
      · cases h
    · rintro j σ H1 ⟨r, kvs, ps, v4, v5, v6, v7, v8, v9, v10, rfl, sm, hd, hr, rp, cnt, clo, rfl⟩
      refine ⟨_, rfl, _, .inl ⟨_, SqL.of hr, rfl⟩, ?_⟩
      by_cases hps : ps = []
      · subst hps
        refine iteF' rfl ?_
        refine ⟨_, rfl, q H1 d kvs sm hd0 hd fun k hk => ?_⟩
        have c2 : ∀ x ∈ fr, (x.1 = (b : Int) ∨ has kvs x.1 = true) → has kvs x.2.2 = true := fun x hx h => by
          rcases clo x hx h with ⟨_, z, _⟩ | z
          · cases z
          · exact z
        exact fm.all (S := fun g => has kvs g = true) hb (fun x hx e => c2 x hx (.inl e)) (fun x hx e => c2 x hx (.inr e)) k hk
      · refine iteT' (by cases ps; exact absurd rfl hps; rfl) ?_
        refine ⟨_, fun _ _ z => z, ?_⟩
        refine ⟨by decide, fun u hu0 => ?_⟩
        have su := same_upd (o := HO.lst []) hu0
        have hur : u ≠ r := (ne_of_none hr hu0).symm
        have hu00 : H u = none := sm.free hu0
        refine ⟨_, rfl, r, rfl, ⟨_, SqL.of (su _ _ hr)⟩, for_it (walk_list (xs := ps.map fun q => V.ref q.1)) (fun i σ H' => ∃ (kvs2 : List (Key × V)) (qs : List (Addr × Int)) (v5 v6 v7 v8 v9 v10 : Option V), σ = [some (.ref f), some (.int b), some (.ref d), some (.ref r), some (.ref u), v5, v6, v7, v8, v9, v10] ∧
          Co H H' d r u last (miss last kvs) ps qs kvs2 ∧ Clo fr b kvs2 (fun g _ => (∃ q ∈ ps.drop i, q.2 = g) ∨ ∃ q ∈ qs, q.2 = g))
          ⟨kvs, [], v5, v6, v7, v8, v9, v10, rfl, ⟨sm.trans su, su _ _ hd, su _ _ hr, upd_same, rp.keep (Same.keepT su) (Nat.le_refl _), (fun q hq => by cases hq), cnt, .inl ⟨rfl, Nat.le_refl _⟩, Nat.zero_le _⟩, fun x hx h => (clo x hx h).imp (fun z => .inl z) id⟩
          (fun i σ H' _ ⟨_, _, _, _, _, _, _, _, _, C, _⟩ => SqL.of C.hr) ?_ ?_⟩
        · rintro i v σ H2 H3 hi ⟨kvs2, qs, v5, v6, v7, v8, v9, v10, rfl, C, cl⟩ ⟨rfl, hv⟩
          obtain ⟨q1, hq1, rfl⟩ : ∃ q1, ps[i]? = some q1 ∧ v = V.ref q1.1 := by
            rw [List.getElem?_map] at hv
            cases e : ps[i]? with
            | none =>
              rw [e] at hv
              cases hv
            | some q1 =>
              rw [e] at hv
              exact ⟨q1, rfl, (Option.some.inj hv).symm⟩
          obtain ⟨g0, g1, wy, xs, e1, e2, e3⟩ := C.rp q1 (List.mem_of_getElem? hq1)
          have dq : ps.drop i = q1 :: ps.drop (i + 1) := by
            have il := (List.getElem?_eq_some_iff.mp hq1).1
            rw [List.drop_eq_getElem_cons il]
            have := (List.getElem?_eq_some_iff.mp hq1).2
            rw [this]
          obtain ⟨ts, hf, hl, ht⟩ := id fa
          refine ⟨_, _, rfl, SqT.of e1, rfl, _, _, rfl, _, _, rfl, rfl, ?_⟩
          refine ⟨_, rfl, f, _, rfl, SqT.of (C.sm _ _ hf), for_it (walk_enumT (xs := ts.map V.ref)) (fun k σ H' => ∃ (kvs3 : List (Key × V)) (qs3 : List (Addr × Int)) (v7 v8 v9 v10 : Option V), σ = [some (.ref f), some (.int b), some (.ref d), some (.ref r), some (.ref u), some (.ref wy), some (.int q1.2), v7, v8, v9, v10] ∧
            Co H H' d r u last (miss last kvs) ps qs3 kvs3 ∧ H' wy = some (.tup xs) ∧ xs.length ≤ kvs3.length ∧ Clo fr b kvs3 (fun g x => ((∃ q ∈ ps.drop (i + 1), q.2 = g) ∨ ∃ q ∈ qs3, q.2 = g) ∨ (g = q1.2 ∧ x ∈ fr.drop k)))
            ⟨kvs2, qs, v7, v8, v9, v10, rfl, C, e2, e3, fun x hx h => ?_⟩
            (fun k σ H' _ ⟨_, _, _, _, _, _, _, C', _⟩ => SqT.of (C'.sm _ _ hf)) ?_ ?_⟩
          · rcases cl x hx h with (⟨q, z, e⟩ | z) | z
            · rw [dq] at z
              rcases List.mem_cons.mp z with z | z
              · subst z
                exact .inl (.inr ⟨e.symm, by simpa using hx⟩)
              · exact .inl (.inl (.inl ⟨q, z, e⟩))
            · exact .inl (.inl (.inr z))
            · exact .inr z
          · rintro k x σ H3 H4 hk ⟨kvs3, qs3, v7, v8, v9, v10, rfl, C3, w3, wl, cl3⟩ ⟨T, xi, xo, rfl, nT, rfl, h1, h2⟩
            cases h1
            obtain ⟨t, y, hy, rfl, e4⟩ := at_step (i := k) hl ht h2
            have uT := same_upd (o := HO.tup [V.int (k : Nat), V.ref t]) nT
            have C4 := C3.same uT
            have t4 := uT _ _ (C3.sm _ _ e4)
            have w4 := uT _ _ w3
            have hym : y ∈ fr := List.mem_of_getElem? hy
            obtain ⟨b1, b2, _, b3, b4⟩ := fm.stp y hym
            obtain ⟨b5, b6⟩ := fm.lo y hym
            have dk : fr.drop k = y :: fr.drop (k + 1) := by
              have il := (List.getElem?_eq_some_iff.mp hy).1
              rw [List.drop_eq_getElem_cons il]
              have := (List.getElem?_eq_some_iff.mp hy).2
              rw [this]
            -- the step is done with
            have go : ∀ (kvs4 : List (Key × V)) (qs4 : List (Addr × Int)), (∀ g : Int, has kvs4 g = true → has kvs3 g = true ∨ ∃ q ∈ qs4, q.2 = g) → (∀ g : Int, has kvs3 g = true → has kvs4 g = true) → (∀ q ∈ qs3, q ∈ qs4) → (y.1 = q1.2 → has kvs4 y.2.2 = true) →
                Clo fr b kvs4 (fun g x => ((∃ q ∈ ps.drop (i + 1), q.2 = g) ∨ ∃ q ∈ qs4, q.2 = g) ∨ (g = q1.2 ∧ x ∈ fr.drop (k + 1))) := fun kvs4 qs4 n1 n2 n3 n4 x hx h => by
              have old : x.1 = (b : Int) ∨ has kvs3 x.1 = true → ((((∃ q ∈ ps.drop (i + 1), q.2 = x.1) ∨ ∃ q ∈ qs4, q.2 = x.1) ∨ (x.1 = q1.2 ∧ x ∈ fr.drop (k + 1))) ∨ has kvs4 x.2.2 = true) := fun h => by
                rcases cl3 x hx h with ((z | ⟨q, z, e⟩) | ⟨z1, z2⟩) | z
                · exact .inl (.inl (.inl z))
                · exact .inl (.inl (.inr ⟨q, n3 q z, e⟩))
                · rw [dk] at z2
                  rcases List.mem_cons.mp z2 with z2 | z2
                  · subst z2
                    exact .inr (n4 z1)
                  · exact .inl (.inr ⟨z1, z2⟩)
                · exact .inr (n2 _ z)
              rcases h with h | h
              · exact old (.inl h)
              · rcases n1 _ h with z | z
                · exact old (.inr z)
                · exact .inl (.inl (.inr z))
            refine ⟨T, _, rfl, SqT.of upd_same, rfl, _, _, rfl, _, _, rfl, ⟨t, _, rfl, SqT.of t4, rfl, _, _, rfl, _, _, rfl, _, _, rfl, rfl, rfl, ?_⟩⟩
            refine ⟨_, rfl, _, rfl, rfl, _, rfl, ?_⟩
            refine ite2 (fun z => ?_) (fun z => ?_)
            · have z1 : y.1 = q1.2 := V.int.inj (of_decide_eq_true z)
              refine ⟨_, rfl, _, rfl, d, _, rfl, DGet.k (k := Sum.inl y.2.2) C4.hd, _, rfl, ?_⟩
              refine ite2 (fun y1 => ?_) (fun y1 => ?_)
              · have no : has kvs3 y.2.2 = false := by
                  cases e : has kvs3 y.2.2 with
                  | false => rfl
                  | true =>
                    have e' : (valV kvs3 (Sum.inl y.2.2 : Key)).isSome = true := e
                    rw [e'] at y1
                    cases y1
                have mp := miss_put (v := V.non) b3 b6 no
                have l5 := fm.l5
                have c3 := C3.cnt
                refine ⟨_, rfl, ⟨_, rfl, (by show 1 ≤ sizeLine; decide), fun p hp => ⟨wy, p, xs, [V.int (k : Nat)], rfl, rfl, SqT.of (same_upd hp _ _ w4), upd_same, (fun z => by cases z), ?_, fun nw H5 s5 n5 => ?_⟩⟩⟩
                · rw [sizeLine_eq]
                  simp only [List.length_cons, List.length_nil]
                  omega
                have C5 := (C4.same (same_upd (o := HO.tup [V.int (k : Nat)]) hp)).same s5
                have hdu : d ≠ u := ne_of C5.hd C5.hu (fun z => by cases z)
                have hdr : d ≠ r := ne_of C5.hd C5.hr (fun z => by cases z)
                refine ⟨_, rfl, _, rfl, d, _, rfl, DPut.k (k := Sum.inl y.2.2) C5.hd (by rw [sizeLine_eq]; omega), ?_⟩
                have hn : valV kvs3 (Sum.inl y.2.2 : Key) = none := by
                  cases e : valV kvs3 (Sum.inl y.2.2 : Key) with
                  | none => rfl
                  | some v =>
                    have e' : has kvs3 y.2.2 = true := by
                      show (valV kvs3 (Sum.inl y.2.2 : Key)).isSome = true
                      rw [e]
                      rfl
                    rw [e'] at no
                    cases no
                generalize hH6 : upd H5 d (.dK (putK kvs3 (Sum.inl y.2.2) (.ref nw))) = H6
                have k6 : KeepT H5 H6 := by
                  rw [← hH6]
                  exact keepT_upd C5.hd (fun xs z => by cases z)
                have d6 : H6 d = some (.dK (putK kvs3 (Sum.inl y.2.2) (.ref nw))) := by
                  rw [← hH6]
                  exact upd_same
                have u6 : H6 u = some (.lst (qs3.map fun q => V.ref q.1)) := by
                  rw [← hH6, upd_ne hdu.symm]
                  exact C5.hu
                have r6 : H6 r = some (.lst (ps.map fun q => V.ref q.1)) := by
                  rw [← hH6, upd_ne hdr.symm]
                  exact C5.hr
                have m6 : Same H H6 := by
                  rw [← hH6]
                  exact same_set hd0 C5.sm
                have g6 : valV (putK kvs3 (Sum.inl y.2.2) (V.ref nw)) (Sum.inl y.2.2 : Key) = some (.ref nw) := by
                  rw [valV_put, if_pos rfl]
                have n6 := k6 _ _ n5
                have ml := miss_le (last := last) (kvs := kvs3)
                have mp2 := miss_put (v := V.ref nw) b3 b6 no
                have pe : (putK kvs3 (Sum.inl y.2.2 : Key) (V.ref nw)).length = kvs3.length + 1 := by
                  rw [putK_new _ hn, List.length_append]
                  rfl
                have ql := C3.ql
                refine ⟨_, rfl, ?_, _, rfl, _, rfl, ⟨d, _, rfl, by rw [← g6]; exact DGet.k (k := Sum.inl y.2.2) d6, _, rfl, (by show 2 ≤ sizeLine; decide), fun p7 hp7 => ⟨u, qs3.map (fun q => V.ref q.1), _, rfl, rfl, same_upd hp7 _ _ u6, by rw [sizeLine_eq, List.length_map]; omega, ?_⟩⟩⟩
                · exact .inl ⟨rfl, _, SqL.of u6⟩
                have k7 := Same.keepT (same_upd (o := HO.tup [V.ref nw, V.int y.2.2]) hp7)
                have hd7 := same_upd (o := HO.tup [V.ref nw, V.int y.2.2]) hp7 _ _ d6
                have hu7 := same_upd (o := HO.tup [V.ref nw, V.int y.2.2]) hp7 _ _ u6
                have hr7 := same_upd (o := HO.tup [V.ref nw, V.int y.2.2]) hp7 _ _ r6
                have k8 := keepT_upd (o := .lst (qs3.map (fun q => V.ref q.1) ++ [V.ref p7])) hu7 (fun xs z => by cases z)
                have kk : KeepT H5 _ := (k6.trans k7).trans k8
                refine ⟨putK kvs3 (Sum.inl y.2.2) (.ref nw), qs3 ++ [(p7, y.2.2)], _, _, _, _, rfl, ⟨same_set hu00 (m6.trans (same_upd hp7)), ?_, ?_, ?_, ?_, ?_, by rw [pe]; omega, .inr ?_, by rw [pe, List.length_append]; simp only [List.length_cons, List.length_nil]; omega⟩, ?_, by rw [pe]; omega, ?_⟩
                · rw [upd_ne hdu]
                  exact hd7
                · rw [upd_ne hur.symm]
                  exact hr7
                · rw [List.map_append]
                  exact upd_same
                · exact C5.rp.keep kk (by rw [pe]; omega)
                · intro q hq
                  rcases List.mem_append.mp hq with hq | hq
                  · exact C5.rq.keep kk (by rw [pe]; omega) q hq
                  · have e : q = (p7, y.2.2) := by simpa using hq
                    subst e
                    refine ⟨b3, b6, nw, xs ++ [V.int (k : Nat)], k8 _ _ upd_same, k8 _ _ (k7 _ _ n6), ?_⟩
                    rw [pe, List.length_append]
                    simp only [List.length_cons, List.length_nil]
                    omega
                · rcases C3.me with ⟨_, z⟩ | z <;> omega
                · exact kk _ _ ((same_upd (o := HO.tup [V.int (k : Nat)]) hp |>.trans s5) _ _ w4)
                · refine go _ _ (fun g h => ?_) (fun g h => ?_) (fun q h => List.mem_append_left _ h) (fun _ => ?_)
                  · rw [has_put] at h
                    rcases (Bool.or_eq_true _ _).mp h with h | h
                    · exact .inr ⟨_, List.mem_append_right _ (List.mem_singleton.mpr rfl), (of_decide_eq_true h).symm⟩
                    · exact .inl h
                  · rw [has_put, h, Bool.or_true]
                  · rw [has_put, decide_eq_true rfl]
                    rfl
              · have yes : has kvs3 y.2.2 = true := by
                  cases e : has kvs3 y.2.2 with
                  | true => rfl
                  | false =>
                    have e' : (valV kvs3 (Sum.inl y.2.2 : Key)).isSome = false := e
                    rw [e'] at y1
                    exact absurd rfl y1
                exact ⟨kvs3, qs3, _, _, _, _, rfl, C4, w4, wl, go kvs3 qs3 (fun g h => .inl h) (fun g h => h) (fun q h => h) (fun _ => yes)⟩
            · have z1 : ¬ y.1 = q1.2 := fun e => z (decide_eq_true (congrArg V.int e))
              refine iteF ?_
              exact ⟨kvs3, qs3, _, _, _, _, rfl, C4, w4, wl, go kvs3 qs3 (fun g h => .inl h) (fun g h => h) (fun q h => h) (fun e => absurd e z1)⟩
          · rintro σ H3 ⟨kvs3, qs3, v7, v8, v9, v10, rfl, C3, w3, wl, cl3⟩
            refine ⟨kvs3, qs3, _, _, v7, v8, v9, v10, rfl, C3, fun x hx h => ?_⟩
            rcases cl3 x hx h with (z | ⟨_, z⟩) | z
            · exact .inl z
            · rw [show (ts.map V.ref).length = fr.length by simp [hl], List.drop_length] at z
              cases z
            · exact .inr z
        · rintro σ H2 ⟨kvs2, qs, v5, v6, v7, v8, v9, v10, rfl, C, cl⟩
          refine ⟨_, rfl, _, ?_, u, kvs2, qs, some (.ref u), v5, v6, v7, v8, v9, v10, rfl, C.sm, C.hd, C.hu, C.rq, C.cnt, fun x hx h => ?_, rfl⟩
          · rw [if_neg hps]
            rcases C.me with ⟨z, y⟩ | z
            · rw [if_pos z]
              omega
            · split <;> omega
          · rcases cl x hx h with (z | z) | z
            · rw [List.length_map, List.drop_length] at z
              obtain ⟨_, z, _⟩ := z
              cases z
            · exact .inl z
            · exact .inr z
end
end K06
/-! is_joined, need_framing. -/
namespace K06
open PySem L2 L2.EV
abbrev sJoined : Stmt := top 16
abbrev sNeedF : Stmt := top 17
def spJoined : Sp := fun vs H Q _ => ∃ (f : Addr) (fr : List T3) (last : Nat), vs = [.ref f] ∧ FrA H f fr ∧ Frm fr last ∧ ∀ H', Same H H' → Q (.bl true) H'
def spNeedF : Sp := fun vs H Q _ => ∃ (f : Addr) (fr : List T3) (last : Nat), vs = [.ref f] ∧ FrA H f fr ∧ Frm fr last ∧ ∀ H', Same H H' → Q (.ref f) H'
/-- the defs that need_framing calls -/
structure Fs (K : PySem.W.Frag) (mg : Str → Option Value) where
  fN : Addr
  fP : Addr
  fS : Addr
  fL : Addr
  fW : Addr
  fJ : Addr
  fF : Addr
  dN : FuncData
  dP : FuncData
  dS : FuncData
  dL : FuncData
  dW : FuncData
  dJ : FuncData
  dF : FuncData
  N : Fun K "is_number" "is_number" sNum fN dN
  P : Fun K "is_piece" "is_piece" sPc fP dP
  S : Fun K "is_step" "is_step" sStep fS dS
  L : Fun K "listed_standings" "listed_standings" sListed fL dL
  W : Fun K "ways_from" "ways_from" sWays fW dW
  J : Fun K "is_joined" "is_joined" sJoined fJ dJ
  F : Fun K "need_framing" "need_framing" sNeedF fF dF
  bN : Binds K dN ["thing", "many"] []
  bP : Binds K dP ["thing"] []
  bS : Binds K dS ["thing"] []
  bL : Binds K dL ["framing"] []
  bW : Binds K dW ["framing", "begin"] []
  bJ : Binds K dJ ["framing"] []
  bF : Binds K dF ["thing"] []
  mN : mg "is_number" = some (.ref fN)
  mP : mg "is_piece" = some (.ref fP)
  mS : mg "is_step" = some (.ref fS)
  mL : mg "listed_standings" = some (.ref fL)
  mW : mg "ways_from" = some (.ref fW)
  mJ : mg "is_joined" = some (.ref fJ)
  mF : mg "need_framing" = some (.ref fF)
  T : TxtF mg
  so : mg "sorted" = none
  en : mg "enumerate" = none
  ms : ∃ t, mg "MOST_STEPS" = some (.int 16 t)
section
variable {P : Program} {w : World} {K : PySem.W.Frag} {mg : Str → Option Value} {base : Heap}
theorem scJoined : FnScope ["framing", "reached", "standing"] ["framing"] (defScope sJoined) := ⟨rfl, rfl, rfl, by decide +kernel, rfl, by decide +kernel, by decide +kernel⟩
theorem ok_joined (Z : Fs K mg) : FnOk P w K mg base CX0 2 Z.fJ Z.dJ ["framing"] spJoined := by
  have GL : FnOk P w K mg base CX0 1 Z.fL Z.dL ["framing"] spListed := ok_listed Z.L Z.so
  have GW : FnOk P w K mg base CX0 1 Z.fW Z.dW ["framing", "begin"] spWays := ok_ways Z.W Z.en
  refine Z.J.ok scJoined (fun vs H Q E h => ?_) (fun cdv A outer s H vs Q E hr h => ?_)
  · obtain ⟨f, fr, last, rfl, _⟩ := h
    rfl
  · obtain ⟨f, fr, last, rfl, fa, fm, q⟩ := h
    have hu := hu_of hr
    refine ⟨_, pss_cons (ps_set (i := 1) scJoined.nd rfl (Or.inl rfl) (pe_call GW hr (by rfl) Z.mW Z.W.kp Z.bW .nil pass0 (pa_cons (pv 0) (pa_cons pe_int pa_nil))))
      (pss_cons (ps_for PassesOwn.never rfl (pi_list (pe_call GL hr (by rfl) Z.mL Z.L.kp Z.bL .nil pass0 (pa_cons (pv 0) pa_nil))) (pg_name (i := 2) scJoined.nd rfl (Or.inl rfl))
        (pss_one (ps_if (pw_or (pt_cmp (pc_dnotin hu (pv 2) (pv 1)) (by rfl)) (pw_or1 (pt_cmp (pc_dnotin hu pe_int (pe_call GW hr (by rfl) Z.mW Z.W.kp Z.bW .nil pass0 (pa_cons (pv 0) (pa_cons (pv 2) pa_nil)))) (by rfl)))).pt
          (pss_one (ps_ret pe_bl)) pss_nil)))
      (pss_one (ps_ret pe_bl))), ?_⟩
    refine ⟨_, rfl, f, fr, last, 0, rfl, fa, fm, Nat.zero_le _, fun H1 d kvs s1 n1 e1 h1 => ?_⟩
    refine ⟨_, rfl, f, fr, last, rfl, fa.same s1, fm, fun H2 p ns s2 n2 e2 l2 k2 => ⟨p, rfl, ⟨_, SqL.of e2⟩, for_it (walk_list (xs := ns.map V.int)) (fun i σ H' => ∃ v2 : Option V, σ = [some (.ref f), some (.ref d), v2] ∧ Same H2 H')
      ⟨none, rfl, fun _ _ e => e⟩ (fun i σ H' _ ⟨_, _, z⟩ => SqL.of (z _ _ e2)) ?_ ?_⟩⟩
    · rintro i x σ H3 H4 hi ⟨v2, rfl, s3⟩ ⟨rfl, hx⟩
      obtain ⟨k, hk, rfl⟩ : ∃ k : Int, k ∈ ns ∧ x = .int k := by
        rw [List.getElem?_map] at hx
        cases e : ns[i]? with
        | none =>
          rw [e] at hx
          cases hx
        | some k =>
          rw [e] at hx
          exact ⟨k, List.mem_of_getElem? e, (Option.some.inj hx).symm⟩
      obtain ⟨k0, k1⟩ := k2 k hk
      obtain ⟨b, rfl⟩ := Int.eq_ofNat_of_zero_le k0
      have hb : b ≤ last := by omega
      have hb' : (valV kvs (Sum.inl (b : Int) : Key)).isSome = true := h1 b hb
      refine ⟨_, rfl, _, rfl, d, _, rfl, DGet.k (k := Sum.inl (b : Int)) (s3 _ _ (s2 _ _ e1)), _, rfl, iteF' (by rw [hb']; rfl) ?_⟩
      refine ⟨_, rfl, _, rfl, f, fr, last, b, rfl, (fa.same s1).same (s2.trans s3), fm, hb, fun H5 d5 kvs5 s5 n5 e5 h5 => ?_⟩
      have h0' : (valV kvs5 (Sum.inl (0 : Int) : Key)).isSome = true := h5 0 (Nat.zero_le _)
      refine ⟨d5, _, rfl, DGet.k (k := Sum.inl (0 : Int)) e5, _, rfl, iteF' (by rw [h0']; rfl) ?_⟩
      exact ⟨_, rfl, s3.trans s5⟩
    · rintro σ H3 ⟨v2, rfl, s3⟩
      exact q H3 (s1.trans (s2.trans s3))
theorem scNeedF : FnScope ["thing", "number", "step"] ["thing"] (defScope sNeedF) := ⟨rfl, rfl, rfl, by decide +kernel, rfl, by decide +kernel, by decide +kernel⟩
theorem ok_needF (Z : Fs K mg) : FnOk P w K mg base CX0 3 Z.fF Z.dF ["thing"] spNeedF := by
  have GS : FnOk P w K mg base CX0 2 Z.fS Z.dS ["thing"] spStep := ok_step Z.S Z.T Z.N Z.bN Z.mN Z.P Z.bP Z.mP
  have GJ : FnOk P w K mg base CX0 2 Z.fJ Z.dJ ["framing"] spJoined := ok_joined Z
  refine Z.F.ok scNeedF (fun vs H Q E h => ?_) (fun cdv A outer s H vs Q E hr h => ?_)
  · obtain ⟨f, fr, last, rfl, _⟩ := h
    rfl
  · obtain ⟨f, fr, last, rfl, fa, fm, q⟩ := h
    have hu := hu_of hr
    have hu0 : (A.deeper (PyProof.Rows.envOfC "need_framing" (defScope sNeedF) s.heap.objs.size Z.fF cdv)).units < cLine := by omega
    obtain ⟨tm, eM⟩ := Z.ms
    refine ⟨_, pss_cons (ps_if (pw_or (pt_not (pt_val (pe_callB call_isi (by rfl) Z.T.isi PyProof.Rows.boot_isinstance (pa_cons (pv 0) (pa_cons (pe_bltn (v := .ty "tuple") (by rfl) Z.T.tuple (by decide +kernel) rfl) pa_nil)))))
        (pw_or1 (pt_not (pt_chain op_le op_le pe_int (pe_callB call_len_seq (by rfl) Z.T.len PySem.boot_len (pa_cons (pv 0) pa_nil)) (pe_glob (v := .int 16) (by rfl) eM ⟨_, rfl⟩))))).pt
        (pss_one ps_never) pss_nil)
      (pss_cons (ps_for PassesOwn.never rfl (pi_enumT (by rfl) Z.en (pa_cons (pv 0) pa_nil)) (pg_tup rfl (pgs_cons (pg_name (i := 1) scNeedF.nd rfl (Or.inl rfl)) (pgs_cons (pg_name (i := 2) scNeedF.nd rfl (Or.inl rfl)) pgs_nil)))
        (pss_one (ps_if (pw_or (pt_not (pt_val (pe_call GS hr (by rfl) Z.mS Z.S.kp Z.bS .nil pass0 (pa_cons (pv 2) pa_nil))))
          (pw_or1 (pw_and (pt_cmpR op_gt (pv 1) pe_int (nomark _)) (pw_and1 (pt_cmpR (op_le3 hu0) (pv 2) (pe_ix ix_tup (pv 0) (pe_op op_sub (pv 1) pe_int) (fun _ _ => rfl)) (nomark _)))).pt)).pt
          (pss_one ps_never) pss_nil)))
      (pss_cons (ps_if (pt_not (pt_val (pe_call GJ hr (by rfl) Z.mJ Z.J.kp Z.bJ .nil pass0 (pa_cons (pv 0) pa_nil)))) (pss_one ps_never) pss_nil)
      (pss_one (ps_ret (pv 0))))), ?_⟩
    obtain ⟨ts, hf, hl, ht⟩ := id fa
    have l0 := fm.l0
    have l1 := fm.l1
    refine ⟨_, rfl, .ref f, .ty "tuple", .type "tuple", .type "tuple", true, rfl, .ty "tuple", .base (.tup hf), kit_ty (by decide +kernel), true, rfl, iteF ?_⟩
    refine ⟨_, rfl, f, _, rfl, .inr (SqT.of hf), 1, _, rfl, rfl, _, rfl, iteT' (decide_eq_true (by simp; omega)) ⟨_, 16, rfl, rfl, _, rfl, ?_⟩⟩
    refine iteF' (by rw [decide_eq_true (by simp; omega)]; rfl) ?_
    refine ⟨_, rfl, f, _, rfl, SqT.of hf, for_it (walk_enumT (xs := ts.map V.ref)) (fun i σ H' => ∃ v1 v2 : Option V, σ = [some (.ref f), v1, v2] ∧ Same H H')
      ⟨none, none, rfl, fun _ _ e => e⟩ (fun i σ H' _ ⟨_, _, _, z⟩ => SqT.of (z _ _ hf)) ?_ ?_⟩
    · rintro i x σ H1 H2 hi ⟨v1, v2, rfl, s1⟩ ⟨T, xi, xo, rfl, nT, rfl, h1, h2⟩
      cases h1
      obtain ⟨t, y, hy, rfl, e4⟩ := at_step (i := i) hl ht h2
      have s2 := s1.trans (same_upd (o := HO.tup [V.int (i : Nat), V.ref t]) nT)
      refine ⟨T, _, rfl, SqT.of upd_same, rfl, _, _, rfl, _, _, rfl, rfl, ?_⟩
      refine ⟨_, rfl, t, y, rfl, s2 _ _ e4, fm.stp y (List.mem_of_getElem? hy), fun H3 s3 => ⟨_, rfl, iteF ?_⟩⟩
      refine ⟨_, rfl, (i : Int), 0, rfl, rfl, _, rfl, ?_⟩
      refine ite2 (fun z => ?_) (fun z => ?_)
      · have z1 : (0 : Int) < i := of_decide_eq_true z
        obtain ⟨j, rfl⟩ : ∃ j, i = j + 1 := ⟨i - 1, by omega⟩
        have jl : j < fr.length := by
          have := (List.getElem?_eq_some_iff.mp hy).1
          omega
        have jt : j < ts.length := by omega
        have e5 := ht j ts[j] fr[j] (List.getElem?_eq_getElem jt) (List.getElem?_eq_getElem jl)
        have lt : lt3 fr[j] y = true := by
          have h3 := List.pairwise_iff_getElem.mp fm.srt j (j + 1) jl (List.getElem?_eq_some_iff.mp hy).1 (by omega)
          rw [(List.getElem?_eq_some_iff.mp hy).2] at h3
          exact h3
        refine ⟨_, rfl, _, rfl, _, rfl, _, _, rfl, rfl, f, _, (j : Int), V.ref ts[j], rfl, ?_, SqT.of (s3 _ _ (s2 _ _ hf)), atI_nat ?_, t, ts[j], y, fr[j], rfl, rfl, s3 _ _ (s2 _ _ e4), s3 _ _ (s2 _ _ e5), _, rfl, ?_⟩
        · show V.int (((j + 1 : Nat) : Int) - 1) = V.int (j : Int)
          congr 1
          omega
        · rw [List.getElem?_map, List.getElem?_eq_getElem jt]
          rfl
        · refine iteF' (by rw [lt]; rfl) ?_
          exact ⟨_, _, rfl, s2.trans s3⟩
      · refine iteF ?_
        exact ⟨_, _, rfl, s2.trans s3⟩
    · rintro σ H1 ⟨v1, v2, rfl, s1⟩
      refine ⟨_, rfl, f, fr, last, rfl, fa.same s1, fm, fun H2 s2 => ⟨_, rfl, iteF ⟨_, rfl, q H2 (s1.trans s2)⟩⟩⟩
end
end K06
/-! try: .. except (A, B, ..) as e: the caught error is kept as a value behind the suite. Raising an own exception that was made by its own __init__. -/
namespace L2
namespace EV
open PySem PySem.Spec PyProof.Rows _root_.EV
/-- an exception that was caught, at a -/
def exh (cls : Value) (d : Option Addr) (a : Addr) : HO := .ext fun h => ∃ (oe : Obj) (vs : Array Value), h.get? a = some oe ∧ Zc cls d oe ∧ oe.data = .fields vs
theorem exh_ok {P : Program} {w : World} {H : Hp} {h : Heap} {a : Addr} {cls : Value} {d : Option Addr} {oe : Obj} {vs : Array Value} (e : h.get? a = some oe) (z : Zc cls d oe) (hd : oe.data = .fields vs) : ObjOk P w H h a (exh cls d a) :=
  ⟨⟨oe, vs, e, z, hd⟩, ⟨oe, e⟩, fun _ _ ⟨o, v, q, r⟩ k => ⟨o, v, k o q, r⟩⟩
theorem exh_at {P : Program} {w : World} {H : Hp} {h : Heap} {a : Addr} {cls : Value} {d : Option Addr} (hok : HOk P w H h) (e : H a = some (exh cls d a)) : ∃ (oe : Obj) (vs : Array Value), h.get? a = some oe ∧ Zc cls d oe ∧ oe.data = .fields vs := by
  have q : ObjOk P w H h a (.ext fun h => ∃ (oe : Obj) (vs : Array Value), h.get? a = some oe ∧ Zc cls d oe ∧ oe.data = .fields vs) := hok a _ e
  exact q.1
theorem flies_keeps {B : Heap} {l : List Env} {a : Addr} {Z : Obj → Prop} {h h' : Heap} (f : HandSPX.FlyingZ B l a Z h) (k : ∀ b o, h.get? b = some o → h'.get? b = some o) : HandSPX.FlyingZ B l a Z h' := by
  obtain ⟨f1, f2, f3, oe, vs, T, oT, ts, e1, e2, e3, e4, e5, e6, e7, e8, e9⟩ := f
  exact ⟨fun b o q => k b o (f1 b o q), f2, f3.of_keeps fun b o q _ => ⟨o, k b o q, rfl⟩, oe, vs, T, oT, ts, k _ _ e1, e2, e3, e4, e5, e6, k _ _ e7, e8, e9⟩
/-! ### does one of several classes match -/
section
variable {M : Model} {K : PySem.W.Frag} {h : Heap} {cls : Value}
theorem all_cls : ∀ {cs : List Value} {b : Bool}, PySem.W.exmAny K cls cs = some b → ∀ c ∈ cs, ∃ v, PySem.W.exmOne K cls c = some v
  | c :: r, b, e, x, hx => by
    obtain ⟨b1, d1, h1, h2, _⟩ := PySem.W.exmAny_cons e
    rcases List.mem_cons.mp hx with rfl | hx
    · exact ⟨_, h1⟩
    · exact all_cls h2 x hx
section
variable {A : Around} {E : Value → Shared → Prop} {s : Shared}
theorem loop_exc (X : K.In h) (k0 : ∀ b o, h.get? b = some o → s.heap.get? b = some o) {R : PUnit → Shared → Prop} (r : R ⟨⟩ s) : ∀ l : List Value, (∀ c ∈ l, ∃ v, PySem.W.exmOne K cls c = some v) →
    wpAny M A (forIn l PUnit.unit fun c _ => do
        if (!(← isExcClass c)) = true then do
          rule "try.except-non-exception-class"
          raiseErrorWords "TypeError" "catching classes that do not inherit from BaseException is not allowed"
          pure (ForInStep.yield PUnit.unit)
        else pure (ForInStep.yield PUnit.unit)) R E s := by
  intro l
  induction l with
  | nil => exact fun _ => wpAny_pure r
  | cons c l ih =>
    intro hl
    obtain ⟨v, hv⟩ := hl c (List.mem_cons_self ..)
    obtain ⟨i1, _⟩ := PySem.W.exm_cls (M := M) X hv
    rw [List.forIn_cons]
    refine wpAny_bind (wpAny_bind ((i1.keeps k0).here ?_))
    simp only [Bool.not_true, Bool.false_eq_true, if_false]
    exact wpAny_pure (ih fun x hx => hl x (List.mem_cons_of_mem _ hx))
theorem loop_sub (X : K.In h) (k0 : ∀ b o, h.get? b = some o → s.heap.get? b = some o) {R : Option Bool × Unit → Shared → Prop} : ∀ (l : List Value) (b : Bool), PySem.W.exmAny K cls l = some b → R (if b = true then (some true, ()) else (none, ())) s →
    wpAny M A (forIn l ((none, ()) : Option Bool × Unit) fun c _ => do
        if (← isSubtype cls c) = true then pure (ForInStep.done (some true, ())) else pure (ForInStep.yield (none, ()))) R E s := by
  intro l
  induction l with
  | nil =>
    intro b e r
    have : some false = some b := e
    cases this
    exact wpAny_pure r
  | cons c l ih =>
    intro b e r
    obtain ⟨b1, d1, h1, h2, rfl⟩ := PySem.W.exmAny_cons e
    obtain ⟨_, S1⟩ := PySem.W.exm_cls (M := M) X h1
    rw [List.forIn_cons]
    refine wpAny_bind (wpAny_bind ((S1.keeps k0).here ?_))
    cases b1 with
    | true =>
      rw [Bool.true_or] at r
      simp only [if_true]
      exact wpAny_pure (wpAny_pure r)
    | false =>
      rw [Bool.false_or] at r
      simp only [Bool.false_eq_true, if_false]
      exact wpAny_pure (ih _ h2 r)
end
theorem match_list {cs : List Value} {b : Bool} {tp e : Addr} (X : K.In h) (LT : PySem.W.Looks M h (typeOf (.ref e)) cls) (hp : h.get? tp = some { cls := .type "tuple", data := .seq cs.toArray }) (hx : PySem.W.exmAny K cls cs = some b) :
    PySem.W.Looks M h (excMatches (.ref e) (.ref tp)) b := by
  intro A Q E s k0 q
  have L0 : PySem.W.Looks M h (isInstance (.ref tp) (.type "tuple")) true := ((PySem.W.Looks.ld hp).andThen .now).andThen (PySem.W.Looks.of_pure isSubtype_tuple_tuple)
  have hp' := k0 _ _ hp
  unfold excMatches
  refine wpAny_bind ((L0.keeps k0).here ?_)
  rw [if_pos rfl]
  have ec : ((some cs.toArray).getD #[]).toList = cs := by simp
  refine wpAny_bind ?_
  refine wpAny_seqItems hp' rfl ?_
  refine wpAny_bind (wpAny_pure ?_)
  show wpAny _ _ (do
      forIn ((some cs.toArray).getD #[]).toList PUnit.unit _
      _) _ _ _
  rw [ec]
  refine wpAny_bind (loop_exc X k0 ?_ cs (all_cls hx))
  refine wpAny_bind ((LT.keeps k0).here ?_)
  refine wpAny_bind (loop_sub X k0 cs b hx ?_)
  cases b with
  | true => exact wpAny_pure q
  | false => exact wpAny_pure q
end
/-! ### the rule -/
/-- classes by their names -/
inductive ClsL (X : Cx) : List Expr → List Value → Prop
  | nil : ClsL X [] []
  | cons {x : Str} {c : Value} {p : Pos} {es : List Expr} {cs : List Value} : Names X x c → ClsL X es cs → ClsL X (.Name x p :: es) (c :: cs)
theorem ClsL.suite {X : Cx} {a : Addr} {pn : List (Addr × Obj)} : ∀ {es : List Expr} {cs : List Value}, ClsL X es cs → ClsL (X.suite a pn) es cs
  | _, _, .nil => .nil
  | _, _, .cons hc r => .cons (X := X.suite a pn) hc r.suite
theorem cls_read {Y : Cx} {pins : List (Addr × Obj)} {σ : St} {H : Hp} {s : Shared} (I : Inv Y pins σ H s) {pos : Pos} {E : Value → Shared → Prop} : ∀ {es : List Expr} {cs : List Value} {Q : List Value → Shared → Prop}, ClsL Y es cs → Q cs s →
    wpAny (model Y.prog Y.w) Y.A (spliced (backTo pos (starEach es Y.env))) Q E s
  | _, _, _, .nil, q => wpAny_items_nil q
  | _, _, Q, .cons (c := c) (es := es) (cs := cs) hc r, q => wpAny_items_cons (by
      have rest : wpAny (model Y.prog Y.w) Y.A (spliced (backTo pos (starEach es Y.env))) (fun vs s2 => Q (c :: vs) s2) E s := cls_read I r q
      obtain ⟨hg, hd, hm | ⟨hm, hv, hn⟩⟩ := hc
      · exact ld_glob I hg hm rest hd
      · exact ld_blt I hg hm hv rest hn hd)
theorem ClsL.len {X : Cx} : ∀ {es : List Expr} {cs : List Value}, ClsL X es cs → cs.length = es.length
  | _, _, .nil => rfl
  | _, _, .cons _ r => by rw [List.length_cons, List.length_cons, r.len]
/-- what is pinned is tracked from now on -/
theorem inv_hold {X : Cx} {pins : List (Addr × Obj)} {σ : St} {H : Hp} {s : Shared} {a : Addr} {oe : Obj} {vs : Array Value} {cls : Value} {d : Option Addr} (I : Inv X ((a, oe) :: pins) σ H s) (hm : ∀ p, p ∈ (a, oe) :: (X.pn ++ pins) → p ∈ X.pn ++ ((a, oe) :: pins)) (z : Zc cls d oe) (hd : oe.data = .fields vs)
    (n0 : X.s_0.heap.get? a = none) (np : ∀ p ∈ X.pn ++ pins, p.1 ≠ a) : Inv X pins σ (upd H a (exh cls d a)) s := by
  obtain ⟨e, n, ne, nf, dc⟩ := I.pin (a, oe) (hm _ (List.mem_cons_self ..))
  have ne : a ≠ X.env.locals := ne
  have n : H a = none := n
  have old : ∀ b o, X.s_0.heap.get? b = some o → b ≠ a := fun b o q z => by
    rw [z, n0] at q
    cases q
  refine ⟨I.ok, I.os, I.bare, ⟨I.base.keep, I.base.slot, fun b o q m hx => ?_, I.base.there, fun b xs q => ?_, fun b o u q => ?_, fun b ps q => ?_⟩, I.loc, I.cell, ?_, fun x c q => ?_, fun p hp => ?_, ?_, I.len⟩
  · rw [upd_ne (old b o q)]
    exact I.base.free b o q m hx
  · have z := I.base.tups b xs q
    rw [upd_ne (ne_of_none z n)]
    exact z
  · have z := I.base.frzs b o u q
    rw [upd_ne (ne_of_none z n)]
    exact z
  · obtain ⟨m, z⟩ := I.base.tbls b ps q
    exact ⟨m, by rw [upd_ne (ne_of_none z n)]; exact z⟩
  · rw [upd_ne ne.symm]
    exact I.free
  · have nc : c ≠ a := fun z => by
      obtain ⟨v, o, q1, q2⟩ := I.cell x c q
      rw [z] at q1
      have e' : s.heap.get? a = some oe := e
      rw [e'] at q1
      cases q1
      rw [hd] at q2
      cases q2
    rw [upd_ne nc]
    exact I.freeC x c q
  · obtain ⟨e1, e2, e3, e4, e5⟩ := I.pin p (hm p (List.mem_cons_of_mem _ hp))
    exact ⟨e1, by rw [upd_ne (np p hp)]; exact e2, e3, e4, e5⟩
  · exact I.hok.laidN (fun _ _ q => q) n (exh_ok e z hd)
/-- what the clause wishes of an exception of the body: it is of one of the classes; behind the suite it stands at a -/
def wKeep (K : PySem.W.Frag) (n : Nat) (cs : List Value) (i : Nat) (ts : Addr → Value → Option Addr → TS) (D : Ends) : WX := fun cls d σ H => σ.length = n → PySem.W.exmAny K cls cs = some true ∧
  ∀ a, H a = none → ts a cls d { nx := fun σ' H' => D.nx (σ'.set i none) (upd H' a (exh cls d a)), rt := fun _ _ => False } (σ.set i (some (.ref a))) H
section
variable {X : Cx} {n : Str} {cs : List Value} {es : List Expr} {kx i : Nat} {body suite : List Stmt} {b0 : Stmt} {tpos pos hpos : Pos} {tb : WX → TS} {ts : Addr → Value → Option Addr → TS}
theorem ps_try_keep (hs : X.stack = X.env :: X.outer) (hf : X.env.frame = some X.env.locals) (hex : X.ex = []) (hN : X.N.Nodup) (hi : X.N[i]? = some n) (hln : X.env.kindOf n = some .local) (hc : ClsL X es cs) (hl : es.length ≤ 1000)
    (hb : ∀ (W : WX) (pn : List (Addr × Obj)) (xe : Value → Shared → Prop), Takes (X.tr pn xe) W → PassesOwn (model X.prog X.w) X.A X.env xe → PSs (X.tr pn xe) body (tb W))
    (hsu : ∀ (a : Addr) (oe : Obj) (cls : Value) (d : Option Addr) (pn : List (Addr × Obj)), Zc cls d oe → (∃ vs, oe.data = .fields vs) → PSs (X.suite a ((a, oe) :: pn)) (b0 :: suite) (ts a cls d)) :
    PS X (.Try body [.ExceptHandler (some (.Tuple es kx tpos)) (some n) (b0 :: suite) hpos] [] [] pos) (fun D σ H => tb (wKeep X.K X.N.length cs i ts D) D σ H) := by
  refine ⟨fun pins s σ H D I h => ?_⟩
  have ok := I.ok
  have hfr : X.A.frames = some (X.env :: X.outer) := by rw [ok.frames, hs]
  have loc : Loc X.env.scope n := .inl hln
  have B0 := hb (wKeep X.K X.N.length cs i ts D) (X.pn ++ pins) (fun e s1 => wpAny (model X.prog X.w) X.A (noteFrame e X.env) (fun _ s2 => wpAny (model X.prog X.w) X.A (setFlight e none) (fun _ s3 =>
    wpAny (model X.prog X.w) X.A (handleBy e X.env [.ExceptHandler (some (.Tuple es kx tpos)) (some n) (b0 :: suite) hpos]) (SP X pins D) X.xe s3) X.xe s2) X.xe s1)
  refine wpAny_Try_except (wpAny_mono ((B0 (fun u s' caught => ?_) PassesOwn.looking).run [] s σ H D (I.toTry _) h) (fun f s1 went => ?_) fun _ _ z => z)
  · obtain ⟨a, B, sI, pins', σ', H', cls, d, rfl, J', nb, up, sky, na, os, ag, hW⟩ := caught
    obtain ⟨hit, hyes⟩ := hW J'.len
    have J : Inv X pins σ' H' sI := J'.ofTry ok
    show wpAny (model X.prog X.w) X.A (noteFrame (.ref a) X.env) _ _ _
    refine Sky.land Zc.steady hfr hf (by rw [← hs]; exact sky) fun h3 fl3 up3 => ?_
    have J3 : Inv X pins σ' H' { s' with heap := h3 } := J.landed nb fl3.1 (up.trans up3) os ag
    obtain ⟨oe3, vs3, he3, hz3, hd3⟩ := fl3.there
    have nfr : a ∉ frs (X.env :: X.outer) := fun hm => by
      obtain ⟨_, o, q, nd⟩ := fl3.2.2.1.mem hm
      rw [he3] at q
      cases q
      exact nd _ hd3
    have nL : a ≠ X.env.locals := fun z => nfr (List.mem_filterMap.mpr ⟨X.env, List.mem_cons_self, by rw [hf, z]⟩)
    have nF : a ∉ X.fs := fun hm => by
      obtain ⟨e, he, q⟩ := List.mem_filterMap.mp hm
      exact nfr (List.mem_filterMap.mpr ⟨e, List.mem_cons_of_mem _ he, q⟩)
    have nI : sI.heap.get? a = none := by
      cases q : sI.heap.get? a with
      | none => rfl
      | some o =>
        have z := nb a o q (by rw [hs]; exact nfr)
        rw [fl3.2.1] at z
        cases z
    have n0 : X.s_0.heap.get? a = none := by
      cases q : X.s_0.heap.get? a with
      | none => rfl
      | some o =>
        obtain ⟨o', z⟩ := J.base.there a o q (by rw [hex]; exact fun z => nomatch z)
        rw [nI] at z
        cases z
    have np : ∀ p ∈ X.pn ++ pins, p.1 ≠ a := fun p hp z => by
      have q := (J.pin p hp).1
      rw [z, nI] at q
      cases q
    have S3 := J3.suite he3 hd3 na nL nF
    refine wpAny_handleBy_cons (codeAny_handlers_test ?_) (by intro q; cases q)
    refine wpAny_Tuple (cls_read S3 hc.suite ⟨by rw [hc.len, sizeLine_eq]; omega, ?_⟩)
    have k5 : ∀ b o, h3.get? b = some o → (h3.push { cls := .type "tuple", data := .seq cs.toArray }).get? b = some o := fun _ _ z => Heap.get?_push_of_some _ z
    have LT : PySem.W.Looks (model X.prog X.w) (h3.push { cls := .type "tuple", data := .seq cs.toArray }) (typeOf (.ref a)) cls := fun A Q E s k q => wpAny_typeOf_ref (k _ _ (k5 _ _ he3)) (by rw [hz3.1]; exact q)
    refine (match_list (M := model X.prog X.w) (J3.kIn.keeps k5) LT (Heap.get?_push_size h3 rfl) hit).here ?_
    refine codeAny_handlers_suite_as ?_
    refine HandSPX.lands_againZ (flies_keeps fl3 k5) fun h4 fl4 up4 => ?_
    have J4 : Inv X pins σ' H' { s' with heap := h4 } := J.landed nb fl4.1 (((up.trans up3).trans (Heap.UpToSlots.of_keeps k5)).trans up4) os ag
    obtain ⟨oe4, vs4, he4, hz4, hd4⟩ := fl4.there
    have S4 := J4.suite he4 hd4 na nL nF
    refine store_ok (X := X.suite a ((a, oe4) :: (X.pn ++ pins))) (v := .ref a) S4 hN hi loc rfl (fun s5 S5 => ?_) (.inr hln)
    refine wpAny_mono ((hsu a oe4 cls d (X.pn ++ pins) hz4 ⟨_, hd4⟩).run [] s5 _ H' _ S5 (hyes a na)) (fun f s6 hsp => ?_) (fun _ _ z => False.elim z)
    cases f with
    | next =>
      obtain ⟨σ6, H6, S6, q6⟩ := hsp
      have K6 : Inv X ((a, oe4) :: pins) σ6 H6 s6 := ⟨ok, S6.os, S6.bare, S6.base, S6.loc, S6.cell, S6.free, S6.freeC, fun p hp => S6.pin p (by
        show p ∈ ((a, oe4) :: (X.pn ++ pins)) ++ []
        rw [List.append_nil]
        rcases List.mem_append.mp hp with z | z
        · exact List.mem_cons_of_mem _ (List.mem_append_left _ z)
        · rcases List.mem_cons.mp z with z | z
          · rw [z]
            exact List.mem_cons_self ..
          · exact List.mem_cons_of_mem _ (List.mem_append_right _ z)), S6.hok, S6.len⟩
      refine gone_ok K6 hN hi hln fun s7 J7 => ⟨_, _, inv_hold J7 (fun p hp => ?_) hz4 hd4 n0 np, q6⟩
      rcases List.mem_cons.mp hp with z | z
      · rw [z]
        exact List.mem_append_right _ (List.mem_cons_self ..)
      · rcases List.mem_append.mp z with z | z
        · exact List.mem_append_left _ z
        · exact List.mem_append_right _ (List.mem_cons_of_mem _ z)
    | brk =>
      obtain ⟨_, _, _, z⟩ := hsp
      exact False.elim z
    | cont =>
      obtain ⟨_, _, _, z⟩ := hsp
      exact False.elim z
    | ret u =>
      obtain ⟨_, _, _, _, _, z⟩ := hsp
      exact False.elim z
  · cases f with
    | next =>
      obtain ⟨σ', H', J', q⟩ := went
      exact wpAny_execs_nil ⟨σ', H', J'.ofTry ok, q⟩
    | brk =>
      obtain ⟨σ', H', J', q⟩ := went
      exact ⟨σ', H', J'.ofTry ok, q⟩
    | cont =>
      obtain ⟨σ', H', J', q⟩ := went
      exact ⟨σ', H', J'.ofTry ok, q⟩
    | ret u =>
      obtain ⟨v, σ', H', J', r, q⟩ := went
      exact ⟨v, σ', H', J'.ofTry ok, r, q⟩
end
/-! ### raise C(..), C with its own __init__ -/
theorem pmk_own2 {X : Cx} {e : Expr} {te : TE} (hx : X.ex = []) (he : PE X e te) :
    PMk X e (fun σ H Q => te σ H fun x H1 => ∃ (a C : Addr) (od : Option Addr), x = .ref a ∧ H1 a = some (exo a C od) ∧ Fr0 X.H_0 a ∧ Raises X (.ref C) ∧ Q (.ref C) od (delH H1 a)) := by
  intro pins s σ H Q I h
  refine wpAny_mono (he.run pins s σ H _ I h) (fun u s1 hu => ?_) fun _ _ x => x
  obtain ⟨v, H1, I1, r1, a, C, od, rfl, ha, h0, hr, q⟩ := hu
  cases r1
  obtain ⟨t1, ho⟩ := exo_at I1.hok ha
  obtain ⟨G, gs, ga, J⟩ := I1.untrack ha h0 hx
  exact ⟨a, _, _, { s1 with heap := G }, delH H1 a, .ref C, od, rfl, J, gs, ga, ho, ⟨rfl, rfl⟩, rfl, rfl, delH_same, rfl, I1.bare, hr, q⟩
/-! ### isinstance of a caught one -/
def rIsC (K : PySem.W.Frag) : List V → Hp → VK → Prop := fun xs H Q => ∃ (a C : Addr) (B newId initId : String) (bm : List Value) (c : V) (u : Value) (b : Bool),
  xs = [.ref a, c] ∧ ClsV c u ∧ OxC K C B newId initId bm ∧ H a = some (exh (.ref C) none a) ∧ PySem.W.kitOne K (.ref C) u = some b ∧ Q (.bl b) H
theorem call_isC {X : Cx} : CallR X (.builtin "isinstance") (rIsC X.K) := by
  intro pins s σ H xs us Q I r h
  obtain ⟨a, C, B, newId, initId, bm, c, u, b, rfl, k, T, ea, e, q⟩ := h
  obtain ⟨u1, u2, rfl, r1, r2⟩ := vals2 r
  have e2 := k.eq r2
  subst e2
  obtain rfl : u1 = Value.ref a := r1
  obtain ⟨oe, vs, ho, hz, hd⟩ := exh_at I.hok ea
  obtain ⟨cd, hcl, _⟩ := T.data
  have some_ : (PySem.W.clsIn X.K C).isSome = true := by rw [hcl]; rfl
  have J : PySem.W.InstAt s.heap a oe C none := ⟨ho, hz.1, by unfold PySem.W.notCls; rw [hd], by rw [hz.2]; exact trivial⟩
  exact PySem.W.kia_one (PySem.W.kitx_exc some_ T.ga T.gg T.exC T.ca T.cn T.ct T.om) I.kIn J e (fun z => nomatch z) fun tk => ⟨.bl b, H, I.tok tk, rfl, q⟩
end EV
end L2
/-! t[::-1] of a tuple. -/
namespace L2
namespace EV
open PySem PySem.Spec PyProof.Rows _root_.EV PySem.Builtin
theorem rev_adjust (n : Nat) : Slice.sliceAdjust none none (-1) (n : Int) = ((n : Int) - 1, -1) := by
  unfold Slice.sliceAdjust
  simp
theorem rev_places (n : Nat) : Slice.slicePlaces ((n : Int) - 1) (-1) (-1) = n := by
  unfold Slice.slicePlaces
  rw [if_neg (by decide)]
  by_cases h : 0 < n
  · rw [if_pos (by omega)]
    simp only [Int.neg_neg, Int.ediv_one]
    omega
  · rw [if_neg (by omega)]
    omega
theorem fm_congr {α β : Type} {f g : α → Option β} : ∀ {l : List α}, (∀ x ∈ l, f x = g x) → l.filterMap f = l.filterMap g
  | [], _ => rfl
  | x :: l, h => by
    rw [List.filterMap_cons, List.filterMap_cons, h x (List.mem_cons_self ..), fm_congr fun y hy => h y (List.mem_cons_of_mem _ hy)]
theorem rev_pick (xs : Array Value) : ((List.range xs.size).filterMap fun (k : Nat) => xs[((xs.size : Int) - 1 + (k : Int) * -1).toNat]?) = xs.toList.reverse := by
  have e : ∀ k ∈ List.range xs.size, xs[((xs.size : Int) - 1 + (k : Int) * -1).toNat]? = xs.toList.reverse[k]? := fun k hk => by
    have hk := List.mem_range.mp hk
    have z : ((xs.size : Int) - 1 + (k : Int) * -1).toNat = xs.size - 1 - k := by omega
    rw [z, List.getElem?_reverse (by simpa using hk)]
    simp
  rw [fm_congr e]
  have g : ∀ l : List Value, (List.range l.length).filterMap (fun k => l[k]?) = l := fun l => by
    have z := PySem.W.krv_all l.toArray
    simpa using z
  have z := g xs.toList.reverse
  simpa using z
section
variable {prog : Program} {w : World} {A : Around} {E : Value → Shared → Prop} {s : Shared}
theorem rev_applied {sl : Addr} {vk : Value} {n : Nat} {Q : Int × Int × Nat → Shared → Prop} (hs : s.heap.IsSliceOf sl .none .none vk) (pk : IsPart vk (some (-1))) (h : Q ((n : Int) - 1, -1, n) s) :
    wpAny (model prog w) A (Slice.sliceApplied (.ref sl) (pure (n : Int))) Q E s := by
  obtain ⟨os, hos, _, hds⟩ := id hs
  unfold Slice.sliceApplied Slice.sliceFields
  refine wpAny_bind (wpAny_bind (wpAny_field hos hds (x := .none) rfl (wpAny_bind (wpAny_field hos hds (x := .none) rfl (wpAny_bind (wpAny_field hos hds (x := vk) rfl (wpAny_pure ?_)))))))
  refine wpAny_bind (HT.slicePart_ pk ?_)
  show wpAny _ _ (if ((-1 : Int) == 0) = true then _ else _) _ _ s
  rw [if_neg (by decide)]
  refine wpAny_bind (slicePart_none (wpAny_bind (slicePart_none (wpAny_bind (wpAny_pure ?_)))))
  show wpAny _ _ (match Slice.sliceAdjust none none (-1) (n : Int) with | (lo, hi) => pure (lo, (-1 : Int), Slice.slicePlaces lo hi (-1))) _ _ s
  rw [rev_adjust]
  show wpAny _ _ (pure ((n : Int) - 1, (-1 : Int), Slice.slicePlaces ((n : Int) - 1) (-1) (-1))) _ _ s
  rw [rev_places]
  exact wpAny_pure h
theorem rev_item {t sl : Addr} {items : Array Value} {vk : Value} {Q : Value → Shared → Prop} (ht : IsTup s.heap t items) (hs : s.heap.IsSliceOf sl .none .none vk) (pk : IsPart vk (some (-1))) (hz : items.size ≤ sizeLine)
    (h : Q (.ref s.heap.objs.size) { s with heap := s.heap.push { cls := .type "tuple", data := .seq items.toList.reverse.toArray } }) : wpAny (model prog w) A (getItem (.ref t) (.ref sl)) Q E s := by
  have ok : sizeOk (.seq items.toList.reverse.toArray) := by
    show items.toList.reverse.toArray.size ≤ sizeLine
    rw [List.size_toArray, List.length_reverse, Array.length_toList]
    exact hz
  obtain ⟨os, hos, hcs, _⟩ := id hs
  have hTs : s.TypeIs (.ref sl) "slice" := ⟨os, hos, hcs⟩
  unfold getItem
  try with_reducible refine wpAny_holding ?_
  first | refine wpAny_bind (wpAny_pure ?_) | skip
  refine wpAny_bind (wpAny_sequenceKey ht.typeIs (by decide) ?_)
  refine wpAny_bind (wpAny_callSpecial?_slot (name := Str.ofString "__getitem__") ht.typeIs PyProof.Rows.slot_tuple_getitem (wpAny_call_entry PyProof.Rows.slot_tuple_getitem ht.typeIs entry_tuple_getitem ?_ (args_tuple_getitem _ _)))
  show wpAny _ _ (Tuple.tupleItemsOf (.ref t) >>= _) _ _ s
  refine wpAny_bind (tupleItemsOf_ ht (wpAny_bind (wpAny_typeOf hTs ?_)))
  rw [if_pos (by decide)]
  refine wpAny_bind (rev_applied hs pk ?_)
  show wpAny _ _ (if ((((items.size : Nat) : Int) - 1) == 0 && (-1 : Int) == 1 && items.size == items.size) = true then _ else _) _ _ s
  rw [if_neg (by simp), rev_pick]
  first
    | exact wpAny_bind (m := Tuple.tupleExact _) (wpAny_newObj_type (wpAny_pure ⟨_, rfl, wpAny_pure h⟩) ok)
    | exact wpAny_bind (m := Tuple.tupleExact _) (wpAny_newObj_type (wpAny_bind (wpAny_pure (wpAny_pure ⟨_, rfl, wpAny_pure h⟩))) ok)
    | exact wpAny_bind (wpAny_bind (m := Tuple.tupleExact _) (wpAny_newObj_type (wpAny_pure (wpAny_pure ⟨_, rfl, wpAny_pure h⟩)) ok))
    | exact wpAny_bind (wpAny_bind (m := Tuple.tupleExact _) (wpAny_newObj_type (wpAny_pure ⟨_, rfl, wpAny_pure h⟩) ok))
end
def tRevT (K : PySem.W.Frag) (te tk : TE) : TE := fun σ H Q => te σ H fun x H1 => tPart tk σ H1 fun o H2 => o = some (-1) ∧ ∃ a xs, x = .ref a ∧ H2 a = some (.tup xs) ∧ ∀ p, H2 p = none → Q (.ref p) (upd H2 p (.tup xs.reverse))
theorem vals_revs : ∀ {zs : List V} {ws : List Value}, Vals zs ws → Vals zs.reverse ws.reverse
  | _, _, .nil => .nil
  | _, _, .cons r t => by
    rw [List.reverse_cons, List.reverse_cons]
    exact (vals_revs t).append (.cons r .nil)
section
variable {X : Cx} {e k : Expr} {te tk : TE} {pos p2 : Pos}
theorem pe_revT {ops : Value → Value → List Value} (he : PE X e te) (hk : PE X k tk) (hs : ∀ o i : Value, subscripted (.Slice none none (some k) p2) false o i = operate (ops o i) (getItem o i)) : PE X (.Subscript e (.Slice none none (some k) p2) pos) (tRevT X.K te tk) := by
  refine ⟨fun pins s σ H Q I h => ?_⟩
  refine Subscript_ (thn (he.run pins s σ H _ I h) fun v s1 ⟨x, H1, I1, r1, q1⟩ => ?_)
  refine wpAny_Slice (thn (po_none.run pins s1 σ H1 (fun o H' => o = none ∧ H' = H1) I1 ⟨rfl, rfl⟩) fun vl s2 ⟨l, H2, I2, pl, q2⟩ => thn (po_none.run pins s2 σ H2 (fun o H' => o = none ∧ H' = H2) I2 ⟨rfl, rfl⟩) fun vu s3 ⟨u, H3, I3, pu, q3⟩ => ?_)
  obtain ⟨rfl, rfl⟩ := q2
  obtain ⟨rfl, rfl⟩ := q3
  cases pl
  cases pu
  refine thn ((po_some hk).run pins s3 σ _ _ I3 q1) fun vk s4 ⟨o, H4, I4, pk, ho, a, xs, ex, ea, q4⟩ => ?_
  subst ex ho
  obtain rfl : v = Value.ref a := r1
  have I5 : Inv X pins σ H4 { s4 with heap := s4.heap.push { cls := .type "slice", data := .fields #[.none, .none, vk] } } := I4.kept (t' := s4.toks) fun b ob q => Heap.get?_push_of_some _ q
  obtain ⟨its, r, ht, hz⟩ := I5.tuple (SqT.of ea)
  have hg := rev_item (prog := X.prog) (w := X.w) (A := X.A) (E := X.xe) (Q := EP X pins σ Q) (s := { s4 with heap := s4.heap.push { cls := .type "slice", data := .fields #[.none, .none, vk] } }) ht (Heap.IsSliceOf.new ..) pk (by rw [List.size_toArray, ← r.length]; exact hz) ?_
  · exact tail_any ht.typeIs PyProof.Rows.slot_tuple_getitem.lookup hg (hs _ _)
  · rw [List.toList_toArray]
    have fr : H4 (s4.heap.push { cls := .type "slice", data := .fields #[.none, .none, vk] }).objs.size = none := I5.hok.fresh (Nat.le_refl _)
    refine ⟨.ref (s4.heap.push { cls := .type "slice", data := .fields #[.none, .none, vk] }).objs.size, _, I5.laid (t' := s4.toks) (a := (s4.heap.push { cls := .type "slice", data := .fields #[.none, .none, vk] }).objs.size) (o := .tup xs.reverse)
      (h' := (s4.heap.push { cls := .type "slice", data := .fields #[.none, .none, vk] }).push { cls := .type "tuple", data := .seq its.reverse.toArray }) (fun b o q => Heap.get?_push_of_some _ q) (Nat.le_refl _) ?_, rfl, q4 _ fr⟩
    exact ⟨by rw [List.length_reverse]; exact hz, its.reverse, vals_revs r, ⟨_, Heap.get?_push_size _ rfl, rfl, 0, rfl⟩⟩
end
end EV
end L2
/-! Pairs of an int and a text: <, <=. Raising an own exception whose __init__ has put fields. -/
namespace L2
open PySem PySem.Spec PyProof.Rows
abbrev IS : Type := Int × Str
def ltIS (a b : IS) : Bool := if a.1 = b.1 then decide (sl a.2 < sl b.2) else decide (a.1 < b.1)
def tIS (a : IS) : HO := .tup [.int a.1, .str a.2]
def rLtIS : R2 := fun x y H Q => ∃ (a b : Addr) (m n : IS), x = .ref a ∧ y = .ref b ∧ H a = some (tIS m) ∧ H b = some (tIS n) ∧ Q (.bl (ltIS m n)) H
def rLeIS : R2 := fun x y H Q => ∃ (a b : Addr) (m n : IS), x = .ref a ∧ y = .ref b ∧ H a = some (tIS m) ∧ H b = some (tIS n) ∧ Q (.bl (!ltIS n m)) H
theorem lexP_lt (m n : IS) : Ob.lexAt (fun j => if j = 0 then m.1 == n.1 else m.2 == n.2) (fun j => if j = 0 then decide (m.1 < n.1) else decide (sl m.2 < sl n.2)) false 0 2 = ltIS m n := by
  obtain ⟨m1, m2⟩ := m
  obtain ⟨n1, n2⟩ := n
  simp only [Ob.lexAt, ltIS]
  by_cases e1 : m1 = n1
  · subst e1
    by_cases e2 : m2 = n2
    · subst e2
      have z : ¬ sl m2 < sl m2 := List.lt_irrefl _
      simp
    · simp [e2]
  · simp [e1]
theorem lexP_le (m n : IS) : Ob.lexAt (fun j => if j = 0 then m.1 == n.1 else m.2 == n.2) (fun j => if j = 0 then decide (m.1 ≤ n.1) else decide (sl m.2 ≤ sl n.2)) true 0 2 = !ltIS n m := by
  obtain ⟨m1, m2⟩ := m
  obtain ⟨n1, n2⟩ := n
  simp only [Ob.lexAt, ltIS]
  by_cases e1 : m1 = n1
  · subst e1
    by_cases e2 : m2 = n2
    · subst e2
      have z : ¬ sl m2 < sl m2 := List.lt_irrefl _
      simp
    · have e2' : ¬ n2 = m2 := fun z => e2 z.symm
      simp only [beq_self_eq_true, if_true, Nat.zero_add, Nat.one_ne_zero, if_false, beq_iff_eq, e2]
      by_cases z : sl m2 ≤ sl n2
      · rw [decide_eq_true z, decide_eq_false (List.not_lt.mpr z)]
        rfl
      · rw [decide_eq_false z, decide_eq_true (List.not_le.mp z)]
        rfl
  · have e1' : ¬ n1 = m1 := fun z => e1 z.symm
    simp only [if_true, beq_iff_eq, e1, e1', if_false]
    by_cases z : m1 ≤ n1
    · rw [decide_eq_true z, decide_eq_false (by omega)]
      rfl
    · rw [decide_eq_false z, decide_eq_true (by omega)]
      rfl
theorem lt_strR {A : Around} {s : Shared} (a b : Str) (t u : Tok) : Ob.RcOp .Lt A s (.str a t) (.str b u) (decide (sl a < sl b)) := fun _ _ _ _ h => PyProof.Rows.lt_str h
section
variable {X : Cx}
theorem vals_2 {x y : V} {us : List Value} (r : Vals [x, y] us) : ∃ u w', us = [u, w'] ∧ RelV x u ∧ RelV y w' := by
  cases r with
  | cons r1 r =>
    cases r with
    | cons r2 r =>
      cases r
      exact ⟨_, _, rfl, r1, r2⟩
theorem op_ltIS (hu : X.A.units < cLine) : OpR X (compareOp .Lt) rLtIS := by
  intro pins s σ H x y v u Q I rx ry h
  obtain ⟨a, b, m, n, rfl, rfl, ha, hb, q⟩ := h
  cases rx
  cases ry
  obtain ⟨its, r1, p1, _⟩ := I.tuple (SqT.of ha)
  obtain ⟨its2, r2, p2, _⟩ := I.tuple (SqT.of hb)
  obtain ⟨u1, u2, rfl, ⟨t1, rfl⟩, ⟨t2, rfl⟩⟩ := vals_2 r1
  obtain ⟨v1, v2, rfl, ⟨w1, rfl⟩, ⟨w2, rfl⟩⟩ := vals_2 r2
  have R := Ob.RcOp.tuples_lt (A := X.A) (s := s) (e := fun j => if j = 0 then m.1 == n.1 else m.2 == n.2) (r := fun j => if j = 0 then decide (m.1 < n.1) else decide (sl m.2 < sl n.2)) p1 p2 hu
    (fun j h1 h2 => by
      match j, h1 with
      | 0, _ => exact SeqAt.EqAt.int_int _ _ _ _
      | 1, _ => exact SeqAt.EqAt.str_str _ _ _ _)
    (fun j h1 h2 _ => by
      match j, h1 with
      | 0, _ => exact Ob.RcOp.lt_int _ _ _ _
      | 1, _ => exact lt_strR _ _ _ _)
  have e3 : Ob.lexAt (fun j => if j = 0 then m.1 == n.1 else m.2 == n.2) (fun j => if j = 0 then decide (m.1 < n.1) else decide (sl m.2 < sl n.2)) (decide (2 < 2)) 0 (min 2 2) = ltIS m n := lexP_lt m n
  have z : wpAny (model X.prog X.w) X.A (compareOp .Lt (.ref a) (.ref b)) (EP X pins σ Q) X.xe s := R X.prog X.w X.xe (EP X pins σ Q) ⟨.bl _, H, I, rfl, by
    rw [← e3] at q
    exact q⟩
  exact z
theorem op_leIS (hu : X.A.units < cLine) : OpR X (compareOp .LtE) rLeIS := by
  intro pins s σ H x y v u Q I rx ry h
  obtain ⟨a, b, m, n, rfl, rfl, ha, hb, q⟩ := h
  cases rx
  cases ry
  obtain ⟨its, r1, p1, _⟩ := I.tuple (SqT.of ha)
  obtain ⟨its2, r2, p2, _⟩ := I.tuple (SqT.of hb)
  obtain ⟨u1, u2, rfl, ⟨t1, rfl⟩, ⟨t2, rfl⟩⟩ := vals_2 r1
  obtain ⟨v1, v2, rfl, ⟨w1, rfl⟩, ⟨w2, rfl⟩⟩ := vals_2 r2
  have R := Ob.RcOp.tuples_le (A := X.A) (s := s) (e := fun j => if j = 0 then m.1 == n.1 else m.2 == n.2) (r := fun j => if j = 0 then decide (m.1 ≤ n.1) else decide (sl m.2 ≤ sl n.2)) p1 p2 hu
    (fun j h1 h2 => by
      match j, h1 with
      | 0, _ => exact SeqAt.EqAt.int_int _ _ _ _
      | 1, _ => exact SeqAt.EqAt.str_str _ _ _ _)
    (fun j h1 h2 _ => by
      match j, h1 with
      | 0, _ => exact Ob.RcOp.le_int _ _ _ _
      | 1, _ => exact RcOp.le_str _ _ _ _)
  have e3 : Ob.lexAt (fun j => if j = 0 then m.1 == n.1 else m.2 == n.2) (fun j => if j = 0 then decide (m.1 ≤ n.1) else decide (sl m.2 ≤ sl n.2)) (decide (2 ≤ 2)) 0 (min 2 2) = !ltIS n m := lexP_le m n
  have z : wpAny (model X.prog X.w) X.A (compareOp .LtE (.ref a) (.ref b)) (EP X pins σ Q) X.xe s := R X.prog X.w X.xe (EP X pins σ Q) ⟨.bl _, H, I, rfl, by
    rw [← e3] at q
    exact q⟩
  exact z
end
namespace EV
/-- an exception's fields, told as those of one that flies -/
theorem exd_told {X : Cx} {pins : List (Addr × Obj)} {σ : L2.St} {H : Hp} {s : Shared} {d : Addr} {fs : List (Str × V)} (I : Inv X pins σ H s) (e : H d = some (exd d fs)) : Inv X pins σ (upd H d (.xd fs)) s := by
  obtain ⟨mA, hns, rel⟩ := exd_at I.hok e
  obtain ⟨od, ho, _⟩ := lookIn_ns hns
  exact I.write (h' := s.heap) (t' := s.toks) (x := d) (e := d) (o := .xd fs) (by rw [e]; exact True.intro) (.inl rfl) (fun b u _ q => q) (by
    obtain ⟨o, es, ep, e1, _⟩ := hns
    exact ⟨_, e1⟩) ⟨mA, hns, rel⟩
theorem pmk_own3 {X : Cx} {e : Expr} {te : TE} (hx : X.ex = []) (he : PE X e te) :
    PMk X e (fun σ H Q => te σ H fun x H1 => ∃ (a C d : Addr) (fs : List (Str × V)), x = .ref a ∧ H1 a = some (exo a C (some d)) ∧ d ≠ a ∧ H1 d = some (exd d fs) ∧ Fr0 X.H_0 a ∧ Raises X (.ref C) ∧ Q (.ref C) (some d) (upd (delH H1 a) d (.xd fs))) := by
  intro pins s σ H Q I h
  refine wpAny_mono (he.run pins s σ H _ I h) (fun u s1 hu => ?_) fun _ _ x => x
  obtain ⟨v, H1, I1, r1, a, C, d, fs, rfl, ha, nda, hd, h0, hr, q⟩ := hu
  cases r1
  obtain ⟨t1, ho⟩ := exo_at I1.hok ha
  obtain ⟨G, gs, ga, J⟩ := I1.untrack ha h0 hx
  have hd' : delH H1 a d = some (exd d fs) := by
    rw [delH_ne nda]
    exact hd
  have J2 := exd_told J hd'
  have na : upd (delH H1 a) d (.xd fs) a = none := by
    rw [upd_ne nda.symm]
    exact delH_same
  exact ⟨a, _, _, { s1 with heap := G }, _, .ref C, some d, rfl, J2, gs, ga, ho, ⟨rfl, rfl⟩, rfl, rfl, na, rfl, I1.bare, hr, q⟩
end EV
end L2
/-! Data of any form; is_number of it. -/
namespace L2
open PySem PySem.Spec PyProof.Rows
/-- t[lo:hi]: somewhere, all else stays -/
def rSlW (K : PySem.W.Frag) : V → Option Int → Option Int → Hp → VK → Prop := fun x lo hi H Q => ∃ a xs, x = .ref a ∧ H a = some (.tup xs) ∧ ∀ p H', Same H H' → H' p = some (.tup (cutV xs lo hi)) → Q (.ref p) H'
theorem sl_tupS {X : Cx} : SlR X (rSlW X.K) := by
  intro pins s σ H x v vl vu lo hi sl Q I rx hs pl pu h
  obtain ⟨a, xs, rfl, ha, q⟩ := h
  refine sl_tupA pins s σ H _ v vl vu lo hi sl Q I rx hs pl pu ⟨a, xs, rfl, SqT.of ha, fun z => ?_, fun _ p hp => q p _ (K06.same_upd hp) upd_same⟩
  refine q a H (fun _ _ e => e) ?_
  rw [ha]
  unfold cutV
  rw [z.1, z.2]
  simp
end L2
namespace K06
open PySem L2 L2.EV
theorem cutTo {xs : List V} {n : Nat} : cutV xs none (some (n : Int)) = xs.take n := by
  unfold cutV
  rw [HT.sIx_nat, HT.sIx_none, List.drop_zero, Nat.sub_zero]
  by_cases h : n ≤ xs.length
  · rw [Nat.min_eq_left h]
  · rw [Nat.min_eq_right (by omega), List.take_of_length_le (Nat.le_refl _), List.take_of_length_le (by omega)]
theorem cutFrom {xs : List V} {n : Nat} : cutV xs (some (n : Int)) none = xs.drop n := by
  unfold cutV
  rw [HT.sIx_nat, HT.sIx_none]
  by_cases h : n ≤ xs.length
  · rw [Nat.min_eq_left h]
    exact List.take_of_length_le (by rw [List.length_drop]; omega)
  · rw [Nat.min_eq_right (by omega), List.drop_of_length_le (Nat.le_refl _), List.drop_of_length_le (by omega)]
    simp
mutual
/-- v stands for d, all of its lists and tuples tracked -/
inductive Da (H : Hp) : V → PyData → Prop
  | non : Da H .non .none
  | bl (b : Bool) : Da H (.bl b) (.bool b)
  | int (i : Int) : Da H (.int i) (.int i)
  | str (x : Str) : Da H (.str x) (.str x)
  | lst {a : Addr} {xs : List V} {ds : List PyData} : H a = some (.lst xs) → DaAll H xs ds → Da H (.ref a) (.list ds)
  | tup {a : Addr} {xs : List V} {ds : List PyData} : H a = some (.tup xs) → DaAll H xs ds → Da H (.ref a) (.tuple ds)
inductive DaAll (H : Hp) : List V → List PyData → Prop
  | nil : DaAll H [] []
  | cons {v : V} {vs : List V} {d : PyData} {ds : List PyData} : Da H v d → DaAll H vs ds → DaAll H (v :: vs) (d :: ds)
end
mutual
theorem Da.same {H H' : Hp} (s : Same H H') : ∀ (d : PyData) (v : V), Da H v d → Da H' v d
  | .none, _, h => by cases h; exact .non
  | .bool b, _, h => by cases h; exact .bl b
  | .int i, _, h => by cases h; exact .int i
  | .str x, _, h => by cases h; exact .str x
  | .list ds, _, h => by
    cases h with
    | lst e ha => exact .lst (s _ _ e) (DaAll.same s ds _ ha)
  | .tuple ds, _, h => by
    cases h with
    | tup e ha => exact .tup (s _ _ e) (DaAll.same s ds _ ha)
  | .dict _, _, h => by cases h
theorem DaAll.same {H H' : Hp} (s : Same H H') : ∀ (ds : List PyData) (vs : List V), DaAll H vs ds → DaAll H' vs ds
  | [], _, h => by cases h; exact .nil
  | d :: ds, _, h => by
    cases h with
    | cons h1 h2 => exact .cons (Da.same s d _ h1) (DaAll.same s ds _ h2)
end
mutual
theorem Da.dp {K : PySem.W.Frag} {H : Hp} : ∀ (d : PyData) (v : V), Da H v d → Dp K H v d
  | .none, _, h => by cases h; exact .non
  | .bool b, _, h => by cases h; exact .bl b
  | .int i, _, h => by cases h; exact .int i
  | .str x, _, h => by cases h; exact .str x
  | .list ds, _, h => by
    cases h with
    | lst e ha => exact .lst (SqL.of e) (DaAll.dp ds _ ha)
  | .tuple ds, _, h => by
    cases h with
    | tup e ha => exact .tup (SqT.of e) (DaAll.dp ds _ ha)
  | .dict _, _, h => by cases h
theorem DaAll.dp {K : PySem.W.Frag} {H : Hp} : ∀ (ds : List PyData) (vs : List V), DaAll H vs ds → DpAll K H vs ds
  | [], _, h => by cases h; exact .nil
  | d :: ds, _, h => by
    cases h with
    | cons h1 h2 => exact .cons (Da.dp d _ h1) (DaAll.dp ds _ h2)
end
theorem DaAll.len {H : Hp} : ∀ {vs : List V} {ds : List PyData}, DaAll H vs ds → vs.length = ds.length
  | _, _, .nil => rfl
  | _, _, .cons _ t => by rw [List.length_cons, List.length_cons, t.len]
theorem DaAll.at_ {H : Hp} : ∀ {vs : List V} {ds : List PyData} {i : Nat} {v : V}, DaAll H vs ds → vs[i]? = some v → ∃ d, ds[i]? = some d ∧ Da H v d
  | _, _, 0, _, .cons h _, e => by
    cases e
    exact ⟨_, rfl, h⟩
  | _, _, i + 1, _, .cons _ t, e => t.at_ (i := i) (by simpa using e)
  | _, _, _, _, .nil, e => by simp at e
theorem DaAll.at' {H : Hp} : ∀ {vs : List V} {ds : List PyData} {i : Nat} {d : PyData}, DaAll H vs ds → ds[i]? = some d → ∃ v, vs[i]? = some v ∧ Da H v d
  | _, _, 0, _, .cons h _, e => by
    cases e
    exact ⟨_, rfl, h⟩
  | _, _, i + 1, _, .cons _ t, e => t.at' (i := i) (by simpa using e)
  | _, _, _, _, .nil, e => by simp at e
theorem DaAll.app {H : Hp} : ∀ {vs ws : List V} {ds es : List PyData}, DaAll H vs ds → DaAll H ws es → DaAll H (vs ++ ws) (ds ++ es)
  | _, _, _, _, .nil, q => q
  | _, _, _, _, .cons h t, q => .cons h (t.app q)
theorem DaAll.drop {H : Hp} : ∀ {vs : List V} {ds : List PyData} (n : Nat), DaAll H vs ds → DaAll H (vs.drop n) (ds.drop n)
  | _, _, 0, h => h
  | _, _, n + 1, .nil => .nil
  | _, _, n + 1, .cons _ t => t.drop n
theorem DaAll.take {H : Hp} : ∀ {vs : List V} {ds : List PyData} (n : Nat), DaAll H vs ds → DaAll H (vs.take n) (ds.take n)
  | _, _, 0, h => .nil
  | _, _, n + 1, .nil => .nil
  | _, _, n + 1, .cons h t => .cons h (t.take n)
theorem DaAll.rev {H : Hp} : ∀ {vs : List V} {ds : List PyData}, DaAll H vs ds → DaAll H vs.reverse ds.reverse
  | _, _, .nil => .nil
  | _, _, .cons h t => by
    rw [List.reverse_cons, List.reverse_cons]
    exact t.rev.app (.cons h .nil)
/-! ### of which type -/
def isTup : PyData → Bool
  | .tuple _ => true
  | _ => false
def isInt : PyData → Bool
  | .int _ => true
  | .bool _ => true
  | _ => false
def isBl : PyData → Bool
  | .bool _ => true
  | _ => false
theorem Da.ty {K : PySem.W.Frag} {H : Hp} {v : V} {d : PyData} (h : Da H v d) : ∃ t : Value, TyX K H v t ∧ PySem.W.kitOne K t (.type "tuple") = some (isTup d) ∧ PySem.W.kitOne K t (.type "int") = some (isInt d) ∧ PySem.W.kitOne K t (.type "bool") = some (isBl d) := by
  cases h with
  | non => exact ⟨_, .base .non, kit_ty (r := false) (by decide +kernel), kit_ty (r := false) (by decide +kernel), kit_ty (r := false) (by decide +kernel)⟩
  | bl b => exact ⟨_, .base (.bl b), kit_ty (r := false) (by decide +kernel), kit_ty (r := true) (by decide +kernel), kit_ty (r := true) (by decide +kernel)⟩
  | int i => exact ⟨_, .base (.int i), kit_ty (r := false) (by decide +kernel), kit_ty (r := true) (by decide +kernel), kit_ty (r := false) (by decide +kernel)⟩
  | str x => exact ⟨_, .base (.str x), kit_ty (r := false) (by decide +kernel), kit_ty (r := false) (by decide +kernel), kit_ty (r := false) (by decide +kernel)⟩
  | lst e _ => exact ⟨_, .base (.lst e), kit_ty (r := false) (by decide +kernel), kit_ty (r := false) (by decide +kernel), kit_ty (r := false) (by decide +kernel)⟩
  | tup e _ => exact ⟨_, .base (.tup e), kit_ty (r := true) (by decide +kernel), kit_ty (r := false) (by decide +kernel), kit_ty (r := false) (by decide +kernel)⟩
/-! ### numbers, entries -/
def numD (m : Int) : PyData → Option Int
  | .int i => if 0 ≤ i ∧ i < m then some i else none
  | _ => none
theorem numD_some {m i : Int} {d : PyData} (h : numD m d = some i) : d = .int i ∧ 0 ≤ i ∧ i < m := by
  cases d with
  | int j =>
    have h : (if 0 ≤ j ∧ j < m then some j else none) = some i := h
    by_cases c : 0 ≤ j ∧ j < m
    · rw [if_pos c] at h
      cases h
      exact ⟨rfl, c⟩
    · rw [if_neg c] at h
      cases h
  | _ => cases h
def spNumD : Sp := fun vs H Q _ => ∃ (v : V) (d : PyData) (m : Int), vs = [v, .int m] ∧ Da H v d ∧ Q (.bl (numD m d).isSome) H
section
variable {P : Program} {w : World} {K : PySem.W.Frag} {mg : Str → Option Value} {base : Heap}
theorem ok_numD {f : Addr} {fd : FuncData} (F : Fun K "is_number" "is_number" sNum f fd) (T : TxtF mg) : FnOk P w K mg base CX0 1 f fd ["thing", "many"] spNumD := by
  refine F.ok scNum (fun vs H Q E h => ?_) (fun cdv A outer s H vs Q E hr h => ?_)
  · obtain ⟨v, d, m, rfl, _⟩ := h
    rfl
  · obtain ⟨v, d, m, rfl, da, q⟩ := h
    refine ⟨_, pss_one (ps_ret (pe_and (pe_callB call_isi (by rfl) T.isi PyProof.Rows.boot_isinstance (pa_cons (pv 0) (pa_cons (pe_bltn (v := .ty "int") (by rfl) T.int (by decide +kernel) rfl) pa_nil)))
      (pe_and (pe_not (pe_callB call_isi (by rfl) T.isi PyProof.Rows.boot_isinstance (pa_cons (pv 0) (pa_cons (pe_bltn (v := .ty "bool") (by rfl) T.bool (by decide +kernel) rfl) pa_nil))))
        (pe_one (pe_chain op_le op_lt pe_int (pv 0) (pv 1)))))), ?_⟩
    obtain ⟨t, ty, _, ki, kb⟩ := da.ty (K := K)
    refine ⟨_, rfl, v, .ty "int", t, .type "int", isInt d, rfl, .ty "int", ty, ki, isInt d, rfl, ?_⟩
    cases da with
    | int n =>
      refine iteT ?_
      refine ⟨_, rfl, .int n, .ty "bool", t, .type "bool", false, rfl, .ty "bool", ty, kb, false, rfl, true, rfl, iteT ?_⟩
      refine ⟨_, rfl, 0, n, rfl, rfl, _, rfl, ?_⟩
      have q : Q (.bl (if 0 ≤ n ∧ n < m then some n else none).isSome) H := q
      refine ite2 (fun z => ?_) (fun z => ?_)
      · have z1 : 0 ≤ n := of_decide_eq_true z
        refine ⟨_, rfl, n, m, rfl, rfl, ?_⟩
        by_cases c : n < m
        · rw [if_pos ⟨z1, c⟩] at q
          show Q (.bl (decide (n < m))) H
          rw [decide_eq_true c]
          exact q
        · rw [if_neg (fun k => c k.2)] at q
          show Q (.bl (decide (n < m))) H
          rw [decide_eq_false c]
          exact q
      · have z1 : ¬ 0 ≤ n := fun k => z (decide_eq_true k)
        rw [if_neg (fun k => z1 k.1)] at q
        exact q
    | bl b =>
      refine iteT ?_
      exact ⟨_, rfl, .bl b, .ty "bool", t, .type "bool", true, rfl, .ty "bool", ty, kb, true, rfl, false, rfl, iteF q⟩
    | non => exact iteF q
    | str x => exact iteF q
    | lst e h => exact iteF q
    | tup e h => exact iteF q
end
end K06
/-! BadReader; is_rule of any data. -/
namespace K06
open PySem L2 L2.EV
def spTwo (C : Addr) (f g : Str) : Sp := fun vs H Q _ => ∃ (a : Addr) (x y : V), vs = [.ref a, x, y] ∧ H a = some (exo a C none) ∧
  ∀ dx, H dx = none → dx ≠ a → Q .non (upd (upd (upd H dx (exd dx [(f, x)])) a (exo a C (some dx))) dx (exd dx [(g, y), (f, x)]))
/-- what is asked of a built-in base, for B.__init__(self, ..) -/
structure BI (K : PySem.W.Frag) (mg : Str → Option Value) (nB : Str) (B initId : String) : Prop where
  mg : mg nB = none
  bt : bootBuiltins nB = some (.type B)
  ty : typeOf (.type B) = pure (.type "type")
  vV : PySem.W.findCls K (.type B) (.type "type") "__init__" = some (.val (.builtin initId))
  st : Manifest.isStub B = false
def gP : List Value → List Value → List Value := fun us _ => us
def vP : List V → List V → List V := fun vs _ => vs
theorem kb_pos {K : PySem.W.Frag} {fd : FuncData} {ps : List Str} {n : Nat} (b : Binds K fd ps []) (hn : ps.length = n) : KBn K fd ps n [] gP vP := by
  refine ⟨fun s us ws X l1 l2 => ?_, fun r _ => r⟩
  have z := b s us X (by rw [List.append_nil, l1, hn])
  rw [List.append_nil] at z
  exact z
abbrev bmVE : List Value := [.type "ValueError", .type "Exception", .type "BaseException", .type "object"]
section
variable {P : Program} {w : World} {K : PySem.W.Frag} {mg : Str → Option Value} {base : Heap}
abbrev sBadReader : Stmt := inClass (top 3) 0
theorem scBadReader : FnScope ["self", "part", "number"] ["self", "part", "number"] (defScope sBadReader) := ⟨rfl, rfl, rfl, by decide +kernel, rfl, by decide +kernel, by decide +kernel⟩
theorem ok_BadReader {f C : Addr} {fd : FuncData} (F : Fun K "__init__" "BadReader.__init__" sBadReader f fd) (T : OxC K C "ValueError" "ValueError.__new__" "ValueError.__init__" [.type "ValueError", .type "Exception", .type "BaseException", .type "object"]) (I : BI K mg "ValueError" "ValueError" "ValueError.__init__")
    (n0 : PySem.W.findIn K (.ref C) "part" = some none) (n1 : PySem.W.findIn K (.ref C) "number" = some none) : FnOk P w K mg base CX0 1 f fd ["self", "part", "number"] (spTwo C "part" "number") := by
  refine F.ok scBadReader (fun vs H Q E h => ?_) (fun cdv A outer s H vs Q E hr h => ?_)
  · obtain ⟨a, x, y, rfl, _⟩ := h
    rfl
  · obtain ⟨a, x, y, rfl, e, q⟩ := h
    refine ⟨_, pss_cons (ps_expr (pe_bin (newId := "ValueError.__new__") (bm := [.type "ValueError", .type "Exception", .type "BaseException", .type "object"]) (by rfl) I.mg I.bt I.ty I.vV I.st (pa_cons (pv 0) (pa_cons pe_str pa_nil)) rfl)) (pss_cons (ps_put (B := "ValueError") (newId := "ValueError.__new__") (initId := "ValueError.__init__") (bm := [.type "ValueError", .type "Exception", .type "BaseException", .type "object"]) (pv 0) (pv 1) rfl) (pss_one (ps_put (B := "ValueError") (newId := "ValueError.__new__") (initId := "ValueError.__init__") (bm := [.type "ValueError", .type "Exception", .type "BaseException", .type "object"]) (pv 0) (pv 2) rfl))), ?_⟩
    exact ⟨_, rfl, a, C, _, rfl, by decide, T, e, _, rfl, _, rfl, a, C, rfl, T, n0, .inl ⟨e, fun dx hn ne => ⟨_, rfl, _, rfl, a, C, rfl, T, n1, .inr ⟨dx, _, upd_same, by rw [upd_ne ne]; exact upd_same, by show 1 ≤ 900; decide, q dx hn ne⟩⟩⟩⟩
end
/-- what is known of BadReader -/
structure Brd (K : PySem.W.Frag) (mg : Str → Option Value) where
  C : Addr
  f : Addr
  d : FuncData
  T : OxC K C "ValueError" "ValueError.__new__" "ValueError.__init__" bmVE
  I : BI K mg "ValueError" "ValueError" "ValueError.__init__"
  F : Fun K "__init__" "BadReader.__init__" sBadReader f d
  b : Binds K d ["self", "part", "number"] []
  m : mg "BadReader" = some (.ref C)
  iC : PySem.W.findIn K (.ref C) "__init__" = some (some (.ref f))
  tI : PySem.W.typeIn K (.ref f) = some (.type "function")
  n0 : PySem.W.findIn K (.ref C) "part" = some none
  n1 : PySem.W.findIn K (.ref C) "number" = some none
  su : PySem.W.subIn K (.ref C) (.type "BaseException") = some true
  ty : PySem.W.typeIn K (.ref C) = some (.type "type")
  own : PySem.W.subIn K (.ref C) (.ref C) = some true
theorem same_none {H H' : Hp} {a : Addr} (s : Same H H') (n : H' a = none) : H a = none := by
  cases e : H a with
  | none => rfl
  | some o =>
    rw [s _ _ e] at n
    cases n
def isSt : PyData → Bool
  | .str _ => true
  | _ => false
theorem Da.tyS {K : PySem.W.Frag} {H : Hp} {v : V} {d : PyData} (h : Da H v d) : ∃ t : Value, TyX K H v t ∧ PySem.W.kitOne K t (.type "str") = some (isSt d) := by
  cases h with
  | non => exact ⟨_, .base .non, kit_ty (r := false) (by decide +kernel)⟩
  | bl b => exact ⟨_, .base (.bl b), kit_ty (r := false) (by decide +kernel)⟩
  | int i => exact ⟨_, .base (.int i), kit_ty (r := false) (by decide +kernel)⟩
  | str x => exact ⟨_, .base (.str x), kit_ty (r := true) (by decide +kernel)⟩
  | lst e _ => exact ⟨_, .base (.lst e), kit_ty (r := false) (by decide +kernel)⟩
  | tup e _ => exact ⟨_, .base (.tup e), kit_ty (r := false) (by decide +kernel)⟩
abbrev sRule : Stmt := top 24
/-- one sign -/
def signD (x : Str) : Bool := decide (x.length = 1) && decide (∀ c ∈ sl x, c ∈ sgs)
def ruleD : PyData → Option T3
  | .tuple [a, .str x, b] => match numD 200 a, numD 200 b with
    | some i, some j => if signD x = true then some (i, x, j) else none
    | _, _ => none
  | _ => none
theorem one_sign {x : Str} (h : x.length = 1) : ∃ c : Nat, x = ⟨#[c]⟩ := by
  obtain ⟨xs⟩ := x
  have h : xs.size = 1 := h
  refine ⟨xs[0], ?_⟩
  congr 1
  refine Array.ext (by simp [h]) fun i h1 h2 => ?_
  have : i = 0 := by omega
  subst this
  rfl
theorem signD_one {c : Nat} : signD ⟨#[c]⟩ = decide (c ∈ sgs) := by
  unfold signD
  have e : (⟨#[c]⟩ : Str).length = 1 := rfl
  have e2 : sl ⟨#[c]⟩ = [c] := rfl
  rw [decide_eq_true e, e2]
  simp
/-- a rule's sign is no long text -/
def szS (d : PyData) : Prop := ∀ a x b, d = .tuple [a, .str x, b] → x.length ≤ 1000
def spRule : Sp := fun vs H Q _ => ∃ (v : V) (d : PyData), vs = [v] ∧ Da H v d ∧ szS d ∧ Q (.bl (ruleD d).isSome) H
/-- what need_reader wants of the text of the top -/
structure Rs (K : PySem.W.Frag) (mg : Str → Option Value) where
  Z : Fs K mg
  B : Brd K mg
  fU : Addr
  dU : FuncData
  U : Fun K "is_rule" "is_rule" sRule fU dU
  bU : Binds K dU ["thing"] []
  mU : mg "is_rule" = some (.ref fU)
  states : ∃ t, mg "MOST_STATES" = some (.int 200 t)
section
variable {P : Program} {w : World} {K : PySem.W.Frag} {mg : Str → Option Value} {base : Heap}
theorem scRule : FnScope ["thing", "state", "sign", "goal"] ["thing"] (defScope sRule) := ⟨rfl, rfl, rfl, by decide +kernel, rfl, by decide +kernel, by decide +kernel⟩
theorem ok_rule (R : Rs K mg) : FnOk P w K mg base CX0 2 R.fU R.dU ["thing"] spRule := by
  have GN : FnOk P w K mg base CX0 1 R.Z.fN R.Z.dN ["thing", "many"] spNumD := ok_numD R.Z.N R.Z.T
  refine R.U.ok scRule (fun vs H Q E h => ?_) (fun cdv A outer s H vs Q E hr h => ?_)
  · obtain ⟨v, d, rfl, _⟩ := h
    rfl
  · obtain ⟨v, d, rfl, da, sz, q⟩ := h
    obtain ⟨tm, eM⟩ := R.states
    obtain ⟨ts, eS⟩ := R.Z.T.signs
    refine ⟨_, pss_cons (ps_if (pw_or (pt_not (pt_val (pe_callB call_isi (by rfl) R.Z.T.isi PyProof.Rows.boot_isinstance (pa_cons (pv 0) (pa_cons (pe_bltn (v := .ty "tuple") (by rfl) R.Z.T.tuple (by decide +kernel) rfl) pa_nil)))))
        (pw_or1 (pt_cmpR op_ne (pe_callB call_len_seq (by rfl) R.Z.T.len PySem.boot_len (pa_cons (pv 0) pa_nil)) pe_int (nomark _)))).pt
        (pss_one (ps_ret pe_bl)) pss_nil)
      (pss_cons (ps_asg (pv 0) (pg_tup rfl (pgs_cons (pg_name (i := 1) scRule.nd rfl (Or.inl rfl)) (pgs_cons (pg_name (i := 2) scRule.nd rfl (Or.inl rfl)) (pgs_cons (pg_name (i := 3) scRule.nd rfl (Or.inl rfl)) pgs_nil)))))
      (pss_cons (ps_if (pw_or (pt_not (pt_val (pe_call GN hr (by rfl) R.Z.mN R.Z.N.kp R.Z.bN .nil pass0 (pa_cons (pv 1) (pa_cons (pe_glob (v := .int 200) (by rfl) eM ⟨_, rfl⟩) pa_nil)))))
        (pw_or1 (pt_not (pt_val (pe_call GN hr (by rfl) R.Z.mN R.Z.N.kp R.Z.bN .nil pass0 (pa_cons (pv 3) (pa_cons (pe_glob (v := .int 200) (by rfl) eM ⟨_, rfl⟩) pa_nil))))))).pt
        (pss_one (ps_ret pe_bl)) pss_nil)
      (pss_one (ps_ret (pe_and (pe_callB call_isi (by rfl) R.Z.T.isi PyProof.Rows.boot_isinstance (pa_cons (pv 2) (pa_cons (pe_bltn (v := .ty "str") (by rfl) R.Z.T.str (by decide +kernel) rfl) pa_nil)))
        (pe_and (pe_cmpR op_eq (pe_callB call_len_str (by rfl) R.Z.T.len PySem.boot_len (pa_cons (pv 2) pa_nil)) pe_int (nomark _))
        (pe_one (pe_cmpR op_in_sign (pv 2) (pe_glob (v := .str "abcdefghijklmnopqrstuvwxyz0123456789@") (by rfl) eS ⟨_, rfl⟩) (by rfl))))))))), ?_⟩
    obtain ⟨t, ty, kt, _, _⟩ := da.ty (K := K)
    refine ⟨_, rfl, v, .ty "tuple", t, .type "tuple", isTup d, rfl, .ty "tuple", ty, kt, isTup d, rfl, ?_⟩
    cases da with
    | @tup a xs ds e all =>
      refine iteF ?_
      refine ⟨_, rfl, a, _, rfl, .inr (SqT.of e), rfl, _, rfl, ?_⟩
      have ln := all.len
      by_cases h3 : xs.length = 3
      · refine iteF' (by simp [h3]) ?_
        match xs, ds, all, h3 with
        | [x, y, z], [dx, dy, dz], .cons h1 (.cons h2 (.cons h4 .nil)), _ =>
          refine ⟨_, rfl, a, _, rfl, SqT.of e, rfl, _, _, rfl, _, _, rfl, _, _, rfl, rfl, ?_⟩
          have no : (numD 200 dx = none ∨ numD 200 dz = none) → ruleD (.tuple [dx, dy, dz]) = none := fun c => by
            cases dy with
            | str s =>
              show (match numD 200 dx, numD 200 dz with
                | some i, some j => if signD s = true then some (i, s, j) else none
                | _, _ => none) = none
              rcases c with c | c
              · rw [c]
              · rw [c]
                cases numD 200 dx <;> rfl
            | _ => rfl
          refine ⟨_, rfl, x, dx, 200, rfl, h1, _, rfl, ?_⟩
          cases ea : numD 200 dx with
          | none =>
            rw [no (.inl ea)] at q
            exact iteT q
          | some i =>
            refine iteF ?_
            refine ⟨_, rfl, z, dz, 200, rfl, h4, _, rfl, ?_⟩
            cases eb : numD 200 dz with
            | none =>
              rw [no (.inr eb)] at q
              exact iteT q
            | some j =>
              refine iteF ?_
              obtain ⟨t2, ty2, kt2⟩ := h2.tyS (K := K)
              refine ⟨_, rfl, y, .ty "str", t2, .type "str", isSt dy, rfl, .ty "str", ty2, kt2, isSt dy, rfl, ?_⟩
              cases h2 with
              | str s =>
                refine iteT ?_
                have q : Q (.bl (match numD 200 dx, numD 200 dz with
                  | some i, some j => if signD s = true then some (i, s, j) else none
                  | _, _ => none).isSome) H := q
                rw [ea, eb] at q
                have szs := sz dx s dz rfl
                refine ⟨_, rfl, _, rfl, (by rw [sizeLine_eq]; omega), rfl, _, rfl, ?_⟩
                by_cases l1 : s.length = 1
                · refine iteT' (by simp [l1]) ?_
                  obtain ⟨c, rfl⟩ := one_sign l1
                  refine ⟨_, rfl, c, _, rfl, rfl, ?_⟩
                  have q : Q (.bl (if signD ⟨#[c]⟩ = true then some (i, (⟨#[c]⟩ : Str), j) else none).isSome) H := q
                  rw [signD_one] at q
                  show Q (.bl (decide (c ∈ sgs))) H
                  by_cases m : c ∈ sgs
                  · rw [decide_eq_true m] at q ⊢
                    exact q
                  · rw [decide_eq_false m] at q ⊢
                    exact q
                · refine iteF' (by simp; omega) ?_
                  have q : Q (.bl (if signD s = true then some (i, s, j) else none).isSome) H := q
                  have n : signD s = false := by
                    unfold signD
                    rw [decide_eq_false l1]
                    rfl
                  rw [n] at q
                  exact q
              | bl b => exact iteF q
              | non => exact iteF q
              | int i => exact iteF q
              | lst e h => exact iteF q
              | tup e h => exact iteF q
      · refine iteT' (by simp; omega) ?_
        have z : ruleD (.tuple ds) = none := by
          match ds, ln with
          | [], _ => rfl
          | [_], _ => rfl
          | [_, dy], _ => cases dy <;> rfl
          | [_, _, _], l => exact absurd l h3
          | _ :: dy :: _ :: _ :: _, _ => cases dy <;> rfl
        rw [z] at q
        exact q
    | bl b => exact iteT q
    | non => exact iteT q
    | int i => exact iteT q
    | str x => exact iteT q
    | lst e h => exact iteT q
end
end K06
/-! need_reader of any data. -/
namespace K06
open PySem L2 L2.EV
abbrev sNeedR : Stmt := top 25
def lbR : Option IS → T3 → Bool
  | none, _ => false
  | some p, t => !ltIS p (t.1, t.2.1)
def lbG : Option Int → Int → Bool
  | none, _ => false
  | some p, i => decide (i ≤ p)
def badR : List PyData → Option IS → Nat → Option Nat
  | [], _, _ => none
  | d :: ds, last, k => match ruleD d with
    | none => some k
    | some t => if lbR last t = true then some k else badR ds (some (t.1, t.2.1)) (k + 1)
def badG : List PyData → Option Int → Nat → Option Nat
  | [], _, _ => none
  | d :: ds, last, k => match numD 200 d with
    | none => some k
    | some i => if lbG last i = true then some k else badG ds (some i) (k + 1)
theorem badR_none {d : PyData} {ds : List PyData} {last : Option IS} {k : Nat} (h : ruleD d = none) : badR (d :: ds) last k = some k := by
  unfold badR
  rw [h]
theorem badR_some {d : PyData} {ds : List PyData} {last : Option IS} {k : Nat} {t : T3} (h : ruleD d = some t) : badR (d :: ds) last k = if lbR last t = true then some k else badR ds (some (t.1, t.2.1)) (k + 1) := by
  rw [badR, h]
theorem badG_none {d : PyData} {ds : List PyData} {last : Option Int} {k : Nat} (h : numD 200 d = none) : badG (d :: ds) last k = some k := by
  rw [badG, h]
theorem badG_some {d : PyData} {ds : List PyData} {last : Option Int} {k : Nat} {i : Int} (h : numD 200 d = some i) : badG (d :: ds) last k = if lbG last i = true then some k else badG ds (some i) (k + 1) := by
  rw [badG, h]
theorem tup_of {H : Hp} {v : V} {d : PyData} (h : Da H v d) (c : isTup d = true) : ∃ (a : Addr) (xs : List V) (ds : List PyData), v = .ref a ∧ d = .tuple ds ∧ H a = some (.tup xs) ∧ DaAll H xs ds := by
  cases h with
  | tup e all => exact ⟨_, _, _, rfl, rfl, e, all⟩
  | non => cases c
  | bl b => cases c
  | int i => cases c
  | str x => cases c
  | lst e h => cases c
/-- by which part and number data are refused as a reader -/
def ffD : PyData → Option (Str × Option Nat)
  | .tuple [.tuple rs, .tuple gs] => match badR rs none 0 with
    | some k => some ("rules", some k)
    | none => match badG gs none 0 with
      | some k => some ("good", some k)
      | none => none
  | _ => some ("form", none)
def wv : Option Nat → V
  | none => .non
  | some i => .int (i : Int)
def SzR (d : PyData) : Prop := ∀ rs g, d = .tuple [.tuple rs, g] → ∀ r ∈ rs, szS r
/-- the error is told with these fields -/
def Eb (C : Addr) (E : XK) (H : Hp) (p : Str) (n : Option Nat) : Prop := ∀ (H' : Hp) (dx : Addr), Same H H' → H' dx = some (.xd [("number", wv n), ("part", .str p)]) → E (.ref C) (some dx) H'
theorem Eb.same {C : Addr} {E : XK} {H H' : Hp} {p : Str} {n : Option Nat} (h : Eb C E H p n) (s : Same H H') : Eb C E H' p n := fun H2 dx s2 e => h H2 dx (s.trans s2) e
def spNeedR (C : Addr) : Sp := fun vs H Q E => ∃ (v : V) (d : PyData), vs = [v] ∧ Da H v d ∧ SzR d ∧ match ffD d with
  | none => ∀ H', Same H H' → Q v H'
  | some r => Eb C E H r.1 r.2
theorem drop_at {α : Type} {l : List α} {i : Nat} {x : α} (h : l[i]? = some x) : l.drop i = x :: l.drop (i + 1) := by
  obtain ⟨hi, e⟩ := List.getElem?_eq_some_iff.mp h
  rw [List.drop_eq_getElem_cons hi, e]
theorem rule_some {d : PyData} {t : T3} (h : ruleD d = some t) : d = .tuple [.int t.1, .str t.2.1, .int t.2.2] := by
  match d, h with
  | .tuple [a, .str x, b], h =>
    have h : (match numD 200 a, numD 200 b with
      | some i, some j => if signD x = true then some (i, x, j) else none
      | _, _ => none) = some t := h
    cases ha : numD 200 a with
    | none =>
      rw [ha] at h
      cases h
    | some i =>
      cases hb : numD 200 b with
      | none =>
        rw [ha, hb] at h
        cases h
      | some j =>
        rw [ha, hb] at h
        have h9 : (if signD x = true then some (i, x, j) else none) = some t := h
        clear h
        obtain ⟨rfl, _⟩ := numD_some ha
        obtain ⟨rfl, _⟩ := numD_some hb
        by_cases c : signD x = true
        · rw [if_pos c] at h9
          cases h9
          rfl
        · rw [if_neg c] at h9
          cases h9
theorem rule_at {H : Hp} {v : V} {d : PyData} {t : T3} (h : Da H v d) (e : ruleD d = some t) : ∃ a, v = .ref a ∧ H a = some (.tup [.int t.1, .str t.2.1, .int t.2.2]) := by
  have z := rule_some e
  subst z
  cases h with
  | tup e all =>
    match all with
    | .cons (.int _) (.cons (.str _) (.cons (.int _) .nil)) => exact ⟨_, rfl, e⟩
theorem ff_len {ds : List PyData} (h : ds.length ≠ 2) : ffD (.tuple ds) = some ((("form" : Str), (none : Option Nat))) := by
  match ds, h with
  | [], _ => rfl
  | [x], _ => cases x <;> rfl
  | [_, _], h => exact absurd rfl h
  | x :: y :: _ :: _, _ => cases x <;> cases y <;> rfl
theorem ff_tup {dx dy : PyData} (h : isTup dx = false ∨ isTup dy = false) : ffD (.tuple [dx, dy]) = some ((("form" : Str), (none : Option Nat))) := by
  cases dx <;> cases dy <;> first | rfl | (rcases h with h | h <;> cases h)
theorem bad_heap {H : Hp} {C a dx : Addr} {x y : V} (na : H a = none) (hn : upd H a (exo a C none) dx = none) (ne : dx ≠ a) :
    (upd (upd (upd (upd H a (exo a C none)) dx (exd dx [("part", x)])) a (exo a C (some dx))) dx (exd dx [("number", y), ("part", x)])) a = some (exo a C (some dx)) ∧
    Same H (upd (delH (upd (upd (upd (upd H a (exo a C none)) dx (exd dx [("part", x)])) a (exo a C (some dx))) dx (exd dx [("number", y), ("part", x)])) a) dx (.xd [("number", y), ("part", x)])) := by
  have hd : H dx = none := by
    rw [upd_ne ne] at hn
    exact hn
  refine ⟨?_, fun b o e => ?_⟩
  · rw [upd_ne ne.symm]
    exact upd_same
  · have h1 := ne_of_none e na
    have h2 := ne_of_none e hd
    rw [upd_ne h2, delH_ne h1, upd_ne h2, upd_ne h1, upd_ne h2, upd_ne h1]
    exact e
section
variable {P : Program} {w : World} {K : PySem.W.Frag} {mg : Str → Option Value} {base : Heap}
theorem scNeedR : FnScope ["thing", "rules", "good", "number", "rule", "state"] ["thing"] (defScope sNeedR) := ⟨rfl, rfl, rfl, by decide +kernel, rfl, by decide +kernel, by decide +kernel⟩
theorem ok_needR (R : Rs K mg) {f : Addr} {fd : FuncData} (F : Fun K "need_reader" "need_reader" sNeedR f fd) : FnOk P w K mg base (L2.CX P w) 3 f fd ["thing"] (spNeedR R.B.C) := by
  have GN : FnOk P w K mg base CX0 1 R.Z.fN R.Z.dN ["thing", "many"] spNumD := ok_numD R.Z.N R.Z.T
  have GU : FnOk P w K mg base CX0 2 R.fU R.dU ["thing"] spRule := ok_rule R
  have GB : FnOk P w K mg base CX0 1 R.B.f R.B.d ["self", "part", "number"] (spTwo R.B.C "part" "number") := ok_BadReader R.B.F R.B.T R.B.I R.B.n0 R.B.n1
  refine F.okX scNeedR (fun vs H Q E h => ?_) (fun cdv A outer s H vs Q E hr h => ?_)
  · obtain ⟨v, d, rfl, _⟩ := h
    rfl
  · obtain ⟨v, d, rfl, da, sz, q⟩ := h
    obtain ⟨tm, eM⟩ := R.states
    have r1 := hr.mono (j := 1) (by omega)
    have hu := hu_of hr
    have hu0 : (A.deeper (PyProof.Rows.envOfC "need_reader" (defScope sNeedR) s.heap.objs.size f cdv)).units < cLine := by omega
    refine ⟨_, pss_cons (ps_if (pw_or (pt_not (pt_val (pe_callB call_isi (by rfl) R.Z.T.isi PyProof.Rows.boot_isinstance (pa_cons (pv 0) (pa_cons (pe_bltn (v := .ty "tuple") (by rfl) R.Z.T.tuple (by decide +kernel) rfl) pa_nil)))))
        (pw_or1 (pt_cmpR op_ne (pe_callB call_len_seq (by rfl) R.Z.T.len PySem.boot_len (pa_cons (pv 0) pa_nil)) pe_int (nomark _)))).pt
        (pss_one (ps_raise rfl (takes_of rfl rfl rfl rfl) (pmk_own3 rfl (pe_new R.B.T R.B.iC R.B.tI GB hr (kb_pos R.B.b rfl) pass0 (by rfl) R.B.m (pa_cons pe_str (pa_cons pe_non pa_nil)))))) pss_nil)
      (pss_cons (ps_asg (pv 0) (pg_tup rfl (pgs_cons (pg_name (i := 1) scNeedR.nd rfl (Or.inl rfl)) (pgs_cons (pg_name (i := 2) scNeedR.nd rfl (Or.inl rfl)) pgs_nil))))
      (pss_cons (ps_if (pw_or (pt_not (pt_val (pe_callB call_isi (by rfl) R.Z.T.isi PyProof.Rows.boot_isinstance (pa_cons (pv 1) (pa_cons (pe_bltn (v := .ty "tuple") (by rfl) R.Z.T.tuple (by decide +kernel) rfl) pa_nil)))))
        (pw_or1 (pt_not (pt_val (pe_callB call_isi (by rfl) R.Z.T.isi PyProof.Rows.boot_isinstance (pa_cons (pv 2) (pa_cons (pe_bltn (v := .ty "tuple") (by rfl) R.Z.T.tuple (by decide +kernel) rfl) pa_nil))))))).pt
        (pss_one (ps_raise rfl (takes_of rfl rfl rfl rfl) (pmk_own3 rfl (pe_new R.B.T R.B.iC R.B.tI GB hr (kb_pos R.B.b rfl) pass0 (by rfl) R.B.m (pa_cons pe_str (pa_cons pe_non pa_nil)))))) pss_nil)
      (pss_cons (ps_for (passes_of rfl) rfl (pi_enumT (by rfl) R.Z.en (pa_cons (pv 1) pa_nil)) (pg_tup rfl (pgs_cons (pg_name (i := 3) scNeedR.nd rfl (Or.inl rfl)) (pgs_cons (pg_name (i := 4) scNeedR.nd rfl (Or.inl rfl)) pgs_nil)))
        (pss_one (ps_if (pw_or (pt_not (pt_val (pe_call GU hr (by rfl) R.mU R.U.kp R.bU .nil pass0 (pa_cons (pv 4) pa_nil))))
          (pw_or1 (pw_and (pt_cmpR op_gt (pv 3) pe_int (nomark _)) (pw_and1 (pt_cmpR (op_leIS hu0) (pe_slice sl_tupS (pv 4) po_none (po_some pe_int)) (pe_slice sl_tupS (pe_ix ix_tup (pv 1) (pe_op op_sub (pv 3) pe_int) (fun _ _ => rfl)) po_none (po_some pe_int)) (nomark _)))).pt)).pt
          (pss_one (ps_raise rfl (takes_of rfl rfl rfl rfl) (pmk_own3 rfl (pe_new R.B.T R.B.iC R.B.tI GB hr (kb_pos R.B.b rfl) pass0 (by rfl) R.B.m (pa_cons pe_str (pa_cons (pv 3) pa_nil)))))) pss_nil)))
      (pss_cons (ps_for (passes_of rfl) rfl (pi_enumT (by rfl) R.Z.en (pa_cons (pv 2) pa_nil)) (pg_tup rfl (pgs_cons (pg_name (i := 3) scNeedR.nd rfl (Or.inl rfl)) (pgs_cons (pg_name (i := 5) scNeedR.nd rfl (Or.inl rfl)) pgs_nil)))
        (pss_one (ps_if (pw_or (pt_not (pt_val (pe_call GN r1 (by rfl) R.Z.mN R.Z.N.kp R.Z.bN .nil pass0 (pa_cons (pv 5) (pa_cons (pe_glob (v := .int 200) (by rfl) eM ⟨_, rfl⟩) pa_nil)))))
          (pw_or1 (pw_and (pt_cmpR op_gt (pv 3) pe_int (nomark _)) (pw_and1 (pt_cmpR op_le (pv 5) (pe_ix ix_tup (pv 2) (pe_op op_sub (pv 3) pe_int) (fun _ _ => rfl)) (nomark _)))).pt)).pt
          (pss_one (ps_raise rfl (takes_of rfl rfl rfl rfl) (pmk_own3 rfl (pe_new R.B.T R.B.iC R.B.tI GB hr (kb_pos R.B.b rfl) pass0 (by rfl) R.B.m (pa_cons pe_str (pa_cons (pv 3) pa_nil)))))) pss_nil)))
      (pss_one (ps_ret (pv 0))))))), ?_⟩
    obtain ⟨t, ty, kt, _, _⟩ := da.ty (K := K)
    refine ⟨_, rfl, v, .ty "tuple", t, .type "tuple", isTup d, rfl, .ty "tuple", ty, kt, isTup d, rfl, ?_⟩
    -- the raise, from any state that came so far
    have fin : ∀ {H1 : Hp} {p : Str} {n : Option Nat} {a : Addr} (s1 : Same H H1) (na : H1 a = none) (qe : Eb R.B.C E H p n) (dx : Addr), upd H1 a (exo a R.B.C none) dx = none → dx ≠ a →
        ∃ (a0 C d : Addr) (fs : List (Str × V)), V.ref a = .ref a0 ∧ (upd (upd (upd (upd H1 a (exo a R.B.C none)) dx (exd dx [("part", V.str p)])) a (exo a R.B.C (some dx))) dx (exd dx [("number", wv n), ("part", V.str p)])) a0 = some (exo a0 C (some d)) ∧ d ≠ a0 ∧
          (upd (upd (upd (upd H1 a (exo a R.B.C none)) dx (exd dx [("part", V.str p)])) a (exo a R.B.C (some dx))) dx (exd dx [("number", wv n), ("part", V.str p)])) d = some (exd d fs) ∧ Fr0 H a0 ∧
          Raises (cxOf (L2.CX P w) P w K mg base ["thing", "rules", "good", "number", "rule", "state"] "need_reader" (defScope sNeedR) f cdv A outer s H E) (.ref C) ∧
          E (.ref C) (some d) (upd (delH (upd (upd (upd (upd H1 a (exo a R.B.C none)) dx (exd dx [("part", V.str p)])) a (exo a R.B.C (some dx))) dx (exd dx [("number", wv n), ("part", V.str p)])) a0) d (.xd fs)) := by
      intro H1 p n a s1 na qe dx hn ne
      obtain ⟨b1, b2⟩ := bad_heap (x := V.str p) (y := wv n) na hn ne
      exact ⟨a, R.B.C, dx, _, rfl, b1, ne, upd_same, fr0_none (same_none s1 na), raises_own R.B.su R.B.ty, qe _ dx (s1.trans b2) upd_same⟩
    have form : ffD d = some ((("form" : Str), (none : Option Nat))) → Eb R.B.C E H "form" none := fun e => by
      rw [e] at q
      exact q
    cases da with
    | non => exact iteT ⟨rfl, rfl, (by decide), fun a na => ⟨a, .str "form", .non, rfl, upd_same, fun dx hn ne => ⟨rfl, fin (n := none) (Same.refl H) na (form rfl) dx hn ne⟩⟩⟩
    | bl b => exact iteT ⟨rfl, rfl, (by decide), fun a na => ⟨a, .str "form", .non, rfl, upd_same, fun dx hn ne => ⟨rfl, fin (n := none) (Same.refl H) na (form rfl) dx hn ne⟩⟩⟩
    | int b => exact iteT ⟨rfl, rfl, (by decide), fun a na => ⟨a, .str "form", .non, rfl, upd_same, fun dx hn ne => ⟨rfl, fin (n := none) (Same.refl H) na (form rfl) dx hn ne⟩⟩⟩
    | str b => exact iteT ⟨rfl, rfl, (by decide), fun a na => ⟨a, .str "form", .non, rfl, upd_same, fun dx hn ne => ⟨rfl, fin (n := none) (Same.refl H) na (form rfl) dx hn ne⟩⟩⟩
    | lst e h => exact iteT ⟨rfl, rfl, (by decide), fun a na => ⟨a, .str "form", .non, rfl, upd_same, fun dx hn ne => ⟨rfl, fin (n := none) (Same.refl H) na (form rfl) dx hn ne⟩⟩⟩
    | @tup th xs ds e all =>
      refine iteF ?_
      refine ⟨_, rfl, th, _, rfl, .inr (SqT.of e), rfl, _, rfl, ?_⟩
      have ln := all.len
      by_cases h2 : xs.length = 2
      · refine iteF' (by simp [h2]) ?_
        match xs, ds, all, h2 with
        | [x, y], [dx, dy], .cons h1 (.cons h3 .nil), _ =>
          refine ⟨_, rfl, th, _, rfl, SqT.of e, rfl, _, _, rfl, _, _, rfl, rfl, ?_⟩
          obtain ⟨t1, ty1, kt1, _, _⟩ := h1.ty (K := K)
          refine ⟨_, rfl, x, .ty "tuple", t1, .type "tuple", isTup dx, rfl, .ty "tuple", ty1, kt1, isTup dx, rfl, ?_⟩
          by_cases c1 : isTup dx = true
          · rw [c1]
            refine iteF ?_
            obtain ⟨t2, ty2, kt2, _, _⟩ := h3.ty (K := K)
            refine ⟨_, rfl, y, .ty "tuple", t2, .type "tuple", isTup dy, rfl, .ty "tuple", ty2, kt2, isTup dy, rfl, ?_⟩
            by_cases c2 : isTup dy = true
            · rw [c2]
              refine iteF ?_
              obtain ⟨ra, rv, rs, rfl, rfl, re, rall⟩ := tup_of h1 c1
              · obtain ⟨ga, gv, gs, rfl, rfl, ge, gall⟩ := tup_of h3 c2
                · have q : match (match badR rs none 0 with
                    | some k => some ((("rules" : Str), some k))
                    | none => match badG gs none 0 with
                      | some k => some ((("good" : Str), some k))
                      | none => none) with
                    | none => ∀ H', Same H H' → Q (.ref th) H'
                    | some r => Eb R.B.C E H r.1 r.2 := q
                  have szr : ∀ r ∈ rs, szS r := sz rs _ rfl
                  refine ⟨_, rfl, ra, _, rfl, SqT.of re, for_it (walk_enumT (xs := rv)) (fun i σ H' => ∃ (v3 v4 : Option V) (last : Option IS), σ = [some (.ref th), some (.ref ra), some (.ref ga), v3, v4, none] ∧ Same H H' ∧
                      badR rs none 0 = badR (rs.drop i) last i ∧ (i = 0 → last = none) ∧ ∀ j, i = j + 1 → ∃ d t, rs[j]? = some d ∧ ruleD d = some t ∧ last = some (t.1, t.2.1))
                    ⟨none, none, none, rfl, Same.refl H, rfl, fun _ => rfl, fun j hj => by omega⟩ (fun i σ H' _ ⟨_, _, _, _, z, _⟩ => SqT.of (z _ _ re)) ?_ ?_⟩
                  · rintro i x σ H1 H2 hi ⟨v3, v4, last, rfl, s1, inv, l0, l1⟩ ⟨T, xi, xo, rfl, nT, rfl, g1, g2⟩
                    cases g1
                    obtain ⟨d, hd, dv⟩ := rall.at_ g2
                    rw [drop_at hd] at inv
                    have s2 := s1.trans (same_upd (o := HO.tup [V.int (i : Nat), xo]) nT)
                    have dv2 := Da.same s2 _ _ dv
                    refine ⟨T, _, rfl, SqT.of upd_same, rfl, _, _, rfl, _, _, rfl, rfl, ?_⟩
                    refine ⟨_, rfl, xo, d, rfl, dv2, szr d (List.mem_of_getElem? hd), _, rfl, ?_⟩
                    cases ed : ruleD d with
                    | none =>
                      rw [badR_none ed] at inv
                      rw [inv] at q
                      exact iteT ⟨_, rfl, rfl, rfl, (by show 2 ≤ 1000; decide), fun a na => ⟨a, .str "rules", .int (i : Nat), rfl, upd_same, fun dx hn ne => ⟨rfl, fin (n := some i) s2 na q dx hn ne⟩⟩⟩
                    | some t =>
                      rw [badR_some ed] at inv
                      refine iteF ?_
                      have goOn : lbR last t = false → ∃ (v3' v4' : Option V) (last' : Option IS), [some (V.ref th), some (V.ref ra), some (V.ref ga), some (V.int (i : Nat)), some xo, none] = [some (.ref th), some (.ref ra), some (.ref ga), v3', v4', none] ∧
                          badR rs none 0 = badR (rs.drop (i + 1)) last' (i + 1) ∧ (i + 1 = 0 → last' = none) ∧ ∀ j, i + 1 = j + 1 → ∃ d t, rs[j]? = some d ∧ ruleD d = some t ∧ last' = some (t.1, t.2.1) := fun z => by
                        rw [z, if_neg (by simp)] at inv
                        exact ⟨_, _, _, rfl, inv, fun h => by omega, fun j h => by
                          obtain rfl : i = j := by omega
                          exact ⟨d, t, hd, ed, rfl⟩⟩
                      refine ⟨_, rfl, (i : Int), 0, rfl, rfl, _, rfl, ?_⟩
                      refine ite2 (fun z => ?_) (fun z => ?_)
                      · have z1 : (0 : Int) < i := of_decide_eq_true z
                        obtain ⟨j, rfl⟩ : ∃ j, i = j + 1 := ⟨i - 1, by omega⟩
                        obtain ⟨dp, tp, hp1, hp2, rfl⟩ := l1 j rfl
                        obtain ⟨vp, hvp, dvp⟩ := rall.at' hp1
                        have dvp2 := Da.same s2 _ _ dvp
                        obtain ⟨a1, rfl, ha1⟩ := rule_at dv2 ed
                        obtain ⟨a2, rfl, ha2⟩ := rule_at dvp2 hp2
                        refine ⟨_, rfl, _, rfl, a1, _, rfl, ha1, fun pa Ha sa ea => ?_⟩
                        refine ⟨_, rfl, _, rfl, _, _, rfl, rfl, ra, _, (j : Int), .ref a2, rfl, ?_, SqT.of (sa _ _ (s2 _ _ re)), atI_nat hvp, _, rfl, a2, _, rfl, sa _ _ ha2, fun pb Hb sb eb => ?_⟩
                        · show V.int (((j + 1 : Nat) : Int) - 1) = V.int (j : Int)
                          congr 1
                          omega
                        rw [show (2 : Int) = ((2 : Nat) : Int) from rfl, cutTo] at ea eb
                        refine ⟨pa, pb, (t.1, t.2.1), (tp.1, tp.2.1), rfl, rfl, sb _ _ ea, eb, _, rfl, ?_⟩
                        have s3 := (s2.trans sa).trans sb
                        have eL : lbR (some (tp.1, tp.2.1)) t = !ltIS (tp.1, tp.2.1) (t.1, t.2.1) := rfl
                        cases eb2 : ltIS (tp.1, tp.2.1) (t.1, t.2.1) with
                        | true =>
                          obtain ⟨w1, w2, w3, w4, w5⟩ := goOn (by rw [eL, eb2]; rfl)
                          exact iteF ⟨w1, w2, w3, w4, s3, w5⟩
                        | false =>
                          rw [eL, eb2, if_pos (show (!false) = true from rfl)] at inv
                          rw [inv] at q
                          exact iteT ⟨_, rfl, rfl, rfl, (by show 2 ≤ 1000; decide), fun a na => ⟨a, .str "rules", .int ((j + 1 : Nat) : Nat), rfl, upd_same, fun dx hn ne => ⟨rfl, fin (n := some (j + 1)) s3 na q dx hn ne⟩⟩⟩
                      · have i0 : i = 0 := by
                          have : ¬ (0 : Int) < i := fun k => z (decide_eq_true k)
                          omega
                        have l9 := l0 i0
                        subst l9
                        obtain ⟨w1, w2, w3, w4, w5⟩ := goOn rfl
                        exact iteF ⟨w1, w2, w3, w4, s2, w5⟩
                  · rintro σ H1 ⟨v3, v4, last, rfl, s1, inv, _, _⟩
                    rw [rall.len, List.drop_length] at inv
                    have inv : badR rs none 0 = none := inv
                    rw [inv] at q
                    have q : match (match badG gs none 0 with
                        | some k => some ((("good" : Str), some k))
                        | none => none) with
                      | none => ∀ H', Same H H' → Q (.ref th) H'
                      | some r => Eb R.B.C E H r.1 r.2 := q
                    refine ⟨_, rfl, ga, _, rfl, SqT.of (s1 _ _ ge), for_it (walk_enumT (xs := gv)) (fun i σ H' => ∃ (v3 v5 : Option V) (last : Option Int), σ = [some (.ref th), some (.ref ra), some (.ref ga), v3, v4, v5] ∧ Same H H' ∧
                        badG gs none 0 = badG (gs.drop i) last i ∧ (i = 0 → last = none) ∧ ∀ j, i = j + 1 → ∃ d t, gs[j]? = some d ∧ numD 200 d = some t ∧ last = some t)
                      ⟨v3, none, none, rfl, s1, rfl, fun _ => rfl, fun j hj => by omega⟩ (fun i σ H' _ ⟨_, _, _, _, z, _⟩ => SqT.of (z _ _ ge)) ?_ ?_⟩
                    · rintro i x σ H1 H2 hi ⟨v3, v5, last, rfl, s1, inv, l0, l1⟩ ⟨T, xi, xo, rfl, nT, rfl, g1, g2⟩
                      cases g1
                      obtain ⟨d, hd, dv⟩ := gall.at_ g2
                      rw [drop_at hd] at inv
                      have s2 := s1.trans (same_upd (o := HO.tup [V.int (i : Nat), xo]) nT)
                      have dv2 := Da.same s2 _ _ dv
                      refine ⟨T, _, rfl, SqT.of upd_same, rfl, _, _, rfl, _, _, rfl, rfl, ?_⟩
                      refine ⟨_, rfl, xo, d, 200, rfl, dv2, _, rfl, ?_⟩
                      cases ed : numD 200 d with
                      | none =>
                        rw [badG_none ed] at inv
                        rw [inv] at q
                        exact iteT ⟨_, rfl, rfl, rfl, (by show 2 ≤ 1000; decide), fun a na => ⟨a, .str "good", .int (i : Nat), rfl, upd_same, fun dx hn ne => ⟨rfl, fin (n := some i) s2 na q dx hn ne⟩⟩⟩
                      | some t =>
                        rw [badG_some ed] at inv
                        refine iteF ?_
                        have goOn : lbG last t = false → ∃ (v3' v5' : Option V) (last' : Option Int), [some (V.ref th), some (V.ref ra), some (V.ref ga), some (V.int (i : Nat)), v4, some xo] = [some (.ref th), some (.ref ra), some (.ref ga), v3', v4, v5'] ∧
                            badG gs none 0 = badG (gs.drop (i + 1)) last' (i + 1) ∧ (i + 1 = 0 → last' = none) ∧ ∀ j, i + 1 = j + 1 → ∃ d t, gs[j]? = some d ∧ numD 200 d = some t ∧ last' = some t := fun z => by
                          rw [z, if_neg (by simp)] at inv
                          exact ⟨_, _, _, rfl, inv, fun h => by omega, fun j h => by
                            obtain rfl : i = j := by omega
                            exact ⟨d, t, hd, ed, rfl⟩⟩
                        refine ⟨_, rfl, (i : Int), 0, rfl, rfl, _, rfl, ?_⟩
                        refine ite2 (fun z => ?_) (fun z => ?_)
                        · have z1 : (0 : Int) < i := of_decide_eq_true z
                          obtain ⟨j, rfl⟩ : ∃ j, i = j + 1 := ⟨i - 1, by omega⟩
                          obtain ⟨dp, tp, hp1, hp2, rfl⟩ := l1 j rfl
                          obtain ⟨vp, hvp, dvp⟩ := gall.at' hp1
                          obtain ⟨rfl, _⟩ := numD_some ed
                          obtain ⟨rfl, _⟩ := numD_some hp2
                          cases dv2
                          cases dvp
                          refine ⟨_, rfl, _, rfl, _, rfl, _, _, rfl, rfl, ga, _, (j : Int), .int tp, rfl, ?_, SqT.of (s2 _ _ ge), atI_nat hvp, t, tp, rfl, rfl, _, rfl, ?_⟩
                          · show V.int (((j + 1 : Nat) : Int) - 1) = V.int (j : Int)
                            congr 1
                            omega
                          have eL : lbG (some tp) t = decide (t ≤ tp) := rfl
                          by_cases c : t ≤ tp
                          · rw [eL, decide_eq_true c, if_pos rfl] at inv
                            rw [inv] at q
                            exact iteT' (decide_eq_true c) ⟨_, rfl, rfl, rfl, (by show 2 ≤ 1000; decide), fun a na => ⟨a, .str "good", .int ((j + 1 : Nat) : Nat), rfl, upd_same, fun dx hn ne => ⟨rfl, fin (n := some (j + 1)) s2 na q dx hn ne⟩⟩⟩
                          · obtain ⟨w1, w2, w3, w4, w5⟩ := goOn (by rw [eL, decide_eq_false c])
                            exact iteF' (decide_eq_false c) ⟨w1, w2, w3, w4, s2, w5⟩
                        · have i0 : i = 0 := by
                            have : ¬ (0 : Int) < i := fun k => z (decide_eq_true k)
                            omega
                          have l9 := l0 i0
                          subst l9
                          obtain ⟨w1, w2, w3, w4, w5⟩ := goOn rfl
                          exact iteF ⟨w1, w2, w3, w4, s2, w5⟩
                    · rintro σ H1 ⟨v3, v5, last, rfl, s1, inv, _, _⟩
                      rw [gall.len, List.drop_length] at inv
                      have inv : badG gs none 0 = none := inv
                      rw [inv] at q
                      exact ⟨_, rfl, q _ s1⟩
            · have c2' : isTup dy = false := by simpa using c2
              rw [c2']
              exact iteT ⟨rfl, rfl, (by decide), fun a na => ⟨a, .str "form", .non, rfl, upd_same, fun dx hn ne => ⟨rfl, fin (n := none) (Same.refl H) na (form (ff_tup (.inr c2'))) dx hn ne⟩⟩⟩
          · have c1' : isTup dx = false := by simpa using c1
            rw [c1']
            exact iteT ⟨rfl, rfl, (by decide), fun a na => ⟨a, .str "form", .non, rfl, upd_same, fun dx hn ne => ⟨rfl, fin (n := none) (Same.refl H) na (form (ff_tup (.inl c1'))) dx hn ne⟩⟩⟩
      · refine iteT' (by simp; omega) ?_
        exact ⟨rfl, rfl, (by decide), fun a na => ⟨a, .str "form", .non, rfl, upd_same, fun dx hn ne => ⟨rfl, fin (n := none) (Same.refl H) na (form (ff_len (by omega))) dx hn ne⟩⟩⟩
end
end K06
/-! What the calls that take readers do with a bad one. -/
namespace K06
open PySem L2 L2.EV
theorem pss_never {X : Cx} {ss : List Stmt} : PSs X ss tNever := ⟨fun _ _ _ _ _ _ h => h.elim⟩
abbrev sTX : Stmt := top 29
abbrev sPX : Stmt := top 31
abbrev sIX : Stmt := top 30
abbrev sGX : Stmt := top 62
abbrev sSX : Stmt := top 63
abbrev sWX : Stmt := top 64
abbrev sCX : Stmt := top 69
abbrev sAX : Stmt := top 44
abbrev sKX : Stmt := top 47
structure Cs (K : PySem.W.Frag) (mg : Str → Option Value) where
  R : Rs K mg
  fR : Addr
  dR : FuncData
  RD : Fun K "need_reader" "need_reader" sNeedR fR dR
  bR : Binds K dR ["thing"] []
  mR : mg "need_reader" = some (.ref fR)
  NT : ∃ a, mg "NOTHING_TAKEN" = some (.ref a)
  fT : Addr
  dT : FuncData
  FT : Fun K "takes" "takes" sTX fT dT
  bT : Binds K dT ["reader", "text"] []
  mT : mg "takes" = some (.ref fT)
  fP : Addr
  dP : FuncData
  FP : Fun K "parting" "parting" sPX fP dP
  bP : Binds K dP ["one", "other"] []
  mP : mg "parting" = some (.ref fP)
  fI : Addr
  dI : FuncData
  FI : Fun K "first_taken" "first_taken" sIX fI dI
  bI : Binds K dI ["reader"] []
  mI : mg "first_taken" = some (.ref fI)
  fG : Addr
  dG : FuncData
  FG : FunD K "passing" "passing" (defArgs sGX) (defBody sGX) (defScope sGX) [V.non] [] fG dG
  bG : Binds K dG ["framing", "reader", "writers"] []
  bG2 : ∃ ds, Vals [V.non] ds ∧ Binds K dG ["framing", "reader", "writers"] ds
  mG : mg "passing" = some (.ref fG)
  fS : Addr
  dS : FuncData
  FS : FunD K "is_safe" "is_safe" (defArgs sSX) (defBody sSX) (defScope sSX) [V.non] [] fS dS
  bS : Binds K dS ["framing", "reader", "writers"] []
  mS : mg "is_safe" = some (.ref fS)
  fW : Addr
  dW : FuncData
  FW : Fun K "fewest_writers" "fewest_writers" sWX fW dW
  bW : Binds K dW ["framing", "reader"] []
  mW : mg "fewest_writers" = some (.ref fW)
  fC : Addr
  dC : FuncData
  FC : Fun K "check_passing" "check_passing" sCX fC dC
  bC : Binds K dC ["framing", "reader", "writers", "paper"] []
  mC : mg "check_passing" = some (.ref fC)
  fA : Addr
  dA : FuncData
  FA : Fun K "safety" "safety" sAX fA dA
  bA : Binds K dA ["framing", "reader"] []
  mA : mg "safety" = some (.ref fA)
  fK : Addr
  dK : FuncData
  FK : Fun K "check_safety" "check_safety" sKX fK dK
  bK : Binds K dK ["framing", "reader", "paper"] []
  mK : mg "check_safety" = some (.ref fK)
/-- a bad reader, first -/
def spRx (C : Addr) (k : Nat) : Sp := fun vs H Q E => ∃ (v : V) (rest : List V) (d : PyData) (r : Str × Option Nat), vs = v :: rest ∧ rest.length = k ∧ Da H v d ∧ SzR d ∧ ffD d = some r ∧ Eb C E H r.1 r.2
/-- two readers, one of them bad -/
def spPx (C : Addr) : Sp := fun vs H Q E => ∃ (v u : V) (d : PyData) (r : Str × Option Nat), vs = [v, u] ∧ Eb C E H r.1 r.2 ∧ Da H v d ∧ SzR d ∧ (ffD d = some r ∨ (ffD d = none ∧ ∃ d', Da H u d' ∧ SzR d' ∧ ffD d' = some r))
/-- a right framing, then a bad reader -/
def spFx (C : Addr) (k : Nat) : Sp := fun vs H Q E => ∃ (f : Addr) (fr : List T3) (last : Nat) (v : V) (rest : List V) (d : PyData) (r : Str × Option Nat), vs = .ref f :: v :: rest ∧ rest.length = k ∧ FrA H f fr ∧ Frm fr last ∧ Da H v d ∧ SzR d ∧ ffD d = some r ∧ Eb C E H r.1 r.2
theorem spNeedR_bad {C : Addr} {v : V} {d : PyData} {H : Hp} {Q : VK} {E : XK} {r : Str × Option Nat} (da : Da H v d) (sz : SzR d) (e : ffD d = some r) (q : Eb C E H r.1 r.2) : spNeedR C [v] H Q E := by
  refine ⟨v, d, rfl, da, sz, ?_⟩
  rw [e]
  exact q
section
variable {P : Program} {w : World} {K : PySem.W.Frag} {mg : Str → Option Value} {base : Heap}
theorem len1 {rest : List V} (h : rest.length = 1) : ∃ x, rest = [x] := List.length_eq_one_iff.mp h
theorem len2 {rest : List V} (h : rest.length = 2) : ∃ x y, rest = [x, y] := match rest, h with
  | [x, y], _ => ⟨x, y, rfl⟩
theorem len0 {rest : List V} (h : rest.length = 0) : rest = [] := List.length_eq_zero_iff.mp h
theorem scTX : FnScope ["reader", "text", "marks", "signs"] ["reader", "text"] (defScope sTX) := ⟨rfl, rfl, rfl, by decide +kernel, rfl, by decide +kernel, by decide +kernel⟩
theorem ok_TX (S : Cs K mg) : FnOk P w K mg base (L2.CX P w) 4 S.fT S.dT ["reader", "text"] (spRx S.R.B.C 1) := by
  have GR : FnOk P w K mg base (L2.CX P w) 3 S.fR S.dR ["thing"] (spNeedR S.R.B.C) := ok_needR S.R S.RD
  refine S.FT.okX scTX (fun vs H Q E h => ?_) (fun cdv A outer s H vs Q E hr h => ?_)
  · obtain ⟨v, rest, d, r, rfl, l, _⟩ := h
    rw [List.length_cons, l]
    rfl
  · obtain ⟨v, rest, d, r, rfl, l, da, sz, ed, q⟩ := h
    obtain ⟨x, rfl⟩ := len1 l
    exact ⟨_, pss_cons (ps_expr (pe_call GR hr (by rfl) S.mR S.RD.kp S.bR .nil (passes_call (E := E) (takes_of rfl rfl rfl rfl) fun _ _ _ _ h => h) (pa_cons (pv 0) pa_nil))) pss_never, _, rfl, spNeedR_bad da sz ed q⟩
theorem scPX : FnScope ["one", "other", "rows", "further_rows", "found", "listed", "longer", "state", "twin", "text", "row", "twin_row", "sign", "pair"] ["one", "other"] (defScope sPX) := ⟨rfl, rfl, rfl, by decide +kernel, rfl, by decide +kernel, by decide +kernel⟩
theorem ok_PX (S : Cs K mg) : FnOk P w K mg base (L2.CX P w) 4 S.fP S.dP ["one", "other"] (spPx S.R.B.C) := by
  have GR : FnOk P w K mg base (L2.CX P w) 3 S.fR S.dR ["thing"] (spNeedR S.R.B.C) := ok_needR S.R S.RD
  refine S.FP.okX scPX (fun vs H Q E h => ?_) (fun cdv A outer s H vs Q E hr h => ?_)
  · obtain ⟨v, u, d, r, rfl, _⟩ := h
    rfl
  · obtain ⟨v, u, d, r, rfl, q, da, sz, c⟩ := h
    refine ⟨_, pss_cons (ps_expr (pe_call GR hr (by rfl) S.mR S.RD.kp S.bR .nil (passes_call (E := E) (takes_of rfl rfl rfl rfl) fun _ _ _ _ h => h) (pa_cons (pv 0) pa_nil))) (pss_cons (ps_expr (pe_call GR hr (by rfl) S.mR S.RD.kp S.bR .nil (passes_call (E := E) (takes_of rfl rfl rfl rfl) fun _ _ _ _ h => h) (pa_cons (pv 1) pa_nil))) pss_never), _, rfl, ?_⟩
    rcases c with e | ⟨e, d', da', sz', e'⟩
    · exact spNeedR_bad da sz e q
    · refine ⟨v, d, rfl, da, sz, ?_⟩
      rw [e]
      exact fun H1 s1 => ⟨_, rfl, spNeedR_bad (Da.same s1 _ _ da') sz' e' (q.same s1)⟩
theorem scIX : FnScope ["reader"] ["reader"] (defScope sIX) := ⟨rfl, rfl, rfl, by decide +kernel, rfl, by decide +kernel, by decide +kernel⟩
theorem ok_IX (S : Cs K mg) : FnOk P w K mg base (L2.CX P w) 5 S.fI S.dI ["reader"] (spRx S.R.B.C 0) := by
  have GP : FnOk P w K mg base (L2.CX P w) 4 S.fP S.dP ["one", "other"] (spPx S.R.B.C) := ok_PX S
  refine S.FI.okX scIX (fun vs H Q E h => ?_) (fun cdv A outer s H vs Q E hr h => ?_)
  · obtain ⟨v, rest, d, r, rfl, l, _⟩ := h
    rw [List.length_cons, l]
    rfl
  · obtain ⟨v, rest, d, r, rfl, l, da, sz, ed, q⟩ := h
    have l9 := len0 l
    subst l9
    obtain ⟨nt, eN⟩ := S.NT
    exact ⟨_, pss_one (ps_ret (pe_call GP hr (by rfl) S.mP S.FP.kp S.bP .nil (passes_call (E := E) (takes_of rfl rfl rfl rfl) fun _ _ _ _ h => h) (pa_cons (pv 0) (pa_cons (pe_glob (v := .ref nt) (by rfl) eN rfl) pa_nil)))), _, rfl, v, .ref nt, d, r, rfl, q, da, sz, .inl ed⟩
theorem scGX : FnScope ["framing", "reader", "writers", "shown"] ["framing", "reader", "writers"] (defScope sGX) := ⟨rfl, rfl, rfl, by decide +kernel, rfl, by decide +kernel, by decide +kernel⟩
theorem ok_GX (S : Cs K mg) : FnOk P w K mg base (L2.CX P w) 4 S.fG S.dG ["framing", "reader", "writers"] (spFx S.R.B.C 1) := by
  have GR : FnOk P w K mg base (L2.CX P w) 3 S.fR S.dR ["thing"] (spNeedR S.R.B.C) := ok_needR S.R S.RD
  have GF : FnOk P w K mg base CX0 3 S.R.Z.fF S.R.Z.dF ["thing"] spNeedF := ok_needF S.R.Z
  refine S.FG.ok scGX (fun vs H Q E h => ?_) (fun cdv A outer s H vs Q E hr h => ?_)
  · obtain ⟨f, fr, last, v, rest, d, r, rfl, l, _⟩ := h
    rw [List.length_cons, List.length_cons, l]
    rfl
  · obtain ⟨f, fr, last, v, rest, d, r, rfl, l, fa, fm, da, sz, ed, q⟩ := h
    obtain ⟨x, rfl⟩ := len1 l
    exact ⟨_, pss_cons (ps_expr (pe_call GF hr (by rfl) S.R.Z.mF S.R.Z.F.kp S.R.Z.bF .nil pass0 (pa_cons (pv 0) pa_nil))) (pss_cons (ps_expr (pe_call GR hr (by rfl) S.mR S.RD.kp S.bR .nil (passes_call (E := E) (takes_of rfl rfl rfl rfl) fun _ _ _ _ h => h) (pa_cons (pv 1) pa_nil))) pss_never), _, rfl, f, fr, last, rfl, fa, fm, fun H1 s1 =>
      ⟨_, rfl, spNeedR_bad (Da.same s1 _ _ da) sz ed (q.same s1)⟩⟩
theorem scSX : FnScope ["framing", "reader", "writers"] ["framing", "reader", "writers"] (defScope sSX) := ⟨rfl, rfl, rfl, by decide +kernel, rfl, by decide +kernel, by decide +kernel⟩
theorem ok_SX (S : Cs K mg) : FnOk P w K mg base (L2.CX P w) 5 S.fS S.dS ["framing", "reader", "writers"] (spFx S.R.B.C 1) := by
  have GG : FnOk P w K mg base (L2.CX P w) 4 S.fG S.dG ["framing", "reader", "writers"] (spFx S.R.B.C 1) := ok_GX S
  refine S.FS.ok scSX (fun vs H Q E h => ?_) (fun cdv A outer s H vs Q E hr h => ?_)
  · obtain ⟨f, fr, last, v, rest, d, r, rfl, l, _⟩ := h
    rw [List.length_cons, List.length_cons, l]
    rfl
  · obtain ⟨f, fr, last, v, rest, d, r, rfl, l, fa, fm, da, sz, ed, q⟩ := h
    obtain ⟨x, rfl⟩ := len1 l
    exact ⟨_, pss_one (ps_ret (pe_cmpR op_isN (pe_call GG hr (by rfl) S.mG S.FG.kp S.bG .nil (passes_call (E := E) (takes_of rfl rfl rfl rfl) fun _ _ _ _ h => h) (pa_cons (pv 0) (pa_cons (pv 1) (pa_cons (pv 2) pa_nil)))) pe_non (nomark _))), _, rfl, _, rfl, _, rfl, f, fr, last, v, _, d, r, rfl, rfl, fa, fm, da, sz, ed, q⟩
theorem scWX : FnScope ["framing", "reader", "shown", "enough", "writers"] ["framing", "reader"] (defScope sWX) := ⟨rfl, rfl, rfl, by decide +kernel, rfl, by decide +kernel, by decide +kernel⟩
theorem ok_WX (S : Cs K mg) : FnOk P w K mg base (L2.CX P w) 5 S.fW S.dW ["framing", "reader"] (spFx S.R.B.C 0) := by
  have GG : FnOk P w K mg base (L2.CX P w) 4 S.fG S.dG ["framing", "reader", "writers"] (spFx S.R.B.C 1) := ok_GX S
  refine S.FW.okX scWX (fun vs H Q E h => ?_) (fun cdv A outer s H vs Q E hr h => ?_)
  · obtain ⟨f, fr, last, v, rest, d, r, rfl, l, _⟩ := h
    rw [List.length_cons, List.length_cons, l]
    rfl
  · obtain ⟨f, fr, last, v, rest, d, r, rfl, l, fa, fm, da, sz, ed, q⟩ := h
    have l9 := len0 l
    subst l9
    obtain ⟨ds, rd, bd⟩ := S.bG2
    exact ⟨_, pss_cons (ps_set (i := 2) scWX.nd rfl (Or.inl rfl) (pe_call GG hr (by rfl) S.mG S.FG.kp bd rd (passes_call (E := E) (takes_of rfl rfl rfl rfl) fun _ _ _ _ h => h) (pa_cons (pv 0) (pa_cons (pv 1) pa_nil)))) pss_never, _, rfl, _, rfl, f, fr, last, v, _, d, r, rfl, rfl, fa, fm, da, sz, ed, q⟩
theorem scCX : FnScope ["framing", "reader", "writers", "paper", "begins", "entries"] ["framing", "reader", "writers", "paper"] (defScope sCX) := ⟨rfl, rfl, rfl, by decide +kernel, rfl, by decide +kernel, by decide +kernel⟩
theorem ok_CX (S : Cs K mg) : FnOk P w K mg base (L2.CX P w) 4 S.fC S.dC ["framing", "reader", "writers", "paper"] (spFx S.R.B.C 2) := by
  have GR : FnOk P w K mg base (L2.CX P w) 3 S.fR S.dR ["thing"] (spNeedR S.R.B.C) := ok_needR S.R S.RD
  have GF : FnOk P w K mg base CX0 3 S.R.Z.fF S.R.Z.dF ["thing"] spNeedF := ok_needF S.R.Z
  refine S.FC.okX scCX (fun vs H Q E h => ?_) (fun cdv A outer s H vs Q E hr h => ?_)
  · obtain ⟨f, fr, last, v, rest, d, r, rfl, l, _⟩ := h
    rw [List.length_cons, List.length_cons, l]
    rfl
  · obtain ⟨f, fr, last, v, rest, d, r, rfl, l, fa, fm, da, sz, ed, q⟩ := h
    obtain ⟨x, y, rfl⟩ := len2 l
    exact ⟨_, pss_cons (ps_expr (pe_call GF hr (by rfl) S.R.Z.mF S.R.Z.F.kp S.R.Z.bF .nil pass0 (pa_cons (pv 0) pa_nil))) (pss_cons (ps_expr (pe_call GR hr (by rfl) S.mR S.RD.kp S.bR .nil (passes_call (E := E) (takes_of rfl rfl rfl rfl) fun _ _ _ _ h => h) (pa_cons (pv 1) pa_nil))) pss_never), _, rfl, f, fr, last, rfl, fa, fm, fun H1 s1 =>
      ⟨_, rfl, spNeedR_bad (Da.same s1 _ _ da) sz ed (q.same s1)⟩⟩
theorem scAX : FnScope ["framing", "reader", "leads", "found", "listed", "moves", "move"] ["framing", "reader"] (defScope sAX) := ⟨rfl, rfl, rfl, by decide +kernel, rfl, by decide +kernel, by decide +kernel⟩
theorem ok_AX (S : Cs K mg) : FnOk P w K mg base (L2.CX P w) 4 S.fA S.dA ["framing", "reader"] (spFx S.R.B.C 0) := by
  have GR : FnOk P w K mg base (L2.CX P w) 3 S.fR S.dR ["thing"] (spNeedR S.R.B.C) := ok_needR S.R S.RD
  have GF : FnOk P w K mg base CX0 3 S.R.Z.fF S.R.Z.dF ["thing"] spNeedF := ok_needF S.R.Z
  refine S.FA.okX scAX (fun vs H Q E h => ?_) (fun cdv A outer s H vs Q E hr h => ?_)
  · obtain ⟨f, fr, last, v, rest, d, r, rfl, l, _⟩ := h
    rw [List.length_cons, List.length_cons, l]
    rfl
  · obtain ⟨f, fr, last, v, rest, d, r, rfl, l, fa, fm, da, sz, ed, q⟩ := h
    have l9 := len0 l
    subst l9
    exact ⟨_, pss_cons (ps_expr (pe_call GF hr (by rfl) S.R.Z.mF S.R.Z.F.kp S.R.Z.bF .nil pass0 (pa_cons (pv 0) pa_nil))) (pss_cons (ps_expr (pe_call GR hr (by rfl) S.mR S.RD.kp S.bR .nil (passes_call (E := E) (takes_of rfl rfl rfl rfl) fun _ _ _ _ h => h) (pa_cons (pv 1) pa_nil))) pss_never), _, rfl, f, fr, last, rfl, fa, fm, fun H1 s1 =>
      ⟨_, rfl, spNeedR_bad (Da.same s1 _ _ da) sz ed (q.same s1)⟩⟩
theorem scKX : FnScope ["framing", "reader", "paper", "leads", "moves", "listed"] ["framing", "reader", "paper"] (defScope sKX) := ⟨rfl, rfl, rfl, by decide +kernel, rfl, by decide +kernel, by decide +kernel⟩
theorem ok_KX (S : Cs K mg) : FnOk P w K mg base (L2.CX P w) 4 S.fK S.dK ["framing", "reader", "paper"] (spFx S.R.B.C 1) := by
  have GR : FnOk P w K mg base (L2.CX P w) 3 S.fR S.dR ["thing"] (spNeedR S.R.B.C) := ok_needR S.R S.RD
  have GF : FnOk P w K mg base CX0 3 S.R.Z.fF S.R.Z.dF ["thing"] spNeedF := ok_needF S.R.Z
  refine S.FK.okX scKX (fun vs H Q E h => ?_) (fun cdv A outer s H vs Q E hr h => ?_)
  · obtain ⟨f, fr, last, v, rest, d, r, rfl, l, _⟩ := h
    rw [List.length_cons, List.length_cons, l]
    rfl
  · obtain ⟨f, fr, last, v, rest, d, r, rfl, l, fa, fm, da, sz, ed, q⟩ := h
    obtain ⟨x, rfl⟩ := len1 l
    exact ⟨_, pss_cons (ps_expr (pe_call GF hr (by rfl) S.R.Z.mF S.R.Z.F.kp S.R.Z.bF .nil pass0 (pa_cons (pv 0) pa_nil))) (pss_cons (ps_expr (pe_call GR hr (by rfl) S.mR S.RD.kp S.bR .nil (passes_call (E := E) (takes_of rfl rfl rfl rfl) fun _ _ _ _ h => h) (pa_cons (pv 1) pa_nil))) pss_never), _, rfl, f, fr, last, rfl, fa, fm, fun H1 s1 =>
      ⟨_, rfl, spNeedR_bad (Da.same s1 _ _ da) sz ed (q.same s1)⟩⟩
end
end K06
/-! _law_asked, _law_outcome. -/
namespace K06
open PySem L2 L2.EV
abbrev sAsked : Stmt := top 78
abbrev sOut : Stmt := top 79
structure As (K : PySem.W.Frag) (mg : Str → Option Value) where
  S : Cs K mg
  f : Addr
  d : FuncData
  F : Fun K "_law_asked" "_law_asked" sAsked f d
  b : Binds K d ["way", "thing"] []
  m : mg "_law_asked" = some (.ref f)
def spAsked (C : Addr) : Sp := fun vs H Q E => ∃ (v : V) (w : Int) (d : PyData) (r : Str × Option Nat), vs = [.int w, v] ∧ 0 ≤ w ∧ w ≤ 10 ∧ Da H v d ∧ SzR d ∧ ffD d = some r ∧ Eb C E H r.1 r.2
def one1 : List T3 := [(0, "a;", 0)]
theorem pc_a : Pc ("a;" : Str) true := ⟨[97], by decide +kernel, by decide, by decide +kernel, fun h => by cases h⟩
theorem frm1 : Frm one1 0 := by
  refine ⟨by decide, by decide, fun x hx => ?_, by decide +kernel, fun k hk => ?_, fun x hx => ?_, by decide⟩
  · obtain rfl := List.mem_singleton.mp hx
    exact ⟨by decide, by decide, pc_a, by decide, by decide⟩
  · obtain rfl : k = 0 := by omega
    exact ⟨_, List.mem_cons_self .., rfl, rfl⟩
  · obtain rfl := List.mem_singleton.mp hx
    exact ⟨by decide, by decide⟩
theorem fra1 {H : Hp} {p q : Addr} (h1 : H p = some (.tup [.int 0, .str "a;", .int 0])) (h2 : H q = some (.tup [.ref p])) : FrA H q one1 := by
  refine ⟨[p], h2, rfl, fun i t x e1 e2 => ?_⟩
  cases i with
  | zero =>
    cases e1
    cases e2
    exact h1
  | succ i => cases e1
theorem ff_emp : ffD (.tuple [.tuple [], .tuple []]) = none := rfl
section
variable {P : Program} {w : World} {K : PySem.W.Frag} {mg : Str → Option Value} {base : Heap}
theorem scAsked : FnScope ["way", "thing", "framing"] ["way", "thing"] (defScope sAsked) := ⟨rfl, rfl, rfl, by decide +kernel, rfl, by decide +kernel, by decide +kernel⟩
theorem ok_asked (A0 : As K mg) : FnOk P w K mg base (L2.CX P w) 6 A0.f A0.d ["way", "thing"] (spAsked A0.S.R.B.C) := by
  have GR : FnOk P w K mg base (L2.CX P w) 3 A0.S.fR A0.S.dR ["thing"] (spNeedR A0.S.R.B.C) := ok_needR A0.S.R A0.S.RD
  have GT : FnOk P w K mg base (L2.CX P w) 4 A0.S.fT A0.S.dT ["reader", "text"] (spRx A0.S.R.B.C 1) := ok_TX A0.S
  have GI : FnOk P w K mg base (L2.CX P w) 5 A0.S.fI A0.S.dI ["reader"] (spRx A0.S.R.B.C 0) := ok_IX A0.S
  have GP : FnOk P w K mg base (L2.CX P w) 4 A0.S.fP A0.S.dP ["one", "other"] (spPx A0.S.R.B.C) := ok_PX A0.S
  have GG : FnOk P w K mg base (L2.CX P w) 4 A0.S.fG A0.S.dG ["framing", "reader", "writers"] (spFx A0.S.R.B.C 1) := ok_GX A0.S
  have GS : FnOk P w K mg base (L2.CX P w) 5 A0.S.fS A0.S.dS ["framing", "reader", "writers"] (spFx A0.S.R.B.C 1) := ok_SX A0.S
  have GC : FnOk P w K mg base (L2.CX P w) 4 A0.S.fC A0.S.dC ["framing", "reader", "writers", "paper"] (spFx A0.S.R.B.C 2) := ok_CX A0.S
  have GW : FnOk P w K mg base (L2.CX P w) 5 A0.S.fW A0.S.dW ["framing", "reader"] (spFx A0.S.R.B.C 0) := ok_WX A0.S
  have GA : FnOk P w K mg base (L2.CX P w) 4 A0.S.fA A0.S.dA ["framing", "reader"] (spFx A0.S.R.B.C 0) := ok_AX A0.S
  have GK : FnOk P w K mg base (L2.CX P w) 4 A0.S.fK A0.S.dK ["framing", "reader", "paper"] (spFx A0.S.R.B.C 1) := ok_KX A0.S
  refine A0.F.okX scAsked (fun vs H Q E h => ?_) (fun cdv A outer s H vs Q E hr h => ?_)
  · obtain ⟨v, w, d, r, rfl, _⟩ := h
    rfl
  · obtain ⟨v, w, d, r, rfl, w0, w1, da, sz, ed, q⟩ := h
    have r3 := hr.mono (j := 3) (by omega)
    have r4 := hr.mono (j := 4) (by omega)
    refine ⟨_, pss_cons (ps_set (i := 2) scAsked.nd rfl (Or.inl rfl) (pe_tup (pa_cons (pe_tup (pa_cons pe_int (pa_cons pe_str (pa_cons pe_int pa_nil)))) pa_nil)))
      (pss_cons (ps_if (pt_cmpR op_eq (pv 0) pe_int (nomark _)) (pss_one (ps_ret (pe_call GR r3 (by rfl) A0.S.mR A0.S.RD.kp A0.S.bR .nil (passes_call (E := E) (takes_of rfl rfl rfl rfl) fun _ _ _ _ h => h) (pa_cons (pv 1) pa_nil)))) pss_nil)
      (pss_cons (ps_if (pt_cmpR op_eq (pv 0) pe_int (nomark _)) (pss_one (ps_ret (pe_call GT r4 (by rfl) A0.S.mT A0.S.FT.kp A0.S.bT .nil (passes_call (E := E) (takes_of rfl rfl rfl rfl) fun _ _ _ _ h => h) (pa_cons (pv 1) (pa_cons pe_non pa_nil))))) pss_nil)
      (pss_cons (ps_if (pt_cmpR op_eq (pv 0) pe_int (nomark _)) (pss_one (ps_ret (pe_call GI hr (by rfl) A0.S.mI A0.S.FI.kp A0.S.bI .nil (passes_call (E := E) (takes_of rfl rfl rfl rfl) fun _ _ _ _ h => h) (pa_cons (pv 1) pa_nil)))) pss_nil)
      (pss_cons (ps_if (pt_cmpR op_eq (pv 0) pe_int (nomark _)) (pss_one (ps_ret (pe_call GP r4 (by rfl) A0.S.mP A0.S.FP.kp A0.S.bP .nil (passes_call (E := E) (takes_of rfl rfl rfl rfl) fun _ _ _ _ h => h) (pa_cons (pv 1) (pa_cons pe_non pa_nil))))) pss_nil)
      (pss_cons (ps_if (pt_cmpR op_eq (pv 0) pe_int (nomark _)) (pss_one (ps_ret (pe_call GP r4 (by rfl) A0.S.mP A0.S.FP.kp A0.S.bP .nil (passes_call (E := E) (takes_of rfl rfl rfl rfl) fun _ _ _ _ h => h) (pa_cons (pe_tup (pa_cons (pe_tup pa_nil) (pa_cons (pe_tup pa_nil) pa_nil))) (pa_cons (pv 1) pa_nil))))) pss_nil)
      (pss_cons (ps_if (pt_cmpR op_eq (pv 0) pe_int (nomark _)) (pss_one (ps_ret (pe_call GG r4 (by rfl) A0.S.mG A0.S.FG.kp A0.S.bG .nil (passes_call (E := E) (takes_of rfl rfl rfl rfl) fun _ _ _ _ h => h) (pa_cons (pv 2) (pa_cons (pv 1) (pa_cons pe_int pa_nil)))))) pss_nil)
      (pss_cons (ps_if (pt_cmpR op_eq (pv 0) pe_int (nomark _)) (pss_one (ps_ret (pe_call GS hr (by rfl) A0.S.mS A0.S.FS.kp A0.S.bS .nil (passes_call (E := E) (takes_of rfl rfl rfl rfl) fun _ _ _ _ h => h) (pa_cons (pv 2) (pa_cons (pv 1) (pa_cons pe_int pa_nil)))))) pss_nil)
      (pss_cons (ps_if (pt_cmpR op_eq (pv 0) pe_int (nomark _)) (pss_one (ps_ret (pe_call GC r4 (by rfl) A0.S.mC A0.S.FC.kp A0.S.bC .nil (passes_call (E := E) (takes_of rfl rfl rfl rfl) fun _ _ _ _ h => h) (pa_cons (pv 2) (pa_cons (pv 1) (pa_cons pe_int (pa_cons pe_non pa_nil))))))) pss_nil)
      (pss_cons (ps_if (pt_cmpR op_eq (pv 0) pe_int (nomark _)) (pss_one (ps_ret (pe_call GW hr (by rfl) A0.S.mW A0.S.FW.kp A0.S.bW .nil (passes_call (E := E) (takes_of rfl rfl rfl rfl) fun _ _ _ _ h => h) (pa_cons (pv 2) (pa_cons (pv 1) pa_nil))))) pss_nil)
      (pss_one (ps_ret (pe_ifExp (pt_cmpR op_eq (pv 0) pe_int (nomark _)) (pe_call GA r4 (by rfl) A0.S.mA A0.S.FA.kp A0.S.bA .nil (passes_call (E := E) (takes_of rfl rfl rfl rfl) fun _ _ _ _ h => h) (pa_cons (pv 2) (pa_cons (pv 1) pa_nil)))
        (pe_call GK r4 (by rfl) A0.S.mK A0.S.FK.kp A0.S.bK .nil (passes_call (E := E) (takes_of rfl rfl rfl rfl) fun _ _ _ _ h => h) (pa_cons (pv 2) (pa_cons (pv 1) (pa_cons pe_non pa_nil)))))))))))))))), ?_⟩
    refine ⟨(by decide), fun p h1 => ⟨(by show 1 ≤ sizeLine; decide), fun p2 h2 => ?_⟩⟩
    have u1 := same_upd (o := HO.tup [V.int 0, V.str "a;", V.int 0]) h1
    have u2 := same_upd (o := HO.tup [V.ref p]) h2
    have s2 := u1.trans u2
    have fa := fra1 (u2 _ _ (upd_same (H := H) (a := p) (o := HO.tup [V.int 0, V.str "a;", V.int 0]))) (upd_same (a := p2) (o := HO.tup [V.ref p]))
    generalize upd (upd H p (HO.tup [V.int 0, V.str "a;", V.int 0])) p2 (HO.tup [V.ref p]) = H2 at s2 fa ⊢
    have da2 := Da.same s2 _ _ da
    have q2 := q.same s2
    clear q u1 u2
    have fxs : ∀ {k : Nat} (rest : List V), rest.length = k → spFx A0.S.R.B.C k (.ref p2 :: v :: rest) H2 Q E := fun rest hl => ⟨p2, one1, 0, v, rest, d, r, rfl, hl, fa, frm1, da2, sz, ed, q2⟩
    have rxs : ∀ {k : Nat} (rest : List V), rest.length = k → spRx A0.S.R.B.C k (v :: rest) H2 Q E := fun rest hl => ⟨v, rest, d, r, rfl, hl, da2, sz, ed, q2⟩
    have hw : w = 0 ∨ w = 1 ∨ w = 2 ∨ w = 3 ∨ w = 4 ∨ w = 5 ∨ w = 6 ∨ w = 7 ∨ w = 8 ∨ w = 9 ∨ w = 10 := by omega
    rcases hw with rfl | rfl | rfl | rfl | rfl | rfl | rfl | rfl | rfl | rfl | rfl
    · exact ⟨_, rfl, rfl, _, rfl, iteT' (by simp) ⟨_, rfl, spNeedR_bad da2 sz ed q2⟩⟩
    · exact ⟨_, rfl, rfl, _, rfl, iteF' (by simp) ⟨_, rfl, rfl, _, rfl, iteT' (by simp) ⟨_, rfl, rxs [_] rfl⟩⟩⟩
    · exact ⟨_, rfl, rfl, _, rfl, iteF' (by simp) ⟨_, rfl, rfl, _, rfl, iteF' (by simp) ⟨_, rfl, rfl, _, rfl, iteT' (by simp) ⟨_, rfl, rxs [] rfl⟩⟩⟩⟩
    · exact ⟨_, rfl, rfl, _, rfl, iteF' (by simp) ⟨_, rfl, rfl, _, rfl, iteF' (by simp) ⟨_, rfl, rfl, _, rfl, iteF' (by simp) ⟨_, rfl, rfl, _, rfl, iteT' (by simp) ⟨_, rfl, v, .non, d, r, rfl, q2, da2, sz, .inl ed⟩⟩⟩⟩⟩
    · refine ⟨_, rfl, rfl, _, rfl, iteF' (by simp) ⟨_, rfl, rfl, _, rfl, iteF' (by simp) ⟨_, rfl, rfl, _, rfl, iteF' (by simp) ⟨_, rfl, rfl, _, rfl, iteF' (by simp) ⟨_, rfl, rfl, _, rfl, iteT' (by simp) ⟨(by decide), fun a1 n1 => ⟨(by decide), fun a2 n2 => ⟨(by show 2 ≤ sizeLine; decide), fun a3 n3 => ?_⟩⟩⟩⟩⟩⟩⟩⟩
      have u1 := same_upd (o := HO.tup []) n1
      have u2 := same_upd (o := HO.tup []) n2
      have u3 := same_upd (o := HO.tup [V.ref a1, V.ref a2]) n3
      have s3 := (u1.trans u2).trans u3
      refine ⟨_, rfl, .ref a3, v, .tuple [.tuple [], .tuple []], r, rfl, q2.same s3, .tup upd_same (.cons (.tup (u3 _ _ (u2 _ _ upd_same)) .nil) (.cons (.tup (u3 _ _ upd_same) .nil) .nil)), fun rs g e x hx => ?_, .inr ⟨rfl, d, Da.same s3 _ _ da2, sz, ed⟩⟩
      cases e
      cases hx
    · exact ⟨_, rfl, rfl, _, rfl, iteF' (by simp) ⟨_, rfl, rfl, _, rfl, iteF' (by simp) ⟨_, rfl, rfl, _, rfl, iteF' (by simp) ⟨_, rfl, rfl, _, rfl, iteF' (by simp) ⟨_, rfl, rfl, _, rfl, iteF' (by simp) ⟨_, rfl, rfl, _, rfl, iteT' (by simp) ⟨_, rfl, _, rfl, fxs [_] rfl⟩⟩⟩⟩⟩⟩⟩
    · exact ⟨_, rfl, rfl, _, rfl, iteF' (by simp) ⟨_, rfl, rfl, _, rfl, iteF' (by simp) ⟨_, rfl, rfl, _, rfl, iteF' (by simp) ⟨_, rfl, rfl, _, rfl, iteF' (by simp) ⟨_, rfl, rfl, _, rfl, iteF' (by simp) ⟨_, rfl, rfl, _, rfl, iteF' (by simp) ⟨_, rfl, rfl, _, rfl, iteT' (by simp) ⟨_, rfl, _, rfl, fxs [_] rfl⟩⟩⟩⟩⟩⟩⟩⟩
    · exact ⟨_, rfl, rfl, _, rfl, iteF' (by simp) ⟨_, rfl, rfl, _, rfl, iteF' (by simp) ⟨_, rfl, rfl, _, rfl, iteF' (by simp) ⟨_, rfl, rfl, _, rfl, iteF' (by simp) ⟨_, rfl, rfl, _, rfl, iteF' (by simp) ⟨_, rfl, rfl, _, rfl, iteF' (by simp) ⟨_, rfl, rfl, _, rfl, iteF' (by simp) ⟨_, rfl, rfl, _, rfl, iteT' (by simp) ⟨_, rfl, _, rfl, fxs [_, _] rfl⟩⟩⟩⟩⟩⟩⟩⟩⟩
    · exact ⟨_, rfl, rfl, _, rfl, iteF' (by simp) ⟨_, rfl, rfl, _, rfl, iteF' (by simp) ⟨_, rfl, rfl, _, rfl, iteF' (by simp) ⟨_, rfl, rfl, _, rfl, iteF' (by simp) ⟨_, rfl, rfl, _, rfl, iteF' (by simp) ⟨_, rfl, rfl, _, rfl, iteF' (by simp) ⟨_, rfl, rfl, _, rfl, iteF' (by simp) ⟨_, rfl, rfl, _, rfl, iteF' (by simp) ⟨_, rfl, rfl, _, rfl, iteT' (by simp) ⟨_, rfl, _, rfl, fxs [] rfl⟩⟩⟩⟩⟩⟩⟩⟩⟩⟩
    · exact ⟨_, rfl, rfl, _, rfl, iteF' (by simp) ⟨_, rfl, rfl, _, rfl, iteF' (by simp) ⟨_, rfl, rfl, _, rfl, iteF' (by simp) ⟨_, rfl, rfl, _, rfl, iteF' (by simp) ⟨_, rfl, rfl, _, rfl, iteF' (by simp) ⟨_, rfl, rfl, _, rfl, iteF' (by simp) ⟨_, rfl, rfl, _, rfl, iteF' (by simp) ⟨_, rfl, rfl, _, rfl, iteF' (by simp) ⟨_, rfl, rfl, _, rfl, iteF' (by simp) ⟨_, rfl, rfl, _, rfl, iteT' (by simp) ⟨_, rfl, _, rfl, fxs [] rfl⟩⟩⟩⟩⟩⟩⟩⟩⟩⟩⟩
    · exact ⟨_, rfl, rfl, _, rfl, iteF' (by simp) ⟨_, rfl, rfl, _, rfl, iteF' (by simp) ⟨_, rfl, rfl, _, rfl, iteF' (by simp) ⟨_, rfl, rfl, _, rfl, iteF' (by simp) ⟨_, rfl, rfl, _, rfl, iteF' (by simp) ⟨_, rfl, rfl, _, rfl, iteF' (by simp) ⟨_, rfl, rfl, _, rfl, iteF' (by simp) ⟨_, rfl, rfl, _, rfl, iteF' (by simp) ⟨_, rfl, rfl, _, rfl, iteF' (by simp) ⟨_, rfl, rfl, _, rfl, iteF' (by simp) ⟨_, rfl, _, rfl, fxs [_] rfl⟩⟩⟩⟩⟩⟩⟩⟩⟩⟩⟩
end
end K06
/-! _law_outcome. -/
namespace K06
open PySem L2 L2.EV
structure Ot (K : PySem.W.Frag) (mg : Str → Option Value) where
  A : As K mg
  f : Addr
  d : FuncData
  F : Fun K "_law_outcome" "_law_outcome" sOut f d
  b : Binds K d ["way", "thing"] []
  m : mg "_law_outcome" = some (.ref f)
def spOut : Sp := fun vs H Q _ => ∃ (v : V) (w : Int) (d : PyData) (r : Str × Option Nat), vs = [.int w, v] ∧ 0 ≤ w ∧ w ≤ 10 ∧ Da H v d ∧ SzR d ∧ ffD d = some r ∧ ∀ H' p, Same H H' → H' p = some (.tup [.str r.1, wv r.2]) → Q (.ref p) H'
section
variable {P : Program} {w : World} {K : PySem.W.Frag} {mg : Str → Option Value} {base : Heap}
theorem scOut : FnScope ["way", "thing", "found", "e"] ["way", "thing"] (defScope sOut) := ⟨rfl, rfl, rfl, by decide +kernel, rfl, by decide +kernel, by decide +kernel⟩
theorem ok_out (O : Ot K mg) : FnOk P w K mg base CX0 7 O.f O.d ["way", "thing"] spOut := by
  have GQ : FnOk P w K mg base (L2.CX P w) 6 O.A.f O.A.d ["way", "thing"] (spAsked O.A.S.R.B.C) := ok_asked O.A
  have XT : XfC K O.A.S.R.B.C := ⟨O.A.S.R.B.T.ga, O.A.S.R.B.T.gg, O.A.S.R.B.T.exC, O.A.S.R.B.T.hd⟩
  refine O.F.ok scOut (fun vs H Q E h => ?_) (fun cdv A outer s H vs Q E hr h => ?_)
  · obtain ⟨v, w, d, r, rfl, _⟩ := h
    rfl
  · obtain ⟨v, w, d, r, rfl, w0, w1, da, sz, ed, q⟩ := h
    refine ⟨_, pss_cons (ps_set (i := 2) scOut.nd rfl (Or.inl rfl) pe_non)
      (pss_cons (ps_try_as (i := 3) (c := .ref O.A.S.R.B.C) (Wout := fun _ _ _ _ => False) rfl rfl scOut.nd rfl rfl ⟨by rfl, by decide, .inl O.A.S.R.B.m⟩ takes0
          (fun W pn xe tk _ => pss_one (ps_expr (pe_callS (E := WE W) GQ hr (by rfl) O.A.m O.A.F.kp O.A.b (passAt tk) (pa_cons (pv 0) (pa_cons (pv 1) pa_nil)))))
          (fun a oe cls d pn hz hf => pss_one (ps_set (i := 2) scOut.nd rfl (Or.inl rfl) (pe_tup (pa_cons (pe_xf XT O.A.S.R.B.n0 hz hf (pv 3)) (pa_cons (pe_xf XT O.A.S.R.B.n1 hz hf (pv 3)) pa_nil))))))
      (pss_one (ps_ret (pv 2)))), ?_⟩
    refine ⟨_, rfl, _, rfl, v, w, d, r, rfl, w0, w1, da, sz, ed, fun H' dx s1 e => ?_⟩
    refine ⟨true, PySem.W.exm_ref O.A.S.R.B.su O.A.S.R.B.T.hd O.A.S.R.B.ty O.A.S.R.B.own, fun _ a na => ?_, fun h => by cases h⟩
    refine ⟨_, rfl, rfl, rfl, dx, _, .str r.1, rfl, e, rfl, ⟨_, rfl, rfl, rfl, dx, _, wv r.2, rfl, e, rfl, ?_⟩⟩
    refine ⟨(by show 2 ≤ sizeLine; decide), fun p np => ?_⟩
    have u := same_upd (o := HO.tup [V.str r.1, wv r.2]) np
    exact ⟨_, rfl, q _ p (s1.trans u) upd_same⟩
end
end K06
/-! The law's own look at a reader. -/
namespace K06
open PySem L2 L2.EV
abbrev sSigns : Stmt := top 73
abbrev sIsW : Stmt := top 75
abbrev sLRule : Stmt := top 76
abbrev sLFault : Stmt := top 77
def sgT : Str := "0123456789@abcdefghijklmnopqrstuvwxyz"
def sgL : List Nat := sl sgT
theorem sg_same (c : Nat) : decide (c ∈ sgL) = decide (c ∈ sgs) := by
  have h1 : (sgL.all fun c => decide (c ∈ sgs)) = true := by decide +kernel
  have h2 : (sgs.all fun c => decide (c ∈ sgL)) = true := by decide +kernel
  by_cases m : c ∈ sgL
  · rw [decide_eq_true m, decide_eq_true (of_decide_eq_true (List.all_eq_true.mp h1 c m))]
  · rw [decide_eq_false m, decide_eq_false fun k => m (of_decide_eq_true (List.all_eq_true.mp h2 c k))]
def spIsW : Sp := fun vs H Q _ => ∃ (v : V) (d : PyData) (b : Int), vs = [v, .int 0, .int b] ∧ Da H v d ∧ Q (.bl (numD (b + 1) d).isSome) H
def spSigns : Sp := fun vs H Q _ => vs = [] ∧ Q (.str sgT) H
def spFaultL : Sp := fun vs H Q _ => ∃ (v : V) (d : PyData), vs = [v] ∧ Da H v d ∧ SzR d ∧ match ffD d with
  | none => ∀ H', Same H H' → Q .non H'
  | some r => ∀ H' p, Same H H' → H' p = some (.tup [.str r.1, wv r.2]) → Q (.ref p) H'
structure Lg (K : PySem.W.Frag) (mg : Str → Option Value) where
  T : TxtF mg
  en : mg "enumerate" = none
  f0 : Addr
  d0 : FuncData
  G : Fun K "_law_signs" "_law_signs" sSigns f0 d0
  b0 : Binds K d0 [] []
  m0 : mg "_law_signs" = some (.ref f0)
  f1 : Addr
  d1 : FuncData
  I : Fun K "_law_is_whole" "_law_is_whole" sIsW f1 d1
  bI : Binds K d1 ["thing", "least", "most"] []
  gI : mg "_law_is_whole" = some (.ref f1)
  f2 : Addr
  d2 : FuncData
  U : Fun K "_law_is_rule" "_law_is_rule" sLRule f2 d2
  bU : Binds K d2 ["thing"] []
  gU : mg "_law_is_rule" = some (.ref f2)
  f3 : Addr
  d3 : FuncData
  F : Fun K "_law_fault" "_law_fault" sLFault f3 d3
  bF : Binds K d3 ["thing"] []
  gF : mg "_law_fault" = some (.ref f3)
section
variable {P : Program} {w : World} {K : PySem.W.Frag} {mg : Str → Option Value} {base : Heap}
theorem scSigns : FnScope [] [] (defScope sSigns) := ⟨rfl, rfl, rfl, by decide +kernel, rfl, by decide +kernel, by decide +kernel⟩
theorem ok_signs (L : Lg K mg) : FnOk P w K mg base CX0 1 L.f0 L.d0 [] spSigns := by
  refine L.G.ok scSigns (fun vs H Q E h => ?_) (fun cdv A outer s H vs Q E hr h => ?_)
  · rw [h.1]
    rfl
  · obtain ⟨rfl, q⟩ := h
    exact ⟨_, pss_one (ps_ret pe_str), q⟩
theorem scIsW : FnScope ["thing", "least", "most"] ["thing", "least", "most"] (defScope sIsW) := ⟨rfl, rfl, rfl, by decide +kernel, rfl, by decide +kernel, by decide +kernel⟩
theorem ok_isW (L : Lg K mg) : FnOk P w K mg base CX0 1 L.f1 L.d1 ["thing", "least", "most"] spIsW := by
  have T := L.T
  refine L.I.ok scIsW (fun vs H Q E h => ?_) (fun cdv A outer s H vs Q E hr h => ?_)
  · obtain ⟨v, d, b, rfl, _⟩ := h
    rfl
  · obtain ⟨v, d, b, rfl, da, q⟩ := h
    refine ⟨_, pss_one (ps_ret (pe_and (pe_callB call_isi (by rfl) T.isi PyProof.Rows.boot_isinstance (pa_cons (pv 0) (pa_cons (pe_bltn (v := .ty "int") (by rfl) T.int (by decide +kernel) rfl) pa_nil)))
      (pe_and (pe_not (pe_callB call_isi (by rfl) T.isi PyProof.Rows.boot_isinstance (pa_cons (pv 0) (pa_cons (pe_bltn (v := .ty "bool") (by rfl) T.bool (by decide +kernel) rfl) pa_nil))))
        (pe_one (pe_chain op_le op_le (pv 1) (pv 0) (pv 2)))))), ?_⟩
    obtain ⟨t, ty, _, ki, kb⟩ := da.ty (K := K)
    refine ⟨_, rfl, v, .ty "int", t, .type "int", isInt d, rfl, .ty "int", ty, ki, isInt d, rfl, ?_⟩
    cases da with
    | int n =>
      refine iteT ?_
      refine ⟨_, rfl, .int n, .ty "bool", t, .type "bool", false, rfl, .ty "bool", ty, kb, false, rfl, true, rfl, iteT ?_⟩
      have q : Q (.bl (if 0 ≤ n ∧ n < b + 1 then some n else none).isSome) H := q
      refine ⟨_, rfl, _, rfl, 0, n, rfl, rfl, _, rfl, ?_⟩
      refine ite2 (fun z => ?_) (fun z => ?_)
      · have z1 : 0 ≤ n := of_decide_eq_true z
        refine ⟨_, rfl, n, b, rfl, rfl, ?_⟩
        show Q (.bl (decide (n ≤ b))) H
        by_cases c : n ≤ b
        · rw [if_pos ⟨z1, by omega⟩] at q
          rw [decide_eq_true c]
          exact q
        · rw [if_neg (fun k => c (by omega))] at q
          rw [decide_eq_false c]
          exact q
      · have z1 : ¬ 0 ≤ n := fun k => z (decide_eq_true k)
        rw [if_neg (fun k => z1 k.1)] at q
        exact q
    | bl b =>
      refine iteT ?_
      exact ⟨_, rfl, .bl b, .ty "bool", t, .type "bool", true, rfl, .ty "bool", ty, kb, true, rfl, false, rfl, iteF q⟩
    | non => exact iteF q
    | str x => exact iteF q
    | lst e h => exact iteF q
    | tup e h => exact iteF q
theorem scLRule : FnScope ["thing"] ["thing"] (defScope sLRule) := ⟨rfl, rfl, rfl, by decide +kernel, rfl, by decide +kernel, by decide +kernel⟩
theorem ok_lrule (L : Lg K mg) : FnOk P w K mg base CX0 2 L.f2 L.d2 ["thing"] spRule := by
  have GS : FnOk P w K mg base CX0 1 L.f0 L.d0 [] spSigns := ok_signs L
  have GI : FnOk P w K mg base CX0 1 L.f1 L.d1 ["thing", "least", "most"] spIsW := ok_isW L
  have T := L.T
  refine L.U.ok scLRule (fun vs H Q E h => ?_) (fun cdv A outer s H vs Q E hr h => ?_)
  · obtain ⟨v, d, rfl, _⟩ := h
    rfl
  · obtain ⟨v, d, rfl, da, sz, q⟩ := h
    refine ⟨_, pss_cons (ps_if (pw_or (pt_not (pt_val (pe_callB call_isi (by rfl) T.isi PyProof.Rows.boot_isinstance (pa_cons (pv 0) (pa_cons (pe_bltn (v := .ty "tuple") (by rfl) T.tuple (by decide +kernel) rfl) pa_nil)))))
        (pw_or (pt_cmpR op_ne (pe_callB call_len_seq (by rfl) T.len PySem.boot_len (pa_cons (pv 0) pa_nil)) pe_int (nomark _))
        (pw_or (pt_not (pt_val (pe_callB call_isi (by rfl) T.isi PyProof.Rows.boot_isinstance (pa_cons (pe_ix ix_tup (pv 0) pe_int (fun _ _ => rfl)) (pa_cons (pe_bltn (v := .ty "str") (by rfl) T.str (by decide +kernel) rfl) pa_nil)))))
        (pw_or1 (pt_cmpR op_ne (pe_callB call_len_str (by rfl) T.len PySem.boot_len (pa_cons (pe_ix ix_tup (pv 0) pe_int (fun _ _ => rfl)) pa_nil)) pe_int (nomark _)))))).pt
        (pss_one (ps_ret pe_bl)) pss_nil)
      (pss_cons (ps_if (pt_cmpR op_notIn_sign (pe_ix ix_tup (pv 0) pe_int (fun _ _ => rfl)) (pe_call0 GS hr (by rfl) L.m0 L.G.kp L.b0 .nil pass0) (by rfl)) (pss_one (ps_ret pe_bl)) pss_nil)
      (pss_one (ps_ret (pe_and (pe_call GI hr (by rfl) L.gI L.I.kp L.bI .nil pass0 (pa_cons (pe_ix ix_tup (pv 0) pe_int (fun _ _ => rfl)) (pa_cons pe_int (pa_cons pe_int pa_nil))))
        (pe_one (pe_call GI hr (by rfl) L.gI L.I.kp L.bI .nil pass0 (pa_cons (pe_ix ix_tup (pv 0) pe_int (fun _ _ => rfl)) (pa_cons pe_int (pa_cons pe_int pa_nil))))))))), ?_⟩
    obtain ⟨t, ty, kt, _, _⟩ := da.ty (K := K)
    refine ⟨_, rfl, v, .ty "tuple", t, .type "tuple", isTup d, rfl, .ty "tuple", ty, kt, isTup d, rfl, ?_⟩
    cases da with
    | @tup a xs ds e all =>
      refine iteF ?_
      refine ⟨_, rfl, a, _, rfl, .inr (SqT.of e), rfl, _, rfl, ?_⟩
      have ln := all.len
      by_cases h3 : xs.length = 3
      · refine iteF' (by simp [h3]) ?_
        match xs, ds, all, h3 with
        | [x, y, z], [dx, dy, dz], .cons h1 (.cons h2 (.cons h4 .nil)), _ =>
          have no : (numD 200 dx = none ∨ numD 200 dz = none) → ruleD (.tuple [dx, dy, dz]) = none := fun c => by
            cases dy with
            | str s =>
              show (match numD 200 dx, numD 200 dz with
                | some i, some j => if signD s = true then some (i, s, j) else none
                | _, _ => none) = none
              rcases c with c | c
              · rw [c]
              · rw [c]
                cases numD 200 dx <;> rfl
            | _ => rfl
          obtain ⟨t2, ty2, kt2⟩ := h2.tyS (K := K)
          refine ⟨_, rfl, a, _, 1, y, rfl, rfl, SqT.of e, atI_nat (j := 1) rfl, y, .ty "str", t2, .type "str", isSt dy, rfl, .ty "str", ty2, kt2, isSt dy, rfl, ?_⟩
          cases h2 with
          | str s =>
            refine iteF ?_
            have szs := sz dx s dz rfl
            refine ⟨_, rfl, a, _, 1, .str s, rfl, rfl, SqT.of e, atI_nat (j := 1) rfl, _, rfl, (by rw [sizeLine_eq]; omega), rfl, _, rfl, ?_⟩
            by_cases l1 : s.length = 1
            · refine iteF' (by simp [l1]) ?_
              obtain ⟨c, rfl⟩ := one_sign l1
              refine ⟨_, rfl, a, _, 1, .str ⟨#[c]⟩, rfl, rfl, SqT.of e, atI_nat (j := 1) rfl, rfl, c, _, rfl, rfl, _, rfl, ?_⟩
              have q1 := q
              clear q
              have sg : signD ⟨#[c]⟩ = decide (c ∈ sgL) := by rw [signD_one, sg_same]
              by_cases m : c ∈ sgL
              · refine iteF' (by show (!decide (c ∈ sgL)) = false; rw [decide_eq_true m]; rfl) ?_
                rw [decide_eq_true m] at sg
                refine ⟨_, rfl, a, _, 0, x, rfl, rfl, SqT.of e, atI_nat (j := 0) rfl, x, dx, 199, rfl, h1, _, rfl, ?_⟩
                cases ea : numD 200 dx with
                | none =>
                  rw [no (.inl ea)] at q1
                  exact iteF' (by show (numD 200 dx).isSome = false; rw [ea]; rfl) q1
                | some i =>
                  refine iteT' (by show (numD 200 dx).isSome = true; rw [ea]; rfl) ?_
                  refine ⟨_, rfl, a, _, 2, z, rfl, rfl, SqT.of e, atI_nat (j := 2) rfl, z, dz, 199, rfl, h4, ?_⟩
                  show Q (.bl (numD 200 dz).isSome) H
                  have q1 : Q (.bl (match numD 200 dx, numD 200 dz with
                    | some i, some j => if signD ⟨#[c]⟩ = true then some (i, (⟨#[c]⟩ : Str), j) else none
                    | _, _ => none).isSome) H := q1
                  rw [ea, sg] at q1
                  cases eb : numD 200 dz with
                  | none =>
                    rw [eb] at q1
                    exact q1
                  | some j =>
                    rw [eb] at q1
                    exact q1
              · refine iteT' (by show (!decide (c ∈ sgL)) = true; rw [decide_eq_false m]; rfl) ?_
                rw [decide_eq_false m] at sg
                have q1 : Q (.bl (match numD 200 dx, numD 200 dz with
                  | some i, some j => if signD ⟨#[c]⟩ = true then some (i, (⟨#[c]⟩ : Str), j) else none
                  | _, _ => none).isSome) H := q1
                rw [sg] at q1
                cases ea : numD 200 dx <;> cases eb : numD 200 dz <;> rw [ea, eb] at q1 <;> exact q1
            · refine iteT' (by simp; omega) ?_
              have n : signD s = false := by
                unfold signD
                rw [decide_eq_false l1]
                rfl
              have q1 : Q (.bl (match numD 200 dx, numD 200 dz with
                | some i, some j => if signD s = true then some (i, s, j) else none
                | _, _ => none).isSome) H := q
              rw [n] at q1
              cases ea : numD 200 dx <;> cases eb : numD 200 dz <;> rw [ea, eb] at q1 <;> exact q1
          | bl b => exact iteT q
          | non => exact iteT q
          | int i => exact iteT q
          | lst e h => exact iteT q
          | tup e h => exact iteT q
      · refine iteT' (by simp; omega) ?_
        have z : ruleD (.tuple ds) = none := by
          match ds, ln with
          | [], _ => rfl
          | [_], _ => rfl
          | [_, dy], _ => cases dy <;> rfl
          | [_, _, _], l => exact absurd l h3
          | _ :: dy :: _ :: _ :: _, _ => cases dy <;> rfl
        rw [z] at q
        exact q
    | bl b => exact iteT q
    | non => exact iteT q
    | int i => exact iteT q
    | str x => exact iteT q
    | lst e h => exact iteT q
end
end K06
/-! The law's own fault of a reader. -/
namespace K06
open PySem L2 L2.EV
section
variable {P : Program} {w : World} {K : PySem.W.Frag} {mg : Str → Option Value} {base : Heap}
theorem scLFault : FnScope ["thing", "rules", "good", "k", "rule", "state"] ["thing"] (defScope sLFault) := ⟨rfl, rfl, rfl, by decide +kernel, rfl, by decide +kernel, by decide +kernel⟩
theorem ok_lfault (L : Lg K mg) : FnOk P w K mg base CX0 3 L.f3 L.d3 ["thing"] spFaultL := by
  have GU : FnOk P w K mg base CX0 2 L.f2 L.d2 ["thing"] spRule := ok_lrule L
  have GI : FnOk P w K mg base CX0 1 L.f1 L.d1 ["thing", "least", "most"] spIsW := ok_isW L
  have T := L.T
  refine L.F.ok scLFault (fun vs H Q E h => ?_) (fun cdv A outer s H vs Q E hr h => ?_)
  · obtain ⟨v, d, rfl, _⟩ := h
    rfl
  · obtain ⟨v, d, rfl, da, sz, q⟩ := h
    have r1 := hr.mono (j := 1) (by omega)
    have hu := hu_of hr
    have hu0 : (A.deeper (PyProof.Rows.envOfC "_law_fault" (defScope sLFault) s.heap.objs.size L.f3 cdv)).units < cLine := by omega
    refine ⟨_, pss_cons (ps_if (pw_or (pt_not (pt_val (pe_callB call_isi (by rfl) T.isi PyProof.Rows.boot_isinstance (pa_cons (pv 0) (pa_cons (pe_bltn (v := .ty "tuple") (by rfl) T.tuple (by decide +kernel) rfl) pa_nil)))))
        (pw_or1 (pt_cmpR op_ne (pe_callB call_len_seq (by rfl) T.len PySem.boot_len (pa_cons (pv 0) pa_nil)) pe_int (nomark _)))).pt
        (pss_one (ps_ret (pe_tup (pa_cons pe_str (pa_cons pe_non pa_nil))))) pss_nil)
      (pss_cons (ps_asg (pv 0) (pg_tup rfl (pgs_cons (pg_name (i := 1) scLFault.nd rfl (Or.inl rfl)) (pgs_cons (pg_name (i := 2) scLFault.nd rfl (Or.inl rfl)) pgs_nil))))
      (pss_cons (ps_if (pw_or (pt_not (pt_val (pe_callB call_isi (by rfl) T.isi PyProof.Rows.boot_isinstance (pa_cons (pv 1) (pa_cons (pe_bltn (v := .ty "tuple") (by rfl) T.tuple (by decide +kernel) rfl) pa_nil)))))
        (pw_or1 (pt_not (pt_val (pe_callB call_isi (by rfl) T.isi PyProof.Rows.boot_isinstance (pa_cons (pv 2) (pa_cons (pe_bltn (v := .ty "tuple") (by rfl) T.tuple (by decide +kernel) rfl) pa_nil))))))).pt
        (pss_one (ps_ret (pe_tup (pa_cons pe_str (pa_cons pe_non pa_nil))))) pss_nil)
      (pss_cons (ps_for PassesOwn.never rfl (pi_enumT (by rfl) L.en (pa_cons (pv 1) pa_nil)) (pg_tup rfl (pgs_cons (pg_name (i := 3) scLFault.nd rfl (Or.inl rfl)) (pgs_cons (pg_name (i := 4) scLFault.nd rfl (Or.inl rfl)) pgs_nil)))
        (pss_one (ps_if (pw_or (pt_not (pt_val (pe_call GU hr (by rfl) L.gU L.U.kp L.bU .nil pass0 (pa_cons (pv 4) pa_nil))))
          (pw_or1 (pw_and (pt_cmpR op_gt (pv 3) pe_int (nomark _)) (pw_and1 (pt_not (pt_cmpR (op_ltIS hu0) (pe_slice sl_tupS (pe_ix ix_tup (pv 1) (pe_op op_sub (pv 3) pe_int) (fun _ _ => rfl)) po_none (po_some pe_int)) (pe_slice sl_tupS (pv 4) po_none (po_some pe_int)) (nomark _))))).pt)).pt
          (pss_one (ps_ret (pe_tup (pa_cons pe_str (pa_cons (pv 3) pa_nil))))) pss_nil)))
      (pss_cons (ps_for PassesOwn.never rfl (pi_enumT (by rfl) L.en (pa_cons (pv 2) pa_nil)) (pg_tup rfl (pgs_cons (pg_name (i := 3) scLFault.nd rfl (Or.inl rfl)) (pgs_cons (pg_name (i := 5) scLFault.nd rfl (Or.inl rfl)) pgs_nil)))
        (pss_one (ps_if (pw_or (pt_not (pt_val (pe_call GI r1 (by rfl) L.gI L.I.kp L.bI .nil pass0 (pa_cons (pv 5) (pa_cons pe_int (pa_cons pe_int pa_nil))))))
          (pw_or1 (pw_and (pt_cmpR op_gt (pv 3) pe_int (nomark _)) (pw_and1 (pt_not (pt_cmpR op_lt (pe_ix ix_tup (pv 2) (pe_op op_sub (pv 3) pe_int) (fun _ _ => rfl)) (pv 5) (nomark _))))).pt)).pt
          (pss_one (ps_ret (pe_tup (pa_cons pe_str (pa_cons (pv 3) pa_nil))))) pss_nil)))
      (pss_one (ps_ret pe_non)))))), ?_⟩
    obtain ⟨t, ty, kt, _, _⟩ := da.ty (K := K)
    refine ⟨_, rfl, v, .ty "tuple", t, .type "tuple", isTup d, rfl, .ty "tuple", ty, kt, isTup d, rfl, ?_⟩
    have fin : ∀ {H1 : Hp} {p : Str} {n : Option Nat} (s1 : Same H H1) (qe : ∀ H' p', Same H H' → H' p' = some (.tup [.str p, wv n]) → Q (.ref p') H') (a : Addr), H1 a = none → Q (.ref a) (upd H1 a (.tup [.str p, wv n])) := fun s1 qe a na => qe _ a (s1.trans (same_upd na)) upd_same
    have form : ffD d = some ((("form" : Str), (none : Option Nat))) → (∀ H' p, Same H H' → H' p = some (.tup [.str "form", wv none]) → Q (.ref p) H') := fun e => by
      rw [e] at q
      exact q
    cases da with
    | non => exact iteT ⟨(by decide), fun a na => fin (n := none) (Same.refl H) (form rfl) a na⟩
    | bl b => exact iteT ⟨(by decide), fun a na => fin (n := none) (Same.refl H) (form rfl) a na⟩
    | int b => exact iteT ⟨(by decide), fun a na => fin (n := none) (Same.refl H) (form rfl) a na⟩
    | str b => exact iteT ⟨(by decide), fun a na => fin (n := none) (Same.refl H) (form rfl) a na⟩
    | lst e h => exact iteT ⟨(by decide), fun a na => fin (n := none) (Same.refl H) (form rfl) a na⟩
    | @tup th xs ds e all =>
      refine iteF ?_
      refine ⟨_, rfl, th, _, rfl, .inr (SqT.of e), rfl, _, rfl, ?_⟩
      have ln := all.len
      by_cases h2 : xs.length = 2
      · refine iteF' (by simp [h2]) ?_
        match xs, ds, all, h2 with
        | [x, y], [dx, dy], .cons h1 (.cons h3 .nil), _ =>
          refine ⟨_, rfl, th, _, rfl, SqT.of e, rfl, _, _, rfl, _, _, rfl, rfl, ?_⟩
          obtain ⟨t1, ty1, kt1, _, _⟩ := h1.ty (K := K)
          refine ⟨_, rfl, x, .ty "tuple", t1, .type "tuple", isTup dx, rfl, .ty "tuple", ty1, kt1, isTup dx, rfl, ?_⟩
          by_cases c1 : isTup dx = true
          · rw [c1]
            refine iteF ?_
            obtain ⟨t2, ty2, kt2, _, _⟩ := h3.ty (K := K)
            refine ⟨_, rfl, y, .ty "tuple", t2, .type "tuple", isTup dy, rfl, .ty "tuple", ty2, kt2, isTup dy, rfl, ?_⟩
            by_cases c2 : isTup dy = true
            · rw [c2]
              refine iteF ?_
              obtain ⟨ra, rv, rs, rfl, rfl, re, rall⟩ := tup_of h1 c1
              · obtain ⟨ga, gv, gs, rfl, rfl, ge, gall⟩ := tup_of h3 c2
                · have q : match (match badR rs none 0 with
                    | some k => some ((("rules" : Str), some k))
                    | none => match badG gs none 0 with
                      | some k => some ((("good" : Str), some k))
                      | none => none) with
                    | none => ∀ H', Same H H' → Q .non H'
                    | some r => ∀ H' p, Same H H' → H' p = some (.tup [.str r.1, wv r.2]) → Q (.ref p) H' := q
                  have szr : ∀ r ∈ rs, szS r := sz rs _ rfl
                  refine ⟨_, rfl, ra, _, rfl, SqT.of re, for_it (walk_enumT (xs := rv)) (fun i σ H' => ∃ (v3 v4 : Option V) (last : Option IS), σ = [some (.ref th), some (.ref ra), some (.ref ga), v3, v4, none] ∧ Same H H' ∧
                      badR rs none 0 = badR (rs.drop i) last i ∧ (i = 0 → last = none) ∧ ∀ j, i = j + 1 → ∃ d t, rs[j]? = some d ∧ ruleD d = some t ∧ last = some (t.1, t.2.1))
                    ⟨none, none, none, rfl, Same.refl H, rfl, fun _ => rfl, fun j hj => by omega⟩ (fun i σ H' _ ⟨_, _, _, _, z, _⟩ => SqT.of (z _ _ re)) ?_ ?_⟩
                  · rintro i x σ H1 H2 hi ⟨v3, v4, last, rfl, s1, inv, l0, l1⟩ ⟨T, xi, xo, rfl, nT, rfl, g1, g2⟩
                    cases g1
                    obtain ⟨d, hd, dv⟩ := rall.at_ g2
                    rw [drop_at hd] at inv
                    have s2 := s1.trans (same_upd (o := HO.tup [V.int (i : Nat), xo]) nT)
                    have dv2 := Da.same s2 _ _ dv
                    refine ⟨T, _, rfl, SqT.of upd_same, rfl, _, _, rfl, _, _, rfl, rfl, ?_⟩
                    refine ⟨_, rfl, xo, d, rfl, dv2, szr d (List.mem_of_getElem? hd), _, rfl, ?_⟩
                    cases ed : ruleD d with
                    | none =>
                      rw [badR_none ed] at inv
                      rw [inv] at q
                      exact iteT ⟨_, rfl, (by show 2 ≤ sizeLine; decide), fun a na => fin (n := some i) s2 q a na⟩
                    | some t =>
                      rw [badR_some ed] at inv
                      refine iteF ?_
                      have goOn : lbR last t = false → ∃ (v3' v4' : Option V) (last' : Option IS), [some (V.ref th), some (V.ref ra), some (V.ref ga), some (V.int (i : Nat)), some xo, none] = [some (.ref th), some (.ref ra), some (.ref ga), v3', v4', none] ∧
                          badR rs none 0 = badR (rs.drop (i + 1)) last' (i + 1) ∧ (i + 1 = 0 → last' = none) ∧ ∀ j, i + 1 = j + 1 → ∃ d t, rs[j]? = some d ∧ ruleD d = some t ∧ last' = some (t.1, t.2.1) := fun z => by
                        rw [z, if_neg (by simp)] at inv
                        exact ⟨_, _, _, rfl, inv, fun h => by omega, fun j h => by
                          obtain rfl : i = j := by omega
                          exact ⟨d, t, hd, ed, rfl⟩⟩
                      refine ⟨_, rfl, (i : Int), 0, rfl, rfl, _, rfl, ?_⟩
                      refine ite2 (fun z => ?_) (fun z => ?_)
                      · have z1 : (0 : Int) < i := of_decide_eq_true z
                        obtain ⟨j, rfl⟩ : ∃ j, i = j + 1 := ⟨i - 1, by omega⟩
                        obtain ⟨dp, tp, hp1, hp2, rfl⟩ := l1 j rfl
                        obtain ⟨vp, hvp, dvp⟩ := rall.at' hp1
                        have dvp2 := Da.same s2 _ _ dvp
                        obtain ⟨a1, rfl, ha1⟩ := rule_at dv2 ed
                        obtain ⟨a2, rfl, ha2⟩ := rule_at dvp2 hp2
                        refine ⟨_, rfl, _, rfl, _, _, rfl, rfl, ra, _, (j : Int), .ref a2, rfl, ?_, SqT.of (s2 _ _ re), atI_nat hvp, _, rfl, a2, _, rfl, ha2, fun pa Ha sa ea => ?_⟩
                        · show V.int (((j + 1 : Nat) : Int) - 1) = V.int (j : Int)
                          congr 1
                          omega
                        refine ⟨_, rfl, _, rfl, a1, _, rfl, sa _ _ ha1, fun pb Hb sb eb => ?_⟩
                        rw [show (2 : Int) = ((2 : Nat) : Int) from rfl, cutTo] at ea eb
                        refine ⟨pa, pb, (tp.1, tp.2.1), (t.1, t.2.1), rfl, rfl, sb _ _ ea, eb, _, rfl, ?_⟩
                        have s3 := (s2.trans sa).trans sb
                        have eL : lbR (some (tp.1, tp.2.1)) t = !ltIS (tp.1, tp.2.1) (t.1, t.2.1) := rfl
                        cases eb2 : ltIS (tp.1, tp.2.1) (t.1, t.2.1) with
                        | true =>
                          obtain ⟨w1, w2, w3, w4, w5⟩ := goOn (by rw [eL, eb2]; rfl)
                          exact iteF ⟨w1, w2, w3, w4, s3, w5⟩
                        | false =>
                          rw [eL, eb2, if_pos (show (!false) = true from rfl)] at inv
                          rw [inv] at q
                          exact iteT ⟨_, rfl, (by show 2 ≤ sizeLine; decide), fun a na => fin (n := some (j + 1)) s3 q a na⟩
                      · have i0 : i = 0 := by
                          have : ¬ (0 : Int) < i := fun k => z (decide_eq_true k)
                          omega
                        have l9 := l0 i0
                        subst l9
                        obtain ⟨w1, w2, w3, w4, w5⟩ := goOn rfl
                        exact iteF ⟨w1, w2, w3, w4, s2, w5⟩
                  · rintro σ H1 ⟨v3, v4, last, rfl, s1, inv, _, _⟩
                    rw [rall.len, List.drop_length] at inv
                    have inv : badR rs none 0 = none := inv
                    rw [inv] at q
                    have q : match (match badG gs none 0 with
                        | some k => some ((("good" : Str), some k))
                        | none => none) with
                      | none => ∀ H', Same H H' → Q .non H'
                      | some r => ∀ H' p, Same H H' → H' p = some (.tup [.str r.1, wv r.2]) → Q (.ref p) H' := q
                    refine ⟨_, rfl, ga, _, rfl, SqT.of (s1 _ _ ge), for_it (walk_enumT (xs := gv)) (fun i σ H' => ∃ (v3 v5 : Option V) (last : Option Int), σ = [some (.ref th), some (.ref ra), some (.ref ga), v3, v4, v5] ∧ Same H H' ∧
                        badG gs none 0 = badG (gs.drop i) last i ∧ (i = 0 → last = none) ∧ ∀ j, i = j + 1 → ∃ d t, gs[j]? = some d ∧ numD 200 d = some t ∧ last = some t)
                      ⟨v3, none, none, rfl, s1, rfl, fun _ => rfl, fun j hj => by omega⟩ (fun i σ H' _ ⟨_, _, _, _, z, _⟩ => SqT.of (z _ _ ge)) ?_ ?_⟩
                    · rintro i x σ H1 H2 hi ⟨v3, v5, last, rfl, s1, inv, l0, l1⟩ ⟨T, xi, xo, rfl, nT, rfl, g1, g2⟩
                      cases g1
                      obtain ⟨d, hd, dv⟩ := gall.at_ g2
                      rw [drop_at hd] at inv
                      have s2 := s1.trans (same_upd (o := HO.tup [V.int (i : Nat), xo]) nT)
                      have dv2 := Da.same s2 _ _ dv
                      refine ⟨T, _, rfl, SqT.of upd_same, rfl, _, _, rfl, _, _, rfl, rfl, ?_⟩
                      refine ⟨_, rfl, xo, d, 199, rfl, dv2, _, rfl, ?_⟩
                      show if (!(numD 200 d).isSome) = true then _ else _
                      cases ed : numD 200 d with
                      | none =>
                        rw [badG_none ed] at inv
                        rw [inv] at q
                        exact iteT ⟨_, rfl, (by show 2 ≤ sizeLine; decide), fun a na => fin (n := some i) s2 q a na⟩
                      | some t =>
                        rw [badG_some ed] at inv
                        refine iteF ?_
                        have goOn : lbG last t = false → ∃ (v3' v5' : Option V) (last' : Option Int), [some (V.ref th), some (V.ref ra), some (V.ref ga), some (V.int (i : Nat)), v4, some xo] = [some (.ref th), some (.ref ra), some (.ref ga), v3', v4, v5'] ∧
                            badG gs none 0 = badG (gs.drop (i + 1)) last' (i + 1) ∧ (i + 1 = 0 → last' = none) ∧ ∀ j, i + 1 = j + 1 → ∃ d t, gs[j]? = some d ∧ numD 200 d = some t ∧ last' = some t := fun z => by
                          rw [z, if_neg (by simp)] at inv
                          exact ⟨_, _, _, rfl, inv, fun h => by omega, fun j h => by
                            obtain rfl : i = j := by omega
                            exact ⟨d, t, hd, ed, rfl⟩⟩
                        refine ⟨_, rfl, (i : Int), 0, rfl, rfl, _, rfl, ?_⟩
                        refine ite2 (fun z => ?_) (fun z => ?_)
                        · have z1 : (0 : Int) < i := of_decide_eq_true z
                          obtain ⟨j, rfl⟩ : ∃ j, i = j + 1 := ⟨i - 1, by omega⟩
                          obtain ⟨dp, tp, hp1, hp2, rfl⟩ := l1 j rfl
                          obtain ⟨vp, hvp, dvp⟩ := gall.at' hp1
                          obtain ⟨rfl, _⟩ := numD_some ed
                          obtain ⟨rfl, _⟩ := numD_some hp2
                          cases dv2
                          cases dvp
                          refine ⟨_, rfl, _, rfl, _, _, rfl, rfl, ga, _, (j : Int), .int tp, rfl, ?_, SqT.of (s2 _ _ ge), atI_nat hvp, _, rfl, tp, t, rfl, rfl, _, rfl, ?_⟩
                          · show V.int (((j + 1 : Nat) : Int) - 1) = V.int (j : Int)
                            congr 1
                            omega
                          have eL : lbG (some tp) t = decide (t ≤ tp) := rfl
                          by_cases c : t ≤ tp
                          · rw [eL, decide_eq_true c, if_pos rfl] at inv
                            rw [inv] at q
                            exact iteT' (by rw [decide_eq_false (by omega)]; rfl) ⟨_, rfl, (by show 2 ≤ sizeLine; decide), fun a na => fin (n := some (j + 1)) s2 q a na⟩
                          · obtain ⟨w1, w2, w3, w4, w5⟩ := goOn (by rw [eL, decide_eq_false c])
                            exact iteF' (by rw [decide_eq_true (by omega)]; rfl) ⟨w1, w2, w3, w4, s2, w5⟩
                        · have i0 : i = 0 := by
                            have : ¬ (0 : Int) < i := fun k => z (decide_eq_true k)
                            omega
                          have l9 := l0 i0
                          subst l9
                          obtain ⟨w1, w2, w3, w4, w5⟩ := goOn rfl
                          exact iteF ⟨w1, w2, w3, w4, s2, w5⟩
                    · rintro σ H1 ⟨v3, v5, last, rfl, s1, inv, _, _⟩
                      rw [gall.len, List.drop_length] at inv
                      have inv : badG gs none 0 = none := inv
                      rw [inv] at q
                      exact q _ s1
            · have c2' : isTup dy = false := by simpa using c2
              rw [c2']
              exact iteT ⟨(by decide), fun a na => fin (n := none) (Same.refl H) (form (ff_tup (.inr c2'))) a na⟩
          · have c1' : isTup dx = false := by simpa using c1
            rw [c1']
            exact iteT ⟨(by decide), fun a na => fin (n := none) (Same.refl H) (form (ff_tup (.inl c1'))) a na⟩
      · refine iteT' (by simp; omega) ?_
        exact ⟨(by decide), fun a na => fin (n := none) (Same.refl H) (form (ff_len (by omega))) a na⟩
end
end K06
/-! What draws leave; a drawn reader. -/
namespace K06
open PySem L2 L2.EV
/-- the draws have gone on from H0, where they were at k0 with the list l0: all other things are as they were -/
structure Dr (H0 H : Hp) (m c l0 l : Addr) (k : Int) : Prop where
  at_ : MAt H m c l k
  hl : l = l0 ∨ H0 l = none
  kp : ∀ b o, H0 b = some o → b ≠ m → b ≠ l0 → H b = some o
theorem Dr.refl {H : Hp} {m c l : Addr} {k : Int} (M : MAt H m c l k) : Dr H H m c l l k := ⟨M, .inl rfl, fun b o e _ _ => e⟩
theorem Dr.same {H0 H H' : Hp} {m c l0 l : Addr} {k : Int} (d : Dr H0 H m c l0 l k) (s : Same H H') : Dr H0 H' m c l0 l k :=
  ⟨d.at_.same s, d.hl, fun b o e h1 h2 => s _ _ (d.kp b o e h1 h2)⟩
/-- one part behind another -/
theorem Dr.trans {H0 H H' : Hp} {m c l0 l l' : Addr} {k k' : Int} (d : Dr H0 H m c l0 l k) (e : Dr H H' m c l l' k') : Dr H0 H' m c l0 l' k' := by
  refine ⟨e.at_, ?_, fun b o e1 h1 h2 => e.kp b o (d.kp b o e1 h1 h2) h1 ?_⟩
  · rcases e.hl with h | h
    · rw [h]
      exact d.hl
    · by_cases z : l' = l0
      · exact .inl z
      · refine .inr ?_
        cases q : H0 l' with
        | none => rfl
        | some o =>
          have ne : l' ≠ m := (ne_of_none d.at_.hm h).symm
          rw [d.kp l' o q ne z] at h
          cases h
  · rcases d.hl with hl | hl
    · rw [hl]
      exact h2
    · exact ne_of_none e1 hl
/-- a thing of another kind than the draws' own stays -/
theorem Dr.tup {H0 H : Hp} {m c l0 l : Addr} {k k0 : Int} {a : Addr} {xs : List V} (d : Dr H0 H m c l0 l k) (M : MAt H0 m c l0 k0) (e : H0 a = some (.tup xs)) : H a = some (.tup xs) := by
  obtain ⟨ls, hl, _⟩ := M.hl
  exact d.kp a _ e (ne_of e M.hm (fun z => by cases z)) (ne_of e hl (fun z => by cases z))
theorem Dr.fr {H0 H : Hp} {m c l0 l : Addr} {k k0 : Int} {f : Addr} {fr : List T3} (d : Dr H0 H m c l0 l k) (M : MAt H0 m c l0 k0) (h : FrA H0 f fr) : FrA H f fr := by
  obtain ⟨ts, e, l, cc⟩ := h
  exact ⟨ts, d.tup M e, l, fun i t x h1 h2 => d.tup M (cc i t x h1 h2)⟩
/-- another list stays, and is none of the draws' own -/
theorem Dr.lst {H H' : Hp} {m c l l' : Addr} {k k0 : Int} {a : Addr} {xs : List V} (d : Dr H H' m c l l' k) (M : MAt H m c l k0) (e : H a = some (.lst xs)) (ne : a ≠ l) : H' a = some (.lst xs) ∧ a ≠ l' := by
  refine ⟨d.kp a _ e (ne_of e M.hm (fun z => by cases z)) ne, ?_⟩
  rcases d.hl with z | z
  · rw [z]
    exact ne
  · exact ne_of_none e z
/-- a draw, as spNext wants it -/
theorem dr_next {H : Hp} {m c l : Addr} {k n : Int} {Q : VK} {E : XK} (M : MAt H m c l k) (hn : 0 < n) (hn1 : n < 1000000) (hk : k < 900000)
    (q : ∀ (r : Int) (H' : Hp) (l' : Addr) (k' : Int), 0 ≤ r → r < n → k' ≤ k + 1 → Dr H H' m c l l' k' → Q (.int r) H') : spNext [.ref m, .int n] H Q E :=
  ⟨m, c, l, k, n, rfl, M, hn, hn1, by omega, fun r H' l' k' r0 r1 kk M' fl kp => q r H' l' k' r0 r1 kk ⟨M', fl, kp⟩⟩
theorem MAt.l_some {H : Hp} {m c l : Addr} {k : Int} (M : MAt H m c l k) {a : Addr} (h : H a = none) : a ≠ l := by
  obtain ⟨ls, hl, _⟩ := M.hl
  exact (ne_of_none hl h).symm
theorem MAt.upd {H : Hp} {m c l D : Addr} {k : Int} {o : HO} (M : MAt H m c l k) (hm : D ≠ m) (hc : D ≠ c) (hl : D ≠ l) : MAt (L2.upd H D o) m c l k := by
  obtain ⟨h1, ⟨cs, h2, h3⟩, ⟨ls0, h4, h5⟩, h6, h7, h8⟩ := M
  exact ⟨by rw [upd_ne hm.symm]; exact h1, ⟨cs, by rw [upd_ne hc.symm]; exact h2, h3⟩, ⟨ls0, by rw [upd_ne hl.symm]; exact h4, h5⟩, h6, h7, h8⟩
theorem MAt.c_some {H : Hp} {m c l : Addr} {k : Int} (M : MAt H m c l k) {a : Addr} (h : H a = none) : a ≠ c := by
  obtain ⟨ls, hl, _⟩ := M.hc
  exact (ne_of_none hl h).symm
def d3 (x : T3) : PyData := .tuple [.int x.1, .str x.2.1, .int x.2.2]
def At3 (H : Hp) (ts : List Addr) (xs : List T3) : Prop := ts.length = xs.length ∧ ∀ (i : Nat) t x, ts[i]? = some t → xs[i]? = some x → S3 H t x
theorem dp3 {K : PySem.W.Frag} {H : Hp} {t : Addr} {x : T3} (h : S3 H t x) : Dp K H (.ref t) (d3 x) := .tup (SqT.of h) (.cons (.int _) (.cons (.str _) (.cons (.int _) .nil)))
theorem dp3s {K : PySem.W.Frag} {H : Hp} : ∀ {ts : List Addr} {xs : List T3}, At3 H ts xs → DpAll K H (ts.map V.ref) (xs.map d3)
  | [], [], _ => .nil
  | [], _ :: _, h => by cases h.1
  | _ :: _, [], h => by cases h.1
  | t :: ts, x :: xs, h => .cons (dp3 (h.2 0 t x rfl rfl)) (dp3s ⟨by have := h.1; simpa using this, fun i t x h1 h2 => h.2 (i + 1) t x (by simpa using h1) (by simpa using h2)⟩)
theorem At3.same {H H' : Hp} {ts : List Addr} {xs : List T3} (h : At3 H ts xs) (s : KeepT H H') : At3 H' ts xs := ⟨h.1, fun i t x h1 h2 => s _ _ (h.2 i t x h1 h2)⟩
theorem At3.snoc {H : Hp} {ts : List Addr} {xs : List T3} {t : Addr} {x : T3} (h : At3 H ts xs) (hx : S3 H t x) : At3 H (ts ++ [t]) (xs ++ [x]) := by
  refine ⟨by rw [List.length_append, List.length_append, h.1]; rfl, fun i u y h1 h2 => ?_⟩
  by_cases e : i < ts.length
  · rw [List.getElem?_append_left e] at h1
    rw [List.getElem?_append_left (by rw [← h.1]; exact e)] at h2
    exact h.2 i u y h1 h2
  · have i1 := (List.getElem?_eq_some_iff.mp h1).1
    rw [List.length_append] at i1
    have e2 : i = ts.length := by simp only [List.length_cons, List.length_nil] at i1; omega
    subst e2
    rw [List.getElem?_append_right (Nat.le_refl _), Nat.sub_self] at h1
    rw [h.1, List.getElem?_append_right (Nat.le_refl _), Nat.sub_self] at h2
    have e3 : t = u := Option.some.inj h1
    have e4 : x = y := Option.some.inj h2
    rw [← e3, ← e4]
    exact hx
theorem At3.take {H : Hp} {ts : List Addr} {xs : List T3} (h : At3 H ts xs) (n : Nat) : At3 H (ts.take n) (xs.take n) := by
  refine ⟨by rw [List.length_take, List.length_take, h.1], fun i t x h1 h2 => ?_⟩
  rw [List.getElem?_take] at h1 h2
  by_cases e : i < n
  · rw [if_pos e] at h1 h2
    exact h.2 i t x h1 h2
  · rw [if_neg e] at h1
    cases h1
theorem Dr.keepT {H0 H : Hp} {m c l0 l : Addr} {k k0 : Int} (d : Dr H0 H m c l0 l k) (M : MAt H0 m c l0 k0) : KeepT H0 H := fun a xs e => d.tup M e
theorem MAt.new {H : Hp} {m c l p : Addr} {k : Int} (M : MAt H m c l k) (hp : H p = none) : p ≠ m ∧ p ≠ l := ⟨(ne_of_none M.hm hp).symm, M.l_some hp⟩
/-- the heap without what the draws change -/
def rt (H : Hp) (m l : Addr) : Hp := fun b => if b = m ∨ b = l then none else H b
theorem rt_mk {H : Hp} {m l b : Addr} {o : HO} (e : H b = some o) (h1 : b ≠ m) (h2 : b ≠ l) : rt H m l b = some o := by
  unfold rt
  rw [if_neg (by intro z; rcases z with z | z; exact h1 z; exact h2 z)]
  exact e
theorem rt_some {H : Hp} {m l b : Addr} {o : HO} (e : rt H m l b = some o) : H b = some o ∧ b ≠ m ∧ b ≠ l := by
  unfold rt at e
  by_cases h : b = m ∨ b = l
  · rw [if_pos h] at e
    cases e
  · rw [if_neg h] at e
    exact ⟨e, fun z => h (.inl z), fun z => h (.inr z)⟩
theorem rt_sub {H : Hp} {m l : Addr} : Same (rt H m l) H := fun b o e => (rt_some e).1
theorem rt_same {H H' : Hp} {m l : Addr} (s : Same H H') : Same (rt H m l) (rt H' m l) := fun b o e => by
  obtain ⟨h, h1, h2⟩ := rt_some e
  exact rt_mk (s _ _ h) h1 h2
theorem rt_dr {H H' : Hp} {m c l l' : Addr} {k : Int} (d : Dr H H' m c l l' k) : Same (rt H m l) (rt H' m l') := fun b o e => by
  obtain ⟨h, h1, h2⟩ := rt_some e
  refine rt_mk (d.kp _ _ h h1 h2) h1 ?_
  rcases d.hl with z | z
  · rw [z]
    exact h2
  · exact ne_of_none h z
theorem MAt.rtt {H' : Hp} {m c l p : Addr} {k : Int} {xs : List V} (M : MAt H' m c l k) (hp : H' p = some (.tup xs)) : rt H' m l p = some (.tup xs) := by
  obtain ⟨ls, hl, _⟩ := M.hl
  exact rt_mk hp (ne_of hp M.hm (fun z => by cases z)) (ne_of hp hl (fun z => by cases z))
/-- what was laid is none of the draws' own -/
theorem MAt.rtn {H H' : Hp} {m c l p : Addr} {k : Int} {o : HO} (M : MAt H m c l k) (hp : H p = none) (e : H' p = some o) : rt H' m l p = some o := rt_mk e (M.new hp).1 (M.new hp).2
/-- the rules found so far -/
structure FR (H H' : Hp) (m c l F : Addr) (kb : Int) (xs : List T3) : Prop where
  ex : ∃ (ts : List Addr) (l' : Addr) (k' : Int), H' F = some (.lst (ts.map V.ref)) ∧ At3 H' ts xs ∧ F ≠ l' ∧ F ≠ m ∧ F ≠ c ∧ k' ≤ kb ∧ Dr H H' m c l l' k'
  hF : ∀ b o, H b = some o → b ≠ m → b ≠ l → b ≠ F
theorem FR.push {H H1 H2 H3 : Hp} {m c l F l1 l2 t : Addr} {k1 k2 kb : Int} {xs : List T3} {ts : List Addr} {x : T3} (hF : H1 F = some (.lst (ts.map V.ref))) (ha : At3 H1 ts xs) (n1 : F ≠ l1) (n2 : F ≠ m) (n3 : F ≠ c) (d1 : Dr H H1 m c l l1 k1)
    (d2 : Dr H1 H2 m c l1 l2 k2) (ht : H2 t = none) (e3 : H3 = upd (upd H2 t (.tup [.int x.1, .str x.2.1, .int x.2.2])) F (.lst (ts.map V.ref ++ [.ref t]))) (hk : k2 ≤ kb)
    (hF0 : ∀ b o, H b = some o → b ≠ m → b ≠ l → b ≠ F) : FR H H3 m c l F kb (xs ++ [x]) := by
  obtain ⟨hF2, n4⟩ := d2.lst d1.at_ hF n1
  have u := same_upd (o := HO.tup [.int x.1, .str x.2.1, .int x.2.2]) ht
  have hF2' := u _ _ hF2
  have kt := keepT_upd (o := .lst (ts.map V.ref ++ [.ref t])) hF2' (fun xs z => by cases z)
  have D2 := (d1.trans d2).same u
  subst e3
  refine ⟨⟨ts ++ [t], l2, k2, by rw [List.map_append]; exact upd_same, ?_, n4, n2, n3, hk, ⟨D2.at_.upd n2 n3 n4, D2.hl, fun b o z h1 h2 => ?_⟩⟩, hF0⟩
  · refine At3.snoc (ha.same ?_) (kt _ _ upd_same)
    exact ((d2.keepT d1.at_).trans (Same.keepT u)).trans kt
  · rw [upd_ne (hF0 b o z h1 h2)]
    exact D2.kp b o z h1 h2
/-- a draw only -/
theorem FR.draw {H H1 H2 : Hp} {m c l F l1 l2 : Addr} {k1 k2 kb : Int} {xs : List T3} {ts : List Addr} (hF : H1 F = some (.lst (ts.map V.ref))) (ha : At3 H1 ts xs) (n1 : F ≠ l1) (n2 : F ≠ m) (n3 : F ≠ c) (d1 : Dr H H1 m c l l1 k1)
    (d2 : Dr H1 H2 m c l1 l2 k2) (hk : k2 ≤ kb) (hF0 : ∀ b o, H b = some o → b ≠ m → b ≠ l → b ≠ F) : FR H H2 m c l F kb xs := by
  obtain ⟨hF2, n4⟩ := d2.lst d1.at_ hF n1
  exact ⟨⟨ts, l2, k2, hF2, ha.same (d2.keepT d1.at_), n4, n2, n3, hk, d1.trans d2⟩, hF0⟩
/-- the drawn signs -/
def sgn : Nat → Str
  | 0 => ⟨#[64]⟩
  | 1 => ⟨#[97]⟩
  | _ => ⟨#[98]⟩
theorem sgn_at {j c : Nat} (h : ("@ab" : Str).cps.toList[j]? = some c) : j < 3 ∧ (⟨#[c]⟩ : Str) = sgn j := by
  have e : ("@ab" : Str).cps.toList = [64, 97, 98] := by decide +kernel
  rw [e] at h
  match j, h with
  | 0, h => cases h; exact ⟨by decide, rfl⟩
  | 1, h => cases h; exact ⟨by decide, rfl⟩
  | 2, h => cases h; exact ⟨by decide, rfl⟩
theorem sgn_lt {r j : Nat} (h : r < j) (hj : j < 3) : sl (sgn r) < sl (sgn j) := by
  have : (r = 0 ∧ j = 1) ∨ (r = 0 ∧ j = 2) ∨ (r = 1 ∧ j = 2) := by omega
  rcases this with ⟨rfl, rfl⟩ | ⟨rfl, rfl⟩ | ⟨rfl, rfl⟩ <;> decide +kernel
theorem sgn_ok {r : Nat} (h : r < 3) : signD (sgn r) = true ∧ (sgn r).length = 1 ∧ PyData.strOk (sgn r) = true := by
  match r, h with
  | 0, _ => exact ⟨by decide +kernel, rfl, by decide +kernel⟩
  | 1, _ => exact ⟨by decide +kernel, rfl, by decide +kernel⟩
  | 2, _ => exact ⟨by decide +kernel, rfl, by decide +kernel⟩
def key (x : T3) : IS := (x.1, x.2.1)
/-- rules of states before i, and of i with signs before j -/
structure KP (n : Nat) (xs : List T3) (i j : Nat) : Prop where
  at_ : ∀ x ∈ xs, 0 ≤ x.2.2 ∧ x.2.2 < n ∧ ∃ q r : Nat, x.1 = (q : Int) ∧ q < n ∧ r < 3 ∧ x.2.1 = sgn r ∧ (q < i ∨ (q = i ∧ r < j))
  srt : xs.Pairwise fun a b => ltIS (key a) (key b) = true
  len : xs.length ≤ 3 * i + j
theorem KP.nil (n : Nat) : KP n [] 0 0 := ⟨(fun x h => by cases h), List.Pairwise.nil, by simp⟩
theorem KP.next {n : Nat} {xs : List T3} {i j : Nat} (h : KP n xs i j) : KP n xs i (j + 1) := ⟨fun x hx => by
  obtain ⟨h1, h2, q, r, e1, e2, e3, e4, e5⟩ := h.at_ x hx
  exact ⟨h1, h2, q, r, e1, e2, e3, e4, by omega⟩, h.srt, by have := h.len; omega⟩
theorem KP.row {n : Nat} {xs : List T3} {i : Nat} (h : KP n xs i 3) : KP n xs (i + 1) 0 := ⟨fun x hx => by
  obtain ⟨h1, h2, q, r, e1, e2, e3, e4, e5⟩ := h.at_ x hx
  exact ⟨h1, h2, q, r, e1, e2, e3, e4, by omega⟩, h.srt, by have := h.len; omega⟩
theorem KP.push {n : Nat} {xs : List T3} {i j : Nat} {t : Int} (h : KP n xs i j) (hi : i < n) (hj : j < 3) (h0 : 0 ≤ t) (h1 : t < n) : KP n (xs ++ [((i : Int), sgn j, t)]) i (j + 1) := by
  refine ⟨fun x hx => ?_, ?_, by have := h.len; rw [List.length_append]; simp only [List.length_cons, List.length_nil]; omega⟩
  · rcases List.mem_append.mp hx with hx | hx
    · exact h.next.at_ x hx
    · obtain rfl := List.mem_singleton.mp hx
      exact ⟨h0, h1, i, j, rfl, hi, hj, rfl, by omega⟩
  · rw [List.pairwise_append]
    refine ⟨h.srt, List.pairwise_singleton _ _, fun a ha b hb => ?_⟩
    obtain rfl := List.mem_singleton.mp hb
    obtain ⟨_, _, q, r, e1, e2, e3, e4, e5⟩ := h.at_ a ha
    show (if a.1 = (i : Int) then decide (sl a.2.1 < sl (sgn j)) else decide (a.1 < (i : Int))) = true
    rw [e1, e4]
    by_cases c : q = i
    · subst c
      rw [if_pos rfl]
      exact decide_eq_true (sgn_lt (by omega) hj)
    · rw [if_neg (by omega)]
      exact decide_eq_true (by omega)
/-- a right reader of few states -/
def RdD (d : PyData) : Prop := ∃ (n : Nat) (xs : List T3) (gs : List Int), d = .tuple [.tuple (xs.map d3), .tuple (gs.map PyData.int)] ∧ n ≤ 5 ∧ KP n xs n 0 ∧ gs.length ≤ 5 ∧ (∀ g ∈ gs, 0 ≤ g ∧ g < n) ∧ gs.Pairwise (· < ·)
theorem rule_d3 {n : Nat} {xs : List T3} {i j : Nat} (h : KP n xs i j) (hn : n ≤ 5) {x : T3} (hx : x ∈ xs) : ruleD (d3 x) = some x := by
  obtain ⟨h1, h2, q, r, e1, e2, e3, e4, e5⟩ := h.at_ x hx
  show (match numD 200 (.int x.1), numD 200 (.int x.2.2) with
    | some i, some j => if signD x.2.1 = true then some (i, x.2.1, j) else none
    | _, _ => none) = some x
  have a1 : numD 200 (.int x.1) = some x.1 := if_pos ⟨by omega, by omega⟩
  have a2 : numD 200 (.int x.2.2) = some x.2.2 := if_pos ⟨by omega, by omega⟩
  rw [a1, a2, e4]
  show (if signD (sgn r) = true then some (x.1, sgn r, x.2.2) else none) = some x
  rw [if_pos (sgn_ok e3).1, ← e4]
theorem badR_ok : ∀ {xs : List T3} {last : Option IS} {k : Nat}, (∀ x ∈ xs, ruleD (d3 x) = some x) → xs.Pairwise (fun a b => ltIS (key a) (key b) = true) → (∀ p, last = some p → ∀ x ∈ xs, ltIS p (key x) = true) → badR (xs.map d3) last k = none
  | [], _, _, _, _, _ => rfl
  | x :: xs, last, k, h1, h2, h3 => by
    rw [List.map_cons, badR_some (h1 x (List.mem_cons_self ..))]
    obtain ⟨h4, h5⟩ := List.pairwise_cons.mp h2
    have z : lbR last x = false := by
      cases last with
      | none => rfl
      | some p =>
        have := h3 p rfl x (List.mem_cons_self ..)
        show (!ltIS p (x.1, x.2.1)) = false
        rw [show ((x.1, x.2.1) : IS) = key x from rfl, this]
        rfl
    rw [z, if_neg (by simp)]
    exact badR_ok (fun y hy => h1 y (List.mem_cons_of_mem _ hy)) h5 fun p hp y hy => by
      cases hp
      exact h4 y hy
theorem badG_ok : ∀ {gs : List Int} {last : Option Int} {k : Nat}, (∀ x ∈ gs, 0 ≤ x ∧ x < 200) → gs.Pairwise (· < ·) → (∀ p, last = some p → ∀ x ∈ gs, p < x) → badG (gs.map PyData.int) last k = none
  | [], _, _, _, _, _ => rfl
  | x :: xs, last, k, h1, h2, h3 => by
    have hx : numD 200 (.int x) = some x := if_pos (h1 x (List.mem_cons_self ..))
    rw [List.map_cons, badG_some hx]
    obtain ⟨h4, h5⟩ := List.pairwise_cons.mp h2
    have z : lbG last x = false := by
      cases last with
      | none => rfl
      | some p =>
        have := h3 p rfl x (List.mem_cons_self ..)
        exact decide_eq_false (by omega)
    rw [z, if_neg (by simp)]
    exact badG_ok (fun y hy => h1 y (List.mem_cons_of_mem _ hy)) h5 fun p hp y hy => by
      cases hp
      exact h4 y hy
theorem rd_ok {d : PyData} (h : RdD d) : ffD d = none := by
  obtain ⟨n, xs, gs, rfl, hn, kp, _, hg, sg⟩ := h
  show (match badR (xs.map d3) none 0 with
    | some k => some ((("rules" : Str), some k))
    | none => match badG (gs.map PyData.int) none 0 with
      | some k => some ((("good" : Str), some k))
      | none => none) = none
  rw [badR_ok (fun x hx => rule_d3 kp hn hx) kp.srt (fun p h => by cases h), badG_ok (fun x hx => ⟨(hg x hx).1, by have := (hg x hx).2; omega⟩) sg (fun p h => by cases h)]
theorem rd_sz {d : PyData} (h : RdD d) : SzR d := by
  obtain ⟨n, xs, gs, rfl, hn, kp, _⟩ := h
  intro rs g e r hr a x b er
  cases e
  obtain ⟨y, hy, rfl⟩ := List.mem_map.mp hr
  cases er
  obtain ⟨h1, h2, q, r, e1, e2, e3, e4, e5⟩ := kp.at_ y hy
  rw [e4, (sgn_ok e3).2.1]
  decide
end K06
/-! _law_some_reader. -/
namespace K06
open PySem L2 L2.EV
abbrev sSome : Stmt := top 74
structure Ls (K : PySem.W.Frag) (mg : Str → Option Value) where
  f1 : Addr
  d1 : FuncData
  N : Fun K "_law_next" "_law_next" sNext f1 d1
  bN : Binds K d1 ["m", "many"] []
  mN : mg "_law_next" = some (.ref f1)
  T : TxtD mg
  ra : mg "range" = none
  tu : mg "tuple" = none
  f2 : Addr
  d2 : FuncData
  P : Fun K "_law_some_reader" "_law_some_reader" sSome f2 d2
  bP : Binds K d2 ["m", "many"] []
  mP : mg "_law_some_reader" = some (.ref f2)
def spSome : Sp := fun vs H Q _ => ∃ (m c l : Addr) (k : Int) (n : Nat), vs = [.ref m, .int n] ∧ MAt H m c l k ∧ k < 800000 ∧ 1 ≤ n ∧ n ≤ 5 ∧
  ∀ (v : V) (d : PyData) (H' : Hp) (l' : Addr) (k' : Int), Da (rt H' m l') v d → RdD d → k' ≤ k + 40 → Dr H H' m c l l' k' → Q v H'
theorem da_ints {H : Hp} : ∀ gs : List Int, DaAll H (gs.map V.int) (gs.map PyData.int)
  | [] => .nil
  | g :: gs => .cons (.int g) (da_ints gs)
theorem da3s {H : Hp} {m c l : Addr} {k : Int} (M : MAt H m c l k) : ∀ {ts : List Addr} {xs : List T3}, At3 H ts xs → DaAll (rt H m l) (ts.map V.ref) (xs.map d3)
  | [], [], _ => .nil
  | [], _ :: _, h => by cases h.1
  | _ :: _, [], h => by cases h.1
  | t :: ts, x :: xs, h => .cons (.tup (M.rtt (h.2 0 t x rfl rfl)) (.cons (.int _) (.cons (.str _) (.cons (.int _) .nil)))) (da3s M ⟨by have := h.1; simpa using this, fun i t x h1 h2 => h.2 (i + 1) t x (by simpa using h1) (by simpa using h2)⟩)
section
variable {P : Program} {w : World} {K : PySem.W.Frag} {mg : Str → Option Value} {base : Heap}
theorem scSome : FnScope ["m", "many", "rules", "state", "sign"] ["m", "many"] (defScope sSome) := ⟨rfl, rfl, rfl, by decide +kernel, rfl, by decide +kernel, by decide +kernel⟩
theorem ok_some (L : Ls K mg) : FnOk P w K mg base CX0 2 L.f2 L.d2 ["m", "many"] spSome := by
  have GX : FnOk P w K mg base CX0 1 L.f1 L.d1 ["m", "many"] spNext := ok_next L.N L.T
  refine L.P.ok scSome (fun vs H Q E h => ?_) (fun cdv A outer s H vs Q E hr h => ?_)
  · obtain ⟨m, c, l, k, n, rfl, _⟩ := h
    rfl
  · obtain ⟨m, c, l, k, n, rfl, M, hk, n1, n5, q⟩ := h
    refine ⟨_, pss_cons (ps_set (i := 2) scSome.nd rfl (Or.inl rfl) (pe_lst pa_nil))
      (pss_cons (ps_for PassesOwn.never rfl (pi_range1 (by rfl) L.ra (pa_cons (pv 1) pa_nil)) (pg_name (i := 3) scSome.nd rfl (Or.inl rfl))
        (pss_one (ps_for PassesOwn.never rfl (pi_str pe_str) (pg_name (i := 4) scSome.nd rfl (Or.inl rfl))
          (pss_one (ps_if (pt_cmpR op_gt (pe_call GX hr (by rfl) L.mN L.N.kp L.bN .nil pass0 (pa_cons (pv 0) (pa_cons pe_int pa_nil))) pe_int (nomark _))
            (pss_one (ps_expr (pe_bm PySem.F.plainAttrs_list PySem.F.slot_list_append PySem.F.type_list_append mt_append (pv 2) (pa_cons (pe_tup (pa_cons (pv 3) (pa_cons (pv 4) (pa_cons (pe_call GX hr (by rfl) L.mN L.N.kp L.bN .nil pass0 (pa_cons (pv 0) (pa_cons (pv 1) pa_nil))) pa_nil)))) pa_nil)))) pss_nil)))))
      (pss_one (ps_ret (pe_tup (pa_cons (pe_callTy call_tuple_of (by rfl) L.tu (by decide +kernel) (pa_cons (pv 2) pa_nil))
        (pa_cons (pe_callTy call_tuple_of (by rfl) L.tu (by decide +kernel) (pa_cons (pe_lc (own := [("state", 3)]) (g := gName 3) rfl scSome.nd (pi_range1 (by rfl) L.ra (pa_cons (pv 1) pa_nil))
          (blkOk_by (N := ["m", "many", "rules", "state", "sign"]) (sc := defScope sSome) (by decide +kernel))
          (fun _ _ _ _ _ => pg_name (i := 3) scSome.nd rfl (Or.inl rfl)) (fun _ _ _ _ _ => pts_one (pt_cmpR op_eq (pe_call GX hr (by rfl) L.mN L.N.kp L.bN .nil pass0 (pa_cons (pv 0) (pa_cons pe_int pa_nil))) pe_int (by rfl))) (fun _ _ _ _ _ => pv 3)) pa_nil)) pa_nil)))))), ?_⟩
    refine ⟨by decide, fun F hF => ?_⟩
    have u1 := same_upd (o := HO.lst []) hF
    have D0 := (Dr.refl M).same u1
    have fr0 : FR H _ m c l F k [] := ⟨⟨[], l, k, upd_same, ⟨rfl, fun i t x h => by cases h⟩, M.l_some hF, (ne_of_none M.hm hF).symm, M.c_some hF, Int.le_refl _, D0⟩, fun b o z h1 h2 => ne_of_none z hF⟩
    refine ⟨_, rfl, _, rfl, by omega, by omega, for_it walk_range (fun i σ H' => ∃ (v3 v4 : Option V) (xs : List T3), σ = [some (.ref m), some (.int (n : Int)), some (.ref F), v3, v4] ∧
      FR H H' m c l F (k + 6 * i) xs ∧ KP n xs i 0)
      ⟨none, none, [], rfl, by simpa using fr0, KP.nil n⟩ (fun _ _ _ _ _ => trivial) ?_ ?_⟩
    · rintro i x σ H2 H3 hi ⟨v3, v4, xs, rfl, fr, kp⟩ ⟨rfl, rfl⟩
      have hin : i < n := by omega
      refine ⟨_, rfl, for_it walk_str (fun j σ H' => ∃ (v4 : Option V) (xs : List T3), σ = [some (.ref m), some (.int (n : Int)), some (.ref F), some (.int (0 + (i : Int))), v4] ∧ FR H H' m c l F (k + 6 * i + 2 * j) xs ∧ KP n xs i j)
        ⟨v4, xs, rfl, by simpa using fr, kp⟩ (fun _ _ _ _ _ => trivial) ?_ ?_⟩
      · rintro j x σ H4 H5 hj ⟨v4, xs, rfl, fr, kp⟩ ⟨rfl, ch, hc, rfl⟩
        obtain ⟨j3, es⟩ := sgn_at (j := j) (by simpa using hc)
        rw [es]
        obtain ⟨ts, l4, k4, hF4, ha4, n4, nm, nc, kk4, D4⟩ := fr.ex
        refine ⟨_, rfl, m, c, l4, k4, 4, rfl, D4.at_, by decide, by decide, by omega, fun r5 H6 l6 k6 a6 b6 g6 N6 f6 q6 => ?_⟩
        have d6 : Dr _ H6 m c l4 l6 k6 := ⟨N6, f6, q6⟩
        obtain ⟨hF6, n6⟩ := d6.lst D4.at_ hF4 n4
        refine ⟨r5, 0, rfl, rfl, _, rfl, ?_⟩
        refine ite2 (fun z => ?_) (fun z => ?_)
        · refine ⟨_, rfl, .inl ⟨rfl, _, SqL.of hF6⟩, _, rfl, _, rfl, _, rfl, _, rfl, m, c, l6, k6, n, rfl, N6, by omega, by omega, by omega, fun r7 H8 l8 k8 a8 b8 g8 N8 f8 q8 => ?_⟩
          have d8 : Dr H6 H8 m c l6 l8 k8 := ⟨N8, f8, q8⟩
          obtain ⟨hF8, n8⟩ := d8.lst N6 hF6 n6
          refine ⟨(by show 3 ≤ sizeLine; decide), fun tp htp => ?_⟩
          refine ⟨F, ts.map V.ref, _, rfl, rfl, same_upd htp _ _ hF8, by rw [List.length_map, ha4.1, sizeLine_eq]; have := kp.len; omega, ?_⟩
          have fr' := FR.push (x := (0 + (i : Int), sgn j, r7)) hF4 ha4 n4 nm nc D4 (d6.trans d8) htp rfl (kb := k + 6 * i + 2 * ((j + 1 : Nat) : Int)) (by omega) fr.hF
          have kp' : KP n (xs ++ [(0 + (i : Int), sgn j, r7)]) i (j + 1) := by
            rw [Int.zero_add]
            exact kp.push hin j3 a8 b8
          exact ⟨_, _, rfl, fr', kp'⟩
        · exact ⟨_, _, rfl, FR.draw hF4 ha4 n4 nm nc D4 d6 (by omega) fr.hF, kp.next⟩
      · rintro σ H4 ⟨v4, xs, rfl, fr, kp⟩
        have e3 : ("@ab" : Str).cps.size = 3 := by decide +kernel
        rw [e3] at kp fr
        obtain ⟨ts, l4, k4, hF4, ha4, n4, nm, nc, kk4, D4⟩ := fr.ex
        refine ⟨_, _, xs, rfl, ⟨⟨ts, l4, k4, hF4, ha4, n4, nm, nc, ?_, D4⟩, fr.hF⟩, KP.row kp⟩
        omega
    · rintro σ H2 ⟨v3, v4, xs, rfl, fr, kp⟩
      have en : ((n : Int) - 0).toNat = n ∨ (n : Int).toNat = n := .inr (by omega)
      have fr : FR H H2 m c l F (k + 6 * n) xs := by simpa using fr
      have kp : KP n xs n 0 := by simpa using kp
      obtain ⟨ts, l4, k4, hF4, ha4, n4, nm, nc, kk4, D4⟩ := fr.ex
      refine ⟨_, rfl, F, _, rfl, .inl ⟨SqL.of hF4, fun t1 ht1 => ?_⟩⟩
      have u1 := same_upd (o := HO.tup (ts.map V.ref)) ht1
      have D5 := D4.same u1
      have ht1' : (upd H2 t1 (HO.tup (ts.map V.ref))) t1 = some (.tup (ts.map V.ref)) := upd_same
      have ha5 := ha4.same (Same.keepT u1)
      generalize upd H2 t1 (HO.tup (ts.map V.ref)) = Ha at u1 D5 ht1' ha5 ⊢
      refine ⟨_, rfl, _, rfl, by omega, by omega, fun D hD => ?_⟩
      refine lc_it walk_range (fun i H' => ∃ (gs : List Int) (l' : Addr) (k' : Int), H' D = some (.lst (gs.map V.int)) ∧ D ≠ l' ∧ gs.length ≤ i ∧ (∀ g ∈ gs, 0 ≤ g ∧ g < n ∧ g < i) ∧ gs.Pairwise (· < ·) ∧ k' ≤ k4 + i ∧ Dr Ha H' m c l4 l' k')
        ⟨[], l4, k4, upd_same, D5.at_.l_some hD, by simp, (fun g h => by cases h), List.Pairwise.nil, by simp, (Dr.refl D5.at_).same (same_upd hD)⟩ (fun _ _ _ _ => trivial) ?_ ?_
      · rintro i x H6 H7 hi ⟨gs, l6, k6, hD6, n6, lg, hg, sg, kk6, D6⟩ ⟨rfl, rfl⟩
        have hin : i < n := by omega
        refine ⟨rfl, _, rfl, m, c, l6, k6, 3, rfl, D6.at_, by decide, by decide, by omega, fun r8 H8 l8 k8 a8 b8 g8 N8 f8 q8 => ?_⟩
        have d8 : Dr H7 H8 m c l6 l8 k8 := ⟨N8, f8, q8⟩
        obtain ⟨hD8, n8⟩ := d8.lst D6.at_ hD6 n6
        have D8 := D6.trans d8
        refine ⟨rfl, _, rfl, ?_⟩
        refine ite2 (fun z => ?_) (fun z => ?_)
        · refine ⟨_, rfl, _, hD8, by rw [List.length_map, sizeLine_eq]; omega, ?_⟩
          refine ⟨gs ++ [(i : Int)], l8, k8, ?_, n8, by rw [List.length_append]; simp only [List.length_cons, List.length_nil]; omega, fun g hg' => ?_, ?_, by omega, ?_⟩
          · rw [List.map_append]
            show upd H8 D (.lst (gs.map V.int ++ [V.int (0 + (i : Int))])) D = some (.lst (gs.map V.int ++ [V.int (i : Int)]))
            rw [Int.zero_add]
            exact upd_same
          · rcases List.mem_append.mp hg' with h | h
            · obtain ⟨h1, h2, h3⟩ := hg g h
              exact ⟨h1, h2, by omega⟩
            · obtain rfl := List.mem_singleton.mp h
              exact ⟨by omega, by omega, by omega⟩
          · rw [List.pairwise_append]
            refine ⟨sg, List.pairwise_singleton _ _, fun a ha b hb => ?_⟩
            obtain rfl := List.mem_singleton.mp hb
            exact (hg a ha).2.2
          · obtain ⟨ls, hl, _⟩ := D5.at_.hl
            exact ⟨D8.at_.upd (ne_of_none D5.at_.hm hD).symm (D5.at_.c_some hD) n8, D8.hl, fun b o e h1 h2 => by
              rw [upd_ne (ne_of_none e hD)]
              exact D8.kp b o e h1 h2⟩
        · exact ⟨gs, l8, k8, hD8, n8, by omega, fun g h => ⟨(hg g h).1, (hg g h).2.1, by have := (hg g h).2.2; omega⟩, sg, by omega, D8⟩
      · rintro H6 ⟨gs, l6, k6, hD6, n6, lg, hg, sg, kk6, D6⟩
        refine ⟨D, _, rfl, .inl ⟨SqL.of hD6, fun t2 ht2 => ?_⟩⟩
        have u2 := same_upd (o := HO.tup (gs.map V.int)) ht2
        have D7 := D6.same u2
        refine ⟨(by show 2 ≤ sizeLine; decide), fun t3 ht3 => ?_⟩
        have u3 := same_upd (o := HO.tup [V.ref t1, V.ref t2]) ht3
        have D8 := D7.same u3
        have M8 := D8.at_
        have e1 := D8.tup D5.at_ ht1'
        have e2 := u3 _ _ (upd_same (H := H6) (a := t2) (o := HO.tup (gs.map V.int)))
        have e3 : (upd (upd H6 t2 (HO.tup (gs.map V.int))) t3 (HO.tup [V.ref t1, V.ref t2])) t3 = some (.tup [V.ref t1, V.ref t2]) := upd_same
        have ha8 := ha5.same (D8.keepT D5.at_)
        generalize upd (upd H6 t2 (HO.tup (gs.map V.int))) t3 (HO.tup [V.ref t1, V.ref t2]) = H8 at D8 M8 e1 e2 e3 ha8 ⊢
        refine q (.ref t3) _ H8 l6 k6 (.tup (M8.rtt e3) (.cons (.tup (M8.rtt e1) (da3s M8 ha8)) (.cons (.tup (M8.rtt e2) (da_ints gs)) .nil))) ⟨n, xs, gs, rfl, n5, kp, by omega, fun g h => ⟨(hg g h).1, (hg g h).2.1⟩, sg⟩ (by omega) (D5.trans D8)
end
end K06
/-! repr of data; data that grow. -/
namespace L2
namespace EV
open PySem PySem.Spec PyProof.Rows _root_.EV
/-- repr of data -/
def rShowV (K : PySem.W.Frag) : List V → Hp → VK → Prop := fun xs H Q => ∃ (v : V) (d : PyData), xs = [v] ∧ Dp K H v d ∧ d.showable = true ∧ d.hasDict = false ∧ d.shown.length ≤ sizeLine ∧ d.depth ≤ 5 ∧ Q (.str d.shown) H
theorem call_showV {X : Cx} (hgd : X.A.guards = some []) (hu : X.A.units + 64 < cLine) : CallR X (.builtin "repr") (rShowV X.K) := by
  intro pins s σ H xs us Q I r h
  obtain ⟨v, d, rfl, hd, sh, nd, sz, dp, q⟩ := h
  obtain ⟨u, rfl, ru⟩ := vals1 r
  obtain ⟨as, rd⟩ := Dp.reads I d v u hd ru
  have at_ : ∀ a : Addr, u = .ref a → wpAny (model X.prog X.w) X.A (call (.builtin "repr") [u]) (EP X pins σ Q) X.xe s := fun a e => by
    subst e
    exact repr_of_reads' rd sh (fun z => by rw [nd] at z; cases z) hgd (by omega) (fun _ _ e => e) (fun h' t tk hk => ⟨.str _, H, I.kept (t' := tk) hk, ⟨_, rfl⟩, q⟩) sz
  cases hd with
  | non =>
    obtain rfl : u = Value.none := ru
    simp only [PyData.shown] at q
    exact PySem.P.repr_of_none ⟨.str _, H, I.tok _, ⟨_, rfl⟩, q⟩
  | bl b =>
    obtain rfl : u = Value.bool b := ru
    simp only [PyData.shown] at q
    exact PySem.P.repr_of_bool ⟨.str _, H, I.tok _, ⟨_, rfl⟩, q⟩
  | int i =>
    obtain ⟨t, rfl⟩ := (show ∃ t, u = Value.int i t from ru)
    simp only [PyData.shown] at q
    simp only [PyData.showable, decide_eq_true_eq] at sh
    exact PySem.P.repr_of_int sh ⟨.str _, H, I.tok _, ⟨_, rfl⟩, q⟩
  | str x =>
    obtain ⟨t, rfl⟩ := (show ∃ t, u = Value.str x t from ru)
    simp only [PyData.shown] at q sz
    exact PySem.P.repr_of_str ⟨.str _, H, I.tok _, ⟨_, rfl⟩, q⟩ sz
  | @lst a xs ds h1 h2 => exact at_ a ru
  | @tup a xs ds h1 h2 => exact at_ a ru
end EV
end L2
namespace L2
open PySem PySem.Spec PyProof.Rows
def rCatW (K : PySem.W.Frag) : R2 := fun x y H Q => ∃ a b xs ys, x = .ref a ∧ y = .ref b ∧ H a = some (.tup xs) ∧ H b = some (.tup ys) ∧ xs.length + ys.length ≤ sizeLine ∧ ∀ p H', Same H H' → H' p = some (.tup (xs ++ ys)) → Q (.ref p) H'
theorem op_catW {X : Cx} : OpR X (binaryOp .Add) (rCatW X.K) := by
  intro pins s σ H x y v u Q I rx ry h
  obtain ⟨a, b, xs, ys, rfl, rfl, ha, hb, hz, q⟩ := h
  refine op_catA pins s σ H _ _ v u Q I rx ry ⟨a, b, xs, ys, rfl, rfl, SqT.of ha, SqT.of hb, hz, fun z => ?_, fun _ z => ?_, fun _ _ p hp => q p _ (K06.same_upd hp) upd_same⟩
  · subst z
    exact q b H (fun _ _ e => e) (by rw [hb]; rfl)
  · subst z
    exact q a H (fun _ _ e => e) (by rw [ha, List.append_nil])
end L2
namespace K06
open PySem L2 L2.EV
structure Okd (d : PyData) (n dp : Nat) : Prop where
  sh : d.showable = true
  nd : d.hasDict = false
  sz : d.shown.length ≤ n
  dp : d.depth ≤ dp
  lay : d.canLay0 = true
theorem Okd.le {d : PyData} {n m dp dq : Nat} (h : Okd d n dp) (a : n ≤ m) (b : dp ≤ dq) : Okd d m dq := ⟨h.sh, h.nd, Nat.le_trans h.sz a, Nat.le_trans h.dp b, h.lay⟩
theorem okd_int {i : Int} (h0 : 0 ≤ i) (h1 : i < 64) : Okd (.int i) 10 0 := by
  obtain ⟨k, rfl⟩ := Int.eq_ofNat_of_zero_le h0
  have hk : k < 64 := by omega
  have z : ∀ k : Fin 64, (PyData.int ((k.val : Nat) : Int)).showable = true ∧ (PyData.int ((k.val : Nat) : Int)).shown.length ≤ 10 := by decide +kernel
  obtain ⟨z1, z2⟩ := z ⟨k, hk⟩
  exact ⟨z1, by simp only [PyData.hasDict], z2, by simp only [PyData.depth]; omega, by simp only [PyData.canLay0]⟩
theorem okd_str {x : Str} {m : Nat} (hs : PyData.strOk x = true) (hl : x.length ≤ m) : Okd (.str x) (10 * m + 2) 0 := by
  refine ⟨by simp only [PyData.showable], by simp only [PyData.hasDict], ?_, by simp only [PyData.depth]; omega, by simp only [PyData.canLay0]; exact hs⟩
  simp only [PyData.shown]
  have z := PySem.StrLaws.reprText_len x (fun c hc => by
    unfold PyData.strOk at hs
    rw [← Array.all_toList, List.all_eq_true] at hs
    have := of_decide_eq_true (hs c hc)
    exact Nat.lt_trans this (by decide))
  omega
theorem okd_all {n dp : Nat} : ∀ {ds : List PyData}, (∀ d ∈ ds, Okd d n dp) → PyData.showableAll ds = true ∧ PyData.hasDictAll ds = false ∧ ((PyData.shownAll ds).map (·.length)).sum ≤ n * ds.length ∧ (PyData.shownAll ds).length = ds.length ∧ PyData.depthAll ds ≤ dp ∧ PyData.canLayAll0 ds = true
  | [], _ => ⟨by simp [PyData.showableAll], by simp [PyData.hasDictAll], by simp [PyData.shownAll], by simp [PyData.shownAll], by simp [PyData.depthAll], by simp [PyData.canLayAll0]⟩
  | d :: ds, h => by
    have h1 := h d (List.mem_cons_self ..)
    obtain ⟨a, b, c, e, f, g⟩ := okd_all (ds := ds) fun d hd => h d (List.mem_cons_of_mem _ hd)
    have h2 := h1.sz
    have h3 := h1.dp
    refine ⟨by simp only [PyData.showableAll, h1.sh, a, Bool.and_self], by simp only [PyData.hasDictAll, h1.nd, b, Bool.or_self], ?_, by simp only [PyData.shownAll, List.length_cons, e], by simp only [PyData.depthAll]; omega, by simp only [PyData.canLayAll0, h1.lay, g, Bool.and_self]⟩
    simp only [PyData.shownAll, List.map_cons, List.sum_cons, List.length_cons, Nat.mul_add, Nat.mul_one]
    omega
theorem okd_list {n dp m : Nat} {ds : List PyData} (h : ∀ d ∈ ds, Okd d n dp) (hl : ds.length ≤ m) : Okd (.list ds) (m * (n + 2) + 3) (dp + 1) := by
  obtain ⟨a, b, c, e, f, g⟩ := okd_all h
  refine ⟨by simp only [PyData.showable, a], by simp only [PyData.hasDict, b], ?_, by simp only [PyData.depth]; omega, by simp only [PyData.canLay0, g]⟩
  simp only [PyData.shown]
  have z := listText_len_le (PyData.shownAll ds)
  rw [e] at z
  have y : n * ds.length ≤ n * m := Nat.mul_le_mul_left _ hl
  rw [Nat.mul_add, Nat.mul_comm m n]
  omega
theorem okd_tuple {n dp m : Nat} {ds : List PyData} (h : ∀ d ∈ ds, Okd d n dp) (hl : ds.length ≤ m) : Okd (.tuple ds) (m * (n + 2) + 3) (dp + 1) := by
  obtain ⟨a, b, c, e, f, g⟩ := okd_all h
  refine ⟨by simp only [PyData.showable, a], by simp only [PyData.hasDict, b], ?_, by simp only [PyData.depth]; omega, by simp only [PyData.canLay0, g]⟩
  simp only [PyData.shown]
  have z := tupleText_len_le (PyData.shownAll ds)
  rw [e] at z
  have y : n * ds.length ≤ n * m := Nat.mul_le_mul_left _ hl
  rw [Nat.mul_add, Nat.mul_comm m n]
  omega
theorem Okd.shaped {d : PyData} {n dp : Nat} (h : Okd d n dp) (hd : dp ≤ 64) : SeqAt.shaped d = true := by
  show (PyData.canLay0 d && decide (PyData.depth d ≤ 64)) = true
  rw [Bool.and_eq_true]
  exact ⟨h.lay, decide_eq_true (Nat.le_trans h.dp hd)⟩
def okdB (d : PyData) (n dp : Nat) : Bool := d.showable && !d.hasDict && decide (d.shown.length ≤ n) && decide (d.depth ≤ dp) && d.canLay0
theorem okd_by {d : PyData} {n dp : Nat} (h : okdB d n dp = true) : Okd d n dp := by
  unfold okdB at h
  simp only [Bool.and_eq_true, Bool.not_eq_true', decide_eq_true_eq] at h
  obtain ⟨⟨⟨⟨a, b⟩, c⟩, d⟩, e⟩ := h
  exact ⟨a, b, c, d, e⟩
theorem eqv_nilT (ds : List PyData) : PyData.eqv (.tuple ds) (.tuple []) = ds.isEmpty := by
  cases ds <;> simp [PyData.eqv, PyData.eqvAll]
theorem shaped_nilT : SeqAt.shaped (.tuple []) = true := by decide +kernel
/-- what was drawn and laid since H0, and data that stand -/
structure Bx (H0 H : Hp) (m c l0 l : Addr) (k : Int) (xs : List V) (es : List PyData) : Prop where
  d : Dr H0 H m c l0 l k
  acc : DaAll (rt H m l) xs es
theorem Bx.laid {H0 H : Hp} {m c l0 l p : Addr} {k : Int} {xs : List V} {es : List PyData} {o : HO} (b : Bx H0 H m c l0 l k xs es) (hp : H p = none) : Bx H0 (upd H p o) m c l0 l k xs es :=
  ⟨b.d.same (same_upd hp), DaAll.same (rt_same (same_upd hp)) _ _ b.acc⟩
theorem Bx.draw {H0 H H' : Hp} {m c l0 l l' : Addr} {k k' : Int} {xs : List V} {es : List PyData} (b : Bx H0 H m c l0 l k xs es) (d : Dr H H' m c l l' k') : Bx H0 H' m c l0 l' k' xs es :=
  ⟨b.d.trans d, DaAll.same (rt_dr d) _ _ b.acc⟩
theorem Bx.tup {H0 H : Hp} {m c l0 l p : Addr} {k : Int} {xs vs : List V} {es ds : List PyData} (b : Bx H0 H m c l0 l k xs es) (hp : H p = none) (all : DaAll (rt H m l) vs ds) : Bx H0 (upd H p (.tup vs)) m c l0 l k (xs ++ [.ref p]) (es ++ [.tuple ds]) :=
  ⟨b.d.same (same_upd hp), (DaAll.same (rt_same (same_upd hp)) _ _ b.acc).app (.cons (.tup (b.d.at_.rtn hp upd_same) (DaAll.same (rt_same (same_upd hp)) _ _ all)) .nil)⟩
theorem Bx.lst {H0 H : Hp} {m c l0 l p : Addr} {k : Int} {xs vs : List V} {es ds : List PyData} (b : Bx H0 H m c l0 l k xs es) (hp : H p = none) (all : DaAll (rt H m l) vs ds) : Bx H0 (upd H p (.lst vs)) m c l0 l k (xs ++ [.ref p]) (es ++ [.list ds]) :=
  ⟨b.d.same (same_upd hp), (DaAll.same (rt_same (same_upd hp)) _ _ b.acc).app (.cons (.lst (b.d.at_.rtn hp upd_same) (DaAll.same (rt_same (same_upd hp)) _ _ all)) .nil)⟩
/-- laid somewhere -/
theorem Bx.wher {H0 H H' : Hp} {m c l0 l p : Addr} {k : Int} {xs vs : List V} {es ds : List PyData} (b : Bx H0 H m c l0 l k xs es) (s : Same H H') (e : H' p = some (.tup vs)) (all : DaAll (rt H m l) vs ds) : Bx H0 H' m c l0 l k (xs ++ [.ref p]) (es ++ [.tuple ds]) :=
  ⟨b.d.same s, (DaAll.same (rt_same s) _ _ b.acc).app (.cons (.tup ((b.d.at_.same s).rtt e) (DaAll.same (rt_same s) _ _ all)) .nil)⟩
theorem Bx.same {H0 H H' : Hp} {m c l0 l : Addr} {k : Int} {xs : List V} {es : List PyData} (b : Bx H0 H m c l0 l k xs es) (s : Same H H') : Bx H0 H' m c l0 l k xs es := ⟨b.d.same s, DaAll.same (rt_same s) _ _ b.acc⟩
/-- the j-th -/
theorem Bx.at_ {H0 H : Hp} {m c l0 l : Addr} {k : Int} {xs : List V} {es : List PyData} (b : Bx H0 H m c l0 l k xs es) (j : Nat) {v : V} {d : PyData} (h1 : xs[j]? = some v) (h2 : es[j]? = some d) : Da (rt H m l) v d := by
  obtain ⟨d', e, h⟩ := b.acc.at_ h1
  rw [e] at h2
  cases h2
  exact h
/-- a thing that may stand in the place of a rule -/
def It (d : PyData) : Prop := Okd d 200 2 ∧ szS d
/-- a thing that may be a reader -/
def Rg (d : PyData) : Prop := Okd d 20000 4 ∧ SzR d
theorem okd_mono {d : PyData} {n dp : Nat} (h : Okd d n dp) (a : n ≤ 20000) (b : dp ≤ 4) : Okd d 20000 4 := h.le a b
theorem szS_no {d : PyData} (h : ∀ a x b, d ≠ .tuple [a, .str x, b]) : szS d := fun a x b e => absurd e (h a x b)
end K06
set_option maxHeartbeats 8000000
/-! _law_spoiled. -/
namespace K06
open PySem L2 L2.EV
abbrev sSpoil : Stmt := top 80
abbrev NS : List Str := ["m", "reader", "rules", "good", "way", "odds", "some", "at", "state", "sign", "to"]
structure Lp (K : PySem.W.Frag) (mg : Str → Option Value) where
  L : Ls K mg
  f : Addr
  d : FuncData
  F : Fun K "_law_spoiled" "_law_spoiled" sSpoil f d
  b : Binds K d ["m", "reader"] []
  g : mg "_law_spoiled" = some (.ref f)
def spSpoil : Sp := fun vs H Q _ => ∃ (m c l : Addr) (k : Int) (v : V) (d : PyData), vs = [.ref m, v] ∧ MAt H m c l k ∧ k < 800000 ∧ Da (rt H m l) v d ∧ RdD d ∧
  ∀ (v' : V) (d' : PyData) (H' : Hp) (l' : Addr) (k' : Int), Da (rt H' m l') v' d' → Rg d' → k' ≤ k + 10 → Dr H H' m c l l' k' → Q v' H'
section
variable {P : Program} {w : World} {K : PySem.W.Frag} {mg : Str → Option Value} {base : Heap}
theorem scSpoil : FnScope NS ["m", "reader"] (defScope sSpoil) := ⟨rfl, rfl, rfl, by decide +kernel, rfl, by decide +kernel, by decide +kernel⟩
theorem ok_spoil (S : Lp K mg) : FnOk P w K mg base CX0 2 S.f S.d ["m", "reader"] spSpoil := by
  have GX : FnOk P w K mg base CX0 1 S.L.f1 S.L.d1 ["m", "many"] spNext := ok_next S.L.N S.L.T
  refine S.F.ok scSpoil (fun vs H Q E h => ?_) (fun cdv A outer s H vs Q E hr h => ?_)
  · obtain ⟨m, c, l, k, v, d, rfl, _⟩ := h
    rfl
  · obtain ⟨m, c, l, k, v, d, rfl, M, hk, da, rd, q⟩ := h
    have hu65 : (A.deeper (PyProof.Rows.envOfC "_law_spoiled" (defScope sSpoil) s.heap.objs.size S.f cdv)).units + 65 < cLine := by have := hr.un; omega
    have hu2 := hr.units
    refine ⟨_, pss_cons (ps_asg (pv 1) (pg_tup rfl (pgs_cons (pg_name (i := 2) scSpoil.nd rfl (Or.inl rfl)) (pgs_cons (pg_name (i := 3) scSpoil.nd rfl (Or.inl rfl)) pgs_nil))))
      (pss_cons (ps_set (i := 4) scSpoil.nd rfl (Or.inl rfl) (pe_call GX hr (by rfl) S.L.mN S.L.N.kp S.L.bN .nil pass0 (pa_cons (pv 0) (pa_cons pe_int pa_nil))))
      (pss_cons (ps_if (pt_cmpR op_eq (pv 4) pe_int (nomark _))
        (pss_cons (ps_set (i := 5) scSpoil.nd rfl (Or.inl rfl) (pe_lst (pa_cons pe_non (pa_cons (pe_tup (pa_cons (pv 2) pa_nil)) (pa_cons (pe_op op_catW (pv 1) (pe_tup (pa_cons (pe_tup pa_nil) pa_nil))) (pa_cons (pe_callTy call_list_of (by rfl) S.L.T.list (by decide +kernel) (pa_cons (pv 1) pa_nil))
            (pa_cons (pe_tup (pa_cons (pe_callTy call_list_of (by rfl) S.L.T.list (by decide +kernel) (pa_cons (pv 2) pa_nil)) (pa_cons (pv 3) pa_nil))) (pa_cons (pe_tup (pa_cons (pv 2) (pa_cons (pe_callTy call_list_of (by rfl) S.L.T.list (by decide +kernel) (pa_cons (pv 3) pa_nil)) pa_nil))) (pa_cons pe_int (pa_cons pe_str pa_nil))))))))))
          (pss_one (ps_ret (pe_ix ix_list (pv 5) (pe_call GX hr (by rfl) S.L.mN S.L.N.kp S.L.bN .nil pass0 (pa_cons (pv 0) (pa_cons pe_int pa_nil))) (fun _ _ => rfl))))) pss_nil)
      (pss_cons (ps_if (pt_cmpR op_eq (pv 4) pe_int (nomark _))
        (pss_cons (ps_set (i := 6) scSpoil.nd rfl (Or.inl rfl) (pe_lst (pa_cons pe_non (pa_cons (pe_un un_neg pe_int) (pa_cons pe_int (pa_cons pe_bl (pa_cons pe_str (pa_cons pe_int (pa_cons pe_int pa_nil)))))))))
          (pss_one (ps_ret (pe_tup (pa_cons (pv 2) (pa_cons (pe_op op_catW (pv 3) (pe_tup (pa_cons (pe_ix ix_list (pv 6) (pe_call GX hr (by rfl) S.L.mN S.L.N.kp S.L.bN .nil pass0 (pa_cons (pv 0) (pa_cons pe_int pa_nil))) (fun _ _ => rfl)) pa_nil))) pa_nil)))))) pss_nil)
      (pss_cons (ps_if (pw_or (pt_cmpR op_eq (pv 4) pe_int (nomark _)) (pw_or1 (pt_cmpR (op_eqD hu2) (pv 2) (pe_tup pa_nil) (nomark _)))).pt
        (pss_one (ps_ret (pe_tup (pa_cons (pe_revT (pv 2) (pe_un un_neg pe_int) (fun _ _ => rfl)) (pa_cons (pe_revT (pv 3) (pe_un un_neg pe_int) (fun _ _ => rfl)) pa_nil))))) pss_nil)
      (pss_cons (ps_set (i := 7) scSpoil.nd rfl (Or.inl rfl) (pe_call GX hr (by rfl) S.L.mN S.L.N.kp S.L.bN .nil pass0 (pa_cons (pv 0) (pa_cons (pe_callB call_len_seq (by rfl) S.L.T.len PySem.boot_len (pa_cons (pv 2) pa_nil)) pa_nil))))
      (pss_cons (ps_asg (pe_ix ix_tup (pv 2) (pv 7) (fun _ _ => rfl)) (pg_tup rfl (pgs_cons (pg_name (i := 8) scSpoil.nd rfl (Or.inl rfl)) (pgs_cons (pg_name (i := 9) scSpoil.nd rfl (Or.inl rfl)) (pgs_cons (pg_name (i := 10) scSpoil.nd rfl (Or.inl rfl)) pgs_nil)))))
      (pss_cons (ps_set (i := 6) scSpoil.nd rfl (Or.inl rfl) (pe_lst (pa_cons pe_non (pa_cons (pe_tup (pa_cons (pv 8) (pa_cons (pv 9) pa_nil))) (pa_cons (pe_tup (pa_cons (pv 8) (pa_cons (pv 9) (pa_cons (pv 10) (pa_cons pe_int pa_nil))))) (pa_cons (pe_lst (pa_cons (pv 8) (pa_cons (pv 9) (pa_cons (pv 10) pa_nil))))
          (pa_cons (pe_tup (pa_cons pe_int (pa_cons (pv 9) (pa_cons (pv 10) pa_nil)))) (pa_cons (pe_tup (pa_cons (pv 8) (pa_cons pe_str (pa_cons (pv 10) pa_nil)))) pa_nil))))))))
      (pss_cons (ps_set (i := 6) scSpoil.nd rfl (Or.inl rfl) (pe_op op_cat (pv 6) (pe_lst (pa_cons (pe_tup (pa_cons (pv 8) (pa_cons pe_str (pa_cons (pv 10) pa_nil)))) (pa_cons (pe_tup (pa_cons (pv 8) (pa_cons pe_str (pa_cons (pv 10) pa_nil)))) (pa_cons (pe_tup (pa_cons (pv 8) (pa_cons pe_str (pa_cons (pv 10) pa_nil))))
          (pa_cons (pe_tup (pa_cons (pv 8) (pa_cons (pv 9) (pa_cons (pe_un un_neg pe_int) pa_nil)))) (pa_cons (pe_tup (pa_cons (pv 8) (pa_cons (pv 9) (pa_cons (pe_op op_add (pv 10) pe_int) pa_nil)))) pa_nil))))))))
      (pss_cons (ps_set (i := 6) scSpoil.nd rfl (Or.inl rfl) (pe_op op_cat (pv 6) (pe_lst (pa_cons (pe_tup (pa_cons (pv 8) (pa_cons pe_non (pa_cons (pv 10) pa_nil)))) (pa_cons (pe_tup (pa_cons (pv 8) (pa_cons pe_int (pa_cons (pv 10) pa_nil)))) (pa_cons (pe_tup (pa_cons (pv 8) (pa_cons (pe_lst (pa_cons (pv 9) pa_nil)) (pa_cons (pv 10) pa_nil))))
          (pa_cons (pe_tup (pa_cons (pv 8) (pa_cons (pe_tup (pa_cons (pv 9) pa_nil)) (pa_cons (pv 10) pa_nil)))) pa_nil)))))))
      (pss_cons (ps_if (pt_cmpR op_eq (pv 4) pe_int (nomark _))
        (pss_one (ps_ret (pe_tup (pa_cons (pe_op op_catW (pe_op op_catW (pe_slice sl_tupS (pv 2) po_none (po_some (pv 7))) (pe_tup (pa_cons (pe_ix ix_tup (pv 2) (pv 7) (fun _ _ => rfl)) pa_nil))) (pe_slice sl_tupS (pv 2) (po_some (pv 7)) po_none)) (pa_cons (pv 3) pa_nil))))) pss_nil)
      (pss_cons (ps_if (pt_cmpR op_eq (pv 4) pe_int (nomark _))
        (pss_one (ps_ret (pe_tup (pa_cons (pe_op op_catW (pe_op op_catW (pe_slice sl_tupS (pv 2) po_none (po_some (pe_op op_add (pv 7) pe_int))) (pe_tup (pa_cons (pe_tup (pa_cons (pv 8) (pa_cons (pv 9) (pa_cons (pe_op op_add (pv 10) pe_int) pa_nil)))) pa_nil))) (pe_slice sl_tupS (pv 2) (po_some (pe_op op_add (pv 7) pe_int)) po_none)) (pa_cons (pv 3) pa_nil))))) pss_nil)
      (pss_one (ps_ret (pe_tup (pa_cons (pe_op op_catW (pe_op op_catW (pe_slice sl_tupS (pv 2) po_none (po_some (pv 7))) (pe_tup (pa_cons (pe_ix ix_list (pv 6) (pe_call GX hr (by rfl) S.L.mN S.L.N.kp S.L.bN .nil pass0 (pa_cons (pv 0) (pa_cons pe_int pa_nil))) (fun _ _ => rfl)) pa_nil))) (pe_slice sl_tupS (pv 2) (po_some (pe_op op_add (pv 7) pe_int)) po_none)) (pa_cons (pv 3) pa_nil)))))))))))))))), ?_⟩
    obtain ⟨n, rx, gs, rfl, n5, kp, gl, gg, gsr⟩ := id rd
    obtain ⟨a, ra, ga, rv, gv, rfl, e0, er, eg, rall, gall⟩ : ∃ (a ra ga : Addr) (rv gv : List V), v = .ref a ∧ rt H m l a = some (.tup [.ref ra, .ref ga]) ∧ rt H m l ra = some (.tup rv) ∧ rt H m l ga = some (.tup gv) ∧ DaAll (rt H m l) rv (rx.map d3) ∧ DaAll (rt H m l) gv (gs.map PyData.int) := by
      cases da with
      | tup e all =>
        match all with
        | .cons (.tup er rall) (.cons (.tup eg gall) .nil) => exact ⟨_, _, _, _, _, rfl, e, er, eg, rall, gall⟩
    have ha := rt_sub _ _ e0
    have hra := rt_sub _ _ er
    have hga := rt_sub _ _ eg
    have szx := rd_sz rd
    have rxl : rx.length ≤ 15 := by have := kp.len; omega
    have rvl : rv.length = rx.length := by rw [rall.len, List.length_map]
    have gvl : gv.length = gs.length := by rw [gall.len, List.length_map]
    have it3 : ∀ x ∈ rx.map d3, It x := fun x hx => by
      obtain ⟨y, hy, rfl⟩ := List.mem_map.mp hx
      obtain ⟨h1, h2, qq, r, e1, e2, e3, e4, e5⟩ := kp.at_ y hy
      refine ⟨(okd_tuple (n := 12) (dp := 0) (m := 3) (fun z hz => ?_) (Nat.le_refl _)).le (by decide) (by decide), szx _ _ rfl _ (List.mem_map.mpr ⟨y, hy, rfl⟩)⟩
      rcases List.mem_cons.mp hz with rfl | hz
      · exact (okd_int (by omega) (by omega)).le (by decide) (Nat.le_refl _)
      · rcases List.mem_cons.mp hz with rfl | hz
        · rw [e4]
          exact okd_str (m := 1) (sgn_ok e3).2.2 (Nat.le_of_eq (sgn_ok e3).2.1)
        · obtain rfl := List.mem_singleton.mp hz
          exact (okd_int (by omega) (by omega)).le (by decide) (Nat.le_refl _)
    have okG : ∀ x ∈ gs.map PyData.int, Okd x 12 0 := fun x hx => by
      obtain ⟨y, hy, rfl⟩ := List.mem_map.mp hx
      obtain ⟨h1, h2⟩ := gg y hy
      exact (okd_int (by omega) (by omega)).le (by decide) (Nat.le_refl _)
    have okR : ∀ ds : List PyData, (∀ x ∈ ds, It x) → ds.length ≤ 20 → Okd (.tuple ds) 4043 3 := fun ds h hl => okd_tuple (n := 200) (dp := 2) (m := 20) (fun x hx => (h x hx).1) hl
    have okRl : ∀ ds : List PyData, (∀ x ∈ ds, It x) → ds.length ≤ 20 → Okd (.list ds) 4043 3 := fun ds h hl => okd_list (n := 200) (dp := 2) (m := 20) (fun x hx => (h x hx).1) hl
    have pairR : ∀ rs' g' : PyData, Okd rs' 4043 3 → Okd g' 400 3 → (∀ ds, rs' = .tuple ds → ∀ x ∈ ds, szS x) → Rg (.tuple [rs', g']) := fun rs' g' h1 h2 h3 => by
      refine ⟨(okd_tuple (n := 4043) (dp := 3) (m := 2) (fun z hz => ?_) (Nat.le_refl _)).le (by decide) (by decide), fun ds g e x hx => ?_⟩
      · rcases List.mem_cons.mp hz with rfl | hz
        · exact h1
        · obtain rfl := List.mem_singleton.mp hz
          exact h2.le (by decide) (Nat.le_refl _)
      · cases e
        exact h3 ds rfl x hx
    have okGt : ∀ ds : List PyData, (∀ x ∈ ds, Okd x 12 0) → ds.length ≤ 10 → Okd (.tuple ds) 400 3 := fun ds h hl => (okd_tuple (n := 12) (dp := 0) (m := 10) h hl).le (by decide) (by decide)
    have okR0 := okR _ it3 (by rw [List.length_map]; omega)
    have okG0 := okGt _ okG (by rw [List.length_map]; omega)
    have big : ∀ {j : Nat}, j ≤ 200 → j ≤ sizeLine := fun h => by rw [sizeLine_eq]; omega
    refine ⟨_, rfl, a, _, rfl, SqT.of ha, rfl, _, _, rfl, _, _, rfl, rfl, ?_⟩
    refine ⟨_, rfl, m, c, l, k, 6, rfl, M, by decide, by decide, by omega, fun r1 H1 l1 k1 a1 b1 g1 N1 f1 q1 => ?_⟩
    have d1 : Dr H H1 m c l l1 k1 := ⟨N1, f1, q1⟩
    have B1 : Bx H H1 m c l l1 k1 [.ref a, .ref ra, .ref ga] [_, .tuple (rx.map d3), .tuple (gs.map PyData.int)] := Bx.draw ⟨Dr.refl M, .cons da (.cons (.tup er rall) (.cons (.tup eg gall) .nil))⟩ d1
    have T1 := rt_dr d1
    have e0 := T1 _ _ e0
    have er := T1 _ _ er
    have eg := T1 _ _ eg
    have rall := DaAll.same T1 _ _ rall
    have gall := DaAll.same T1 _ _ gall
    have ha := rt_sub _ _ e0
    have hra := rt_sub _ _ er
    have hga := rt_sub _ _ eg
    refine ⟨_, rfl, rfl, _, rfl, ?_⟩
    by_cases c0 : r1 = 0
    · refine iteT' (by simp [c0]) ?_
      refine ⟨_, rfl, (by show 1 ≤ sizeLine; decide), fun p1 h1 => ?_⟩
      have B2 := B1.tup h1 (.cons (B1.at_ 1 rfl rfl) .nil)
      have u1 := same_upd (o := HO.tup [V.ref ra]) h1
      refine ⟨_, rfl, (by decide), fun p2 h2 => ⟨(by show 1 ≤ sizeLine; decide), fun p3 h3 => ?_⟩⟩
      have B3 := (B2.tup h2 .nil).laid (o := HO.tup [V.ref p2]) h3
      have B3' := (B2.tup h2 .nil)
      have u2 := same_upd (o := HO.tup []) h2
      have u3 := same_upd (o := HO.tup [V.ref p2]) h3
      have u13 := (u1.trans u2).trans u3
      refine ⟨a, p3, _, _, rfl, rfl, u13 _ _ ha, upd_same, by show 2 + 1 ≤ sizeLine; decide, fun p4 H4 s4 e4 => ?_⟩
      have B4 := B3.wher s4 e4 (.cons (B3.at_ 1 rfl rfl) (.cons (B3.at_ 2 rfl rfl) (.cons (B3.at_ 4 rfl rfl) .nil)))
      have u14 := u13.trans s4
      refine ⟨_, rfl, a, _, rfl, .inr (SqT.of (u14 _ _ ha)), fun p5 h5 => ?_⟩
      have B5 := B4.lst h5 (.cons (B4.at_ 1 rfl rfl) (.cons (B4.at_ 2 rfl rfl) .nil))
      have u15 := u14.trans (same_upd (o := HO.lst [V.ref ra, V.ref ga]) h5)
      refine ⟨_, rfl, ra, _, rfl, .inr (SqT.of (u15 _ _ hra)), fun p6 h6 => ?_⟩
      have B6 := B5.lst h6 (DaAll.same (rt_same u15) _ _ rall)
      have u16 := u15.trans (same_upd (o := HO.lst rv) h6)
      refine ⟨_, rfl, (by show 2 ≤ sizeLine; decide), fun p7 h7 => ?_⟩
      have B7 := B6.tup h7 (.cons (B6.at_ 7 rfl rfl) (.cons (B6.at_ 2 rfl rfl) .nil))
      have u17 := u16.trans (same_upd (o := HO.tup [V.ref p6, V.ref ga]) h7)
      refine ⟨_, rfl, _, rfl, ga, _, rfl, .inr (SqT.of (u17 _ _ hga)), fun p8 h8 => ?_⟩
      have B8 := B7.lst h8 (DaAll.same (rt_same u17) _ _ gall)
      have u18 := u17.trans (same_upd (o := HO.lst gv) h8)
      refine ⟨(by show 2 ≤ sizeLine; decide), fun p9 h9 => ?_⟩
      have B9 := B8.tup h9 (.cons (B8.at_ 1 rfl rfl) (.cons (B8.at_ 9 rfl rfl) .nil))
      refine ⟨(by show 8 ≤ sizeLine; decide), fun pl hl => ?_⟩
      have B10 := B9.laid (o := HO.lst [V.non, V.ref p1, V.ref p4, V.ref p5, V.ref p7, V.ref p9, V.int 5, V.str ""]) hl
      have npl := B9.d.at_.l_some hl
      have epl : ∀ HH : Hp, upd HH pl (HO.lst [V.non, V.ref p1, V.ref p4, V.ref p5, V.ref p7, V.ref p9, V.int 5, V.str ""]) pl = some (HO.lst [V.non, V.ref p1, V.ref p4, V.ref p5, V.ref p7, V.ref p9, V.int 5, V.str ""]) := fun HH => upd_same
      refine ⟨_, rfl, _, rfl, m, c, l1, k1, 8, rfl, B10.d.at_, by decide, by decide, by omega, fun r2 H3 l3 k3 a3 b3 g3 N3 f3 q3 => ?_⟩
      have d3 : Dr _ H3 m c l1 l3 k3 := ⟨N3, f3, q3⟩
      obtain ⟨e3, _⟩ := d3.lst B10.d.at_ (epl _) npl
      have B := B10.draw d3
      obtain ⟨v', d', at', da', rg'⟩ : ∃ v' d', atI [V.non, V.ref p1, V.ref p4, V.ref p5, V.ref p7, V.ref p9, V.int 5, V.str ""] r2 = some v' ∧ Da (rt H3 m l3) v' d' ∧ Rg d' := by
       clear B1 B2 B3 B3' B4 B5 B6 B7 B8 B9 B10
       obtain ⟨j, rfl⟩ := Int.eq_ofNat_of_zero_le a3
       have jl : j < 8 := by omega
       match j, jl with
       | 0, _ => exact ⟨_, _, atI_nat (j := 0) rfl, .non, ⟨okd_by (by decide +kernel), fun rs g e => by cases e⟩⟩
       | 1, _ => exact ⟨_, _, atI_nat (j := 1) rfl, (B.at_ 3 rfl rfl), ⟨(okd_tuple (m := 1) (fun z hz => by obtain rfl := List.mem_singleton.mp hz; exact okR0) (Nat.le_refl _)).le (by decide) (by decide), fun rs g e => by cases e⟩⟩
       | 2, _ => exact ⟨_, _, atI_nat (j := 2) rfl, (B.at_ 5 rfl rfl), ⟨(okd_tuple (n := 4043) (dp := 3) (m := 3) (fun z hz => by
           rcases List.mem_cons.mp hz with rfl | hz
           · exact okR0
           · rcases List.mem_cons.mp hz with rfl | hz
             · exact okG0.le (by decide) (Nat.le_refl _)
             · obtain rfl := List.mem_singleton.mp hz
               exact okd_by (by decide +kernel)) (Nat.le_refl _)).le (by decide) (by decide), fun rs g e => by cases e⟩⟩
       | 3, _ => exact ⟨_, _, atI_nat (j := 3) rfl, (B.at_ 6 rfl rfl), ⟨(okd_list (n := 4043) (dp := 3) (m := 2) (fun z hz => by
           rcases List.mem_cons.mp hz with rfl | hz
           · exact okR0
           · obtain rfl := List.mem_singleton.mp hz
             exact okG0.le (by decide) (Nat.le_refl _)) (Nat.le_refl _)).le (by decide) (by decide), fun rs g e => by cases e⟩⟩
       | 4, _ => exact ⟨_, _, atI_nat (j := 4) rfl, (B.at_ 8 rfl rfl), (pairR _ _ (okRl _ it3 (by rw [List.length_map]; omega)) okG0 fun ds e => by cases e)⟩
       | 5, _ => exact ⟨_, _, atI_nat (j := 5) rfl, (B.at_ 10 rfl rfl), (pairR _ _ okR0 ((okd_list (n := 12) (dp := 0) (m := 10) okG (by rw [List.length_map]; omega)).le (by decide) (by decide)) fun ds e => by cases e; exact fun x hx => (it3 x hx).2)⟩
       | 6, _ => exact ⟨_, _, atI_nat (j := 6) rfl, (.int 5), ⟨okd_by (by decide +kernel), fun rs g e => by cases e⟩⟩
       | 7, _ => exact ⟨_, _, atI_nat (j := 7) rfl, (.str ""), ⟨okd_by (by decide +kernel), fun rs g e => by cases e⟩⟩
      exact ⟨pl, _, r2, v', rfl, rfl, SqL.of e3, at', q v' d' H3 l3 k3 da' rg' (by omega) B.d⟩
    · refine iteF' (by simp [c0]) ?_
      refine ⟨_, rfl, rfl, _, rfl, ?_⟩
      by_cases c1 : r1 = 1
      · refine iteT' (by simp [c1]) ?_
        refine ⟨1, rfl, (by show 7 ≤ sizeLine; decide), fun p1 h1 => ?_⟩
        have B2 := B1.laid (o := HO.lst [V.non, V.int (-1), V.int 200, V.bl true, V.str "0", V.int 0, V.int 199]) h1
        have np1 := N1.l_some h1
        have u1 := same_upd (o := HO.lst [V.non, V.int (-1), V.int 200, V.bl true, V.str "0", V.int 0, V.int 199]) h1
        have ep1 : ∀ HH : Hp, upd HH p1 (HO.lst [V.non, V.int (-1), V.int 200, V.bl true, V.str "0", V.int 0, V.int 199]) p1 = some (HO.lst [V.non, V.int (-1), V.int 200, V.bl true, V.str "0", V.int 0, V.int 199]) := fun HH => upd_same
        refine ⟨_, rfl, _, rfl, _, rfl, _, rfl, m, c, l1, k1, 7, rfl, B2.d.at_, by decide, by decide, by omega, fun r2 H3 l3 k3 a3 b3 g3 N3 f3 q3 => ?_⟩
        have d3 : Dr _ H3 m c l1 l3 k3 := ⟨N3, f3, q3⟩
        obtain ⟨e3, _⟩ := d3.lst B2.d.at_ (ep1 _) np1
        have hga3 := d3.tup B2.d.at_ (u1 _ _ hga)
        have T3 := (rt_same u1).trans (rt_dr d3)
        have gall3 := DaAll.same T3 _ _ gall
        have B3 := B2.draw d3
        obtain ⟨v', d', at', da', ok'⟩ : ∃ v' d', atI [V.non, V.int (-1), V.int 200, V.bl true, V.str "0", V.int 0, V.int 199] r2 = some v' ∧ Da (rt H3 m l3) v' d' ∧ Okd d' 12 0 := by
          obtain ⟨j, rfl⟩ := Int.eq_ofNat_of_zero_le a3
          have jl : j < 7 := by omega
          match j, jl with
          | 0, _ => exact ⟨_, _, atI_nat (j := 0) rfl, .non, okd_by (by decide +kernel)⟩
          | 1, _ => exact ⟨_, _, atI_nat (j := 1) rfl, .int _, okd_by (by decide +kernel)⟩
          | 2, _ => exact ⟨_, _, atI_nat (j := 2) rfl, .int _, okd_by (by decide +kernel)⟩
          | 3, _ => exact ⟨_, _, atI_nat (j := 3) rfl, .bl _, okd_by (by decide +kernel)⟩
          | 4, _ => exact ⟨_, _, atI_nat (j := 4) rfl, .str _, okd_by (by decide +kernel)⟩
          | 5, _ => exact ⟨_, _, atI_nat (j := 5) rfl, .int _, okd_by (by decide +kernel)⟩
          | 6, _ => exact ⟨_, _, atI_nat (j := 6) rfl, .int _, okd_by (by decide +kernel)⟩
        refine ⟨p1, _, r2, v', rfl, rfl, SqL.of e3, at', ⟨(by show 1 ≤ sizeLine; decide), fun p2 h2 => ?_⟩⟩
        have u2 := same_upd (o := HO.tup [v']) h2
        refine ⟨ga, p2, _, _, rfl, rfl, u2 _ _ hga3, upd_same, big (by rw [gvl]; show gs.length + 1 ≤ 200; omega), fun p3 H5 s5 e5 => ?_⟩
        have s35 := u2.trans s5
        have B4 := (B3.same s35).wher (Same.refl _) e5 ((DaAll.same (rt_same s35) _ _ gall3).app (.cons (Da.same (rt_same s35) _ _ da') .nil))
        refine ⟨(by show 2 ≤ sizeLine; decide), fun p4 h4 => ?_⟩
        have B5 := B4.tup h4 (.cons (B4.at_ 1 rfl rfl) (.cons (B4.at_ 3 rfl rfl) .nil))
        exact q _ _ _ l3 k3 (B5.at_ 4 rfl rfl) (pairR _ _ okR0 (okGt _ (fun x hx => by
          rcases List.mem_append.mp hx with hx | hx
          · exact okG x hx
          · obtain rfl := List.mem_singleton.mp hx
            exact ok') (by rw [List.length_append, List.length_map]; show gs.length + 1 ≤ 10; omega)) fun ds e => by cases e; exact fun x hx => (it3 x hx).2) (by omega) B5.d
      · refine iteF' (by simp [c1]) ?_
        refine ⟨_, rfl, rfl, _, rfl, ?_⟩
        by_cases c2 : r1 = 2
        · refine iteT' (by simp [c2]) ?_
          have sz0 := Same.refl H1
          refine ⟨_, rfl, 1, rfl, _, rfl, rfl, ra, rv, rfl, sz0 _ _ hra, fun p1 h1 => ⟨_, rfl, 1, rfl, _, rfl, rfl, ga, gv, rfl, same_upd h1 _ _ (sz0 _ _ hga), fun p2 h2 => ⟨(by show 2 ≤ sizeLine; decide), fun p3 h3 => ?_⟩⟩⟩
          have B2 := (B1.same sz0).tup h1 (DaAll.same (rt_same sz0) _ _ rall).rev
          have s2 := sz0.trans (same_upd (o := HO.tup rv.reverse) h1)
          have B3 := B2.tup h2 (DaAll.same (rt_same s2) _ _ gall).rev
          have B4 := B3.tup h3 (.cons (B3.at_ 3 rfl rfl) (.cons (B3.at_ 4 rfl rfl) .nil))
          exact q _ _ _ l1 k1 (B4.at_ 5 rfl rfl) (pairR _ _ (okR _ (fun x hx => it3 x (List.mem_reverse.mp hx)) (by rw [List.length_reverse, List.length_map]; omega)) (okGt _ (fun x hx => okG x (List.mem_reverse.mp hx)) (by rw [List.length_reverse, List.length_map]; omega)) fun ds e => by cases e; exact fun x hx => (it3 x (List.mem_reverse.mp hx)).2) (by omega) B4.d
        · refine iteF' (by simp [c2]) ?_
          refine ⟨_, rfl, (by decide), fun p0 h0 => ?_⟩
          have sz0 := same_upd (o := HO.tup []) h0
          refine ⟨.tuple (rx.map d3), .tuple [], Da.dp _ _ (Da.same (rt_sub.trans sz0) _ _ (B1.at_ 1 rfl rfl)), .tup (SqT.of upd_same) .nil, okR0.shaped (by decide), shaped_nilT, _, rfl, ?_⟩
          rw [eqv_nilT]
          by_cases ce : rx = []
          · refine iteT' (by rw [ce]; rfl) ?_
            refine ⟨_, rfl, 1, rfl, _, rfl, rfl, ra, rv, rfl, sz0 _ _ hra, fun p1 h1 => ⟨_, rfl, 1, rfl, _, rfl, rfl, ga, gv, rfl, same_upd h1 _ _ (sz0 _ _ hga), fun p2 h2 => ⟨(by show 2 ≤ sizeLine; decide), fun p3 h3 => ?_⟩⟩⟩
            have B2 := (B1.same sz0).tup h1 (DaAll.same (rt_same sz0) _ _ rall).rev
            have s2 := sz0.trans (same_upd (o := HO.tup rv.reverse) h1)
            have B3 := B2.tup h2 (DaAll.same (rt_same s2) _ _ gall).rev
            have B4 := B3.tup h3 (.cons (B3.at_ 3 rfl rfl) (.cons (B3.at_ 4 rfl rfl) .nil))
            exact q _ _ _ l1 k1 (B4.at_ 5 rfl rfl) (pairR _ _ (okR _ (fun x hx => it3 x (List.mem_reverse.mp hx)) (by rw [List.length_reverse, List.length_map]; omega)) (okGt _ (fun x hx => okG x (List.mem_reverse.mp hx)) (by rw [List.length_reverse, List.length_map]; omega)) fun ds e => by cases e; exact fun x hx => (it3 x (List.mem_reverse.mp hx)).2) (by omega) B4.d
          · refine iteF' (by cases rx with | nil => exact absurd rfl ce | cons _ _ => rfl) ?_
            have pos : 0 < rx.length := List.length_pos_iff.mpr ce
            have D0 := (Dr.refl N1).same sz0
            generalize upd H1 p0 (HO.tup []) = H2 at sz0 D0 ⊢
            have ra2 := sz0 _ _ hra
            refine ⟨_, rfl, _, rfl, ra, _, rfl, .inr (SqT.of ra2), m, c, l1, k1, _, rfl, D0.at_, by rw [rvl]; omega, by rw [rvl]; omega, by omega, fun r2 H3 l3 k3 a3 b3 g3 N3 f3 q3 => ?_⟩
            have D3 : Dr H1 H3 m c l1 l3 k3 := D0.trans ⟨N3, f3, q3⟩
            obtain ⟨j, rfl⟩ := Int.eq_ofNat_of_zero_le a3
            have jl : j < rx.length := by rw [rvl] at b3; omega
            obtain ⟨x, hx⟩ : ∃ x, rx[j]? = some x := ⟨_, List.getElem?_eq_getElem jl⟩
            have xm := List.mem_of_getElem? hx
            obtain ⟨x1, x2, qq, rr, e1, e2, e3, e4, _⟩ := kp.at_ x xm
            obtain ⟨t, hvt, hat⟩ : ∃ t : Addr, rv[j]? = some (.ref t) ∧ rt H1 m l1 t = some (.tup [.int x.1, .str x.2.1, .int x.2.2]) := by
              obtain ⟨vv, h1, h2⟩ := rall.at' (i := j) (by rw [List.getElem?_map, hx]; rfl)
              obtain ⟨t, rfl, h3⟩ := rule_at h2 (rule_d3 kp n5 xm)
              exact ⟨t, h1, h3⟩
            have hat3 := D3.tup N1 (rt_sub _ _ hat)
            have hra3 := D3.tup N1 hra
            refine ⟨_, rfl, _, rfl, ra, _, (j : Int), .ref t, rfl, rfl, SqT.of hra3, atI_nat hvt, t, _, rfl, SqT.of hat3, rfl, _, _, rfl, _, _, rfl, _, _, rfl, rfl, ?_⟩
            -- what is told at last
            have last : ∀ (H9 : Hp) (l9 : Addr) (k9 : Int), Dr H1 H9 m c l1 l9 k9 → k9 ≤ k + 8 → ∀ (pe : Addr) (vs : List V) (ds : List PyData), H9 pe = some (.tup vs) → DaAll (rt H9 m l9) vs ds → (∀ y ∈ ds, It y) → ds.length ≤ 20 → ∀ pf, H9 pf = none → Q (.ref pf) (upd H9 pf (.tup [.ref pe, .ref ga])) := by
              intro H9 l9 k9 D9 hk9 pe vs ds ee all okk le pf nf
              have B9 := (B1.draw D9).wher (Same.refl H9) ee all
              have B10 := B9.tup nf (.cons (B9.at_ 3 rfl rfl) (.cons (B9.at_ 2 rfl rfl) .nil))
              exact q _ _ _ l9 k9 (B10.at_ 4 rfl rfl) (pairR _ _ (okR _ okk le) okG0 fun ds e => by cases e; exact fun x hx => (okk x hx).2) (by omega) B10.d
            have rall9 : ∀ {H9 : Hp} {l9 : Addr} {k9 : Int}, Dr H1 H9 m c l1 l9 k9 → DaAll (rt H9 m l9) rv (rx.map d3) := fun D9 => DaAll.same (rt_dr D9) _ _ rall
            have aI : Okd (.int x.1) 35 1 := (okd_int (by omega) (by omega)).le (by decide) (by decide)
            have aT : Okd (.int x.2.2) 35 1 := (okd_int (by omega) (by omega)).le (by decide) (by decide)
            have aT1 : Okd (.int (x.2.2 + 1)) 35 1 := (okd_int (by omega) (by omega)).le (by decide) (by decide)
            have sl1 : x.2.1.length = 1 := by rw [e4]; exact (sgn_ok e3).2.1
            have aS0 : Okd (.str x.2.1) 12 0 := by rw [e4]; exact okd_str (m := 1) (sgn_ok e3).2.2 (Nat.le_of_eq (sgn_ok e3).2.1)
            have aS := aS0.le (m := 35) (dq := 1) (by decide) (by decide)
            have okT : ∀ ds : List PyData, (∀ y ∈ ds, Okd y 35 1) → ds.length ≤ 4 → Okd (.tuple ds) 200 2 := fun ds h hl => (okd_tuple (m := 4) h hl).le (by decide) (by decide)
            have ok3 : ∀ {u v z : PyData}, Okd u 35 1 → Okd v 35 1 → Okd z 35 1 → ∀ y ∈ [u, v, z], Okd y 35 1 := fun h1 h2 h3 y hy => by
              rcases List.mem_cons.mp hy with rfl | hy
              · exact h1
              · rcases List.mem_cons.mp hy with rfl | hy
                · exact h2
                · obtain rfl := List.mem_singleton.mp hy
                  exact h3
            have it3' : ∀ {u z : PyData} {y : Str}, Okd u 35 1 → Okd (.str y) 35 1 → Okd z 35 1 → y.length ≤ 1000 → It (.tuple [u, .str y, z]) := fun h1 h2 h3 hl => ⟨okT _ (ok3 h1 h2 h3) (by show 3 ≤ 4; decide), fun a x b e => by cases e; exact hl⟩
            have itN : ∀ {u v z : PyData}, Okd u 35 1 → Okd v 35 1 → Okd z 35 1 → (∀ y, v ≠ .str y) → It (.tuple [u, v, z]) := fun h1 h2 h3 hn => ⟨okT _ (ok3 h1 h2 h3) (by show 3 ≤ 4; decide), fun a x b e => by cases e; exact absurd rfl (hn x)⟩
            have C0 : Bx H1 H3 m c l1 l3 k3 [] [] := ⟨D3, .nil⟩
            have i1 : ∀ HH : Hp, Da HH (.int x.1) (.int x.1) := fun _ => .int _
            refine ⟨_, rfl, _, rfl, (by show 2 ≤ sizeLine; decide), fun p1 h1 => ?_⟩
            have C1 := C0.tup h1 (.cons (.int x.1) (.cons (.str x.2.1) .nil))
            refine ⟨_, rfl, _, rfl, _, rfl, (by show 4 ≤ sizeLine; decide), fun p2 h2 => ?_⟩
            have C2 := C1.tup h2 (.cons (.int x.1) (.cons (.str x.2.1) (.cons (.int x.2.2) (.cons (.int 0) .nil))))
            refine ⟨_, rfl, _, rfl, _, rfl, (by show 3 ≤ sizeLine; decide), fun p3 h3 => ?_⟩
            have C3 := C2.lst h3 (.cons (.int x.1) (.cons (.str x.2.1) (.cons (.int x.2.2) .nil)))
            refine ⟨_, rfl, _, rfl, (by show 3 ≤ sizeLine; decide), fun p4 h4 => ?_⟩
            have C4 := C3.tup h4 (.cons (.int 200) (.cons (.str x.2.1) (.cons (.int x.2.2) .nil)))
            refine ⟨_, rfl, _, rfl, (by show 3 ≤ sizeLine; decide), fun p5 h5 => ?_⟩
            have C5 := C4.tup h5 (.cons (.int x.1) (.cons (.str "A") (.cons (.int x.2.2) .nil)))
            refine ⟨(by show 6 ≤ sizeLine; decide), fun q1 n1 => ?_⟩
            have C6 := C5.laid (o := HO.lst [V.non, .ref p1, .ref p2, .ref p3, .ref p4, .ref p5]) n1
            have f1 : ∀ HH : Hp, upd HH q1 (HO.lst [V.non, .ref p1, .ref p2, .ref p3, .ref p4, .ref p5]) q1 = some (HO.lst [V.non, .ref p1, .ref p2, .ref p3, .ref p4, .ref p5]) := fun _ => upd_same
            refine ⟨_, rfl, _, rfl, _, rfl, (by show 3 ≤ sizeLine; decide), fun p6 h6 => ?_⟩
            have C7 := C6.tup h6 (.cons (.int x.1) (.cons (.str ";") (.cons (.int x.2.2) .nil)))
            have f2 := same_upd (o := HO.tup [V.int x.1, V.str ";", V.int x.2.2]) h6 _ _ (f1 _)
            refine ⟨_, rfl, _, rfl, (by show 3 ≤ sizeLine; decide), fun p7 h7 => ?_⟩
            have C8 := C7.tup h7 (.cons (.int x.1) (.cons (.str "ab") (.cons (.int x.2.2) .nil)))
            have f3 := same_upd (o := HO.tup [V.int x.1, V.str "ab", V.int x.2.2]) h7 _ _ f2
            refine ⟨_, rfl, _, rfl, (by show 3 ≤ sizeLine; decide), fun p8 h8 => ?_⟩
            have C9 := C8.tup h8 (.cons (.int x.1) (.cons (.str "") (.cons (.int x.2.2) .nil)))
            have f4 := same_upd (o := HO.tup [V.int x.1, V.str "", V.int x.2.2]) h8 _ _ f3
            refine ⟨_, rfl, _, rfl, 1, rfl, (by show 3 ≤ sizeLine; decide), fun p9 h9 => ?_⟩
            have C10 := C9.tup h9 (.cons (.int x.1) (.cons (.str x.2.1) (.cons (.int (-1)) .nil)))
            have f5 := same_upd (o := HO.tup [V.int x.1, V.str x.2.1, V.int (-1)]) h9 _ _ f4
            refine ⟨_, rfl, _, rfl, _, rfl, x.2.2, 1, rfl, rfl, (by show 3 ≤ sizeLine; decide), fun p10 h10 => ?_⟩
            have C11 := C10.tup h10 (.cons (.int x.1) (.cons (.str x.2.1) (.cons (.int (x.2.2 + 1)) .nil)))
            have f6 := same_upd (o := HO.tup [V.int x.1, V.str x.2.1, V.int (x.2.2 + 1)]) h10 _ _ f5
            refine ⟨(by show 5 ≤ sizeLine; decide), fun q2 n2 => ?_⟩
            have C12 := C11.laid (o := HO.lst [.ref p6, .ref p7, .ref p8, .ref p9, .ref p10]) n2
            have f7 := same_upd (o := HO.lst [.ref p6, .ref p7, .ref p8, .ref p9, .ref p10]) n2 _ _ f6
            refine ⟨q1, q2, _, _, rfl, rfl, f7, upd_same, by show 6 + 5 ≤ sizeLine; decide, fun q3 n3 => ?_⟩
            have C13 := C12.laid (o := HO.lst ([V.non, .ref p1, .ref p2, .ref p3, .ref p4, .ref p5] ++ [.ref p6, .ref p7, .ref p8, .ref p9, .ref p10])) n3
            have f8 : ∀ HH : Hp, upd HH q3 (HO.lst ([V.non, .ref p1, .ref p2, .ref p3, .ref p4, .ref p5] ++ [.ref p6, .ref p7, .ref p8, .ref p9, .ref p10])) q3 = some (HO.lst ([V.non, .ref p1, .ref p2, .ref p3, .ref p4, .ref p5] ++ [.ref p6, .ref p7, .ref p8, .ref p9, .ref p10])) := fun _ => upd_same
            refine ⟨_, rfl, _, rfl, _, rfl, (by show 3 ≤ sizeLine; decide), fun p11 h11 => ?_⟩
            have C14 := C13.tup h11 (.cons (.int x.1) (.cons .non (.cons (.int x.2.2) .nil)))
            have f9 := same_upd (o := HO.tup [V.int x.1, V.non, V.int x.2.2]) h11 _ _ (f8 _)
            refine ⟨_, rfl, _, rfl, (by show 3 ≤ sizeLine; decide), fun p12 h12 => ?_⟩
            have C15 := C14.tup h12 (.cons (.int x.1) (.cons (.int 5) (.cons (.int x.2.2) .nil)))
            have f10 := same_upd (o := HO.tup [V.int x.1, V.int 5, V.int x.2.2]) h12 _ _ f9
            refine ⟨_, rfl, _, rfl, (by show 1 ≤ sizeLine; decide), fun p13 h13 => ?_⟩
            have C16 := C15.lst h13 (.cons (.str x.2.1) .nil)
            have f11 := same_upd (o := HO.lst [V.str x.2.1]) h13 _ _ f10
            refine ⟨_, rfl, (by show 3 ≤ sizeLine; decide), fun p14 h14 => ?_⟩
            have C17 := C16.tup h14 (.cons (.int x.1) (.cons (C16.at_ 12 rfl rfl) (.cons (.int x.2.2) .nil)))
            have f12 := same_upd (o := HO.tup [V.int x.1, V.ref p13, V.int x.2.2]) h14 _ _ f11
            refine ⟨_, rfl, _, rfl, (by show 1 ≤ sizeLine; decide), fun p15 h15 => ?_⟩
            have C18 := C17.tup h15 (.cons (.str x.2.1) .nil)
            have f13 := same_upd (o := HO.tup [V.str x.2.1]) h15 _ _ f12
            refine ⟨_, rfl, (by show 3 ≤ sizeLine; decide), fun p16 h16 => ?_⟩
            have C19 := C18.tup h16 (.cons (.int x.1) (.cons (C18.at_ 14 rfl rfl) (.cons (.int x.2.2) .nil)))
            have f14 := same_upd (o := HO.tup [V.int x.1, V.ref p15, V.int x.2.2]) h16 _ _ f13
            refine ⟨(by show 4 ≤ sizeLine; decide), fun q4 n4 => ?_⟩
            have C20 := C19.laid (o := HO.lst [.ref p11, .ref p12, .ref p14, .ref p16]) n4
            have f15 := same_upd (o := HO.lst [.ref p11, .ref p12, .ref p14, .ref p16]) n4 _ _ f14
            refine ⟨q3, q4, _, _, rfl, rfl, f15, upd_same, by show 11 + 4 ≤ sizeLine; decide, fun q5 n5' => ?_⟩
            have C21 := C20.laid (o := HO.lst (([V.non, .ref p1, .ref p2, .ref p3, .ref p4, .ref p5] ++ [.ref p6, .ref p7, .ref p8, .ref p9, .ref p10]) ++ [.ref p11, .ref p12, .ref p14, .ref p16])) n5'
            have nq5 := C20.d.at_.l_some n5'
            have f16 : ∀ HH : Hp, upd HH q5 (HO.lst (([V.non, .ref p1, .ref p2, .ref p3, .ref p4, .ref p5] ++ [.ref p6, .ref p7, .ref p8, .ref p9, .ref p10]) ++ [.ref p11, .ref p12, .ref p14, .ref p16])) q5 = some (HO.lst [V.non, .ref p1, .ref p2, .ref p3, .ref p4, .ref p5, .ref p6, .ref p7, .ref p8, .ref p9, .ref p10, .ref p11, .ref p12, .ref p14, .ref p16]) := fun _ => upd_same
            have hraC := C21.d.tup N1 hra
            have hatC := C21.d.tup N1 (rt_sub _ _ hat)
            have tkI : ∀ n, (∀ y ∈ (rx.map d3).take n, It y) ∧ ∀ y ∈ (rx.map d3).drop n, It y := fun n => ⟨fun y hy => it3 y (List.mem_of_mem_take hy), fun y hy => it3 y (List.mem_of_mem_drop hy)⟩
            have lenM : (rx.map d3).length = rx.length := List.length_map _
            have mix : ∀ (n n' : Nat) (y : PyData), It y → (∀ z ∈ (rx.map d3).take n ++ [y] ++ (rx.map d3).drop n', It z) ∧ (n' ≤ n + 1 → True) := fun n n' y hy => ⟨fun z hz => by
              rcases List.mem_append.mp hz with hz | hz
              · rcases List.mem_append.mp hz with hz | hz
                · exact (tkI n).1 z hz
                · obtain rfl := List.mem_singleton.mp hz
                  exact hy
              · exact (tkI n').2 z hz, fun _ => trivial⟩
            have e1n : ((j : Int) + 1) = ((j + 1 : Nat) : Int) := by push_cast; rfl
            refine ⟨_, rfl, rfl, _, rfl, ?_⟩
            by_cases w3 : r1 = 3
            · refine iteT' (by simp [w3]) ?_
              refine ⟨_, rfl, _, rfl, _, rfl, ra, rv, rfl, hraC, fun pa Ha sa ea => ?_⟩
              rw [cutTo] at ea
              refine ⟨_, rfl, _, rfl, ra, _, (j : Int), .ref t, rfl, rfl, SqT.of (sa _ _ hraC), atI_nat hvt, (by show 1 ≤ sizeLine; decide), fun pb nb => ?_⟩
              have sb := sa.trans (same_upd (o := HO.tup [V.ref t]) nb)
              refine ⟨pa, pb, _, _, rfl, rfl, same_upd nb _ _ ea, upd_same, big (by rw [List.length_take]; show _ + 1 ≤ 200; omega), fun pc Hc sc ec => ?_⟩
              have s3 := sb.trans sc
              refine ⟨_, rfl, _, rfl, _, rfl, ra, rv, rfl, s3 _ _ hraC, fun pd Hd sd ed => ?_⟩
              rw [cutFrom] at ed
              refine ⟨pc, pd, _, _, rfl, rfl, sd _ _ ec, ed, big (by rw [List.length_append, List.length_take, List.length_drop]; show _ + 1 + _ ≤ 200; omega), fun pe He se ee => ?_⟩
              refine ⟨_, rfl, (by show 2 ≤ sizeLine; decide), fun pf nf => ?_⟩
              have D9 := C21.d.same (s3.trans (sd.trans se))
              exact last _ _ _ D9 (by omega) pe _ _ ee ((((rall9 D9).take j).app (.cons (.tup (D9.at_.rtt (D9.tup N1 (rt_sub _ _ hat))) (.cons (.int _) (.cons (.str _) (.cons (.int _) .nil)))) .nil)).app ((rall9 D9).drop j)) (mix j j _ (it3 _ (List.mem_map.mpr ⟨x, xm, rfl⟩))).1
                (by rw [List.length_append, List.length_append, List.length_take, List.length_drop]; show _ + 1 + _ ≤ 20; omega) pf nf
            · refine iteF' (by simp [w3]) ?_
              refine ⟨_, rfl, rfl, _, rfl, ?_⟩
              by_cases w4 : r1 = 4
              · refine iteT' (by simp [w4]) ?_
                refine ⟨_, rfl, _, rfl, _, 1, rfl, rfl, _, rfl, ra, rv, rfl, hraC, fun pa Ha sa ea => ?_⟩
                rw [e1n, cutTo] at ea
                refine ⟨_, rfl, _, rfl, _, rfl, x.2.2, 1, rfl, rfl, (by show 3 ≤ sizeLine; decide), fun pi ni => ⟨(by show 1 ≤ sizeLine; decide), fun pb nb => ?_⟩⟩
                have ui := same_upd (o := HO.tup [V.int x.1, V.str x.2.1, V.int (x.2.2 + 1)]) ni
                have ub := same_upd (o := HO.tup [V.ref pi]) nb
                have sb := (sa.trans ui).trans ub
                have epi := ub _ _ (upd_same (H := Ha) (a := pi) (o := HO.tup [V.int x.1, V.str x.2.1, V.int (x.2.2 + 1)]))
                refine ⟨pa, pb, _, _, rfl, rfl, ub _ _ (ui _ _ ea), upd_same, big (by rw [List.length_take]; show _ + 1 ≤ 200; omega), fun pc Hc sc ec => ?_⟩
                have s3 := sb.trans sc
                refine ⟨_, rfl, _, rfl, _, 1, rfl, rfl, _, rfl, ra, rv, rfl, s3 _ _ hraC, fun pd Hd sd ed => ?_⟩
                rw [e1n, cutFrom] at ed
                refine ⟨pc, pd, _, _, rfl, rfl, sd _ _ ec, ed, big (by rw [List.length_append, List.length_take, List.length_drop]; show _ + 1 + _ ≤ 200; omega), fun pe He se ee => ?_⟩
                refine ⟨_, rfl, (by show 2 ≤ sizeLine; decide), fun pf nf => ?_⟩
                have D9 := C21.d.same (s3.trans (sd.trans se))
                exact last _ _ _ D9 (by omega) pe _ _ ee ((((rall9 D9).take (j + 1)).app (.cons (.tup (D9.at_.rtt ((sc.trans (sd.trans se)) _ _ epi)) (.cons (.int x.1) (.cons (.str x.2.1) (.cons (.int (x.2.2 + 1)) .nil)))) .nil)).app ((rall9 D9).drop (j + 1))) (mix (j + 1) (j + 1) _ (it3' aI aS aT1 (by omega))).1
                  (by rw [List.length_append, List.length_append, List.length_take, List.length_drop]; show _ + 1 + _ ≤ 20; omega) pf nf
              · refine iteF' (by simp [w4]) ?_
                refine ⟨_, rfl, _, rfl, _, rfl, ra, rv, rfl, hraC, fun pa Ha sa ea => ?_⟩
                rw [cutTo] at ea
                have C22 := C21.same sa
                refine ⟨_, rfl, _, rfl, m, c, l3, k3, 15, rfl, C22.d.at_, by decide, by decide, by omega, fun r9 H9 l9 k9 a9 b9 g9 N9 f9 q9 => ?_⟩
                have d9 : Dr Ha H9 m c l3 l9 k9 := ⟨N9, f9, q9⟩
                obtain ⟨eq9, _⟩ := d9.lst C22.d.at_ (sa _ _ (f16 _)) nq5
                have C := C22.draw d9
                have ea9 := d9.tup C22.d.at_ ea
                have hra9 := C.d.tup N1 hra
                obtain ⟨v', d', at', da', it'⟩ : ∃ v' d', atI [V.non, .ref p1, .ref p2, .ref p3, .ref p4, .ref p5, .ref p6, .ref p7, .ref p8, .ref p9, .ref p10, .ref p11, .ref p12, .ref p14, .ref p16] r9 = some v' ∧ Da (rt H9 m l9) v' d' ∧ It d' := by
                  clear C0 C1 C2 C3 C4 C5 C6 C7 C8 C9 C10 C11 C12 C13 C14 C15 C16 C17 C18 C19 C20 C21 C22
                  obtain ⟨jj, rfl⟩ := Int.eq_ofNat_of_zero_le a9
                  have jl : jj < 15 := by omega
                  have oN : Okd .none 35 1 := okd_by (by decide +kernel)
                  match jj, jl with
                  | 0, _ => exact ⟨_, _, atI_nat (j := 0) rfl, .non, oN.le (by decide) (by decide), fun a x b e => by cases e⟩
                  | 1, _ => exact ⟨_, _, atI_nat (j := 1) rfl, C.at_ 0 rfl rfl, okT _ (fun y hy => by
                      rcases List.mem_cons.mp hy with rfl | hy
                      · exact aI
                      · obtain rfl := List.mem_singleton.mp hy
                        exact aS) (by show 2 ≤ 4; decide), fun a x b e => by cases e⟩
                  | 2, _ => exact ⟨_, _, atI_nat (j := 2) rfl, C.at_ 1 rfl rfl, okT _ (fun y hy => by
                      rcases List.mem_cons.mp hy with rfl | hy
                      · exact aI
                      · rcases List.mem_cons.mp hy with rfl | hy
                        · exact aS
                        · rcases List.mem_cons.mp hy with rfl | hy
                          · exact aT
                          · obtain rfl := List.mem_singleton.mp hy
                            exact okd_by (by decide +kernel)) (by show 4 ≤ 4; decide), fun a x b e => by cases e⟩
                  | 3, _ => exact ⟨_, _, atI_nat (j := 3) rfl, C.at_ 2 rfl rfl, (okd_list (n := 35) (dp := 1) (m := 3) (ok3 aI aS aT) (Nat.le_refl _)).le (by decide) (by decide), fun a x b e => by cases e⟩
                  | 4, _ => exact ⟨_, _, atI_nat (j := 4) rfl, C.at_ 3 rfl rfl, it3' (okd_by (by decide +kernel)) aS aT (by omega)⟩
                  | 5, _ => exact ⟨_, _, atI_nat (j := 5) rfl, C.at_ 4 rfl rfl, it3' aI (okd_by (by decide +kernel)) aT (by decide +kernel)⟩
                  | 6, _ => exact ⟨_, _, atI_nat (j := 6) rfl, C.at_ 5 rfl rfl, it3' aI (okd_by (by decide +kernel)) aT (by decide +kernel)⟩
                  | 7, _ => exact ⟨_, _, atI_nat (j := 7) rfl, C.at_ 6 rfl rfl, it3' aI (okd_by (by decide +kernel)) aT (by decide +kernel)⟩
                  | 8, _ => exact ⟨_, _, atI_nat (j := 8) rfl, C.at_ 7 rfl rfl, it3' aI (okd_by (by decide +kernel)) aT (by decide +kernel)⟩
                  | 9, _ => exact ⟨_, _, atI_nat (j := 9) rfl, C.at_ 8 rfl rfl, it3' aI aS (okd_by (by decide +kernel)) (by omega)⟩
                  | 10, _ => exact ⟨_, _, atI_nat (j := 10) rfl, C.at_ 9 rfl rfl, it3' aI aS aT1 (by omega)⟩
                  | 11, _ => exact ⟨_, _, atI_nat (j := 11) rfl, C.at_ 10 rfl rfl, itN aI oN aT (fun y e => by cases e)⟩
                  | 12, _ => exact ⟨_, _, atI_nat (j := 12) rfl, C.at_ 11 rfl rfl, itN aI (okd_by (by decide +kernel)) aT (fun y e => by cases e)⟩
                  | 13, _ => exact ⟨_, _, atI_nat (j := 13) rfl, C.at_ 13 rfl rfl, itN aI ((okd_list (n := 12) (dp := 0) (m := 1) (fun z hz => by obtain rfl := List.mem_singleton.mp hz; exact aS0) (Nat.le_refl _)).le (by decide) (by decide)) aT (fun y e => by cases e)⟩
                  | 14, _ => exact ⟨_, _, atI_nat (j := 14) rfl, C.at_ 15 rfl rfl, itN aI ((okd_tuple (n := 12) (dp := 0) (m := 1) (fun z hz => by obtain rfl := List.mem_singleton.mp hz; exact aS0) (Nat.le_refl _)).le (by decide) (by decide)) aT (fun y e => by cases e)⟩
                refine ⟨q5, _, r9, v', rfl, rfl, SqL.of eq9, at', (by show 1 ≤ sizeLine; decide), fun pb nb => ?_⟩
                have ub := same_upd (o := HO.tup [v']) nb
                refine ⟨pa, pb, _, _, rfl, rfl, ub _ _ ea9, upd_same, big (by rw [List.length_take]; show _ + 1 ≤ 200; omega), fun pc Hc sc ec => ?_⟩
                have s3 := ub.trans sc
                refine ⟨_, rfl, _, rfl, _, 1, rfl, rfl, _, rfl, ra, rv, rfl, s3 _ _ hra9, fun pd Hd sd ed => ?_⟩
                rw [e1n, cutFrom] at ed
                refine ⟨pc, pd, _, _, rfl, rfl, sd _ _ ec, ed, big (by rw [List.length_append, List.length_take, List.length_drop]; show _ + 1 + _ ≤ 200; omega), fun pe He se ee => ?_⟩
                refine ⟨_, rfl, (by show 2 ≤ sizeLine; decide), fun pf nf => ?_⟩
                have s9 := s3.trans (sd.trans se)
                have D9 := C.d.same s9
                exact last _ _ _ D9 (by omega) pe _ _ ee ((((rall9 D9).take j).app (.cons (Da.same (rt_same s9) _ _ da') .nil)).app ((rall9 D9).drop (j + 1))) (mix j (j + 1) _ it').1
                  (by rw [List.length_append, List.length_append, List.length_take, List.length_drop]; show _ + 1 + _ ≤ 20; omega) pf nf
end
end K06
set_option maxHeartbeats 8000000
/-! The law. -/
namespace K06
open PySem L2 L2.EV
abbrev sLaw : Stmt := top 81
abbrev NL : List Str := ["script", "m", "turn", "reader", "k", "thing", "due", "last", "way"]
structure Lall (K : PySem.W.Frag) (mg : Str → Option Value) where
  O : Ot K mg
  G : Lg K mg
  S : Lp K mg
  fB : Addr
  dB : FuncData
  Be : Fun K "_law_begun" "_law_begun" sBegun fB dB
  bB : Binds K dB ["script"] []
  mB : mg "_law_begun" = some (.ref fB)
  mi : mg "min" = none
  re : mg "repr" = none
def spLaw (K : PySem.W.Frag) : Sp := fun vs H Q _ => ∃ (a : Addr) (ns : List Int), vs = [.ref a] ∧ SqL K H a (ns.map V.int) ∧ ns.length ≤ 63 ∧ ∀ H', Q (.bl true) H'
theorem need_good {C : Addr} {v : V} {d : PyData} {H : Hp} {Q : VK} {E : XK} (da : Da H v d) (sz : SzR d) (e : ffD d = none) (q : ∀ H', Same H H' → Q v H') : spNeedR C [v] H Q E := by
  refine ⟨v, d, rfl, da, sz, ?_⟩
  rw [e]
  exact q
theorem fault_none {v : V} {d : PyData} {H : Hp} {Q : VK} {E : XK} (da : Da H v d) (sz : SzR d) (e : ffD d = none) (q : ∀ H', Same H H' → Q .non H') : spFaultL [v] H Q E := by
  refine ⟨v, d, rfl, da, sz, ?_⟩
  rw [e]
  exact q
theorem fault_some {v : V} {d : PyData} {H : Hp} {Q : VK} {E : XK} {r : Str × Option Nat} (da : Da H v d) (sz : SzR d) (e : ffD d = some r) (q : ∀ H' p, Same H H' → H' p = some (.tup [.str r.1, wv r.2]) → Q (.ref p) H') : spFaultL [v] H Q E := by
  refine ⟨v, d, rfl, da, sz, ?_⟩
  rw [e]
  exact q
def nd : Option Nat → PyData
  | none => .none
  | some i => .int (i : Int)
def ddR (r : Str × Option Nat) : PyData := .tuple [.str r.1, nd r.2]
theorem da_r {H : Hp} {p : Addr} {r : Str × Option Nat} (e : H p = some (.tup [.str r.1, wv r.2])) : Da H (.ref p) (ddR r) := by
  obtain ⟨a, b⟩ := r
  cases b with
  | none => exact .tup e (.cons (.str a) (.cons .non .nil))
  | some i => exact .tup e (.cons (.str a) (.cons (.int i) .nil))
theorem da_rs {H : Hp} {r : Str × Option Nat} : ∀ {ps : List Addr}, (∀ p ∈ ps, H p = some (.tup [.str r.1, wv r.2])) → DaAll H (ps.map V.ref) (List.replicate ps.length (ddR r))
  | [], _ => .nil
  | p :: ps, h => .cons (da_r (h p (List.mem_cons_self ..))) (da_rs fun x hx => h x (List.mem_cons_of_mem _ hx))
theorem eqv_r (r : Str × Option Nat) : PyData.eqv (ddR r) (ddR r) = true := by
  obtain ⟨a, b⟩ := r
  cases b <;> simp [ddR, nd, PyData.eqv, PyData.eqvAll]
theorem eqv_rs (r : Str × Option Nat) : ∀ n : Nat, PyData.eqvAll (List.replicate n (ddR r)) (List.replicate n (ddR r)) = true
  | 0 => by simp [PyData.eqvAll]
  | n + 1 => by
    rw [List.replicate_succ]
    simp only [PyData.eqvAll, eqv_r, eqv_rs r n, Bool.and_self]
theorem ff_part {d : PyData} {r : Str × Option Nat} (h : ffD d = some r) : r.1 = "form" ∨ r.1 = "rules" ∨ r.1 = "good" := by
  unfold ffD at h
  split at h
  · split at h
    · cases h
      exact .inr (.inl rfl)
    · split at h
      · cases h
        exact .inr (.inr rfl)
      · cases h
  · cases h
    exact .inl rfl
theorem shaped_rs {r : Str × Option Nat} (h : r.1 = "form" ∨ r.1 = "rules" ∨ r.1 = "good") (n : Nat) : SeqAt.shaped (.list (List.replicate n (ddR r))) = true := by
  have one : (ddR r).canLay0 = true ∧ (ddR r).depth ≤ 1 := by
    obtain ⟨a, b⟩ := r
    have h : a = "form" ∨ a = "rules" ∨ a = "good" := h
    rcases h with rfl | rfl | rfl <;> cases b <;> refine ⟨?_, ?_⟩ <;> simp [ddR, nd, PyData.canLay0, PyData.canLayAll0, PyData.depth, PyData.depthAll] <;> decide +kernel
  have all : ∀ n : Nat, PyData.canLayAll0 (List.replicate n (ddR r)) = true ∧ PyData.depthAll (List.replicate n (ddR r)) ≤ 1 := by
    intro n
    induction n with
    | zero => exact ⟨by simp [PyData.canLayAll0], by simp [PyData.depthAll]⟩
    | succ n ih =>
      rw [List.replicate_succ]
      refine ⟨by simp only [PyData.canLayAll0, one.1, ih.1, Bool.and_self], ?_⟩
      have := one.2
      have := ih.2
      simp only [PyData.depthAll]
      omega
  show (PyData.canLay0 (.list (List.replicate n (ddR r))) && decide (PyData.depth (.list (List.replicate n (ddR r))) ≤ 64)) = true
  have z := (all n).2
  have h1 : PyData.canLay0 (.list (List.replicate n (ddR r))) = true := by
    simp only [PyData.canLay0]
    exact (all n).1
  have h2 : PyData.depth (.list (List.replicate n (ddR r))) ≤ 64 := by
    simp only [PyData.depth]
    omega
  rw [h1, decide_eq_true h2]
  rfl
theorem ff_last : ffD (.tuple [.tuple [.tuple [.int 199, .str "z", .int 199]], .tuple [.int 0, .int 199]]) = none := by decide +kernel
theorem rd_g {d : PyData} (h : RdD d) : Okd d 20000 4 := by
  obtain ⟨n, rx, gs, rfl, n5, kp, gl, gg, gsr⟩ := h
  have rxl : rx.length ≤ 15 := by have := kp.len; omega
  have h1 : Okd (.tuple (rx.map d3)) 800 3 := (okd_tuple (n := 45) (dp := 1) (m := 15) (fun y hy => by
    obtain ⟨x, hx, rfl⟩ := List.mem_map.mp hy
    obtain ⟨x1, x2, qq, r, e1, e2, e3, e4, e5⟩ := kp.at_ x hx
    refine (okd_tuple (n := 12) (dp := 0) (m := 3) (fun z hz => ?_) (Nat.le_refl _)).le (by decide) (by decide)
    rcases List.mem_cons.mp hz with rfl | hz
    · exact (okd_int (by omega) (by omega)).le (by decide) (Nat.le_refl _)
    · rcases List.mem_cons.mp hz with rfl | hz
      · rw [e4]
        exact okd_str (m := 1) (sgn_ok e3).2.2 (Nat.le_of_eq (sgn_ok e3).2.1)
      · obtain rfl := List.mem_singleton.mp hz
        exact (okd_int (by omega) (by omega)).le (by decide) (Nat.le_refl _)) (by rw [List.length_map]; exact rxl)).le (by decide) (by decide)
  have h2 : Okd (.tuple (gs.map PyData.int)) 800 3 := (okd_tuple (n := 12) (dp := 0) (m := 5) (fun y hy => by
    obtain ⟨x, hx, rfl⟩ := List.mem_map.mp hy
    obtain ⟨g1, g2⟩ := gg x hx
    exact (okd_int (by omega) (by omega)).le (by decide) (Nat.le_refl _)) (by rw [List.length_map]; exact gl)).le (by decide) (by decide)
  refine (okd_tuple (n := 800) (dp := 3) (m := 2) (fun z hz => ?_) (Nat.le_refl _)).le (by decide) (by decide)
  rcases List.mem_cons.mp hz with rfl | hz
  · exact h1
  · obtain rfl := List.mem_singleton.mp hz
    exact h2
theorem lenok {d : PyData} (o : Okd d 20000 4) : d.shown.length ≤ sizeLine := by
  have := o.sz
  rw [sizeLine_eq]
  omega
theorem dpok {d : PyData} (o : Okd d 20000 4) : d.depth ≤ 5 := Nat.le_trans o.dp (by decide)
section
variable {P : Program} {w : World} {K : PySem.W.Frag} {mg : Str → Option Value} {base : Heap}
theorem scLaw : FnScope NL ["script"] (defScope sLaw) := ⟨rfl, rfl, rfl, by decide +kernel, rfl, by decide +kernel, by decide +kernel⟩
theorem ok_law (L : Lall K mg) {f : Addr} {fd : FuncData} (F : Fun K "law" "law" sLaw f fd) : FnG P w K mg base CX0 8 f fd ["script"] (spLaw K) := by
  have GB : FnOk P w K mg base CX0 1 L.fB L.dB ["script"] (spBegun K) := ok_begun L.Be L.S.L.T
  have GX : FnOk P w K mg base CX0 1 L.S.L.f1 L.S.L.d1 ["m", "many"] spNext := ok_next L.S.L.N L.S.L.T
  have GM : FnOk P w K mg base CX0 2 L.S.L.f2 L.S.L.d2 ["m", "many"] spSome := ok_some L.S.L
  have GP : FnOk P w K mg base CX0 2 L.S.f L.S.d ["m", "reader"] spSpoil := ok_spoil L.S
  have GF : FnOk P w K mg base CX0 3 L.G.f3 L.G.d3 ["thing"] spFaultL := ok_lfault L.G
  have GO : FnOk P w K mg base CX0 7 L.O.f L.O.d ["way", "thing"] spOut := ok_out L.O
  have GR : FnOk P w K mg base (L2.CX P w) 3 L.O.A.S.fR L.O.A.S.dR ["thing"] (spNeedR L.O.A.S.R.B.C) := ok_needR L.O.A.S.R L.O.A.S.RD
  refine okG F scLaw (fun vs H Q E h => ?_) (fun cdv A outer s H vs Q E hr hgd h => ?_)
  · obtain ⟨a, ns, rfl, _⟩ := h
    rfl
  · obtain ⟨a, ns, rfl, hS, hlen, q⟩ := h
    have gd : (A.deeper (PyProof.Rows.envOfC "law" (defScope sLaw) s.heap.objs.size f cdv)).guards = some [] := hgd
    have hu64 := hr.units
    have r1 := hr.mono (j := 1) (by decide)
    have r2 := hr.mono (j := 2) (by decide)
    have r3 := hr.mono (j := 3) (by decide)
    refine ⟨_, pss_cons (ps_set (i := 1) scLaw.nd rfl (Or.inl rfl) (pe_call GB r1 (by rfl) L.mB L.Be.kp L.bB .nil pass0 (pa_cons (pv 0) pa_nil)))
      (pss_cons (ps_for PassesOwn.never rfl (pi_range1 (by rfl) L.S.L.ra (pa_cons (pe_op op_add pe_int (pe_callB (call_min2 rfl) (by rfl) L.mi (by decide +kernel) (pa_cons (pe_callB call_len_seq (by rfl) L.S.L.T.len PySem.boot_len (pa_cons (pv 0) pa_nil)) (pa_cons pe_int pa_nil)))) pa_nil)) (pg_name (i := 2) scLaw.nd rfl (Or.inl rfl)) (pss_cons (ps_set (i := 3) scLaw.nd rfl (Or.inl rfl) (pe_call GM r2 (by rfl) L.S.L.mP L.S.L.P.kp L.S.L.bP .nil pass0 (pa_cons (pv 1) (pa_cons (pe_op op_add pe_int (pe_call GX r1 (by rfl) L.S.L.mN L.S.L.N.kp L.S.L.bN .nil pass0 (pa_cons (pv 1) (pa_cons pe_int pa_nil)))) pa_nil))))
      (pss_cons (ps_if (pw_or (pt_cmpR op_notN (pe_call GF r3 (by rfl) L.G.gF L.G.F.kp L.G.bF .nil pass0 (pa_cons (pv 3) pa_nil)) pe_non (nomark _)) (pw_or1 (pt_cmpR op_ne (pe_callB (call_showV gd hu64) (by rfl) L.re (by decide +kernel) (pa_cons (pe_call GR r3 (by rfl) L.O.A.S.mR L.O.A.S.RD.kp L.O.A.S.bR .nil passL (pa_cons (pv 3) pa_nil)) pa_nil)) (pe_callB (call_showV gd hu64) (by rfl) L.re (by decide +kernel) (pa_cons (pv 3) pa_nil)) (nomark _)))).pt (pss_one (ps_ret pe_bl)) pss_nil)
      (pss_one (ps_for PassesOwn.never rfl (pi_range1 (by rfl) L.S.L.ra (pa_cons pe_int pa_nil)) (pg_name (i := 4) scLaw.nd rfl (Or.inl rfl)) (pss_cons (ps_set (i := 5) scLaw.nd rfl (Or.inr rfl) (pe_call GP r2 (by rfl) L.S.g L.S.F.kp L.S.b .nil pass0 (pa_cons (pv 1) (pa_cons (pv 3) pa_nil))))
      (pss_cons (ps_set (i := 6) scLaw.nd rfl (Or.inl rfl) (pe_call GF r3 (by rfl) L.G.gF L.G.F.kp L.G.bF .nil pass0 (pa_cons (pv 5) pa_nil)))
      (pss_cons (ps_if (pw_and (pt_cmpR op_notN (pv 6) pe_non (nomark _)) (pw_and1 (pt_cmpR (op_neD hu64) (pe_lc (own := [("way", 8)]) (g := gName 8) rfl scLaw.nd (pi_range1 (by rfl) L.S.L.ra (pa_cons pe_int pa_nil)) (blkOk_by (N := NL) (sc := defScope sLaw) (by decide +kernel)) (fun _ _ _ _ _ => pg_name (i := 8) scLaw.nd rfl (Or.inl rfl)) (fun _ _ _ _ _ => pts_nil) (fun _ _ _ _ _ => pe_call GO hr (by rfl) L.O.m L.O.F.kp L.O.b .nil pass0 (pa_cons (pv 8) (pa_cons (pv 5) pa_nil)))) (pe_op op_rep (pe_lst (pa_cons (pv 6) pa_nil)) pe_int) (nomark _)))).pt (pss_one (ps_ret pe_bl)) pss_nil)
      (pss_one (ps_if (pw_and (pt_cmpR op_isN (pv 6) pe_non (nomark _)) (pw_and1 (pt_cmpR op_ne (pe_callB (call_showV gd hu64) (by rfl) L.re (by decide +kernel) (pa_cons (pe_call GR r3 (by rfl) L.O.A.S.mR L.O.A.S.RD.kp L.O.A.S.bR .nil passL (pa_cons (pv 5) pa_nil)) pa_nil)) (pe_callB (call_showV gd hu64) (by rfl) L.re (by decide +kernel) (pa_cons (pv 5) pa_nil)) (nomark _)))).pt (pss_one (ps_ret pe_bl)) pss_nil))))))))))
      (pss_cons (ps_set (i := 7) scLaw.nd rfl (Or.inl rfl) (pe_tup (pa_cons (pe_tup (pa_cons (pe_tup (pa_cons pe_int (pa_cons pe_str (pa_cons pe_int pa_nil)))) pa_nil)) (pa_cons (pe_tup (pa_cons pe_int (pa_cons pe_int pa_nil))) pa_nil))))
      (pss_one (ps_ret (pe_and (pe_cmpR (op_eqD hu64) (pe_call GR r3 (by rfl) L.O.A.S.mR L.O.A.S.RD.kp L.O.A.S.bR .nil passL (pa_cons (pe_tup (pa_cons (pe_tup pa_nil) (pa_cons (pe_tup pa_nil) pa_nil))) pa_nil)) (pe_tup (pa_cons (pe_tup pa_nil) (pa_cons (pe_tup pa_nil) pa_nil))) (nomark _)) (pe_one (pe_cmpR (op_eqD hu64) (pe_call GR r3 (by rfl) L.O.A.S.mR L.O.A.S.RD.kp L.O.A.S.bR .nil passL (pa_cons (pv 7) pa_nil)) (pv 7) (nomark _)))))))), ?_⟩
    refine ⟨_, rfl, a, ns, rfl, hS, by omega, fun m mc l0 H0 M0 hm hmc hl sm0 => ?_⟩
    have nl : (ns.map V.int).length ≤ 63 := by rw [List.length_map]; exact hlen
    refine ⟨_, rfl, a, _, rfl, .inl (sm0.seq hS), _, 4, rfl, 2, _, rfl, rfl, _, rfl, by split <;> omega, by split <;> omega, ?_⟩
    have hN : (2 + if (4 : Int) < ((ns.map V.int).length : Nat) then 4 else (((ns.map V.int).length : Nat) : Int)).toNat ≤ 6 := by split <;> omega
    generalize (2 + if (4 : Int) < ((ns.map V.int).length : Nat) then 4 else (((ns.map V.int).length : Nat) : Int)).toNat = N at hN ⊢
    refine for_it walk_range (fun i σ H' => ∃ (v2 v3 v4 v5 v6 : Option V) (l : Addr) (k : Int), σ = [some (.ref a), some (.ref m), v2, v3, v4, v5, v6, none, none] ∧ MAt H' m mc l k ∧ k ≤ 1000 * i)
      ⟨none, none, none, none, none, l0, 0, rfl, M0, by omega⟩ (fun _ _ _ _ _ => trivial) ?_ ?_
    · rintro i x σ H1 H1' hi ⟨v2, v3, v4, v5, v6, l1, k1, rfl, M1, kk1⟩ ⟨rfl, rfl⟩
      refine ⟨_, rfl, _, rfl, m, mc, l1, k1, 5, rfl, M1, by decide, by decide, by omega, fun r2' H2 l2 k2 a2 b2 g2 N2 f2 q2 => ?_⟩
      obtain ⟨n2, rfl⟩ := Int.eq_ofNat_of_zero_le a2
      refine ⟨1, n2, rfl, rfl, m, mc, l2, k2, 1 + n2, by rw [Int.natCast_add]; rfl, N2, by omega, by omega, by omega, fun v d H3 l3 k3 da rd kk3 D3 => ?_⟩
      have dv := Da.same rt_sub _ _ da
      have sz := rd_sz rd
      have ok := rd_ok rd
      have og := rd_g rd
      have M3 := D3.at_
      refine ⟨_, rfl, ?_⟩
      refine ⟨v, d, rfl, dv, sz, ?_⟩
      rw [ok]
      intro H4 s4
      refine ⟨rfl, _, rfl, iteF' (by simp) ?_⟩
      have dv4 := Da.same s4 _ _ dv
      refine ⟨_, rfl, ?_⟩
      refine ⟨v, d, rfl, dv4, sz, ?_⟩
      rw [ok]
      intro H5 s5
      refine ⟨v, d, rfl, Da.dp _ _ (Da.same s5 _ _ dv4), og.sh, og.nd, lenok og, dpok og, ⟨_, rfl, v, d, rfl, Da.dp _ _ (Da.same s5 _ _ dv4), og.sh, og.nd, lenok og, dpok og, ⟨rfl, _, rfl, iteF' (by simp) ?_⟩⟩⟩
      have s45 := s4.trans s5
      refine ⟨_, rfl, by decide, by decide, for_it walk_range (fun j σ H' => ∃ (v4 v5 v6 : Option V) (l : Addr) (k : Int), σ = [some (.ref a), some (.ref m), some (.int (0 + (i : Int))), some v, v4, v5, v6, none, none] ∧ MAt H' m mc l k ∧ k ≤ 1000 * i + 50 + 20 * j ∧ Da (rt H' m l) v d)
        ⟨v4, v5, v6, l3, k3, rfl, M3.same s45, by omega, Da.same (rt_same s45) _ _ da⟩ (fun _ _ _ _ _ => trivial) ?_ ?_⟩
      · rintro j x σ H6 H7 hj ⟨v4, v5, v6, l6, k6, rfl, M6, kk6, da6⟩ ⟨rfl, rfl⟩
        have j4 : j < 4 := hj
        refine ⟨_, rfl, _, rfl, m, mc, l6, k6, v, d, rfl, M6, by omega, da6, rd, fun v' d' H8 l8 k8 da8 rg8 kk8 D8 => ?_⟩
        have dv8 := Da.same rt_sub _ _ da8
        have daR8 := Da.same (rt_dr D8) _ _ da6
        have M8 := D8.at_
        cases ef : ffD d' with
        | none =>
          refine ⟨_, rfl, ?_⟩
          refine ⟨v', d', rfl, dv8, rg8.2, ?_⟩
          rw [ef]
          intro H9 s9
          refine ⟨_, rfl, rfl, _, rfl, iteF' (by simp) ?_⟩
          refine ⟨_, rfl, rfl, _, rfl, iteT' (by simp) ?_⟩
          have dv9 := Da.same s9 _ _ dv8
          refine ⟨_, rfl, ?_⟩
          refine ⟨v', d', rfl, dv9, rg8.2, ?_⟩
          rw [ef]
          intro H10 s10
          refine ⟨v', d', rfl, Da.dp _ _ (Da.same s10 _ _ dv9), rg8.1.sh, rg8.1.nd, lenok rg8.1, dpok rg8.1, ⟨_, rfl, v', d', rfl, Da.dp _ _ (Da.same s10 _ _ dv9), rg8.1.sh, rg8.1.nd, lenok rg8.1, dpok rg8.1, ⟨rfl, _, rfl, iteF' (by simp) ?_⟩⟩⟩
          exact ⟨_, _, _, l8, k8, rfl, M8.same (s9.trans s10), by omega, Da.same (rt_same (s9.trans s10)) _ _ daR8⟩
        | some r =>
          refine ⟨_, rfl, ?_⟩
          refine ⟨v', d', rfl, dv8, rg8.2, ?_⟩
          rw [ef]
          intro H9 pd s9 e9
          refine ⟨_, rfl, rfl, _, rfl, iteT' (by simp) ?_⟩
          refine ⟨_, rfl, by decide, by decide, fun D hD => ?_⟩
          refine lc_it walk_range (fun i H' => ∃ ps : List Addr, H' D = some (.lst (ps.map V.ref)) ∧ ps.length = i ∧ (∀ p ∈ ps, H' p = some (.tup [.str r.1, wv r.2])) ∧ Same H9 H') ⟨[], upd_same, rfl, (fun p h => by cases h), same_upd hD⟩ (fun _ _ _ _ => trivial) ?_ ?_
          · rintro qi x Ha Hb hq ⟨ps, hDa, lp, hp, sa⟩ ⟨rfl, rfl⟩
            have q11 : qi < 11 := hq
            refine ⟨rfl, _, rfl, _, rfl, v', 0 + (qi : Int), d', r, rfl, by omega, by omega, Da.same (s9.trans sa) _ _ dv8, rg8.2, ef, fun Hc pc sc ec => ?_⟩
            have hDc := sc _ _ hDa
            refine ⟨_, hDc, by rw [List.length_map, sizeLine_eq]; omega, ps ++ [pc], by rw [List.map_append]; exact upd_same, by rw [List.length_append, lp]; rfl, fun p hp' => ?_, fun b o e => ?_⟩
            · have ep : Hc p = some (.tup [.str r.1, wv r.2]) := by
                rcases List.mem_append.mp hp' with h | h
                · exact sc _ _ (hp p h)
                · obtain rfl := List.mem_singleton.mp h
                  exact ec
              rw [upd_ne (ne_of ep hDc (fun z => by cases z))]
              exact ep
            · rw [upd_ne (ne_of_none e hD)]
              exact sc _ _ (sa _ _ e)
          · rintro Ha ⟨ps, hDa, lp, hp, sa⟩
            have lp : ps.length = 11 := lp
            refine ⟨_, rfl, (by show 1 ≤ sizeLine; decide), fun p1 n1 => ⟨p1, 11, _, rfl, rfl, upd_same, by decide, by decide, by show 1 * 11 ≤ sizeLine; decide, fun p2 n2 => ?_⟩⟩
            have u1 := same_upd (o := HO.lst [V.ref pd]) n1
            have u2 := same_upd (o := HO.lst ((List.replicate 11 pd).map V.ref)) n2
            have s12 := u1.trans u2
            have ed := s12 _ _ (sa _ _ e9)
            have hD2 := s12 _ _ hDa
            have al1 := da_rs (H := _) (r := r) (ps := ps) fun p h => s12 _ _ (hp p h)
            have al2 := da_rs (r := r) (ps := List.replicate 11 pd) fun p h => by
              obtain ⟨_, rfl⟩ := List.mem_replicate.mp h
              exact ed
            rw [lp] at al1
            rw [List.length_replicate] at al2
            have shp := shaped_rs (ff_part ef) 11
            refine ⟨.list (List.replicate 11 (ddR r)), .list (List.replicate 11 (ddR r)), Da.dp _ _ (.lst hD2 al1), Da.dp _ _ (.lst upd_same al2), shp, shp, _, rfl, iteF' (by simp only [PyData.eqv, eqv_rs]; rfl) ?_⟩
            refine ⟨_, rfl, rfl, _, rfl, iteF' (by simp) ?_⟩
            have s9a := (s9.trans sa).trans s12
            exact ⟨_, _, _, l8, k8, rfl, M8.same s9a, by omega, Da.same (rt_same s9a) _ _ daR8⟩
      · rintro σ H6 ⟨v4, v5, v6, l6, k6, rfl, M6, kk6, da6⟩
        exact ⟨_, _, _, _, _, l6, k6, rfl, M6, by omega⟩
    · rintro σ H1 ⟨v2, v3, v4, v5, v6, l1, k1, rfl, M1, kk1⟩
      clear M1 M0 sm0 hS
      refine ⟨(by decide), fun p1 h1 => ⟨(by show 1 ≤ sizeLine; decide), fun p2 h2 => ⟨(by decide), fun p3 h3 => ⟨(by show 2 ≤ sizeLine; decide), fun p4 h4 => ?_⟩⟩⟩⟩
      have daL : Da (upd (upd (upd (upd H1 p1 (.tup [V.int 199, V.str "z", V.int 199])) p2 (.tup [V.ref p1])) p3 (.tup [V.int 0, V.int 199])) p4 (.tup [V.ref p2, V.ref p3])) (.ref p4) (.tuple [.tuple [.tuple [.int 199, .str "z", .int 199]], .tuple [.int 0, .int 199]]) := by
        have u2 := same_upd (o := HO.tup [V.ref p1]) h2
        have u3 := same_upd (o := HO.tup [V.int 0, V.int 199]) h3
        have u4 := same_upd (o := HO.tup [V.ref p2, V.ref p3]) h4
        exact .tup upd_same (.cons (.tup (u4 _ _ (u3 _ _ upd_same)) (.cons (.tup (u4 _ _ (u3 _ _ (u2 _ _ upd_same))) (.cons (.int _) (.cons (.str _) (.cons (.int _) .nil)))) .nil)) (.cons (.tup (u4 _ _ upd_same) (.cons (.int _) (.cons (.int _) .nil))) .nil))
      generalize upd (upd (upd (upd H1 p1 (.tup [V.int 199, V.str "z", V.int 199])) p2 (.tup [V.ref p1])) p3 (.tup [V.int 0, V.int 199])) p4 (.tup [V.ref p2, V.ref p3]) = H2 at daL ⊢
      have emp : ∀ (HH : Hp) (a1 a2 a3 : Addr), HH a1 = none → upd HH a1 (.tup []) a2 = none → upd (upd HH a1 (.tup [])) a2 (.tup []) a3 = none → Da (upd (upd (upd HH a1 (.tup [])) a2 (.tup [])) a3 (.tup [V.ref a1, V.ref a2])) (.ref a3) (.tuple [.tuple [], .tuple []]) ∧ Same HH (upd (upd (upd HH a1 (.tup [])) a2 (.tup [])) a3 (.tup [V.ref a1, V.ref a2])) := fun HH a1 a2 a3 n1 n2 n3 => by
        have u1 := same_upd (o := HO.tup []) n1
        have u2 := same_upd (o := HO.tup []) n2
        have u3 := same_upd (o := HO.tup [V.ref a1, V.ref a2]) n3
        exact ⟨.tup upd_same (.cons (.tup (u3 _ _ (u2 _ _ upd_same)) .nil) (.cons (.tup (u3 _ _ upd_same) .nil) .nil)), (u1.trans u2).trans u3⟩
      refine ⟨(by decide), fun a1 n1 => ⟨(by decide), fun a2 n2 => ⟨(by show 2 ≤ sizeLine; decide), fun a3 n3 => ?_⟩⟩⟩
      obtain ⟨da1, s1⟩ := emp H2 a1 a2 a3 n1 n2 n3
      refine ⟨.ref a3, _, rfl, da1, (fun rs g e r hr => by cases e; cases hr), ?_⟩
      rw [ff_emp]
      intro H5 s5
      refine ⟨(by decide), fun b1 m1 => ⟨(by decide), fun b2 m2 => ⟨(by show 2 ≤ sizeLine; decide), fun b3 m3 => ?_⟩⟩⟩
      obtain ⟨da2, s2⟩ := emp H5 b1 b2 b3 m1 m2 m3
      refine ⟨_, _, Da.dp _ _ (Da.same (s5.trans s2) _ _ da1), Da.dp _ _ da2, by decide +kernel, by decide +kernel, _, rfl, iteT' (by decide +kernel) ?_⟩
      have daL2 := Da.same ((s1.trans s5).trans s2) _ _ daL
      refine ⟨_, rfl, ?_⟩
      refine ⟨.ref p4, _, rfl, daL2, (fun rs g e r hr => by
        cases e
        obtain rfl := List.mem_singleton.mp hr
        intro a x b e
        cases e
        decide +kernel), ?_⟩
      rw [ff_last]
      intro H6 s6
      have daL3 := Da.same s6 _ _ daL2
      refine ⟨_, rfl, _, _, Da.dp _ _ daL3, Da.dp _ _ daL3, by decide +kernel, by decide +kernel, ?_⟩
      have ev : PyData.eqv (.tuple [.tuple [.tuple [.int 199, .str "z", .int 199]], .tuple [.int 0, .int 199]]) (.tuple [.tuple [.tuple [.int 199, .str "z", .int 199]], .tuple [.int 0, .int 199]]) = true := by decide +kernel
      rw [ev]
      exact q _
end
end K06
set_option maxHeartbeats 8000000
/-! What the top has written. -/
namespace K06
open PySem L2 L2.EV PySem.Spec PyProof.Rows
theorem oxc {K : PySem.W.Frag} {C N : Addr} {nm q : Str} {bs : List Value} {sn : List Str} {sub : List Value} {ab : Bool} {col : Option Bool} {dd : Option Addr} {k0 k1 k2 k3 k5 : Option Value} {B newId initId : String} {bm : List Value}
    (cl : K.lookup C = some (excClassObj nm q C N bs bm true sn sub ab col dd k0 k1 k2 k3 k5 newId)) (F : ExcBaseFacts B newId initId bm) (pas : ∀ self, refuseLoop self "__setattr__" bm = pure ()) (obj : bm.contains (.type "object") = true)
    (sa : PySem.W.findIn K (.ref C) "__setattr__" = some (some (.builtin "object.__setattr__"))) (ga : PySem.W.findIn K (.ref C) "__getattribute__" = some (some (.builtin "BaseException.__getattribute__")))
    (gg : PySem.W.findIn K (.ref C) "__getattr__" = some none) (exC : PySem.W.subIn K (.ref C) (.type "BaseException") = some true) (kC : PySem.W.keepIn K (.ref C) = true) (hd : PySem.W.hasDictIn K C = true)
    (ca : PySem.W.findIn K (.ref C) "__class__" = some (some (.builtin "object.__class__"))) (cn : PySem.W.specialIn K (.builtin "object.__class__") "__get__" = some (some (.builtin "getset_descriptor.__get__")))
    (ct : PySem.W.takesIn K (.builtin "object.__class__") = some true) (om : PySem.W.mroIn K C (.type "object") = some true) : OxC K C B newId initId bm :=
  ⟨F, ⟨nm, q, N, bs, sn, sub, ab, col, dd, k0, k1, k2, k3, k5, cl⟩, pas, obj, sa, ga, gg, exC, kC, hd, ca, cn, ct, om⟩
theorem fund_mk {K : PySem.W.Frag} {x qual : Str} {st : Stmt} {f T : Addr} {oc toc : Value} {od an tod : Option Addr} {osl tsl : Array (Option Value)} {n : Nat} {kV doc pm cdv ct : Value} (l : K.lookup f = some ⟨oc, od, .func (PySem.W.fnOf x qual (defArgs st) (defBody st) (defScope st) (.ref T) kV doc pm an cdv ct), osl⟩)
    (t : K.lookup T = some ⟨toc, tod, .seq #[.none] n, tsl⟩) (c : PySem.W.codeIn K cdv qual = true) (k : PySem.W.keepIn K (.ref f) = true) :
    FunD K x qual (defArgs st) (defBody st) (defScope st) [V.non] [] f (PySem.W.fnOf x qual (defArgs st) (defBody st) (defScope st) (.ref T) kV doc pm an cdv ct) :=
  ⟨⟨oc, od, .ref T, kV, doc, pm, an, cdv, ct, osl, rfl, l, c, .inr ⟨by simp, T, _, [.none], n, rfl, t, rfl, .cons rfl .nil⟩, .inl rfl⟩, k⟩
theorem all_mk {P : Program} {w : World} {K : PySem.W.Frag} {h : Heap} {mg : Str → Option Value} {fa f_ini C nt T_xG T_xS f_iN f_iP f_iS f_iL f_iW f_iJ f_iF f_rU f_rN f_xT f_xP f_xI f_xW f_xC f_xA f_xK f_lB f_lN f_l0 f_l1 f_l2 f_l3 f_lM f_lP f_lQ f_lO f_la f_xG f_xS : Addr} {n_xG n_xS : Nat}
    {od_iN an_iN : Option Addr} {sl_iN : Array (Option Value)} {oc_iN kV_iN dc_iN pm_iN cd_iN ct_iN : Value}
    {od_iP an_iP : Option Addr} {sl_iP : Array (Option Value)} {oc_iP kV_iP dc_iP pm_iP cd_iP ct_iP : Value}
    {od_iS an_iS : Option Addr} {sl_iS : Array (Option Value)} {oc_iS kV_iS dc_iS pm_iS cd_iS ct_iS : Value}
    {od_iL an_iL : Option Addr} {sl_iL : Array (Option Value)} {oc_iL kV_iL dc_iL pm_iL cd_iL ct_iL : Value}
    {od_iW an_iW : Option Addr} {sl_iW : Array (Option Value)} {oc_iW kV_iW dc_iW pm_iW cd_iW ct_iW : Value}
    {od_iJ an_iJ : Option Addr} {sl_iJ : Array (Option Value)} {oc_iJ kV_iJ dc_iJ pm_iJ cd_iJ ct_iJ : Value}
    {od_iF an_iF : Option Addr} {sl_iF : Array (Option Value)} {oc_iF kV_iF dc_iF pm_iF cd_iF ct_iF : Value}
    {od_rU an_rU : Option Addr} {sl_rU : Array (Option Value)} {oc_rU kV_rU dc_rU pm_rU cd_rU ct_rU : Value}
    {od_rN an_rN : Option Addr} {sl_rN : Array (Option Value)} {oc_rN kV_rN dc_rN pm_rN cd_rN ct_rN : Value}
    {od_xT an_xT : Option Addr} {sl_xT : Array (Option Value)} {oc_xT kV_xT dc_xT pm_xT cd_xT ct_xT : Value}
    {od_xP an_xP : Option Addr} {sl_xP : Array (Option Value)} {oc_xP kV_xP dc_xP pm_xP cd_xP ct_xP : Value}
    {od_xI an_xI : Option Addr} {sl_xI : Array (Option Value)} {oc_xI kV_xI dc_xI pm_xI cd_xI ct_xI : Value}
    {od_xW an_xW : Option Addr} {sl_xW : Array (Option Value)} {oc_xW kV_xW dc_xW pm_xW cd_xW ct_xW : Value}
    {od_xC an_xC : Option Addr} {sl_xC : Array (Option Value)} {oc_xC kV_xC dc_xC pm_xC cd_xC ct_xC : Value}
    {od_xA an_xA : Option Addr} {sl_xA : Array (Option Value)} {oc_xA kV_xA dc_xA pm_xA cd_xA ct_xA : Value}
    {od_xK an_xK : Option Addr} {sl_xK : Array (Option Value)} {oc_xK kV_xK dc_xK pm_xK cd_xK ct_xK : Value}
    {od_lB an_lB : Option Addr} {sl_lB : Array (Option Value)} {oc_lB kV_lB dc_lB pm_lB cd_lB ct_lB : Value}
    {od_lN an_lN : Option Addr} {sl_lN : Array (Option Value)} {oc_lN kV_lN dc_lN pm_lN cd_lN ct_lN : Value}
    {od_l0 an_l0 : Option Addr} {sl_l0 : Array (Option Value)} {oc_l0 kV_l0 dc_l0 pm_l0 cd_l0 ct_l0 : Value}
    {od_l1 an_l1 : Option Addr} {sl_l1 : Array (Option Value)} {oc_l1 kV_l1 dc_l1 pm_l1 cd_l1 ct_l1 : Value}
    {od_l2 an_l2 : Option Addr} {sl_l2 : Array (Option Value)} {oc_l2 kV_l2 dc_l2 pm_l2 cd_l2 ct_l2 : Value}
    {od_l3 an_l3 : Option Addr} {sl_l3 : Array (Option Value)} {oc_l3 kV_l3 dc_l3 pm_l3 cd_l3 ct_l3 : Value}
    {od_lM an_lM : Option Addr} {sl_lM : Array (Option Value)} {oc_lM kV_lM dc_lM pm_lM cd_lM ct_lM : Value}
    {od_lP an_lP : Option Addr} {sl_lP : Array (Option Value)} {oc_lP kV_lP dc_lP pm_lP cd_lP ct_lP : Value}
    {od_lQ an_lQ : Option Addr} {sl_lQ : Array (Option Value)} {oc_lQ kV_lQ dc_lQ pm_lQ cd_lQ ct_lQ : Value}
    {od_lO an_lO : Option Addr} {sl_lO : Array (Option Value)} {oc_lO kV_lO dc_lO pm_lO cd_lO ct_lO : Value}
    {od_la an_la : Option Addr} {sl_la : Array (Option Value)} {oc_la kV_la dc_la pm_la cd_la ct_la : Value}
    {od_xG an_xG : Option Addr} {sl_xG : Array (Option Value)} {oc_xG kV_xG dc_xG pm_xG cd_xG ct_xG : Value}
    {od_xS an_xS : Option Addr} {sl_xS : Array (Option Value)} {oc_xS kV_xS dc_xS pm_xS cd_xS ct_xS : Value}
    {od_ini an_ini : Option Addr} {sl_ini : Array (Option Value)} {oc_ini kV_ini dc_ini pm_ini cd_ini ct_ini : Value}
    {to_xG : Value} {td_xG : Option Addr} {ts_xG : Array (Option Value)}
    {to_xS : Value} {td_xS : Option Addr} {ts_xS : Array (Option Value)}
    {t_vS : Tok}
    {t_vM : Tok}
    {t_vT : Tok}
    {t_vD : Tok}
    {t_vE : Tok}
    (X : K.In h) (G : h.Ns mainGlobals mg) (hfa : mg "law" = some (.ref fa))
    (a_iN : PySem.W.nsIn K mainGlobals "is_number" = some (some (.ref f_iN)))
    (l_iN : K.lookup f_iN = some ⟨oc_iN, od_iN, .func (PySem.W.fnOf "is_number" "is_number" (defArgs sNum) (defBody sNum) (defScope sNum) .none kV_iN dc_iN pm_iN an_iN cd_iN ct_iN), sl_iN⟩) (c_iN : PySem.W.codeIn K cd_iN "is_number" = true) (k_iN : PySem.W.keepIn K (.ref f_iN) = true)
    (a_iP : PySem.W.nsIn K mainGlobals "is_piece" = some (some (.ref f_iP)))
    (l_iP : K.lookup f_iP = some ⟨oc_iP, od_iP, .func (PySem.W.fnOf "is_piece" "is_piece" (defArgs sPc) (defBody sPc) (defScope sPc) .none kV_iP dc_iP pm_iP an_iP cd_iP ct_iP), sl_iP⟩) (c_iP : PySem.W.codeIn K cd_iP "is_piece" = true) (k_iP : PySem.W.keepIn K (.ref f_iP) = true)
    (a_iS : PySem.W.nsIn K mainGlobals "is_step" = some (some (.ref f_iS)))
    (l_iS : K.lookup f_iS = some ⟨oc_iS, od_iS, .func (PySem.W.fnOf "is_step" "is_step" (defArgs sStep) (defBody sStep) (defScope sStep) .none kV_iS dc_iS pm_iS an_iS cd_iS ct_iS), sl_iS⟩) (c_iS : PySem.W.codeIn K cd_iS "is_step" = true) (k_iS : PySem.W.keepIn K (.ref f_iS) = true)
    (a_iL : PySem.W.nsIn K mainGlobals "listed_standings" = some (some (.ref f_iL)))
    (l_iL : K.lookup f_iL = some ⟨oc_iL, od_iL, .func (PySem.W.fnOf "listed_standings" "listed_standings" (defArgs sListed) (defBody sListed) (defScope sListed) .none kV_iL dc_iL pm_iL an_iL cd_iL ct_iL), sl_iL⟩) (c_iL : PySem.W.codeIn K cd_iL "listed_standings" = true) (k_iL : PySem.W.keepIn K (.ref f_iL) = true)
    (a_iW : PySem.W.nsIn K mainGlobals "ways_from" = some (some (.ref f_iW)))
    (l_iW : K.lookup f_iW = some ⟨oc_iW, od_iW, .func (PySem.W.fnOf "ways_from" "ways_from" (defArgs sWays) (defBody sWays) (defScope sWays) .none kV_iW dc_iW pm_iW an_iW cd_iW ct_iW), sl_iW⟩) (c_iW : PySem.W.codeIn K cd_iW "ways_from" = true) (k_iW : PySem.W.keepIn K (.ref f_iW) = true)
    (a_iJ : PySem.W.nsIn K mainGlobals "is_joined" = some (some (.ref f_iJ)))
    (l_iJ : K.lookup f_iJ = some ⟨oc_iJ, od_iJ, .func (PySem.W.fnOf "is_joined" "is_joined" (defArgs sJoined) (defBody sJoined) (defScope sJoined) .none kV_iJ dc_iJ pm_iJ an_iJ cd_iJ ct_iJ), sl_iJ⟩) (c_iJ : PySem.W.codeIn K cd_iJ "is_joined" = true) (k_iJ : PySem.W.keepIn K (.ref f_iJ) = true)
    (a_iF : PySem.W.nsIn K mainGlobals "need_framing" = some (some (.ref f_iF)))
    (l_iF : K.lookup f_iF = some ⟨oc_iF, od_iF, .func (PySem.W.fnOf "need_framing" "need_framing" (defArgs sNeedF) (defBody sNeedF) (defScope sNeedF) .none kV_iF dc_iF pm_iF an_iF cd_iF ct_iF), sl_iF⟩) (c_iF : PySem.W.codeIn K cd_iF "need_framing" = true) (k_iF : PySem.W.keepIn K (.ref f_iF) = true)
    (a_rU : PySem.W.nsIn K mainGlobals "is_rule" = some (some (.ref f_rU)))
    (l_rU : K.lookup f_rU = some ⟨oc_rU, od_rU, .func (PySem.W.fnOf "is_rule" "is_rule" (defArgs sRule) (defBody sRule) (defScope sRule) .none kV_rU dc_rU pm_rU an_rU cd_rU ct_rU), sl_rU⟩) (c_rU : PySem.W.codeIn K cd_rU "is_rule" = true) (k_rU : PySem.W.keepIn K (.ref f_rU) = true)
    (a_rN : PySem.W.nsIn K mainGlobals "need_reader" = some (some (.ref f_rN)))
    (l_rN : K.lookup f_rN = some ⟨oc_rN, od_rN, .func (PySem.W.fnOf "need_reader" "need_reader" (defArgs sNeedR) (defBody sNeedR) (defScope sNeedR) .none kV_rN dc_rN pm_rN an_rN cd_rN ct_rN), sl_rN⟩) (c_rN : PySem.W.codeIn K cd_rN "need_reader" = true) (k_rN : PySem.W.keepIn K (.ref f_rN) = true)
    (a_xT : PySem.W.nsIn K mainGlobals "takes" = some (some (.ref f_xT)))
    (l_xT : K.lookup f_xT = some ⟨oc_xT, od_xT, .func (PySem.W.fnOf "takes" "takes" (defArgs sTX) (defBody sTX) (defScope sTX) .none kV_xT dc_xT pm_xT an_xT cd_xT ct_xT), sl_xT⟩) (c_xT : PySem.W.codeIn K cd_xT "takes" = true) (k_xT : PySem.W.keepIn K (.ref f_xT) = true)
    (a_xP : PySem.W.nsIn K mainGlobals "parting" = some (some (.ref f_xP)))
    (l_xP : K.lookup f_xP = some ⟨oc_xP, od_xP, .func (PySem.W.fnOf "parting" "parting" (defArgs sPX) (defBody sPX) (defScope sPX) .none kV_xP dc_xP pm_xP an_xP cd_xP ct_xP), sl_xP⟩) (c_xP : PySem.W.codeIn K cd_xP "parting" = true) (k_xP : PySem.W.keepIn K (.ref f_xP) = true)
    (a_xI : PySem.W.nsIn K mainGlobals "first_taken" = some (some (.ref f_xI)))
    (l_xI : K.lookup f_xI = some ⟨oc_xI, od_xI, .func (PySem.W.fnOf "first_taken" "first_taken" (defArgs sIX) (defBody sIX) (defScope sIX) .none kV_xI dc_xI pm_xI an_xI cd_xI ct_xI), sl_xI⟩) (c_xI : PySem.W.codeIn K cd_xI "first_taken" = true) (k_xI : PySem.W.keepIn K (.ref f_xI) = true)
    (a_xW : PySem.W.nsIn K mainGlobals "fewest_writers" = some (some (.ref f_xW)))
    (l_xW : K.lookup f_xW = some ⟨oc_xW, od_xW, .func (PySem.W.fnOf "fewest_writers" "fewest_writers" (defArgs sWX) (defBody sWX) (defScope sWX) .none kV_xW dc_xW pm_xW an_xW cd_xW ct_xW), sl_xW⟩) (c_xW : PySem.W.codeIn K cd_xW "fewest_writers" = true) (k_xW : PySem.W.keepIn K (.ref f_xW) = true)
    (a_xC : PySem.W.nsIn K mainGlobals "check_passing" = some (some (.ref f_xC)))
    (l_xC : K.lookup f_xC = some ⟨oc_xC, od_xC, .func (PySem.W.fnOf "check_passing" "check_passing" (defArgs sCX) (defBody sCX) (defScope sCX) .none kV_xC dc_xC pm_xC an_xC cd_xC ct_xC), sl_xC⟩) (c_xC : PySem.W.codeIn K cd_xC "check_passing" = true) (k_xC : PySem.W.keepIn K (.ref f_xC) = true)
    (a_xA : PySem.W.nsIn K mainGlobals "safety" = some (some (.ref f_xA)))
    (l_xA : K.lookup f_xA = some ⟨oc_xA, od_xA, .func (PySem.W.fnOf "safety" "safety" (defArgs sAX) (defBody sAX) (defScope sAX) .none kV_xA dc_xA pm_xA an_xA cd_xA ct_xA), sl_xA⟩) (c_xA : PySem.W.codeIn K cd_xA "safety" = true) (k_xA : PySem.W.keepIn K (.ref f_xA) = true)
    (a_xK : PySem.W.nsIn K mainGlobals "check_safety" = some (some (.ref f_xK)))
    (l_xK : K.lookup f_xK = some ⟨oc_xK, od_xK, .func (PySem.W.fnOf "check_safety" "check_safety" (defArgs sKX) (defBody sKX) (defScope sKX) .none kV_xK dc_xK pm_xK an_xK cd_xK ct_xK), sl_xK⟩) (c_xK : PySem.W.codeIn K cd_xK "check_safety" = true) (k_xK : PySem.W.keepIn K (.ref f_xK) = true)
    (a_lB : PySem.W.nsIn K mainGlobals "_law_begun" = some (some (.ref f_lB)))
    (l_lB : K.lookup f_lB = some ⟨oc_lB, od_lB, .func (PySem.W.fnOf "_law_begun" "_law_begun" (defArgs sBegun) (defBody sBegun) (defScope sBegun) .none kV_lB dc_lB pm_lB an_lB cd_lB ct_lB), sl_lB⟩) (c_lB : PySem.W.codeIn K cd_lB "_law_begun" = true) (k_lB : PySem.W.keepIn K (.ref f_lB) = true)
    (a_lN : PySem.W.nsIn K mainGlobals "_law_next" = some (some (.ref f_lN)))
    (l_lN : K.lookup f_lN = some ⟨oc_lN, od_lN, .func (PySem.W.fnOf "_law_next" "_law_next" (defArgs sNext) (defBody sNext) (defScope sNext) .none kV_lN dc_lN pm_lN an_lN cd_lN ct_lN), sl_lN⟩) (c_lN : PySem.W.codeIn K cd_lN "_law_next" = true) (k_lN : PySem.W.keepIn K (.ref f_lN) = true)
    (a_l0 : PySem.W.nsIn K mainGlobals "_law_signs" = some (some (.ref f_l0)))
    (l_l0 : K.lookup f_l0 = some ⟨oc_l0, od_l0, .func (PySem.W.fnOf "_law_signs" "_law_signs" (defArgs sSigns) (defBody sSigns) (defScope sSigns) .none kV_l0 dc_l0 pm_l0 an_l0 cd_l0 ct_l0), sl_l0⟩) (c_l0 : PySem.W.codeIn K cd_l0 "_law_signs" = true) (k_l0 : PySem.W.keepIn K (.ref f_l0) = true)
    (a_l1 : PySem.W.nsIn K mainGlobals "_law_is_whole" = some (some (.ref f_l1)))
    (l_l1 : K.lookup f_l1 = some ⟨oc_l1, od_l1, .func (PySem.W.fnOf "_law_is_whole" "_law_is_whole" (defArgs sIsW) (defBody sIsW) (defScope sIsW) .none kV_l1 dc_l1 pm_l1 an_l1 cd_l1 ct_l1), sl_l1⟩) (c_l1 : PySem.W.codeIn K cd_l1 "_law_is_whole" = true) (k_l1 : PySem.W.keepIn K (.ref f_l1) = true)
    (a_l2 : PySem.W.nsIn K mainGlobals "_law_is_rule" = some (some (.ref f_l2)))
    (l_l2 : K.lookup f_l2 = some ⟨oc_l2, od_l2, .func (PySem.W.fnOf "_law_is_rule" "_law_is_rule" (defArgs sLRule) (defBody sLRule) (defScope sLRule) .none kV_l2 dc_l2 pm_l2 an_l2 cd_l2 ct_l2), sl_l2⟩) (c_l2 : PySem.W.codeIn K cd_l2 "_law_is_rule" = true) (k_l2 : PySem.W.keepIn K (.ref f_l2) = true)
    (a_l3 : PySem.W.nsIn K mainGlobals "_law_fault" = some (some (.ref f_l3)))
    (l_l3 : K.lookup f_l3 = some ⟨oc_l3, od_l3, .func (PySem.W.fnOf "_law_fault" "_law_fault" (defArgs sLFault) (defBody sLFault) (defScope sLFault) .none kV_l3 dc_l3 pm_l3 an_l3 cd_l3 ct_l3), sl_l3⟩) (c_l3 : PySem.W.codeIn K cd_l3 "_law_fault" = true) (k_l3 : PySem.W.keepIn K (.ref f_l3) = true)
    (a_lM : PySem.W.nsIn K mainGlobals "_law_some_reader" = some (some (.ref f_lM)))
    (l_lM : K.lookup f_lM = some ⟨oc_lM, od_lM, .func (PySem.W.fnOf "_law_some_reader" "_law_some_reader" (defArgs sSome) (defBody sSome) (defScope sSome) .none kV_lM dc_lM pm_lM an_lM cd_lM ct_lM), sl_lM⟩) (c_lM : PySem.W.codeIn K cd_lM "_law_some_reader" = true) (k_lM : PySem.W.keepIn K (.ref f_lM) = true)
    (a_lP : PySem.W.nsIn K mainGlobals "_law_spoiled" = some (some (.ref f_lP)))
    (l_lP : K.lookup f_lP = some ⟨oc_lP, od_lP, .func (PySem.W.fnOf "_law_spoiled" "_law_spoiled" (defArgs sSpoil) (defBody sSpoil) (defScope sSpoil) .none kV_lP dc_lP pm_lP an_lP cd_lP ct_lP), sl_lP⟩) (c_lP : PySem.W.codeIn K cd_lP "_law_spoiled" = true) (k_lP : PySem.W.keepIn K (.ref f_lP) = true)
    (a_lQ : PySem.W.nsIn K mainGlobals "_law_asked" = some (some (.ref f_lQ)))
    (l_lQ : K.lookup f_lQ = some ⟨oc_lQ, od_lQ, .func (PySem.W.fnOf "_law_asked" "_law_asked" (defArgs sAsked) (defBody sAsked) (defScope sAsked) .none kV_lQ dc_lQ pm_lQ an_lQ cd_lQ ct_lQ), sl_lQ⟩) (c_lQ : PySem.W.codeIn K cd_lQ "_law_asked" = true) (k_lQ : PySem.W.keepIn K (.ref f_lQ) = true)
    (a_lO : PySem.W.nsIn K mainGlobals "_law_outcome" = some (some (.ref f_lO)))
    (l_lO : K.lookup f_lO = some ⟨oc_lO, od_lO, .func (PySem.W.fnOf "_law_outcome" "_law_outcome" (defArgs sOut) (defBody sOut) (defScope sOut) .none kV_lO dc_lO pm_lO an_lO cd_lO ct_lO), sl_lO⟩) (c_lO : PySem.W.codeIn K cd_lO "_law_outcome" = true) (k_lO : PySem.W.keepIn K (.ref f_lO) = true)
    (a_la : PySem.W.nsIn K mainGlobals "law" = some (some (.ref f_la)))
    (l_la : K.lookup f_la = some ⟨oc_la, od_la, .func (PySem.W.fnOf "law" "law" (defArgs sLaw) (defBody sLaw) (defScope sLaw) .none kV_la dc_la pm_la an_la cd_la ct_la), sl_la⟩) (c_la : PySem.W.codeIn K cd_la "law" = true) (k_la : PySem.W.keepIn K (.ref f_la) = true)
    (a_xG : PySem.W.nsIn K mainGlobals "passing" = some (some (.ref f_xG)))
    (l_xG : K.lookup f_xG = some ⟨oc_xG, od_xG, .func (PySem.W.fnOf "passing" "passing" (defArgs sGX) (defBody sGX) (defScope sGX) (.ref T_xG) kV_xG dc_xG pm_xG an_xG cd_xG ct_xG), sl_xG⟩) (c_xG : PySem.W.codeIn K cd_xG "passing" = true) (k_xG : PySem.W.keepIn K (.ref f_xG) = true)
    (d_xG : K.lookup T_xG = some ⟨to_xG, td_xG, .seq #[.none] n_xG, ts_xG⟩)
    (a_xS : PySem.W.nsIn K mainGlobals "is_safe" = some (some (.ref f_xS)))
    (l_xS : K.lookup f_xS = some ⟨oc_xS, od_xS, .func (PySem.W.fnOf "is_safe" "is_safe" (defArgs sSX) (defBody sSX) (defScope sSX) (.ref T_xS) kV_xS dc_xS pm_xS an_xS cd_xS ct_xS), sl_xS⟩) (c_xS : PySem.W.codeIn K cd_xS "is_safe" = true) (k_xS : PySem.W.keepIn K (.ref f_xS) = true)
    (d_xS : K.lookup T_xS = some ⟨to_xS, td_xS, .seq #[.none] n_xS, ts_xS⟩)
    (aC : PySem.W.nsIn K mainGlobals "BadReader" = some (some (.ref C)))
    (OX : OxC K C "ValueError" "ValueError.__new__" "ValueError.__init__" [.type "ValueError", .type "Exception", .type "BaseException", .type "object"])
    (iC : PySem.W.findIn K (.ref C) "__init__" = some (some (.ref f_ini))) (tI : PySem.W.typeIn K (.ref f_ini) = some (.type "function"))
    (l_ini : K.lookup f_ini = some ⟨oc_ini, od_ini, .func (PySem.W.fnOf "__init__" "BadReader.__init__" (defArgs sBadReader) (defBody sBadReader) (defScope sBadReader) .none kV_ini dc_ini pm_ini an_ini cd_ini ct_ini), sl_ini⟩) (c_ini : PySem.W.codeIn K cd_ini "BadReader.__init__" = true) (k_ini : PySem.W.keepIn K (.ref f_ini) = true)
    (n0 : PySem.W.findIn K (.ref C) "part" = some none) (n1 : PySem.W.findIn K (.ref C) "number" = some none) (suC : PySem.W.subIn K (.ref C) (.type "BaseException") = some true) (tyC : PySem.W.typeIn K (.ref C) = some (.type "type")) (ownC : PySem.W.subIn K (.ref C) (.ref C) = some true)
    (aN : PySem.W.nsIn K mainGlobals "NOTHING_TAKEN" = some (some (.ref nt)))
    (g_vS : PySem.W.nsIn K mainGlobals "SIGNS" = some (some (.str "abcdefghijklmnopqrstuvwxyz0123456789@" t_vS)))
    (g_vM : PySem.W.nsIn K mainGlobals "MOST_SIGNS" = some (some (.int 8 t_vM)))
    (g_vT : PySem.W.nsIn K mainGlobals "MOST_STEPS" = some (some (.int 16 t_vT)))
    (g_vD : PySem.W.nsIn K mainGlobals "MANY_STANDINGS" = some (some (.int 6 t_vD)))
    (g_vE : PySem.W.nsIn K mainGlobals "MOST_STATES" = some (some (.int 200 t_vE)))
    (z_isinstance : PySem.W.nsIn K mainGlobals "isinstance" = some none)
    (z_int : PySem.W.nsIn K mainGlobals "int" = some none)
    (z_bool : PySem.W.nsIn K mainGlobals "bool" = some none)
    (z_str : PySem.W.nsIn K mainGlobals "str" = some none)
    (z_tuple : PySem.W.nsIn K mainGlobals "tuple" = some none)
    (z_len : PySem.W.nsIn K mainGlobals "len" = some none)
    (z_all : PySem.W.nsIn K mainGlobals "all" = some none)
    (z_sorted : PySem.W.nsIn K mainGlobals "sorted" = some none)
    (z_enumerate : PySem.W.nsIn K mainGlobals "enumerate" = some none)
    (z_list : PySem.W.nsIn K mainGlobals "list" = some none)
    (z_range : PySem.W.nsIn K mainGlobals "range" = some none)
    (z_min : PySem.W.nsIn K mainGlobals "min" = some none)
    (z_repr : PySem.W.nsIn K mainGlobals "repr" = some none)
    (z_ValueError : PySem.W.nsIn K mainGlobals "ValueError" = some none)
    (v_V : PySem.W.findCls K (.type "ValueError") (.type "type") "__init__" = some (.val (.builtin "ValueError.__init__"))) :
    ∃ fd : FuncData, (∀ (s : Shared) (u : Value), BindsTo s fd ⟨[u], []⟩ [("script", u)]) ∧ ∀ base : Heap, K.In base → base.Ns mainGlobals mg → FnG P w K mg base CX0 8 fa fd ["script"] (spLaw K) := by
  have e := hfa.symm.trans (PySem.W.mg_of X G a_la)
  cases e
  have F_iN := fun_mk (st := sNum) l_iN c_iN k_iN
  have b_iN := F_iN.binds (ps := ["thing", "many"]) fun _ _ _ _ _ _ us hl => match us, hl with | [_, _], _ => rfl
  have m_iN := PySem.W.mg_of X G a_iN
  have F_iP := fun_mk (st := sPc) l_iP c_iP k_iP
  have b_iP := F_iP.binds (ps := ["thing"]) fun _ _ _ _ _ _ us hl => match us, hl with | [_], _ => rfl
  have m_iP := PySem.W.mg_of X G a_iP
  have F_iS := fun_mk (st := sStep) l_iS c_iS k_iS
  have b_iS := F_iS.binds (ps := ["thing"]) fun _ _ _ _ _ _ us hl => match us, hl with | [_], _ => rfl
  have m_iS := PySem.W.mg_of X G a_iS
  have F_iL := fun_mk (st := sListed) l_iL c_iL k_iL
  have b_iL := F_iL.binds (ps := ["framing"]) fun _ _ _ _ _ _ us hl => match us, hl with | [_], _ => rfl
  have m_iL := PySem.W.mg_of X G a_iL
  have F_iW := fun_mk (st := sWays) l_iW c_iW k_iW
  have b_iW := F_iW.binds (ps := ["framing", "begin"]) fun _ _ _ _ _ _ us hl => match us, hl with | [_, _], _ => rfl
  have m_iW := PySem.W.mg_of X G a_iW
  have F_iJ := fun_mk (st := sJoined) l_iJ c_iJ k_iJ
  have b_iJ := F_iJ.binds (ps := ["framing"]) fun _ _ _ _ _ _ us hl => match us, hl with | [_], _ => rfl
  have m_iJ := PySem.W.mg_of X G a_iJ
  have F_iF := fun_mk (st := sNeedF) l_iF c_iF k_iF
  have b_iF := F_iF.binds (ps := ["thing"]) fun _ _ _ _ _ _ us hl => match us, hl with | [_], _ => rfl
  have m_iF := PySem.W.mg_of X G a_iF
  have F_rU := fun_mk (st := sRule) l_rU c_rU k_rU
  have b_rU := F_rU.binds (ps := ["thing"]) fun _ _ _ _ _ _ us hl => match us, hl with | [_], _ => rfl
  have m_rU := PySem.W.mg_of X G a_rU
  have F_rN := fun_mk (st := sNeedR) l_rN c_rN k_rN
  have b_rN := F_rN.binds (ps := ["thing"]) fun _ _ _ _ _ _ us hl => match us, hl with | [_], _ => rfl
  have m_rN := PySem.W.mg_of X G a_rN
  have F_xT := fun_mk (st := sTX) l_xT c_xT k_xT
  have b_xT := F_xT.binds (ps := ["reader", "text"]) fun _ _ _ _ _ _ us hl => match us, hl with | [_, _], _ => rfl
  have m_xT := PySem.W.mg_of X G a_xT
  have F_xP := fun_mk (st := sPX) l_xP c_xP k_xP
  have b_xP := F_xP.binds (ps := ["one", "other"]) fun _ _ _ _ _ _ us hl => match us, hl with | [_, _], _ => rfl
  have m_xP := PySem.W.mg_of X G a_xP
  have F_xI := fun_mk (st := sIX) l_xI c_xI k_xI
  have b_xI := F_xI.binds (ps := ["reader"]) fun _ _ _ _ _ _ us hl => match us, hl with | [_], _ => rfl
  have m_xI := PySem.W.mg_of X G a_xI
  have F_xW := fun_mk (st := sWX) l_xW c_xW k_xW
  have b_xW := F_xW.binds (ps := ["framing", "reader"]) fun _ _ _ _ _ _ us hl => match us, hl with | [_, _], _ => rfl
  have m_xW := PySem.W.mg_of X G a_xW
  have F_xC := fun_mk (st := sCX) l_xC c_xC k_xC
  have b_xC := F_xC.binds (ps := ["framing", "reader", "writers", "paper"]) fun _ _ _ _ _ _ us hl => match us, hl with | [_, _, _, _], _ => rfl
  have m_xC := PySem.W.mg_of X G a_xC
  have F_xA := fun_mk (st := sAX) l_xA c_xA k_xA
  have b_xA := F_xA.binds (ps := ["framing", "reader"]) fun _ _ _ _ _ _ us hl => match us, hl with | [_, _], _ => rfl
  have m_xA := PySem.W.mg_of X G a_xA
  have F_xK := fun_mk (st := sKX) l_xK c_xK k_xK
  have b_xK := F_xK.binds (ps := ["framing", "reader", "paper"]) fun _ _ _ _ _ _ us hl => match us, hl with | [_, _, _], _ => rfl
  have m_xK := PySem.W.mg_of X G a_xK
  have F_lB := fun_mk (st := sBegun) l_lB c_lB k_lB
  have b_lB := F_lB.binds (ps := ["script"]) fun _ _ _ _ _ _ us hl => match us, hl with | [_], _ => rfl
  have m_lB := PySem.W.mg_of X G a_lB
  have F_lN := fun_mk (st := sNext) l_lN c_lN k_lN
  have b_lN := F_lN.binds (ps := ["m", "many"]) fun _ _ _ _ _ _ us hl => match us, hl with | [_, _], _ => rfl
  have m_lN := PySem.W.mg_of X G a_lN
  have F_l0 := fun_mk (st := sSigns) l_l0 c_l0 k_l0
  have b_l0 := F_l0.binds (ps := []) fun _ _ _ _ _ _ us hl => match us, hl with | [], _ => rfl
  have m_l0 := PySem.W.mg_of X G a_l0
  have F_l1 := fun_mk (st := sIsW) l_l1 c_l1 k_l1
  have b_l1 := F_l1.binds (ps := ["thing", "least", "most"]) fun _ _ _ _ _ _ us hl => match us, hl with | [_, _, _], _ => rfl
  have m_l1 := PySem.W.mg_of X G a_l1
  have F_l2 := fun_mk (st := sLRule) l_l2 c_l2 k_l2
  have b_l2 := F_l2.binds (ps := ["thing"]) fun _ _ _ _ _ _ us hl => match us, hl with | [_], _ => rfl
  have m_l2 := PySem.W.mg_of X G a_l2
  have F_l3 := fun_mk (st := sLFault) l_l3 c_l3 k_l3
  have b_l3 := F_l3.binds (ps := ["thing"]) fun _ _ _ _ _ _ us hl => match us, hl with | [_], _ => rfl
  have m_l3 := PySem.W.mg_of X G a_l3
  have F_lM := fun_mk (st := sSome) l_lM c_lM k_lM
  have b_lM := F_lM.binds (ps := ["m", "many"]) fun _ _ _ _ _ _ us hl => match us, hl with | [_, _], _ => rfl
  have m_lM := PySem.W.mg_of X G a_lM
  have F_lP := fun_mk (st := sSpoil) l_lP c_lP k_lP
  have b_lP := F_lP.binds (ps := ["m", "reader"]) fun _ _ _ _ _ _ us hl => match us, hl with | [_, _], _ => rfl
  have m_lP := PySem.W.mg_of X G a_lP
  have F_lQ := fun_mk (st := sAsked) l_lQ c_lQ k_lQ
  have b_lQ := F_lQ.binds (ps := ["way", "thing"]) fun _ _ _ _ _ _ us hl => match us, hl with | [_, _], _ => rfl
  have m_lQ := PySem.W.mg_of X G a_lQ
  have F_lO := fun_mk (st := sOut) l_lO c_lO k_lO
  have b_lO := F_lO.binds (ps := ["way", "thing"]) fun _ _ _ _ _ _ us hl => match us, hl with | [_, _], _ => rfl
  have m_lO := PySem.W.mg_of X G a_lO
  have F_la := fun_mk (st := sLaw) l_la c_la k_la
  have F_ini := fun_mk (st := sBadReader) l_ini c_ini k_ini
  have b_ini := F_ini.binds (ps := ["self", "part", "number"]) fun _ _ _ _ _ _ us hl => match us, hl with | [_, _, _], _ => rfl
  have F_xG := fund_mk (st := sGX) l_xG d_xG c_xG k_xG
  have m_xG := PySem.W.mg_of X G a_xG
  obtain ⟨ds_xG, r_xG, b_xG⟩ := F_xG.binds1 (ps := ["framing", "reader", "writers"]) 3 1 (by simp) rfl fun T kV doc pm an cdv ct us its hl hi => match us, hl, its, hi with | [_, _, _], _, [_], _ => ⟨_, rfl, rfl⟩
  cases r_xG
  have F_xS := fund_mk (st := sSX) l_xS d_xS c_xS k_xS
  have m_xS := PySem.W.mg_of X G a_xS
  obtain ⟨ds_xS, r_xS, b_xS⟩ := F_xS.binds1 (ps := ["framing", "reader", "writers"]) 3 1 (by simp) rfl fun T kV doc pm an cdv ct us its hl hi => match us, hl, its, hi with | [_, _, _], _, [_], _ => ⟨_, rfl, rfl⟩
  cases r_xS
  have b2_xG := F_xG.binds1 (ps := ["framing", "reader", "writers"]) 2 0 (by simp) rfl fun T kV doc pm an cdv ct us its hl hi => match us, hl, its, hi with | [_, _], _, [_], _ => ⟨_, rfl, rfl⟩
  have y_isinstance := PySem.W.mg_none_of X G z_isinstance
  have y_int := PySem.W.mg_none_of X G z_int
  have y_bool := PySem.W.mg_none_of X G z_bool
  have y_str := PySem.W.mg_none_of X G z_str
  have y_tuple := PySem.W.mg_none_of X G z_tuple
  have y_len := PySem.W.mg_none_of X G z_len
  have y_all := PySem.W.mg_none_of X G z_all
  have y_sorted := PySem.W.mg_none_of X G z_sorted
  have y_enumerate := PySem.W.mg_none_of X G z_enumerate
  have y_list := PySem.W.mg_none_of X G z_list
  have y_range := PySem.W.mg_none_of X G z_range
  have y_min := PySem.W.mg_none_of X G z_min
  have y_repr := PySem.W.mg_none_of X G z_repr
  have y_ValueError := PySem.W.mg_none_of X G z_ValueError
  have x_vS := PySem.W.mg_of X G g_vS
  have x_vM := PySem.W.mg_of X G g_vM
  have x_vT := PySem.W.mg_of X G g_vT
  have x_vD := PySem.W.mg_of X G g_vD
  have x_vE := PySem.W.mg_of X G g_vE
  have TF : TxtF mg := ⟨y_isinstance, y_int, y_bool, y_str, y_tuple, y_len, y_all, ⟨_, x_vS⟩, ⟨_, x_vM⟩, ⟨_, x_vD⟩⟩
  have TD : TxtD mg := ⟨y_list, y_int, y_len⟩
  have IV : BI K mg "ValueError" "ValueError" "ValueError.__init__" := ⟨y_ValueError, by decide +kernel, by kernel_rfl, v_V, by decide +kernel⟩
  let zF : Fs K mg := { fN := f_iN, dN := _, N := F_iN, bN := b_iN, mN := m_iN, fP := f_iP, dP := _, P := F_iP, bP := b_iP, mP := m_iP, fS := f_iS, dS := _, S := F_iS, bS := b_iS, mS := m_iS, fL := f_iL, dL := _, L := F_iL, bL := b_iL, mL := m_iL, fW := f_iW, dW := _, W := F_iW, bW := b_iW, mW := m_iW, fJ := f_iJ, dJ := _, J := F_iJ, bJ := b_iJ, mJ := m_iJ, fF := f_iF, dF := _, F := F_iF, bF := b_iF, mF := m_iF, T := TF, so := y_sorted, en := y_enumerate, ms := ⟨_, x_vT⟩ }
  let zB : Brd K mg := { C := C, f := f_ini, d := _, T := OX, I := IV, F := F_ini, b := b_ini, m := PySem.W.mg_of X G aC, iC := iC, tI := tI, n0 := n0, n1 := n1, su := suC, ty := tyC, own := ownC }
  let zR : Rs K mg := { Z := zF, B := zB, fU := f_rU, dU := _, U := F_rU, bU := b_rU, mU := m_rU, states := ⟨_, x_vE⟩ }
  let zC : Cs K mg := { R := zR, fR := f_rN, dR := _, RD := F_rN, bR := b_rN, mR := m_rN, NT := ⟨_, PySem.W.mg_of X G aN⟩, fT := f_xT, dT := _, FT := F_xT, bT := b_xT, mT := m_xT, fP := f_xP, dP := _, FP := F_xP, bP := b_xP, mP := m_xP, fI := f_xI, dI := _, FI := F_xI, bI := b_xI, mI := m_xI, fG := f_xG, dG := _, FG := F_xG, bG := b_xG, mG := m_xG, bG2 := b2_xG, fS := f_xS, dS := _, FS := F_xS, bS := b_xS, mS := m_xS, fW := f_xW, dW := _, FW := F_xW, bW := b_xW, mW := m_xW, fC := f_xC, dC := _, FC := F_xC, bC := b_xC, mC := m_xC, fA := f_xA, dA := _, FA := F_xA, bA := b_xA, mA := m_xA, fK := f_xK, dK := _, FK := F_xK, bK := b_xK, mK := m_xK }
  let zA : As K mg := { S := zC, f := f_lQ, d := _, F := F_lQ, b := b_lQ, m := m_lQ }
  let zO : Ot K mg := { A := zA, f := f_lO, d := _, F := F_lO, b := b_lO, m := m_lO }
  let zG : Lg K mg := { T := TF, en := y_enumerate, f0 := f_l0, d0 := _, G := F_l0, b0 := b_l0, m0 := m_l0, f1 := f_l1, d1 := _, I := F_l1, bI := b_l1, gI := m_l1, f2 := f_l2, d2 := _, U := F_l2, bU := b_l2, gU := m_l2, f3 := f_l3, d3 := _, F := F_l3, bF := b_l3, gF := m_l3 }
  let zL : Ls K mg := { f1 := f_lN, d1 := _, N := F_lN, bN := b_lN, mN := m_lN, T := TD, ra := y_range, tu := y_tuple, f2 := f_lM, d2 := _, P := F_lM, bP := b_lM, mP := m_lM }
  let zP : Lp K mg := { L := zL, f := f_lP, d := _, F := F_lP, b := b_lP, g := m_lP }
  let zZ : Lall K mg := { O := zO, G := zG, S := zP, fB := f_lB, dB := _, Be := F_lB, bB := b_lB, mB := m_lB, mi := y_min, re := y_repr }
  exact ⟨PySem.W.fnOf "law" "law" (defArgs sLaw) (defBody sLaw) (defScope sLaw) .none kV_la dc_la pm_la an_la cd_la ct_la, fun s u => .of_eq rfl, fun base _ _ => ok_law zZ F_la⟩
theorem walk {l : PySem.W.OpenLaw} {q : Program} {loose : List Str} {XP : (Str → Option Value) → Heap → Prop} {YP : World → Heap → Prop} {d : DefRec} {K : Params → PySem.W.Frag} (hn : l.most = some 63) (hdf : d.params.defaults = [])
    (hY : ∀ (w : World) (h : Heap), YP w h → (K w.params).In h)
    (F : ∀ (w : World) (mg : Str → Option Value) (fa : Addr) (h : Heap), (K w.params).In h → h.Ns mainGlobals mg → mg d.name = some (.ref fa) →
      ∃ fd : FuncData, (∀ (s : Shared) (u : Value), BindsTo s fd ⟨[u], []⟩ [("script", u)]) ∧ ∀ base : Heap, (K w.params).In base → base.Ns mainGlobals mg → FnG l.prog w (K w.params) mg base CX0 8 fa fd ["script"] (spLaw (K w.params))) :
    PySem.W.WalkO q loose XP YP l.row.toRowW d [] (fun f vs => PySem.call f vs) :=
  walk_ofG (n := 63) (k := 8) (x := "script") (sp := spLaw) hn (by decide) hdf ⟨rfl, by decide, by decide⟩ hY F (fun _ _ a ns hl _ hS => ⟨a, ns, rfl, hS, hl, fun _ => rfl⟩)
end K06
open PySem PySem.W PyProof.Rows
set_option maxRecDepth 100000 in
set_option maxHeartbeats 0 in
theorem PySem.Challenge.cw_tornlines_k06_whole_faults_of_readers_holds : PySem.Challenge.rw_tornlines_k06_whole_faults_of_readers.Holds := by
  w_on; o_law; k_head; (case hw => w_witness2)
  k_fill
  refine K06.walk (l := PySem.Challenge.rw_tornlines_k06_whole_faults_of_readers) rfl rfl (fun w h Y => by first | exact PySem.W.kIn_of Y | exact PySem.W.km_in_of Y) ?F
  case F =>
    intro w mg fa h KX G hmg
    refine' K06.all_mk KX G hmg ?a_iN ?l_iN ?c_iN ?k_iN ?a_iP ?l_iP ?c_iP ?k_iP ?a_iS ?l_iS ?c_iS ?k_iS ?a_iL ?l_iL ?c_iL ?k_iL ?a_iW ?l_iW ?c_iW ?k_iW ?a_iJ ?l_iJ ?c_iJ ?k_iJ ?a_iF ?l_iF ?c_iF ?k_iF ?a_rU ?l_rU ?c_rU ?k_rU ?a_rN ?l_rN ?c_rN ?k_rN ?a_xT ?l_xT ?c_xT ?k_xT ?a_xP ?l_xP ?c_xP ?k_xP ?a_xI ?l_xI ?c_xI ?k_xI ?a_xW ?l_xW ?c_xW ?k_xW ?a_xC ?l_xC ?c_xC ?k_xC ?a_xA ?l_xA ?c_xA ?k_xA ?a_xK ?l_xK ?c_xK ?k_xK ?a_lB ?l_lB ?c_lB ?k_lB ?a_lN ?l_lN ?c_lN ?k_lN ?a_l0 ?l_l0 ?c_l0 ?k_l0 ?a_l1 ?l_l1 ?c_l1 ?k_l1 ?a_l2 ?l_l2 ?c_l2 ?k_l2 ?a_l3 ?l_l3 ?c_l3 ?k_l3 ?a_lM ?l_lM ?c_lM ?k_lM ?a_lP ?l_lP ?c_lP ?k_lP ?a_lQ ?l_lQ ?c_lQ ?k_lQ ?a_lO ?l_lO ?c_lO ?k_lO ?a_la ?l_la ?c_la ?k_la ?a_xG ?l_xG ?c_xG ?k_xG ?d_xG ?a_xS ?l_xS ?c_xS ?k_xS ?d_xS ?aC ?OX ?iC ?tI ?l_ini ?c_ini ?k_ini ?n0 ?n1 ?suC ?tyC ?ownC ?aN ?g_vS ?g_vM ?g_vT ?g_vD ?g_vE ?z_isinstance ?z_int ?z_bool ?z_str ?z_tuple ?z_len ?z_all ?z_sorted ?z_enumerate ?z_list ?z_range ?z_min ?z_repr ?z_ValueError ?v_V
    (case a_iN => k_is)
    (case l_iN => k_is)
    (case c_iN => k_is)
    (case k_iN => k_is)
    (case a_iP => k_is)
    (case l_iP => k_is)
    (case c_iP => k_is)
    (case k_iP => k_is)
    (case a_iS => k_is)
    (case l_iS => k_is)
    (case c_iS => k_is)
    (case k_iS => k_is)
    (case a_iL => k_is)
    (case l_iL => k_is)
    (case c_iL => k_is)
    (case k_iL => k_is)
    (case a_iW => k_is)
    (case l_iW => k_is)
    (case c_iW => k_is)
    (case k_iW => k_is)
    (case a_iJ => k_is)
    (case l_iJ => k_is)
    (case c_iJ => k_is)
    (case k_iJ => k_is)
    (case a_iF => k_is)
    (case l_iF => k_is)
    (case c_iF => k_is)
    (case k_iF => k_is)
    (case a_rU => k_is)
    (case l_rU => k_is)
    (case c_rU => k_is)
    (case k_rU => k_is)
    (case a_rN => k_is)
    (case l_rN => k_is)
    (case c_rN => k_is)
    (case k_rN => k_is)
    (case a_xT => k_is)
    (case l_xT => k_is)
    (case c_xT => k_is)
    (case k_xT => k_is)
    (case a_xP => k_is)
    (case l_xP => k_is)
    (case c_xP => k_is)
    (case k_xP => k_is)
    (case a_xI => k_is)
    (case l_xI => k_is)
    (case c_xI => k_is)
    (case k_xI => k_is)
    (case a_xW => k_is)
    (case l_xW => k_is)
    (case c_xW => k_is)
    (case k_xW => k_is)
    (case a_xC => k_is)
    (case l_xC => k_is)
    (case c_xC => k_is)
    (case k_xC => k_is)
    (case a_xA => k_is)
    (case l_xA => k_is)
    (case c_xA => k_is)
    (case k_xA => k_is)
    (case a_xK => k_is)
    (case l_xK => k_is)
    (case c_xK => k_is)
    (case k_xK => k_is)
    (case a_lB => k_is)
    (case l_lB => k_is)
    (case c_lB => k_is)
    (case k_lB => k_is)
    (case a_lN => k_is)
    (case l_lN => k_is)
    (case c_lN => k_is)
    (case k_lN => k_is)
    (case a_l0 => k_is)
    (case l_l0 => k_is)
    (case c_l0 => k_is)
    (case k_l0 => k_is)
    (case a_l1 => k_is)
    (case l_l1 => k_is)
    (case c_l1 => k_is)
    (case k_l1 => k_is)
    (case a_l2 => k_is)
    (case l_l2 => k_is)
    (case c_l2 => k_is)
    (case k_l2 => k_is)
    (case a_l3 => k_is)
    (case l_l3 => k_is)
    (case c_l3 => k_is)
    (case k_l3 => k_is)
    (case a_lM => k_is)
    (case l_lM => k_is)
    (case c_lM => k_is)
    (case k_lM => k_is)
    (case a_lP => k_is)
    (case l_lP => k_is)
    (case c_lP => k_is)
    (case k_lP => k_is)
    (case a_lQ => k_is)
    (case l_lQ => k_is)
    (case c_lQ => k_is)
    (case k_lQ => k_is)
    (case a_lO => k_is)
    (case l_lO => k_is)
    (case c_lO => k_is)
    (case k_lO => k_is)
    (case a_la => k_is)
    (case l_la => k_is)
    (case c_la => k_is)
    (case k_la => k_is)
    (case a_xG => k_is)
    (case l_xG => k_is)
    (case c_xG => k_is)
    (case k_xG => k_is)
    (case d_xG => k_is)
    (case a_xS => k_is)
    (case l_xS => k_is)
    (case c_xS => k_is)
    (case k_xS => k_is)
    (case d_xS => k_is)
    (case aC => k_is)
    case OX =>
      refine' K06.oxc ?cl PySem.F.excBase_ValueError (fun self => PySem.F.store_ValueError.passes self) (by decide +kernel) ?sa ?ga ?gg ?exC ?kC ?hd ?ca ?cn ?ct ?om
      (case cl => k_is)
      (case sa => k_is)
      (case ga => k_is)
      (case gg => k_is)
      (case exC => k_is)
      (case kC => k_is)
      (case hd => k_is)
      (case ca => k_is)
      (case cn => k_is)
      (case ct => k_is)
      (case om => k_is)
    (case iC => k_is)
    (case tI => k_is)
    (case l_ini => k_is)
    (case c_ini => k_is)
    (case k_ini => k_is)
    (case n0 => k_is)
    (case n1 => k_is)
    (case suC => k_is)
    (case tyC => k_is)
    (case ownC => k_is)
    (case aN => k_is)
    (case g_vS => k_is)
    (case g_vM => k_is)
    (case g_vT => k_is)
    (case g_vD => k_is)
    (case g_vE => k_is)
    (case z_isinstance => k_is)
    (case z_int => k_is)
    (case z_bool => k_is)
    (case z_str => k_is)
    (case z_tuple => k_is)
    (case z_len => k_is)
    (case z_all => k_is)
    (case z_sorted => k_is)
    (case z_enumerate => k_is)
    (case z_list => k_is)
    (case z_range => k_is)
    (case z_min => k_is)
    (case z_repr => k_is)
    (case z_ValueError => k_is)
    (case v_V => k_is)
#print axioms PySem.Challenge.cw_tornlines_k06_whole_faults_of_readers_holds
