import PyProof.Rows.All
import Wide.All
import OpenK.AllK
import Wide.FinOn
import KE.KExcInit
import KE.KExcIs
import HandS.ForMost
import HandS.Exc
import HandS.ExcInit
import HandS.Defaults
import HandS.IsInst
import HandS.Set
import HandS.Strs
import HandS.SetBool
import HandS.Conv
import HandS.Small
import HandS.SortRule
import HandS.TupLe
import HandS.NamedTupSort
import PyProof.Rows.SortKeyStr
import PyProof.FString5
import HandS.StrMore
import HandS.Walk
import PyProof.Rows.StrLen
import PyProof.StrLawsAffix
import KE.GoesMore
import HandS.TupAny
import HandS.ReplaceLit
import HandS.ReplaceList
import HandS.Deep
import PyProof.ReprRoads
import PySem.Challenge.RW_tornlines_k31_whole_files_woven
set_option Elab.async false
set_option linter.all false
set_option maxRecDepth 100000
set_option maxHeartbeats 4000000
/-! Own exception classes over any built-in base: made with positional or keyword arguments, kept as values, their fields read, asked by isinstance. -/
namespace EV
open PySem PySem.W PySem.Calls PyProof.Rows PySem.HandSPX
open Builtin Builtin.ObjectAttr
section
variable {prog : Program} {w : World} {A : Around} {E : Value → Shared → Prop} {R : Result → Shared → Prop}
variable {hp : Heap} {g : Array GenState} {d : Drawn} {t : Nat} {os : OsState}
/-- an exception's first field, whatever its base -/
theorem put_first {K : W.Frag} {nm : Str} {tk : Tok} {v : Value} {x C : Addr} {fv : Array Value} {cd : ClassData}
    (X : K.In hp) (hx : hp.get? x = some { cls := .ref C, data := .fields fv }) (hcd : W.clsIn K C = some cd)
    (pas : refuseLoop (.ref x) "__setattr__" cd.mro = pure ()) (hob : cd.mro.contains (.type "object") = true) (hne : cd.mro.isEmpty = false)
    (hh : cd.hasDict = true) (ha : W.findIn K (.ref C) nm = some none)
    (hq : ∀ h' tk' dx, (∀ b o, b ≠ x → hp.get? b = some o → h'.get? b = some o) → hp.objs.size ≤ dx → dx ≠ x →
      h'.get? x = some { cls := .ref C, dict := some dx, data := .fields fv } → h'.Ns1 dx (fun y => if y = nm then some v else none) →
      R (.ok (.ret .none)) ⟨h', g, d, tk', os⟩) :
    codeAny (model prog w) A (.call (.builtin "object.__setattr__") ⟨[.ref x, .str nm tk, v], []⟩) R ⟨hp, g, d, t, os⟩ := by
  have J : W.InstAt hp x { cls := .ref C, data := .fields fv } C none := ⟨hx, rfl, rfl, trivial⟩
  have hxs : x ≠ hp.objs.size := Nat.ne_of_lt (Heap.lt_size hx)
  have isO : W.Looks (model prog w) hp (isInstance (.ref x) (.type "object")) true :=
    J.type.andThen (W.looks_mroIn X (by unfold W.mroIn; rw [hcd, Option.bind_some, if_neg (by rw [hne]; decide), hob]))
  refine codeAny_call_builtin F.store_object.slot.plain F.store_object.entry
    (@W.check_slot (model prog w) _ _ ⟨hp, g, d, t, os⟩ "object.__setattr__" "object" "__setattr__" (.ref x) [.str nm tk, v] [] _
      F.store_object.kind F.store_object.split isO (F.store_object.args (.ref x) (.str nm tk) v) ?_)
  have order : W.Looks (model prog w) hp (mroOf (.ref C)) cd.mro := (W.looks_clsIn X hcd).andThen .now
  have taker : W.Looks (model prog w) hp (storeTaker? none) none := .now
  have data : W.Looks (model prog w) hp (classData C) cd := W.looks_clsIn X hcd
  rw [W.osa_eq, refuse_eq]
  refine wpAny_bind (wpAny_bind (J.type.at (wpAny_bind (order.at ?_))))
  rw [pas]
  refine wpAny_pure (wpAny_bind (J.type.at (wpAny_bind ((W.looks_findIn X ha).at (wpAny_bind (taker.at ?_))))))
  show wpAny _ _ (storeInOwnDict (.ref x) (.ref C) (.str nm tk) nm v false) _ _ _
  obtain ⟨q1, q2, q3, q4, q5, q6, q7, q8, q9, q10, q11⟩ := cd
  dsimp only at hh
  subst hh
  unfold storeInOwnDict ownDictForStores
  repeat (first
    | with_reducible refine store_in_new ?_ ?_
    | with_reducible refine wpAny_loadPart_at hx ?_
    | with_reducible refine data.at ?_
    | wp_step)
  · exact ⟨_, #[], _, (Heap.get?_update_ne _ _ _ _ hxs.symm).trans (Heap.get?_push_at rfl rfl), rfl, fun e he => absurd he (by simp), fun _ => rfl⟩
  · intro h' tk' nsd same
    have hx1 : (hp.push { cls := .type "dict", data := .dict #[] }).get? x = some { cls := .ref C, data := .fields fv } := Heap.get?_push_of_some _ hx
    refine hq h' tk' hp.objs.size (fun b o nb q => ?_) (Nat.le_refl _) hxs.symm ?_ nsd
    · exact (same.2 b (Nat.ne_of_lt (Heap.lt_size q))).trans
        ((Heap.get?_update_ne _ _ _ _ nb).trans (Heap.get?_push_of_some _ q))
    · exact (same.2 x hxs).trans (Heap.get?_update_self _ hx1 rfl)
/-- a further field -/
theorem put_more {K : W.Frag} {nm : Str} {tk : Tok} {v : Value} {x C dx : Addr} {fv : Array Value} {cd : ClassData} {m0 : Str → Option Value} {nl : List Str}
    (X : K.In hp) (hx : hp.get? x = some { cls := .ref C, dict := some dx, data := .fields fv }) (nsd : hp.Ns1 dx m0) (wi : Within m0 nl) (hz : nl.length ≤ 1000)
    (hcd : W.clsIn K C = some cd) (pas : refuseLoop (.ref x) "__setattr__" cd.mro = pure ()) (hob : cd.mro.contains (.type "object") = true)
    (hne : cd.mro.isEmpty = false) (hh : cd.hasDict = true) (ha : W.findIn K (.ref C) nm = some none)
    (hq : ∀ h' tk', (∀ b o, b ≠ dx → hp.get? b = some o → h'.get? b = some o) → h'.Ns1 dx (fun y => if y = nm then some v else m0 y) →
      R (.ok (.ret .none)) ⟨h', g, d, tk', os⟩) :
    codeAny (model prog w) A (.call (.builtin "object.__setattr__") ⟨[.ref x, .str nm tk, v], []⟩) R ⟨hp, g, d, t, os⟩ := by
  obtain ⟨oD, _, _, hoD, _, _⟩ := nsd.count wi
  have J : W.InstAt hp x { cls := .ref C, dict := some dx, data := .fields fv } C (some oD) := ⟨hx, rfl, rfl, hoD⟩
  have isO : W.Looks (model prog w) hp (isInstance (.ref x) (.type "object")) true :=
    J.type.andThen (W.looks_mroIn X (by unfold W.mroIn; rw [hcd, Option.bind_some, if_neg (by rw [hne]; decide), hob]))
  refine codeAny_call_builtin F.store_object.slot.plain F.store_object.entry
    (@W.check_slot (model prog w) _ _ ⟨hp, g, d, t, os⟩ "object.__setattr__" "object" "__setattr__" (.ref x) [.str nm tk, v] [] _
      F.store_object.kind F.store_object.split isO (F.store_object.args (.ref x) (.str nm tk) v) ?_)
  have order : W.Looks (model prog w) hp (mroOf (.ref C)) cd.mro := (W.looks_clsIn X hcd).andThen .now
  have taker : W.Looks (model prog w) hp (storeTaker? none) none := .now
  have data : W.Looks (model prog w) hp (classData C) cd := W.looks_clsIn X hcd
  rw [W.osa_eq, refuse_eq]
  refine wpAny_bind (wpAny_bind (J.type.at (wpAny_bind (order.at ?_))))
  rw [pas]
  refine wpAny_pure (wpAny_bind (J.type.at (wpAny_bind ((W.looks_findIn X ha).at (wpAny_bind (taker.at ?_))))))
  show wpAny _ _ (storeInOwnDict (.ref x) (.ref C) (.str nm tk) nm v false) _ _ _
  obtain ⟨q1, q2, q3, q4, q5, q6, q7, q8, q9, q10, q11⟩ := cd
  dsimp only at hh
  subst hh
  unfold storeInOwnDict ownDictForStores
  repeat (first
    | with_reducible refine OEX.store_in_old nsd wi hz ?_
    | with_reducible refine wpAny_loadPart_at hx ?_
    | with_reducible refine data.at ?_
    | wp_step)
  intro h' tk' ns' same
  exact hq h' tk' (fun b o nb q => (same.2 b nb).trans q) ns'
end
/-! ### an own exception class called with keywords -/
section
variable {M : Model} {A : Around} {E : Value → Shared → Prop} {h : Heap} {g : Array GenState} {d : Drawn} {t : Nat} {os : OsState}
variable {nm q : Str} {C N : Addr} {bs bm : List Value} {hd : Bool} {sn : List Str} {sub : List Value} {ab : Bool} {col : Option Bool} {dd : Option Addr}
variable {k0 k1 k2 k3 k5 : Option Value} {B newId initId : String}
theorem check_newK (F : ExcBaseFacts B newId initId bm) {rest : List Value} {kw : List (Str × Value)} {Q : Unit → Shared → Prop}
    (hC : h.get? C = some (excClassObj nm q C N bs bm hd sn sub ab col dd k0 k1 k2 k3 k5 newId)) (hq : Q () ⟨h, g, d, t, os⟩) :
    wpAny M A (checkBuiltinCall newId ⟨.ref C :: rest, kw⟩) Q E ⟨h, g, d, t, os⟩ := by
  have hasIt : (Value.ref C :: bm).contains (.type B) = true := by rw [List.contains_cons, F.hasB, Bool.or_true]
  have star := F.noStar
  simp only [checkBuiltinCall, F.newKind, F.newSplit, F.newRow]
  repeat (first
    | refine wpAny_loadPart_at hC ?_
    | (refine wpAny_isSubtype_exc hC ?_; rw [hasIt])
    | refine wpAny_staticBase_exc hC ?_
    | refine wpAny_madeBy_exc hC ?_
    | simp only [bne_self_eq_false, Bool.false_eq_true, if_false]
    | wp_step)
  exact hq
end
section
variable {prog : Program} {w : World} {A : Around} {E : Value → Shared → Prop} {R : Result → Shared → Prop}
variable {h : Heap} {g : Array GenState} {d : Drawn} {t : Nat} {os : OsState}
variable {nm q : Str} {C N : Addr} {bs bm : List Value} {hd : Bool} {sn : List Str} {sub : List Value} {ab : Bool} {col : Option Bool} {dd : Option Addr}
variable {k0 k1 k2 k3 k5 : Option Value} {B newId initId : String}
theorem newK (F : ExcBaseFacts B newId initId bm) {rest : List Value} {kw : List (Str × Value)}
    (hC : h.get? C = some (excClassObj nm q C N bs bm hd sn sub ab col dd k0 k1 k2 k3 k5 newId))
    (hq : R (.ok (.ret (.ref (h.objs.size + 1)))) ⟨(h.push (W.kdv_tup rest)).push (excO C h.objs.size), g, d, t, os⟩) (hrest : rest.length ≤ sizeLine) :
    codeAny (model prog w) A (.builtin newId ⟨.ref C :: rest, kw⟩) R ⟨h, g, d, t, os⟩ := by
  have ends := F.ends
  have b1 : (Value.ref C :: bm).contains (.type B) = true := by rw [List.contains_cons, F.hasB, Bool.or_true]
  have b2 : (Value.ref C :: bm).contains (.type "AttributeError") = false := by rw [List.contains_cons, F.noAttr]; rfl
  have b3 : (Value.ref C :: bm).contains (.type "NameError") = false := by rw [List.contains_cons, F.noName]; rfl
  refine codeAny_builtinAt F.entry ?_
  unfold Builtin.«BaseException.__new__»
  refine PySem.wpAt_bind ?_
  show PySem.wpAt _ _ _ (stack >>= _) _ _ _
  refine PySem.wpAt_bind (PySem.wpAt_stack fun p below => PySem.wpAt_of_wpAny ?_)
  wp_walk
  refine PySem.wpAt_of_wpAny ?_
  rw [F.owner]
  repeat (first
    | with_reducible refine wpAny_madeHere_exc F.canon hC ?_
    | with_reducible refine wpAny_loadPart_at hC ?_
    | (with_reducible refine wpAny_isSubtype_exc hC ?_; first | rw [b1] | rw [b2] | rw [b3])
    | wp_step)
  show R _ _
  rw [Heap.size_push]
  exact hq
theorem typeCallK (F : ExcBaseFacts B newId initId bm) {rest : List Value} {kw : List (Str × Value)} {fI : Addr} {Q : Fin → Shared → Prop}
    (hC : h.get? C = some (excClassObj nm q C N bs bm hd sn sub ab col dd k0 k1 k2 k3 k5 newId))
    (hi : W.Looks (model prog w) h (typeLookup (.ref C) "__init__") (some (.ref fI)))
    (hb : ∀ self, W.Looks (model prog w) h (bindSpecial (.ref fI) self) (.ref fI, [self])) (hrest : rest.length ≤ sizeLine)
    (hq : codeAny (model prog w) A (.call (.ref fI) ⟨.ref (h.objs.size + 1) :: rest, kw⟩)
      (fun r s' => match r with | .ok (.ret v) => v = .none ∧ Q (.done (.ret (.ref (h.objs.size + 1)))) s' | .ok _ => False | .error e => E e s')
      ⟨(h.push (W.kdv_tup rest)).push (excO C h.objs.size), g, d, t, os⟩) :
    wpAny (model prog w) A (Builtin.«type.__call__» ⟨.ref C :: rest, kw⟩) Q E ⟨h, g, d, t, os⟩ := by
  repeat (first
    | with_reducible refine wpAny_loadPart_at hC ?_
    | with_reducible refine wpAny_madeBy_exc hC ?_
    | wp_step)
  refine codeAny_call_builtin_code (Code.quiet_builtin _ F.quiet) (check_newK F hC ?_)
  refine newK F hC ?_ hrest
  show wpAny _ _ _ _ _ _
  have kp : ∀ b o, h.get? b = some o → ((h.push (W.kdv_tup rest)).push (excO C h.objs.size)).get? b = some o :=
    fun b o e => Heap.get?_push_of_some _ (Heap.get?_push_of_some _ e)
  have hC1 := kp _ _ hC
  have new : ((h.push (W.kdv_tup rest)).push (excO C h.objs.size)).get? (h.objs.size + 1) = some (excO C h.objs.size) := by heap_get
  have self : (Value.ref C :: bm).contains (.ref C) = true := by simp
  have i1 := hi.keeps kp
  have b1 := (hb (.ref (h.objs.size + 1))).keeps kp
  unfold isInstance
  repeat (first
    | with_reducible refine wpAny_loadPart_at new ?_
    | (with_reducible refine wpAny_isSubtype_exc hC1 ?_; rw [self])
    | wp_step)
  show wpAny _ _ (typeLookup (.ref C) _) _ _ _
  refine i1.at ?_
  refine wpAny_holding (wpAny_bind (b1.at ?_))
  refine wpAny_bind (wpAny_call (codeAny_mono hq fun r s' z => ?_))
  rcases r with e | (v | _ | _ | _) <;> first | exact z | exact z.elim | skip
  obtain ⟨rfl, z⟩ := z
  first
    | exact wpAny_pure (wpAny_pure z)
    | (wp_walk; exact z)
theorem callK (F : ExcBaseFacts B newId initId bm) {rest : List Value} {kw : List (Str × Value)} {fI : Addr}
    (hC : h.get? C = some (excClassObj nm q C N bs bm hd sn sub ab col dd k0 k1 k2 k3 k5 newId))
    (hi : W.Looks (model prog w) h (typeLookup (.ref C) "__init__") (some (.ref fI)))
    (hb : ∀ self, W.Looks (model prog w) h (bindSpecial (.ref fI) self) (.ref fI, [self])) (hrest : rest.length ≤ sizeLine)
    (hq : codeAny (model prog w) (A.under (.builtin "type.__call__" ⟨.ref C :: rest, kw⟩)) (.call (.ref fI) ⟨.ref (h.objs.size + 1) :: rest, kw⟩)
      (W.InitBack (h.objs.size + 1) R) ⟨(h.push (W.kdv_tup rest)).push (excO C h.objs.size), g, d, t, os⟩) :
    codeAny (model prog w) A (.call (.ref C) ⟨rest, kw⟩) R ⟨h, g, d, t, os⟩ := by
  have f1 := tc_lookup
  have f2 := tc_bind (.ref C)
  have ty : (⟨h, g, d, t, os⟩ : Shared).TypeIs (.ref C) "type" := ⟨_, hC, rfl⟩
  refine codeAny_of_tree ?_
  show wpAny _ _ (callAny (.ref C) _) _ _ _
  repeat (any_goals (first
    | assumption
    | with_reducible refine wpAny_loadPart_at hC ?_
    | wp_step))
  refine ⟨rfl, ?_⟩
  refine codeAny_call_builtin_at (Code.quiet_builtin _ (by decide +kernel)) entry_typeCall ?_
  refine wpAny_check_type_call_sub hC ?_
  refine typeCallK F hC hi hb hrest (codeAny_mono hq fun r s' z => ?_)
  rcases r with e | (v | _ | _ | _) <;> exact z
end
end EV
namespace L2
namespace EV
open PySem PySem.Spec PyProof.Rows _root_.EV
/-- what the written part says of an own exception class at C, straight under the built-in base B -/
structure OxC (K : PySem.W.Frag) (C : Addr) (B newId initId : String) (bm : List Value) : Prop where
  F : ExcBaseFacts B newId initId bm
  cls : ∃ nm q N bs sn sub ab col dd k0 k1 k2 k3 k5, K.lookup C = some (excClassObj nm q C N bs bm true sn sub ab col dd k0 k1 k2 k3 k5 newId)
  pas : ∀ self, refuseLoop self "__setattr__" bm = pure ()
  obj : bm.contains (.type "object") = true
  sa : PySem.W.findIn K (.ref C) "__setattr__" = some (some (.builtin "object.__setattr__"))
  ga : PySem.W.findIn K (.ref C) "__getattribute__" = some (some (.builtin "BaseException.__getattribute__"))
  gg : PySem.W.findIn K (.ref C) "__getattr__" = some none
  exC : PySem.W.subIn K (.ref C) (.type "BaseException") = some true
  kC : PySem.W.keepIn K (.ref C) = true
  hd : PySem.W.hasDictIn K C = true
  ca : PySem.W.findIn K (.ref C) "__class__" = some (some (.builtin "object.__class__"))
  cn : PySem.W.specialIn K (.builtin "object.__class__") "__get__" = some (some (.builtin "getset_descriptor.__get__"))
  ct : PySem.W.takesIn K (.builtin "object.__class__") = some true
  om : PySem.W.mroIn K C (.type "object") = some true
section
variable {X : Cx} {pins : List (Addr × Obj)} {σ : St} {H : Hp} {s : Shared} {a C dx : Addr} {f : Str} {y : V} {u : Value} {fs : List (Str × V)}
variable {Q : Unit → Shared → Prop} {E : Value → Shared → Prop} {A : Around} {B newId initId : String} {bm : List Value}
theorem OxC.data {K : PySem.W.Frag} (T : OxC K C B newId initId bm) : ∃ cd, PySem.W.clsIn K C = some cd ∧ cd.mro = .ref C :: bm ∧ cd.hasDict = true := by
  obtain ⟨nm, q, N, bs, sn, sub, ab, col, dd, k0, k1, k2, k3, k5, hC⟩ := T.cls
  refine ⟨{ name := nm, bases := bs, mro := .ref C :: bm, ns := N, qualname := q, hasDict := true, slotNames := sn, subclasses := sub, abstract := ab, collection := col, hasDel := false }, ?_, rfl, rfl⟩
  unfold PySem.W.clsIn
  rw [hC] <;> rfl
theorem OxC.look {K : PySem.W.Frag} (T : OxC K C B newId initId bm) {cd : ClassData} (e : cd.mro = .ref C :: bm) (self : Value) :
    refuseLoop self "__setattr__" cd.mro = pure () ∧ cd.mro.contains (.type "object") = true ∧ cd.mro.isEmpty = false := by
  rw [e, refuseLoop_ref]
  refine ⟨T.pas self, ?_, rfl⟩
  rw [List.contains_cons, T.obj, Bool.or_true]
/-- self.f = y, the first field -/
theorem ox_first (T : OxC X.K C B newId initId bm) (I : Inv X pins σ H s) (e : H a = some (exo a C none)) (no : PySem.W.findIn X.K (.ref C) f = some none) (ry : RelV y u)
    (h : ∀ dx s', H dx = none → dx ≠ a → Inv X pins σ (upd (upd H dx (exd dx [(f, y)])) a (exo a C (some dx))) s' → Q () s') :
    wpAny (model X.prog X.w) A (setAttr (.ref a) f u) Q E s := by
  obtain ⟨cd, hcl, hmr, hdi⟩ := T.data
  obtain ⟨l1, l2, l3⟩ := T.look hmr (.ref a)
  obtain ⟨t1, ho⟩ := exo_at I.hok e
  obtain ⟨hp, g, d, t, os⟩ := s
  refine PySem.W.set_plain I.kIn (ox := { cls := .ref C, dict := none, data := .fields #[.ref t1, .none, .none, .none, .bool false, .none] })
    (od := none) ⟨ho, rfl, rfl, trivial⟩ T.sa ?_
  refine put_first I.kIn ho hcl l1 l2 l3 hdi no fun h' tk' dx k big ne hx hn => ?_
  have free : H dx = none := I.hok.fresh big
  have old : ∀ {b : Addr} {o : Obj}, hp.get? b = some o → b ≠ dx := fun {b o} q => Nat.ne_of_lt (Nat.lt_of_lt_of_le (Heap.lt_size q) big)
  have nota : ∀ {b : Addr}, H b = none → b ≠ a := fun {b} n z => by
    subst z
    rw [e] at n
    cases n
  have un : Un X.fs [] H (upd (upd H dx (exd dx [(f, y)])) a (exo a C (some dx))) hp h' := by
    refine ⟨fun b o q n _ _ => k b o (nota n) q, fun b o q n _ _ => ⟨o.slots, k b o (nota n) q⟩, fun b o q n _ => ?_, fun b o q _ => ?_, fun b xs q => ?_, fun b o v q => ?_, fun b ps q => ⟨#[], ?_⟩⟩
    · rw [upd_ne (nota n), upd_ne (old q)]
      exact n
    · by_cases hb : b = a
      · subst hb
        exact ⟨_, hx⟩
      · exact ⟨o, k b o hb q⟩
    · rw [upd_ne (at_ne e q exo_tup), upd_ne (ne_of_none q free)]
      exact q
    · rw [upd_ne (at_ne e q exo_frz), upd_ne (ne_of_none q free)]
      exact q
    · rw [upd_ne (at_ne e q exo_tbl), upd_ne (ne_of_none q free), q]
      simp
  refine h dx _ free ne (I.un (t' := tk') un fun b o q => ?_)
  by_cases hb : b = a
  · subst hb
    rw [upd_same] at q
    cases q
    exact exo_ok hx
  · rw [upd_ne hb] at q
    by_cases hd : b = dx
    · subst hd
      rw [upd_same] at q
      cases q
      exact exd_ok hn (relO_put (fs := []) ry fun g => True.intro)
    · rw [upd_ne hd] at q
      refine (I.hok b o q).stay (fun c v hc z => k c v ?_ z) (fun c hc => ?_) fun c xs hc => ?_
      · rcases hc with hc | hc
        · subst hc
          exact hb
        · exact at_ne e hc exo_own
      · rw [upd_ne (at_ne e hc exo_own), upd_ne (ne_of_none hc free)]
        exact hc
      · rw [upd_ne (at_ne e hc exo_tup), upd_ne (ne_of_none hc free)]
        exact hc
/-- self.f = y, a further field -/
theorem ox_more (T : OxC X.K C B newId initId bm) (I : Inv X pins σ H s) (e : H a = some (exo a C (some dx))) (ed : H dx = some (exd dx fs)) (hl : fs.length ≤ 900)
    (no : PySem.W.findIn X.K (.ref C) f = some none) (ry : RelV y u) (h : ∀ s', Inv X pins σ (upd H dx (exd dx ((f, y) :: fs))) s' → Q () s') :
    wpAny (model X.prog X.w) A (setAttr (.ref a) f u) Q E s := by
  obtain ⟨cd, hcl, hmr, hdi⟩ := T.data
  obtain ⟨l1, l2, l3⟩ := T.look hmr (.ref a)
  obtain ⟨t1, ho⟩ := exo_at I.hok e
  obtain ⟨mA, hns, rel⟩ := exd_at I.hok ed
  have hw := within_of rel
  obtain ⟨hp, g, d, t, os⟩ := s
  obtain ⟨oD, _, _, hoD, _, _⟩ := hns.count hw
  refine PySem.W.set_plain I.kIn (ox := { cls := .ref C, dict := some dx, data := .fields #[.ref t1, .none, .none, .none, .bool false, .none] })
    (od := some oD) ⟨ho, rfl, rfl, hoD⟩ T.sa ?_
  refine put_more I.kIn ho hns hw (by rw [List.length_map]; omega) hcl l1 l2 l3 hdi no fun h' tk' k hn => ?_
  have there : ∃ o, h'.get? dx = some o := by
    obtain ⟨o, _, _, e', _⟩ := hn
    exact ⟨o, e'⟩
  refine h _ (I.write (t' := tk') (x := dx) (e := dx) (o := exd dx ((f, y) :: fs)) ?_ (.inl rfl) k there (exd_ok hn (relO_put ry rel)))
  rw [ed]
  exact True.intro
/-- B.__init__(self, ..) of an exception without fields: nothing of it is told -/
theorem ox_init {us : List Value} {Q : Value → Shared → Prop} (T : OxC X.K C B newId initId bm) (I : Inv X pins σ H s) (e : H a = some (exo a C none)) (hl : us.length ≤ sizeLine)
    (h : ∀ s', Inv X pins σ H s' → Q .none s') : wpAny (model X.prog X.w) A (call (.builtin initId) (.ref a :: us)) Q E s := by
  obtain ⟨nm, q, N, bs, sn, sub, ab, col, dd, k0, k1, k2, k3, k5, hC⟩ := T.cls
  obtain ⟨t1, ho⟩ := exo_at I.hok e
  obtain ⟨hp, g, d, t, os⟩ := s
  refine wpAny_call (PySem.HandSPX.init_base T.F (fun _ => rfl) (I.kIn _ _ hC) ho hl fun h' t2 k hx => ?_)
  have J := I.write (t' := t) (x := a) (e := a) (o := exo a C none) (by rw [e]; exact True.intro) (.inl rfl) k ⟨_, hx⟩ (exo_ok hx)
  have eu : upd H a (exo a C none) = H := by
    funext b
    by_cases hb : b = a
    · subst hb
      rw [upd_same, e]
    · rw [upd_ne hb]
  rw [eu] at J
  exact h _ J
end
/-! ### the readings -/
def tBin (K : PySem.W.Frag) (B newId initId : String) (bm : List Value) (ta : TA) : TE := fun σ H Q => ta σ H fun vs H1 =>
  ∃ (a C : Addr) (ws : List V), vs = .ref a :: ws ∧ ws.length ≤ 1000 ∧ OxC K C B newId initId bm ∧ H1 a = some (exo a C none) ∧ Q .non H1
def tPut (K : PySem.W.Frag) (B newId initId : String) (bm : List Value) (f : Str) (to te : TE) : TS := fun D σ H => te σ H fun y H1 => to σ H1 fun x H2 =>
  ∃ a C : Addr, x = .ref a ∧ OxC K C B newId initId bm ∧ PySem.W.findIn K (.ref C) f = some none ∧
    ((H2 a = some (exo a C none) ∧ ∀ dx, H2 dx = none → dx ≠ a → D.nx σ (upd (upd H2 dx (exd dx [(f, y)])) a (exo a C (some dx)))) ∨
      ∃ (dx : Addr) (fs : List (Str × V)), H2 a = some (exo a C (some dx)) ∧ H2 dx = some (exd dx fs) ∧ fs.length ≤ 900 ∧ D.nx σ (upd H2 dx (exd dx ((f, y) :: fs))))
/-- C(..) as a value: gV puts the exception itself, the values by position and those by name in the parameters' order -/
def tNew (C : Addr) (n m : Nat) (sp : Sp) (gV : List V → List V → List V) (t tk : TA) : TE := fun σ H Q => t σ H fun vs H1 => tk σ H1 fun zs H2 =>
  vs.length = n ∧ zs.length = m ∧ vs.length ≤ 1000 ∧ ∀ a, H2 a = none → sp (gV (.ref a :: vs) zs) (upd H2 a (exo a C none)) (fun v H3 => v = .non ∧ Q (.ref a) H3) (fun _ _ _ => False)
/-- e.f, e such an exception -/
def tFld (K : PySem.W.Frag) (f : Str) (te : TE) : TE := fun σ H Q => te σ H fun x H1 =>
  ∃ (a C dx : Addr) (B newId initId : String) (bm : List Value) (fs : List (Str × V)) (v : V), x = .ref a ∧ OxC K C B newId initId bm ∧ PySem.W.findIn K (.ref C) f = some none ∧
    H1 a = some (exo a C (some dx)) ∧ H1 dx = some (exd dx fs) ∧ fs.lookup f = some v ∧ Q v H1
/-- isinstance(e, c) -/
def rIsX (K : PySem.W.Frag) : List V → Hp → VK → Prop := fun xs H Q => ∃ (a C : Addr) (od : Option Addr) (fs : List (Str × V)) (B newId initId : String) (bm : List Value) (c : V) (u : Value) (b : Bool),
  xs = [.ref a, c] ∧ ClsV c u ∧ OxC K C B newId initId bm ∧ H a = some (exo a C od) ∧ (∀ dx, od = some dx → H dx = some (exd dx fs)) ∧ PySem.W.kitOne K (.ref C) u = some b ∧ Q (.bl b) H
section
variable {X : Cx} {o e : Expr} {es : List Expr} {to te : TE} {ta : TA} {f : Str} {p p' p1 p2 pos : Pos} {B newId initId : String} {bm : List Value}
theorem pe_bin {nB : Str} {pl : Sem Bool} (hg : Gl X nB) (hm : X.mg nB = none) (hv : bootBuiltins nB = some (.type B)) (ty : typeOf (.type B) = pure (.type "type"))
    (vV : PySem.W.findCls X.K (.type B) (.type "type") "__init__" = some (.val (.builtin initId))) (q4 : Manifest.isStub B = false) (ha : PA X (e :: es) ta) (q3 : PySem.W.handedIn (.builtin initId) = true)
    (hn1 : nB ≠ "__name__" := by decide) (hn2 : (nB == ("__debug__" : Str)) = false := by decide)
    (hc : eval (.Call (.Attribute (.Name nB p1) "__init__" p2) (e :: es) [] pos) X.env = (do
      let ov ← eval (.Name nB p1) X.env
      standAt p2.atName
      let (f, first) ← holding [ov] (getMethod ov "__init__" pl)
      callWith pos f first (backTo pos (starEach (e :: es) X.env)) (backToKw pos (keywordEach [] X.env))) := by rfl)
    (he : starEach (e :: es) X.env = (false, eval e X.env) :: starEach es X.env := by rfl) (hpl : (backTo pos (starEach es X.env)).any (·.1) = false := by rfl) :
    PE X (.Call (.Attribute (.Name nB p1) "__init__" p2) (e :: es) [] pos) (tBin X.K B newId initId bm ta) := by
  refine ⟨fun pins s σ H Q I h => ?_⟩
  refine PySem.W.methodCall_KW (ld_blt I hg hm hv ?_ hn1 hn2) hc
  obtain ⟨m, fr⟩ := I.fr
  refine PySem.W.method_type fr I.ok.mod.kin ty q4 vV q3 ?_
  show wpAny _ _ (callWith pos (Value.builtin initId) [] (backTo pos (starEach (e :: es) X.env)) []) _ _ _
  refine PyProof.Rows.callWith_method1 (thn (ha.run pos pins _ σ H _ (I.tok _) h) fun us s1 ⟨vs, H1, I1, r1, a, C, ws, ev, hl, T, ea, q⟩ => ?_) he hpl
  subst ev
  cases r1 with
  | @cons _ u0 _ ur ra rr =>
    obtain rfl : u0 = Value.ref a := ra
    have len : ur.length ≤ sizeLine := by
      have e1 := Paired.length rr
      rw [← e1, sizeLine_eq]
      omega
    exact ox_init T I1 ea len fun s' J => ⟨.non, H1, J, rfl, q⟩
/-- self.f = e -/
theorem ps_put (ho : PE X o to) (he : PE X e te) (hs : swapsWith e (some (.Attribute o f p')) pos.line X.env = pure false := by rfl) :
    PS X (.Assign [.Attribute o f p'] e pos) (tPut X.K B newId initId bm f to te) := by
  refine ⟨fun pins s σ H D I h => ?_⟩
  refine plainObj_wpAny_Assign_Attribute (thn (he.run pins s σ H _ I h) fun v s1 ⟨y, H1, I1, r1, q1⟩ => ?_) hs
  refine thn (ho.run pins s1 σ H1 _ I1 q1) fun u s2 ⟨x, H2, I2, r2, a, C, ex, T, no, q⟩ => ?_
  subst ex
  obtain rfl : u = Value.ref a := r2
  rcases q with ⟨ea, q⟩ | ⟨dx, fs, ea, ed, hl, q⟩
  · exact ox_first T I2 ea no r1 fun dx s' n ne J => ⟨σ, _, J, q dx n ne⟩
  · exact ox_more T I2 ea ed hl no r1 fun s' J => ⟨σ, _, J, q⟩
/-- e.f -/
theorem pe_xfld (he : PE X e te) (hb : attributeBase e f X.env (eval e X.env) = eval e X.env := by rfl) : PE X (.Attribute e f pos) (tFld X.K f te) := by
  refine ⟨fun pins s σ H Q I h => ?_⟩
  refine attr_of hb (thn (he.run pins s σ H _ I h) fun u s1 ⟨x, H1, I1, rx, a, C, dx, B, newId, initId, bm, fs, v, ex, T, no, ea, ed, l, q⟩ => ?_)
  subst ex
  obtain rfl : u = Value.ref a := rx
  obtain ⟨t1, ho⟩ := exo_at I1.hok ea
  obtain ⟨mA, hns, hr⟩ := exd_at I1.hok ed
  obtain ⟨od, hod, hl⟩ := lookIn_ns hns
  obtain ⟨u, hu, ru⟩ := RelO.some_of (v := v) (o := mA f) (by rw [← l]; exact hr f)
  have J : PySem.W.InstAt s1.heap a { cls := .ref C, dict := some dx, data := .fields #[.ref t1, .none, .none, .none, .bool false, .none] } C (some od) := ⟨ho, rfl, rfl, hod⟩
  exact HandSPX.exc_get I1.kIn J T.ga T.gg T.exC (PySem.W.findObj_own T.hd no rfl (by rw [hl, hu])) (handed_of ru) ⟨v, H1, I1.tok _, ru, q⟩
theorem call_isX : CallR X (.builtin "isinstance") (rIsX X.K) := by
  intro pins s σ H xs us Q I r h
  obtain ⟨a, C, od, fs, B, newId, initId, bm, c, u, b, rfl, k, T, ea, ed, e, q⟩ := h
  obtain ⟨u1, u2, rfl, r1, r2⟩ := vals2 r
  have e2 := k.eq r2
  subst e2
  obtain rfl : u1 = Value.ref a := r1
  obtain ⟨t1, ho⟩ := exo_at I.hok ea
  obtain ⟨cd, hcl, _⟩ := T.data
  have some_ : (PySem.W.clsIn X.K C).isSome = true := by rw [hcl]; rfl
  have fin : ∀ tk, EP X pins σ Q (.bool b) { s with toks := tk } := fun tk => ⟨.bl b, H, I.tok tk, rfl, q⟩
  cases od with
  | none =>
    have J : PySem.W.InstAt s.heap a { cls := .ref C, dict := none, data := .fields #[.ref t1, .none, .none, .none, .bool false, .none] } C none := ⟨ho, rfl, rfl, trivial⟩
    exact PySem.W.kia_one (PySem.W.kitx_exc some_ T.ga T.gg T.exC T.ca T.cn T.ct T.om) I.kIn J e (fun z => nomatch z) fin
  | some dx =>
    obtain ⟨mA, hns, hr⟩ := exd_at I.hok (ed dx rfl)
    obtain ⟨o', hod, hl⟩ := lookIn_ns hns
    have J : PySem.W.InstAt s.heap a { cls := .ref C, dict := some dx, data := .fields #[.ref t1, .none, .none, .none, .bool false, .none] } C (some o') := ⟨ho, rfl, rfl, hod⟩
    exact PySem.W.kia_one (PySem.W.kitx_exc some_ T.ga T.gg T.exC T.ca T.cn T.ct T.om) I.kIn J e (fun z => nomatch z) fin
end
/-! ### making one, kept as a value -/
section
variable {X : Cx} {CX : CXT} {k n : Nat} {fI C : Addr} {fd : FuncData} {ps ks : List Str} {sp : Sp} {x : Str} {p pos : Pos} {e : Expr} {es : List Expr} {kws : List Keyword}
variable {t tk : TA} {g : List Value → List Value → List Value} {gV : List V → List V → List V} {B newId initId : String} {bm : List Value}
theorem run_new {pins : List (Addr × Obj)} {σ : St} {H : Hp} {s : Shared} {Q : VK} {us ws : List Value} {vs zs : List V} (T : OxC X.K C B newId initId bm)
    (iC : PySem.W.findIn X.K (.ref C) "__init__" = some (some (.ref fI))) (tI : PySem.W.typeIn X.K (.ref fI) = some (.type "function"))
    (F : FnOk X.prog X.w X.K X.mg X.base CX k fI fd ps sp) (hr : Room (k + 1) X.A) (hb : KBn X.K fd ps (n + 1) ks g gV) (hx : Passes CX X (fun _ _ _ => False))
    (I : Inv X pins σ H s) (r : Vals vs us) (rz : Vals zs ws) (l1 : vs.length = n) (l2 : zs.length = ks.length) (l3 : vs.length ≤ 1000)
    (h : ∀ a, H a = none → sp (gV (.ref a :: vs) zs) (upd H a (exo a C none)) (fun v H3 => v = .non ∧ Q (.ref a) H3) (fun _ _ _ => False)) :
    wpAny (model X.prog X.w) X.A (call (.ref C) us (ks.zip ws)) (EP X pins σ Q) X.xe s := by
  obtain ⟨nm, q, N, bs, sn, sub, ab, col, dd, k0, k1, k2, k3, k5, hC⟩ := T.cls
  obtain ⟨hp, g1, dr, tk, os⟩ := s
  have big : hp.objs.size ≤ hp.objs.size + 1 := Nat.le_succ _
  have free : H (hp.objs.size + 1) = none := I.hok.fresh big
  have hq := h (hp.objs.size + 1) free
  have kp : ∀ b o, hp.get? b = some o → ((hp.push (PySem.W.kdv_tup us)).push (PySem.HandSPX.excO C hp.objs.size)).get? b = some o := fun b o e =>
    Heap.get?_push_of_some _ (Heap.get?_push_of_some _ e)
  have new : ((hp.push (PySem.W.kdv_tup us)).push (PySem.HandSPX.excO C hp.objs.size)).get? (hp.objs.size + 1) = some (PySem.HandSPX.excO C hp.objs.size) := by heap_get
  have I2 : Inv X pins σ (upd H (hp.objs.size + 1) (exo (hp.objs.size + 1) C none))
      ⟨(hp.push (PySem.W.kdv_tup us)).push (PySem.HandSPX.excO C hp.objs.size), g1, dr, tk, os⟩ :=
    I.laid (t' := tk) (a := hp.objs.size + 1) (o := exo (hp.objs.size + 1) C none) (h' := (hp.push (PySem.W.kdv_tup us)).push (PySem.HandSPX.excO C hp.objs.size)) kp big (exo_ok new)
  have ra : Vals (V.ref (hp.objs.size + 1) :: vs) (Value.ref (hp.objs.size + 1) :: us) := .cons rfl r
  have lu : us.length ≤ sizeLine := by
    have e1 := Paired.length r
    rw [← e1, sizeLine_eq]
    omega
  have n1 : (Value.ref (hp.objs.size + 1) :: us).length = n + 1 := by
    rw [List.length_cons, ← r.length, l1]
  refine wpAny_call (EV.callK T.F (I.kIn _ _ hC) (PySem.W.looks_findIn I.kIn iC) (fun self => PySem.W.bind_fn I.kIn self tI) lu
    (codeAny_mono (F.run _ X.stack _ _ ⟨Value.ref (hp.objs.size + 1) :: us, ks.zip ws⟩ (g (Value.ref (hp.objs.size + 1) :: us) ws) _ _ (fun _ _ _ => False)
      (hr.make C us (ks.zip ws)) (I2.env0.make C us (ks.zip ws)) (hb.to _ _ ws I2.kIn n1 (rz.length.symm.trans l2)) (hb.rel ra rz) hq) fun r s' hq' => ?_))
  cases r with
  | error er => exact hx pins σ _ _ er s' I2 hq'
  | ok fl =>
    cases fl with
    | ret u =>
      obtain ⟨v, H3, I3, rv, ev, q3⟩ := I2.after hq'
      subst ev
      exact ⟨rv, ⟨V.ref (hp.objs.size + 1), H3, I3, rfl, q3⟩⟩
    | next => exact False.elim hq'
    | brk => exact False.elim hq'
    | cont => exact False.elim hq'
/-- C(e, ..) -/
theorem pe_new (T : OxC X.K C B newId initId bm) (iC : PySem.W.findIn X.K (.ref C) "__init__" = some (some (.ref fI))) (tI : PySem.W.typeIn X.K (.ref fI) = some (.type "function"))
    (F : FnOk X.prog X.w X.K X.mg X.base CX k fI fd ps sp) (hr : Room (k + 1) X.A) (hb : KBn X.K fd ps (n + 1) [] g gV) (hx : Passes CX X (fun _ _ _ => False))
    (hg : Gl X x) (hm : X.mg x = some (.ref C)) (ha : PA X (e :: es) t) (hdb : (x == ("__debug__" : Str)) = false := by decide)
    (he : starEach (e :: es) X.env = (false, eval e X.env) :: starEach es X.env := by rfl) (hpl : (backTo pos (starEach es X.env)).any (·.1) = false := by rfl) :
    PE X (.Call (.Name x p) (e :: es) [] pos) (tNew C n 0 sp gV t tNil) := by
  refine ⟨fun pins s σ H Q I h => ?_⟩
  refine wpAny_Call_Name_kw (ld_glob I hg hm ?_ hdb)
  refine PySem.W.callWith_K (h₀ := X.base) I.ok.mod.kin T.kC (thn (ha.run pos pins s σ H _ I h) fun us s1 ⟨vs, H1, I1, r1, q1⟩ => ⟨I1.kIn, ?_⟩) he hpl
  obtain ⟨l1, _, l3, q2⟩ := q1
  exact run_new (ws := []) (zs := []) T iC tI F hr hb hx I1 r1 .nil l1 rfl l3 q2
/-- C(k = v, ..) -/
theorem pe_newK (T : OxC X.K C B newId initId bm) (iC : PySem.W.findIn X.K (.ref C) "__init__" = some (some (.ref fI))) (tI : PySem.W.typeIn X.K (.ref fI) = some (.type "function"))
    (F : FnOk X.prog X.w X.K X.mg X.base CX k fI fd ps sp) (hr : Room (k + 1) X.A) (hb : KBn X.K fd ps 1 ks g gV) (hx : Passes CX X (fun _ _ _ => False))
    (hg : Gl X x) (hm : X.mg x = some (.ref C)) (hkw : PK X kws tk) (hall : (backToKw pos (keywordEach kws X.env)).all (·.1.isSome) = true := by rfl)
    (hks : (backToKw pos (keywordEach kws X.env)).filterMap (·.1) = ks := by rfl) (hdb : (x == ("__debug__" : Str)) = false := by decide)
    (hpl : ((backTo pos (starEach [] X.env)).any (·.1) || (backToKw pos (keywordEach kws X.env)).any (·.1.isNone)) = false := by rfl) :
    PE X (.Call (.Name x p) [] kws pos) (tNew C 0 ks.length sp gV tNil tk) := by
  refine ⟨fun pins s σ H Q I h => ?_⟩
  refine wpAny_Call_Name_kw (ld_glob I hg hm ?_ hdb)
  refine PySem.W.callWith_KW0 (h₀ := X.base) I.ok.mod.kin T.kC hall ?_ hpl
  refine thn (hkw.run pos pins s σ H _ I h) fun ws s2 ⟨zs, H2, I2, rz, l1, l2, l3, q2⟩ => ⟨I2.kIn, ?_⟩
  rw [hks]
  exact run_new (us := []) (vs := []) T iC tI F hr hb hx I2 .nil rz rfl l2 (by decide) q2
end
end EV
end L2
/-! Defs that show values by repr: a promise that is kept where no repr runs yet. -/
namespace L2
namespace EV
open PySem PySem.Spec PyProof.Rows _root_.EV
/-- FnOk, where no repr runs yet -/
structure FnG (P : Program) (w : World) (K : PySem.W.Frag) (mg : Str → Option Value) (base : Heap) (CX : CXT) (k : Nat) (f : Addr) (fd : FuncData) (ps : List Str) (sp : Sp) : Prop where
  len : ∀ vs H Q E, sp vs H Q E → vs.length = ps.length
  run : ∀ (A : Around) (outer : List Env) (s : Shared) (H : Hp) (args : Args) (us : List Value) (vs : List V) (Q : VK) (E : XK), Room k A → A.guards = some [] →
    Env0 P w K mg base A outer s H → BindsTo s fd args (ps.zip us) → Vals vs us → sp vs H Q E → codeAny (model P w) A (.call (.ref f) args) (CR CX outer P w H s Q E) s
section
variable {P : Program} {w : World} {K : PySem.W.Frag} {mg : Str → Option Value} {base : Heap}
theorem okG {x qual : Str} {st : Stmt} {f : Addr} {fd : FuncData} {N ps : List Str} {k : Nat} {sp : Sp} (F : Fun K x qual st f fd) (S : FnScope N ps (defScope st))
    (len : ∀ vs H Q E, sp vs H Q E → vs.length = ps.length)
    (hbody : ∀ (cdv : Value) (A : Around) (outer : List Env) (s : Shared) (H : Hp) (vs : List V) (Q : VK) (E : XK), Room k (A.deeper (envOfC qual (defScope st) s.heap.objs.size f cdv)) →
      A.guards = some [] → sp vs H Q E →
      ∃ t, PSs (cxOf CX0 P w K mg base N qual (defScope st) f cdv A outer s H E).nox (defBody st) t ∧ t { nx := fun _ H' => Q .non H', rt := Q } (start N vs) H) :
    FnG P w K mg base CX0 (k + 1) f fd ps sp := by
  obtain ⟨oc, od, kV, doc, pm, an, cdv, ct, osl, rfl, lk, hcd⟩ := F.ex
  refine ⟨len, fun A outer s H args us vs Q E hr hgd e0 hb r hsp => ?_⟩
  have hl := len _ _ _ _ hsp
  have keptB : ∀ b o, base.get? b = some o → s.heap.get? b = some o := fun b o e => (e0.bs b o e).1
  have KX : K.In s.heap := e0.mod.kin.keeps keptB
  have lim : s.heap.NoLimit := e0.mod.nolimit.keeps keptB
  have kinds : ∀ y ∈ ps.zip us, (defScope st).names.lookup y.1 = some .local ∨
      ((defScope st).names.lookup y.1 = some .cell ∧ ((cellsFrom (s.heap.objs.size + 1) (defScope st).names []).lookup y.1).isSome = true) := fun ⟨n, v⟩ hy =>
    (S.par n (List.of_mem_zip hy).1).elim .inl fun q => .inr ⟨q, PySem.W.cellsFrom_some _ _ _ (.inl q)⟩
  refine codeAny_call_function hr.depth (KX _ _ lk) rfl S.co S.gen rfl (PySem.W.codeRec_of KX hcd) (hb _ _ _ _ ?_)
  refine wpAny_newFunctionEnv_cells S.kind kinds fun env he s1 x => ?_
  subst he
  refine ⟨lim.keeps x.toInCall.keep, codeAny_func ?_⟩
  obtain ⟨t, ht0, hq⟩ := hbody cdv A outer s H vs Q E (hr.deeper _) hgd hsp
  have ht := ht0.nox
  have I : Inv (cxOf CX0 P w K mg base N qual (defScope st) f cdv A outer s H E) [] (start N vs) H s1 := inv_start S hr.hd e0 hl r x
  refine wpAny_mono (ht.run [] s1 (start N vs) H _ I hq) (fun fl s' hs => ?_) fun e s' hs => hs
  cases fl with
  | ret u =>
    obtain ⟨v, σ', H', J, rv, q⟩ := hs
    exact ⟨v, H', J.os, J.bare, J.base, J.hok, rv, q⟩
  | next =>
    obtain ⟨σ', H', J, q⟩ := hs
    exact ⟨V.non, H', J.os, J.bare, J.base, J.hok, rfl, q⟩
  | brk =>
    obtain ⟨_, _, _, q⟩ := hs
    exact False.elim q
  | cont =>
    obtain ⟨_, _, _, q⟩ := hs
    exact False.elim q
end
section
variable {X : Cx} {CX : CXT} {k : Nat} {f : Addr} {fd : FuncData} {ps : List Str} {sp : Sp} {x : Str} {p pos : Pos} {e : Expr} {es : List Expr} {t : TA} {E : XK}
/-- f(e, ..) of such a def -/
theorem pe_callG (F : FnG X.prog X.w X.K X.mg X.base CX k f fd ps sp) (hr : Room k X.A) (hgd : X.A.guards = some []) (hg : Gl X x) (hm : X.mg x = some (.ref f))
    (hk : PySem.W.keepIn X.K (.ref f) = true) (hb : Binds X.K fd ps []) (hx : Passes CX X E) (ha : PA X (e :: es) t) (hdb : (x == ("__debug__" : Str)) = false := by decide)
    (he : starEach (e :: es) X.env = (false, eval e X.env) :: starEach es X.env := by rfl) (hpl : (backTo pos (starEach es X.env)).any (·.1) = false := by rfl) :
    PE X (.Call (.Name x p) (e :: es) [] pos) (fun σ H Q => t σ H fun vs H1 => sp vs H1 Q E) := by
  refine ⟨fun pins s σ H Q I h => ?_⟩
  refine wpAny_Call_Name_kw (ld_glob I hg hm ?_ hdb)
  refine PySem.W.callWith_K (h₀ := X.base) I.ok.mod.kin hk (thn (ha.run pos pins s σ H _ I h) fun us s1 ⟨vs, H1, I1, r, q⟩ => ⟨I1.kIn, ?_⟩) he hpl
  have hl : us.length = ps.length := by
    rw [← r.length]
    exact F.len _ _ _ _ q
  have bn := hb s1 us I1.kIn (by rw [List.append_nil]; exact hl)
  rw [List.append_nil] at bn
  refine wpAny_call (codeAny_mono (F.run X.A X.stack s1 H1 ⟨us, []⟩ us vs Q E hr hgd I1.env0 bn r q) fun r2 s2 hq => ?_)
  cases r2 with
  | error er => exact hx pins σ H1 s1 er s2 I1 hq
  | ok fl =>
    cases fl with
    | ret u => exact I1.after hq
    | next => exact False.elim hq
    | brk => exact False.elim hq
    | cont => exact False.elim hq
end
/-- the law's own call, of a promise that is kept where no repr runs -/
theorem law_callG {P : Program} {w : World} {K : PySem.W.Frag} {mg mb : Str → Option Value} {k : Nat} {fa a : Addr} {fd : FuncData} {x : Str} {sp : Sp} {s1 : Shared} {vs : List Value} {ns : List Int}
    (KX : K.In s1.heap) (hns : s1.heap.Ns mainGlobals mg) (hb : s1.heap.Ns builtinsNs mb) (hbb : ∀ x : Str, x ≠ "__name__" → mb x = bootBuiltins x) (hlim : s1.heap.NoLimit) (hg : s1.gens = #[])
    (ha : s1.heap.get? a = some { cls := .type "list", data := .seq vs.toArray }) (hi : IntsAre vs ns) (hl : ns.length ≤ sizeLine) (hr : Room k callerA)
    (F : ∀ base : Heap, K.In base → base.Ns mainGlobals mg → FnG P w K mg base CX0 k fa fd [x] sp) (hbind : ∀ (s : Shared) (u : Value), BindsTo s fd ⟨[u], []⟩ [(x, u)])
    (hsp : ∀ H : Hp, Only H → SqL K H a (ns.map V.int) → sp [.ref a] H (fun v _ => v = .bl true) fun _ _ _ => False) :
    codeAny (model P w) callerA (.call (.ref fa) ⟨[.ref a], []⟩) (fun r s' => r = .ok (.ret (.bool true)) ∧ OldK s1.heap s'.heap ∧ s'.os = s1.os ∧ AllBare s'.gens) s1 := by
  have rv := vals_ints hi
  have lenV := hi.length
  have core : ∀ H : Hp, Only H → SqL K H a (ns.map V.int) → HOk P w H s1.heap → (∀ b, H b ≠ none → b = a) → (H a ≠ none → K.lookup a = none) →
      codeAny (model P w) callerA (.call (.ref fa) ⟨[.ref a], []⟩) (fun r s' => r = .ok (.ret (.bool true)) ∧ OldK s1.heap s'.heap ∧ s'.os = s1.os ∧ AllBare s'.gens) s1 := by
    intro H hO hS hok onlyA notK
    have noDict : ∀ {b : Addr} {o : Obj} {es : Array DictEntry} {ep : Nat}, s1.heap.get? b = some o → o.data = .dict es ep → H b = none := fun {b o es ep} e d => by
      cases q : H b with
      | none => rfl
      | some u =>
        obtain rfl : b = a := onlyA b (by rw [q]; simp)
        rw [ha] at e
        cases e
        exact nomatch (show Data.seq vs.toArray _ = Data.dict es ep from d)
    have nsK : ∀ {b : Addr} {m : Str → Option Value}, s1.heap.Ns b m → (hidT s1.heap H).Ns b m := fun {b m} ⟨o, es, ep, e, d, r⟩ => ⟨o, es, ep, hidT_get e (noDict e d), d, r⟩
    have kin : K.In (hidT s1.heap H) := fun b o e => hidT_get (KX b o e) (by
      cases q : H b with
      | none => rfl
      | some u =>
        obtain rfl : b = a := onlyA b (by rw [q]; simp)
        rw [notK (by rw [q]; simp)] at e
        cases e)
    obtain ⟨mc, c1, c2⟩ := hlim
    have hM : Mod K mg (hidT s1.heap H) := ⟨kin, nsK hns, ⟨mb, nsK hb, hbb⟩, ⟨mc, nsK c1, c2⟩⟩
    have noF : ∀ b, b ∉ frs [] := fun b z => absurd (show b ∈ ([] : List Addr) from z) (by simp)
    have e0 : Env0 P w K mg (hidT s1.heap H) callerA [] s1 H :=
      ⟨rfl, hM, fun b o e => of_hidT e, Nat.le_of_eq (hidT_size _ _), trivial, fun b z => absurd z (noF b), hok, .of_eq hg⟩
    refine codeAny_mono ((F _ kin (nsK hns)).run callerA [] s1 H ⟨[.ref a], []⟩ [.ref a] [.ref a] _ _ hr rfl e0 (hbind s1 (.ref a)) (.cons rfl .nil) (hsp H hO hS)) fun r s' h => ?_
    cases r with
    | error e => exact False.elim h
    | ok fl =>
      cases fl with
      | next => exact False.elim h
      | brk => exact False.elim h
      | cont => exact False.elim h
      | ret u =>
        obtain ⟨v, H', os, bare, un, hok', r', q⟩ := h
        obtain rfl : v = .bl true := q
        obtain rfl : u = Value.bool true := r'
        refine ⟨rfl, OldK.of_keep fun b o e => ?_, os, bare⟩
        cases q : H b with
        | none => exact un.keep b o e q (noF b) (by simp)
        | some u =>
          rcases hO b with z | ⟨ob, xs, z⟩
          · rw [q] at z
            cases z
          · obtain ⟨e1, _⟩ := hok b _ z
            obtain ⟨e2, _⟩ := hok' b _ (un.frzs b ob _ z)
            rw [e] at e1
            cases e1
            exact e2
  cases hk : K.lookup a with
  | some o =>
    have e := KX a o hk
    rw [ha] at e
    cases e
    refine core (fun _ => none) (fun _ => .inl rfl) (.inr ⟨_, vs.toArray, _, hk, rfl, rfl, rfl, ?_, by simpa using rv⟩) (fun b u z => ?_) (fun b z => absurd rfl z) fun z => absurd rfl z
    · rw [List.size_toArray, lenV]
      exact hl
    · exact nomatch (show (none : Option HO) = some u from z)
  | none =>
    refine core (fun b => if b = a then some (.frz { cls := .type "list", data := .seq vs.toArray } (.lst (ns.map V.int))) else none) (fun b => ?_)
      (.inl (.inr ⟨{ cls := .type "list", data := .seq vs.toArray }, if_pos rfl⟩)) (fun b u z => ?_) (fun b z => ?_) fun _ => hk
    · by_cases hb : b = a
      · exact .inr ⟨_, _, if_pos hb⟩
      · exact .inl (if_neg hb)
    · by_cases hb : b = a
      · have z2 := (if_pos hb).symm.trans z
        cases z2
        subst hb
        exact ⟨ha, by rw [List.length_map]; exact hl, vs, _, rv, ha⟩
      · exact nomatch (if_neg hb).symm.trans z
    · by_cases hb : b = a
      · exact hb
      · exact absurd (if_neg hb) z
theorem walk_ofG {l : PySem.W.OpenLaw} {n k : Nat} {q : Program} {loose : List Str} {XP : (Str → Option Value) → Heap → Prop} {YP : World → Heap → Prop} {d : DefRec} {K : Params → PySem.W.Frag} {sp : PySem.W.Frag → Sp} {x : Str}
    (hn : l.most = some n) (hn2 : n ≤ sizeLine) (hdf : d.params.defaults = []) (hr : Room k callerA) (hY : ∀ (w : World) (h : Heap), YP w h → (K w.params).In h)
    (F : ∀ (w : World) (mg : Str → Option Value) (fa : Addr) (h : Heap), (K w.params).In h → h.Ns mainGlobals mg → mg d.name = some (.ref fa) →
      ∃ fd : FuncData, (∀ (s : Shared) (u : Value), BindsTo s fd ⟨[u], []⟩ [(x, u)]) ∧
        ∀ base : Heap, (K w.params).In base → base.Ns mainGlobals mg → FnG l.prog w (K w.params) mg base CX0 k fa fd [x] (sp (K w.params)))
    (hsp : ∀ (K : PySem.W.Frag) (H : Hp) (a : Addr) (ns : List Int), ns.length ≤ n → Only H → SqL K H a (ns.map V.int) → sp K [.ref a] H (fun v _ => v = .bl true) fun _ _ _ => False) :
    PySem.W.WalkO q loose XP YP l.row.toRowW d [] (fun f vs => PySem.call f vs) := by
  refine Att.attach_call hn hdf fun w s0 s1 mg mb fa o pm cd doc a vs ns G Y ho hd hcd hmg hobj hints hlen hg => ?_
  have KX := hY w _ Y
  obtain ⟨fd, hb, hF⟩ := F w mg fa _ KX G.T.g hmg
  exact law_callG KX G.T.g G.T.b G.T.builtins G.T.nolimit hg hobj hints (Nat.le_trans hlen hn2) hr hF hb fun H hO hS => hsp _ H a ns hlen hO hS
end EV
end L2
/-! repr of a list of data. -/
namespace L2
namespace EV
open PySem PySem.Spec PyProof.Rows _root_.EV
/-- v stands for d: data without dicts, or the dict {"a": 1} -/
inductive Sh (K : PySem.W.Frag) (H : Hp) : V → PyData → Prop
  | plain {v : V} {d : PyData} : Dp K H v d → d.hasDict = false → Sh K H v d
  | one {a : Addr} : H a = some (.dK [(Sum.inr "a", V.int 1)]) → Sh K H (.ref a) (.dict [(.str "a", .int 1)])
def Small (d : PyData) : Prop := d.showable = true ∧ d.shown.length ≤ 60 ∧ d.depth ≤ 5
inductive ShAll (K : PySem.W.Frag) (H : Hp) : List V → List PyData → Prop
  | nil : ShAll K H [] []
  | cons {v : V} {vs : List V} {d : PyData} {ds : List PyData} : Sh K H v d → Small d → ShAll K H vs ds → ShAll K H (v :: vs) (d :: ds)
section
variable {X : Cx} {pins : List (Addr × Obj)} {σ : St} {H : Hp} {s : Shared}
theorem sh_reads (I : Inv X pins σ H s) {v : V} {d : PyData} {u : Value} (h : Sh X.K H v d) (r : RelV v u) : ∃ as, Reads s.heap u d as ∧ (d.hasDict = true → sysModules ∉ as) := by
  cases h with
  | plain hd no =>
    obtain ⟨as, q⟩ := Dp.reads I d v u hd r
    exact ⟨as, q, fun z => by rw [no] at z; cases z⟩
  | @one a e =>
    obtain rfl : u = Value.ref a := r
    obtain ⟨_, nsys, vs, kv, o, es, ep, ho, ex, hd, _, pr, _⟩ := (show ObjOk X.prog X.w H s.heap a (.dK [(Sum.inr "a", V.int 1)]) from I.hok a _ e)
    cases kv with
    | @cons _ p _ ps hk kr =>
      cases kr
      obtain ⟨k, v⟩ := p
      obtain ⟨ek, t, ev⟩ := hk
      dsimp only at ek ev
      subst ek ev
      generalize hes : es.toList = l at pr
      cases pr with
      | @cons e1 _ l2 _ k1 k2 k3 =>
        cases k3
        obtain ⟨t2, ek⟩ : ∃ t2, e1.key = Value.str "a" t2 := Value.isStrOf_shape k1
        refine ⟨[a], Reads.dict (as := []) (bs := []) ho ex.1 hd ?_ ?_, fun _ z => ?_⟩
        · rw [hes]
          show ReadsAll s.heap [e1.key] [PyData.str "a"] []
          rw [ek]
          exact ReadsAll.cons (Reads.str _ _) ReadsAll.nil
        · rw [hes]
          show ReadsAll s.heap [e1.val] [PyData.int 1] []
          rw [k2]
          exact ReadsAll.cons (Reads.int _ _) ReadsAll.nil
        · obtain rfl : sysModules = a := by simpa using z
          simp at nsys
theorem sh_all (I : Inv X pins σ H s) : ∀ {vs : List V} {ds : List PyData} {us : List Value}, ShAll X.K H vs ds → Vals vs us →
    ∃ as bs, ReadsAll s.heap us ds as ∧ ReadAtMost s.heap (PyData.depthAll ds) bs ∧ ReprAllK X.prog X.w bs s.heap (PyData.depthAll ds) us (PyData.shownAll ds)
  | _, _, _, .nil, .nil => ⟨[], [], ReadsAll.nil, (fun _ h => nomatch h), by simp only [PyData.shownAll]; exact .nil⟩
  | _, _, _, .cons (d := d) (ds := ds) h sm t, .cons r rt => by
    obtain ⟨as1, q1, hsm⟩ := sh_reads I h r
    obtain ⟨as2, b2, q2, m2, k2⟩ := sh_all I t rt
    obtain ⟨b1, m1, k1⟩ := ReprK.of_reads (prog := X.prog) (w := X.w) q1 sm.1 hsm (Nat.le_trans sm.2.1 (by decide))
    refine ⟨as1 ++ as2, b1 ++ b2, ReadsAll.cons q1 q2, ?_, ?_⟩
    · simp only [PyData.depthAll]
      exact (m1.mono (Nat.le_max_left _ _)).append (m2.mono (Nat.le_max_right _ _))
    · simp only [PyData.depthAll, PyData.shownAll]
      exact .cons ((k1.more fun b hb => List.mem_append_left _ hb).level_le (Nat.le_max_left _ _)) (k2.more_le (fun b hb => List.mem_append_right _ hb) (Nat.le_max_right _ _))
theorem shall_depth {K : PySem.W.Frag} {H : Hp} : ∀ {vs : List V} {ds : List PyData}, ShAll K H vs ds → PyData.depthAll ds ≤ 5 ∧ (∀ t ∈ PyData.shownAll ds, t.length ≤ 60) ∧ (PyData.shownAll ds).length = vs.length
  | _, _, .nil => ⟨by simp only [PyData.depthAll]; omega, by simp [PyData.shownAll], by simp [PyData.shownAll]⟩
  | _, _, .cons h sm t => by
    obtain ⟨h1, h2, h3⟩ := shall_depth t
    refine ⟨by simp only [PyData.depthAll]; have := sm.2.2; omega, ?_, by simp [PyData.shownAll, h3]⟩
    intro t ht
    simp only [PyData.shownAll, List.mem_cons] at ht
    rcases ht with rfl | ht
    · exact sm.2.1
    · exact h2 t ht
theorem sum_le60 : ∀ {ts : List Str}, (∀ t ∈ ts, t.length ≤ 60) → (ts.map (·.length)).sum ≤ 60 * ts.length
  | [], _ => by simp
  | t :: ts, h => by
    have h1 := h t (List.mem_cons_self ..)
    have h2 := sum_le60 (ts := ts) fun t ht => h t (List.mem_cons_of_mem _ ht)
    simp only [List.map_cons, List.sum_cons, List.length_cons]
    omega
/-- repr(l), l a list of some data -/
def rShow (K : PySem.W.Frag) : List V → Hp → VK → Prop := fun xs H Q => ∃ (l : Addr) (v : V) (vs : List V) (ds : List PyData), xs = [.ref l] ∧ H l = some (.lst (v :: vs)) ∧ ShAll K H (v :: vs) ds ∧ vs.length ≤ 1000 ∧
  Q (.str (listText (PyData.shownAll ds))) H
theorem call_show (hgd : X.A.guards = some []) (hu : X.A.units + 64 < cLine) : CallR X (.builtin "repr") (rShow X.K) := by
  intro pins s σ H xs us Q I r h
  obtain ⟨l, v, vs, ds, rfl, e, sh, lz, q⟩ := h
  obtain ⟨u, rfl, ru⟩ := vals1 r
  obtain rfl : u = Value.ref l := ru
  obtain ⟨_, its, n, rv, ho⟩ := (show ObjOk X.prog X.w H s.heap l (.lst (v :: vs)) from I.hok l _ e)
  obtain ⟨as, bs, q1, m1, k1⟩ := sh_all I sh rv
  obtain ⟨dp, sz, ln⟩ := shall_depth sh
  have whole : Reads s.heap (.ref l) (.list ds) (l :: as) := Reads.list ho rfl rfl (by simpa using q1)
  have hna : l ∉ bs := not_mem_of_deeper whole (by simp only [PyData.depth]; omega) m1
  have hz : (listText (PyData.shownAll ds)).length ≤ sizeLine := by
    have h1 := listText_len_le (PyData.shownAll ds)
    have h2 := sum_le60 sz
    rw [ln, List.length_cons] at *
    rw [sizeLine_eq]
    omega
  cases rv with
  | @cons _ u1 _ ut r1 r2 =>
    refine call_repr_slot (by omega) ⟨_, ho, rfl⟩ PySem.F.slot_list_repr.toG ?_
    refine call_list_reprK ho rfl rfl hna (by simpa using k1.length_eq) (fun i y ey => k1.item i y (by simpa using ey)) (A := X.A.in1) hgd (fun b _ => Clear.nil b) ?_ (fun _ _ z => z) (fun h' t tk hk => ⟨_, _, rfl, ?_⟩) hz
    · show X.A.units + 1 + (PyData.depthAll ds + 1) < cLine
      omega
    · exact ⟨.str _, H, I.kept (t' := tk) hk, ⟨_, rfl⟩, q⟩
end
end EV
end L2
/-! {elt for tg in iter if .. for tg1 in iter1 if ..}: a set of ints by a comprehension of two clauses. -/
namespace L2
namespace EV
open PySem PySem.Spec PyProof.Rows
/-- the comprehension itself -/
abbrev sc2 (elt t0 i0 t1 i1 : Expr) (f0 f1 : List Expr) (sc : Scope) (pos : Pos) : Expr := .SetComp elt [⟨t0, i0, f0, 0⟩, ⟨t1, i1, f1, 0⟩] sc pos
section
variable (elt t0 i0 t1 i1 : Expr) (f0 f1 : List Expr) (sc : Scope) (pos : Pos) (it acc : Value) (env : Env)
theorem turn_outer : compTurn (sc2 elt t0 i0 t1 i1 f0 f1 sc pos) 0 it acc env = (do
    standAt i0.pos
    match ← pyNext it with
    | none => pure (.done .next)
    | some u =>
      letOwnedTupleGo t0 it u
      assign t0 env u
      let mut go := true
      for c in f0 do
        if go then go ← isTrue c env (eval c env)
      if go then
        let xs ← eval i1 env
        standAt i1.pos
        let xs ← foldedSetIterable i1 env xs
        let _ ← runOwn (.compStart (sc2 elt t0 i0 t1 i1 f0 f1 sc pos) 1 (← holding [xs] (pyIter xs)) acc env) env
      again (.compLoop (sc2 elt t0 i0 t1 i1 f0 f1 sc pos) 0 it acc env)) := by rfl
theorem turn_inner : compTurn (sc2 elt t0 i0 t1 i1 f0 f1 sc pos) 1 it acc env = (do
    standAt i1.pos
    match ← pyNext it with
    | none => pure (.done .next)
    | some u =>
      letOwnedTupleGo t1 it u
      assign t1 env u
      let mut go := true
      for c in f1 do
        if go then go ← isTrue c env (eval c env)
      if go then
        (do let y ← eval elt env; standAt elt.pos; let _ ← call (.builtin "set.add") [acc, y])
      again (.compLoop (sc2 elt t0 i0 t1 i1 f0 f1 sc pos) 1 it acc env)) := by rfl
end
section
variable {prog : Program} {w : World} {A : Around} {R : Result → Shared → Prop} {s : Shared} {elt t0 i0 t1 i1 : Expr} {f0 f1 : List Expr} {sc : Scope} {pos : Pos} {it acc : Value} {env : Env}
/-- what is wanted of an error in the block -/
abbrev Erx (prog : Program) (w : World) (A : Around) (env : Env) (R : Result → Shared → Prop) : Value → Shared → Prop := notedBy (model prog w) A env fun e s' => R (.error e) s'
/-- the tests of a clause -/
abbrev tests (fs : List Expr) (env : Env) : Sem Bool := forIn fs true fun c r => if r = true then do let ok ← isTrue c env (eval c env); pure (ForInStep.yield ok) else pure (ForInStep.yield r)
theorem loop_outer (fold : ∀ x, foldedSetIterable i1 env x = pure x) (J : Nat → Shared → Prop)
    (turn : ∀ n s, J n s → wpAny (model prog w) A (pyNext it) (fun r s1 => match r with
      | none => R (.ok .next) s1
      | some u => wpAny (model prog w) A (letOwnedTupleGo t0 it u) (fun _ s2 => wpAny (model prog w) A (assign t0 env u) (fun _ s3 => wpAny (model prog w) A (tests f0 env) (fun ok s4 =>
          if ok = true then wpAny (model prog w) A (eval i1 env) (fun xs s5 => wpAny (model prog w) A (pyIter xs) (fun itv s6 =>
            codeAny (model prog w) A (.compStart (sc2 elt t0 i0 t1 i1 f0 f1 sc pos) 1 itv acc env) (fun r s' => (∃ fl, r = .ok fl) ∧ ∃ m, m < n ∧ J m s') s6) (Erx prog w A env R) s5) (Erx prog w A env R) s4
          else ∃ m, m < n ∧ J m s4) (Erx prog w A env R) s3) (Erx prog w A env R) s2) (Erx prog w A env R) s1) (Erx prog w A env R) s) (n : Nat) (h : J n s) :
    codeAny (model prog w) A (.compLoop (sc2 elt t0 i0 t1 i1 f0 f1 sc pos) 0 it acc env) R s := by
  refine codeAny_loop rfl J (fun n s hJ => ?_) n h
  show wpAny _ A ((compTurn (sc2 elt t0 i0 t1 i1 f0 f1 sc pos) 0 it acc env).onRaise (fun x => do noteFrame x env; theTreesLotGoes x)) _ _ s
  refine wpAny_noted ?_
  rw [turn_outer]
  refine wpAny_bind (wpAny_standAt (wpAny_bind (wpAny_mono (turn n s hJ) (fun r s1 q1 => ?_) fun _ _ z => z)))
  cases r with
  | none => exact wpAny_pure q1
  | some u =>
    refine wpAny_bind (wpAny_mono q1 (fun _ s2 q2 => ?_) fun _ _ z => z)
    refine wpAny_bind (wpAny_mono q2 (fun _ s3 q3 => ?_) fun _ _ z => z)
    refine wpAny_bind (wpAny_mono q3 (fun ok s4 q4 => ?_) fun _ _ z => z)
    cases ok with
    | false => exact wpAny_pure ⟨rfl, q4⟩
    | true =>
      refine wpAny_bind (wpAny_mono q4 (fun xs s5 q5 => ?_) fun _ _ z => z)
      refine wpAny_bind (wpAny_standAt (wpAny_bind (wpAny_of_eq (fold xs) ?_)))
      refine wpAny_bind (wpAny_holding (wpAny_mono q5 (fun itv s6 q6 => ?_) fun _ _ z => z))
      refine wpAny_bind (wpAny_runOwn ?_)
      rw [Around.mark_none]
      refine codeAny_mono q6 fun r s' hr => ?_
      obtain ⟨⟨fl, rfl⟩, hm⟩ := hr
      first
        | exact wpAny_pure ⟨rfl, hm⟩
        | exact wpAny_bind (wpAny_pure (wpAny_pure ⟨rfl, hm⟩))
theorem loop_inner (J : Nat → Shared → Prop)
    (turn : ∀ n s, J n s → wpAny (model prog w) A (pyNext it) (fun r s1 => match r with
      | none => R (.ok .next) s1
      | some u => wpAny (model prog w) A (letOwnedTupleGo t1 it u) (fun _ s2 => wpAny (model prog w) A (assign t1 env u) (fun _ s3 => wpAny (model prog w) A (tests f1 env) (fun ok s4 =>
          if ok = true then wpAny (model prog w) A (eval elt env) (fun y s5 => wpAny (model prog w) A (call (.builtin "set.add") [acc, y]) (fun _ s6 => ∃ m, m < n ∧ J m s6) (Erx prog w A env R) s5) (Erx prog w A env R) s4
          else ∃ m, m < n ∧ J m s4) (Erx prog w A env R) s3) (Erx prog w A env R) s2) (Erx prog w A env R) s1) (Erx prog w A env R) s) (n : Nat) (h : J n s) :
    codeAny (model prog w) A (.compLoop (sc2 elt t0 i0 t1 i1 f0 f1 sc pos) 1 it acc env) R s := by
  refine codeAny_loop rfl J (fun n s hJ => ?_) n h
  show wpAny _ A ((compTurn (sc2 elt t0 i0 t1 i1 f0 f1 sc pos) 1 it acc env).onRaise (fun x => do noteFrame x env; theTreesLotGoes x)) _ _ s
  refine wpAny_noted ?_
  rw [turn_inner]
  refine wpAny_bind (wpAny_standAt (wpAny_bind (wpAny_mono (turn n s hJ) (fun r s1 q1 => ?_) fun _ _ z => z)))
  cases r with
  | none => exact wpAny_pure q1
  | some u =>
    refine wpAny_bind (wpAny_mono q1 (fun _ s2 q2 => ?_) fun _ _ z => z)
    refine wpAny_bind (wpAny_mono q2 (fun _ s3 q3 => ?_) fun _ _ z => z)
    refine wpAny_bind (wpAny_mono q3 (fun ok s4 q4 => ?_) fun _ _ z => z)
    cases ok with
    | false => exact wpAny_pure ⟨rfl, q4⟩
    | true =>
      refine wpAny_bind (wpAny_bind (wpAny_mono q4 (fun y s5 q5 => ?_) fun _ _ z => z))
      refine wpAny_bind (wpAny_standAt (wpAny_bind (wpAny_mono q5 (fun _ s6 q6 => ?_) fun _ _ z => z)))
      exact wpAny_pure (wpAny_pure ⟨rfl, q6⟩)
/-- a clause's start: its walk is begun already, or begins here -/
theorem start_inner (h0 : codeAny (model prog w) A (.compLoop (sc2 elt t0 i0 t1 i1 f0 f1 sc pos) 1 it acc env) R s)
    (h : wpAny (model prog w) A (pyIter it) (fun itv s' => codeAny (model prog w) A (.compLoop (sc2 elt t0 i0 t1 i1 f0 f1 sc pos) 1 itv acc env) R s') (Erx prog w A env R) s) :
    codeAny (model prog w) A (.compStart (sc2 elt t0 i0 t1 i1 f0 f1 sc pos) 1 it acc env) R s := by
  refine codeAny_of_tree ?_
  show wpAny _ _ ((compStart (sc2 elt t0 i0 t1 i1 f0 f1 sc pos) 1 it acc env).onRaise (fun x => do noteFrame x env; standAt theWindowsPlace)) _ _ s
  refine wpAny_notedAt ?_
  unfold compStart
  show wpAny _ _ (ask >>= _) _ _ s
  refine wpAny_bind (wpAny_askSetting (wpAny_ite ?_))
  split
  · first
      | exact wpAny_bind (wpAny_pure (wpAny_pure (And.intro rfl h0)))
      | exact wpAny_pure (And.intro rfl h0)
  · refine wpAny_bind (wpAny_rule ?_)
    show wpAny _ _ (standAt i1.pos >>= _) _ _ s
    exact wpAny_bind (wpAny_standAt (wpAny_bind (wpAny_mono h (fun itv s' q => wpAny_pure (And.intro rfl q)) fun _ _ z => z)))
end
/-- the set at D has got y -/
def addedS (w : World) (D : Addr) (y : V) (H : Hp) (N : Hp → Prop) : Prop := ∃ (k : Int) (S : Int → Bool) (n : Nat), y = .int k ∧ H D = some (SetO w D S n) ∧ n + 1 < scanBound ∧
  N (upd H D (SetO w D (fun j => S j || decide (j = k)) (if S k = true then n else n + 1)))
/-- the reading: D the new set; behind the first clause's store and tests the second walk, from which Nx is reached -/
def tSc2 (w : World) (wi : TI) (g : TG) (tt : TT) (wi1 : TI) (g1 : TG) (tt1 : TT) (te : TE) (vs vs1 : List Nat) : TE := fun σ H Q => wi σ H fun J H1 => ∀ D, H1 D = none →
  ∃ W : Nat → Nat → Hp → Prop, (∃ m, W 0 m (upd H1 D (SetO w D (fun _ => false) 0))) ∧ ∀ i m H, W i m H →
    (J.stop i H ∧ Q (.ref D) H) ∨ (J.go i H ∧ ∃ Nx : Hp → Prop, (∀ H', Nx H' → ∃ m', m' < m ∧ W (i + 1) m' H') ∧ ∀ x H', J.yld i H x H' → g x (wipe σ vs) H' fun σ2 H2 => wipe σ2 vs = wipe σ vs ∧ tt σ2 H2 fun b H3 =>
      if b = true then wi1 σ2 H3 fun J1 H4 => ∃ W1 : Nat → Nat → Hp → Prop, (∃ m, W1 0 m H4) ∧ ∀ j k H, W1 j k H →
        (J1.stop j H ∧ Nx H) ∨ (J1.go j H ∧ ∃ Nx1 : Hp → Prop, (∀ H', Nx1 H' → ∃ k', k' < k ∧ W1 (j + 1) k' H') ∧ ∀ x H', J1.yld j H x H' → g1 x (wipe σ2 vs1) H' fun σ3 H5 => wipe σ3 vs1 = wipe σ2 vs1 ∧ tt1 σ3 H5 fun b H6 =>
          if b = true then te σ3 H6 fun y H7 => addedS w D y H7 Nx1 else Nx1 H6)
      else Nx H3)
section
variable {X : Cx}
theorem add_in {pins : List (Addr × Obj)} {σ : L2.St} {H : Hp} {s : Shared} {D : Addr} {y : V} {u : Value} {N : Hp → Prop} {Q : Value → Shared → Prop} (I : Inv X pins σ H s) (r : RelV y u) (a : addedS X.w D y H N)
    (h : ∀ H' s', Inv X pins σ H' s' → N H' → Q .none s') : wpAny (model X.prog X.w) X.A (call (.builtin "set.add") [.ref D, u]) Q X.xe s := by
  obtain ⟨k, S, n, rfl, hD, room, nx⟩ := a
  refine thn (mt_sadd pins s σ H (.ref D) [.int k] (.ref D) [u] (fun v H' => v = .non ∧ N H') I rfl (.cons r .nil) ⟨D, k, S, n, rfl, rfl, hD, room, rfl, nx⟩) fun v s' q => ?_
  obtain ⟨v', H', I', rv, rfl, nx'⟩ := q
  obtain rfl : v = Value.none := rv
  exact h H' s' I' nx'
variable {elt tg iter tg1 iter1 : Expr} {ifs ifs1 : List Expr} {scope : Scope} {own : List (Str × Nat)} {vs1 : List Nat} {pos : Pos} {wi wi1 : TI} {g g1 : TG} {tt tt1 : TT} {te : TE}
theorem pe_sc2 (hc : X.calm = true) (hN : X.N.Nodup) (hi : PI X tg iter wi) (ok : BlkOk X.N X.env.scope scope own) (hv : ∀ i ∈ vs1, i ∈ own.map (·.2))
    (blk : ∀ (s : Shared) (H : Hp) (C : Addr) (cl : List (Str × Addr)) (fp : List Addr), PG (X.blk s H scope (compEnvC scope cl C X.env) fp) tg g ∧ PTs (X.blk s H scope (compEnvC scope cl C X.env) fp) ifs tt ∧
      PI (X.blk s H scope (compEnvC scope cl C X.env) fp) tg1 iter1 wi1 ∧ PG (X.blk s H scope (compEnvC scope cl C X.env) fp) tg1 g1 ∧ PTs (X.blk s H scope (compEnvC scope cl C X.env) fp) ifs1 tt1 ∧
      PE (X.blk s H scope (compEnvC scope cl C X.env) fp) elt te)
    (fold : ∀ x, foldedSetIterable iter X.env x = pure x := by intro _; rfl) (fold1 : ∀ env x, foldedSetIterable iter1 env x = pure x := by intro _ _; rfl) :
    PE X (sc2 elt tg iter tg1 iter1 ifs ifs1 scope pos) (tSc2 X.w wi g tt wi1 g1 tt1 te (own.map (·.2)) vs1) := by
  refine ⟨fun pins s σ H Q I h => ?_⟩
  rw [PpSet.eval_SetComp]
  have cellOf : ∀ y ∈ scope.names, y.2 = .free → ∃ c, X.env.cells.lookup y.1 = some c := fun y hy e => (ok.free y hy e).elim (fun k => I.ok.has _ (.inl k)) fun k => I.ok.has _ (.inr k)
  refine wpAny_comprehension_free (use := none) rfl fold (closure_ok cellOf) ok.kind (fun y hy e => by rw [ok.uniq y hy, e]) (thn (hi.run pins s σ H _ I h) fun xv s1 hx => thn hx fun itv s2 h2 => ?_)
  obtain ⟨it, fp, tn, J, H2, e, I2, T, st2, f2, q⟩ := h2
  subst e
  refine PpSet.newSet_ok (newEnv_comp ?_)
  generalize hD : s2.heap.objs.size = D
  have freeD : H2 D = none := I2.hok.fresh (Nat.le_of_eq hD)
  obtain ⟨W, ⟨m0, w0⟩, turn⟩ := q D freeD
  generalize hso : ({ cls := .type "set", dict := none, data := .set #[] 0 (.fresh 0 0 (!X.w.params.followText "set-order")) } : Obj) = so
  have keepSo : ∀ b o, s2.heap.get? b = some o → (s2.heap.push so).get? b = some o := fun b o e => Heap.get?_push_of_some _ e
  have I3 : Inv X pins σ (upd H2 D (SetO X.w D (fun _ => false) 0)) { s2 with heap := s2.heap.push so } := by
    refine I2.laid (t' := s2.toks) keepSo (Nat.le_of_eq hD) ?_
    rw [← hD, ← hso]
    exact setO_new (setR_fresh X.w)
  generalize hs3 : ({ s2 with heap := s2.heap.push so } : Shared) = s3 at I3 ⊢
  have h3 : s3.heap = s2.heap.push so := by rw [← hs3]
  have below : ∀ b ∈ fp, b < s2.heap.objs.size := fun b hb => (T.obj _ _ st2 b hb).elim fun o e => Heap.lt_size e.1
  generalize hH3 : upd H2 D (SetO X.w D (fun _ => false) 0) = H3 at I3 w0 ⊢
  have f3 : ∀ b ∈ fp, FpOk X pins H3 b ∧ b < s3.heap.objs.size := fun b hb => by
    have lt := below b hb
    refine ⟨⟨?_, (f2 b hb).2⟩, by rw [h3, Heap.size_push]; exact Nat.lt_succ_of_lt lt⟩
    rw [← hH3, upd_ne (by rw [← hD]; exact Nat.ne_of_lt lt)]
    exact (f2 b hb).1
  have st3 : tn 0 s3.heap := T.keep _ _ _ st2 fun b _ o e => by rw [h3]; exact keepSo b o e
  have I4 := block_start I3 ok hN f3
  obtain ⟨pg, pt, pi1, pg1, pt1, pe⟩ := blk s3 H3 s3.heap.objs.size (cellsFrom (s3.heap.objs.size + 1) scope.names (cloFrom X.env.cells scope.names [])) fp
  show codeAny _ _ (.compStart (sc2 elt tg iter tg1 iter1 ifs ifs1 scope pos) 0 (.ref it) (.ref D) (compEnvC scope (cellsFrom (s3.heap.objs.size + 1) scope.names (cloFrom X.env.cells scope.names [])) s3.heap.objs.size X.env))
    (compPost (model X.prog X.w) X.A X.xe none (EP X pins σ Q) (.ref D) s3.heap.objs.size) { s3 with heap := pushCells (s3.heap.push { cls := .type "dict", data := .dict #[] }) scope.names }
  generalize hce : compEnvC scope (cellsFrom (s3.heap.objs.size + 1) scope.names (cloFrom X.env.cells scope.names [])) s3.heap.objs.size X.env = ce at I4 pg pt pi1 pg1 pt1 pe ⊢
  have locals : ce.locals = s3.heap.objs.size := by
    subst hce
    rfl
  generalize hs4 : ({ s3 with heap := pushCells (s3.heap.push { cls := .type "dict", data := .dict #[] }) scope.names } : Shared) = s4 at I4 ⊢
  have st4 : tn 0 s4.heap := T.keep _ _ _ st3 fun b _ o e => by
    rw [← hs4]
    exact pushCells_keeps _ _ _ _ (Heap.get?_push_of_some _ e)
  have clearOf : ∀ {H' : Hp}, H3 = H' → ∀ b ∈ fp, H' b = none := fun e b hb => by
    rw [← e]
    exact (f3 b hb).1.1
  -- a record of the outer walk, within the block
  have outer : ∀ {σ' : L2.St} {H' : Hp} {s' : Shared}, Inv (X.blk s3 H3 scope ce fp) [] σ' H' s' → (∀ b ∈ fp, H' b = none) → ∀ b ∈ fp, FpOk (X.blk s3 H3 scope ce fp) [] H' b := fun I' clear b hb =>
    ⟨clear b hb, (I'.ok.exf b hb).1, I'.ok.exfs b hb, .inl hb, fun x c e => (I'.ok.exf b hb).2 x c e, fun p hp => by simp at hp⟩
  -- what the outer loop keeps
  let Keep : Nat → Shared → Prop := fun n s' => ∃ i H', Inv (X.blk s3 H3 scope ce fp) [] (wipe σ (own.map (·.2))) H' s' ∧ tn i s'.heap ∧ (∀ b ∈ fp, H' b = none) ∧ W i n H'
  have loop : codeAny (model X.prog X.w) X.A (.compLoop (sc2 elt tg iter tg1 iter1 ifs ifs1 scope pos) 0 (.ref it) (.ref D) ce) (compPost (model X.prog X.w) X.A X.xe none (EP X pins σ Q) (.ref D) s3.heap.objs.size) s4 := by
    refine loop_outer (fold1 ce) Keep ?_ m0 ⟨0, H3, I4, st4, clearOf rfl, w0⟩
    rintro n s5 ⟨i, H5, I5, st5, n5, w5⟩
    rcases turn i n H5 w5 with ⟨stop, done⟩ | ⟨go, Nx, hNx, one⟩
    · refine thnF (T.done (X.blk s3 H3 scope ce fp) rfl rfl rfl hc i [] s5 _ H5 (fun _ _ => False) I5 (outer I5 n5) st5 stop) fun r s6 ⟨hr, I6⟩ => ?_
      subst hr
      have I7 : Inv X pins σ H5 s6 := I3.call' (ch := fp) I6.os I6.base I6.hok I6.bare fun b hb => by
        obtain ⟨⟨z1, z2, z3, z4, z5, z6⟩, _⟩ := f3 b hb
        exact ⟨z4, z2, z5, z6⟩
      have free5 : H5 s3.heap.objs.size = none := by
        have z : H5 ce.locals = none := I6.free
        rw [locals] at z
        exact z
      obtain ⟨m, hn, _⟩ := I6.loc
      have hn : s6.heap.Ns ce.locals m := hn
      rw [locals] at hn
      obtain ⟨y0, y1, y2, y3, y4, y5⟩ := I3.fpOk (Nat.le_refl _) free5
      refine ⟨m, hn, fun h'' sb => ?_⟩
      exact ⟨.ref D, H5, I7.turned (t' := s6.toks) (fun b o nb e => (sb.2 b nb).trans e) y0 y1 y3 y4 y5, rfl, done⟩
    · refine thnF (T.item (X.blk s3 H3 scope ce fp) rfl rfl rfl hc i [] s5 _ H5 (fun _ _ => False) I5 (outer I5 n5) st5 go) fun r s6 ⟨u, hr, h6⟩ => ?_
      subst hr
      refine thnF h6 fun _ s7 ⟨x, H7, I7, r7, y7, st7, n7⟩ => ?_
      refine thnF (pg.run _ s7 _ H7 x u _ (I7.pinned (outer I7 n7) (T.obj _ _ st7)) r7 (one x H7 y7)) fun _ s8 ⟨σ8, H8, I8, hw8, q8⟩ => ?_
      refine thnF (pt.run _ s8 σ8 H8 _ I8 q8) fun b s9 ⟨H9, I9, q9⟩ => ?_
      have len8 : (wipe σ (own.map (·.2))).length = σ8.length := by rw [← hw8, wipe_length]
      have know8 : ∀ (j : Nat) v, (wipe σ (own.map (·.2)))[j]? = some (some v) → σ8[j]? = some (some v) ∧ j ∉ own.map (·.2) := fun j v e => by
        rw [← hw8] at e
        exact wipe_some e
      -- the turn's end, from any slots that know what the block knew
      have fin : ∀ {σ9 : L2.St} {s' : Shared} {H' : Hp}, Inv (X.blk s3 H3 scope ce fp) ([] ++ pinsAt fp s7.heap) σ9 H' s' → (wipe σ (own.map (·.2))).length = σ9.length →
          (∀ (j : Nat) v, (wipe σ (own.map (·.2)))[j]? = some (some v) → σ9[j]? = some (some v)) → Nx H' → ∃ m, m < n ∧ Keep m s' := fun {σ9 s' H'} I' hl hk nx => by
        obtain ⟨m', lt, w'⟩ := hNx H' nx
        have pinned : ∀ b ∈ fp, ∀ o, s7.heap.get? b = some o → s'.heap.get? b = some o ∧ H' b = none := fun b hb o e => by
          have z := I'.pin (b, o) (List.mem_append_right _ (List.mem_append_right _ (mem_pinsAt hb e)))
          exact ⟨z.1, z.2.1⟩
        refine ⟨m', lt, i + 1, H', (I'.unpinned (pins := [])).weak hl hk, T.keep _ _ _ st7 fun b hb o e => (pinned b hb o e).1, fun b hb => ?_, w'⟩
        obtain ⟨o, e, _⟩ := T.obj _ _ st7 b hb
        exact (pinned b hb o e).2
      cases b with
      | false =>
        simp only [Bool.false_eq_true, if_false] at q9 ⊢
        exact fin I9 len8 (fun j v e => (know8 j v e).1) q9
      | true =>
        simp only [if_true] at q9 ⊢
        refine thnF (pi1.run _ s9 σ8 H9 _ I9 q9) fun xv s10 hx => thnF hx fun itv s11 h11 => ?_
        obtain ⟨it1, fp1, tn1, J1, H11, e1, I11, T1, st11, f11, W1, ⟨m1, w1⟩, turn1⟩ := h11
        subst e1
        have inner : ∀ {H' : Hp}, (∀ b ∈ fp1, H' b = none) → ∀ b ∈ fp1, FpOk (X.blk s3 H3 scope ce fp) ([] ++ pinsAt fp s7.heap) H' b := fun clear b hb => ⟨clear b hb, (f11 b hb).2⟩
        let Keep1 : Nat → Shared → Prop := fun k s' => ∃ j H', Inv (X.blk s3 H3 scope ce fp) ([] ++ pinsAt fp s7.heap) (wipe σ8 vs1) H' s' ∧ tn1 j s'.heap ∧ (∀ b ∈ fp1, H' b = none) ∧ W1 j k H'
        have loop1 : codeAny (model X.prog X.w) X.A (.compLoop (sc2 elt tg iter tg1 iter1 ifs ifs1 scope pos) 1 (.ref it1) (.ref D) ce) (fun r s' => (∃ fl, r = .ok fl) ∧ ∃ m, m < n ∧ Keep m s') s11 := by
          refine loop_inner Keep1 ?_ m1 ⟨0, H11, I11.weak (wipe_length _ _) (fun j v e => (wipe_some e).1), st11, fun b hb => (f11 b hb).1, w1⟩
          rintro k s12 ⟨j, H12, I12, st12, n12, w12⟩
          rcases turn1 j k H12 w12 with ⟨stop1, nx1⟩ | ⟨go1, Nx1, hNx1, one1⟩
          · refine thnF (T1.done (X.blk s3 H3 scope ce fp) rfl rfl rfl hc j _ s12 (wipe σ8 vs1) H12 (fun _ _ => False) I12 (inner n12) st12 stop1) fun r s13 ⟨hr, I13⟩ => ?_
            subst hr
            refine ⟨⟨_, rfl⟩, fin I13 (len8.trans (wipe_length σ8 vs1).symm) (fun j v e => ?_) nx1⟩
            obtain ⟨z1, z2⟩ := know8 j v e
            rw [wipe_out fun z => z2 (hv j z)]
            exact z1
          · refine thnF (T1.item (X.blk s3 H3 scope ce fp) rfl rfl rfl hc j _ s12 (wipe σ8 vs1) H12 (fun _ _ => False) I12 (inner n12) st12 go1) fun r s13 ⟨u1, hr, h13⟩ => ?_
            subst hr
            refine thnF h13 fun _ s14 ⟨x1, H14, I14, r14, y14, st14, n14⟩ => ?_
            refine thnF (pg1.run _ s14 (wipe σ8 vs1) H14 x1 u1 _ (I14.pinned (inner n14) (T1.obj _ _ st14)) r14 (one1 x1 H14 y14)) fun _ s15 ⟨σ15, H15, I15, hw15, q15⟩ => ?_
            refine thnF (pt1.run _ s15 σ15 H15 _ I15 q15) fun b1 s16 ⟨H16, I16, q16⟩ => ?_
            have fin1 : ∀ {s' : Shared} {H' : Hp}, Inv (X.blk s3 H3 scope ce fp) (([] ++ pinsAt fp s7.heap) ++ pinsAt fp1 s14.heap) σ15 H' s' → Nx1 H' → ∃ m, m < k ∧ Keep1 m s' := fun {s' H'} I' nx => by
              obtain ⟨m', lt, w'⟩ := hNx1 H' nx
              have pinned : ∀ b ∈ fp1, ∀ o, s14.heap.get? b = some o → s'.heap.get? b = some o ∧ H' b = none := fun b hb o e => by
                have z := I'.pin (b, o) (List.mem_append_right _ (List.mem_append_right _ (mem_pinsAt hb e)))
                exact ⟨z.1, z.2.1⟩
              refine ⟨m', lt, j + 1, H', I'.unpinned.weak (by rw [← hw15, wipe_length]) (fun j v e => by rw [← hw15] at e; exact (wipe_some e).1), T1.keep _ _ _ st14 fun b hb o e => (pinned b hb o e).1, fun b hb => ?_, w'⟩
              obtain ⟨o, e, _⟩ := T1.obj _ _ st14 b hb
              exact (pinned b hb o e).2
            cases b1 with
            | false =>
              simp only [Bool.false_eq_true, if_false] at q16 ⊢
              exact fin1 I16 q16
            | true =>
              simp only [if_true] at q16 ⊢
              refine thnF (pe.run _ s16 σ15 H16 _ I16 q16) fun z s17 ⟨yv, H17, I17, r17, ad⟩ => ?_
              exact thnF (add_in (X := X.blk s3 H3 scope ce fp) (Q := fun _ s' => ∃ m, m < k ∧ Keep1 m s') I17 r17 ad fun H' s18 I18 nx => fin1 I18 nx) fun _ _ z => z
        exact start_inner loop1 (T1.self X.A 0 _ _ _ st11 loop1)
  exact PpSet.codeAny_compStart_set loop (T.self X.A 0 _ _ _ st4 loop)
end
end EV
end L2
/-! Tuples of an int, a text and an int: sorted, and <=. -/
namespace L2
open PySem PySem.Spec PyProof.Rows
abbrev T3 : Type := Int × Str × Int
abbrev sl (a : Str) : List Nat := a.cps.toList
theorem sl_inj {a b : Str} (h : sl a = sl b) : a = b := by
  cases a with
  | mk x =>
    cases b with
    | mk y =>
      have : x = y := Array.toList_inj.mp h
      rw [this]
/-- x is ahead of y -/
def lt3 (a b : T3) : Bool := if a.1 = b.1 then (if a.2.1 = b.2.1 then decide (a.2.2 < b.2.2) else decide (sl a.2.1 < sl b.2.1)) else decide (a.1 < b.1)
theorem lt3_iff {a b : T3} : lt3 a b = true ↔ a.1 < b.1 ∨ (a.1 = b.1 ∧ (sl a.2.1 < sl b.2.1 ∨ (a.2.1 = b.2.1 ∧ a.2.2 < b.2.2))) := by
  unfold lt3
  by_cases e1 : a.1 = b.1
  · rw [if_pos e1]
    by_cases e2 : a.2.1 = b.2.1
    · rw [if_pos e2, decide_eq_true_eq]
      refine ⟨fun h => .inr ⟨e1, .inr ⟨e2, h⟩⟩, ?_⟩
      rintro (h | ⟨_, h | ⟨_, h⟩⟩)
      · omega
      · rw [e2] at h
        exact absurd h (List.lt_irrefl _)
      · exact h
    · rw [if_neg e2, decide_eq_true_eq]
      refine ⟨fun h => .inr ⟨e1, .inl h⟩, ?_⟩
      rintro (h | ⟨_, h | ⟨h, _⟩⟩)
      · omega
      · exact h
      · exact absurd h e2
  · rw [if_neg e1, decide_eq_true_eq]
    refine ⟨fun h => .inl h, ?_⟩
    rintro (h | ⟨h, _⟩)
    · exact h
    · exact absurd h e1
theorem lt3_no {a b : T3} : lt3 a b = false ↔ ¬ (a.1 < b.1 ∨ (a.1 = b.1 ∧ (sl a.2.1 < sl b.2.1 ∨ (a.2.1 = b.2.1 ∧ a.2.2 < b.2.2)))) := by
  rw [← lt3_iff]
  cases lt3 a b <;> simp
theorem swo3 : SrtO.Swo lt3 := by
  refine ⟨fun x y h => ?_, fun x y z h1 h2 => ?_⟩
  · have a := lt3_iff.mp h
    refine lt3_no.mpr ?_
    rintro (h1 | ⟨h1, h2⟩)
    · rcases a with a | ⟨a, _⟩ <;> omega
    · rcases a with a | ⟨_, a⟩
      · omega
      · rcases h2 with h2 | ⟨h2, h3⟩
        · rcases a with a | ⟨a, _⟩
          · exact List.lt_asymm a h2
          · rw [a] at h2
            exact List.lt_irrefl _ h2
        · rcases a with a | ⟨_, a⟩
          · rw [h2] at a
            exact List.lt_irrefl _ a
          · omega
  · have a := lt3_no.mp h1
    have b := lt3_no.mp h2
    refine lt3_no.mpr ?_
    have a1 : ¬ y.1 < x.1 := fun q => a (.inl q)
    have b1 : ¬ z.1 < y.1 := fun q => b (.inl q)
    rintro (q | ⟨q1, q2⟩)
    · omega
    · have e1 : y.1 = x.1 := by omega
      have e2 : z.1 = y.1 := by omega
      have a2 : ¬ sl y.2.1 < sl x.2.1 := fun q => a (.inr ⟨e1, .inl q⟩)
      have b2 : ¬ sl z.2.1 < sl y.2.1 := fun q => b (.inr ⟨e2, .inl q⟩)
      have l1 : sl x.2.1 ≤ sl y.2.1 := List.not_lt.mp a2
      have l2 : sl y.2.1 ≤ sl z.2.1 := List.not_lt.mp b2
      rcases q2 with q2 | ⟨q2, q3⟩
      · exact absurd q2 (List.not_lt.mpr (List.le_trans l1 l2))
      · have e3 : sl y.2.1 = sl x.2.1 := by
          rw [q2] at l2
          exact List.le_antisymm l2 l1
        have e4 := sl_inj e3
        have a3 : ¬ y.2.2 < x.2.2 := fun q => a (.inr ⟨e1, .inr ⟨e4, q⟩⟩)
        have b3 : ¬ z.2.2 < y.2.2 := fun q => b (.inr ⟨e2, .inr ⟨q2.trans e4.symm, q⟩⟩)
        omega
theorem swo3k {α : Type} (k : α → T3) : SrtO.Swo fun v u : α => lt3 (k v) (k u) := ⟨fun x y => swo3.asym (k x) (k y), fun x y z => swo3.tr (k x) (k y) (k z)⟩
/-- v is a tuple of an int, a text and an int in the heap -/
def IsTrip (h : Heap) (v : Value) (x : T3) : Prop := ∃ a o t u r n, v = .ref a ∧ h.get? a = some o ∧ o.cls = .type "tuple" ∧ o.data = .seq #[.int x.1 t, .str x.2.1 u, .int x.2.2 r] n
theorem IsTrip.keeps {h h' : Heap} {v : Value} {x : T3} (p : IsTrip h v x) (k : ∀ b o, h.get? b = some o → o.cls = .type "tuple" → h'.get? b = some o) : IsTrip h' v x := by
  obtain ⟨a, o, t, u, r, n, e, ho, hc, hd⟩ := p
  exact ⟨a, o, t, u, r, n, e, k _ _ ho hc, hc, hd⟩
theorem firsts3 {h : Heap} : ∀ {vs : List Value}, (∀ v ∈ vs, ∃ x, IsTrip h v x) → ∃ fs : List Value, PySem.W.KatTups h vs fs ∧ fs.length = vs.length ∧ ∀ f ∈ fs, ∃ x t, f = Value.int x t
  | [], _ => ⟨[], PySem.W.KatTups.nil, rfl, fun _ hm => by simp at hm⟩
  | v :: vs, hp => by
    obtain ⟨fs, h1, h2, h3⟩ := firsts3 (vs := vs) fun v' hm => hp v' (List.mem_cons_of_mem _ hm)
    obtain ⟨x, a, o, t, u, r, n, e, ho, hc, hd⟩ := hp v (List.mem_cons_self ..)
    subst e
    refine ⟨.int x.1 t :: fs, PySem.W.KatTups.cons ho hc hd rfl h1, by rw [List.length_cons, List.length_cons, h2], fun f hm => ?_⟩
    rcases List.mem_cons.mp hm with rfl | hm
    · exact ⟨x.1, t, rfl⟩
    · exact h3 f hm
section
variable {prog : Program} {w : World} {A : Around} {E : Value → Shared → Prop} {s : Shared}
theorem trip_cmp {vs : List Value} {k : Value → T3} (hp : ∀ v ∈ vs, IsTrip s.heap v (k v)) : SrtO.Cmp prog w A s (tuples' true) (fun p => p.1 ∈ vs) (SrtO.lt2 fun v u => lt3 (k v) (k u)) := by
  intro p q hm hm'
  have h1 := hp _ hm
  have h2 := hp _ hm'
  show wpAny (model prog w) A (keyLt' (tuples' true) p.1 q.1) (fun r s' => s' = s ∧ r = lt3 (k p.1) (k q.1)) (fun _ _ => False) s
  generalize k p.1 = x at h1 ⊢
  generalize k q.1 = y at h2 ⊢
  obtain ⟨x1, x2, x3⟩ := x
  obtain ⟨y1, y2, y3⟩ := y
  obtain ⟨a, o, t, u, r, n, e, ho, hc, hd⟩ := h1
  obtain ⟨a', o', t', u', r', n', e', ho', hc', hd'⟩ := h2
  rw [e, e']
  unfold lt3
  refine PySem.W.kat_lt ho hd ho' hd' ?_
  show PySem.W.KatLex prog w A true (decide (3 < 3)) _ [(.int x1 t, .int y1 t'), (.str x2 u, .str y2 u'), (.int x3 r, .int y3 r')] 0 s
  refine PySem.W.kat_cons (SeqAt.EqAt.int_int x1 t y1 t' prog w _ _ ?_)
  refine PySem.W.kat_go (fun e1 => ?_) (fun e1 => ?_)
  · have ex : x1 = y1 := by simpa using e1
    subst ex
    refine PySem.W.kat_yes (PySem.W.kat_cons (SeqAt.EqAt.str_str x2 u y2 u' prog w _ _ ?_))
    refine PySem.W.kat_go (fun e2 => ?_) (fun e2 => ?_)
    · have ey : x2 = y2 := by simpa using e2
      subst ey
      refine PySem.W.kat_yes (PySem.W.kat_cons (SeqAt.EqAt.int_int x3 r y3 r' prog w _ _ ?_))
      refine PySem.W.kat_go (fun e3 => ?_) (fun e3 => ?_)
      · have ez : x3 = y3 := by simpa using e3
        subst ez
        refine PySem.W.kat_yes (PySem.W.kat_nil ⟨rfl, ?_⟩)
        simp
      · refine PySem.W.kat_no (PySem.W.kat_one _ _ (PyProof.Rows.lt_int ?_))
        refine (show s = s ∧ _ from ⟨rfl, ?_⟩)
        simp
    · have ey : ¬ x2 = y2 := by simpa using e2
      refine PySem.W.kat_no (PySem.W.kat_one _ _ (PyProof.Rows.lt_str ?_))
      refine (show s = s ∧ _ from ⟨rfl, ?_⟩)
      simp [ey]
  · have ex : ¬ x1 = y1 := by simpa using e1
    refine PySem.W.kat_no (oneLt_int ⟨rfl, ?_⟩)
    simp [ex]
theorem trips_sortable {a : Addr} {vs : List Value} {k : Value → T3} (h0 : 0 < vs.length) (hp : ∀ v ∈ vs, IsTrip s.heap v (k v)) (ha : ∀ o, s.heap.get? a = some o → o.cls ≠ .type "tuple") : SrtO.SortableO prog w A s a vs fun v u => lt3 (k v) (k u) := by
  intro h' keep
  have hp' : ∀ v ∈ vs, IsTrip h' v (k v) := fun v hm => (hp v hm).keeps fun b o e c => keep b o (fun z => by subst z; exact ha o e c) e
  obtain ⟨fs, h1, h2, h3⟩ := firsts3 fun v hm => ⟨_, hp' v hm⟩
  refine ⟨tuples' true, fun Q E hq => ?_, trip_cmp hp'⟩
  refine PySem.W.kat_kind (T := .type "int") h1 (by omega) (fun f hm => ?_) (by rfl) ?_
  · obtain ⟨x, t, rfl⟩ := h3 f hm
    exact PySem.W.Looks.now
  · have e : (Value.type "int" != Value.type "tuple") = true := by first | decide +kernel | rfl | decide
    rw [e]
    exact hq
theorem sorted_trips {l : Addr} {vs : List Value} {k : Value → T3} {Q : Value → Shared → Prop} (hl : s.heap.IsList l vs.toArray) (hz : vs.length ≤ sizeLine) (hp : ∀ v ∈ vs, IsTrip s.heap v (k v))
    (h : ∀ (h' : Heap) (d : Addr) (out : List Value), SrtO.Srtd (fun v u => lt3 (k v) (k u)) out → SrtO.Stb (fun v u => lt3 (k v) (k u)) out vs → (∀ b o, s.heap.get? b = some o → h'.get? b = some o) → s.heap.objs.size ≤ d → (∃ n, h'.get? d = some (seqObj "list" out.toArray n)) → Q (.ref d) { s with heap := h' }) :
    wpAny (model prog w) A (call (.builtin "sorted") [.ref l]) Q E s := by
  refine SrtO.sorted_ord (swo3k k) hl hz (fun h2 h₁ a ha kk => ?_) fun out hs hb => ?_
  · refine trips_sortable (s := { s with heap := h₁ }) (by omega) (fun v hm => (hp v hm).keeps fun b o e _ => (kk b o e).2) fun o e => ?_
    have e' : some o = some (seqObj "list" vs.toArray 0) := e.symm.trans ha
    cases e'
    intro c
    exact absurd (Value.type.inj c) (by decide)
  · exact h _ _ out hs hb (fun b o e => sortedAll_old e) (Nat.le_succ _) (sortedAll_at s.heap vs out.toArray)
end
/-- sorted(xs), xs a list of such tuples (k says which): a new list of the same ones -/
def rSorted3 (K : PySem.W.Frag) : List V → Hp → VK → Prop := fun vs H Q => ∃ (a : Addr) (xs : List V) (k : V → T3), vs = [V.ref a] ∧ SqL K H a xs ∧ (∀ x ∈ xs, ∃ t, x = V.ref t ∧ H t = some (.tup [.int (k x).1, .str (k x).2.1, .int (k x).2.2])) ∧
  ∀ ys p, SrtO.Srtd (fun x y => lt3 (k x) (k y)) ys → ys.Perm xs → H p = none → Q (.ref p) (upd H p (.lst ys))
theorem vals_3 {x y z : V} {us : List Value} (r : Vals [x, y, z] us) : ∃ u w' t', us = [u, w', t'] ∧ RelV x u ∧ RelV y w' ∧ RelV z t' := by
  cases r with
  | cons r1 r2 =>
    obtain ⟨u, w', rfl, r3, r4⟩ := vals2 r2
    exact ⟨_, u, w', rfl, r1, r3, r4⟩
section
variable {X : Cx}
theorem cr_sorted3 : CallR X (.builtin "sorted") (rSorted3 X.K) := by
  intro pins s σ H vs us Q I r h
  obtain ⟨a, xs, k, rfl, hs, hx, q⟩ := h
  obtain ⟨its, rv, hl, hz⟩ := I.list hs
  obtain ⟨u, rfl, ru⟩ := vals1 r
  obtain rfl : u = Value.ref a := ru
  obtain ⟨e1, e2⟩ := refs_back rv fun x m => by
    obtain ⟨t, e, _⟩ := hx x m
    exact ⟨t, e⟩
  refine sorted_trips (k := fun u => k (backV u)) hl.isList (by rw [← rv.length]; exact hz) (fun v hv => ?_) fun h' d out h1 h2 kp hd hn => ?_
  · obtain ⟨t, rfl⟩ := e2 v hv
    have hm : V.ref t ∈ xs := by rw [e1]; exact List.mem_map.mpr ⟨_, hv, rfl⟩
    obtain ⟨t', e, ht⟩ := hx _ hm
    cases e
    obtain ⟨_, its2, r2, o, ho, hc, n, hd⟩ := I.hok _ _ ht
    obtain ⟨u1, u2, u3, rfl, ri, rj, rk⟩ := vals_3 r2
    obtain ⟨t1, rfl⟩ := ri
    obtain ⟨t2, rfl⟩ := rj
    obtain ⟨t3, rfl⟩ := rk
    exact ⟨t, o, t1, t2, t3, n, rfl, ho, hc, hd⟩
  · have h3 : ∀ u ∈ out, ∃ a, u = Value.ref a := fun u hu => e2 u (h2.perm.mem_iff.mp hu)
    obtain ⟨n, hn⟩ := hn
    have hb : SrtO.Stb (fun x y => lt3 (k x) (k y)) (out.map backV) xs := by
      rw [e1]
      exact SrtO.Stb.map (swo3k k) backV h2
    refine ⟨.ref d, upd H d (.lst (out.map backV)), I.laid (t' := s.toks) kp hd ⟨?_, out, n, vals_back h3, hn⟩, rfl, q _ d (SrtO.srtd_map h1) hb.perm (I.hok.fresh hd)⟩
    rw [hb.len]
    exact hz
/-- x <= y of two such tuples -/
def rLe3 : R2 := fun x y H Q => ∃ (a b : Addr) (m n : T3), x = .ref a ∧ y = .ref b ∧ H a = some (.tup [.int m.1, .str m.2.1, .int m.2.2]) ∧ H b = some (.tup [.int n.1, .str n.2.1, .int n.2.2]) ∧ Q (.bl (!lt3 n m)) H
theorem le_lex (m n : T3) : Ob.lexAt (fun j => if j = 0 then m.1 == n.1 else if j = 1 then m.2.1 == n.2.1 else m.2.2 == n.2.2)
    (fun j => if j = 0 then decide (m.1 ≤ n.1) else if j = 1 then decide (sl m.2.1 ≤ sl n.2.1) else decide (m.2.2 ≤ n.2.2)) true 0 3 = !lt3 n m := by
  obtain ⟨m1, m2, m3⟩ := m
  obtain ⟨n1, n2, n3⟩ := n
  simp only [Ob.lexAt, lt3]
  by_cases e1 : m1 = n1
  · subst e1
    by_cases e2 : m2 = n2
    · subst e2
      by_cases e3 : m3 = n3
      · subst e3
        simp
      · simp only [beq_self_eq_true, if_true, Nat.zero_add, Nat.one_ne_zero, if_false, Nat.reduceAdd, Nat.reduceEqDiff, beq_iff_eq, e3]
        by_cases z : m3 ≤ n3
        · rw [decide_eq_true z, decide_eq_false (by omega)]
          rfl
        · rw [decide_eq_false z, decide_eq_true (by omega)]
          rfl
    · have e2' : ¬ n2 = m2 := fun z => e2 z.symm
      simp only [beq_self_eq_true, if_true, Nat.zero_add, Nat.one_ne_zero, if_false, beq_iff_eq, e2, e2']
      by_cases z : sl m2 ≤ sl n2
      · rw [decide_eq_true z, decide_eq_false (List.not_lt.mpr z)]
        rfl
      · rw [decide_eq_false z, decide_eq_true (List.not_le.mp z)]
        rfl
  · have e1' : ¬ n1 = m1 := fun z => e1 z.symm
    simp only [if_true, beq_iff_eq, e1, e1', if_false]
    by_cases z : m1 ≤ n1
    · rw [decide_eq_true z, decide_eq_false (by omega)]
      rfl
    · rw [decide_eq_false z, decide_eq_true (by omega)]
      rfl
theorem RcOp.le_str {A : Around} {s : Shared} (a b : Str) (t u : Tok) : Ob.RcOp .LtE A s (.str a t) (.str b u) (decide (sl a ≤ sl b)) := fun _ _ _ _ h => PySem.P.le_str (by
  have e : (!decide (b.cps.toList < a.cps.toList)) = decide (sl a ≤ sl b) := by
    by_cases z : sl a ≤ sl b
    · rw [decide_eq_true z, decide_eq_false (List.not_lt.mpr z)]
      rfl
    · rw [decide_eq_false z, decide_eq_true (List.not_le.mp z)]
      rfl
  rw [e]
  exact h)
theorem op_le3 (hu : X.A.units < cLine) : OpR X (compareOp .LtE) rLe3 := by
  intro pins s σ H x y v u Q I rx ry h
  obtain ⟨a, b, m, n, rfl, rfl, ha, hb, q⟩ := h
  cases rx
  cases ry
  obtain ⟨its, r1, p1, _⟩ := I.tuple (SqT.of ha)
  obtain ⟨its2, r2, p2, _⟩ := I.tuple (SqT.of hb)
  obtain ⟨u1, u2, u3, rfl, ⟨t1, rfl⟩, ⟨t2, rfl⟩, ⟨t3, rfl⟩⟩ := vals_3 r1
  obtain ⟨v1, v2, v3, rfl, ⟨w1, rfl⟩, ⟨w2, rfl⟩, ⟨w3, rfl⟩⟩ := vals_3 r2
  have R := Ob.RcOp.tuples_le (A := X.A) (s := s) (e := fun j => if j = 0 then m.1 == n.1 else if j = 1 then m.2.1 == n.2.1 else m.2.2 == n.2.2)
    (r := fun j => if j = 0 then decide (m.1 ≤ n.1) else if j = 1 then decide (sl m.2.1 ≤ sl n.2.1) else decide (m.2.2 ≤ n.2.2)) p1 p2 hu (fun j h1 h2 => by
    match j, h1 with
    | 0, _ => exact SeqAt.EqAt.int_int _ _ _ _
    | 1, _ => exact SeqAt.EqAt.str_str _ _ _ _
    | 2, _ => exact SeqAt.EqAt.int_int _ _ _ _) (fun j h1 h2 _ => by
    match j, h1 with
    | 0, _ => exact Ob.RcOp.le_int _ _ _ _
    | 1, _ => exact RcOp.le_str _ _ _ _
    | 2, _ => exact Ob.RcOp.le_int _ _ _ _)
  have e3 : Ob.lexAt (fun j => if j = 0 then m.1 == n.1 else if j = 1 then m.2.1 == n.2.1 else m.2.2 == n.2.2)
    (fun j => if j = 0 then decide (m.1 ≤ n.1) else if j = 1 then decide (sl m.2.1 ≤ sl n.2.1) else decide (m.2.2 ≤ n.2.2)) (decide (3 ≤ 3)) 0 (min 3 3) = !lt3 n m := le_lex m n
  have z : wpAny (model X.prog X.w) X.A (compareOp .LtE (.ref a) (.ref b)) (EP X pins σ Q) X.xe s := R X.prog X.w X.xe (EP X pins σ Q) ⟨.bl _, H, I, rfl, by
    rw [← e3] at q
    exact q⟩
  exact z
end
end L2
/-! The law's draws. -/
namespace K31
open PySem L2 L2.EV
def top (i : Nat) : Stmt := PySem.Challenge.pw_tornlines_k31_whole_files_woven.main.body.getD i (.Pass ⟨0, 0, 0, 0⟩)
abbrev sBegun : Stmt := top 28
abbrev sNext : Stmt := top 29
/-! ### data of ints -/
theorem canLay_ints : ∀ ns : List Int, PyData.canLayAll0 (ns.map PyData.int) = true
  | [] => by simp [PyData.canLayAll0]
  | n :: ns => by simp [PyData.canLayAll0, PyData.canLay0, canLay_ints ns]
theorem depth_ints : ∀ ns : List Int, PyData.depthAll (ns.map PyData.int) = 0
  | [] => by simp [PyData.depthAll]
  | n :: ns => by simp [PyData.depthAll, PyData.depth, depth_ints ns]
theorem shaped_ints (ns : List Int) : SeqAt.shaped (.list (ns.map PyData.int)) = true := by
  show (PyData.canLay0 (.list (ns.map PyData.int)) && decide (PyData.depth (.list (ns.map PyData.int)) ≤ 64)) = true
  rw [Bool.and_eq_true]
  refine ⟨by simp only [PyData.canLay0]; exact canLay_ints ns, decide_eq_true ?_⟩
  simp only [PyData.depth, depth_ints]
  omega
theorem dp_ints {K : PySem.W.Frag} {H : Hp} : ∀ ns : List Int, DpAll K H (ns.map V.int) (ns.map PyData.int)
  | [] => .nil
  | n :: ns => .cons (.int n) (dp_ints ns)
theorem dp_list {K : PySem.W.Frag} {H : Hp} {a : Addr} {ns : List Int} (h : H a = some (.lst (ns.map V.int))) : Dp K H (.ref a) (.list (ns.map PyData.int)) := .lst (SqL.of h) (dp_ints ns)
theorem eqv_nil (ns : List Int) : PyData.eqv (.list (ns.map PyData.int)) (.list []) = ns.isEmpty := by
  cases ns <;> simp [PyData.eqv, PyData.eqvAll]
/-! ### the draws' dict -/
def mkv (c l : Addr) (k : Int) : List (Key × V) := [(Sum.inr "cells", .ref c), (Sum.inr "left", .ref l), (Sum.inr "at", .int k)]
theorem n1 : ¬ (("cells" : Str) = "left") := by decide +kernel
theorem n2 : ¬ (("cells" : Str) = "at") := by decide +kernel
theorem n3 : ¬ (("left" : Str) = "at") := by decide +kernel
theorem n1' : ¬ (("left" : Str) = "cells") := by decide +kernel
theorem n2' : ¬ (("at" : Str) = "cells") := by decide +kernel
theorem n3' : ¬ (("at" : Str) = "left") := by decide +kernel
theorem k1 {a b : Str} (h : ¬ a = b) : ¬ ((Sum.inr a : Key) = Sum.inr b) := fun z => h (Sum.inr.inj z)
theorem v_cells (c l : Addr) (k : Int) : valV (mkv c l k) (Sum.inr "cells" : Key) = some (.ref c) := by simp [valV, mkv, List.find?_cons]
theorem v_left (c l : Addr) (k : Int) : valV (mkv c l k) (Sum.inr "left" : Key) = some (.ref l) := by simp [valV, mkv, List.find?_cons, n1]
theorem v_at (c l : Addr) (k : Int) : valV (mkv c l k) (Sum.inr "at" : Key) = some (.int k) := by simp [valV, mkv, List.find?_cons, n2, n3]
theorem p_left (c l l' : Addr) (k : Int) : putK (mkv c l k) (Sum.inr "left" : Key) (.ref l') = mkv c l' k := by simp [putK, mkv, n1, n3']
theorem p_at (c l : Addr) (k k' : Int) : putK (mkv c l k) (Sum.inr "at" : Key) (.int k') = mkv c l k' := by simp [putK, mkv, n2, n3]
theorem mk_merge (c l : Addr) (k : Int) : mergeK [] (mkv c l k) = mkv c l k := by simp [mergeK, putK, mkv, n1, n2, n3]
structure MAt (H : Hp) (m c l : Addr) (k : Int) : Prop where
  hm : H m = some (.dK (mkv c l k))
  hc : ∃ cs : List Int, H c = some (.lst (cs.map V.int)) ∧ cs.length ≤ 1000
  hl : ∃ ls : List Int, H l = some (.lst (ls.map V.int)) ∧ ls.length ≤ 1000
  ne : c ≠ l
  k0 : 0 ≤ k
  k1 : k ≤ 1000000
/-- a drawn number from 0 to n - 1; only the dict and its list of great cells have changed -/
def spNext : Sp := fun vs H Q _ => ∃ (m c l : Addr) (k n : Int), vs = [.ref m, .int n] ∧ MAt H m c l k ∧ 0 < n ∧ n < 1000000 ∧ k < 1000000 ∧
  ∀ (r : Int) (H' : Hp) (l' : Addr) (k' : Int), 0 ≤ r → r < n → k' ≤ k + 1 → MAt H' m c l' k' → (l' = l ∨ H l' = none) → (∀ b o, H b = some o → b ≠ m → b ≠ l → H' b = some o) → Q (.int r) H'
/-- the beginning -/
def spBegun (K : PySem.W.Frag) : Sp := fun vs H Q _ => ∃ (a : Addr) (ns : List Int), vs = [.ref a] ∧ SqL K H a (ns.map V.int) ∧ ns.length ≤ 1000 ∧
  ∀ (m c l : Addr) (H' : Hp), MAt H' m c l 0 → H m = none → H c = none → H l = none → Same H H' → Q (.ref m) H'
structure TxtD (mg : Str → Option Value) : Prop where
  list : mg "list" = none
  int : mg "int" = none
  len : mg "len" = none
theorem same_upd {H : Hp} {p : Addr} {o : HO} (h : H p = none) : Same H (upd H p o) := fun b u e => by
  rw [upd_ne (ne_of_none e h)]
  exact e
theorem MAt.same {H H' : Hp} {m c l : Addr} {k : Int} (M : MAt H m c l k) (s : Same H H') : MAt H' m c l k := by
  obtain ⟨h1, ⟨cs, h2, h3⟩, ⟨ls, h4, h5⟩, h6, h7, h8⟩ := M
  exact ⟨s _ _ h1, ⟨cs, s _ _ h2, h3⟩, ⟨ls, s _ _ h4, h5⟩, h6, h7, h8⟩
theorem MAt.set {H : Hp} {m c l : Addr} {k : Int} {ls : List Int} (M : MAt H m c l k) (hz : ls.length ≤ 1000) : MAt (upd H l (.lst (ls.map V.int))) m c l k := by
  obtain ⟨h1, ⟨cs, h2, h3⟩, ⟨ls0, h4, h5⟩, h6, h7, h8⟩ := M
  have ml : m ≠ l := ne_of h1 h4 (fun z => by cases z)
  exact ⟨by rw [upd_ne ml]; exact h1, ⟨cs, by rw [upd_ne h6]; exact h2, h3⟩, ⟨ls, upd_same, hz⟩, h6, h7, h8⟩
/-- another list of great cells -/
theorem MAt.turn {H : Hp} {m c l p : Addr} {k : Int} {ls : List Int} (M : MAt H m c l k) (hp : H p = none) (hz : ls.length ≤ 1000) : MAt (upd (upd H p (.lst (ls.map V.int))) m (.dK (mkv c p k))) m c p k := by
  obtain ⟨h1, ⟨cs, h2, h3⟩, ⟨ls0, h4, h5⟩, h6, h7, h8⟩ := M
  have mp : p ≠ m := (ne_of_none h1 hp).symm
  have cp : c ≠ p := ne_of_none h2 hp
  have cm : c ≠ m := ne_of h2 h1 (fun z => by cases z)
  exact ⟨upd_same, ⟨cs, by rw [upd_ne cm, upd_ne cp]; exact h2, h3⟩, ⟨ls, by rw [upd_ne mp]; exact upd_same, hz⟩, cp, h7, h8⟩
/-- another counter -/
theorem MAt.count {H : Hp} {m c l : Addr} {k k' : Int} (M : MAt H m c l k) (h0 : 0 ≤ k') (h1' : k' ≤ 1000000) : MAt (upd H m (.dK (mkv c l k'))) m c l k' := by
  obtain ⟨h1, ⟨cs, h2, h3⟩, ⟨ls0, h4, h5⟩, h6, h7, h8⟩ := M
  have lm : l ≠ m := ne_of h4 h1 (fun z => by cases z)
  have cm : c ≠ m := ne_of h2 h1 (fun z => by cases z)
  exact ⟨upd_same, ⟨cs, by rw [upd_ne cm]; exact h2, h3⟩, ⟨ls0, by rw [upd_ne lm]; exact h4, h5⟩, h6, h0, h1'⟩
section
variable {K : PySem.W.Frag} {σ : St} {H : Hp} {m c l : Addr} {k : Int}
theorem rd_left {Q : VK} (h0 : σ[0]? = some (some (.ref m))) (M : MAt H m c l k) (q : Q (.ref l) H) : tDGet (tVar 0) (tC (.str "left")) σ H Q := by
  have z : DGet H m (.str "left") (valV (mkv c l k) (Sum.inr "left" : Key)) := DGet.k (k := Sum.inr "left") M.hm
  rw [v_left] at z
  exact ⟨_, h0, m, _, rfl, z, q⟩
theorem rd_cells {Q : VK} (h0 : σ[0]? = some (some (.ref m))) (M : MAt H m c l k) (q : Q (.ref c) H) : tDGet (tVar 0) (tC (.str "cells")) σ H Q := by
  have z : DGet H m (.str "cells") (valV (mkv c l k) (Sum.inr "cells" : Key)) := DGet.k (k := Sum.inr "cells") M.hm
  rw [v_cells] at z
  exact ⟨_, h0, m, _, rfl, z, q⟩
theorem rd_at {Q : VK} (h0 : σ[0]? = some (some (.ref m))) (M : MAt H m c l k) (q : Q (.int k) H) : tDGet (tVar 0) (tC (.str "at")) σ H Q := by
  have z : DGet H m (.str "at") (valV (mkv c l k) (Sum.inr "at" : Key)) := DGet.k (k := Sum.inr "at") M.hm
  rw [v_at] at z
  exact ⟨_, h0, m, _, rfl, z, q⟩
/-- a list of ints against the empty one -/
theorem ne_empty {Q : Bool → Hp → Prop} {a : Addr} {ls : List Int} (hl : H a = some (.lst (ls.map V.int))) (q : ∀ p, H p = none → Q (!ls.isEmpty) (upd H p (.lst []))) :
    tLst tNil σ H fun y H2 => rNeD K (.ref a) y H2 fun x H' => ∃ k, x = .bl k ∧ Q k H' := by
  refine ⟨by decide, fun p hp => ⟨.list (ls.map PyData.int), .list [], dp_list (same_upd hp _ _ hl), .lst (SqL.of upd_same) .nil, shaped_ints ls, shaped_ints [], _, rfl, ?_⟩⟩
  rw [eqv_nil]
  exact q p hp
theorem cut_one (ls : List Int) : cutV (ls.map V.int) (some 1) none = (ls.drop 1).map V.int := by
  unfold cutV
  have e1 : HT.sIx (ls.map V.int).length 0 (some 1) = min 1 (ls.map V.int).length := HT.sIx_nat _ _ 1
  rw [e1, HT.sIx_none]
  cases ls with
  | nil => rfl
  | cons x r =>
    have e2 : min 1 ((x :: r).map V.int).length = 1 := by simp
    rw [e2]
    show List.take ((x :: r).map V.int).length.pred (r.map V.int) = r.map V.int
    exact List.take_of_length_le (by simp)
end
theorem byAll {P : Int → Prop} {G : Prop} (a : (∀ x, P x) → G) (b : ∀ x, P x) : G := a b
theorem iteF' {b : Bool} {A B : Prop} (h : b = false) (q : B) : if b = true then A else B := by
  rw [h]
  exact iteF q
theorem iteT' {b : Bool} {A B : Prop} (h : b = true) (q : A) : if b = true then A else B := by
  rw [h]
  exact iteT q
theorem seq_while {tc : TT} {tb u : TS} {D : Ends} {σ : St} {H : Hp} (W : Nat → Hp → Prop) (R : Hp → Prop) {j0 : Nat} (h0 : W j0 H) (hr : ∀ H2, R H2 → u D σ H2)
    (turn : (∀ H2, R H2 → u D σ H2) → ∀ j H1, W j H1 → tc σ H1 fun b H2 => if b = true then
      ∃ N : St → Hp → Prop, (∀ σ' H', N σ' H' → ∃ j', j' < j ∧ (σ' = σ ∧ W j' H')) ∧ tb { nx := N, rt := D.rt, bk := u D, ct := N } σ H2 else u D σ H2) :
    tSeq (tWhile tc tb) u D σ H := by
  refine ⟨fun j σ' H' => σ' = σ ∧ W j H', ⟨j0, rfl, h0⟩, ?_⟩
  rintro j σ' H1 ⟨rfl, w⟩
  exact turn hr j H1 w
section
variable {P : Program} {w : World} {K : PySem.W.Frag} {mg : Str → Option Value} {base : Heap}
theorem scN : FnScope ["m", "total", "rest", "k", "cell", "mixed"] ["m", "total"] (defScope sNext) := ⟨rfl, rfl, rfl, by decide +kernel, rfl, by decide +kernel, by decide +kernel⟩
theorem ok_next {f : Addr} {fd : FuncData} (F : Fun K "_law_next" "_law_next" sNext f fd) (T : TxtD mg) : FnOk P w K mg base CX0 1 f fd ["m", "total"] spNext := by
  refine F.ok scN (fun vs H Q E h => ?_) (fun cdv A outer s H vs Q E hr h => ?_)
  · obtain ⟨m, c, l, k, n, rfl, _⟩ := h
    rfl
  · obtain ⟨m, c, l, k, n, rfl, M, n0, n1, kk, q⟩ := h
    have hu := hu_of hr
    have hu2 := hr.units
    refine ⟨_, pss_cons (ps_while PassesOwn.never
        (pw_and (pt_cmpR (op_neD hu2) (pe_dget hu (pv 0) pe_str (fun _ _ => rfl)) (pe_lst pa_nil) (nomark _))
          (pw_and1 (pt_cmpR op_eq (pe_ix ix_list (pe_dget hu (pv 0) pe_str (fun _ _ => rfl)) pe_int (fun _ _ => rfl)) pe_int (nomark _)))).pt
        (pss_one (ps_dput hu (pv 0) pe_str (pe_slice sl_list (pe_dget hu (pv 0) pe_str (fun _ _ => rfl)) (po_some pe_int) po_none) rfl)))
      (pss_cons (ps_if (pt_cmpR (op_neD hu2) (pe_dget hu (pv 0) pe_str (fun _ _ => rfl)) (pe_lst pa_nil) (nomark _))
        (pss_cons (ps_set (i := 2) scN.nd rfl (Or.inl rfl) (pe_callTy call_int1 (by rfl) T.int (by decide +kernel) (pa_cons (pe_ix ix_list (pe_dget hu (pv 0) pe_str (fun _ _ => rfl)) pe_int (fun _ _ => rfl)) pa_nil)))
        (pss_cons (ps_asg (pe_op op_fdiv (pv 2) (pv 1)) (pg_sub (pe_dget hu (pv 0) pe_str (fun _ _ => rfl)) pe_int set_list))
        (pss_one (ps_ret (pe_op op_mod (pv 2) (pv 1)))))) pss_nil)
      (pss_cons (ps_set (i := 3) scN.nd rfl (Or.inl rfl) (pe_op op_add (pe_dget hu (pv 0) pe_str (fun _ _ => rfl)) pe_int))
      (pss_cons (ps_dput hu (pv 0) pe_str (pv 3) rfl)
      (pss_cons (ps_set (i := 4) scN.nd rfl (Or.inl rfl) (pe_ifExp (pt_cmpR (op_neD hu2) (pe_dget hu (pv 0) pe_str (fun _ _ => rfl)) (pe_lst pa_nil) (nomark _))
        (pe_ix ix_list (pe_dget hu (pv 0) pe_str (fun _ _ => rfl))
          (pe_op op_mod (pe_callTy call_int1 (by rfl) T.int (by decide +kernel) (pa_cons (pv 3) pa_nil)) (pe_callB call_len_seq (by rfl) T.len PySem.boot_len (pa_cons (pe_dget hu (pv 0) pe_str (fun _ _ => rfl)) pa_nil))) (fun _ _ => rfl))
        pe_int))
      (pss_cons (ps_set (i := 5) scN.nd rfl (Or.inl rfl) (pe_op op_mul (pe_callTy call_int1 (by rfl) T.int (by decide +kernel) (pa_cons
        (pe_op op_add (pe_op op_add (pe_op op_mod (pe_callTy call_int1 (by rfl) T.int (by decide +kernel) (pa_cons (pv 4) pa_nil)) pe_int) (pe_op op_mul pe_int (pv 3))) (pe_op op_mul (pe_op op_mul pe_int (pv 3)) (pv 3))) pa_nil)) pe_int))
      (pss_cons (ps_set (i := 5) scN.nd rfl (Or.inl rfl) (pe_op op_mul (pe_callTy call_int1 (by rfl) T.int (by decide +kernel) (pa_cons
        (pe_op op_add (pe_op op_mod (pe_callTy call_int1 (by rfl) T.int (by decide +kernel) (pa_cons (pv 5) pa_nil)) pe_int) (pe_op op_mul pe_int (pv 3))) pa_nil)) pe_int))
      (pss_one (ps_ret (pe_op op_mod (pe_callTy call_int1 (by rfl) T.int (by decide +kernel) (pa_cons
        (pe_op op_fdiv (pe_op op_mod (pe_callTy call_int1 (by rfl) T.int (by decide +kernel) (pa_cons (pv 5) pa_nil)) pe_int) pe_int) pa_nil)) (pv 1)))))))))), ?_⟩
    obtain ⟨ls0, hl0, ll0⟩ := id M.hl
    refine seq_while (fun j H1 => ∃ (l1 : Addr) (ls : List Int), MAt H1 m c l1 k ∧ H1 l1 = some (.lst (ls.map V.int)) ∧ ls.length = j ∧ (l1 = l ∨ H l1 = none) ∧ (∀ b o, H b = some o → b ≠ m → b ≠ l → H1 b = some o) ∧ ∃ o, H1 l = some o)
      (fun H1 => ∃ (l1 : Addr) (ls : List Int), MAt H1 m c l1 k ∧ H1 l1 = some (.lst (ls.map V.int)) ∧ (l1 = l ∨ H l1 = none) ∧ (∀ b o, H b = some o → b ≠ m → b ≠ l → H1 b = some o))
      ⟨l, ls0, M, hl0, rfl, .inl rfl, fun b o e _ _ => e, _, hl0⟩ ?_ ?_
    · rintro H1 ⟨l1, ls, M1, hl, fl, kp⟩
      refine rd_left rfl M1 (ne_empty hl fun p hp => ?_)
      have M2 := MAt.same M1 (same_upd (o := .lst []) hp)
      have hl2 : upd H1 p (.lst []) l1 = some (.lst (ls.map V.int)) := same_upd hp _ _ hl
      cases ls with
      | cons x r =>
        refine iteT' rfl ?_
        refine rd_left rfl M2 ?_
        refine ⟨l1, _, 0, .int x, rfl, rfl, SqL.of hl2, atI_nat (j := 0) rfl, .inl ⟨x, rfl, ?_⟩⟩
        refine ⟨_, rfl, _, rfl, x, n, rfl, rfl, ⟨n0, by omega⟩, ?_⟩
        refine rd_left rfl M2 ?_
        refine ⟨l1, _, 0, 0, rfl, rfl, hl2, by simp [ixN], ?_⟩
        refine ⟨_, rfl, _, rfl, x, n, rfl, rfl, n0, ?_⟩
        show Q (.int (x % n)) _
        have hz : ((x / n) :: r).length ≤ 1000 := by
          obtain ⟨ls', e1, e2⟩ := M2.hl
          rw [hl2] at e1
          have e3 := congrArg List.length (HO.lst.inj (Option.some.inj e1))
          simp only [List.length_map] at e3
          rw [List.length_cons] at e3 ⊢
          omega
        refine q (x % n) _ l1 k (Int.emod_nonneg _ (by omega)) (Int.emod_lt_of_pos _ n0) (by omega) (M2.set hz) fl fun b o e h1 h2 => ?_
        have h3 : b ≠ l1 := by
          rcases fl with z | z
          · rw [z]
            exact h2
          · exact ne_of_none e z
        rw [upd_ne h3]
        exact same_upd hp _ _ (kp b o e h1 h2)
      | nil =>
        refine iteF' rfl ?_
        refine rd_at rfl M2 ⟨k, 1, rfl, rfl, ?_⟩
        refine ⟨_, rfl, _, rfl, m, _, rfl, DPut.k (k := Sum.inr "at") M2.hm (small1000 (by show 3 ≤ 1000; decide)), ?_⟩
        rw [p_at]
        have M3 := M2.count (k' := k + 1) (by have := M2.k0; omega) (by omega)
        obtain ⟨cs, hc, lc⟩ := id M3.hc
        have k0 := M.k0
        have kp3 : ∀ b o, H b = some o → b ≠ m → b ≠ l → upd (upd H1 p (.lst [])) m (.dK (mkv c l1 (k + 1))) b = some o := fun b o e h1 h2 => by
          rw [upd_ne h1]
          exact same_upd hp _ _ (kp b o e h1 h2)
        refine rd_cells rfl M3 (ne_empty hc fun p3 hp3 => ?_)
        have M4 := MAt.same M3 (same_upd (o := .lst []) hp3)
        have hc4 := same_upd (o := .lst []) hp3 _ _ hc
        have kp4 : ∀ b o, H b = some o → b ≠ m → b ≠ l → upd (upd (upd H1 p (.lst [])) m (.dK (mkv c l1 (k + 1)))) p3 (.lst []) b = some o := fun b o e h1 h2 => same_upd hp3 _ _ (kp3 b o e h1 h2)
        apply byAll
        case a =>
          intro fin
          by_cases he : cs.isEmpty = true
          · refine iteF' (by rw [he]; rfl) ?_
            generalize (3 : Int) = x
            exact fin x
          · refine iteT' (by simpa using he) ?_
            refine rd_cells rfl M4 ?_
            have ne0 : 0 < cs.length := List.length_pos_iff.mpr (fun z => he (by rw [z]; rfl))
            have pos : (0 : Int) < ((cs.map V.int).length : Nat) := by
              simp only [List.length_map]
              omega
            refine ⟨_, rfl, .inl ⟨k + 1, rfl, ?_⟩⟩
            refine rd_cells rfl M4 ?_
            refine ⟨c, _, rfl, .inl (SqL.of hc4), k + 1, _, rfl, rfl, pos, ?_⟩
            have i0 := Int.emod_nonneg (k + 1) (Int.ne_of_gt pos)
            have i1 := Int.emod_lt_of_pos (k + 1) pos
            obtain ⟨j, hj⟩ := Int.eq_ofNat_of_zero_le i0
            have jl : j < cs.length := by
              simp only [List.length_map] at i1 hj
              omega
            obtain ⟨x, hx⟩ : ∃ x : Int, cs[j]? = some x := ⟨cs[j], List.getElem?_eq_getElem jl⟩
            refine ⟨c, _, _, V.int x, rfl, rfl, SqL.of hc4, ?_, ?_⟩
            · rw [hj]
              refine atI_nat ?_
              rw [List.getElem?_map, hx]
              rfl
            · exact fin x
        case b =>
          intro x
          have k2 : -(2 ^ 64) < k + 1 ∧ k + 1 < 2 ^ 64 := ⟨by omega, by omega⟩
          refine ⟨_, rfl, .inl ⟨x, rfl, _, _, rfl, rfl, (by show (0 : Int) < 2147483629; decide), _, rfl, _, _, rfl, rfl, .inl ⟨by decide, by decide⟩, _, _, rfl, rfl, _, rfl, _, _, rfl, rfl, .inl ⟨by decide, by decide⟩,
            _, rfl, _, _, rfl, rfl, .inr k2, _, _, rfl, rfl, .inl ⟨_, rfl, _, _, rfl, rfl, .inr ⟨by decide, by decide⟩, ?_⟩⟩⟩
          refine ⟨_, rfl, .inl ⟨_, rfl, _, _, rfl, rfl, (by show (0 : Int) < 2147483647; decide), _, rfl, _, _, rfl, rfl, .inl ⟨by decide, by decide⟩, _, _, rfl, rfl, .inl ⟨_, rfl, _, _, rfl, rfl, .inr ⟨by decide, by decide⟩, ?_⟩⟩⟩
          refine ⟨_, rfl, .inl ⟨_, rfl, _, _, rfl, rfl, (by show (0 : Int) < 2147483587; decide), _, _, rfl, rfl, ⟨by decide, by decide⟩, .inl ⟨_, rfl, _, rfl, _, _, rfl, rfl, n0, ?_⟩⟩⟩
          exact q _ _ l1 (k + 1) (Int.emod_nonneg _ (by omega)) (Int.emod_lt_of_pos _ n0) (by omega) M4 fl kp4
    · rintro out j H1 ⟨l1, ls, M1, hl, lj, fl, kp, lo⟩
      refine rd_left rfl M1 (ne_empty hl fun p hp => ?_)
      have M2 := MAt.same M1 (same_upd (o := .lst []) hp)
      have hl2 : upd H1 p (.lst []) l1 = some (.lst (ls.map V.int)) := same_upd hp _ _ hl
      have kp2 : ∀ b o, H b = some o → b ≠ m → b ≠ l → upd H1 p (.lst []) b = some o := fun b o e h1 h2 => same_upd hp _ _ (kp b o e h1 h2)
      have lo2 : ∃ o, upd H1 p (.lst []) l = some o := lo.elim fun o e => ⟨o, same_upd hp _ _ e⟩
      cases ls with
      | nil =>
        refine iteF' rfl (iteF' rfl ?_)
        exact out _ ⟨l1, [], M2, hl2, fl, kp2⟩
      | cons x r =>
        refine iteT' rfl (rd_left rfl M2 ⟨l1, _, 0, .int x, rfl, rfl, SqL.of hl2, atI_nat (j := 0) rfl, rfl, _, rfl, ?_⟩)
        refine ite2 (fun z => ?_) (fun z => ?_)
        · refine ⟨_, fun _ _ z => z, ?_⟩
          refine rd_left rfl M2 ⟨1, rfl, l1, _, rfl, SqL.of hl2, fun p2 hp2 => ?_⟩
          have M3 : MAt (upd (upd H1 p (.lst [])) p2 (.lst (cutV ((x :: r).map V.int) (some 1) none))) m c l1 k := MAt.same M2 (same_upd hp2)
          refine ⟨_, rfl, m, _, rfl, DPut.k (k := Sum.inr "left") M3.hm (small1000 (by show 3 ≤ 1000; decide)), ?_⟩
          rw [p_left, cut_one]
          have hz : ((x :: r).drop 1).length ≤ 1000 := by
            obtain ⟨ls', e1, e2⟩ := M2.hl
            rw [hl2] at e1
            have e3 := congrArg List.length (HO.lst.inj (Option.some.inj e1))
            simp only [List.length_map] at e3
            rw [List.length_cons] at e3
            simp only [List.drop_succ_cons, List.drop_zero]
            omega
          have mp : p2 ≠ m := (ne_of_none M2.hm hp2).symm
          refine ⟨r.length, by rw [← lj]; simp, rfl, p2, r, M2.turn hp2 hz, by rw [upd_ne mp]; exact upd_same, rfl, .inr ?_, fun b o e h1 h2 => ?_, ?_⟩
          · cases q0 : H p2 with
            | none => rfl
            | some o =>
              have a2 : p2 ≠ l := by
                obtain ⟨o, e⟩ := lo2
                exact (ne_of_none e hp2).symm
              rw [kp2 p2 o q0 mp a2] at hp2
              cases hp2
          · rw [upd_ne h1]
            exact same_upd hp2 _ _ (kp2 b o e h1 h2)
          · obtain ⟨o, e⟩ := lo2
            refine ⟨o, ?_⟩
            by_cases lm : l = m
            · subst lm
              rw [M.hm] at hl0
              cases hl0
            · rw [upd_ne lm]
              exact same_upd hp2 _ _ e
        · exact out _ ⟨l1, x :: r, M2, hl2, fl, kp2⟩
theorem scB : FnScope ["script", "cell"] ["script"] (defScope sBegun) := ⟨rfl, rfl, rfl, by decide +kernel, rfl, by decide +kernel, by decide +kernel⟩
theorem ok_begun {f : Addr} {fd : FuncData} (F : Fun K "_law_begun" "_law_begun" sBegun f fd) (T : TxtD mg) : FnOk P w K mg base CX0 1 f fd ["script"] (spBegun K) := by
  refine F.ok scB (fun vs H Q E h => ?_) (fun cdv A outer s H vs Q E hr h => ?_)
  · obtain ⟨a, ns, rfl, _⟩ := h
    rfl
  · obtain ⟨a, ns, rfl, hS, hl, q⟩ := h
    refine ⟨_, pss_one (ps_ret (pe_disp (pps_cons pe_str (pe_callTy call_list_of (by rfl) T.list (by decide +kernel) (pa_cons (pv 0) pa_nil))
      (pps_cons pe_str (pe_lc (own := [("cell", 1)]) (g := gName 1) rfl scB.nd (pi_list (pv 0)) (blkOk_by (N := ["script", "cell"]) (sc := defScope sBegun) (by decide +kernel))
        (fun _ _ _ _ _ => pg_name (i := 1) scB.nd rfl (Or.inl rfl)) (fun _ _ _ _ _ => pts_one (pt_cmpR op_ge (pv 1) (pe_op op_pow pe_int pe_int) (nomark _))) (fun _ _ _ _ _ => pv 1))
      (pps_cons pe_str pe_int pps_nil))) rfl rfl (by simp) (by decide))), ?_⟩
    intro m hm
    have s1 : Same H (upd H m (.dK [])) := same_upd hm
    refine ⟨_, rfl, a, ns.map V.int, rfl, .inl (s1.seq hS), fun c hc => ?_⟩
    have s2 := s1.trans (same_upd (o := .lst (ns.map V.int)) hc)
    refine ⟨_, rfl, a, rfl, ⟨_, s2.seq hS⟩, fun l hl0 => ?_⟩
    have mc : m ≠ c := ne_of_none upd_same hc
    have hm2 : upd (upd H m (.dK [])) c (.lst (ns.map V.int)) m = some (.dK []) := by
      rw [upd_ne mc]
      exact upd_same
    have ml : m ≠ l := ne_of_none hm2 hl0
    have cl : c ≠ l := ne_of_none (upd_same) hl0
    refine lc_list (K := K) (a := a) (xs := ns.map V.int) (fun i H' => ∃ acc : List Int, H' l = some (.lst (acc.map V.int)) ∧ acc.length ≤ i ∧ ∀ b o, upd (upd H m (.dK [])) c (.lst (ns.map V.int)) b = some o → H' b = some o)
      ⟨[], upd_same, Nat.le_refl _, fun b o e => same_upd hl0 _ _ e⟩ (fun i H' _ ⟨acc, _, _, k⟩ => Same.seq (s2.trans k) hS) ?_ ?_
    · rintro i x H' hi ⟨acc, ha, la, kp⟩
      obtain ⟨z, rfl⟩ : ∃ z, x = V.int z := by
        rw [List.getElem?_map] at hi
        cases e : ns[i]? with
        | none =>
          rw [e] at hi
          cases hi
        | some z =>
          rw [e] at hi
          exact ⟨z, (Option.some.inj hi).symm⟩
      have il : i < ns.length := by
        have := (List.getElem?_eq_some_iff.mp hi).1
        simpa using this
      refine ⟨rfl, _, rfl, 10, 18, rfl, rfl, ⟨by decide, by decide, by decide⟩, _, _, rfl, rfl, _, rfl, ?_⟩
      refine ite2 (fun _ => ⟨_, rfl, acc.map V.int, ha, ?_, acc ++ [z], ?_, ?_, fun b o e => ?_⟩) (fun _ => ⟨acc, ha, Nat.le_succ_of_le la, kp⟩)
      · rw [List.length_map]
        exact small1000 (by omega)
      · rw [List.map_append]
        exact upd_same
      · simp only [List.length_append, List.length_cons, List.length_nil]
        omega
      · rw [upd_ne (ne_of_none e hl0)]
        exact kp b o e
    · rintro H' ⟨acc, ha, la, kp⟩
      rw [List.length_map] at la
      refine ⟨kp _ _ hm2, mkv c l 0, rfl, (by show 3 ≤ 15; decide), ?_⟩
      rw [mk_merge]
      have lm : l ≠ m := ml.symm
      have cm : c ≠ m := mc.symm
      refine q m c l _ ⟨upd_same, ⟨ns, by rw [upd_ne cm]; exact kp _ _ upd_same, hl⟩, ⟨acc, by rw [upd_ne lm]; exact ha, by omega⟩, cl, by decide, by decide⟩ hm (s1.free hc) (s2.free hl0) fun b o e => ?_
      rw [upd_ne (ne_of_none e hm)]
      exact kp _ _ (s2 _ _ e)
end
end K31
/-! is_number, is_piece, is_step: of what a framing holds. -/
namespace K31
open PySem L2 L2.EV
abbrev sNum : Stmt := top 8
abbrev sPc : Stmt := top 9
abbrev sStep : Stmt := top 10
def sgs : List Nat := sl ("abcdefghijklmnopqrstuvwxyz0123456789@" : Str)
theorem no59 : ¬ (59 ∈ sgs) := by decide +kernel
theorem semi : sl (";" : Str) = [59] := by decide +kernel
theorem semi1 : (";" : Str).length = 1 := by decide +kernel
/-- a piece; it ends a line if last -/
def Pc (p : Str) (last : Bool) : Prop := ∃ b : List Nat, sl p = b ++ (if last = true then [59] else []) ∧ b.length ≤ 7 ∧ (∀ c ∈ b, c ∈ sgs) ∧ (last = false → b ≠ [])
theorem len_sl (p : Str) : p.length = (sl p).length := by
  show p.cps.size = p.cps.toList.length
  simp
theorem pc_len {p : Str} {l : Bool} (h : Pc p l) : 1 ≤ p.length ∧ p.length ≤ 8 := by
  obtain ⟨b, e, h1, _, h2⟩ := h
  rw [len_sl, e, List.length_append]
  cases l with
  | true =>
    rw [if_pos rfl]
    simp only [List.length_cons, List.length_nil]
    omega
  | false =>
    have := List.length_pos_iff.mpr (h2 rfl)
    rw [if_neg (by simp)]
    simp only [List.length_nil]
    omega
theorem at_end {p : Str} : Builtin.Str.subAt p ";" (p.length - (";" : Str).length) = (((sl p).drop ((sl p).length - 1)).take 1 == [59]) := by
  rw [StrLaws.subAt_eq, semi1, len_sl]
  show (((sl p).drop _).take 1 == sl (";" : Str)) = _
  rw [semi]
theorem pc_last {p : Str} {l : Bool} (h : Pc p l) : (decide (0 + (";" : Str).length ≤ p.length) && Builtin.Str.subAt p ";" (p.length - (";" : Str).length)) = l := by
  have z := pc_len h
  rw [at_end]
  have d : decide (0 + (";" : Str).length ≤ p.length) = true := decide_eq_true (by rw [semi1]; omega)
  rw [d, Bool.true_and]
  obtain ⟨b, e, h1, hb, h2⟩ := h
  rw [e]
  cases l with
  | true =>
    rw [if_pos rfl]
    simp
  | false =>
    rw [if_neg (by simp), List.append_nil]
    obtain ⟨M, y, rfl⟩ := SrtO.snoc_of (l := b) (List.length_pos_iff.mpr (h2 rfl))
    have hy : y ∈ sgs := hb y (by simp)
    have ne : ¬ y = 59 := fun q => no59 (q ▸ hy)
    simp [ne]
theorem pc_ends {p : Str} {l : Bool} (h : Pc p l) : Txt.endswith p ";" = l := pc_last h
theorem pc_cut {p : Str} {l : Bool} (h : Pc p l) : ∀ c ∈ sl (Txt.removesuffix p ";"), c ∈ sgs := by
  have z := pc_last h
  rw [StrLaws.removesuffix_eq]
  rw [show (decide (0 + (";" : Str).length ≤ p.length) && Builtin.Str.subAt p ";" (p.length - (";" : Str).length)) = l from z]
  obtain ⟨b, e, h1, hb, h2⟩ := h
  intro c hc
  cases l with
  | true =>
    rw [if_pos rfl] at hc e
    rw [semi1, len_sl] at hc
    have e' : p.cps.toList = b ++ [59] := e
    simp only [e, e', List.drop_zero, List.length_append, List.length_cons, List.length_nil] at hc
    have : (b ++ [59]).take (b.length + (0 + 1) - 1 - 0) = b := by simp
    rw [this] at hc
    exact hb c (by simpa using hc)
  | false =>
    rw [if_neg (by simp)] at hc
    rw [e, if_neg (by simp), List.append_nil] at hc
    exact hb c hc
/-- is_number(n, many) -/
def spNum : Sp := fun vs H Q _ => ∃ n m : Int, vs = [.int n, .int m] ∧ Q (.bl (decide (0 ≤ n) && decide (n < m))) H
/-- is_piece(p), p a piece -/
def spPc : Sp := fun vs H Q _ => ∃ (p : Str) (l : Bool), vs = [.str p] ∧ Pc p l ∧ ∀ H', Same H H' → Q (.bl true) H'
/-- what a step is -/
def Stp (x : T3) : Prop := 0 ≤ x.1 ∧ x.1 < 6 ∧ Pc x.2.1 (decide (x.2.2 = 0)) ∧ 0 ≤ x.2.2 ∧ x.2.2 < 6
/-- a step at t -/
abbrev S3 (H : Hp) (t : Addr) (x : T3) : Prop := H t = some (.tup [.int x.1, .str x.2.1, .int x.2.2])
def spStep : Sp := fun vs H Q _ => ∃ (t : Addr) (x : T3), vs = [.ref t] ∧ S3 H t x ∧ Stp x ∧ ∀ H', Same H H' → Q (.bl true) H'
structure TxtF (mg : Str → Option Value) : Prop where
  isi : mg "isinstance" = none
  int : mg "int" = none
  bool : mg "bool" = none
  str : mg "str" = none
  tuple : mg "tuple" = none
  len : mg "len" = none
  all : mg "all" = none
  signs : ∃ t, mg "SIGNS" = some (.str "abcdefghijklmnopqrstuvwxyz0123456789@" t)
  mSigns : ∃ t, mg "MOST_SIGNS" = some (.int 8 t)
  many : ∃ t, mg "MANY_STANDINGS" = some (.int 6 t)
section
variable {P : Program} {w : World} {K : PySem.W.Frag} {mg : Str → Option Value} {base : Heap}
theorem scNum : FnScope ["thing", "many"] ["thing", "many"] (defScope sNum) := ⟨rfl, rfl, rfl, by decide +kernel, rfl, by decide +kernel, by decide +kernel⟩
theorem ok_num {f : Addr} {fd : FuncData} (F : Fun K "is_number" "is_number" sNum f fd) (T : TxtF mg) : FnOk P w K mg base CX0 1 f fd ["thing", "many"] spNum := by
  refine F.ok scNum (fun vs H Q E h => ?_) (fun cdv A outer s H vs Q E hr h => ?_)
  · obtain ⟨n, m, rfl, _⟩ := h
    rfl
  · obtain ⟨n, m, rfl, q⟩ := h
    refine ⟨_, pss_one (ps_ret (pe_and (pe_callB call_isi (by rfl) T.isi PyProof.Rows.boot_isinstance (pa_cons (pv 0) (pa_cons (pe_bltn (v := .ty "int") (by rfl) T.int (by decide +kernel) rfl) pa_nil)))
      (pe_and (pe_not (pe_callB call_isi (by rfl) T.isi PyProof.Rows.boot_isinstance (pa_cons (pv 0) (pa_cons (pe_bltn (v := .ty "bool") (by rfl) T.bool (by decide +kernel) rfl) pa_nil))))
        (pe_one (pe_chain op_le op_lt pe_int (pv 0) (pv 1)))))), ?_⟩
    refine ⟨_, rfl, .int n, .ty "int", .type "int", .type "int", true, rfl, .ty "int", .base (.int n), kit_ty (by decide +kernel), true, rfl, iteT ?_⟩
    refine ⟨_, rfl, .int n, .ty "bool", .type "int", .type "bool", false, rfl, .ty "bool", .base (.int n), kit_ty (by decide +kernel), false, rfl, true, rfl, iteT ?_⟩
    refine ⟨_, rfl, 0, n, rfl, rfl, _, rfl, ?_⟩
    refine ite2 (fun z => ?_) (fun z => ?_)
    · refine ⟨_, rfl, n, m, rfl, rfl, ?_⟩
      rw [z, Bool.true_and] at q
      exact q
    · rw [eq_false_of_ne_true z, Bool.false_and] at q
      exact q
theorem scPc : FnScope ["thing", "sign"] ["thing"] (defScope sPc) := ⟨rfl, rfl, rfl, by decide +kernel, rfl, by decide +kernel, by decide +kernel⟩
theorem ok_pc {f : Addr} {fd : FuncData} (F : Fun K "is_piece" "is_piece" sPc f fd) (T : TxtF mg) : FnOk P w K mg base CX0 1 f fd ["thing"] spPc := by
  refine F.ok scPc (fun vs H Q E h => ?_) (fun cdv A outer s H vs Q E hr h => ?_)
  · obtain ⟨p, l, rfl, _⟩ := h
    rfl
  · obtain ⟨p, l, rfl, hp, q⟩ := h
    obtain ⟨ts, eS⟩ := T.signs
    obtain ⟨tm, eM⟩ := T.mSigns
    refine ⟨_, pss_cons (ps_if (pw_or (pt_not (pt_val (pe_callB call_isi (by rfl) T.isi PyProof.Rows.boot_isinstance (pa_cons (pv 0) (pa_cons (pe_bltn (v := .ty "str") (by rfl) T.str (by decide +kernel) rfl) pa_nil)))))
        (pw_or1 (pt_not (pt_chain op_le op_le pe_int (pe_callB call_len_str (by rfl) T.len PySem.boot_len (pa_cons (pv 0) pa_nil)) (pe_glob (v := .int 8) (by rfl) eM ⟨_, rfl⟩))))).pt
        (pss_one (ps_ret pe_bl)) pss_nil)
      (pss_one (ps_ret (pe_callB (cr_all rfl) (by rfl) T.all (by decide +kernel) (pa_cons (pe_lc (own := [("sign", 1)]) (g := gName 1) rfl scPc.nd
        (pi_str (pe_m1 PySem.F.slot_str_removesuffix PySem.F.type_str_removesuffix mt_removesuffix (pv 0) pe_str)) (blkOk_by (N := ["thing", "sign"]) (sc := defScope sPc) (by decide +kernel))
        (fun _ _ _ _ _ => pg_name (i := 1) scPc.nd rfl (Or.inl rfl)) (fun _ _ _ _ _ => pts_nil) (fun _ _ _ _ _ => pe_cmpR op_in_sign (pv 1) (pe_glob (v := .str "abcdefghijklmnopqrstuvwxyz0123456789@") (by rfl) eS ⟨_, rfl⟩) (by rfl))) pa_nil)))), ?_⟩
    have z := pc_len hp
    refine ⟨_, rfl, .str p, .ty "str", .type "str", .type "str", true, rfl, .ty "str", .base (.str p), kit_ty (by decide +kernel), true, rfl, iteF ?_⟩
    refine ⟨.str p, rfl, p, rfl, by rw [sizeLine_eq]; omega, 1, p.length, rfl, rfl, _, rfl, iteT' (decide_eq_true (by omega)) ⟨p.length, 8, rfl, rfl, _, rfl, ?_⟩⟩
    refine iteF' (by rw [decide_eq_true (by omega)]; rfl) ?_
    refine ⟨_, rfl, ⟨p, rfl⟩, p, ";", rfl, rfl, by rw [sizeLine_eq]; omega, _, rfl, fun D hD => ?_⟩
    refine lc_it walk_str (fun i H' => H' D = some (.lst ((List.replicate i true).map V.bl)) ∧ ∀ b o, H b = some o → H' b = some o) ⟨upd_same, fun b o z => same_upd hD b o z⟩ (fun _ _ _ _ => trivial) ?_ ?_
    · rintro i x H1 H2 hi ⟨hl, kp⟩ ⟨rfl, c, hc, rfl⟩
      refine ⟨rfl, ⟨_, rfl, c, _, rfl, rfl, ?_⟩⟩
      have hm : c ∈ sgs := pc_cut hp c (List.mem_of_getElem? (by simpa using hc))
      refine ⟨_, hl, ?_, ?_, fun b o z => ?_⟩
      · rw [List.length_map, List.length_replicate, sizeLine_eq]
        have l1 := PyProof.Rows.len_removesuffix p ";"
        have l2 : (Txt.removesuffix p ";").cps.size = (Txt.removesuffix p ";").length := rfl
        omega
      · have e : decide (c ∈ ("abcdefghijklmnopqrstuvwxyz0123456789@" : Str).cps.toList) = true := decide_eq_true hm
        rw [e, List.replicate_succ', List.map_append]
        exact upd_same
      · rw [upd_ne (ne_of_none z hD)]
        exact kp b o z
    · rintro H1 ⟨hl, kp⟩
      refine ⟨D, _, rfl, SqL.of hl, ?_⟩
      rw [show (List.replicate (Txt.removesuffix p ";").cps.size true).all id = true by simp]
      exact q H1 kp
theorem scStep : FnScope ["thing", "start", "piece", "goal"] ["thing"] (defScope sStep) := ⟨rfl, rfl, rfl, by decide +kernel, rfl, by decide +kernel, by decide +kernel⟩
theorem ok_step {f fN fP : Addr} {fd fdN fdP : FuncData} (F : Fun K "is_step" "is_step" sStep f fd) (T : TxtF mg) (FN : Fun K "is_number" "is_number" sNum fN fdN) (bN : Binds K fdN ["thing", "many"] []) (mN : mg "is_number" = some (.ref fN))
    (FP : Fun K "is_piece" "is_piece" sPc fP fdP) (bP : Binds K fdP ["thing"] []) (mP : mg "is_piece" = some (.ref fP)) : FnOk P w K mg base CX0 2 f fd ["thing"] spStep := by
  have GN : FnOk P w K mg base CX0 1 fN fdN ["thing", "many"] spNum := ok_num FN T
  have GP : FnOk P w K mg base CX0 1 fP fdP ["thing"] spPc := ok_pc FP T
  refine F.ok scStep (fun vs H Q E h => ?_) (fun cdv A outer s H vs Q E hr h => ?_)
  · obtain ⟨t, x, rfl, _⟩ := h
    rfl
  · obtain ⟨t, x, rfl, e, hx, q⟩ := h
    obtain ⟨tm, eM⟩ := T.many
    refine ⟨_, pss_cons (ps_if (pw_or (pt_not (pt_val (pe_callB call_isi (by rfl) T.isi PyProof.Rows.boot_isinstance (pa_cons (pv 0) (pa_cons (pe_bltn (v := .ty "tuple") (by rfl) T.tuple (by decide +kernel) rfl) pa_nil)))))
        (pw_or1 (pt_cmpR op_ne (pe_callB call_len_seq (by rfl) T.len PySem.boot_len (pa_cons (pv 0) pa_nil)) pe_int (nomark _)))).pt
        (pss_one (ps_ret pe_bl)) pss_nil)
      (pss_cons (ps_asg (pv 0) (pg_tup rfl (pgs_cons (pg_name (i := 1) scStep.nd rfl (Or.inl rfl)) (pgs_cons (pg_name (i := 2) scStep.nd rfl (Or.inl rfl)) (pgs_cons (pg_name (i := 3) scStep.nd rfl (Or.inl rfl)) pgs_nil)))))
      (pss_cons (ps_if (pw_or (pt_not (pt_val (pe_call GN hr (by rfl) mN FN.kp bN .nil pass0 (pa_cons (pv 1) (pa_cons (pe_glob (v := .int 6) (by rfl) eM ⟨_, rfl⟩) pa_nil)))))
        (pw_or (pt_not (pt_val (pe_call GP hr (by rfl) mP FP.kp bP .nil pass0 (pa_cons (pv 2) pa_nil))))
          (pw_or1 (pt_not (pt_val (pe_call GN hr (by rfl) mN FN.kp bN .nil pass0 (pa_cons (pv 3) (pa_cons (pe_glob (v := .int 6) (by rfl) eM ⟨_, rfl⟩) pa_nil)))))))).pt
        (pss_one (ps_ret pe_bl)) pss_nil)
      (pss_one (ps_ret (pe_cmpR op_eq (pe_m1 PySem.F.slot_str_endswith PySem.F.type_str_endswith mt_endswith (pv 2) pe_str) (pe_cmpR op_eq (pv 3) pe_int (nomark _)) (nomark _)))))), ?_⟩
    obtain ⟨h0, h6, hp, g0, g6⟩ := hx
    refine ⟨_, rfl, .ref t, .ty "tuple", .type "tuple", .type "tuple", true, rfl, .ty "tuple", .base (.tup e), kit_ty (by decide +kernel), true, rfl, iteF ?_⟩
    refine ⟨_, rfl, t, _, rfl, .inr (SqT.of e), rfl, _, rfl, iteF ?_⟩
    refine ⟨_, rfl, t, _, rfl, SqT.of e, rfl, _, _, rfl, _, _, rfl, _, _, rfl, rfl, ?_⟩
    refine ⟨_, rfl, x.1, 6, rfl, _, rfl, ?_⟩
    refine iteF' (by rw [decide_eq_true h0, decide_eq_true h6]; rfl) ?_
    refine ⟨_, rfl, x.2.1, _, rfl, hp, fun H1 s1 => ⟨_, rfl, iteF ?_⟩⟩
    refine ⟨_, rfl, x.2.2, 6, rfl, _, rfl, ?_⟩
    refine iteF' (by rw [decide_eq_true g0, decide_eq_true g6]; rfl) ?_
    refine ⟨_, rfl, ⟨_, rfl⟩, x.2.1, _, rfl, rfl, ⟨_, rfl, rfl, rfl, ?_⟩⟩
    rw [pc_ends hp]
    have e1 : decide (V.int x.2.2 = V.int 0) = decide (x.2.2 = 0) := by
      rw [dec_int]
      by_cases z : x.2.2 = 0
      · rw [z]
        rfl
      · rw [decide_eq_false z]
        exact beq_eq_false_iff_ne.mpr z
    rw [e1, decide_eq_true rfl]
    exact q H1 s1
end
end K31
/-! enumerate over a tuple. -/
namespace PySem
open Sem (wp)
open AutoSeq1 (wpAny_loadPart')
theorem meets_enumerate_newT (l : Addr) (items : Array Value) (n : Nat) (dct : Option Addr) (sl : Array (Option Value)) :
    Meets (Builtin.«enumerate.__new__» ⟨[.type "enumerate", .ref l], []⟩) (fun _ R s => s.heap.get? l = some { cls := .type "tuple", dict := dct, data := .seq items n, slots := sl } ∧
      R (.ok (.ret (.ref (s.heap.push { cls := .type "tuple_iterator", data := .fields #[.ref l, .int 0 0] }).objs.size)))
        { s with heap := (s.heap.push { cls := .type "tuple_iterator", data := .fields #[.ref l, .int 0 0] }).push { cls := .type "enumerate", data := .fields #[.none, .bool false, .ref s.heap.objs.size, rawInt 0, .none, .none] } }) :=
  .of_wp fun prog w A R s h => by
    obtain ⟨hp, g, d, tk, os⟩ := s; obtain ⟨hl, h⟩ := h
    have hsub := sub_enumerate
    have hL : Heap.IsTuple (Shared.heap ⟨hp, g, d, tk, os⟩) l items := ⟨_, hl, rfl, n, rfl⟩
    wp_walk using wpAny_loadPart' hl
    refine wpAny_stack_any fun st => wpAny_pure ?_
    split
    · rename_i c _ _ _ _ _
      cases (c == Value.type "enumerate")
      · wp_walk using wpAny_loadPart' hl, wpAny_pyIter_tuple hL
        exact ⟨_, rfl, h⟩
      · wp_walk using wpAny_loadPart' hl, wpAny_pyIter_tuple hL
        exact ⟨_, rfl, h⟩
    · wp_walk using wpAny_loadPart' hl, wpAny_pyIter_tuple hL
      exact ⟨_, rfl, h⟩
section
variable {prog : Program} {w : World} {A : Around} {E : Value → Shared → Prop} {s : Shared}
theorem call_enumerate_tuple {l : Addr} {items : Array Value} {Q : Value → Shared → Prop} (hL : s.heap.IsTuple l items)
    (h : ∀ h', IsEnum h' (s.heap.objs.size + 1) s.heap.objs.size 0 .none → h'.IsTupleIter s.heap.objs.size l 0 → h'.objs.size = s.heap.objs.size + 2 →
      (∀ b o, s.heap.get? b = some o → h'.get? b = some o) → Q (.ref (s.heap.objs.size + 1)) { s with heap := h' }) :
    wpAny (model prog w) A (call (.type "enumerate") [.ref l]) Q E s := by
  obtain ⟨⟨c, dct, dt, sl⟩, hl, hc, n, hd⟩ := hL
  replace hc : c = .type "tuple" := hc
  replace hd : dt = .seq items n := hd
  subst hc hd
  refine callType_new F.called_enumerate (by decide) (F.typeCall_enumerate_1 _) (F.newCall_enumerate_1 _) (fun obj => F.args_object_init_2 obj _) F.entry_enumerate_new
    (meets_enumerate_newT l items n dct sl) ⟨hl, ?_⟩
  have hz : (s.heap.push { cls := .type "tuple_iterator", data := .fields #[.ref l, .int 0 0] }).objs.size = s.heap.objs.size + 1 := Heap.size_push ..
  show _ ∧ _
  rw [hz]
  have he : IsEnum ((s.heap.push { cls := .type "tuple_iterator", data := .fields #[.ref l, .int 0 0] }).push
      { cls := .type "enumerate", data := .fields #[.none, .bool false, .ref s.heap.objs.size, rawInt 0, .none, .none] }) (s.heap.objs.size + 1) s.heap.objs.size 0 .none := by
    have := Heap.get?_push_size (s.heap.push { cls := .type "tuple_iterator", data := .fields #[.ref l, .int 0 0] })
      (o := { cls := .type "enumerate", data := .fields #[.none, .bool false, .ref s.heap.objs.size, rawInt 0, .none, .none] }) rfl
    rw [hz] at this; exact this
  refine ⟨⟨_, he, rfl⟩, h _ he ⟨_, Heap.get?_push_of_some _ (Heap.get?_push_size _ rfl), rfl, rfl⟩ (by rw [Heap.size_push, hz]) fun b o x => Heap.get?_push_of_some _ (Heap.get?_push_of_some _ x)⟩
end
end PySem
namespace L2
open PySem PySem.Spec PyProof.Rows
def IteT (K : PySem.W.Frag) (a : Addr) : It :=
  ⟨fun i H => ∃ (xs : List V) (x : V), SqT K H a xs ∧ xs[i]? = some x, fun i H v H' => ∃ T x, v = .ref T ∧ H T = none ∧ H' = upd H T (.tup [.int (i : Nat), x]) ∧ ∀ xs, SqT K H a xs → xs[i]? = some x, fun i H => ∃ xs : List V, SqT K H a xs ∧ xs.length = i⟩
theorem turn_enumT {P : Program} {w : World} {K : PySem.W.Frag} {elts : List Expr} {kk : Nat} {tpos : Pos} (a e it : Addr) (hai : a ≠ it) (hae : a ≠ e) :
    Turn P w K (.Tuple elts kk tpos) (IteT K a) [e, it] e (fun i h => (∃ old, IsEnum h e it ((i : Nat) : Int) old) ∧ h.IsTupleIter it a i ∧ e ≠ it) where
  mem := by simp
  obj := fun i h st b hb => by
    obtain ⟨⟨old, he⟩, ⟨o, ho, hc, hd⟩, _⟩ := st
    have e' : b = e ∨ b = it := by simpa using hb
    rcases e' with z | z
    · rw [z]; exact ⟨_, he, fun v q => nomatch q⟩
    · rw [z]; exact ⟨o, ho, fun v q => by rw [hd] at q; cases q⟩
  keep := fun i h h' st k => let ⟨⟨old, he⟩, hi, hne⟩ := st; ⟨⟨old, k e (by simp) _ he⟩, hi.at fun o q => k it (by simp) o q, hne⟩
  item := by
    intro X hP hw hK hc i pins s σ H E I hf st hg
    subst hP hw hK
    obtain ⟨⟨old, he⟩, hit, hne⟩ := st
    obtain ⟨xs, x, hq, hx⟩ := hg
    obtain ⟨its, rv, p, hz⟩ := I.tuple hq
    obtain ⟨u, hu, ru⟩ := rv.get hx
    have hel : e < s.heap.objs.size := Heap.lt_size he
    have hil : it < s.heap.objs.size := by obtain ⟨_, q, _⟩ := hit; exact Heap.lt_size q
    have hlt : i < its.toArray.size := by
      have := (List.getElem?_eq_some_iff.mp hu).1
      simpa using this
    refine wpAny_pyNext_enum_itemD (Draws.tuple (A := X.A.in1) (show X.A.in1.handled = none from I.ok.hd hc) it a hai its.toArray) he ⟨hit, show s.heap.IsTuple a its.toArray from p⟩ hlt hne (by simp [hne, Ne.symm hae]) fun u' h' tk hu' ho st' hT hsz hk => ?_
    have e0 : u' = u := by
      have q1 : its[i]? = some u' := by simpa using hu'
      rw [hu] at q1
      exact (Option.some.inj q1).symm
    subst e0
    obtain ⟨hit', _⟩ := st'
    refine ⟨_, rfl, wpAny_letOwnedTupleGo_enum (s := { s with heap := h', toks := tk + 1 }) ho fun h'' he' sb => ?_⟩
    have hT2 : h''.get? s.heap.objs.size = some { cls := .type "tuple", data := .seq #[.int i tk, u'] } := (sb.2 _ (Nat.ne_of_gt hel)).trans hT
    have new : ObjOk X.prog X.w (upd H s.heap.objs.size (.tup [.int (i : Nat), x])) h'' s.heap.objs.size (.tup [.int (i : Nat), x]) :=
      ⟨by show 2 ≤ sizeLine; decide, [.int i tk, u'], .cons ⟨_, rfl⟩ (.cons ru .nil), ⟨_, hT2, rfl, _, rfl⟩⟩
    have I1 : Inv X pins σ (upd H s.heap.objs.size (.tup [.int (i : Nat), x])) { s with heap := h'', toks := tk + 1 } :=
      I.turnedNew (ch := [e, it]) (fun b ob hb q => (sb.2 b (fun z => hb (by simp [z]))).trans (hk b ob (fun z => hb (by simp [z])) (fun z => hb (by simp [z])) q)) hf (Nat.le_refl _) new
    refine ⟨.ref s.heap.objs.size, _, I1, rfl, ⟨_, x, rfl, I.hok.fresh (Nat.le_refl _), rfl, fun ys hy => by rw [I.tuple_inj hy hq]; exact hx⟩, ⟨⟨u', ?_⟩, hit'.at fun o q => (sb.2 it (Ne.symm hne)).trans q, hne⟩, fun b hb => ?_⟩
    · have e1 : ((i + 1 : Nat) : Int) = (i : Int) + 1 := by omega
      rw [e1]; exact he'
    · have hb' : b < s.heap.objs.size := by
        have e' : b = e ∨ b = it := by simpa using hb
        rcases e' with z | z
        · rw [z]; exact hel
        · rw [z]; exact hil
      rw [upd_ne (Nat.ne_of_lt hb')]
      exact (hf b hb).1
  done := by
    intro X hP hw hK hc i pins s σ H E I hf st hg
    subst hP hw hK
    obtain ⟨⟨old, he⟩, hit, hne⟩ := st
    obtain ⟨xs, hq, hx⟩ := hg
    obtain ⟨its, rv, p, hz⟩ := I.tuple hq
    obtain ⟨f0, f1, f2, f3, f4, f5⟩ := hf it (by simp)
    have hl := rv.length
    have hn : its.toArray.size = i := by simp; omega
    exact wpAny_pyNext_enum_endD (Draws.tuple (A := X.A.in1) (show X.A.in1.handled = none from I.ok.hd hc) it a hai its.toArray) he ⟨hn.symm ▸ hit, show s.heap.IsTuple a its.toArray from p⟩ fun h' eb => ⟨rfl, I.turned (t' := s.toks) (fun b o hb q => eb b o hb q) f0 f1 f3 f4 f5⟩
  self := fun A i s Q E st h => let ⟨⟨_, he⟩, _⟩ := st; wpAny_pyIter_enum he h
def iEnumT (K : PySem.W.Frag) (ta : TA) : TI := fun σ H R => ta σ H fun vs H1 => ∃ a xs, vs = [.ref a] ∧ SqT K H1 a xs ∧ R (IteT K a) H1
theorem pi_enumT {X : Cx} {e : Expr} {ta : TA} {p pos tpos : Pos} {elts : List Expr} {kk : Nat} (hg : Gl X "enumerate") (hm : X.mg "enumerate" = none) (ha : PA X [e] ta) (hs : starEach [e] X.env = [(false, eval e X.env)] := by rfl) :
    PI X (.Tuple elts kk tpos) (.Call (.Name "enumerate" p) [e] [] pos) (iEnumT X.K ta) := by
  refine ⟨fun pins s σ H R I h => ?_⟩
  refine Call_ (ld_blt I hg hm boot_enumerate (PyProof.Rows.callWith_type1 (thn (ha.run pos pins s σ H _ I h) fun us s1 ⟨vs, H1, I1, r1, q1⟩ => ?_) hs rfl))
  obtain ⟨a, xs, ex, hq, q⟩ := q1
  subst ex
  cases r1 with
  | cons r rr =>
    cases rr
    cases r
    obtain ⟨its, rv, p', hz⟩ := I1.tuple hq
    have hal : a < s1.heap.objs.size := by
      obtain ⟨o, q, _⟩ := id p'
      exact Heap.lt_size q
    refine call_enumerate_tuple (show s1.heap.IsTuple a its.toArray from p') fun h' he hit hsz hk => wpAny_pyIter_enum he ?_
    have I2 : Inv X pins σ H1 { s1 with heap := h' } := I1.kept (t' := s1.toks) hk
    refine ⟨s1.heap.objs.size + 1, [s1.heap.objs.size + 1, s1.heap.objs.size], _, _, H1, rfl, I2, turn_enumT a (s1.heap.objs.size + 1) s1.heap.objs.size (Nat.ne_of_lt hal) (Nat.ne_of_lt (Nat.lt_succ_of_lt hal)), ⟨⟨.none, he⟩, hit, Nat.succ_ne_self _⟩, fun b hb => ?_, q⟩
    have e' : b = s1.heap.objs.size + 1 ∨ b = s1.heap.objs.size := by simpa using hb
    have hle : s1.heap.objs.size ≤ b := by
      rcases e' with z | z
      · rw [z]; exact Nat.le_add_right _ _
      · rw [z]; exact Nat.le_refl _
    exact I1.fpOk hle (I1.hok.fresh hle)
theorem walk_enumT {K : PySem.W.Frag} {a : Addr} {xs : List V} : Walk (IteT K a) xs.length (fun H => SqT K H a xs) (YPair (fun i => some (.int (i : Nat))) (fun i => xs[i]?)) := by
  refine ⟨fun i _ hi q => ⟨xs, xs[i], q, by simp [hi]⟩, fun _ q => ⟨xs, q, rfl⟩, fun i H v H' _ q y => ?_⟩
  obtain ⟨T, x, h1, h2, h3, h4⟩ := y
  exact ⟨T, .int (i : Nat), x, h1, h2, h3, rfl, h4 xs q⟩
end L2
/-! Framings; listed_standings. -/
namespace K31
open PySem L2 L2.EV
abbrev sListed : Stmt := top 11
/-- a framing at f -/
def FrA (H : Hp) (f : Addr) (fr : List T3) : Prop := ∃ ts : List Addr, H f = some (.tup (ts.map V.ref)) ∧ ts.length = fr.length ∧ ∀ (i : Nat) t x, ts[i]? = some t → fr[i]? = some x → S3 H t x
theorem FrA.same {H H' : Hp} {f : Addr} {fr : List T3} (h : FrA H f fr) (s : Same H H') : FrA H' f fr := by
  obtain ⟨ts, e, l, c⟩ := h
  exact ⟨ts, s _ _ e, l, fun i t x h1 h2 => s _ _ (c i t x h1 h2)⟩
structure Frm (fr : List T3) (last : Nat) : Prop where
  l0 : 1 ≤ fr.length
  l1 : fr.length ≤ 16
  stp : ∀ x ∈ fr, Stp x
  srt : fr.Pairwise (fun x y => lt3 x y = true)
  ring : ∀ k : Nat, k ≤ last → ∃ x ∈ fr, x.1 = (k : Int) ∧ x.2.2 = (if k < last then (k : Int) + 1 else 0)
  lo : ∀ x ∈ fr, x.1 ≤ last ∧ x.2.2 ≤ last
  l5 : last ≤ 5
/-- what is closed under the steps, from b on, holds all standings -/
theorem Frm.all {fr : List T3} {last : Nat} (F : Frm fr last) {S : Int → Prop} {b : Nat} (hb : b ≤ last) (c0 : ∀ x ∈ fr, x.1 = (b : Int) → S x.2.2) (c : ∀ x ∈ fr, S x.1 → S x.2.2) : ∀ k : Nat, k ≤ last → S k := by
  have up : ∀ j : Nat, b + j ≤ last → j = 0 ∨ S ((b + j : Nat) : Int) := by
    intro j
    induction j with
    | zero => exact fun _ => .inl rfl
    | succ j ih =>
      intro h
      obtain ⟨x, hx, e1, e2⟩ := F.ring (b + j) (by omega)
      rw [if_pos (by omega)] at e2
      have e3 : (((b + (j + 1) : Nat)) : Int) = ((b + j : Nat) : Int) + 1 := by omega
      rw [e3, ← e2]
      refine .inr ?_
      rcases ih (by omega) with z | z
      · subst z
        exact c0 x hx (by simpa using e1)
      · exact c x hx (by rw [e1]; exact z)
  have s0 : S 0 := by
    obtain ⟨x, hx, e1, e2⟩ := F.ring last (Nat.le_refl _)
    rw [if_neg (by omega)] at e2
    rw [← e2]
    obtain ⟨j, rfl⟩ := Nat.le.dest hb
    rcases up j (Nat.le_refl _) with z | z
    · subst z
      exact c0 x hx (by simpa using e1)
    · exact c x hx (by rw [e1]; exact z)
  intro k
  induction k with
  | zero => exact fun _ => s0
  | succ k ih =>
    intro h
    obtain ⟨x, hx, e1, e2⟩ := F.ring k (by omega)
    rw [if_pos (by omega)] at e2
    have e3 : ((k + 1 : Nat) : Int) = (k : Int) + 1 := by omega
    rw [e3, ← e2]
    exact c x hx (by rw [e1]; exact ih (by omega))
theorem sc_it {J : It} {n : Nat} {G : Hp → Prop} {Y : Nat → Hp → V → Hp → Prop} (w : Walk J n G Y) {H0 : Hp} {Qd : Hp → Prop} {body : V → Hp → (Hp → Prop) → Prop} (Pv : Nat → Hp → Prop) (h0 : Pv 0 H0) (hG : ∀ i H, i ≤ n → Pv i H → G H)
    (hs : ∀ i x H H', i < n → Pv i H → Y i H x H' → body x H' (Pv (i + 1))) (hd : ∀ H, Pv n H → Qd H) :
    ∃ W : Nat → Nat → Hp → Prop, (∃ m, W 0 m H0) ∧ ∀ i m H, W i m H → (J.stop i H ∧ Qd H) ∨ (J.go i H ∧ ∃ Nx : Hp → Prop, (∀ H', Nx H' → ∃ m', m' < m ∧ W (i + 1) m' H') ∧ ∀ x H', J.yld i H x H' → body x H' Nx) := by
  refine ⟨fun i m H => m = n - i ∧ i ≤ n ∧ Pv i H, ⟨n, by simp, Nat.zero_le _, h0⟩, ?_⟩
  rintro i m H ⟨rfl, hi, p⟩
  have q := hG i H hi p
  by_cases hlt : i < n
  · exact .inr ⟨w.goes i H hlt q, Pv (i + 1), fun H' p' => ⟨n - (i + 1), by omega, rfl, hlt, p'⟩, fun x H' y => hs i x H H' hlt p (w.yields i H x H' hlt q y)⟩
  · have e : i = n := by omega
    subst e
    exact .inl ⟨w.stops H q, hd H p⟩
theorem at_step {H : Hp} {ts : List Addr} {fr : List T3} {i : Nat} {x : V} (hl : ts.length = fr.length) (ht : ∀ (i : Nat) t x, ts[i]? = some t → fr[i]? = some x → S3 H t x) (hx : (ts.map V.ref)[i]? = some x) :
    ∃ t y, fr[i]? = some y ∧ x = .ref t ∧ S3 H t y := by
  rw [List.getElem?_map] at hx
  cases e : ts[i]? with
  | none =>
    rw [e] at hx
    cases hx
  | some t =>
    rw [e] at hx
    have il : i < fr.length := by
      have := (List.getElem?_eq_some_iff.mp e).1
      omega
    exact ⟨t, fr[i], List.getElem?_eq_getElem il, (Option.some.inj hx).symm, ht i t _ e (List.getElem?_eq_getElem il)⟩
/-- listed_standings(framing): a new list of numbers up to last -/
def spListed : Sp := fun vs H Q _ => ∃ (f : Addr) (fr : List T3) (last : Nat), vs = [.ref f] ∧ FrA H f fr ∧ Frm fr last ∧
  ∀ (H' : Hp) (p : Addr) (ns : List Int), Same H H' → H p = none → H' p = some (.lst (ns.map V.int)) → ns.length ≤ 32 → (∀ k ∈ ns, 0 ≤ k ∧ k ≤ last) → Q (.ref p) H'
theorem pe_sc2s {X : Cx} {elt tg iter tg1 iter1 : Expr} {ifs ifs1 : List Expr} {scope : Scope} {own : List (Str × Nat)} {vs1 : List Nat} {pos : Pos} {wi wi1 : TI} {g g1 : TG} {tt tt1 : TT} {te : TE} (hc : X.calm = true) (hN : X.N.Nodup) (hi : PI X tg iter wi) (ok : BlkOk X.N X.env.scope scope own) (hv : ∀ i ∈ vs1, i ∈ own.map (·.2))
    (b1 : ∀ (s : Shared) (H : Hp) (C : Addr) (cl : List (Str × Addr)) (fp : List Addr), PG (X.blk s H scope (compEnvC scope cl C X.env) fp) tg g)
    (b2 : ∀ (s : Shared) (H : Hp) (C : Addr) (cl : List (Str × Addr)) (fp : List Addr), PTs (X.blk s H scope (compEnvC scope cl C X.env) fp) ifs tt)
    (b3 : ∀ (s : Shared) (H : Hp) (C : Addr) (cl : List (Str × Addr)) (fp : List Addr), PI (X.blk s H scope (compEnvC scope cl C X.env) fp) tg1 iter1 wi1)
    (b4 : ∀ (s : Shared) (H : Hp) (C : Addr) (cl : List (Str × Addr)) (fp : List Addr), PG (X.blk s H scope (compEnvC scope cl C X.env) fp) tg1 g1)
    (b5 : ∀ (s : Shared) (H : Hp) (C : Addr) (cl : List (Str × Addr)) (fp : List Addr), PTs (X.blk s H scope (compEnvC scope cl C X.env) fp) ifs1 tt1)
    (b6 : ∀ (s : Shared) (H : Hp) (C : Addr) (cl : List (Str × Addr)) (fp : List Addr), PE (X.blk s H scope (compEnvC scope cl C X.env) fp) elt te)
    (fold : ∀ x, foldedSetIterable iter X.env x = pure x := by intro _; rfl) (fold1 : ∀ env x, foldedSetIterable iter1 env x = pure x := by intro _ _; rfl) :
    PE X (.SetComp elt [⟨tg, iter, ifs, 0⟩, ⟨tg1, iter1, ifs1, 0⟩] scope pos) (tSc2 X.w wi g tt wi1 g1 tt1 te (own.map (·.2)) vs1) :=
  pe_sc2 hc hN hi ok hv (fun s H C cl fp => ⟨b1 s H C cl fp, b2 s H C cl fp, b3 s H C cl fp, b4 s H C cl fp, b5 s H C cl fp, b6 s H C cl fp⟩) fold fold1
theorem same_set {D : Addr} {H H' : Hp} {o : HO} (hD : H D = none) (k : Same H H') : Same H (upd H' D o) := fun b u e => by
  rw [upd_ne (ne_of_none e hD)]
  exact k _ _ e
theorem scan64 : 64 < scanBound := by decide +kernel
section
variable {P : Program} {w : World} {K : PySem.W.Frag} {mg : Str → Option Value} {base : Heap}
theorem scListed : FnScope ["framing", "start", "piece", "goal", "standing"] ["framing"] (defScope sListed) := ⟨rfl, rfl, rfl, by decide +kernel, rfl, by decide +kernel, by decide +kernel⟩
theorem ok_listed {f : Addr} {fd : FuncData} (F : Fun K "listed_standings" "listed_standings" sListed f fd) (hs : mg "sorted" = none) : FnOk P w K mg base CX0 1 f fd ["framing"] spListed := by
  refine F.ok scListed (fun vs H Q E h => ?_) (fun cdv A outer s H vs Q E hr h => ?_)
  · obtain ⟨f, fr, last, rfl, _⟩ := h
    rfl
  · obtain ⟨f, fr, last, rfl, fa, fm, q⟩ := h
    refine ⟨_, pss_one (ps_ret (pe_callB (cr_sortedSet rfl) (by rfl) hs (by decide +kernel) (pa_cons (pe_sc2s (g := gTup K 3 (gCons (gName 1) (gCons (gName 2) (gCons (gName 3) gNil)))) (tt := tYes) (wi1 := iTup K (tTup (tCons (tVar 1) (tCons (tVar 3) tNil)))) (g1 := gName 4) (tt1 := tYes) (te := tVar 4) (own := [("start", 1), ("piece", 2), ("goal", 3), ("standing", 4)]) (vs1 := [4]) rfl scListed.nd (pi_tup (pv 0))
      (blkOk_by (N := ["framing", "start", "piece", "goal", "standing"]) (sc := defScope sListed) (by decide +kernel)) (by decide)
      (fun _ _ _ _ _ => pg_tup rfl (pgs_cons (pg_name (i := 1) scListed.nd rfl (Or.inl rfl)) (pgs_cons (pg_name (i := 2) scListed.nd rfl (Or.inl rfl)) (pgs_cons (pg_name (i := 3) scListed.nd rfl (Or.inl rfl)) pgs_nil)))) (fun _ _ _ _ _ => pts_nil)
      (fun _ _ _ _ _ => pi_tup (pe_tup (pa_cons (pv 1) (pa_cons (pv 3) pa_nil)))) (fun _ _ _ _ _ => pg_name (i := 4) scListed.nd rfl (Or.inl rfl)) (fun _ _ _ _ _ => pts_nil) (fun _ _ _ _ _ => pv 4)) pa_nil))), ?_⟩
    obtain ⟨ts, hf, hl, ht⟩ := id fa
    refine ⟨_, rfl, f, rfl, ⟨_, SqT.of hf⟩, fun D hD => ?_⟩
    refine sc_it (walk_tup (xs := ts.map V.ref)) (fun i H' => Same H H' ∧ ∃ (S : Int → Bool) (n : Nat), H' D = some (SetO w D S n) ∧ n ≤ 2 * i ∧ ∀ k, S k = true → 0 ≤ k ∧ k ≤ last)
      ⟨same_upd hD, _, _, upd_same, Nat.le_refl _, fun k z => by cases z⟩ (fun i H' _ z => SqT.of (z.1 _ _ hf)) ?_ ?_
    · rintro i x H1 H2 hi ⟨sm, S, n, hS, hn, hk⟩ ⟨rfl, hx⟩
      obtain ⟨t, y, hy, rfl, e3⟩ := at_step (i := i) hl ht hx
      have e4 : H2 t = _ := sm _ _ e3
      obtain ⟨b1, b2, _, b3, b4⟩ := fm.stp y (List.mem_of_getElem? hy)
      obtain ⟨b5, b6⟩ := fm.lo y (List.mem_of_getElem? hy)
      refine ⟨t, _, rfl, SqT.of e4, rfl, _, _, rfl, _, _, rfl, _, _, rfl, rfl, rfl, ?_⟩
      refine ⟨_, rfl, _, rfl, (by show 2 ≤ sizeLine; decide), fun p hp => ⟨p, rfl, ⟨_, SqT.of upd_same⟩, ?_⟩⟩
      refine sc_it (walk_tup (xs := [V.int y.1, V.int y.2.2])) (fun j H' => Same H H' ∧ H' p = some (.tup [V.int y.1, V.int y.2.2]) ∧ ∃ (S : Int → Bool) (n : Nat), H' D = some (SetO w D S n) ∧ n ≤ 2 * i + j ∧ ∀ k, S k = true → 0 ≤ k ∧ k ≤ last)
        ⟨fun b u e => same_upd hp _ _ (sm _ _ e), upd_same, S, n, by rw [upd_ne (ne_of_none hS hp)]; exact hS, hn, hk⟩ (fun j H' _ z => SqT.of z.2.1) ?_ ?_
      · rintro j x H2 H3 hj ⟨sm2, hp2, S2, n2, hS2, hn2, hk2⟩ ⟨rfl, hx2⟩
        have hj2 : j < 2 := hj
        obtain ⟨k, rfl, k0, k1⟩ : ∃ k : Int, x = .int k ∧ 0 ≤ k ∧ k ≤ last := by
          match j, hj2 with
          | 0, _ => exact ⟨y.1, (Option.some.inj hx2).symm, b1, b5⟩
          | 1, _ => exact ⟨y.2.2, (Option.some.inj hx2).symm, b3, b6⟩
        have sc := scan64
        have l1 := fm.l1
        have hi2 : i < fr.length := (List.getElem?_eq_some_iff.mp hy).1
        refine ⟨rfl, _, rfl, k, S2, n2, rfl, hS2, by omega, same_set hD sm2, ?_, _, _, upd_same, ?_, fun k2 z => ?_⟩
        · rw [upd_ne (ne_of hp2 hS2 (fun z => by cases z))]
          exact hp2
        · split <;> omega
        · rw [Bool.or_eq_true] at z
          rcases z with z | z
          · exact hk2 k2 z
          · have e5 : k2 = k := of_decide_eq_true z
            rw [e5]
            exact ⟨k0, k1⟩
      · rintro H2 ⟨sm2, hp2, S2, n2, hS2, hn2, hk2⟩
        refine ⟨sm2, S2, n2, hS2, ?_, hk2⟩
        have hn3 : n2 ≤ 2 * i + 2 := hn2
        omega
    · rintro H1 ⟨sm, S, n, hS, hn, hk⟩
      refine ⟨D, S, n, rfl, hS, ?_, fun ns p _ h2 h3 h4 => ?_⟩
      · have := fm.l1
        simp only [List.length_map] at hn
        omega
      · refine q _ p ns ?_ ?_ upd_same ?_ ?_
        · exact fun b u e => by
            rw [upd_ne (ne_of_none (sm _ _ e) h4)]
            exact sm _ _ e
        · exact sm.free h4
        · have := fm.l1
          simp only [List.length_map] at hn
          omega
        · exact fun k z => hk k ((h2 k).mp z)
end
end K31
/-! ways_from: all standings are found. -/
namespace K31
open PySem L2 L2.EV
abbrev sWays : Stmt := top 12
abbrev has (kvs : List (Key × V)) (g : Int) : Bool := (valV kvs (Sum.inl g : Key)).isSome
/-- ways_from(framing, b): a new dict that has all standings -/
def spWays : Sp := fun vs H Q _ => ∃ (f : Addr) (fr : List T3) (last b : Nat), vs = [.ref f, .int b] ∧ FrA H f fr ∧ Frm fr last ∧ b ≤ last ∧
  ∀ (H' : Hp) (d : Addr) (kvs : List (Key × V)), Same H H' → H d = none → H' d = some (.dK kvs) → (∀ k : Nat, k ≤ last → has kvs k = true) → Q (.ref d) H'
/-- the standings up to last that are not found -/
def miss (last : Nat) (kvs : List (Key × V)) : Nat := ((List.range (last + 1)).filter fun k : Nat => !has kvs k).length
theorem miss_le {last : Nat} {kvs : List (Key × V)} : miss last kvs ≤ last + 1 := by
  have := List.length_filter_le (fun k : Nat => !has kvs k) (List.range (last + 1))
  rw [List.length_range] at this
  exact this
theorem filt_lt {α : Type} {p q : α → Bool} : ∀ {l : List α} {a : α}, a ∈ l → p a = true → q a = false → (∀ x, q x = true → p x = true) → (l.filter q).length < (l.filter p).length
  | x :: l, a, hm, hp, hq, h => by
    have le : ∀ m : List α, (m.filter q).length ≤ (m.filter p).length := fun m => by
      induction m with
      | nil => exact Nat.le_refl _
      | cons y m ih =>
        rw [List.filter_cons, List.filter_cons]
        by_cases z : q y = true
        · rw [if_pos z, if_pos (h y z), List.length_cons, List.length_cons]
          omega
        · rw [if_neg z]
          split
          · rw [List.length_cons]
            omega
          · exact ih
    rw [List.filter_cons, List.filter_cons]
    rcases List.mem_cons.mp hm with z | z
    · subst z
      rw [if_pos hp, if_neg (by rw [hq]; simp), List.length_cons]
      have := le l
      omega
    · have ih := filt_lt z hp hq h
      by_cases y : q x = true
      · rw [if_pos y, if_pos (h x y), List.length_cons, List.length_cons]
        omega
      · rw [if_neg y]
        split
        · rw [List.length_cons]
          omega
        · exact ih
theorem has_put {kvs : List (Key × V)} {g k : Int} {v : V} : has (putK kvs (Sum.inl g) v) k = (decide (k = g) || has kvs k) := by
  unfold has
  rw [valV_put]
  by_cases e : k = g
  · subst e
    rw [if_pos rfl, decide_eq_true rfl]
    rfl
  · rw [if_neg (fun z => e (Sum.inl.inj z)), decide_eq_false e, Bool.false_or]
theorem miss_put {last : Nat} {kvs : List (Key × V)} {g : Int} {v : V} (h0 : 0 ≤ g) (h1 : g ≤ last) (n : has kvs g = false) : miss last (putK kvs (Sum.inl g) v) < miss last kvs := by
  obtain ⟨a, rfl⟩ := Int.eq_ofNat_of_zero_le h0
  refine filt_lt (a := a) (List.mem_range.mpr (by omega)) (by simp only [n, Bool.not_false]) ?_ ?_
  · rw [has_put, decide_eq_true rfl]
    rfl
  · intro x hx
    rw [has_put] at hx
    cases z : has kvs x with
    | false => rfl
    | true =>
      rw [z] at hx
      simp at hx
/-- the rows: tuples of a way and a standing -/
def Rows (H : Hp) (last n : Nat) (ps : List (Addr × Int)) : Prop := ∀ q ∈ ps, 0 ≤ q.2 ∧ q.2 ≤ last ∧ ∃ (wy : Addr) (xs : List V), H q.1 = some (.tup [.ref wy, .int q.2]) ∧ H wy = some (.tup xs) ∧ xs.length ≤ n
def KeepT (H H' : Hp) : Prop := ∀ a xs, H a = some (.tup xs) → H' a = some (.tup xs)
theorem Rows.keep {H H' : Hp} {last n m : Nat} {ps : List (Addr × Int)} (h : Rows H last n ps) (k : KeepT H H') (l : n ≤ m) : Rows H' last m ps := fun q hq => by
  obtain ⟨h0, h1, wy, xs, e1, e2, e3⟩ := h q hq
  exact ⟨h0, h1, wy, xs, k _ _ e1, k _ _ e2, Nat.le_trans e3 l⟩
theorem Same.keepT {H H' : Hp} (s : Same H H') : KeepT H H' := fun a xs e => s _ _ e
theorem KeepT.trans {H H' H2 : Hp} (a : KeepT H H') (b : KeepT H' H2) : KeepT H H2 := fun x xs e => b _ _ (a _ _ e)
theorem keepT_upd {H : Hp} {d : Addr} {o : HO} {o' : HO} (e : H d = some o') (n : ∀ xs, o' ≠ .tup xs) : KeepT H (upd H d o) := fun a xs h => by
  by_cases z : a = d
  · subst z
    rw [e] at h
    exact absurd (Option.some.inj h) (n xs)
  · rw [upd_ne z]
    exact h
/-- t + u, u not empty: the result is somewhere, all else stays -/
def rCatS (K : PySem.W.Frag) : R2 := fun x y H Q => ∃ a b xs ys, x = .ref a ∧ y = .ref b ∧ SqT K H a xs ∧ H b = some (.tup ys) ∧ ys ≠ [] ∧ xs.length + ys.length ≤ sizeLine ∧ ∀ p H', Same H H' → H' p = some (.tup (xs ++ ys)) → Q (.ref p) H'
theorem op_catS {X : Cx} : OpR X (binaryOp .Add) (rCatS X.K) := by
  intro pins s σ H x y v u Q I rx ry h
  obtain ⟨a, b, xs, ys, rfl, rfl, ha, hb, hn, hz, q⟩ := h
  refine op_catA pins s σ H _ _ v u Q I rx ry ⟨a, b, xs, ys, rfl, rfl, ha, SqT.of hb, hz, fun z => ?_, fun _ z => absurd z hn, fun _ _ p hp => q p _ (same_upd hp) upd_same⟩
  subst z
  exact q b H (fun _ _ e => e) (by rw [hb]; rfl)
structure Co (H0 H : Hp) (d r u : Addr) (last m0 : Nat) (ps qs : List (Addr × Int)) (kvs : List (Key × V)) : Prop where
  sm : Same H0 H
  hd : H d = some (.dK kvs)
  hr : H r = some (.lst (ps.map fun q => V.ref q.1))
  hu : H u = some (.lst (qs.map fun q => V.ref q.1))
  rp : Rows H last kvs.length ps
  rq : Rows H last kvs.length qs
  cnt : kvs.length + miss last kvs ≤ last + 1
  me : (qs = [] ∧ miss last kvs ≤ m0) ∨ miss last kvs < m0
  ql : qs.length ≤ kvs.length
theorem Co.same {H0 H H' : Hp} {d r u : Addr} {last m0 : Nat} {ps qs : List (Addr × Int)} {kvs : List (Key × V)} (C : Co H0 H d r u last m0 ps qs kvs) (s : Same H H') : Co H0 H' d r u last m0 ps qs kvs :=
  ⟨C.sm.trans s, s _ _ C.hd, s _ _ C.hr, s _ _ C.hu, C.rp.keep (Same.keepT s) (Nat.le_refl _), C.rq.keep (Same.keepT s) (Nat.le_refl _), C.cnt, C.me, C.ql⟩
/-- what is reached from a standing that stands in the rows, or is found -/
def Clo (fr : List T3) (b : Nat) (kvs : List (Key × V)) (open_ : Int → T3 → Prop) : Prop := ∀ x ∈ fr, (x.1 = (b : Int) ∨ has kvs x.1 = true) → open_ x.1 x ∨ has kvs x.2.2 = true
section
variable {P : Program} {w : World} {K : PySem.W.Frag} {mg : Str → Option Value} {base : Heap}
theorem scWays : FnScope ["framing", "begin", "found", "rows", "further", "way", "standing", "number", "start", "piece", "goal"] ["framing", "begin"] (defScope sWays) := ⟨rfl, rfl, rfl, by decide +kernel, rfl, by decide +kernel, by decide +kernel⟩
theorem ok_ways {f : Addr} {fd : FuncData} (F : Fun K "ways_from" "ways_from" sWays f fd) (he : mg "enumerate" = none) : FnOk P w K mg base CX0 1 f fd ["framing", "begin"] spWays := by
  refine F.ok scWays (fun vs H Q E h => ?_) (fun cdv A outer s H vs Q E hr h => ?_)
  · obtain ⟨f, fr, last, b, rfl, _⟩ := h
    rfl
  · obtain ⟨f, fr, last, b, rfl, fa, fm, hb, q⟩ := h
    have hu := hu_of hr
    refine ⟨_, pss_cons (ps_set (i := 2) scWays.nd rfl (Or.inl rfl) pe_dnewK)
      (pss_cons (ps_set (i := 3) scWays.nd rfl (Or.inl rfl) (pe_lst (pa_cons (pe_tup (pa_cons (pe_tup pa_nil) (pa_cons (pv 1) pa_nil))) pa_nil)))
      (pss_cons (ps_while PassesOwn.never (pt_truth (pv 3) (fun _ => rfl))
        (pss_cons (ps_set (i := 4) scWays.nd rfl (Or.inl rfl) (pe_lst pa_nil))
        (pss_cons (ps_for PassesOwn.never rfl (pi_list (pv 3)) (pg_tup rfl (pgs_cons (pg_name (i := 5) scWays.nd rfl (Or.inl rfl)) (pgs_cons (pg_name (i := 6) scWays.nd rfl (Or.inl rfl)) pgs_nil)))
          (pss_one (ps_for PassesOwn.never rfl (pi_enumT (by rfl) he (pa_cons (pv 0) pa_nil)) (pg_tup rfl (pgs_cons (pg_name (i := 7) scWays.nd rfl (Or.inl rfl)) (pgs_cons (pg_tup rfl (pgs_cons (pg_name (i := 8) scWays.nd rfl (Or.inl rfl)) (pgs_cons (pg_name (i := 9) scWays.nd rfl (Or.inl rfl)) (pgs_cons (pg_name (i := 10) scWays.nd rfl (Or.inl rfl)) pgs_nil)))) pgs_nil)))
            (pss_one (ps_if (pw_and (pt_cmpR op_eq (pv 8) (pv 6) (nomark _)) (pw_and1 (pt_cmp (pc_dnotin hu (pv 10) (pv 2)) (by rfl)))).pt
              (pss_cons (ps_dput hu (pv 2) (pv 10) (pe_op op_catS (pv 5) (pe_tup (pa_cons (pv 7) pa_nil))) rfl)
                (pss_one (ps_expr (pe_bm PySem.F.plainAttrs_list PySem.F.slot_list_append PySem.F.type_list_append mt_append (pv 4) (pa_cons (pe_tup (pa_cons (pe_dget hu (pv 2) (pv 10) (fun _ _ => rfl)) (pa_cons (pv 10) pa_nil))) pa_nil)))))
              pss_nil)))))
        (pss_one (ps_set (i := 3) scWays.nd rfl (Or.inl rfl) (pv 4))))))
      (pss_one (ps_ret (pv 2))))), ?_⟩
    intro d hd0
    have sd := same_upd (o := HO.dK []) hd0
    refine ⟨by decide, fun e0 he0 => ⟨_, rfl, (by show 2 ≤ sizeLine; decide), fun p0 hp0 => ⟨(by show 1 ≤ sizeLine; decide), fun r hr0 => ?_⟩⟩⟩
    have s1 := same_upd (o := HO.tup []) he0
    have s2 := same_upd (o := HO.tup [V.ref e0, V.int (b : Int)]) hp0
    have s3 := same_upd (o := HO.lst [V.ref p0]) hr0
    refine ⟨fun j σ H' => ∃ (r : Addr) (kvs : List (Key × V)) (ps : List (Addr × Int)) (v4 v5 v6 v7 v8 v9 v10 : Option V), σ = [some (.ref f), some (.int b), some (.ref d), some (.ref r), v4, v5, v6, v7, v8, v9, v10] ∧
      Same H H' ∧ H' d = some (.dK kvs) ∧ H' r = some (.lst (ps.map fun q => V.ref q.1)) ∧ Rows H' last kvs.length ps ∧ kvs.length + miss last kvs ≤ last + 1 ∧ Clo fr b kvs (fun g _ => ∃ q ∈ ps, q.2 = g) ∧ j = 2 * miss last kvs + (if ps = [] then 0 else 1), ⟨_, r, [], [(p0, (b : Int))], none, none, none, none, none, none, none, rfl, ?_, ?_, ?_, ?_, ?_, ?_, rfl⟩, ?_⟩
    · exact sd.trans (s1.trans (s2.trans s3))
    · exact s3 _ _ (s2 _ _ (s1 _ _ upd_same))
    · exact upd_same
    · intro q hq
      have e : q = (p0, (b : Int)) := by simpa using hq
      subst e
      refine ⟨by show (0 : Int) ≤ (b : Int); omega, by show (b : Int) ≤ last; omega, e0, [], s3 _ _ upd_same, s3 _ _ (s2 _ _ upd_same), Nat.le_refl _⟩
    · have := miss_le (last := last) (kvs := [])
      simp only [List.length_nil]
      omega
    · intro x hx h
      rcases h with h | h
      · exact .inl ⟨_, List.mem_singleton.mpr rfl, h.symm⟩
      · cases h
    · rintro j σ H1 ⟨r, kvs, ps, v4, v5, v6, v7, v8, v9, v10, rfl, sm, hd, hr, rp, cnt, clo, rfl⟩
      refine ⟨_, rfl, _, .inl ⟨_, SqL.of hr, rfl⟩, ?_⟩
      by_cases hps : ps = []
      · subst hps
        refine iteF' rfl ?_
        refine ⟨_, rfl, q H1 d kvs sm hd0 hd fun k hk => ?_⟩
        have c2 : ∀ x ∈ fr, (x.1 = (b : Int) ∨ has kvs x.1 = true) → has kvs x.2.2 = true := fun x hx h => by
          rcases clo x hx h with ⟨_, z, _⟩ | z
          · cases z
          · exact z
        exact fm.all (S := fun g => has kvs g = true) hb (fun x hx e => c2 x hx (.inl e)) (fun x hx e => c2 x hx (.inr e)) k hk
      · refine iteT' (by cases ps; exact absurd rfl hps; rfl) ?_
        refine ⟨_, fun _ _ z => z, ?_⟩
        refine ⟨by decide, fun u hu0 => ?_⟩
        have su := same_upd (o := HO.lst []) hu0
        have hur : u ≠ r := (ne_of_none hr hu0).symm
        have hu00 : H u = none := sm.free hu0
        refine ⟨_, rfl, r, rfl, ⟨_, SqL.of (su _ _ hr)⟩, for_it (walk_list (xs := ps.map fun q => V.ref q.1)) (fun i σ H' => ∃ (kvs2 : List (Key × V)) (qs : List (Addr × Int)) (v5 v6 v7 v8 v9 v10 : Option V), σ = [some (.ref f), some (.int b), some (.ref d), some (.ref r), some (.ref u), v5, v6, v7, v8, v9, v10] ∧
          Co H H' d r u last (miss last kvs) ps qs kvs2 ∧ Clo fr b kvs2 (fun g _ => (∃ q ∈ ps.drop i, q.2 = g) ∨ ∃ q ∈ qs, q.2 = g))
          ⟨kvs, [], v5, v6, v7, v8, v9, v10, rfl, ⟨sm.trans su, su _ _ hd, su _ _ hr, upd_same, rp.keep (Same.keepT su) (Nat.le_refl _), (fun q hq => by cases hq), cnt, .inl ⟨rfl, Nat.le_refl _⟩, Nat.zero_le _⟩, fun x hx h => (clo x hx h).imp (fun z => .inl z) id⟩
          (fun i σ H' _ ⟨_, _, _, _, _, _, _, _, _, C, _⟩ => SqL.of C.hr) ?_ ?_⟩
        · rintro i v σ H2 H3 hi ⟨kvs2, qs, v5, v6, v7, v8, v9, v10, rfl, C, cl⟩ ⟨rfl, hv⟩
          obtain ⟨q1, hq1, rfl⟩ : ∃ q1, ps[i]? = some q1 ∧ v = V.ref q1.1 := by
            rw [List.getElem?_map] at hv
            cases e : ps[i]? with
            | none =>
              rw [e] at hv
              cases hv
            | some q1 =>
              rw [e] at hv
              exact ⟨q1, rfl, (Option.some.inj hv).symm⟩
          obtain ⟨g0, g1, wy, xs, e1, e2, e3⟩ := C.rp q1 (List.mem_of_getElem? hq1)
          have dq : ps.drop i = q1 :: ps.drop (i + 1) := by
            have il := (List.getElem?_eq_some_iff.mp hq1).1
            rw [List.drop_eq_getElem_cons il]
            have := (List.getElem?_eq_some_iff.mp hq1).2
            rw [this]
          obtain ⟨ts, hf, hl, ht⟩ := id fa
          refine ⟨_, _, rfl, SqT.of e1, rfl, _, _, rfl, _, _, rfl, rfl, ?_⟩
          refine ⟨_, rfl, f, _, rfl, SqT.of (C.sm _ _ hf), for_it (walk_enumT (xs := ts.map V.ref)) (fun k σ H' => ∃ (kvs3 : List (Key × V)) (qs3 : List (Addr × Int)) (v7 v8 v9 v10 : Option V), σ = [some (.ref f), some (.int b), some (.ref d), some (.ref r), some (.ref u), some (.ref wy), some (.int q1.2), v7, v8, v9, v10] ∧
            Co H H' d r u last (miss last kvs) ps qs3 kvs3 ∧ H' wy = some (.tup xs) ∧ xs.length ≤ kvs3.length ∧ Clo fr b kvs3 (fun g x => ((∃ q ∈ ps.drop (i + 1), q.2 = g) ∨ ∃ q ∈ qs3, q.2 = g) ∨ (g = q1.2 ∧ x ∈ fr.drop k)))
            ⟨kvs2, qs, v7, v8, v9, v10, rfl, C, e2, e3, fun x hx h => ?_⟩
            (fun k σ H' _ ⟨_, _, _, _, _, _, _, C', _⟩ => SqT.of (C'.sm _ _ hf)) ?_ ?_⟩
          · rcases cl x hx h with (⟨q, z, e⟩ | z) | z
            · rw [dq] at z
              rcases List.mem_cons.mp z with z | z
              · subst z
                exact .inl (.inr ⟨e.symm, by simpa using hx⟩)
              · exact .inl (.inl (.inl ⟨q, z, e⟩))
            · exact .inl (.inl (.inr z))
            · exact .inr z
          · rintro k x σ H3 H4 hk ⟨kvs3, qs3, v7, v8, v9, v10, rfl, C3, w3, wl, cl3⟩ ⟨T, xi, xo, rfl, nT, rfl, h1, h2⟩
            cases h1
            obtain ⟨t, y, hy, rfl, e4⟩ := at_step (i := k) hl ht h2
            have uT := same_upd (o := HO.tup [V.int (k : Nat), V.ref t]) nT
            have C4 := C3.same uT
            have t4 := uT _ _ (C3.sm _ _ e4)
            have w4 := uT _ _ w3
            have hym : y ∈ fr := List.mem_of_getElem? hy
            obtain ⟨b1, b2, _, b3, b4⟩ := fm.stp y hym
            obtain ⟨b5, b6⟩ := fm.lo y hym
            have dk : fr.drop k = y :: fr.drop (k + 1) := by
              have il := (List.getElem?_eq_some_iff.mp hy).1
              rw [List.drop_eq_getElem_cons il]
              have := (List.getElem?_eq_some_iff.mp hy).2
              rw [this]
            -- the step is done with
            have go : ∀ (kvs4 : List (Key × V)) (qs4 : List (Addr × Int)), (∀ g : Int, has kvs4 g = true → has kvs3 g = true ∨ ∃ q ∈ qs4, q.2 = g) → (∀ g : Int, has kvs3 g = true → has kvs4 g = true) → (∀ q ∈ qs3, q ∈ qs4) → (y.1 = q1.2 → has kvs4 y.2.2 = true) →
                Clo fr b kvs4 (fun g x => ((∃ q ∈ ps.drop (i + 1), q.2 = g) ∨ ∃ q ∈ qs4, q.2 = g) ∨ (g = q1.2 ∧ x ∈ fr.drop (k + 1))) := fun kvs4 qs4 n1 n2 n3 n4 x hx h => by
              have old : x.1 = (b : Int) ∨ has kvs3 x.1 = true → ((((∃ q ∈ ps.drop (i + 1), q.2 = x.1) ∨ ∃ q ∈ qs4, q.2 = x.1) ∨ (x.1 = q1.2 ∧ x ∈ fr.drop (k + 1))) ∨ has kvs4 x.2.2 = true) := fun h => by
                rcases cl3 x hx h with ((z | ⟨q, z, e⟩) | ⟨z1, z2⟩) | z
                · exact .inl (.inl (.inl z))
                · exact .inl (.inl (.inr ⟨q, n3 q z, e⟩))
                · rw [dk] at z2
                  rcases List.mem_cons.mp z2 with z2 | z2
                  · subst z2
                    exact .inr (n4 z1)
                  · exact .inl (.inr ⟨z1, z2⟩)
                · exact .inr (n2 _ z)
              rcases h with h | h
              · exact old (.inl h)
              · rcases n1 _ h with z | z
                · exact old (.inr z)
                · exact .inl (.inl (.inr z))
            refine ⟨T, _, rfl, SqT.of upd_same, rfl, _, _, rfl, _, _, rfl, ⟨t, _, rfl, SqT.of t4, rfl, _, _, rfl, _, _, rfl, _, _, rfl, rfl, rfl, ?_⟩⟩
            refine ⟨_, rfl, _, rfl, rfl, _, rfl, ?_⟩
            refine ite2 (fun z => ?_) (fun z => ?_)
            · have z1 : y.1 = q1.2 := V.int.inj (of_decide_eq_true z)
              refine ⟨_, rfl, _, rfl, d, _, rfl, DGet.k (k := Sum.inl y.2.2) C4.hd, _, rfl, ?_⟩
              refine ite2 (fun y1 => ?_) (fun y1 => ?_)
              · have no : has kvs3 y.2.2 = false := by
                  cases e : has kvs3 y.2.2 with
                  | false => rfl
                  | true =>
                    have e' : (valV kvs3 (Sum.inl y.2.2 : Key)).isSome = true := e
                    rw [e'] at y1
                    cases y1
                have mp := miss_put (v := V.non) b3 b6 no
                have l5 := fm.l5
                have c3 := C3.cnt
                refine ⟨_, rfl, ⟨_, rfl, (by show 1 ≤ sizeLine; decide), fun p hp => ⟨wy, p, xs, [V.int (k : Nat)], rfl, rfl, SqT.of (same_upd hp _ _ w4), upd_same, (fun z => by cases z), ?_, fun nw H5 s5 n5 => ?_⟩⟩⟩
                · rw [sizeLine_eq]
                  simp only [List.length_cons, List.length_nil]
                  omega
                have C5 := (C4.same (same_upd (o := HO.tup [V.int (k : Nat)]) hp)).same s5
                have hdu : d ≠ u := ne_of C5.hd C5.hu (fun z => by cases z)
                have hdr : d ≠ r := ne_of C5.hd C5.hr (fun z => by cases z)
                refine ⟨_, rfl, _, rfl, d, _, rfl, DPut.k (k := Sum.inl y.2.2) C5.hd (by rw [sizeLine_eq]; omega), ?_⟩
                have hn : valV kvs3 (Sum.inl y.2.2 : Key) = none := by
                  cases e : valV kvs3 (Sum.inl y.2.2 : Key) with
                  | none => rfl
                  | some v =>
                    have e' : has kvs3 y.2.2 = true := by
                      show (valV kvs3 (Sum.inl y.2.2 : Key)).isSome = true
                      rw [e]
                      rfl
                    rw [e'] at no
                    cases no
                generalize hH6 : upd H5 d (.dK (putK kvs3 (Sum.inl y.2.2) (.ref nw))) = H6
                have k6 : KeepT H5 H6 := by
                  rw [← hH6]
                  exact keepT_upd C5.hd (fun xs z => by cases z)
                have d6 : H6 d = some (.dK (putK kvs3 (Sum.inl y.2.2) (.ref nw))) := by
                  rw [← hH6]
                  exact upd_same
                have u6 : H6 u = some (.lst (qs3.map fun q => V.ref q.1)) := by
                  rw [← hH6, upd_ne hdu.symm]
                  exact C5.hu
                have r6 : H6 r = some (.lst (ps.map fun q => V.ref q.1)) := by
                  rw [← hH6, upd_ne hdr.symm]
                  exact C5.hr
                have m6 : Same H H6 := by
                  rw [← hH6]
                  exact same_set hd0 C5.sm
                have g6 : valV (putK kvs3 (Sum.inl y.2.2) (V.ref nw)) (Sum.inl y.2.2 : Key) = some (.ref nw) := by
                  rw [valV_put, if_pos rfl]
                have n6 := k6 _ _ n5
                have ml := miss_le (last := last) (kvs := kvs3)
                have mp2 := miss_put (v := V.ref nw) b3 b6 no
                have pe : (putK kvs3 (Sum.inl y.2.2 : Key) (V.ref nw)).length = kvs3.length + 1 := by
                  rw [putK_new _ hn, List.length_append]
                  rfl
                have ql := C3.ql
                refine ⟨_, rfl, ?_, _, rfl, _, rfl, ⟨d, _, rfl, by rw [← g6]; exact DGet.k (k := Sum.inl y.2.2) d6, _, rfl, (by show 2 ≤ sizeLine; decide), fun p7 hp7 => ⟨u, qs3.map (fun q => V.ref q.1), _, rfl, rfl, same_upd hp7 _ _ u6, by rw [sizeLine_eq, List.length_map]; omega, ?_⟩⟩⟩
                · exact .inl ⟨rfl, _, SqL.of u6⟩
                have k7 := Same.keepT (same_upd (o := HO.tup [V.ref nw, V.int y.2.2]) hp7)
                have hd7 := same_upd (o := HO.tup [V.ref nw, V.int y.2.2]) hp7 _ _ d6
                have hu7 := same_upd (o := HO.tup [V.ref nw, V.int y.2.2]) hp7 _ _ u6
                have hr7 := same_upd (o := HO.tup [V.ref nw, V.int y.2.2]) hp7 _ _ r6
                have k8 := keepT_upd (o := .lst (qs3.map (fun q => V.ref q.1) ++ [V.ref p7])) hu7 (fun xs z => by cases z)
                have kk : KeepT H5 _ := (k6.trans k7).trans k8
                refine ⟨putK kvs3 (Sum.inl y.2.2) (.ref nw), qs3 ++ [(p7, y.2.2)], _, _, _, _, rfl, ⟨same_set hu00 (m6.trans (same_upd hp7)), ?_, ?_, ?_, ?_, ?_, by rw [pe]; omega, .inr ?_, by rw [pe, List.length_append]; simp only [List.length_cons, List.length_nil]; omega⟩, ?_, by rw [pe]; omega, ?_⟩
                · rw [upd_ne hdu]
                  exact hd7
                · rw [upd_ne hur.symm]
                  exact hr7
                · rw [List.map_append]
                  exact upd_same
                · exact C5.rp.keep kk (by rw [pe]; omega)
                · intro q hq
                  rcases List.mem_append.mp hq with hq | hq
                  · exact C5.rq.keep kk (by rw [pe]; omega) q hq
                  · have e : q = (p7, y.2.2) := by simpa using hq
                    subst e
                    refine ⟨b3, b6, nw, xs ++ [V.int (k : Nat)], k8 _ _ upd_same, k8 _ _ (k7 _ _ n6), ?_⟩
                    rw [pe, List.length_append]
                    simp only [List.length_cons, List.length_nil]
                    omega
                · rcases C3.me with ⟨_, z⟩ | z <;> omega
                · exact kk _ _ ((same_upd (o := HO.tup [V.int (k : Nat)]) hp |>.trans s5) _ _ w4)
                · refine go _ _ (fun g h => ?_) (fun g h => ?_) (fun q h => List.mem_append_left _ h) (fun _ => ?_)
                  · rw [has_put] at h
                    rcases (Bool.or_eq_true _ _).mp h with h | h
                    · exact .inr ⟨_, List.mem_append_right _ (List.mem_singleton.mpr rfl), (of_decide_eq_true h).symm⟩
                    · exact .inl h
                  · rw [has_put, h, Bool.or_true]
                  · rw [has_put, decide_eq_true rfl]
                    rfl
              · have yes : has kvs3 y.2.2 = true := by
                  cases e : has kvs3 y.2.2 with
                  | true => rfl
                  | false =>
                    have e' : (valV kvs3 (Sum.inl y.2.2 : Key)).isSome = false := e
                    rw [e'] at y1
                    exact absurd rfl y1
                exact ⟨kvs3, qs3, _, _, _, _, rfl, C4, w4, wl, go kvs3 qs3 (fun g h => .inl h) (fun g h => h) (fun q h => h) (fun _ => yes)⟩
            · have z1 : ¬ y.1 = q1.2 := fun e => z (decide_eq_true (congrArg V.int e))
              refine iteF ?_
              exact ⟨kvs3, qs3, _, _, _, _, rfl, C4, w4, wl, go kvs3 qs3 (fun g h => .inl h) (fun g h => h) (fun q h => h) (fun e => absurd e z1)⟩
          · rintro σ H3 ⟨kvs3, qs3, v7, v8, v9, v10, rfl, C3, w3, wl, cl3⟩
            refine ⟨kvs3, qs3, _, _, v7, v8, v9, v10, rfl, C3, fun x hx h => ?_⟩
            rcases cl3 x hx h with (z | ⟨_, z⟩) | z
            · exact .inl z
            · rw [show (ts.map V.ref).length = fr.length by simp [hl], List.drop_length] at z
              cases z
            · exact .inr z
        · rintro σ H2 ⟨kvs2, qs, v5, v6, v7, v8, v9, v10, rfl, C, cl⟩
          refine ⟨_, rfl, _, ?_, u, kvs2, qs, some (.ref u), v5, v6, v7, v8, v9, v10, rfl, C.sm, C.hd, C.hu, C.rq, C.cnt, fun x hx h => ?_, rfl⟩
          · rw [if_neg hps]
            rcases C.me with ⟨z, y⟩ | z
            · rw [if_pos z]
              omega
            · split <;> omega
          · rcases cl x hx h with (z | z) | z
            · rw [List.length_map, List.drop_length] at z
              obtain ⟨_, z, _⟩ := z
              cases z
            · exact .inl z
            · exact .inr z
end
end K31
/-! is_joined, need_framing. -/
namespace K31
open PySem L2 L2.EV
abbrev sJoined : Stmt := top 13
abbrev sNeedF : Stmt := top 14
def spJoined : Sp := fun vs H Q _ => ∃ (f : Addr) (fr : List T3) (last : Nat), vs = [.ref f] ∧ FrA H f fr ∧ Frm fr last ∧ ∀ H', Same H H' → Q (.bl true) H'
def spNeedF : Sp := fun vs H Q _ => ∃ (f : Addr) (fr : List T3) (last : Nat), vs = [.ref f] ∧ FrA H f fr ∧ Frm fr last ∧ ∀ H', Same H H' → Q (.ref f) H'
/-- the defs that need_framing calls -/
structure Fs (K : PySem.W.Frag) (mg : Str → Option Value) where
  fN : Addr
  fP : Addr
  fS : Addr
  fL : Addr
  fW : Addr
  fJ : Addr
  fF : Addr
  dN : FuncData
  dP : FuncData
  dS : FuncData
  dL : FuncData
  dW : FuncData
  dJ : FuncData
  dF : FuncData
  N : Fun K "is_number" "is_number" sNum fN dN
  P : Fun K "is_piece" "is_piece" sPc fP dP
  S : Fun K "is_step" "is_step" sStep fS dS
  L : Fun K "listed_standings" "listed_standings" sListed fL dL
  W : Fun K "ways_from" "ways_from" sWays fW dW
  J : Fun K "is_joined" "is_joined" sJoined fJ dJ
  F : Fun K "need_framing" "need_framing" sNeedF fF dF
  bN : Binds K dN ["thing", "many"] []
  bP : Binds K dP ["thing"] []
  bS : Binds K dS ["thing"] []
  bL : Binds K dL ["framing"] []
  bW : Binds K dW ["framing", "begin"] []
  bJ : Binds K dJ ["framing"] []
  bF : Binds K dF ["thing"] []
  mN : mg "is_number" = some (.ref fN)
  mP : mg "is_piece" = some (.ref fP)
  mS : mg "is_step" = some (.ref fS)
  mL : mg "listed_standings" = some (.ref fL)
  mW : mg "ways_from" = some (.ref fW)
  mJ : mg "is_joined" = some (.ref fJ)
  mF : mg "need_framing" = some (.ref fF)
  T : TxtF mg
  so : mg "sorted" = none
  en : mg "enumerate" = none
  ms : ∃ t, mg "MOST_STEPS" = some (.int 16 t)
section
variable {P : Program} {w : World} {K : PySem.W.Frag} {mg : Str → Option Value} {base : Heap}
theorem scJoined : FnScope ["framing", "reached", "standing"] ["framing"] (defScope sJoined) := ⟨rfl, rfl, rfl, by decide +kernel, rfl, by decide +kernel, by decide +kernel⟩
theorem ok_joined (Z : Fs K mg) : FnOk P w K mg base CX0 2 Z.fJ Z.dJ ["framing"] spJoined := by
  have GL : FnOk P w K mg base CX0 1 Z.fL Z.dL ["framing"] spListed := ok_listed Z.L Z.so
  have GW : FnOk P w K mg base CX0 1 Z.fW Z.dW ["framing", "begin"] spWays := ok_ways Z.W Z.en
  refine Z.J.ok scJoined (fun vs H Q E h => ?_) (fun cdv A outer s H vs Q E hr h => ?_)
  · obtain ⟨f, fr, last, rfl, _⟩ := h
    rfl
  · obtain ⟨f, fr, last, rfl, fa, fm, q⟩ := h
    have hu := hu_of hr
    refine ⟨_, pss_cons (ps_set (i := 1) scJoined.nd rfl (Or.inl rfl) (pe_call GW hr (by rfl) Z.mW Z.W.kp Z.bW .nil pass0 (pa_cons (pv 0) (pa_cons pe_int pa_nil))))
      (pss_cons (ps_for PassesOwn.never rfl (pi_list (pe_call GL hr (by rfl) Z.mL Z.L.kp Z.bL .nil pass0 (pa_cons (pv 0) pa_nil))) (pg_name (i := 2) scJoined.nd rfl (Or.inl rfl))
        (pss_one (ps_if (pw_or (pt_cmp (pc_dnotin hu (pv 2) (pv 1)) (by rfl)) (pw_or1 (pt_cmp (pc_dnotin hu pe_int (pe_call GW hr (by rfl) Z.mW Z.W.kp Z.bW .nil pass0 (pa_cons (pv 0) (pa_cons (pv 2) pa_nil)))) (by rfl)))).pt
          (pss_one (ps_ret pe_bl)) pss_nil)))
      (pss_one (ps_ret pe_bl))), ?_⟩
    refine ⟨_, rfl, f, fr, last, 0, rfl, fa, fm, Nat.zero_le _, fun H1 d kvs s1 n1 e1 h1 => ?_⟩
    refine ⟨_, rfl, f, fr, last, rfl, fa.same s1, fm, fun H2 p ns s2 n2 e2 l2 k2 => ⟨p, rfl, ⟨_, SqL.of e2⟩, for_it (walk_list (xs := ns.map V.int)) (fun i σ H' => ∃ v2 : Option V, σ = [some (.ref f), some (.ref d), v2] ∧ Same H2 H')
      ⟨none, rfl, fun _ _ e => e⟩ (fun i σ H' _ ⟨_, _, z⟩ => SqL.of (z _ _ e2)) ?_ ?_⟩⟩
    · rintro i x σ H3 H4 hi ⟨v2, rfl, s3⟩ ⟨rfl, hx⟩
      obtain ⟨k, hk, rfl⟩ : ∃ k : Int, k ∈ ns ∧ x = .int k := by
        rw [List.getElem?_map] at hx
        cases e : ns[i]? with
        | none =>
          rw [e] at hx
          cases hx
        | some k =>
          rw [e] at hx
          exact ⟨k, List.mem_of_getElem? e, (Option.some.inj hx).symm⟩
      obtain ⟨k0, k1⟩ := k2 k hk
      obtain ⟨b, rfl⟩ := Int.eq_ofNat_of_zero_le k0
      have hb : b ≤ last := by omega
      have hb' : (valV kvs (Sum.inl (b : Int) : Key)).isSome = true := h1 b hb
      refine ⟨_, rfl, _, rfl, d, _, rfl, DGet.k (k := Sum.inl (b : Int)) (s3 _ _ (s2 _ _ e1)), _, rfl, iteF' (by rw [hb']; rfl) ?_⟩
      refine ⟨_, rfl, _, rfl, f, fr, last, b, rfl, (fa.same s1).same (s2.trans s3), fm, hb, fun H5 d5 kvs5 s5 n5 e5 h5 => ?_⟩
      have h0' : (valV kvs5 (Sum.inl (0 : Int) : Key)).isSome = true := h5 0 (Nat.zero_le _)
      refine ⟨d5, _, rfl, DGet.k (k := Sum.inl (0 : Int)) e5, _, rfl, iteF' (by rw [h0']; rfl) ?_⟩
      exact ⟨_, rfl, s3.trans s5⟩
    · rintro σ H3 ⟨v2, rfl, s3⟩
      exact q H3 (s1.trans (s2.trans s3))
theorem scNeedF : FnScope ["thing", "number", "step"] ["thing"] (defScope sNeedF) := ⟨rfl, rfl, rfl, by decide +kernel, rfl, by decide +kernel, by decide +kernel⟩
theorem ok_needF (Z : Fs K mg) : FnOk P w K mg base CX0 3 Z.fF Z.dF ["thing"] spNeedF := by
  have GS : FnOk P w K mg base CX0 2 Z.fS Z.dS ["thing"] spStep := ok_step Z.S Z.T Z.N Z.bN Z.mN Z.P Z.bP Z.mP
  have GJ : FnOk P w K mg base CX0 2 Z.fJ Z.dJ ["framing"] spJoined := ok_joined Z
  refine Z.F.ok scNeedF (fun vs H Q E h => ?_) (fun cdv A outer s H vs Q E hr h => ?_)
  · obtain ⟨f, fr, last, rfl, _⟩ := h
    rfl
  · obtain ⟨f, fr, last, rfl, fa, fm, q⟩ := h
    have hu := hu_of hr
    have hu0 : (A.deeper (PyProof.Rows.envOfC "need_framing" (defScope sNeedF) s.heap.objs.size Z.fF cdv)).units < cLine := by omega
    obtain ⟨tm, eM⟩ := Z.ms
    refine ⟨_, pss_cons (ps_if (pw_or (pt_not (pt_val (pe_callB call_isi (by rfl) Z.T.isi PyProof.Rows.boot_isinstance (pa_cons (pv 0) (pa_cons (pe_bltn (v := .ty "tuple") (by rfl) Z.T.tuple (by decide +kernel) rfl) pa_nil)))))
        (pw_or1 (pt_not (pt_chain op_le op_le pe_int (pe_callB call_len_seq (by rfl) Z.T.len PySem.boot_len (pa_cons (pv 0) pa_nil)) (pe_glob (v := .int 16) (by rfl) eM ⟨_, rfl⟩))))).pt
        (pss_one ps_never) pss_nil)
      (pss_cons (ps_for PassesOwn.never rfl (pi_enumT (by rfl) Z.en (pa_cons (pv 0) pa_nil)) (pg_tup rfl (pgs_cons (pg_name (i := 1) scNeedF.nd rfl (Or.inl rfl)) (pgs_cons (pg_name (i := 2) scNeedF.nd rfl (Or.inl rfl)) pgs_nil)))
        (pss_one (ps_if (pw_or (pt_not (pt_val (pe_call GS hr (by rfl) Z.mS Z.S.kp Z.bS .nil pass0 (pa_cons (pv 2) pa_nil))))
          (pw_or1 (pw_and (pt_cmpR op_gt (pv 1) pe_int (nomark _)) (pw_and1 (pt_cmpR (op_le3 hu0) (pv 2) (pe_ix ix_tup (pv 0) (pe_op op_sub (pv 1) pe_int) (fun _ _ => rfl)) (nomark _)))).pt)).pt
          (pss_one ps_never) pss_nil)))
      (pss_cons (ps_if (pt_not (pt_val (pe_call GJ hr (by rfl) Z.mJ Z.J.kp Z.bJ .nil pass0 (pa_cons (pv 0) pa_nil)))) (pss_one ps_never) pss_nil)
      (pss_one (ps_ret (pv 0))))), ?_⟩
    obtain ⟨ts, hf, hl, ht⟩ := id fa
    have l0 := fm.l0
    have l1 := fm.l1
    refine ⟨_, rfl, .ref f, .ty "tuple", .type "tuple", .type "tuple", true, rfl, .ty "tuple", .base (.tup hf), kit_ty (by decide +kernel), true, rfl, iteF ?_⟩
    refine ⟨_, rfl, f, _, rfl, .inr (SqT.of hf), 1, _, rfl, rfl, _, rfl, iteT' (decide_eq_true (by simp; omega)) ⟨_, 16, rfl, rfl, _, rfl, ?_⟩⟩
    refine iteF' (by rw [decide_eq_true (by simp; omega)]; rfl) ?_
    refine ⟨_, rfl, f, _, rfl, SqT.of hf, for_it (walk_enumT (xs := ts.map V.ref)) (fun i σ H' => ∃ v1 v2 : Option V, σ = [some (.ref f), v1, v2] ∧ Same H H')
      ⟨none, none, rfl, fun _ _ e => e⟩ (fun i σ H' _ ⟨_, _, _, z⟩ => SqT.of (z _ _ hf)) ?_ ?_⟩
    · rintro i x σ H1 H2 hi ⟨v1, v2, rfl, s1⟩ ⟨T, xi, xo, rfl, nT, rfl, h1, h2⟩
      cases h1
      obtain ⟨t, y, hy, rfl, e4⟩ := at_step (i := i) hl ht h2
      have s2 := s1.trans (same_upd (o := HO.tup [V.int (i : Nat), V.ref t]) nT)
      refine ⟨T, _, rfl, SqT.of upd_same, rfl, _, _, rfl, _, _, rfl, rfl, ?_⟩
      refine ⟨_, rfl, t, y, rfl, s2 _ _ e4, fm.stp y (List.mem_of_getElem? hy), fun H3 s3 => ⟨_, rfl, iteF ?_⟩⟩
      refine ⟨_, rfl, (i : Int), 0, rfl, rfl, _, rfl, ?_⟩
      refine ite2 (fun z => ?_) (fun z => ?_)
      · have z1 : (0 : Int) < i := of_decide_eq_true z
        obtain ⟨j, rfl⟩ : ∃ j, i = j + 1 := ⟨i - 1, by omega⟩
        have jl : j < fr.length := by
          have := (List.getElem?_eq_some_iff.mp hy).1
          omega
        have jt : j < ts.length := by omega
        have e5 := ht j ts[j] fr[j] (List.getElem?_eq_getElem jt) (List.getElem?_eq_getElem jl)
        have lt : lt3 fr[j] y = true := by
          have h3 := List.pairwise_iff_getElem.mp fm.srt j (j + 1) jl (List.getElem?_eq_some_iff.mp hy).1 (by omega)
          rw [(List.getElem?_eq_some_iff.mp hy).2] at h3
          exact h3
        refine ⟨_, rfl, _, rfl, _, rfl, _, _, rfl, rfl, f, _, (j : Int), V.ref ts[j], rfl, ?_, SqT.of (s3 _ _ (s2 _ _ hf)), atI_nat ?_, t, ts[j], y, fr[j], rfl, rfl, s3 _ _ (s2 _ _ e4), s3 _ _ (s2 _ _ e5), _, rfl, ?_⟩
        · show V.int (((j + 1 : Nat) : Int) - 1) = V.int (j : Int)
          congr 1
          omega
        · rw [List.getElem?_map, List.getElem?_eq_getElem jt]
          rfl
        · refine iteF' (by rw [lt]; rfl) ?_
          exact ⟨_, _, rfl, s2.trans s3⟩
      · refine iteF ?_
        exact ⟨_, _, rfl, s2.trans s3⟩
    · rintro σ H1 ⟨v1, v2, rfl, s1⟩
      refine ⟨_, rfl, f, fr, last, rfl, fa.same s1, fm, fun H2 s2 => ⟨_, rfl, iteF ⟨_, rfl, q H2 (s1.trans s2)⟩⟩⟩
end
end K31
/-! is_entry, first_wrong, need_weaving. -/
namespace K31
open PySem L2 L2.EV
abbrev sEntry : Stmt := top 18
abbrev sWrong : Stmt := top 19
abbrev sNeedW : Stmt := top 20
abbrev E2 : Type := Int × Int
abbrev A2 (H : Hp) (t : Addr) (e : E2) : Prop := H t = some (.tup [.int e.1, .int e.2])
/-- a weaving at w -/
def WvA (H : Hp) (w : Addr) (es : List E2) : Prop := ∃ ts : List Addr, H w = some (.tup (ts.map V.ref)) ∧ ts.length = es.length ∧ ∀ (i : Nat) t e, ts[i]? = some t → es[i]? = some e → A2 H t e
theorem WvA.same {H H' : Hp} {f : Addr} {es : List E2} (h : WvA H f es) (s : Same H H') : WvA H' f es := by
  obtain ⟨ts, e, l, c⟩ := h
  exact ⟨ts, s _ _ e, l, fun i t x h1 h2 => s _ _ (c i t x h1 h2)⟩
theorem at_ent {H : Hp} {ts : List Addr} {es : List E2} {i : Nat} {x : V} (hl : ts.length = es.length) (ht : ∀ (i : Nat) t e, ts[i]? = some t → es[i]? = some e → A2 H t e) (hx : (ts.map V.ref)[i]? = some x) :
    ∃ t e, es[i]? = some e ∧ ts[i]? = some t ∧ x = .ref t ∧ A2 H t e := by
  rw [List.getElem?_map] at hx
  cases e : ts[i]? with
  | none =>
    rw [e] at hx
    cases hx
  | some t =>
    rw [e] at hx
    have il : i < es.length := by
      have := (List.getElem?_eq_some_iff.mp e).1
      omega
    exact ⟨t, es[i], List.getElem?_eq_getElem il, rfl, (Option.some.inj hx).symm, ht i t _ e (List.getElem?_eq_getElem il)⟩
/-- a step by its number -/
def stt (fr : List T3) (n : Int) : T3 := fr.getD n.toNat (0, "", 0)
/-- the standings behind some entries -/
def plc (fr : List T3) (es : List E2) : List Int := es.foldl (fun pl e => pl.set e.1.toNat (stt fr e.2).2.2) (List.replicate 8 0)
/-- an entry by itself -/
def Ent (fr : List T3) (e : E2) : Prop := 0 ≤ e.1 ∧ e.1 < 8 ∧ 0 ≤ e.2 ∧ e.2 < fr.length
structure Wv (fr : List T3) (es : List E2) : Prop where
  l : es.length ≤ 60
  ent : ∀ e ∈ es, Ent fr e
  go : ∀ (i : Nat) e, es[i]? = some e → (plc fr (es.take i))[e.1.toNat]? = some (stt fr e.2).1
theorem plc_snoc {fr : List T3} {es : List E2} {e : E2} : plc fr (es ++ [e]) = (plc fr es).set e.1.toNat (stt fr e.2).2.2 := by
  unfold plc
  rw [List.foldl_append]
  rfl
theorem plc_len {fr : List T3} : ∀ {es : List E2}, (plc fr es).length = 8 := by
  have z : ∀ (es : List E2) (pl : List Int), (es.foldl (fun pl e => pl.set e.1.toNat (stt fr e.2).2.2) pl).length = pl.length := by
    intro es
    induction es with
    | nil => exact fun pl => rfl
    | cons e es ih =>
      intro pl
      rw [List.foldl_cons, ih, List.length_set]
  intro es
  unfold plc
  rw [z, List.length_replicate]
theorem take_one {α : Type} {es : List α} {i : Nat} {e : α} (h : es[i]? = some e) : es.take (i + 1) = es.take i ++ [e] := by
  have il := (List.getElem?_eq_some_iff.mp h).1
  rw [List.take_succ, h]
  rfl
/-- framing[n] -/
theorem stt_at {H : Hp} {f : Addr} {fr : List T3} {n : Int} (fa : FrA H f fr) (h0 : 0 ≤ n) (h1 : n < fr.length) : ∃ (ts : List Addr) (t : Addr), H f = some (.tup (ts.map V.ref)) ∧ atI (ts.map V.ref) n = some (.ref t) ∧ S3 H t (stt fr n) ∧ stt fr n ∈ fr := by
  obtain ⟨ts, hf, hl, ht⟩ := fa
  obtain ⟨k, rfl⟩ := Int.eq_ofNat_of_zero_le h0
  have kl : k < fr.length := by omega
  have kt : k < ts.length := by omega
  have e : stt fr (k : Int) = fr[k] := by
    unfold stt
    rw [List.getD_eq_getElem?_getD]
    simp [kl]
  refine ⟨ts, ts[k], hf, atI_nat ?_, ?_, ?_⟩
  · rw [List.getElem?_map, List.getElem?_eq_getElem kt]
    rfl
  · rw [e]
    exact ht k _ _ (List.getElem?_eq_getElem kt) (List.getElem?_eq_getElem kl)
  · rw [e]
    exact List.getElem_mem kl
def spEntry : Sp := fun vs H Q _ => ∃ (f t : Addr) (fr : List T3) (e : E2), vs = [.ref f, .ref t, .int 8] ∧ FrA H f fr ∧ A2 H t e ∧ Ent fr e ∧ Q (.bl true) H
def spWrong : Sp := fun vs H Q _ => ∃ (f w : Addr) (fr : List T3) (es : List E2), vs = [.ref f, .ref w, .int 0] ∧ FrA H f fr ∧ WvA H w es ∧ Wv fr es ∧ ∀ H', Same H H' → Q .non H'
def spNeedW : Sp := fun vs H Q _ => ∃ (f w : Addr) (fr : List T3) (last : Nat) (es : List E2), vs = [.ref f, .ref w] ∧ FrA H f fr ∧ Frm fr last ∧ WvA H w es ∧ Wv fr es ∧ ∀ H', Same H H' → Q (.ref w) H'
structure Ws (K : PySem.W.Frag) (mg : Str → Option Value) where
  Z : Fs K mg
  fE : Addr
  fR : Addr
  fW : Addr
  dE : FuncData
  dR : FuncData
  dW : FuncData
  E : Fun K "is_entry" "is_entry" sEntry fE dE
  R : Fun K "first_wrong" "first_wrong" sWrong fR dR
  W : Fun K "need_weaving" "need_weaving" sNeedW fW dW
  bE : Binds K dE ["framing", "thing", "many"] []
  bR : Binds K dR ["framing", "things", "begin"] []
  bW : Binds K dW ["framing", "thing"] []
  mE : mg "is_entry" = some (.ref fE)
  mR : mg "first_wrong" = some (.ref fR)
  mW : mg "need_weaving" = some (.ref fW)
  marks : ∃ t, mg "MARKS" = some (.str "ABCDEFGH" t)
  most : ∃ t, mg "MOST_ENTRIES" = some (.int 200 t)
section
variable {P : Program} {w : World} {K : PySem.W.Frag} {mg : Str → Option Value} {base : Heap}
theorem scEntry : FnScope ["framing", "thing", "many"] ["framing", "thing", "many"] (defScope sEntry) := ⟨rfl, rfl, rfl, by decide +kernel, rfl, by decide +kernel, by decide +kernel⟩
theorem ok_entry (Y : Ws K mg) : FnOk P w K mg base CX0 2 Y.fE Y.dE ["framing", "thing", "many"] spEntry := by
  have GN : FnOk P w K mg base CX0 1 Y.Z.fN Y.Z.dN ["thing", "many"] spNum := ok_num Y.Z.N Y.Z.T
  refine Y.E.ok scEntry (fun vs H Q E h => ?_) (fun cdv A outer s H vs Q E hr h => ?_)
  · obtain ⟨f, t, fr, e, rfl, _⟩ := h
    rfl
  · obtain ⟨f, t, fr, e, rfl, fa, ha, ⟨e0, e1, e2, e3⟩, q⟩ := h
    obtain ⟨tm, eM⟩ := Y.marks
    refine ⟨_, pss_cons (ps_if (pw_or (pt_not (pt_val (pe_callB call_isi (by rfl) Y.Z.T.isi PyProof.Rows.boot_isinstance (pa_cons (pv 1) (pa_cons (pe_bltn (v := .ty "tuple") (by rfl) Y.Z.T.tuple (by decide +kernel) rfl) pa_nil)))))
        (pw_or1 (pt_cmpR op_ne (pe_callB call_len_seq (by rfl) Y.Z.T.len PySem.boot_len (pa_cons (pv 1) pa_nil)) pe_int (nomark _)))).pt
        (pss_one (ps_ret pe_bl)) pss_nil)
      (pss_one (ps_ret (pe_and (pe_call GN hr (by rfl) Y.Z.mN Y.Z.N.kp Y.Z.bN .nil pass0 (pa_cons (pe_ix ix_tup (pv 1) pe_int (fun _ _ => rfl)) (pa_cons (pv 2) pa_nil)))
        (pe_one (pe_call GN hr (by rfl) Y.Z.mN Y.Z.N.kp Y.Z.bN .nil pass0 (pa_cons (pe_ix ix_tup (pv 1) pe_int (fun _ _ => rfl)) (pa_cons (pe_callB call_len_seq (by rfl) Y.Z.T.len PySem.boot_len (pa_cons (pv 0) pa_nil)) pa_nil))))))), ?_⟩
    obtain ⟨ts, hf, hl, ht⟩ := id fa
    refine ⟨_, rfl, .ref t, .ty "tuple", .type "tuple", .type "tuple", true, rfl, .ty "tuple", .base (.tup ha), kit_ty (by decide +kernel), true, rfl, iteF ?_⟩
    refine ⟨_, rfl, t, _, rfl, .inr (SqT.of ha), rfl, _, rfl, iteF ?_⟩
    refine ⟨_, rfl, t, _, 0, _, rfl, rfl, SqT.of ha, atI_nat (j := 0) rfl, _, rfl, e.1, 8, rfl, true, ?_, iteT ?_⟩
    · rw [decide_eq_true e0, decide_eq_true e1]
      rfl
    refine ⟨_, rfl, t, _, 1, _, rfl, rfl, SqT.of ha, atI_nat (j := 1) rfl, _, rfl, f, _, rfl, .inr (SqT.of hf), e.2, _, rfl, ?_⟩
    rw [decide_eq_true e2, decide_eq_true (by simp [hl]; omega)]
    exact q
theorem scWrong : FnScope ["framing", "things", "begin", "mark", "places", "number", "thing", "writer", "step", "start", "piece", "goal"] ["framing", "things", "begin"] (defScope sWrong) := ⟨rfl, rfl, rfl, by decide +kernel, rfl, by decide +kernel, by decide +kernel⟩
theorem ok_wrong (Y : Ws K mg) : FnOk P w K mg base CX0 3 Y.fR Y.dR ["framing", "things", "begin"] spWrong := by
  have GE : FnOk P w K mg base CX0 2 Y.fE Y.dE ["framing", "thing", "many"] spEntry := ok_entry Y
  refine Y.R.ok scWrong (fun vs H Q E h => ?_) (fun cdv A outer s H vs Q E hr h => ?_)
  · obtain ⟨f, t, fr, e, rfl, _⟩ := h
    rfl
  · obtain ⟨f, wv, fr, es, rfl, fa, wa, wo, q⟩ := h
    obtain ⟨tm, eM⟩ := Y.marks
    refine ⟨_, pss_cons (ps_setLc (i := 4) (y := "places") (own := [("mark", 3)]) (g := gName 3) (te := tVar 2) rfl scWrong.nd rfl rfl (by rfl) (pi_str (pe_glob (v := .str "ABCDEFGH") (by rfl) eM ⟨_, rfl⟩))
        (blkOk_by (N := ["framing", "things", "begin", "mark", "places", "number", "thing", "writer", "step", "start", "piece", "goal"]) (sc := defScope sWrong) (by decide +kernel))
        (fun _ _ _ _ _ => pg_name (i := 3) scWrong.nd rfl (Or.inl rfl)) (fun _ _ _ _ _ => pts_nil) (fun _ _ _ _ _ => pv 2))
      (pss_cons (ps_for PassesOwn.never rfl (pi_enumT (by rfl) Y.Z.en (pa_cons (pv 1) pa_nil)) (pg_tup rfl (pgs_cons (pg_name (i := 5) scWrong.nd rfl (Or.inl rfl)) (pgs_cons (pg_name (i := 6) scWrong.nd rfl (Or.inl rfl)) pgs_nil)))
        (pss_cons (ps_if (pt_not (pt_val (pe_call GE hr (by rfl) Y.mE Y.E.kp Y.bE .nil pass0 (pa_cons (pv 0) (pa_cons (pv 6) (pa_cons (pe_callB call_len_str (by rfl) Y.Z.T.len PySem.boot_len (pa_cons (pe_glob (v := .str "ABCDEFGH") (by rfl) eM ⟨_, rfl⟩) pa_nil)) pa_nil)))))) (pss_one (ps_ret (pv 5))) pss_nil)
        (pss_cons (ps_asg (pv 6) (pg_tup rfl (pgs_cons (pg_name (i := 7) scWrong.nd rfl (Or.inl rfl)) (pgs_cons (pg_name (i := 8) scWrong.nd rfl (Or.inl rfl)) pgs_nil))))
        (pss_cons (ps_asg (pe_ix ix_tup (pv 0) (pv 8) (fun _ _ => rfl)) (pg_tup rfl (pgs_cons (pg_name (i := 9) scWrong.nd rfl (Or.inl rfl)) (pgs_cons (pg_name (i := 10) scWrong.nd rfl (Or.inl rfl)) (pgs_cons (pg_name (i := 11) scWrong.nd rfl (Or.inl rfl)) pgs_nil)))))
        (pss_cons (ps_if (pw_and (pt_cmpR op_notN (pe_ix ix_list (pv 4) (pv 7) (fun _ _ => rfl)) pe_non (nomark _)) (pw_and1 (pt_cmpR op_ne (pe_ix ix_list (pv 4) (pv 7) (fun _ _ => rfl)) (pv 9) (nomark _)))).pt (pss_one (ps_ret (pv 5))) pss_nil)
        (pss_one (ps_asg (pv 11) (pg_sub (pv 4) (pv 7) set_list))))))))
      (pss_one (ps_ret pe_non))), ?_⟩
    obtain ⟨tw, hw, wl, wt⟩ := id wa
    refine ⟨_, rfl, fun D hD => ?_⟩
    refine lc_it walk_str (fun i H' => H' D = some (.lst ((List.replicate i (0 : Int)).map V.int)) ∧ ∀ b o, H b = some o → H' b = some o) ⟨upd_same, fun b o z => same_upd hD b o z⟩ (fun _ _ _ _ => trivial) ?_ ?_
    · rintro i x H1 H2 hi ⟨hl, kp⟩ ⟨rfl, c, hc, rfl⟩
      refine ⟨rfl, ⟨_, rfl, _, hl, ?_, ?_, fun b o z => ?_⟩⟩
      · have h8 : i < 8 := hi
        rw [List.length_map, List.length_replicate, sizeLine_eq]
        omega
      · rw [List.replicate_succ', List.map_append]
        exact upd_same
      · rw [upd_ne (ne_of_none z hD)]
        exact kp b o z
    · rintro H1 ⟨hl, kp⟩
      refine ⟨_, rfl, wv, _, rfl, SqT.of (kp _ _ hw), for_it (walk_enumT (xs := tw.map V.ref)) (fun i σ H' => ∃ v5 v6 v7 v8 v9 v10 v11 : Option V, σ = [some (.ref f), some (.ref wv), some (.int 0), none, some (.ref D), v5, v6, v7, v8, v9, v10, v11] ∧ Same H H' ∧ H' D = some (.lst ((plc fr (es.take i)).map V.int)))
        ⟨none, none, none, none, none, none, none, rfl, kp, hl⟩ (fun i σ H' _ ⟨_, _, _, _, _, _, _, _, z, _⟩ => SqT.of (z _ _ hw)) ?_ ?_⟩
      · rintro i x σ H2 H3 hi ⟨v5, v6, v7, v8, v9, v10, v11, rfl, s2, d2⟩ ⟨T, xi, xo, rfl, nT, rfl, h1, h2⟩
        cases h1
        obtain ⟨t, e, he, _, rfl, e4⟩ := at_ent (i := i) wl wt h2
        have uT := same_upd (o := HO.tup [V.int (i : Nat), V.ref t]) nT
        have s3 := s2.trans uT
        have d3 := uT _ _ d2
        have ent := wo.ent e (List.mem_of_getElem? he)
        obtain ⟨e0, e1, n0, n1⟩ := id ent
        obtain ⟨ts, t2, hf, ha, h3, _⟩ := stt_at (fa.same s3) n0 n1
        have pw : atI ((plc fr (es.take i)).map V.int) e.1 = some (V.int (stt fr e.2).1) := by
          obtain ⟨k, hk⟩ := Int.eq_ofNat_of_zero_le e0
          have g := wo.go i e he
          rw [hk] at g ⊢
          refine atI_nat ?_
          rw [List.getElem?_map]
          have g' : (plc fr (es.take i))[k]? = some (stt fr e.2).1 := g
          rw [g']
          rfl
        refine ⟨T, _, rfl, SqT.of upd_same, rfl, _, _, rfl, _, _, rfl, rfl, ?_⟩
        refine ⟨_, rfl, _, rfl, _, rfl, (by decide +kernel), f, t, fr, e, rfl, fa.same s3, s3 _ _ e4, ent, _, rfl, iteF ?_⟩
        refine ⟨_, rfl, t, _, rfl, SqT.of (s3 _ _ e4), rfl, _, _, rfl, _, _, rfl, rfl, ?_⟩
        refine ⟨_, rfl, _, rfl, f, _, e.2, .ref t2, rfl, rfl, SqT.of hf, ha, t2, _, rfl, SqT.of h3, rfl, _, _, rfl, _, _, rfl, _, _, rfl, rfl, ?_⟩
        refine ⟨_, rfl, _, rfl, D, _, e.1, _, rfl, rfl, SqL.of d3, pw, rfl, _, rfl, iteT' (by simp) ?_⟩
        refine ⟨_, rfl, _, rfl, D, _, e.1, _, rfl, rfl, SqL.of d3, pw, _, rfl, rfl, _, rfl, iteF' (by simp) ?_⟩
        refine ⟨_, rfl, _, rfl, _, rfl, D, _, e.1, e.1.toNat, rfl, rfl, d3, ?_, ?_⟩
        · rw [List.length_map, plc_len]
          unfold ixN
          rw [if_pos e0, if_pos (by omega)]
        · refine ⟨_, _, _, _, _, _, _, rfl, same_set hD s3, ?_⟩
          rw [take_one he, plc_snoc, List.map_set]
          exact upd_same
      · rintro σ H2 ⟨v5, v6, v7, v8, v9, v10, v11, rfl, s2, d2⟩
        exact q H2 s2
theorem scNeedW : FnScope ["framing", "thing", "number"] ["framing", "thing"] (defScope sNeedW) := ⟨rfl, rfl, rfl, by decide +kernel, rfl, by decide +kernel, by decide +kernel⟩
theorem ok_needW (Y : Ws K mg) : FnOk P w K mg base CX0 4 Y.fW Y.dW ["framing", "thing"] spNeedW := by
  have GF : FnOk P w K mg base CX0 3 Y.Z.fF Y.Z.dF ["thing"] spNeedF := ok_needF Y.Z
  have GR : FnOk P w K mg base CX0 3 Y.fR Y.dR ["framing", "things", "begin"] spWrong := ok_wrong Y
  refine Y.W.ok scNeedW (fun vs H Q E h => ?_) (fun cdv A outer s H vs Q E hr h => ?_)
  · obtain ⟨f, t, fr, l, e, rfl, _⟩ := h
    rfl
  · obtain ⟨f, wv, fr, last, es, rfl, fa, fm, wa, wo, q⟩ := h
    obtain ⟨tm, eM⟩ := Y.most
    refine ⟨_, pss_cons (ps_expr (pe_call GF hr (by rfl) Y.Z.mF Y.Z.F.kp Y.Z.bF .nil pass0 (pa_cons (pv 0) pa_nil)))
      (pss_cons (ps_if (pw_or (pt_not (pt_val (pe_callB call_isi (by rfl) Y.Z.T.isi PyProof.Rows.boot_isinstance (pa_cons (pv 1) (pa_cons (pe_bltn (v := .ty "tuple") (by rfl) Y.Z.T.tuple (by decide +kernel) rfl) pa_nil)))))
        (pw_or1 (pt_cmpR op_gt (pe_callB call_len_seq (by rfl) Y.Z.T.len PySem.boot_len (pa_cons (pv 1) pa_nil)) (pe_glob (v := .int 200) (by rfl) eM ⟨_, rfl⟩) (nomark _)))).pt
        (pss_one ps_never) pss_nil)
      (pss_cons (ps_set (i := 2) scNeedW.nd rfl (Or.inl rfl) (pe_call GR hr (by rfl) Y.mR Y.R.kp Y.bR .nil pass0 (pa_cons (pv 0) (pa_cons (pv 1) (pa_cons pe_int pa_nil)))))
      (pss_cons (ps_if (pt_cmpR op_notN (pv 2) pe_non (nomark _)) (pss_one ps_never) pss_nil)
      (pss_one (ps_ret (pv 1)))))), ?_⟩
    obtain ⟨tw, hw, wl, wt⟩ := id wa
    have l60 := wo.l
    refine ⟨_, rfl, f, fr, last, rfl, fa, fm, fun H1 s1 => ?_⟩
    refine ⟨_, rfl, .ref wv, .ty "tuple", .type "tuple", .type "tuple", true, rfl, .ty "tuple", .base (.tup (s1 _ _ hw)), kit_ty (by decide +kernel), true, rfl, iteF ?_⟩
    refine ⟨_, rfl, wv, _, rfl, .inr (SqT.of (s1 _ _ hw)), _, 200, rfl, rfl, _, rfl, iteF' (decide_eq_false (by simp; omega)) ?_⟩
    refine ⟨_, rfl, _, rfl, f, wv, fr, es, rfl, fa.same s1, wa.same s1, wo, fun H2 s2 => ?_⟩
    refine ⟨_, rfl, rfl, _, rfl, iteF' (by simp) ⟨_, rfl, q H2 (s1.trans s2)⟩⟩
end
end K31
/-! e[n].replace(y, m[i]) with a written y. -/
namespace L2
open PySem PySem.Spec PyProof.Rows
def tReplM (r : R2) (ta : TE) (n : Int) (y : Str) (tM ti : TE) : TE := fun σ H Q => tOp r ta (tC (.int n)) σ H fun v H1 => ∃ x, v = .str x ∧ tM σ H1 fun m H2 => ti σ H2 fun iv H3 =>
  ∃ (z : Str) (c : Nat) (i : Int), m = .str z ∧ iv = .int i ∧ z.length ≤ sizeLine ∧ atI z.cps.toList i = some c ∧ (y == ⟨#[c]⟩) = false ∧ x.length + (x.length + 1) * 1 ≤ 16777216 ∧ Q (.str (Txt.replace x y ⟨#[c]⟩)) H3
section
variable {X : Cx} {a m i : Expr} {ta tM ti : TE} {y : Str} {n : Int} {j k : Nat} {c0 p1 p2 p3 apos pos : Pos} {r : R2}
theorem pe_replM (hr : IxR X r) (ha : PE X a ta) (hM : PE X m tM) (hi : PE X i ti) (hs : PlainIx (.Constant (.int n) j p1)) (hs3 : PlainIx i)
    (hst : starEach [.Constant (.str y) k c0, .Subscript m i p3] X.env = [(false, eval (.Constant (.str y) k c0) X.env), (false, eval (.Subscript m i p3) X.env)] := by rfl)
    (hbase : attributeBase (.Subscript a (.Constant (.int n) j p1) p2) "replace" X.env (eval (.Subscript a (.Constant (.int n) j p1) p2) X.env) = eval (.Subscript a (.Constant (.int n) j p1) p2) X.env := by rfl)
    (hline : (apos.endLine == pos.line) = true := by rfl) :
    PE X (.Call (.Attribute (.Subscript a (.Constant (.int n) j p1) p2) "replace" apos) [.Constant (.str y) k c0, .Subscript m i p3] [] pos) (tReplM r ta n y tM ti) := by
  refine ⟨fun pins s σ H Q I h => ?_⟩
  refine PySem.Call_method2 hbase hst hline (Subscript_ (thn (ha.run pins s σ H _ I h) fun v s1 ⟨x, H1, I1, rx, q1⟩ => ?_))
  refine wpAny_Constant_int ?_
  refine wpAny_mono (PySem.wpAny_toks (hr a (.Constant (.int n) j p1) pins _ σ H1 x (.int n) v (.int n s1.toks) _ (I1.tok _) rx ⟨_, rfl⟩ q1 (hs _ _))) (fun v2 s2 q => ?_) fun _ _ z => z.2
  obtain ⟨hk, x2, H2, I2, r2, xs, rfl, q⟩ := q
  obtain ⟨tx, rfl⟩ := r2
  have hk2 : s1.toks + 1 ≤ s2.toks := hk
  refine ⟨"str", _, PySem.F.plainAttrs_str, PySem.F.slot_str_replace, PySem.F.type_str_replace, typeIs_str _ _ _, (fun _ e => nomatch e), Calls.callWith_builtin rfl (Calls.evalArgs_plain (Calls.spliced_cons ?_))⟩
  refine Calls.Constant_str (Calls.spliced_cons (Subscript_ ?_))
  refine wpAny_mono (PySem.wpAny_toks (hM.run pins _ σ H2 _ (I2.tok (s2.toks + 1)) q)) (fun v3 s3 q => ?_) fun _ _ z => z.2
  obtain ⟨hk3, x3, H3, I3, r3, q⟩ := q
  have hk3' : s2.toks + 1 ≤ s3.toks := hk3
  refine wpAny_mono (PySem.wpAny_toks (hi.run pins _ σ H3 _ I3 q)) (fun v4 s4 q => ?_) fun _ _ z => z.2
  obtain ⟨hk4, x4, H4, I4, r4, z, c, ix, rfl, rfl, hz, he, hyz, hb, q⟩ := q
  obtain ⟨t, rfl⟩ := r3
  obtain ⟨t', rfl⟩ := r4
  obtain ⟨j, h1, h2, h3, h4, h5⟩ := atI_get he
  have hl : z.cps.toList.length = z.length := by simp [Str.length]
  rw [hl] at h1 h4 h5
  have hn := line63
  refine tail_any (typeIs_str s4 z t) slot_str_getitem.lookup (getItem_str (c := c) (by
    have e1 : decide (ix < -(2 ^ 63 : Int)) = false := decide_eq_false (by omega)
    have e2 : decide (ix ≥ 2 ^ 63) = false := decide_eq_false (by omega)
    rw [e1, e2, Bool.or_false]) (by rw [h1]; simpa using h2) ?_) (hs3 _ _)
  refine Calls.spliced_nil ?_
  exact PySem.SC.replace (by show s2.toks ≠ 0; omega) (by show s4.toks ≠ 0; omega) (by show s2.toks ≠ s4.toks; omega) hyz hb fun t' k => ⟨.str (Txt.replace xs y ⟨#[c]⟩), H4, I4.tok k, ⟨t', rfl⟩, q⟩
end
end L2
/-! text_put, line_places. -/
namespace K31
open PySem L2 L2.EV
abbrev sPut : Stmt := top 21
abbrev sPlaces : Stmt := top 23
def mrk (n : Int) : Nat := (sl ("ABCDEFGH" : Str)).getD n.toNat 0
/-- what an entry puts -/
def putE (fr : List T3) (e : E2) : Str := Txt.replace (stt fr e.2).2.1 "@" ⟨#[mrk e.1]⟩
def textE (fr : List T3) (es : List E2) : Str := Txt.join "" (es.map (putE fr))
theorem mrk_at {n : Int} (h0 : 0 ≤ n) (h1 : n < 8) : atI ("ABCDEFGH" : Str).cps.toList n = some (mrk n) ∧ (("@" : Str) == ⟨#[mrk n]⟩) = false := by
  obtain ⟨k, rfl⟩ := Int.eq_ofNat_of_zero_le h0
  have hk : k < 8 := by omega
  have e : ∀ k : Nat, k < 8 → atI ("ABCDEFGH" : Str).cps.toList (k : Int) = some (mrk (k : Int)) ∧ (("@" : Str) == ⟨#[mrk (k : Int)]⟩) = false := by
    intro k hk
    match k, hk with
    | 0, _ => exact ⟨by decide +kernel, by decide +kernel⟩
    | 1, _ => exact ⟨by decide +kernel, by decide +kernel⟩
    | 2, _ => exact ⟨by decide +kernel, by decide +kernel⟩
    | 3, _ => exact ⟨by decide +kernel, by decide +kernel⟩
    | 4, _ => exact ⟨by decide +kernel, by decide +kernel⟩
    | 5, _ => exact ⟨by decide +kernel, by decide +kernel⟩
    | 6, _ => exact ⟨by decide +kernel, by decide +kernel⟩
    | 7, _ => exact ⟨by decide +kernel, by decide +kernel⟩
  exact e k hk
theorem putE_len {fr : List T3} {e : E2} (h : (stt fr e.2).2.1.length ≤ 8) : (putE fr e).length ≤ 17 := by
  have z := TK.replace_len (stt fr e.2).2.1 "@" ⟨#[mrk e.1]⟩
  have z1 : (⟨#[mrk e.1]⟩ : Str).length = 1 := rfl
  unfold putE
  rw [z1] at z
  omega
def spPut : Sp := fun vs H Q _ => ∃ (f w : Addr) (fr : List T3) (last : Nat) (es : List E2), vs = [.ref f, .ref w] ∧ FrA H f fr ∧ Frm fr last ∧ WvA H w es ∧ Wv fr es ∧ ∀ H', Same H H' → Q (.str (textE fr es)) H'
/-- an entry that ends a line -/
def ends (fr : List T3) (e : E2) : Bool := decide ((stt fr e.2).2.2 = 0)
def cuts (fr : List T3) (es : List E2) (i : Nat) : List Int := ((List.range i).filter fun k => ends fr (es.getD k (0, 0))).map fun k : Nat => (k : Int) + 1
def lp (fr : List T3) (es : List E2) : List Int := 0 :: cuts fr es es.length
def spPlaces : Sp := fun vs H Q _ => ∃ (f w : Addr) (fr : List T3) (last : Nat) (es : List E2), vs = [.ref f, .ref w] ∧ FrA H f fr ∧ Frm fr last ∧ WvA H w es ∧ Wv fr es ∧ ∀ H' p, Same H H' → H p = none → H' p = some (.lst ((lp fr es).map V.int)) → Q (.ref p) H'
structure Ps (K : PySem.W.Frag) (mg : Str → Option Value) where
  Y : Ws K mg
  fT : Addr
  fL : Addr
  dT : FuncData
  dL : FuncData
  T : Fun K "text_put" "text_put" sPut fT dT
  L : Fun K "line_places" "line_places" sPlaces fL dL
  bT : Binds K dT ["framing", "entries"] []
  bL : Binds K dL ["framing", "entries"] []
  mT : mg "text_put" = some (.ref fT)
  mL : mg "line_places" = some (.ref fL)
section
variable {P : Program} {w : World} {K : PySem.W.Frag} {mg : Str → Option Value} {base : Heap}
theorem scPut : FnScope ["framing", "entries", "writer", "step"] ["framing", "entries"] (defScope sPut) := ⟨rfl, rfl, rfl, by decide +kernel, rfl, by decide +kernel, by decide +kernel⟩
theorem ok_put (U : Ps K mg) : FnOk P w K mg base CX0 1 U.fT U.dT ["framing", "entries"] spPut := by
  refine U.T.ok scPut (fun vs H Q E h => ?_) (fun cdv A outer s H vs Q E hr h => ?_)
  · obtain ⟨f, t, fr, l, e, rfl, _⟩ := h
    rfl
  · obtain ⟨f, wv, fr, last, es, rfl, fa, fm, wa, wo, q⟩ := h
    obtain ⟨tm, eM⟩ := U.Y.marks
    refine ⟨_, pss_one (ps_ret (pe_m1 PySem.F.slot_str_join PySem.F.type_str_join mt_join pe_str (pe_lc (own := [("writer", 2), ("step", 3)]) (g := gTup K 2 (gCons (gName 2) (gCons (gName 3) gNil))) (te := tReplM (rIxT K) (tOp (rIxT K) (tVar 0) (tVar 3)) 1 "@" (tC (.str "ABCDEFGH")) (tVar 2)) rfl scPut.nd (pi_tup (pv 1))
      (blkOk_by (N := ["framing", "entries", "writer", "step"]) (sc := defScope sPut) (by decide +kernel))
      (fun _ _ _ _ _ => pg_tup rfl (pgs_cons (pg_name (i := 2) scPut.nd rfl (Or.inl rfl)) (pgs_cons (pg_name (i := 3) scPut.nd rfl (Or.inl rfl)) pgs_nil))) (fun _ _ _ _ _ => pts_nil)
      (fun _ _ _ _ _ => pe_replM ix_tup (pe_ix ix_tup (pv 0) (pv 3) (fun _ _ => rfl)) (pe_glob (v := .str "ABCDEFGH") (by rfl) eM ⟨_, rfl⟩) (pv 2) (fun _ _ => rfl) (fun _ _ => rfl))))), ?_⟩
    obtain ⟨tw, hw, wl, wt⟩ := id wa
    have l60 := wo.l
    have pl : ∀ e ∈ es, (stt fr e.2).2.1.length ≤ 8 := fun e he => by
      obtain ⟨_, _, n0, n1⟩ := wo.ent e he
      obtain ⟨_, _, _, _, _, hm⟩ := stt_at fa n0 n1
      exact (pc_len (fm.stp _ hm).2.2.1).2
    refine ⟨⟨_, rfl⟩, _, rfl, wv, rfl, ⟨_, SqT.of hw⟩, fun D hD => ?_⟩
    refine lc_it (walk_tup (xs := tw.map V.ref)) (fun i H' => H' D = some (.lst (((es.take i).map (putE fr)).map V.str)) ∧ ∀ b o, H b = some o → H' b = some o) ⟨upd_same, fun b o z => same_upd hD b o z⟩ (fun i H' _ z => SqT.of (z.2 _ _ hw)) ?_ ?_
    · rintro i x H1 H2 hi ⟨hl, kp⟩ ⟨rfl, hx⟩
      obtain ⟨t, e, he, _, rfl, e4⟩ := at_ent (i := i) wl wt hx
      have hm := List.mem_of_getElem? he
      obtain ⟨e0, e1, n0, n1⟩ := wo.ent e hm
      obtain ⟨ts, t2, hf, ha, h3, _⟩ := stt_at (fa.same kp) n0 n1
      obtain ⟨m1, m2⟩ := mrk_at e0 e1
      have p8 := pl e hm
      refine ⟨t, _, rfl, SqT.of (kp _ _ e4), rfl, _, _, rfl, _, _, rfl, rfl, rfl, ?_⟩
      refine ⟨_, rfl, _, rfl, f, _, e.2, .ref t2, rfl, rfl, SqT.of hf, ha, t2, _, 1, _, rfl, rfl, SqT.of h3, atI_nat (j := 1) rfl, _, rfl, _, rfl, _, mrk e.1, e.1, rfl, rfl, (by decide +kernel), m1, m2, by omega, _, hl, ?_, ?_, fun b o z => ?_⟩
      · rw [List.length_map, List.length_map, List.length_take, sizeLine_eq]
        omega
      · rw [take_one he, List.map_append, List.map_append]
        exact upd_same
      · rw [upd_ne (ne_of_none z hD)]
        exact kp b o z
    · rintro H1 ⟨hl, kp⟩
      have e0 : es.take (tw.map V.ref).length = es := by
        rw [List.length_map, wl, List.take_length]
      rw [e0] at hl
      refine ⟨"", D, es.map (putE fr), rfl, rfl, .inl (SqL.of hl), ?_, q H1 kp⟩
      have z : ∀ l : List E2, (∀ e ∈ l, (stt fr e.2).2.1.length ≤ 8) → ((l.map (putE fr)).map (·.length)).sum ≤ 17 * l.length := by
        intro l
        induction l with
        | nil => exact fun _ => Nat.le_refl _
        | cons e l ih =>
          intro h
          have h1 := putE_len (h e (List.mem_cons_self ..))
          have h2 := ih fun e he => h e (List.mem_cons_of_mem _ he)
          simp only [List.map_cons, List.sum_cons, List.length_cons]
          omega
      have z1 := z es pl
      have z2 : ("" : Str).length = 0 := by decide +kernel
      rw [z2]
      omega
theorem scPlaces : FnScope ["framing", "entries", "at", "writer", "step"] ["framing", "entries"] (defScope sPlaces) := ⟨rfl, rfl, rfl, by decide +kernel, rfl, by decide +kernel, by decide +kernel⟩
theorem ok_places (U : Ps K mg) : FnOk P w K mg base CX0 1 U.fL U.dL ["framing", "entries"] spPlaces := by
  refine U.L.ok scPlaces (fun vs H Q E h => ?_) (fun cdv A outer s H vs Q E hr h => ?_)
  · obtain ⟨f, t, fr, l, e, rfl, _⟩ := h
    rfl
  · obtain ⟨f, wv, fr, last, es, rfl, fa, fm, wa, wo, q⟩ := h
    refine ⟨_, pss_one (ps_ret (pe_op op_cat (pe_lst (pa_cons pe_int pa_nil)) (pe_lc (own := [("at", 2), ("writer", 3), ("step", 4)]) (g := gTup K 2 (gCons (gName 2) (gCons (gTup K 2 (gCons (gName 3) (gCons (gName 4) gNil))) gNil))) (tt := tTest (tOp rEq (tOp (rIxT K) (tOp (rIxT K) (tVar 0) (tVar 4)) (tC (.int 2))) (tC (.int 0)))) (te := tOp (rI0 fun i j => .int (i + j)) (tVar 2) (tC (.int 1))) rfl scPlaces.nd (pi_enumT (by rfl) U.Y.Z.en (pa_cons (pv 1) pa_nil))
      (blkOk_by (N := ["framing", "entries", "at", "writer", "step"]) (sc := defScope sPlaces) (by decide +kernel))
      (fun _ _ _ _ _ => pg_tup rfl (pgs_cons (pg_name (i := 2) scPlaces.nd rfl (Or.inl rfl)) (pgs_cons (pg_tup rfl (pgs_cons (pg_name (i := 3) scPlaces.nd rfl (Or.inl rfl)) (pgs_cons (pg_name (i := 4) scPlaces.nd rfl (Or.inl rfl)) pgs_nil))) pgs_nil)))
      (fun _ _ _ _ _ => pts_one (pt_cmpR op_eq (pe_ix ix_tup (pe_ix ix_tup (pv 0) (pv 4) (fun _ _ => rfl)) pe_int (fun _ _ => rfl)) pe_int (nomark _)))
      (fun _ _ _ _ _ => pe_op op_add (pv 2) pe_int)))), ?_⟩
    obtain ⟨tw, hw, wl, wt⟩ := id wa
    have l60 := wo.l
    refine ⟨(by show 1 ≤ sizeLine; decide), fun z hz => ?_⟩
    have sz := same_upd (o := HO.lst [V.int 0]) hz
    refine ⟨_, rfl, wv, _, rfl, SqT.of (sz _ _ hw), fun D hD => ?_⟩
    have cl : ∀ i, i ≤ es.length → (cuts fr es i).length ≤ 60 := fun i hi => by
      have := List.length_filter_le (fun k => ends fr (es.getD k (0, 0))) (List.range i)
      unfold cuts
      rw [List.length_map]
      rw [List.length_range] at this
      omega
    refine lc_it (walk_enumT (xs := tw.map V.ref)) (fun i H' => H' D = some (.lst ((cuts fr es i).map V.int)) ∧ ∀ b o, upd H z (.lst [V.int 0]) b = some o → H' b = some o) ⟨upd_same, fun b o e => same_upd hD b o e⟩ (fun i H' _ y => SqT.of (y.2 _ _ (sz _ _ hw))) ?_ ?_
    · rintro i x H1 H2 hi ⟨hl, kp⟩ ⟨T, xi, xo, rfl, nT, rfl, h1, h2⟩
      cases h1
      obtain ⟨t, e, he, _, rfl, e4⟩ := at_ent (i := i) wl wt h2
      have hm := List.mem_of_getElem? he
      have uT := same_upd (o := HO.tup [V.int (i : Nat), V.ref t]) nT
      have s3 : Same H _ := (sz.trans kp).trans uT
      have hl3 := uT _ _ hl
      obtain ⟨e0, e1, n0, n1⟩ := wo.ent e hm
      obtain ⟨ts, t2, hf, ha, h3, _⟩ := stt_at (fa.same s3) n0 n1
      have ie : i < es.length := (List.getElem?_eq_some_iff.mp he).1
      have eg : es.getD i (0, 0) = e := by rw [List.getD_eq_getElem?_getD, he]; rfl
      have cs : cuts fr es (i + 1) = cuts fr es i ++ (if ends fr e = true then [(i : Int) + 1] else []) := by
        unfold cuts
        rw [List.range_succ, List.filter_append, List.map_append, List.filter_cons, eg]
        split <;> rfl
      refine ⟨T, _, rfl, SqT.of upd_same, rfl, _, _, rfl, _, _, rfl, ⟨t, _, rfl, SqT.of (s3 _ _ e4), rfl, _, _, rfl, _, _, rfl, rfl, rfl, rfl, ?_⟩⟩
      refine ⟨_, rfl, _, rfl, f, _, e.2, .ref t2, rfl, rfl, SqT.of hf, ha, t2, _, 2, _, rfl, rfl, SqT.of h3, atI_nat (j := 2) rfl, rfl, _, rfl, ?_⟩
      refine ite2 (fun y => ?_) (fun y => ?_)
      · have y1 : (stt fr e.2).2.2 = 0 := V.int.inj (of_decide_eq_true y)
        have en : ends fr e = true := decide_eq_true y1
        refine ⟨_, rfl, _, _, rfl, rfl, _, hl3, ?_, ?_, fun b o q => ?_⟩
        · have := cl i (by omega)
          rw [List.length_map, sizeLine_eq]
          omega
        · rw [cs, if_pos en, List.map_append]
          exact upd_same
        · rw [upd_ne (ne_of_none q hD)]
          exact uT _ _ (kp b o q)
      · have en : ¬ ends fr e = true := fun q => y (decide_eq_true (congrArg V.int (of_decide_eq_true q)))
        refine ⟨?_, fun b o q => uT _ _ (kp b o q)⟩
        rw [cs, if_neg en, List.append_nil]
        exact hl3
    · rintro H1 ⟨hl, kp⟩
      rw [List.length_map, wl] at hl
      have := cl es.length (Nat.le_refl _)
      have z2 := kp _ _ (upd_same (a := z))
      refine ⟨z, D, _, _, rfl, rfl, z2, hl, ?_, fun p hp => ?_⟩
      · rw [List.length_map, sizeLine_eq]
        simp only [List.length_cons, List.length_nil]
        omega
      · refine q _ p (fun b o e => same_upd hp _ _ (kp _ _ (sz _ _ e))) ((sz.trans kp).free hp) ?_
        exact upd_same
end
end K31
/-! file_of, read_lines, rest_of, stands. -/
namespace L2
open PySem PySem.Spec PyProof.Rows
/-- t[lo:hi]: somewhere, all else stays -/
def rSlW (K : PySem.W.Frag) : V → Option Int → Option Int → Hp → VK → Prop := fun x lo hi H Q => ∃ a xs, x = .ref a ∧ H a = some (.tup xs) ∧ ∀ p H', Same H H' → H' p = some (.tup (cutV xs lo hi)) → Q (.ref p) H'
theorem sl_tupS {X : Cx} : SlR X (rSlW X.K) := by
  intro pins s σ H x v vl vu lo hi sl Q I rx hs pl pu h
  obtain ⟨a, xs, rfl, ha, q⟩ := h
  refine sl_tupA pins s σ H _ v vl vu lo hi sl Q I rx hs pl pu ⟨a, xs, rfl, SqT.of ha, fun z => ?_, fun _ p hp => q p _ (K31.same_upd hp) upd_same⟩
  refine q a H (fun _ _ e => e) ?_
  rw [ha]
  unfold cutV
  rw [z.1, z.2]
  simp
end L2
namespace K31
open PySem L2 L2.EV
abbrev sFile : Stmt := top 22
abbrev sRead : Stmt := top 24
abbrev sRest : Stmt := top 25
abbrev sStands : Stmt := top 26
def cutsN (fr : List T3) (es : List E2) (i : Nat) : List Nat := ((List.range i).filter fun k => ends fr (es.getD k (0, 0))).map fun k : Nat => k + 1
def lpN (fr : List T3) (es : List E2) : List Nat := 0 :: cutsN fr es es.length
theorem lp_nat {fr : List T3} {es : List E2} : lp fr es = (lpN fr es).map fun k : Nat => (k : Int) := by
  unfold lp lpN cuts cutsN
  rw [List.map_cons, List.map_map]
  congr 1
def cutE {α : Type} (es : List α) (lo hi : Nat) : List α := (es.drop (min lo es.length)).take (min hi es.length - min lo es.length)
def linesE (fr : List T3) (es : List E2) : List (List E2) := ((lpN fr es).zip (lpN fr es).tail).map fun q => cutE es q.1 q.2
def restE (fr : List T3) (es : List E2) : List E2 := es.drop (min ((lpN fr es).getLastD 0) es.length)
/-- a tuple of lines -/
def LnA (H : Hp) (p : Addr) (ls : List (List E2)) : Prop := ∃ qs : List Addr, H p = some (.tup (qs.map V.ref)) ∧ qs.length = ls.length ∧ ∀ (i : Nat) q l, qs[i]? = some q → ls[i]? = some l → WvA H q l
theorem cutV_map {ts : List Addr} {lo hi : Nat} : cutV (ts.map V.ref) (some (lo : Int)) (some (hi : Int)) = (cutE ts lo hi).map V.ref := by
  unfold cutV cutE
  rw [HT.sIx_nat, HT.sIx_nat, List.length_map, List.map_take, List.map_drop]
theorem cutV_rest {ts : List Addr} {lo : Nat} : cutV (ts.map V.ref) (some (lo : Int)) none = (ts.drop (min lo ts.length)).map V.ref := by
  unfold cutV
  rw [HT.sIx_nat, HT.sIx_none, List.length_map, List.map_drop]
  exact List.take_of_length_le (by simp)
theorem wv_part {H H' : Hp} {tw : List Addr} {es : List E2} {p : Addr} {a b : Nat} (hl : tw.length = es.length) (ht : ∀ (i : Nat) t e, tw[i]? = some t → es[i]? = some e → A2 H t e) (s : Same H H') (hp : H' p = some (.tup (((tw.drop a).take b).map V.ref))) :
    WvA H' p ((es.drop a).take b) := by
  refine ⟨_, hp, by simp [hl], fun i t e h1 h2 => s _ _ ?_⟩
  rw [List.getElem?_take] at h1 h2
  by_cases hi : i < b
  · rw [if_pos hi, List.getElem?_drop] at h1 h2
    exact ht _ t e h1 h2
  · rw [if_neg hi] at h1
    cases h1
theorem int_at {l : List Nat} {i : Nat} {x : V} (h : ((l.map (fun k : Nat => (k : Int))).map V.int)[i]? = some x) : ∃ k : Nat, l[i]? = some k ∧ x = .int (k : Int) := by
  rw [List.getElem?_map, List.getElem?_map] at h
  cases e : l[i]? with
  | none =>
    rw [e] at h
    cases h
  | some k =>
    rw [e] at h
    exact ⟨k, rfl, (Option.some.inj h).symm⟩
theorem cut_tail {l : List Nat} : cutV ((l.map (fun k : Nat => (k : Int))).map V.int) (some 1) none = ((l.tail).map (fun k : Nat => (k : Int))).map V.int := by
  rw [cut_one]
  cases l <;> rfl
theorem lpN_len {fr : List T3} {es : List E2} (h : es.length ≤ 60) : (lpN fr es).length ≤ 61 := by
  have := List.length_filter_le (fun k => ends fr (es.getD k (0, 0))) (List.range es.length)
  unfold lpN cutsN
  rw [List.length_cons, List.length_map]
  rw [List.length_range] at this
  omega
def spFile : Sp := fun vs H Q _ => ∃ (f w : Addr) (fr : List T3) (last : Nat) (es : List E2), vs = [.ref f, .ref w] ∧ FrA H f fr ∧ Frm fr last ∧ WvA H w es ∧ Wv fr es ∧ ∀ H', Same H H' → Q (.str (textE fr es)) H'
def spRead : Sp := fun vs H Q _ => ∃ (f w : Addr) (fr : List T3) (last : Nat) (es : List E2), vs = [.ref f, .ref w] ∧ FrA H f fr ∧ Frm fr last ∧ WvA H w es ∧ Wv fr es ∧ ∀ H' p, Same H H' → LnA H' p (linesE fr es) → Q (.ref p) H'
def spRest : Sp := fun vs H Q _ => ∃ (f w : Addr) (fr : List T3) (last : Nat) (es : List E2), vs = [.ref f, .ref w] ∧ FrA H f fr ∧ Frm fr last ∧ WvA H w es ∧ Wv fr es ∧ ∀ H' p, Same H H' → WvA H' p (restE fr es) → Q (.ref p) H'
def spStands : Sp := fun vs H Q _ => ∃ (f w : Addr) (fr : List T3) (last : Nat) (es : List E2), vs = [.ref f, .ref w] ∧ FrA H f fr ∧ Frm fr last ∧ WvA H w es ∧ Wv fr es ∧ ∀ H' p, Same H H' → H' p = some (.tup ((plc fr es).map V.int)) → Q (.ref p) H'
structure Qs (K : PySem.W.Frag) (mg : Str → Option Value) where
  U : Ps K mg
  fF : Addr
  fR : Addr
  fS : Addr
  fZ : Addr
  dF : FuncData
  dR : FuncData
  dS : FuncData
  dZ : FuncData
  F : Fun K "file_of" "file_of" sFile fF dF
  R : Fun K "read_lines" "read_lines" sRead fR dR
  S : Fun K "rest_of" "rest_of" sRest fS dS
  Z : Fun K "stands" "stands" sStands fZ dZ
  bF : Binds K dF ["framing", "weaving"] []
  bR : Binds K dR ["framing", "weaving"] []
  bS : Binds K dS ["framing", "weaving"] []
  bZ : Binds K dZ ["framing", "weaving"] []
  mF : mg "file_of" = some (.ref fF)
  mR : mg "read_lines" = some (.ref fR)
  mS : mg "rest_of" = some (.ref fS)
  mZ : mg "stands" = some (.ref fZ)
  zip : mg "zip" = none
section
variable {P : Program} {w : World} {K : PySem.W.Frag} {mg : Str → Option Value} {base : Heap}
theorem scFile : FnScope ["framing", "weaving"] ["framing", "weaving"] (defScope sFile) := ⟨rfl, rfl, rfl, by decide +kernel, rfl, by decide +kernel, by decide +kernel⟩
theorem ok_file (G : Qs K mg) : FnOk P w K mg base CX0 5 G.fF G.dF ["framing", "weaving"] spFile := by
  have GW : FnOk P w K mg base CX0 4 G.U.Y.fW G.U.Y.dW ["framing", "thing"] spNeedW := ok_needW G.U.Y
  have GT : FnOk P w K mg base CX0 1 G.U.fT G.U.dT ["framing", "entries"] spPut := ok_put G.U
  refine G.F.ok scFile (fun vs H Q E h => ?_) (fun cdv A outer s H vs Q E hr h => ?_)
  · obtain ⟨f, t, fr, l, e, rfl, _⟩ := h
    rfl
  · obtain ⟨f, wv, fr, last, es, rfl, fa, fm, wa, wo, q⟩ := h
    refine ⟨_, pss_cons (ps_expr (pe_call GW hr (by rfl) G.U.Y.mW G.U.Y.W.kp G.U.Y.bW .nil pass0 (pa_cons (pv 0) (pa_cons (pv 1) pa_nil))))
      (pss_one (ps_ret (pe_call GT (hr.mono (by omega)) (by rfl) G.U.mT G.U.T.kp G.U.bT .nil pass0 (pa_cons (pv 0) (pa_cons (pv 1) pa_nil))))), ?_⟩
    refine ⟨_, rfl, _, rfl, f, wv, fr, last, es, rfl, fa, fm, wa, wo, fun H1 s1 => ?_⟩
    exact ⟨_, rfl, _, rfl, f, wv, fr, last, es, rfl, fa.same s1, fm, wa.same s1, wo, fun H2 s2 => q H2 (s1.trans s2)⟩
theorem scRead : FnScope ["framing", "weaving", "places", "low", "high"] ["framing", "weaving"] (defScope sRead) := ⟨rfl, rfl, rfl, by decide +kernel, rfl, by decide +kernel, by decide +kernel⟩
theorem ok_read (G : Qs K mg) (ht : mg "tuple" = none) : FnOk P w K mg base CX0 5 G.fR G.dR ["framing", "weaving"] spRead := by
  have GW : FnOk P w K mg base CX0 4 G.U.Y.fW G.U.Y.dW ["framing", "thing"] spNeedW := ok_needW G.U.Y
  have GL : FnOk P w K mg base CX0 1 G.U.fL G.U.dL ["framing", "entries"] spPlaces := ok_places G.U
  refine G.R.ok scRead (fun vs H Q E h => ?_) (fun cdv A outer s H vs Q E hr h => ?_)
  · obtain ⟨f, t, fr, l, e, rfl, _⟩ := h
    rfl
  · obtain ⟨f, wv, fr, last, es, rfl, fa, fm, wa, wo, q⟩ := h
    refine ⟨_, pss_cons (ps_expr (pe_call GW hr (by rfl) G.U.Y.mW G.U.Y.W.kp G.U.Y.bW .nil pass0 (pa_cons (pv 0) (pa_cons (pv 1) pa_nil))))
      (pss_cons (ps_set (i := 2) scRead.nd rfl (Or.inl rfl) (pe_call GL (hr.mono (by omega)) (by rfl) G.U.mL G.U.L.kp G.U.bL .nil pass0 (pa_cons (pv 0) (pa_cons (pv 1) pa_nil))))
      (pss_one (ps_ret (pe_callTy call_tuple_of (by rfl) ht (by decide +kernel) (pa_cons (pe_lc (own := [("low", 3), ("high", 4)]) (g := gTup K 2 (gCons (gName 3) (gCons (gName 4) gNil))) (te := tSl (rSlW K) (tVar 1) (tPart (tVar 3)) (tPart (tVar 4))) rfl scRead.nd
        (pi_zip (by rfl) G.zip (pa_cons (pv 2) (pa_cons (pe_slice sl_list (pv 2) (po_some pe_int) po_none) pa_nil)))
        (blkOk_by (N := ["framing", "weaving", "places", "low", "high"]) (sc := defScope sRead) (by decide +kernel))
        (fun _ _ _ _ _ => pg_tup rfl (pgs_cons (pg_name (i := 3) scRead.nd rfl (Or.inl rfl)) (pgs_cons (pg_name (i := 4) scRead.nd rfl (Or.inl rfl)) pgs_nil))) (fun _ _ _ _ _ => pts_nil)
        (fun _ _ _ _ _ => pe_slice sl_tupS (pv 1) (po_some (pv 3)) (po_some (pv 4)))) pa_nil))))), ?_⟩
    obtain ⟨tw, hw, wl, wt⟩ := id wa
    have l60 := wo.l
    refine ⟨_, rfl, _, rfl, f, wv, fr, last, es, rfl, fa, fm, wa, wo, fun H1 s1 => ?_⟩
    refine ⟨_, rfl, _, rfl, f, wv, fr, last, es, rfl, fa.same s1, fm, wa.same s1, wo, fun H2 p s2 np ep => ?_⟩
    rw [lp_nat] at ep
    refine ⟨_, rfl, _, rfl, 1, rfl, p, _, rfl, SqL.of ep, fun p2 hp2 => ⟨p, p2, _, _, rfl, SqL.of (same_upd hp2 _ _ ep), SqL.of upd_same, fun D hD => ?_⟩⟩
    have u2 := same_upd (o := HO.lst (cutV ((List.map (fun k : Nat => (k : Int)) (lpN fr es)).map V.int) (some 1) none)) hp2
    rw [cut_tail] at hD u2 ⊢
    have sA := (s1.trans s2).trans u2
    have el : (linesE fr es).length = min (((lpN fr es).map (fun k : Nat => (k : Int))).map V.int).length ((((lpN fr es).tail).map (fun k : Nat => (k : Int))).map V.int).length := by
      unfold linesE
      simp
    refine lc_it (walk_zip el) (fun i H' => (∃ qs : List Addr, H' D = some (.lst (qs.map V.ref)) ∧ qs.length = i ∧ ∀ (k : Nat) q l, qs[k]? = some q → (linesE fr es)[k]? = some l → WvA H' q l) ∧ ∀ b o, upd H2 p2 (.lst ((((lpN fr es).tail).map (fun k : Nat => (k : Int))).map V.int)) b = some o → H' b = some o)
      ⟨⟨[], upd_same, rfl, fun k q l z => by cases z⟩, fun b o z => same_upd hD b o z⟩ (fun i H' _ z => ⟨SqL.of (z.2 _ _ (u2 _ _ ep)), SqL.of (z.2 _ _ upd_same)⟩) ?_ ?_
    · rintro i x H3 H4 hi ⟨⟨qs, hl, ql, hq⟩, kp⟩ ⟨T, x1, x2, rfl, nT, rfl, h1, h2⟩
      obtain ⟨lo, hlo, rfl⟩ := int_at h1
      obtain ⟨hi2, hhi, rfl⟩ := int_at h2
      have uT := same_upd (o := HO.tup [V.int (lo : Int), V.int (hi2 : Int)]) nT
      have s3 : Same H _ := (sA.trans kp).trans uT
      refine ⟨T, _, rfl, SqT.of upd_same, rfl, _, _, rfl, _, _, rfl, rfl, rfl, ?_⟩
      refine ⟨_, rfl, _, rfl, _, rfl, _, rfl, _, rfl, wv, _, rfl, s3 _ _ hw, fun nq H5 s5 e5 => ?_⟩
      rw [cutV_map] at e5
      have le : (linesE fr es)[i]? = some (cutE es lo hi2) := by
        unfold linesE
        rw [List.getElem?_map, List.getElem?_zip_eq_some.mpr (show (lpN fr es)[i]? = some ((lo, hi2) : Nat × Nat).1 ∧ (lpN fr es).tail[i]? = some ((lo, hi2) : Nat × Nat).2 from ⟨hlo, hhi⟩)]
        rfl
      have d5 := s5 _ _ (uT _ _ hl)
      refine ⟨_, d5, ?_, ⟨⟨qs ++ [nq], ?_, by rw [List.length_append, ql]; rfl, fun k q l hk hl2 => ?_⟩, fun b o z => ?_⟩⟩
      · have : (lpN fr es).length ≤ 61 := lpN_len wo.l
        rw [el] at hi
        simp only [List.length_map] at hi
        rw [List.length_map, ql, sizeLine_eq]
        omega
      · rw [List.map_append]
        exact upd_same
      · have sD : ∀ {q : Addr} {l : List E2}, WvA H5 q l → WvA (upd H5 D (.lst (qs.map V.ref ++ [.ref nq]))) q l := fun {q l} ⟨ts, e, a, b⟩ => by
          have kt := keepT_upd (o := .lst (qs.map V.ref ++ [.ref nq])) d5 (fun xs z => by cases z)
          exact ⟨ts, kt _ _ e, a, fun i t e h1 h2 => kt _ _ (b i t e h1 h2)⟩
        refine sD ?_
        by_cases hk2 : k < i
        · rw [List.getElem?_append_left (by omega)] at hk
          exact (hq k q l hk hl2).same (uT.trans s5)
        · have hk3 : k = i := by
            have := (List.getElem?_eq_some_iff.mp hk).1
            rw [List.length_append, ql] at this
            simp only [List.length_cons, List.length_nil] at this
            omega
          subst hk3
          rw [List.getElem?_append_right (by omega), ql, Nat.sub_self] at hk
          have e6 : nq = q := Option.some.inj hk
          subst e6
          rw [le] at hl2
          have e7 := Option.some.inj hl2
          subst e7
          unfold cutE
          refine wv_part wl wt (s3.trans s5) ?_
          unfold cutE at e5
          rw [wl] at e5
          exact e5
      · rw [upd_ne (ne_of_none z hD)]
        exact s5 _ _ (uT _ _ (kp b o z))
    · rintro H3 ⟨⟨qs, hl, ql, hq⟩, kp⟩
      refine ⟨D, _, rfl, .inl ⟨SqL.of hl, fun p3 hp3 => ?_⟩⟩
      have u3 := same_upd (o := HO.tup (qs.map V.ref)) hp3
      exact q _ p3 ((sA.trans kp).trans u3) ⟨qs, upd_same, ql, fun k q l h1 h2 => (hq k q l h1 h2).same u3⟩
theorem scRest : FnScope ["framing", "weaving", "places"] ["framing", "weaving"] (defScope sRest) := ⟨rfl, rfl, rfl, by decide +kernel, rfl, by decide +kernel, by decide +kernel⟩
theorem ok_rest (G : Qs K mg) : FnOk P w K mg base CX0 5 G.fS G.dS ["framing", "weaving"] spRest := by
  have GW : FnOk P w K mg base CX0 4 G.U.Y.fW G.U.Y.dW ["framing", "thing"] spNeedW := ok_needW G.U.Y
  have GL : FnOk P w K mg base CX0 1 G.U.fL G.U.dL ["framing", "entries"] spPlaces := ok_places G.U
  refine G.S.ok scRest (fun vs H Q E h => ?_) (fun cdv A outer s H vs Q E hr h => ?_)
  · obtain ⟨f, t, fr, l, e, rfl, _⟩ := h
    rfl
  · obtain ⟨f, wv, fr, last, es, rfl, fa, fm, wa, wo, q⟩ := h
    refine ⟨_, pss_cons (ps_expr (pe_call GW hr (by rfl) G.U.Y.mW G.U.Y.W.kp G.U.Y.bW .nil pass0 (pa_cons (pv 0) (pa_cons (pv 1) pa_nil))))
      (pss_cons (ps_set (i := 2) scRest.nd rfl (Or.inl rfl) (pe_call GL (hr.mono (by omega)) (by rfl) G.U.mL G.U.L.kp G.U.bL .nil pass0 (pa_cons (pv 0) (pa_cons (pv 1) pa_nil))))
      (pss_one (ps_ret (pe_slice sl_tupS (pv 1) (po_some (pe_ix ix_list (pv 2) (pe_un un_neg pe_int) (fun _ _ => rfl))) po_none)))), ?_⟩
    obtain ⟨tw, hw, wl, wt⟩ := id wa
    refine ⟨_, rfl, _, rfl, f, wv, fr, last, es, rfl, fa, fm, wa, wo, fun H1 s1 => ?_⟩
    refine ⟨_, rfl, _, rfl, f, wv, fr, last, es, rfl, fa.same s1, fm, wa.same s1, wo, fun H2 p s2 np ep => ?_⟩
    rw [lp_nat] at ep
    have ne : lpN fr es ≠ [] := by unfold lpN; simp
    obtain ⟨M, y, hM⟩ := SrtO.snoc_of (l := lpN fr es) (List.length_pos_iff.mpr ne)
    have hy : (lpN fr es).getLastD 0 = y := by rw [hM]; simp
    refine ⟨_, rfl, _, rfl, 1, rfl, p, _, -1, V.int (y : Int), rfl, rfl, SqL.of ep, ?_, _, rfl, wv, _, rfl, (s1.trans s2) _ _ hw, fun nq H5 s5 e5 => ?_⟩
    · rw [hM, List.map_append, List.map_append]
      unfold atI ixN
      simp only [List.length_append, List.length_map, List.map_cons, List.map_nil, List.length_cons, List.length_nil]
      rw [if_neg (by omega), if_pos (by omega)]
      show ((M.map fun k : Nat => (k : Int)).map V.int ++ [V.int (y : Int)])[((-1 : Int) + ((M.length + (0 + 1) : Nat) : Int)).toNat]? = _
      have e : ((-1 : Int) + ((M.length + (0 + 1) : Nat) : Int)).toNat = M.length := by omega
      rw [e, List.getElem?_append_right (by simp)]
      simp
    · refine q H5 nq ((s1.trans s2).trans s5) ?_
      rw [cutV_rest] at e5
      unfold restE
      rw [hy]
      have z := wv_part (a := min y tw.length) (b := tw.length) wl wt ((s1.trans s2).trans s5) (p := nq) (by rw [e5, List.take_of_length_le (by simp)])
      rw [List.take_of_length_le (by rw [List.length_drop]; omega), wl] at z
      exact z
theorem scStands : FnScope ["framing", "weaving", "mark", "places", "writer", "step"] ["framing", "weaving"] (defScope sStands) := ⟨rfl, rfl, rfl, by decide +kernel, rfl, by decide +kernel, by decide +kernel⟩
theorem ok_stands (G : Qs K mg) (htu : mg "tuple" = none) : FnOk P w K mg base CX0 5 G.fZ G.dZ ["framing", "weaving"] spStands := by
  have GW : FnOk P w K mg base CX0 4 G.U.Y.fW G.U.Y.dW ["framing", "thing"] spNeedW := ok_needW G.U.Y
  refine G.Z.ok scStands (fun vs H Q E h => ?_) (fun cdv A outer s H vs Q E hr h => ?_)
  · obtain ⟨f, t, fr, l, e, rfl, _⟩ := h
    rfl
  · obtain ⟨f, wv, fr, last, es, rfl, fa, fm, wa, wo, q⟩ := h
    obtain ⟨tm, eM⟩ := G.U.Y.marks
    refine ⟨_, pss_cons (ps_expr (pe_call GW hr (by rfl) G.U.Y.mW G.U.Y.W.kp G.U.Y.bW .nil pass0 (pa_cons (pv 0) (pa_cons (pv 1) pa_nil))))
      (pss_cons (ps_setLc (i := 3) (y := "places") (own := [("mark", 2)]) (g := gName 2) (te := tC (.int 0)) rfl scStands.nd rfl rfl (by rfl) (pi_str (pe_glob (v := .str "ABCDEFGH") (by rfl) eM ⟨_, rfl⟩))
        (blkOk_by (N := ["framing", "weaving", "mark", "places", "writer", "step"]) (sc := defScope sStands) (by decide +kernel))
        (fun _ _ _ _ _ => pg_name (i := 2) scStands.nd rfl (Or.inl rfl)) (fun _ _ _ _ _ => pts_nil) (fun _ _ _ _ _ => pe_int))
      (pss_cons (ps_for PassesOwn.never rfl (pi_tup (pv 1)) (pg_tup rfl (pgs_cons (pg_name (i := 4) scStands.nd rfl (Or.inl rfl)) (pgs_cons (pg_name (i := 5) scStands.nd rfl (Or.inl rfl)) pgs_nil)))
        (pss_one (ps_asg (pe_ix ix_tup (pe_ix ix_tup (pv 0) (pv 5) (fun _ _ => rfl)) pe_int (fun _ _ => rfl)) (pg_sub (pv 3) (pv 4) set_list))))
      (pss_one (ps_ret (pe_callTy call_tuple_of (by rfl) htu (by decide +kernel) (pa_cons (pv 3) pa_nil)))))), ?_⟩
    obtain ⟨tw, hw, wl, wt⟩ := id wa
    refine ⟨_, rfl, _, rfl, f, wv, fr, last, es, rfl, fa, fm, wa, wo, fun H0 s0 => ?_⟩
    refine ⟨_, rfl, fun D hD => ?_⟩
    refine lc_it walk_str (fun i H' => H' D = some (.lst ((List.replicate i (0 : Int)).map V.int)) ∧ ∀ b o, H0 b = some o → H' b = some o) ⟨upd_same, fun b o z => same_upd hD b o z⟩ (fun _ _ _ _ => trivial) ?_ ?_
    · rintro i x H1 H2 hi ⟨hl, kp⟩ ⟨rfl, c, hc, rfl⟩
      refine ⟨rfl, ⟨_, hl, ?_, ?_, fun b o z => ?_⟩⟩
      · have h8 : i < 8 := hi
        rw [List.length_map, List.length_replicate, sizeLine_eq]
        omega
      · rw [List.replicate_succ', List.map_append]
        exact upd_same
      · rw [upd_ne (ne_of_none z hD)]
        exact kp b o z
    · rintro H1 ⟨hl, kp⟩
      have hD0 : H D = none := s0.free hD
      refine ⟨_, rfl, wv, rfl, ⟨_, SqT.of (kp _ _ (s0 _ _ hw))⟩, for_it (walk_tup (xs := tw.map V.ref)) (fun i σ H' => ∃ v4 v5 : Option V, σ = [some (.ref f), some (.ref wv), none, some (.ref D), v4, v5] ∧ Same H H' ∧ H' D = some (.lst ((plc fr (es.take i)).map V.int)))
        ⟨none, none, rfl, s0.trans kp, hl⟩ (fun i σ H' _ ⟨_, _, _, z, _⟩ => SqT.of (z _ _ hw)) ?_ ?_⟩
      · rintro i x σ H2 H3 hi ⟨v4, v5, rfl, s2, d2⟩ ⟨rfl, hx⟩
        obtain ⟨t, e, he, _, rfl, e4⟩ := at_ent (i := i) wl wt hx
        obtain ⟨e0, e1, n0, n1⟩ := wo.ent e (List.mem_of_getElem? he)
        obtain ⟨ts, t2, hf, ha, h3, _⟩ := stt_at (fa.same s2) n0 n1
        refine ⟨t, _, rfl, SqT.of (s2 _ _ e4), rfl, _, _, rfl, _, _, rfl, rfl, ?_⟩
        refine ⟨_, rfl, _, rfl, f, _, e.2, .ref t2, rfl, rfl, SqT.of hf, ha, t2, _, 2, _, rfl, rfl, SqT.of h3, atI_nat (j := 2) rfl, _, rfl, _, rfl, D, _, e.1, e.1.toNat, rfl, rfl, d2, ?_, ?_⟩
        · rw [List.length_map, plc_len]
          unfold ixN
          rw [if_pos e0, if_pos (by omega)]
        · refine ⟨_, _, rfl, same_set hD0 s2, ?_⟩
          rw [take_one he, plc_snoc, List.map_set]
          exact upd_same
      · rintro σ H2 ⟨v4, v5, rfl, s2, d2⟩
        rw [List.length_map, wl, List.take_length] at d2
        refine ⟨_, rfl, D, _, rfl, .inl ⟨SqL.of d2, fun p hp => ?_⟩⟩
        exact q _ p (s2.trans (same_upd hp)) upd_same
end
end K31
/-! Drawn pieces. -/
namespace K31
open PySem L2 L2.EV
abbrev sPiece : Stmt := top 30
/-- the draws have gone on from H0, where they were at k0 with the list l0: all other things are as they were -/
structure Dr (H0 H : Hp) (m c l0 l : Addr) (k : Int) : Prop where
  at_ : MAt H m c l k
  hl : l = l0 ∨ H0 l = none
  kp : ∀ b o, H0 b = some o → b ≠ m → b ≠ l0 → H b = some o
theorem Dr.refl {H : Hp} {m c l : Addr} {k : Int} (M : MAt H m c l k) : Dr H H m c l l k := ⟨M, .inl rfl, fun b o e _ _ => e⟩
theorem Dr.same {H0 H H' : Hp} {m c l0 l : Addr} {k : Int} (d : Dr H0 H m c l0 l k) (s : Same H H') : Dr H0 H' m c l0 l k :=
  ⟨d.at_.same s, d.hl, fun b o e h1 h2 => s _ _ (d.kp b o e h1 h2)⟩
/-- one part behind another -/
theorem Dr.trans {H0 H H' : Hp} {m c l0 l l' : Addr} {k k' : Int} (d : Dr H0 H m c l0 l k) (e : Dr H H' m c l l' k') : Dr H0 H' m c l0 l' k' := by
  refine ⟨e.at_, ?_, fun b o e1 h1 h2 => e.kp b o (d.kp b o e1 h1 h2) h1 ?_⟩
  · rcases e.hl with h | h
    · rw [h]
      exact d.hl
    · by_cases z : l' = l0
      · exact .inl z
      · refine .inr ?_
        cases q : H0 l' with
        | none => rfl
        | some o =>
          have ne : l' ≠ m := (ne_of_none d.at_.hm h).symm
          rw [d.kp l' o q ne z] at h
          cases h
  · rcases d.hl with hl | hl
    · rw [hl]
      exact h2
    · exact ne_of_none e1 hl
/-- a thing of another kind than the draws' own stays -/
theorem Dr.tup {H0 H : Hp} {m c l0 l : Addr} {k k0 : Int} {a : Addr} {xs : List V} (d : Dr H0 H m c l0 l k) (M : MAt H0 m c l0 k0) (e : H0 a = some (.tup xs)) : H a = some (.tup xs) := by
  obtain ⟨ls, hl, _⟩ := M.hl
  exact d.kp a _ e (ne_of e M.hm (fun z => by cases z)) (ne_of e hl (fun z => by cases z))
theorem Dr.fr {H0 H : Hp} {m c l0 l : Addr} {k k0 : Int} {f : Addr} {fr : List T3} (d : Dr H0 H m c l0 l k) (M : MAt H0 m c l0 k0) (h : FrA H0 f fr) : FrA H f fr := by
  obtain ⟨ts, e, l, cc⟩ := h
  exact ⟨ts, d.tup M e, l, fun i t x h1 h2 => d.tup M (cc i t x h1 h2)⟩
/-- another list stays, and is none of the draws' own -/
theorem Dr.lst {H H' : Hp} {m c l l' : Addr} {k k0 : Int} {a : Addr} {xs : List V} (d : Dr H H' m c l l' k) (M : MAt H m c l k0) (e : H a = some (.lst xs)) (ne : a ≠ l) : H' a = some (.lst xs) ∧ a ≠ l' := by
  refine ⟨d.kp a _ e (ne_of e M.hm (fun z => by cases z)) ne, ?_⟩
  rcases d.hl with z | z
  · rw [z]
    exact ne
  · exact ne_of_none e z
/-- a draw, as spNext wants it -/
theorem dr_next {H : Hp} {m c l : Addr} {k n : Int} {Q : VK} {E : XK} (M : MAt H m c l k) (hn : 0 < n) (hn1 : n < 1000000) (hk : k < 900000)
    (q : ∀ (r : Int) (H' : Hp) (l' : Addr) (k' : Int), 0 ≤ r → r < n → k' ≤ k + 1 → Dr H H' m c l l' k' → Q (.int r) H') : spNext [.ref m, .int n] H Q E :=
  ⟨m, c, l, k, n, rfl, M, hn, hn1, by omega, fun r H' l' k' r0 r1 kk M' fl kp => q r H' l' k' r0 r1 kk ⟨M', fl, kp⟩⟩
theorem MAt.l_some {H : Hp} {m c l : Addr} {k : Int} (M : MAt H m c l k) {a : Addr} (h : H a = none) : a ≠ l := by
  obtain ⟨ls, hl, _⟩ := M.hl
  exact (ne_of_none hl h).symm
theorem sl_app (a b : Str) : sl (a ++ b) = sl a ++ sl b := by
  show (Str.append a b).cps.toList = _
  simp [Str.append]
theorem sl_empty : sl ("" : Str) = [] := by decide +kernel
theorem sl_join : ∀ ys : List Str, sl (Str.join "" ys) = (ys.map sl).flatten
  | [] => rfl
  | [x] => by
    show sl x = _
    simp
  | x :: y :: r => by
    show sl (x ++ "" ++ Str.join "" (y :: r)) = _
    rw [sl_app, sl_app, sl_empty, sl_join (y :: r)]
    simp
theorem txt_join (ys : List Str) : sl (Txt.join "" ys) = (ys.map sl).flatten := by
  have z := PyProof.Rows.join_plain_closes "" ys
  rw [eq_of_beq z, sl_join]
theorem flat_one {ys : List Str} (h : ∀ y ∈ ys, ∃ c, y = ⟨#[c]⟩ ∧ c ∈ sgs) : (∀ c, c ∈ (ys.map sl).flatten → c ∈ sgs) ∧ ((ys.map sl).flatten).length = ys.length := by
  induction ys with
  | nil => exact ⟨fun c h => (by cases h), rfl⟩
  | cons y ys ih =>
    obtain ⟨c, e, hc⟩ := h y (List.mem_cons_self ..)
    have e2 : sl y = [c] := by rw [e]
    obtain ⟨h1, h2⟩ := ih fun y hy => h y (List.mem_cons_of_mem _ hy)
    rw [List.map_cons, List.flatten_cons, e2]
    refine ⟨fun d hd => ?_, ?_⟩
    · rcases List.mem_append.mp hd with hd | hd
      · have e : d = c := by simpa using hd
        rw [e]
        exact hc
      · exact h1 d hd
    · rw [List.length_append, h2, List.length_cons, List.length_cons, List.length_nil]
      omega
/-- the five lists of signs -/
def fives : List Str := ["ab", "ab", "abc@", "@", "xyz019@"]
theorem five_ok : ∀ x ∈ fives, 1 ≤ x.length ∧ x.length ≤ 7 ∧ ∀ c ∈ sl x, c ∈ sgs := by decide +kernel
theorem MAt.upd {H : Hp} {m c l D : Addr} {k : Int} {o : HO} (M : MAt H m c l k) (hm : D ≠ m) (hc : D ≠ c) (hl : D ≠ l) : MAt (L2.upd H D o) m c l k := by
  obtain ⟨h1, ⟨cs, h2, h3⟩, ⟨ls0, h4, h5⟩, h6, h7, h8⟩ := M
  exact ⟨by rw [upd_ne hm.symm]; exact h1, ⟨cs, by rw [upd_ne hc.symm]; exact h2, h3⟩, ⟨ls0, by rw [upd_ne hl.symm]; exact h4, h5⟩, h6, h7, h8⟩
theorem MAt.c_some {H : Hp} {m c l : Addr} {k : Int} (M : MAt H m c l k) {a : Addr} (h : H a = none) : a ≠ c := by
  obtain ⟨ls, hl, _⟩ := M.hc
  exact (ne_of_none hl h).symm
def spPiece : Sp := fun vs H Q _ => ∃ (m c l : Addr) (k : Int) (last : Bool), vs = [.ref m, .bl last] ∧ MAt H m c l k ∧ k < 800000 ∧
  ∀ (p : Str) (H' : Hp) (l' : Addr) (k' : Int), Pc p last → k' ≤ k + 20 → Dr H H' m c l l' k' → Q (.str p) H'
section
variable {P : Program} {w : World} {K : PySem.W.Frag} {mg : Str → Option Value} {base : Heap}
structure Ls (K : PySem.W.Frag) (mg : Str → Option Value) where
  f1 : Addr
  d1 : FuncData
  N : Fun K "_law_next" "_law_next" sNext f1 d1
  bN : Binds K d1 ["m", "total"] []
  mN : mg "_law_next" = some (.ref f1)
  T : TxtD mg
  ra : mg "range" = none
  f2 : Addr
  d2 : FuncData
  P : Fun K "_law_piece" "_law_piece" sPiece f2 d2
  bP : Binds K d2 ["m", "last"] []
  mP : mg "_law_piece" = some (.ref f2)
theorem scPiece : FnScope ["m", "last", "total", "signs", "k", "body"] ["m", "last"] (defScope sPiece) := ⟨rfl, rfl, rfl, by decide +kernel, rfl, by decide +kernel, by decide +kernel⟩
theorem ok_piece (L : Ls K mg) : FnOk P w K mg base CX0 2 L.f2 L.d2 ["m", "last"] spPiece := by
  have GX : FnOk P w K mg base CX0 1 L.f1 L.d1 ["m", "total"] spNext := ok_next L.N L.T
  refine L.P.ok scPiece (fun vs H Q E h => ?_) (fun cdv A outer s H vs Q E hr h => ?_)
  · obtain ⟨m, c, l, k, last, rfl, _⟩ := h
    rfl
  · obtain ⟨m, c, l, k, last, rfl, M, hk, q⟩ := h
    refine ⟨_, pss_cons (ps_set (i := 2) scPiece.nd rfl (Or.inl rfl) (pe_ix ix_list (pe_lst (pa_cons pe_int (pa_cons pe_int (pa_cons pe_int (pa_cons pe_int (pa_cons pe_int (pa_cons (pe_op op_add pe_int (pe_call GX hr (by rfl) L.mN L.N.kp L.bN .nil pass0 (pa_cons (pv 0) (pa_cons pe_int pa_nil)))) pa_nil)))))))
        (pe_call GX hr (by rfl) L.mN L.N.kp L.bN .nil pass0 (pa_cons (pv 0) (pa_cons pe_int pa_nil))) (fun _ _ => rfl)))
      (pss_cons (ps_set (i := 3) scPiece.nd rfl (Or.inr rfl) (pe_ix ix_list (pe_lst (pa_cons pe_str (pa_cons pe_str (pa_cons pe_str (pa_cons pe_str (pa_cons pe_str pa_nil)))))) (pe_call GX hr (by rfl) L.mN L.N.kp L.bN .nil pass0 (pa_cons (pv 0) (pa_cons pe_int pa_nil))) (fun _ _ => rfl)))
      (pss_cons (ps_set (i := 5) scPiece.nd rfl (Or.inl rfl) (pe_m1 PySem.F.slot_str_join PySem.F.type_str_join mt_join pe_str (pe_lc (own := [("k", 4)]) (g := gName 4) rfl scPiece.nd (pi_range1 (by rfl) L.ra (pa_cons (pv 2) pa_nil))
        (blkOk_by (N := ["m", "last", "total", "signs", "k", "body"]) (sc := defScope sPiece) (by decide +kernel))
        (fun _ _ _ _ _ => pg_name (i := 4) scPiece.nd rfl (Or.inl rfl)) (fun _ _ _ _ _ => pts_nil)
        (fun _ _ _ _ _ => pe_ix ix_str (pv 3) (pe_call GX hr (by rfl) L.mN L.N.kp L.bN .nil pass0 (pa_cons (pv 0) (pa_cons (pe_callB call_len_str (by rfl) L.T.len PySem.boot_len (pa_cons (pv 3) pa_nil)) pa_nil))) (fun _ _ => rfl)))))
      (pss_cons (ps_if (pt_val (pv 1)) (pss_one (ps_ret (pe_op op_add_str (pe_ix ix_list (pe_lst (pa_cons (pv 5) (pa_cons (pv 5) (pa_cons pe_str pa_nil)))) (pe_call GX hr (by rfl) L.mN L.N.kp L.bN .nil pass0 (pa_cons (pv 0) (pa_cons pe_int pa_nil))) (fun _ _ => rfl)) pe_str))) pss_nil)
      (pss_one (ps_ret (pv 5)))))), ?_⟩
    refine ⟨_, rfl, m, c, l, k, 7, rfl, M, by decide, by decide, by omega, fun r1 H1 l1 k1 a1 b1 g1 N1 f1 q1 => ?_⟩
    have d1 : Dr H H1 m c l l1 k1 := ⟨N1, f1, q1⟩
    refine ⟨1, r1, rfl, rfl, (by show 6 ≤ sizeLine; decide), fun p1 hp1 => ?_⟩
    have M1 := d1.at_.same (same_upd (o := HO.lst [V.int 1, V.int 1, V.int 1, V.int 2, V.int 2, V.int (1 + r1)]) hp1)
    have D1 := d1.same (same_upd (o := HO.lst [V.int 1, V.int 1, V.int 1, V.int 2, V.int 2, V.int (1 + r1)]) hp1)
    refine ⟨_, rfl, m, c, l1, k1, 6, rfl, M1, by decide, by decide, by omega, fun r2 H2 l2 k2 a2 b2 g2 N2 f2 q2 => ?_⟩
    have d2 : Dr _ H2 m c l1 l2 k2 := ⟨N2, f2, q2⟩
    obtain ⟨e2, _⟩ := d2.lst M1 upd_same (d1.at_.l_some hp1)
    have D2 := D1.trans d2
    obtain ⟨T, hT, t1, t7⟩ : ∃ T : Int, atI [V.int 1, V.int 1, V.int 1, V.int 2, V.int 2, V.int (1 + r1)] r2 = some (.int T) ∧ 1 ≤ T ∧ T ≤ 7 := by
      obtain ⟨j, rfl⟩ := Int.eq_ofNat_of_zero_le a2
      have hj : j < 6 := by omega
      match j, hj with
      | 0, _ => exact ⟨1, atI_nat (j := 0) rfl, by decide, by decide⟩
      | 1, _ => exact ⟨1, atI_nat (j := 1) rfl, by decide, by decide⟩
      | 2, _ => exact ⟨1, atI_nat (j := 2) rfl, by decide, by decide⟩
      | 3, _ => exact ⟨2, atI_nat (j := 3) rfl, by decide, by decide⟩
      | 4, _ => exact ⟨2, atI_nat (j := 4) rfl, by decide, by decide⟩
      | 5, _ => exact ⟨1 + r1, atI_nat (j := 5) rfl, by omega, by omega⟩
    refine ⟨p1, _, r2, .int T, rfl, rfl, SqL.of e2, hT, ?_⟩
    refine ⟨(by show 5 ≤ sizeLine; decide), fun p3 hp3 => ?_⟩
    have u3 := same_upd (o := HO.lst (fives.map V.str)) hp3
    have M3 := d2.at_.same u3
    refine ⟨_, rfl, m, c, l2, k2, 5, rfl, M3, by decide, by decide, by omega, fun r3 H3 l3 k3 a3 b3 g3 N3 f3 q3 => ?_⟩
    have d3 : Dr _ H3 m c l2 l3 k3 := ⟨N3, f3, q3⟩
    obtain ⟨e3, _⟩ := d3.lst M3 upd_same (d2.at_.l_some hp3)
    have D3 := (D2.same u3).trans d3
    obtain ⟨sg, hsg, hm⟩ : ∃ sg : Str, atI (fives.map V.str) r3 = some (.str sg) ∧ sg ∈ fives := by
      obtain ⟨j, rfl⟩ := Int.eq_ofNat_of_zero_le a3
      have hj : j < fives.length := by show j < 5; omega
      refine ⟨fives[j], atI_nat ?_, List.getElem_mem hj⟩
      rw [List.getElem?_map, List.getElem?_eq_getElem hj]
      rfl
    obtain ⟨z1, z7, zs⟩ := five_ok sg hm
    refine ⟨p3, _, r3, .str sg, rfl, rfl, SqL.of e3, hsg, ?_⟩
    refine ⟨⟨_, rfl⟩, _, rfl, T, rfl, by omega, by omega, fun D hD => ?_⟩
    have D4 := D3.same (same_upd (o := HO.lst []) hD)
    have nD := D3.at_.l_some hD
    have hD0 : H D = none ∨ True := .inr trivial
    refine lc_it walk_range (fun i H' => ∃ (ys : List Str) (l' : Addr) (k' : Int), H' D = some (.lst (ys.map V.str)) ∧ D ≠ l' ∧ ys.length = i ∧ (∀ y ∈ ys, ∃ c, y = ⟨#[c]⟩ ∧ c ∈ sgs) ∧ k' ≤ k3 + i ∧ MAt H' m c l' k' ∧ (l' = l ∨ H l' = none) ∧ ∀ b o, H b = some o → b ≠ m → b ≠ l → H' b = some o)
      ⟨[], l3, k3, upd_same, nD, rfl, (fun y h => by cases h), by omega, D4.at_, D4.hl, D4.kp⟩ (fun _ _ _ _ => trivial) ?_ ?_
    · rintro i x H4 H5 hi ⟨ys, l4, k4, hl, nl, ly, hy, kk, M4, f4, q4⟩ ⟨rfl, rfl⟩
      have d0 : Dr H H5 m c l l4 k4 := ⟨M4, f4, q4⟩
      have hi7 : i < 7 := by omega
      refine ⟨rfl, _, rfl, _, rfl, _, rfl, sg, rfl, by rw [sizeLine_eq]; omega, m, c, l4, k4, _, rfl, M4, by omega, by omega, by omega, fun r5 H6 l6 k6 a6 b6 g6 N6 f6 q6 => ?_⟩
      have d6 : Dr H5 H6 m c l4 l6 k6 := ⟨N6, f6, q6⟩
      obtain ⟨e6, n6⟩ := d6.lst M4 hl nl
      obtain ⟨j, rfl⟩ := Int.eq_ofNat_of_zero_le a6
      have js : j < (sl sg).length := by rw [← len_sl]; omega
      refine ⟨sg, (j : Int), (sl sg)[j], rfl, rfl, by rw [sizeLine_eq]; omega, atI_nat (List.getElem?_eq_getElem js), _, e6, ?_, ?_⟩
      · rw [List.length_map, ly, sizeLine_eq]
        omega
      · have dk := d0.trans d6
        have hDm : D ≠ m := ne_of e6 N6.hm (fun z => by cases z)
        refine ⟨ys ++ [⟨#[(sl sg)[j]]⟩], l6, k6, ?_, n6, by rw [List.length_append, ly]; rfl, fun y h => ?_, by omega, ?_, dk.hl, fun b o z h1 h2 => ?_⟩
        · rw [List.map_append]
          exact upd_same
        · rcases List.mem_append.mp h with h | h
          · exact hy y h
          · exact ⟨_, by simpa using h, zs _ (List.getElem_mem js)⟩
        · exact N6.upd hDm (D3.at_.c_some hD) n6
        · rw [upd_ne (ne_of_none (D3.kp b o z h1 h2) hD)]
          exact dk.kp b o z h1 h2
    · rintro H4 ⟨ys, l4, k4, hl, nl, ly, hy, kk, M4, f4, q4⟩
      have d4 : Dr H H4 m c l l4 k4 := ⟨M4, f4, q4⟩
      obtain ⟨w1, w2⟩ := flat_one hy
      rw [← txt_join] at w1 w2
      have le : ∀ zs : List Str, (∀ y ∈ zs, ∃ c, y = ⟨#[c]⟩ ∧ c ∈ sgs) → (zs.map (·.length)).sum = zs.length := by
        intro zs
        induction zs with
        | nil => exact fun _ => rfl
        | cons y zs ih =>
          intro h
          obtain ⟨c, e, _⟩ := h y (List.mem_cons_self ..)
          have e2 : y.length = 1 := by rw [e]; rfl
          rw [List.map_cons, List.sum_cons, e2, ih fun y hy => h y (List.mem_cons_of_mem _ hy), List.length_cons]
          omega
      have z0 : ("" : Str).length = 0 := by decide +kernel
      refine ⟨"", D, ys, rfl, rfl, .inl (SqL.of hl), by rw [le ys hy, z0]; omega, ?_⟩
      generalize hbd : Txt.join "" ys = body at w1 w2 ⊢
      have pc0 : Pc body false := ⟨sl body, by rw [if_neg (by simp), List.append_nil], by rw [w2]; omega, w1, fun _ e => by rw [e] at w2; simp at w2; omega⟩
      have pc1 : ∀ b2 : Str, (b2 = body ∨ b2 = "") → Pc (b2 ++ ";") true := fun b2 h => by
        refine ⟨sl b2, by rw [sl_app, semi, if_pos rfl], ?_, ?_, fun e => by cases e⟩
        · rcases h with h | h
          · rw [h, w2]
            omega
          · rw [h, sl_empty]
            exact Nat.zero_le _
        · rcases h with h | h
          · rw [h]
            exact w1
          · rw [h, sl_empty]
            exact fun c h => by cases h
      refine ⟨_, rfl, _, rfl, ?_⟩
      cases last with
      | false =>
        refine iteF ⟨_, rfl, ?_⟩
        exact q body H4 l4 k4 pc0 (by omega) d4
      | true =>
        refine iteT ?_
        refine ⟨_, rfl, _, rfl, (by show 3 ≤ sizeLine; decide), fun p5 hp5 => ?_⟩
        have u5 := same_upd (o := HO.lst [V.str body, V.str body, V.str ""]) hp5
        have M5 := M4.same u5
        refine ⟨_, rfl, m, c, l4, k4, 3, rfl, M5, by decide, by decide, by omega, fun r7 H7 l7 k7 a7 b7 g7 N7 f7 q7 => ?_⟩
        have d7 : Dr _ H7 m c l4 l7 k7 := ⟨N7, f7, q7⟩
        obtain ⟨e7, _⟩ := d7.lst M5 upd_same (M4.l_some hp5)
        obtain ⟨b2, hb2, hor⟩ : ∃ b2 : Str, atI [V.str body, V.str body, V.str ""] r7 = some (.str b2) ∧ (b2 = body ∨ b2 = "") := by
          obtain ⟨j, rfl⟩ := Int.eq_ofNat_of_zero_le a7
          have hj : j < 3 := by omega
          match j, hj with
          | 0, _ => exact ⟨body, atI_nat (j := 0) rfl, .inl rfl⟩
          | 1, _ => exact ⟨body, atI_nat (j := 1) rfl, .inl rfl⟩
          | 2, _ => exact ⟨"", atI_nat (j := 2) rfl, .inr rfl⟩
        have pcz := pc1 b2 hor
        have lz := (pc_len pcz).2
        refine ⟨p5, _, r7, .str b2, rfl, rfl, SqL.of e7, hb2, b2, ";", rfl, rfl, ?_, ?_⟩
        · rw [semi1, sizeLine_eq, len_sl]
          rw [len_sl, sl_app, List.length_append] at lz
          omega
        · exact q (b2 ++ ";") H7 l7 k7 pcz (by omega) ((d4.same u5).trans d7)
end
end K31
/-! Drawn framings. -/
namespace K31
open PySem L2 L2.EV
abbrev sFraming : Stmt := top 31
def d3 (x : T3) : PyData := .tuple [.int x.1, .str x.2.1, .int x.2.2]
theorem d3_eq (x y : T3) : PyData.eqv (d3 x) (d3 y) = decide (x = y) := by
  unfold d3
  simp only [PyData.eqv, PyData.eqvAll, Bool.and_true]
  by_cases e : x = y
  · subst e
    simp
  · rw [decide_eq_false e]
    cases h1 : (x.1 == y.1) with
    | false => rfl
    | true =>
      cases h2 : (x.2.1 == y.2.1) with
      | false => rfl
      | true =>
        cases h3 : (x.2.2 == y.2.2) with
        | false => rfl
        | true => exact absurd (Prod.ext (eq_of_beq h1) (Prod.ext (eq_of_beq h2) (eq_of_beq h3))) e
theorem sgs_low : ∀ c ∈ sgs, c < 0x110000 := by decide +kernel
theorem pc_ok {p : Str} {l : Bool} (h : Pc p l) : PyData.strOk p = true := by
  obtain ⟨b, e, _, hb, _⟩ := h
  unfold PyData.strOk
  rw [← Array.all_toList, show p.cps.toList = sl p from rfl, e, List.all_eq_true]
  intro c hc
  refine decide_eq_true ?_
  rcases List.mem_append.mp hc with hc | hc
  · exact sgs_low c (hb c hc)
  · cases l with
    | false => cases hc
    | true =>
      have z : c = 59 := by simpa using hc
      omega
theorem d3_lay {x : T3} (h : PyData.strOk x.2.1 = true) : PyData.canLay0 (d3 x) = true := by
  unfold d3
  simp only [PyData.canLay0, PyData.canLayAll0, Bool.and_true, Bool.and_self, h]
theorem d3_depth (x : T3) : (d3 x).depth ≤ 1 := by
  unfold d3
  simp only [PyData.depth, PyData.depthAll]
  omega
theorem d3_shaped {x : T3} (h : PyData.strOk x.2.1 = true) : SeqAt.shaped (d3 x) = true := by
  show (PyData.canLay0 (d3 x) && decide (PyData.depth (d3 x) ≤ 64)) = true
  rw [d3_lay h, decide_eq_true (Nat.le_trans (d3_depth x) (by decide))]
  rfl
theorem d3s_lay : ∀ xs : List T3, (∀ x ∈ xs, PyData.strOk x.2.1 = true) → PyData.canLayAll0 (xs.map d3) = true
  | [], _ => by simp [PyData.canLayAll0]
  | x :: xs, h => by
    rw [List.map_cons]
    simp only [PyData.canLayAll0, d3_lay (h x (List.mem_cons_self ..)), d3s_lay xs (fun y hy => h y (List.mem_cons_of_mem _ hy)), Bool.and_self]
theorem d3s_depth : ∀ xs : List T3, PyData.depthAll (xs.map d3) ≤ 1
  | [] => by simp [PyData.depthAll]
  | x :: xs => by
    rw [List.map_cons]
    simp only [PyData.depthAll]
    have h1 := d3_depth x
    have h2 := d3s_depth xs
    omega
theorem d3s_shaped {xs : List T3} (hx : ∀ x ∈ xs, PyData.strOk x.2.1 = true) : SeqAt.shaped (.list (xs.map d3)) = true := by
  show (PyData.canLay0 (.list (xs.map d3)) && decide (PyData.depth (.list (xs.map d3)) ≤ 64)) = true
  have h := d3s_depth xs
  have h1 : PyData.canLay0 (.list (xs.map d3)) = true := by simp only [PyData.canLay0]; exact d3s_lay xs hx
  have h2 : PyData.depth (.list (xs.map d3)) ≤ 64 := by simp only [PyData.depth]; omega
  rw [h1, decide_eq_true h2]
  rfl
/-- steps at ts -/
def At3 (H : Hp) (ts : List Addr) (xs : List T3) : Prop := ts.length = xs.length ∧ ∀ (i : Nat) t x, ts[i]? = some t → xs[i]? = some x → S3 H t x
theorem dp3 {K : PySem.W.Frag} {H : Hp} {t : Addr} {x : T3} (h : S3 H t x) : Dp K H (.ref t) (d3 x) := .tup (SqT.of h) (.cons (.int _) (.cons (.str _) (.cons (.int _) .nil)))
theorem dp3s {K : PySem.W.Frag} {H : Hp} : ∀ {ts : List Addr} {xs : List T3}, At3 H ts xs → DpAll K H (ts.map V.ref) (xs.map d3)
  | [], [], _ => .nil
  | [], _ :: _, h => by cases h.1
  | _ :: _, [], h => by cases h.1
  | t :: ts, x :: xs, h => .cons (dp3 (h.2 0 t x rfl rfl)) (dp3s ⟨by have := h.1; simpa using this, fun i t x h1 h2 => h.2 (i + 1) t x (by simpa using h1) (by simpa using h2)⟩)
theorem At3.same {H H' : Hp} {ts : List Addr} {xs : List T3} (h : At3 H ts xs) (s : KeepT H H') : At3 H' ts xs := ⟨h.1, fun i t x h1 h2 => s _ _ (h.2 i t x h1 h2)⟩
theorem At3.snoc {H : Hp} {ts : List Addr} {xs : List T3} {t : Addr} {x : T3} (h : At3 H ts xs) (hx : S3 H t x) : At3 H (ts ++ [t]) (xs ++ [x]) := by
  refine ⟨by rw [List.length_append, List.length_append, h.1]; rfl, fun i u y h1 h2 => ?_⟩
  by_cases e : i < ts.length
  · rw [List.getElem?_append_left e] at h1
    rw [List.getElem?_append_left (by rw [← h.1]; exact e)] at h2
    exact h.2 i u y h1 h2
  · have i1 := (List.getElem?_eq_some_iff.mp h1).1
    rw [List.length_append] at i1
    have e2 : i = ts.length := by simp only [List.length_cons, List.length_nil] at i1; omega
    subst e2
    rw [List.getElem?_append_right (Nat.le_refl _), Nat.sub_self] at h1
    rw [h.1, List.getElem?_append_right (Nat.le_refl _), Nat.sub_self] at h2
    have e3 : t = u := Option.some.inj h1
    have e4 : x = y := Option.some.inj h2
    rw [← e3, ← e4]
    exact hx
theorem At3.take {H : Hp} {ts : List Addr} {xs : List T3} (h : At3 H ts xs) (n : Nat) : At3 H (ts.take n) (xs.take n) := by
  refine ⟨by rw [List.length_take, List.length_take, h.1], fun i t x h1 h2 => ?_⟩
  rw [List.getElem?_take] at h1 h2
  by_cases e : i < n
  · rw [if_pos e] at h1 h2
    exact h.2 i t x h1 h2
  · rw [if_neg e] at h1
    cases h1
theorem lt3_tri {x y : T3} (h1 : lt3 x y = false) (h2 : lt3 y x = false) : x = y := by
  have a := lt3_no.mp h1
  have b := lt3_no.mp h2
  have e1 : x.1 = y.1 := by
    have a1 : ¬ x.1 < y.1 := fun q => a (.inl q)
    have b1 : ¬ y.1 < x.1 := fun q => b (.inl q)
    omega
  have a2 : ¬ sl x.2.1 < sl y.2.1 := fun q => a (.inr ⟨e1, .inl q⟩)
  have b2 : ¬ sl y.2.1 < sl x.2.1 := fun q => b (.inr ⟨e1.symm, .inl q⟩)
  have e2 : x.2.1 = y.2.1 := sl_inj (List.le_antisymm (List.not_lt.mp b2) (List.not_lt.mp a2))
  have a3 : ¬ x.2.2 < y.2.2 := fun q => a (.inr ⟨e1, .inr ⟨e2, q⟩⟩)
  have b3 : ¬ y.2.2 < x.2.2 := fun q => b (.inr ⟨e1.symm, .inr ⟨e2.symm, q⟩⟩)
  exact Prod.ext e1 (Prod.ext e2 (by omega))
def spFraming : Sp := fun vs H Q _ => ∃ (m c l : Addr) (k : Int), vs = [.ref m, .int 5] ∧ MAt H m c l k ∧ k < 700000 ∧
  ∀ (f : Addr) (fr : List T3) (last : Nat) (H' : Hp) (l' : Addr) (k' : Int), FrA H' f fr → Frm fr last → k' ≤ k + 400 → Dr H H' m c l l' k' → Q (.ref f) H'
/-- the found steps at F -/
structure FS (H H' : Hp) (m c l F : Addr) (kb : Int) (last : Nat) (xs : List T3) : Prop where
  ex : ∃ (ts : List Addr) (l' : Addr) (k' : Int), H' F = some (.lst (ts.map V.ref)) ∧ At3 H' ts xs ∧ F ≠ l' ∧ F ≠ m ∧ F ≠ c ∧ k' ≤ kb ∧ Dr H H' m c l l' k'
  ok : ∀ x ∈ xs, Stp x ∧ x.1 ≤ last ∧ x.2.2 ≤ last
  hF : ∀ b o, H b = some o → b ≠ m → b ≠ l → b ≠ F
theorem bl_eq (t : Int) : decide (V.int t = V.int 0) = decide (t = 0) := by
  rw [dec_int]
  by_cases z : t = 0
  · rw [z]
    rfl
  · rw [decide_eq_false z]
    exact beq_eq_false_iff_ne.mpr z
theorem Dr.keepT {H0 H : Hp} {m c l0 l : Addr} {k k0 : Int} (d : Dr H0 H m c l0 l k) (M : MAt H0 m c l0 k0) : KeepT H0 H := fun a xs e => d.tup M e
/-- one step more -/
theorem FS.push {H H1 H2 H3 : Hp} {m c l F l1 l2 t : Addr} {k1 k2 kb : Int} {last : Nat} {xs : List T3} {ts : List Addr} {x : T3} (hF : H1 F = some (.lst (ts.map V.ref))) (ha : At3 H1 ts xs) (n1 : F ≠ l1) (n2 : F ≠ m) (n3 : F ≠ c) (d1 : Dr H H1 m c l l1 k1)
    (d2 : Dr H1 H2 m c l1 l2 k2) (ht : H2 t = none) (e3 : H3 = upd (upd H2 t (.tup [.int x.1, .str x.2.1, .int x.2.2])) F (.lst (ts.map V.ref ++ [.ref t]))) (hk : k2 ≤ kb)
    (ok : ∀ y ∈ xs, Stp y ∧ y.1 ≤ last ∧ y.2.2 ≤ last) (okx : Stp x ∧ x.1 ≤ last ∧ x.2.2 ≤ last) (hF0 : ∀ b o, H b = some o → b ≠ m → b ≠ l → b ≠ F) : FS H H3 m c l F kb last (xs ++ [x]) := by
  obtain ⟨hF2, n4⟩ := d2.lst d1.at_ hF n1
  have u := same_upd (o := HO.tup [.int x.1, .str x.2.1, .int x.2.2]) ht
  have hF2' := u _ _ hF2
  have kt := keepT_upd (o := .lst (ts.map V.ref ++ [.ref t])) hF2' (fun xs z => by cases z)
  have D2 := (d1.trans d2).same u
  subst e3
  refine ⟨⟨ts ++ [t], l2, k2, by rw [List.map_append]; exact upd_same, ?_, n4, n2, n3, hk, ⟨D2.at_.upd n2 n3 n4, D2.hl, fun b o z h1 h2 => ?_⟩⟩, fun y hy => ?_, hF0⟩
  · refine At3.snoc (ha.same ?_) (kt _ _ upd_same)
    exact ((d2.keepT d1.at_).trans (Same.keepT u)).trans kt
  · rw [upd_ne (hF0 b o z h1 h2)]
    exact D2.kp b o z h1 h2
  · rcases List.mem_append.mp hy with h | h
    · exact ok y h
    · have e : y = x := by simpa using h
      rw [e]
      exact okx
def dd (xs : List T3) : List T3 := xs.foldl (fun acc x => if x ∈ acc then acc else acc ++ [x]) []
theorem dd_snoc (xs : List T3) (x : T3) : dd (xs ++ [x]) = if x ∈ dd xs then dd xs else dd xs ++ [x] := by
  unfold dd
  rw [List.foldl_append]
  rfl
theorem snoc_ind {α : Type} {p : List α → Prop} (h0 : p []) (h1 : ∀ l x, p l → p (l ++ [x])) (l : List α) : p l := by
  have z : ∀ n (l : List α), l.length = n → p l := by
    intro n
    induction n with
    | zero => exact fun l h => by rw [List.length_eq_zero_iff.mp h]; exact h0
    | succ n ih =>
      intro l h
      obtain ⟨M, y, rfl⟩ := SrtO.snoc_of (l := l) (by omega)
      exact h1 M y (ih M (by rw [List.length_append] at h; simp only [List.length_cons, List.length_nil] at h; omega))
  exact z _ l rfl
theorem dd_mem (y : T3) (xs : List T3) : y ∈ dd xs ↔ y ∈ xs := by
  refine snoc_ind (p := fun xs => y ∈ dd xs ↔ y ∈ xs) Iff.rfl (fun l x ih => ?_) xs
  rw [dd_snoc]
  by_cases e : x ∈ dd l
  · rw [if_pos e, ih, List.mem_append, List.mem_singleton]
    refine ⟨.inl, fun h => h.elim id fun z => ?_⟩
    rw [z]
    rw [z] at ih
    exact ih.mp e
  · rw [if_neg e, List.mem_append, ih, List.mem_append]
theorem dd_nodup (xs : List T3) : (dd xs).Nodup := by
  refine snoc_ind (p := fun xs => (dd xs).Nodup) List.nodup_nil (fun l x ih => ?_) xs
  rw [dd_snoc]
  by_cases e : x ∈ dd l
  · rw [if_pos e]
    exact ih
  · rw [if_neg e]
    refine List.nodup_append.mpr ⟨ih, by simp, fun a ha b hb => ?_⟩
    have e2 : b = x := by simpa using hb
    rw [e2]
    exact fun z => e (z ▸ ha)
theorem dd_len (xs : List T3) : (dd xs).length ≤ xs.length := by
  refine snoc_ind (p := fun xs => (dd xs).length ≤ xs.length) (Nat.le_refl _) (fun l x ih => ?_) xs
  rw [dd_snoc, List.length_append]
  split
  · omega
  · rw [List.length_append]
    omega
/-- the step that stands at an address -/
def stepAt (H : Hp) : V → T3
  | .ref t => match H t with
    | some (.tup [.int a, .str b, .int c]) => (a, b, c)
    | _ => (0, "", 0)
  | _ => (0, "", 0)
theorem stepAt_of {H : Hp} {t : Addr} {x : T3} (h : S3 H t x) : stepAt H (.ref t) = x := by
  unfold stepAt
  dsimp only
  rw [h]
theorem map_stepAt {H : Hp} {ts : List Addr} {xs : List T3} (h : At3 H ts xs) : (ts.map V.ref).map (stepAt H) = xs := by
  refine List.ext_getElem? fun i => ?_
  rw [List.getElem?_map, List.getElem?_map]
  by_cases hi : i < ts.length
  · have hx : i < xs.length := by rw [← h.1]; exact hi
    rw [List.getElem?_eq_getElem hi, List.getElem?_eq_getElem hx]
    show some (stepAt H (.ref ts[i])) = _
    rw [stepAt_of (h.2 i _ _ (List.getElem?_eq_getElem hi) (List.getElem?_eq_getElem hx))]
  · rw [List.getElem?_eq_none (by omega), List.getElem?_eq_none (by rw [← h.1]; omega)]
    rfl
/-- sorted: a framing -/
theorem frm_of {H : Hp} {ts : List Addr} {xs ys : List T3} {vs : List V} {last : Nat} (h : At3 H ts ys) (hy : ys = dd xs) (sr : SrtO.Srtd (fun x y => lt3 (stepAt H x) (stepAt H y)) vs) (pm : vs.Perm (ts.map V.ref)) (l1 : xs.length ≤ 16) (l5 : last ≤ 5)
    (ok : ∀ x ∈ xs, Stp x ∧ x.1 ≤ last ∧ x.2.2 ≤ last) (ring : ∀ k : Nat, k ≤ last → ∃ x ∈ xs, x.1 = (k : Int) ∧ x.2.2 = (if k < last then (k : Int) + 1 else 0)) : Frm (vs.map (stepAt H)) last ∧ ∃ us : List Addr, vs = us.map V.ref ∧ At3 H us (vs.map (stepAt H)) := by
  have pm2 : (vs.map (stepAt H)).Perm ys := by
    have z := pm.map (stepAt H)
    rw [map_stepAt h] at z
    exact z
  have mem : ∀ x, x ∈ vs.map (stepAt H) ↔ x ∈ xs := fun x => by rw [pm2.mem_iff, hy, dd_mem]
  have nd : (vs.map (stepAt H)).Nodup := by
    rw [pm2.nodup_iff, hy]
    exact dd_nodup xs
  have len : (vs.map (stepAt H)).length ≤ 16 := by
    rw [pm2.length_eq, hy]
    exact Nat.le_trans (dd_len xs) l1
  refine ⟨⟨?_, len, fun x hx => (ok x ((mem x).mp hx)).1, ?_, fun k hk => ?_, fun x hx => (ok x ((mem x).mp hx)).2, l5⟩, ?_⟩
  · obtain ⟨x, hx, _⟩ := ring 0 (Nat.zero_le _)
    have := (mem x).mpr hx
    exact List.length_pos_of_mem this
  · have s2 : (vs.map (stepAt H)).Pairwise fun x y => lt3 y x = false := List.pairwise_map.mpr sr
    refine (s2.and nd).imp fun {x y} z => ?_
    cases e : lt3 x y with
    | true => rfl
    | false => exact absurd (lt3_tri e z.1) z.2
  · obtain ⟨x, hx, e⟩ := ring k hk
    exact ⟨x, (mem x).mpr hx, e⟩
  · have rf : ∀ v ∈ vs, ∃ t x, v = V.ref t ∧ S3 H t x := fun v hv => by
      obtain ⟨t, ht, rfl⟩ := List.mem_map.mp (pm.mem_iff.mp hv)
      obtain ⟨i, hi, e⟩ := List.getElem_of_mem ht
      have hx : i < ys.length := by rw [← h.1]; exact hi
      exact ⟨t, ys[i], rfl, h.2 i t _ (by rw [List.getElem?_eq_getElem hi, e]) (List.getElem?_eq_getElem hx)⟩
    have go : ∀ ws : List V, (∀ v ∈ ws, ∃ t x, v = V.ref t ∧ S3 H t x) → ∃ us : List Addr, ws = us.map V.ref ∧ At3 H us (ws.map (stepAt H)) := by
      intro ws
      induction ws with
      | nil => exact fun _ => ⟨[], rfl, rfl, fun i t x h => by cases h⟩
      | cons v ws ih =>
        intro hw
        obtain ⟨t, x, rfl, hx⟩ := hw v (List.mem_cons_self ..)
        obtain ⟨us, e1, e2⟩ := ih fun v hv => hw v (List.mem_cons_of_mem _ hv)
        refine ⟨t :: us, by rw [e1]; rfl, by rw [List.length_cons, e2.1]; rfl, fun i u y h1 h2 => ?_⟩
        cases i with
        | zero =>
          have e3 : t = u := Option.some.inj h1
          have e4 : stepAt H (.ref t) = y := Option.some.inj h2
          rw [← e3, ← e4, stepAt_of hx]
          exact hx
        | succ i => exact e2.2 i u y (by simpa using h1) (by simpa using h2)
    exact go vs rf
end K31
/-! Drawn framings: the def. -/
namespace K31
open PySem L2 L2.EV
theorem cut_to {ts : List Addr} {i : Nat} : cutV (ts.map V.ref) none (some (i : Int)) = (ts.take i).map V.ref := by
  unfold cutV
  rw [HT.sIx_nat, HT.sIx_none, List.length_map, List.drop_zero, Nat.sub_zero, ← List.map_take]
  congr 1
  by_cases h : i ≤ ts.length
  · rw [Nat.min_eq_left h]
  · rw [Nat.min_eq_right (by omega), List.take_length, List.take_of_length_le (by omega)]
theorem any_d3 (y : T3) : ∀ xs : List T3, ((xs.map d3).any fun z => PyData.eqv z (d3 y)) = decide (y ∈ xs)
  | [] => by simp
  | x :: xs => by
    rw [List.map_cons, List.any_cons, any_d3 y xs, d3_eq]
    by_cases e : x = y
    · subst e
      simp
    · have e' : ¬ y = x := fun z => e z.symm
      rw [decide_eq_false e, Bool.false_or]
      by_cases m : y ∈ xs
      · rw [decide_eq_true m, decide_eq_true (List.mem_cons_of_mem _ m)]
      · rw [decide_eq_false m, decide_eq_false (fun z => (List.mem_cons.mp z).elim e' m)]
section
variable {P : Program} {w : World} {K : PySem.W.Frag} {mg : Str → Option Value} {base : Heap}
structure Lf (K : PySem.W.Frag) (mg : Str → Option Value) where
  L : Ls K mg
  f : Addr
  d : FuncData
  F : Fun K "_law_framing" "_law_framing" sFraming f d
  b : Binds K d ["m", "most"] []
  g : mg "_law_framing" = some (.ref f)
  so : mg "sorted" = none
  tu : mg "tuple" = none
  en : mg "enumerate" = none
theorem scFraming : FnScope ["m", "most", "last", "found", "here", "to", "again", "k", "step"] ["m", "most"] (defScope sFraming) := ⟨rfl, rfl, rfl, by decide +kernel, rfl, by decide +kernel, by decide +kernel⟩
theorem ok_framing (G : Lf K mg) : FnOk P w K mg base CX0 3 G.f G.d ["m", "most"] spFraming := by
  have GX : FnOk P w K mg base CX0 1 G.L.f1 G.L.d1 ["m", "total"] spNext := ok_next G.L.N G.L.T
  have GP : FnOk P w K mg base CX0 2 G.L.f2 G.L.d2 ["m", "last"] spPiece := ok_piece G.L
  refine G.F.ok scFraming (fun vs H Q E h => ?_) (fun cdv A outer s H vs Q E hr h => ?_)
  · obtain ⟨m, c, l, k, rfl, _⟩ := h
    rfl
  · obtain ⟨m, c, l, k, rfl, M, hk, q⟩ := h
    have hr1 := hr.mono (j := 1) (by omega)
    have hu65 : (A.deeper (PyProof.Rows.envOfC "_law_framing" (defScope sFraming) s.heap.objs.size G.f cdv)).units + 65 < cLine := by have := hr.un; omega
    refine ⟨_, pss_cons (ps_asg (pe_tup (pa_cons (pe_call GX hr1 (by rfl) G.L.mN G.L.N.kp G.L.bN .nil pass0 (pa_cons (pv 0) (pa_cons (pe_op op_add (pv 1) pe_int) pa_nil))) (pa_cons (pe_lst pa_nil) pa_nil))) (pg_tup rfl (pgs_cons (pg_name (i := 2) scFraming.nd rfl (Or.inl rfl)) (pgs_cons (pg_name (i := 3) scFraming.nd rfl (Or.inr rfl)) pgs_nil))))
      (pss_cons (ps_for PassesOwn.never rfl (pi_range1 (by rfl) G.L.ra (pa_cons (pe_op op_add (pv 2) pe_int) pa_nil)) (pg_name (i := 4) scFraming.nd rfl (Or.inl rfl))
        (pss_cons (ps_set (i := 5) scFraming.nd rfl (Or.inl rfl) (pe_ifExp (pt_cmpR op_lt (pv 4) (pv 2) (nomark _)) (pe_op op_add (pv 4) pe_int) pe_int))
        (pss_one (ps_expr (pe_bm PySem.F.plainAttrs_list PySem.F.slot_list_append PySem.F.type_list_append mt_append (pv 3) (pa_cons (pe_tup (pa_cons (pv 4) (pa_cons (pe_call GP hr (by rfl) G.L.mP G.L.P.kp G.L.bP .nil pass0 (pa_cons (pv 0) (pa_cons (pe_cmpR op_eq (pv 5) pe_int (nomark _)) pa_nil))) (pa_cons (pv 5) pa_nil)))) pa_nil))))))
      (pss_cons (ps_for PassesOwn.never rfl (pi_range1 (by rfl) G.L.ra (pa_cons (pe_call GX hr1 (by rfl) G.L.mN G.L.N.kp G.L.bN .nil pass0 (pa_cons (pv 0) (pa_cons pe_int pa_nil))) pa_nil)) (pg_name (i := 6) scFraming.nd rfl (Or.inl rfl))
        (pss_cons (ps_par (i := 4) (j := 5) (x := "here") (y := "to") rfl scFraming.nd rfl rfl (by decide) rfl rfl (pa_cons (pe_call GX hr1 (by rfl) G.L.mN G.L.N.kp G.L.bN .nil pass0 (pa_cons (pv 0) (pa_cons (pe_op op_add (pv 2) pe_int) pa_nil))) (pa_cons (pe_call GX hr1 (by rfl) G.L.mN G.L.N.kp G.L.bN .nil pass0 (pa_cons (pv 0) (pa_cons (pe_op op_add (pv 2) pe_int) pa_nil))) pa_nil)) (by rfl))
        (pss_one (ps_expr (pe_bm PySem.F.plainAttrs_list PySem.F.slot_list_append PySem.F.type_list_append mt_append (pv 3) (pa_cons (pe_tup (pa_cons (pv 4) (pa_cons (pe_call GP hr (by rfl) G.L.mP G.L.P.kp G.L.bP .nil pass0 (pa_cons (pv 0) (pa_cons (pe_cmpR op_eq (pv 5) pe_int (nomark _)) pa_nil))) (pa_cons (pv 5) pa_nil)))) pa_nil))))))
      (pss_one (ps_ret (pe_callTy call_tuple_of (by rfl) G.tu (by decide +kernel) (pa_cons (pe_callB cr_sorted3 (by rfl) G.so (by decide +kernel) (pa_cons (pe_lc (own := [("k", 7), ("step", 8)]) (g := gTup K 2 (gCons (gName 7) (gCons (gName 8) gNil))) (tt := tTest (tOp (rNotInD K) (tVar 8) (tSl (rSlL K) (tVar 3) tNoPart (tPart (tVar 7))))) (te := tVar 8) rfl scFraming.nd
        (pi_enum (by rfl) G.en (pa_cons (pv 3) pa_nil)) (blkOk_by (N := ["m", "most", "last", "found", "here", "to", "again", "k", "step"]) (sc := defScope sFraming) (by decide +kernel))
        (fun _ _ _ _ _ => pg_tup rfl (pgs_cons (pg_name (i := 7) scFraming.nd rfl (Or.inl rfl)) (pgs_cons (pg_name (i := 8) scFraming.nd rfl (Or.inl rfl)) pgs_nil)))
        (fun _ _ _ _ _ => pts_one (pt_cmpR (op_notInD hu65) (pv 8) (pe_slice sl_list (pv 3) po_none (po_some (pv 7))) (by rfl))) (fun _ _ _ _ _ => pv 8)) pa_nil)) pa_nil)))))), ?_⟩
    refine ⟨_, rfl, _, rfl, 5, 1, rfl, rfl, m, c, l, k, _, rfl, M, by decide, by decide, by omega, fun r0 H1 l1 k1 a1 b1 g1 N1 f1 q1 => ?_⟩
    have d1 : Dr H H1 m c l l1 k1 := ⟨N1, f1, q1⟩
    obtain ⟨last, rfl⟩ := Int.eq_ofNat_of_zero_le a1
    have l5 : last ≤ 5 := by omega
    refine ⟨by decide, fun F hF => ⟨(by show 2 ≤ sizeLine; decide), fun p hp => ?_⟩⟩
    have u1 := same_upd (o := HO.lst []) hF
    have u2 := same_upd (o := HO.tup [V.int (last : Int), V.ref F]) hp
    refine ⟨p, _, rfl, SqT.of upd_same, rfl, _, _, rfl, _, _, rfl, rfl, ?_⟩
    have D1 := d1.same (u1.trans u2)
    have fs0 : FS H _ m c l F k1 last [] := ⟨⟨[], l1, k1, u2 _ _ upd_same, ⟨rfl, fun i t x h => by cases h⟩, N1.l_some hF, (ne_of_none N1.hm hF).symm, N1.c_some hF, Int.le_refl _, D1⟩, (fun x h => by cases h), fun b o z h1 h2 => ne_of_none (d1.kp b o z h1 h2) hF⟩
    have hn : ((last : Int) + 1).toNat = last + 1 := by omega
    refine ⟨_, rfl, last, 1, rfl, rfl, _, rfl, by omega, by omega, for_it walk_range (fun i σ H' => ∃ (v4 v5 : Option V) (xs : List T3), σ = [some (.ref m), some (.int 5), some (.int (last : Int)), some (.ref F), v4, v5, none, none, none] ∧
      FS H H' m c l F (k1 + 21 * i) last xs ∧ xs.length = i ∧ ∀ j : Nat, j < i → ∃ x ∈ xs, x.1 = (j : Int) ∧ x.2.2 = (if j < last then (j : Int) + 1 else 0))
      ⟨none, none, [], rfl, by simpa using fs0, rfl, fun j h => absurd h (by omega)⟩ (fun _ _ _ _ _ => trivial) ?_ ?_⟩
    · rintro i x σ H2 H3 hi ⟨v4, v5, xs, rfl, fs, lx, rg⟩ ⟨rfl, rfl⟩
      have hil : i ≤ last := by omega
      obtain ⟨ts, l3, k3, hF3, ha3, n3, nm, nc, kk3, D3⟩ := fs.ex
      have M3 := D3.at_
      refine ⟨_, rfl, _, rfl, _, _, rfl, rfl, _, rfl, ?_⟩
      have fin : ∀ (t : Int) (pp : Str) (H' : Hp), t = (if i < last then (i : Int) + 1 else 0) → FS H H' m c l F (k1 + 21 * ((i + 1 : Nat) : Int)) last (xs ++ [(0 + (i : Int), pp, t)]) → (xs ++ [(0 + (i : Int), pp, t)]).length = i + 1 ∧ ∀ j : Nat, j < i + 1 → ∃ x ∈ xs ++ [(0 + (i : Int), pp, t)], x.1 = (j : Int) ∧ x.2.2 = (if j < last then (j : Int) + 1 else 0) := fun t pp H' et _ => by
        refine ⟨by rw [List.length_append, lx]; rfl, fun j hj => ?_⟩
        by_cases e : j = i
        · subst e
          exact ⟨_, List.mem_append_right _ (List.mem_singleton.mpr rfl), Int.zero_add _, et⟩
        · obtain ⟨x, hx, e2⟩ := rg j (by omega)
          exact ⟨x, List.mem_append_left _ hx, e2⟩
      refine ite2 (fun z => ?_) (fun z => ?_)
      · have z1 : 0 + (i : Int) < last := of_decide_eq_true z
        refine ⟨_, rfl, _, 1, rfl, rfl, ?_⟩
        refine ⟨_, rfl, .inl ⟨rfl, _, SqL.of hF3⟩, _, rfl, _, rfl, _, rfl, rfl, m, c, l3, k3, decide (V.int (0 + (i : Int) + 1) = V.int 0), rfl, M3, by omega, fun pp H4 l4 k4 hp kk4 d4 => ?_⟩
        rw [bl_eq] at hp
        refine ⟨_, rfl, (by show 3 ≤ sizeLine; decide), fun tp htp => ?_⟩
        obtain ⟨hF4, n4⟩ := d4.lst M3 hF3 n3
        refine ⟨F, ts.map V.ref, _, rfl, rfl, same_upd htp _ _ hF4, by rw [List.length_map, ha3.1, sizeLine_eq]; omega, ?_⟩
        have okx : Stp ((0 + (i : Int), pp, 0 + (i : Int) + 1) : T3) ∧ (0 + (i : Int) : Int) ≤ last ∧ (0 + (i : Int) + 1 : Int) ≤ last := ⟨⟨by show (0 : Int) ≤ 0 + i; omega, by show (0 + (i : Int)) < 6; omega, hp, by show (0 : Int) ≤ 0 + i + 1; omega, by show (0 + (i : Int) + 1) < 6; omega⟩, by omega, by omega⟩
        have fs' := FS.push (x := (0 + (i : Int), pp, 0 + (i : Int) + 1)) hF3 ha3 n3 nm nc D3 d4 htp rfl (kb := k1 + 21 * ((i + 1 : Nat) : Int)) (by omega) fs.ok okx fs.hF
        
        have et : 0 + (i : Int) + 1 = (if i < last then (i : Int) + 1 else 0) := by rw [if_pos (by omega)]; omega
        obtain ⟨w1, w2⟩ := fin _ pp _ et fs'
        exact ⟨_, _, _, rfl, fs', w1, w2⟩
      · have z1 : ¬ 0 + (i : Int) < last := fun y => z (decide_eq_true y)
        refine ⟨_, rfl, .inl ⟨rfl, _, SqL.of hF3⟩, _, rfl, _, rfl, _, rfl, rfl, m, c, l3, k3, decide (V.int (0) = V.int 0), rfl, M3, by omega, fun pp H4 l4 k4 hp kk4 d4 => ?_⟩
        rw [bl_eq] at hp
        refine ⟨_, rfl, (by show 3 ≤ sizeLine; decide), fun tp htp => ?_⟩
        obtain ⟨hF4, n4⟩ := d4.lst M3 hF3 n3
        refine ⟨F, ts.map V.ref, _, rfl, rfl, same_upd htp _ _ hF4, by rw [List.length_map, ha3.1, sizeLine_eq]; omega, ?_⟩
        have okx : Stp ((0 + (i : Int), pp, 0) : T3) ∧ (0 + (i : Int) : Int) ≤ last ∧ (0 : Int) ≤ last := ⟨⟨by show (0 : Int) ≤ 0 + i; omega, by show (0 + (i : Int)) < 6; omega, hp, Int.le_refl _, (by show (0 : Int) < 6; decide)⟩, by omega, by omega⟩
        have fs' := FS.push (x := (0 + (i : Int), pp, 0)) hF3 ha3 n3 nm nc D3 d4 htp rfl (kb := k1 + 21 * ((i + 1 : Nat) : Int)) (by omega) fs.ok okx fs.hF
        
        have et : (0 : Int) = (if i < last then (i : Int) + 1 else 0) := by rw [if_neg (by omega)]
        obtain ⟨w1, w2⟩ := fin _ pp _ et fs'
        exact ⟨_, _, _, rfl, fs', w1, w2⟩
    · rintro σ H2 ⟨v4, v5, xs, rfl, fs, lx, rg⟩
      rw [hn] at fs lx rg
      obtain ⟨ts, l3, k3, hF3, ha3, n3, nm, nc, kk3, D3⟩ := fs.ex
      refine ⟨_, rfl, m, c, l3, k3, 7, rfl, D3.at_, by decide, by decide, by omega, fun r2 H3 l4 k4 a4 b4 g4 N4 f4 q4 => ?_⟩
      have d4 : Dr H2 H3 m c l3 l4 k4 := ⟨N4, f4, q4⟩
      obtain ⟨hF4, n4⟩ := d4.lst D3.at_ hF3 n3
      have fs4 : FS H H3 m c l F (k1 + 127) last xs := ⟨⟨ts, l4, k4, hF4, ha3.same (d4.keepT D3.at_), n4, nm, nc, by omega, D3.trans d4⟩, fs.ok, fs.hF⟩
      refine ⟨r2, rfl, by omega, by omega, for_it walk_range (fun i σ H' => ∃ (v4 v5 v6 : Option V) (xs : List T3), σ = [some (.ref m), some (.int 5), some (.int (last : Int)), some (.ref F), v4, v5, v6, none, none] ∧
        FS H H' m c l F (k1 + 127 + 23 * i) last xs ∧ xs.length = last + 1 + i ∧ ∀ j : Nat, j < last + 1 → ∃ x ∈ xs, x.1 = (j : Int) ∧ x.2.2 = (if j < last then (j : Int) + 1 else 0))
        ⟨v4, v5, none, xs, rfl, by simpa using fs4, lx, rg⟩ (fun _ _ _ _ _ => trivial) ?_ ?_⟩
      · rintro i x σ H5 H6 hi ⟨v4, v5, v6, xs, rfl, fs, lx, rg⟩ ⟨rfl, rfl⟩
        have hi6 : i < 7 := by omega
        obtain ⟨ts, l5', k5, hF5, ha5, n5, nm, nc, kk5, D5⟩ := fs.ex
        refine ⟨_, rfl, _, rfl, last, 1, rfl, rfl, m, c, l5', k5, _, rfl, D5.at_, by omega, by omega, by omega, fun rh H7 l7 k7 a7 b7 g7 N7 f7 q7 => ?_⟩
        have d7 : Dr _ H7 m c l5' l7 k7 := ⟨N7, f7, q7⟩
        refine ⟨_, rfl, _, rfl, last, 1, rfl, rfl, m, c, l7, k7, _, rfl, N7, by omega, by omega, by omega, fun rt H8 l8 k8 a8 b8 g8 N8 f8 q8 => ?_⟩
        have d8 : Dr _ H8 m c l7 l8 k8 := ⟨N8, f8, q8⟩
        have D3 := D5.trans (d7.trans d8)
        have M3 := D3.at_
        obtain ⟨hF3, n3⟩ := (d7.trans d8).lst D5.at_ hF5 n5
        have ha3 := ha5.same ((d7.trans d8).keepT D5.at_)
        refine ⟨_, _, rfl, ?_⟩
        refine ⟨_, rfl, .inl ⟨rfl, _, SqL.of hF3⟩, _, rfl, _, rfl, _, rfl, rfl, m, c, l8, k8, decide (V.int (rt) = V.int 0), rfl, M3, by omega, fun pp H4 l4 k4 hp kk4 d4 => ?_⟩
        rw [bl_eq] at hp
        refine ⟨_, rfl, (by show 3 ≤ sizeLine; decide), fun tp htp => ?_⟩
        obtain ⟨hF4, n4⟩ := d4.lst M3 hF3 n3
        refine ⟨F, ts.map V.ref, _, rfl, rfl, same_upd htp _ _ hF4, by rw [List.length_map, ha3.1, sizeLine_eq]; omega, ?_⟩
        have okx : Stp ((rh, pp, rt) : T3) ∧ (rh : Int) ≤ last ∧ (rt : Int) ≤ last := ⟨⟨a7, by show rh < 6; omega, hp, a8, by show rt < 6; omega⟩, by omega, by omega⟩
        have fs' := FS.push (x := (rh, pp, rt)) hF3 ha3 n3 nm nc D3 d4 htp rfl (kb := k1 + 127 + 23 * ((i + 1 : Nat) : Int)) (by omega) fs.ok okx fs.hF
        
        exact ⟨_, _, _, _, rfl, fs', by rw [List.length_append, lx]; rfl, fun j hj => by
          obtain ⟨x, hx, e2⟩ := rg j hj
          exact ⟨x, List.mem_append_left _ hx, e2⟩⟩
      · rintro σ H5 ⟨v4, v5, v6, xs, rfl, fs, lx, rg⟩
        obtain ⟨ts, l6, k6, hF6, ha6, n6, nm, nc, kk6, D6⟩ := fs.ex
        have hr2 : r2.toNat ≤ 6 := by omega
        have l16 : xs.length ≤ 16 := by omega
        have sok : ∀ x ∈ xs, PyData.strOk x.2.1 = true := fun x hx => pc_ok (fs.ok x hx).1.2.2.1
        refine ⟨_, rfl, F, _, rfl, SqL.of hF6, fun D hD => ?_⟩
        have nFD : F ≠ D := ne_of_none hF6 hD
        refine lc_it (walk_enum (xs := ts.map V.ref)) (fun i H' => ∃ ks : List Addr, H' D = some (.lst (ks.map V.ref)) ∧ At3 H' ks (dd (xs.take i)) ∧ ∀ b o, H5 b = some o → H' b = some o)
          ⟨[], upd_same, ⟨rfl, fun i t x h => by cases h⟩, fun b o z => same_upd hD b o z⟩ (fun i H' _ ⟨_, _, _, z⟩ => SqL.of (z _ _ hF6)) ?_ ?_
        · rintro i x H6 H7 hi ⟨ks, hk, hka, kp⟩ ⟨T, xi, xo, rfl, nT, rfl, h1, h2⟩
          cases h1
          obtain ⟨t, y, hy, rfl, e4⟩ := at_step (i := i) ha6.1 ha6.2 h2
          have uT := same_upd (o := HO.tup [V.int (i : Nat), V.ref t]) nT
          have il : i < xs.length := (List.getElem?_eq_some_iff.mp hy).1
          refine ⟨T, _, rfl, SqT.of upd_same, rfl, _, _, rfl, _, _, rfl, rfl, rfl, ?_⟩
          refine ⟨_, rfl, _, rfl, _, rfl, _, rfl, F, _, rfl, SqL.of (uT _ _ (kp _ _ hF6)), fun p5 hp5 => ?_⟩
          have u5 := same_upd (o := HO.lst (cutV (ts.map V.ref) none (some ((i : Nat) : Int)))) hp5
          have s5 : Same H5 _ := (show Same H5 H6 from kp).trans (uT.trans u5)
          have t5 := s5 _ _ e4
          refine ⟨d3 y, (xs.take i).map d3, dp3 t5, .lst (SqL.of upd_same) ?_, d3_shaped (sok y (List.mem_of_getElem? hy)), d3s_shaped (fun x hx => sok x (List.mem_of_mem_take hx)), _, rfl, ?_⟩
          · rw [cut_to] at s5 ⊢
            exact dp3s ((ha6.take i).same (Same.keepT s5))
          · rw [any_d3]
            have kk := uT.trans u5
            refine ite2 (fun z => ?_) (fun z => ?_)
            · have nm2 : ¬ y ∈ dd (xs.take i) := fun w => by
                rw [decide_eq_true ((dd_mem _ _).mp w)] at z
                cases z
              have hk5 := kk _ _ hk
              have kt := keepT_upd (o := .lst (ks.map V.ref ++ [.ref t])) hk5 (fun xs z => by cases z)
              refine ⟨_, rfl, _, hk5, ?_, ks ++ [t], ?_, ?_, fun b o w => ?_⟩
              · have := dd_len (xs.take i)
                rw [List.length_take] at this
                rw [List.length_map, hka.1, sizeLine_eq]
                omega
              · rw [List.map_append]
                exact upd_same
              · rw [take_one hy, dd_snoc, if_neg nm2]
                exact (hka.same ((Same.keepT kk).trans kt)).snoc (kt _ _ t5)
              · rw [upd_ne (ne_of_none w hD)]
                exact s5 _ _ w
            · have nm2 : y ∈ dd (xs.take i) := (dd_mem _ _).mpr (by
                by_cases w : y ∈ xs.take i
                · exact w
                · rw [decide_eq_false w] at z
                  exact absurd rfl z)
              refine ⟨ks, kk _ _ hk, ?_, fun b o w => s5 _ _ w⟩
              rw [take_one hy, dd_snoc, if_pos nm2]
              exact hka.same (Same.keepT kk)
        · rintro H6 ⟨ks, hk, hka, kp⟩
          rw [List.length_map, ha6.1, List.take_length] at hka
          have hkm := map_stepAt hka
          refine ⟨D, _, stepAt H6, rfl, SqL.of hk, fun x hx => ?_, fun ys p5 sr pm hp5 => ?_⟩
          · obtain ⟨t, ht, rfl⟩ := List.mem_map.mp hx
            obtain ⟨j, hj, e⟩ := List.getElem_of_mem ht
            have hx2 : j < (dd xs).length := by rw [← hka.1]; exact hj
            have s3 := hka.2 j t _ (by rw [List.getElem?_eq_getElem hj, e]) (List.getElem?_eq_getElem hx2)
            refine ⟨t, rfl, ?_⟩
            rw [stepAt_of s3]
            exact s3
          · obtain ⟨fm, us, eu, hu⟩ := frm_of hka rfl sr pm l16 l5 fs.ok (fun k hk => rg k (by omega))
            have u5 := same_upd (o := HO.lst ys) hp5
            refine ⟨p5, _, rfl, .inl ⟨SqL.of upd_same, fun p6 hp6 => ?_⟩⟩
            have u6 := same_upd (o := HO.tup ys) hp6
            have k5 : Same H5 _ := (show Same H5 H6 from kp).trans (u5.trans u6)
            refine q p6 (ys.map (stepAt H6)) last _ l6 k6 ⟨us, by rw [← eu]; exact upd_same, hu.1, fun i t x h1 h2 => (u5.trans u6) _ _ (hu.2 i t x h1 h2)⟩ fm (by omega) (D6.same k5)
end
end K31
/-! Drawn weavings. -/
namespace K31
open PySem L2 L2.EV
abbrev sFrom : Stmt := top 32
abbrev sWeave : Stmt := top 33
def spFrom : Sp := fun vs H Q _ => ∃ (f : Addr) (fr : List T3) (last : Nat) (h : Int), vs = [.ref f, .int h] ∧ FrA H f fr ∧ Frm fr last ∧
  ∀ (H' : Hp) (p : Addr) (ns : List Int), Same H H' → H p = none → H' p = some (.lst (ns.map V.int)) → ns.length ≤ 16 → (∀ n ∈ ns, 0 ≤ n ∧ n < fr.length ∧ (stt fr n).1 = h) → ((∃ x ∈ fr, x.1 = h) → ns ≠ []) → Q (.ref p) H'
def At2 (H : Hp) (ts : List Addr) (es : List E2) : Prop := ts.length = es.length ∧ ∀ (i : Nat) t e, ts[i]? = some t → es[i]? = some e → A2 H t e
theorem At2.same {H H' : Hp} {ts : List Addr} {xs : List E2} (h : At2 H ts xs) (s : KeepT H H') : At2 H' ts xs := ⟨h.1, fun i t x h1 h2 => s _ _ (h.2 i t x h1 h2)⟩
theorem At2.snoc {H : Hp} {ts : List Addr} {xs : List E2} {t : Addr} {x : E2} (h : At2 H ts xs) (hx : A2 H t x) : At2 H (ts ++ [t]) (xs ++ [x]) := by
  refine ⟨by rw [List.length_append, List.length_append, h.1]; rfl, fun i u y h1 h2 => ?_⟩
  by_cases e : i < ts.length
  · rw [List.getElem?_append_left e] at h1
    rw [List.getElem?_append_left (by rw [← h.1]; exact e)] at h2
    exact h.2 i u y h1 h2
  · have i1 := (List.getElem?_eq_some_iff.mp h1).1
    rw [List.length_append] at i1
    have e2 : i = ts.length := by simp only [List.length_cons, List.length_nil] at i1; omega
    subst e2
    rw [List.getElem?_append_right (Nat.le_refl _), Nat.sub_self] at h1
    rw [h.1, List.getElem?_append_right (Nat.le_refl _), Nat.sub_self] at h2
    have e3 : t = u := Option.some.inj h1
    have e4 : x = y := Option.some.inj h2
    rw [← e3, ← e4]
    exact hx
def spWeave : Sp := fun vs H Q _ => ∃ (m c l f : Addr) (k : Int) (fr : List T3) (last nw tot : Nat), vs = [.ref m, .ref f, .int nw, .int tot] ∧ MAt H m c l k ∧ k < 600000 ∧ FrA H f fr ∧ Frm fr last ∧ 1 ≤ nw ∧ nw ≤ 8 ∧ tot ≤ 60 ∧
  ∀ (w : Addr) (es : List E2) (H' : Hp) (l' : Addr) (k' : Int), WvA H' w es → Wv fr es → k' ≤ k + 200 → Dr H H' m c l l' k' → Q (.ref w) H'
theorem wv_snoc {fr : List T3} {es : List E2} {e : E2} (W : Wv fr es) (hl : es.length < 60) (he : Ent fr e) (g : (plc fr es)[e.1.toNat]? = some (stt fr e.2).1) : Wv fr (es ++ [e]) := by
  refine ⟨by rw [List.length_append]; simp only [List.length_cons, List.length_nil]; omega, fun x hx => ?_, fun i x hx => ?_⟩
  · rcases List.mem_append.mp hx with h | h
    · exact W.ent x h
    · have e2 : x = e := by simpa using h
      rw [e2]
      exact he
  · by_cases hi : i < es.length
    · rw [List.getElem?_append_left hi] at hx
      rw [List.take_append_of_le_length (by omega)]
      exact W.go i x hx
    · have i1 := (List.getElem?_eq_some_iff.mp hx).1
      rw [List.length_append] at i1
      have e2 : i = es.length := by simp only [List.length_cons, List.length_nil] at i1; omega
      subst e2
      rw [List.getElem?_append_right (Nat.le_refl _), Nat.sub_self] at hx
      have e3 : e = x := Option.some.inj hx
      rw [List.take_left' rfl, ← e3]
      exact g
theorem rep_flat : ∀ n : Nat, (List.replicate n [V.int 0]).flatten = (List.replicate n (0 : Int)).map V.int
  | 0 => rfl
  | n + 1 => by
    rw [List.replicate_succ, List.flatten_cons, rep_flat n, List.replicate_succ]
    rfl
structure WS (H H' : Hp) (m c l F W : Addr) (kb : Int) (fr : List T3) (nw : Nat) (es : List E2) : Prop where
  ex : ∃ (ts : List Addr) (l' : Addr) (k' : Int), H' F = some (.lst (ts.map V.ref)) ∧ At2 H' ts es ∧ H' W = some (.lst (((plc fr es).take nw).map V.int)) ∧ F ≠ l' ∧ F ≠ m ∧ F ≠ c ∧ W ≠ l' ∧ W ≠ m ∧ W ≠ c ∧ k' ≤ kb ∧ Dr H H' m c l l' k'
  hF : H F = none
  hW : H W = none
  fw : F ≠ W
theorem WS.push {H H1 : Hp} {m c l F W l1 tp : Addr} {k1 kb : Int} {fr : List T3} {nw : Nat} {es : List E2} {ts : List Addr} {e : E2} (hF1 : H1 F = some (.lst (ts.map V.ref))) (ha : At2 H1 ts es) (hW1 : H1 W = some (.lst (((plc fr es).take nw).map V.int)))
    (n1 : F ≠ l1) (n2 : F ≠ m) (n3 : F ≠ c) (n4 : W ≠ l1) (n5 : W ≠ m) (n6 : W ≠ c) (hk : k1 ≤ kb) (d : Dr H H1 m c l l1 k1) (ht : H1 tp = none) (hF : H F = none) (hW : H W = none) (fw : F ≠ W) :
    WS H (upd (upd (upd H1 tp (.tup [.int e.1, .int e.2])) F (.lst (ts.map V.ref ++ [.ref tp]))) W (.lst ((((plc fr es).take nw).map V.int).set e.1.toNat (.int (stt fr e.2).2.2)))) m c l F W kb fr nw (es ++ [e]) := by
  have u := same_upd (o := HO.tup [V.int e.1, V.int e.2]) ht
  have kF := keepT_upd (o := .lst (ts.map V.ref ++ [.ref tp])) (u _ _ hF1) (fun xs z => by cases z)
  have hW2 : upd (upd H1 tp (.tup [.int e.1, .int e.2])) F (.lst (ts.map V.ref ++ [.ref tp])) W = some (.lst (((plc fr es).take nw).map V.int)) := by
    rw [upd_ne fw.symm]
    exact u _ _ hW1
  have kW := keepT_upd (o := .lst ((((plc fr es).take nw).map V.int).set e.1.toNat (.int (stt fr e.2).2.2))) hW2 (fun xs z => by cases z)
  have kk := (Same.keepT u).trans (kF.trans kW)
  have D := d.same u
  refine ⟨⟨ts ++ [tp], l1, k1, by rw [List.map_append, upd_ne fw]; exact upd_same, (ha.same kk).snoc (kW _ _ (kF _ _ upd_same)), ?_, n1, n2, n3, n4, n5, n6, hk, ⟨(D.at_.upd n2 n3 n1).upd n5 n6 n4, D.hl, fun b o z h1 h2 => ?_⟩⟩, hF, hW, fw⟩
  · rw [upd_same, plc_snoc, List.take_set, List.map_set]
  · rw [upd_ne (ne_of_none z hW), upd_ne (ne_of_none z hF)]
    exact D.kp b o z h1 h2
/-- the standings of the writers -/
theorem plc_ok {fr : List T3} {last : Nat} (fm : Frm fr last) {es : List E2} (h : ∀ e ∈ es, Ent fr e) : ∀ g ∈ plc fr es, 0 ≤ g ∧ g ≤ last := by
  refine snoc_ind (p := fun es => (∀ e ∈ es, Ent fr e) → ∀ g ∈ plc fr es, 0 ≤ g ∧ g ≤ last) (fun _ g hg => ?_) (fun l e ih h g hg => ?_) es h
  · have z : g = 0 := by
      have := List.eq_of_mem_replicate (show g ∈ List.replicate 8 (0 : Int) from hg)
      exact this
    subst z
    omega
  · rw [plc_snoc] at hg
    rcases List.mem_or_eq_of_mem_set hg with z | z
    · exact ih (fun e he => h e (List.mem_append_left _ he)) g z
    · obtain ⟨_, _, n0, n1⟩ := h e (List.mem_append_right _ (List.mem_singleton.mpr rfl))
      have hm : stt fr e.2 ∈ fr := by
        obtain ⟨k, hk⟩ := Int.eq_ofNat_of_zero_le n0
        unfold stt
        rw [hk] at n1 ⊢
        have kl : k < fr.length := by omega
        rw [List.getD_eq_getElem?_getD, Int.toNat_natCast, List.getElem?_eq_getElem kl]
        exact List.getElem_mem kl
      rw [z]
      exact ⟨(fm.stp _ hm).2.2.2.1, (fm.lo _ hm).2⟩
section
variable {P : Program} {w : World} {K : PySem.W.Frag} {mg : Str → Option Value} {base : Heap}
structure Lw (K : PySem.W.Frag) (mg : Str → Option Value) where
  G : Lf K mg
  f1 : Addr
  f2 : Addr
  d1 : FuncData
  d2 : FuncData
  F : Fun K "_law_from" "_law_from" sFrom f1 d1
  W : Fun K "_law_weaving" "_law_weaving" sWeave f2 d2
  bF : Binds K d1 ["framing", "here"] []
  bW : Binds K d2 ["m", "framing", "writers", "total"] []
  gF : mg "_law_from" = some (.ref f1)
  gW : mg "_law_weaving" = some (.ref f2)
theorem scFrom : FnScope ["framing", "here", "number", "step"] ["framing", "here"] (defScope sFrom) := ⟨rfl, rfl, rfl, by decide +kernel, rfl, by decide +kernel, by decide +kernel⟩
theorem ok_from (G : Lw K mg) : FnOk P w K mg base CX0 1 G.f1 G.d1 ["framing", "here"] spFrom := by
  refine G.F.ok scFrom (fun vs H Q E h => ?_) (fun cdv A outer s H vs Q E hr h => ?_)
  · obtain ⟨f, fr, last, h, rfl, _⟩ := h
    rfl
  · obtain ⟨f, fr, last, h, rfl, fa, fm, q⟩ := h
    refine ⟨_, pss_one (ps_ret (pe_lc (own := [("number", 2), ("step", 3)]) (g := gTup K 2 (gCons (gName 2) (gCons (gName 3) gNil))) (tt := tTest (tOp rEq (tOp (rIxT K) (tVar 3) (tC (.int 0))) (tVar 1))) (te := tVar 2) rfl scFrom.nd (pi_enumT (by rfl) G.G.en (pa_cons (pv 0) pa_nil))
      (blkOk_by (N := ["framing", "here", "number", "step"]) (sc := defScope sFrom) (by decide +kernel))
      (fun _ _ _ _ _ => pg_tup rfl (pgs_cons (pg_name (i := 2) scFrom.nd rfl (Or.inl rfl)) (pgs_cons (pg_name (i := 3) scFrom.nd rfl (Or.inl rfl)) pgs_nil)))
      (fun _ _ _ _ _ => pts_one (pt_cmpR op_eq (pe_ix ix_tup (pv 3) pe_int (fun _ _ => rfl)) (pv 1) (nomark _))) (fun _ _ _ _ _ => pv 2))), ?_⟩
    obtain ⟨ts, hf, hl, ht⟩ := id fa
    have l1 := fm.l1
    refine ⟨_, rfl, f, _, rfl, SqT.of hf, fun D hD => ?_⟩
    refine lc_it (walk_enumT (xs := ts.map V.ref)) (fun i H' => ∃ ns : List Int, H' D = some (.lst (ns.map V.int)) ∧ ns.length ≤ i ∧ (∀ n ∈ ns, 0 ≤ n ∧ n < fr.length ∧ (stt fr n).1 = h) ∧ (∀ (j : Nat) x, j < i → fr[j]? = some x → x.1 = h → ns ≠ []) ∧ ∀ b o, H b = some o → H' b = some o)
      ⟨[], upd_same, Nat.le_refl _, (fun n h => by cases h), (fun j x hj => absurd hj (by omega)), fun b o z => same_upd hD b o z⟩ (fun i H' _ ⟨_, _, _, _, _, z⟩ => SqT.of (z _ _ hf)) ?_ ?_
    · rintro i x H1 H2 hi ⟨ns, hn, nl, nk, nz, kp⟩ ⟨T, xi, xo, rfl, nT, rfl, h1, h2⟩
      cases h1
      obtain ⟨t, y, hy, rfl, e4⟩ := at_step (i := i) hl ht h2
      have uT := same_upd (o := HO.tup [V.int (i : Nat), V.ref t]) nT
      have s3 : Same H _ := (show Same H H1 from kp).trans uT
      have il : i < fr.length := (List.getElem?_eq_some_iff.mp hy).1
      have es : stt fr (i : Int) = y := by
        unfold stt
        rw [List.getD_eq_getElem?_getD, Int.toNat_natCast, hy]
        rfl
      refine ⟨T, _, rfl, SqT.of upd_same, rfl, _, _, rfl, _, _, rfl, rfl, rfl, ?_⟩
      refine ⟨_, rfl, t, _, 0, _, rfl, rfl, SqT.of (s3 _ _ e4), atI_nat (j := 0) rfl, _, rfl, rfl, _, rfl, ?_⟩
      refine ite2 (fun z => ?_) (fun z => ?_)
      · have z1 : y.1 = h := V.int.inj (of_decide_eq_true z)
        refine ⟨_, rfl, _, uT _ _ hn, ?_, ns ++ [(i : Int)], ?_, ?_, fun n hn2 => ?_, fun j x _ _ _ => by simp, fun b o w => ?_⟩
        · rw [List.length_map, sizeLine_eq]
          omega
        · rw [List.map_append]
          exact upd_same
        · rw [List.length_append]
          simp only [List.length_cons, List.length_nil]
          omega
        · rcases List.mem_append.mp hn2 with h3 | h3
          · exact nk n h3
          · have e2 : n = (i : Int) := by simpa using h3
            subst e2
            rw [es]
            exact ⟨by omega, by omega, z1⟩
        · rw [upd_ne (ne_of_none w hD)]
          exact s3 _ _ w
      · have z1 : ¬ y.1 = h := fun e => z (decide_eq_true (congrArg V.int e))
        refine ⟨ns, uT _ _ hn, by omega, nk, fun j x hj hx he => ?_, fun b o w => s3 _ _ w⟩
        by_cases e : j = i
        · subst e
          rw [hy] at hx
          exact absurd he (by rw [← Option.some.inj hx]; exact z1)
        · exact nz j x (by omega) hx he
    · rintro H1 ⟨ns, hn, nl, nk, nz, kp⟩
      rw [List.length_map, hl] at nl nz
      refine q H1 D ns kp hD hn (by omega) nk (fun ⟨x, hx, he⟩ => ?_)
      obtain ⟨j, hj, e⟩ := List.getElem_of_mem hx
      exact nz j x hj (by rw [List.getElem?_eq_getElem hj, e]) he
theorem scWeave : FnScope ["m", "framing", "writers", "total", "found", "now", "writer", "k", "some", "number"] ["m", "framing", "writers", "total"] (defScope sWeave) := ⟨rfl, rfl, rfl, by decide +kernel, rfl, by decide +kernel, by decide +kernel⟩
theorem ok_weave (G : Lw K mg) : FnOk P w K mg base CX0 2 G.f2 G.d2 ["m", "framing", "writers", "total"] spWeave := by
  have GX : FnOk P w K mg base CX0 1 G.G.L.f1 G.G.L.d1 ["m", "total"] spNext := ok_next G.G.L.N G.G.L.T
  have GF : FnOk P w K mg base CX0 1 G.f1 G.d1 ["framing", "here"] spFrom := ok_from G
  refine G.W.ok scWeave (fun vs H Q E h => ?_) (fun cdv A outer s H vs Q E hr h => ?_)
  · obtain ⟨m, c, l, f, k, fr, last, nw, tot, rfl, _⟩ := h
    rfl
  · obtain ⟨m, c, l, f, k, fr, last, nw, tot, rfl, M, hk, fa, fm, w1, w8, t60, q⟩ := h
    refine ⟨_, pss_cons (ps_par (i := 4) (j := 5) (x := "found") (y := "now") rfl scWeave.nd rfl rfl (by decide) rfl rfl (pa_cons (pe_lst pa_nil) (pa_cons (pe_op op_rep (pe_lst (pa_cons pe_int pa_nil)) (pv 2)) pa_nil)) (by rfl))
      (pss_cons (ps_set (i := 6) scWeave.nd rfl (Or.inl rfl) (pe_call GX hr (by rfl) G.G.L.mN G.G.L.N.kp G.G.L.bN .nil pass0 (pa_cons (pv 0) (pa_cons (pv 2) pa_nil))))
      (pss_cons (ps_for PassesOwn.never rfl (pi_range1 (by rfl) G.G.L.ra (pa_cons (pv 3) pa_nil)) (pg_name (i := 7) scWeave.nd rfl (Or.inl rfl))
        (pss_cons (ps_if (pt_cmpR op_gt (pe_call GX hr (by rfl) G.G.L.mN G.G.L.N.kp G.G.L.bN .nil pass0 (pa_cons (pv 0) (pa_cons pe_int pa_nil))) pe_int (nomark _))
          (pss_one (ps_set (i := 6) scWeave.nd rfl (Or.inl rfl) (pe_call GX hr (by rfl) G.G.L.mN G.G.L.N.kp G.G.L.bN .nil pass0 (pa_cons (pv 0) (pa_cons (pv 2) pa_nil))))) pss_nil)
        (pss_cons (ps_set (i := 8) scWeave.nd rfl (Or.inl rfl) (pe_call GF hr (by rfl) G.gF G.F.kp G.bF .nil pass0 (pa_cons (pv 1) (pa_cons (pe_ix ix_list (pv 5) (pv 6) (fun _ _ => rfl)) pa_nil))))
        (pss_cons (ps_set (i := 9) scWeave.nd rfl (Or.inl rfl) (pe_ix ix_list (pv 8) (pe_call GX hr (by rfl) G.G.L.mN G.G.L.N.kp G.G.L.bN .nil pass0 (pa_cons (pv 0) (pa_cons (pe_callB call_len_seq (by rfl) G.G.L.T.len PySem.boot_len (pa_cons (pv 8) pa_nil)) pa_nil))) (fun _ _ => rfl)))
        (pss_cons (ps_expr (pe_bm PySem.F.plainAttrs_list PySem.F.slot_list_append PySem.F.type_list_append mt_append (pv 4) (pa_cons (pe_tup (pa_cons (pv 6) (pa_cons (pv 9) pa_nil))) pa_nil)))
        (pss_one (ps_asg (pe_ix ix_tup (pe_ix ix_tup (pv 1) (pv 9) (fun _ _ => rfl)) pe_int (fun _ _ => rfl)) (pg_sub (pv 5) (pv 6) set_list))))))))
      (pss_one (ps_ret (pe_callTy call_tuple_of (by rfl) G.G.tu (by decide +kernel) (pa_cons (pv 4) pa_nil)))))), ?_⟩
    refine ⟨by decide, fun F hF => ⟨(by show 1 ≤ sizeLine; decide), fun z hz => ?_⟩⟩
    refine ⟨_, rfl, z, nw, _, rfl, rfl, upd_same, by omega, by omega, (by rw [sizeLine_eq]; simp; omega), fun W hW => ⟨_, _, rfl, ?_⟩⟩
    have u1 := same_upd (o := HO.lst []) hF
    have u2 := same_upd (o := HO.lst [V.int 0]) hz
    have u3 := same_upd (o := HO.lst (List.replicate (nw : Int).toNat [V.int 0]).flatten) hW
    have sA : Same H _ := u1.trans (u2.trans u3)
    have MA := M.same sA
    have hFA := (u2.trans u3) _ _ (upd_same (H := H) (a := F) (o := HO.lst []))
    have hWA : upd (upd (upd H F (.lst [])) z (.lst [V.int 0])) W (.lst (List.replicate (nw : Int).toNat [V.int 0]).flatten) W = some (.lst (((plc fr []).take nw).map V.int)) := by
      rw [upd_same, rep_flat, Int.toNat_natCast]
      show _ = some (HO.lst (((List.replicate 8 (0 : Int)).take nw).map V.int))
      rw [List.take_replicate, Nat.min_eq_left w8]
    have hW0 : H W = none := (u1.trans u2).free hW
    have fw : F ≠ W := ne_of_none ((u2) _ _ (upd_same (H := H) (a := F) (o := HO.lst []))) hW
    have nFm : F ≠ m := (ne_of_none M.hm hF).symm
    have nWm : W ≠ m := (ne_of_none M.hm hW0).symm
    have nFc := M.c_some hF
    have nWc := M.c_some hW0
    refine ⟨_, rfl, _, rfl, m, c, l, k, nw, rfl, MA, by omega, by omega, by omega, fun r H1 l1 k1 a1 b1 g1 N1 f1 q1 => ?_⟩
    have d1 : Dr _ H1 m c l l1 k1 := ⟨N1, f1, q1⟩
    obtain ⟨hF1, nF1⟩ := d1.lst MA hFA (M.l_some hF)
    obtain ⟨hW1, nW1⟩ := d1.lst MA hWA (M.l_some hW0)
    have DA : Dr H H1 m c l l1 k1 := ((Dr.refl M).same sA).trans d1
    have ws0 : WS H H1 m c l F W (k + 1) fr nw [] := ⟨⟨[], l1, k1, hF1, ⟨rfl, fun i t x h => by cases h⟩, hW1, nF1, nFm, nFc, nW1, nWm, nWc, by omega, DA⟩, hF, hW0, fw⟩
    refine ⟨_, rfl, tot, rfl, by omega, by omega, for_it walk_range (fun i σ H' => ∃ (wr : Int) (v7 v8 v9 : Option V) (es : List E2), σ = [some (.ref m), some (.ref f), some (.int (nw : Int)), some (.int (tot : Int)), some (.ref F), some (.ref W), some (.int wr), v7, v8, v9] ∧
      0 ≤ wr ∧ wr < nw ∧ WS H H' m c l F W (k + 1 + 3 * i) fr nw es ∧ es.length = i ∧ Wv fr es)
      ⟨r, none, none, none, [], rfl, a1, b1, by simpa using ws0, rfl, ⟨Nat.zero_le _, fun e h => (by cases h), fun i e h => (by cases h)⟩⟩ (fun _ _ _ _ _ => trivial) ?_ ?_⟩
    · rintro i x σ H2 H2' hi ⟨wr, v7, v8, v9, es, rfl, wr0, wr1, ws, le, wo⟩ ⟨rfl, rfl⟩
      have hi60 : i < 60 := by
        rw [Int.toNat_natCast] at hi
        omega
      obtain ⟨ts, l2, k2, hF2, ha2, hW2, nF2, _, _, nW2, _, _, kk2, D2⟩ := ws.ex
      refine ⟨_, rfl, m, c, l2, k2, 3, rfl, D2.at_, by decide, by decide, by omega, fun rb Hb lb kb ab bb gb Nb fb qb => ?_⟩
      have db : Dr _ Hb m c l2 lb kb := ⟨Nb, fb, qb⟩
      obtain ⟨hFb, nFb⟩ := db.lst D2.at_ hF2 nF2
      obtain ⟨hWb, nWb⟩ := db.lst D2.at_ hW2 nW2
      have hab := ha2.same (db.keepT D2.at_)
      have Db := D2.trans db
      refine ⟨rb, 0, rfl, rfl, _, rfl, ?_⟩
      refine ite2 (fun _ => ?_) (fun _ => ?_)
      · refine ⟨_, rfl, _, rfl, m, c, lb, kb, nw, rfl, Nb, by omega, by omega, by omega, fun wq H3 l3 k3 wr0 wr1 g3 N3 f3 q3 => ?_⟩
        have d3 : Dr _ H3 m c lb l3 k3 := ⟨N3, f3, q3⟩
        obtain ⟨hF3, nF3⟩ := d3.lst Nb hFb nFb
        obtain ⟨hW3, nW3⟩ := d3.lst Nb hWb nWb
        have ha3 := hab.same (d3.keepT Nb)
        have D3 := Db.trans d3
        have wn0 : (wq).toNat < (plc fr es).length := by rw [plc_len]; omega
        obtain ⟨g, hg⟩ : ∃ g, (plc fr es)[(wq).toNat]? = some g := ⟨_, List.getElem?_eq_getElem wn0⟩
        obtain ⟨g0, g1⟩ := plc_ok fm wo.ent g (List.mem_of_getElem? hg)
        have hgi : atI (((plc fr es).take nw).map V.int) (wq) = some (.int g) := by
          obtain ⟨j, hj⟩ := Int.eq_ofNat_of_zero_le wr0
          rw [hj] at hg ⊢
          refine atI_nat ?_
          rw [List.getElem?_map, List.getElem?_take, if_pos (by omega)]
          have hg' : (plc fr es)[j]? = some g := hg
          rw [hg']
          rfl
        refine ⟨_, rfl, _, rfl, _, rfl, W, _, wq, .int g, rfl, rfl, SqL.of hW3, hgi, f, fr, last, g, rfl, D3.fr M fa, fm, fun H4 p ns s4 np ep nl nk nz => ?_⟩
        obtain ⟨gn, rfl⟩ := Int.eq_ofNat_of_zero_le g0
        obtain ⟨x0, hx0, ex0, _⟩ := fm.ring gn (by omega)
        have nne := List.length_pos_iff.mpr (nz ⟨x0, hx0, ex0⟩)
        have M4 := D3.at_.same s4
        refine ⟨_, rfl, _, rfl, _, rfl, p, _, rfl, .inl (SqL.of ep), m, c, l3, k3, _, rfl, M4, by rw [List.length_map]; omega, by rw [List.length_map]; omega, by omega, fun r5 H5 l5 k5 a5 b5 g5 N5 f5 q5 => ?_⟩
        have d5 : Dr H4 H5 m c l3 l5 k5 := ⟨N5, f5, q5⟩
        rw [List.length_map] at b5
        obtain ⟨ep5, _⟩ := d5.lst M4 ep (D3.at_.l_some np)
        obtain ⟨j, rfl⟩ := Int.eq_ofNat_of_zero_le a5
        have jl : j < ns.length := by omega
        obtain ⟨m0, m1, m2⟩ := nk ns[j] (List.getElem_mem jl)
        have D5 := (D3.same s4).trans d5
        obtain ⟨hF5, nF5⟩ := d5.lst M4 (s4 _ _ hF3) nF3
        obtain ⟨hW5, nW5⟩ := d5.lst M4 (s4 _ _ hW3) nW3
        have ha5 := (ha3.same (Same.keepT s4)).same (d5.keepT M4)
        refine ⟨p, _, (j : Int), .int ns[j], rfl, rfl, SqL.of ep5, atI_nat (by rw [List.getElem?_map, List.getElem?_eq_getElem jl]; rfl), ?_⟩
        refine ⟨_, rfl, .inl ⟨rfl, _, SqL.of hF5⟩, _, rfl, _, rfl, (by show 2 ≤ sizeLine; decide), fun tp htp => ?_⟩
        have u6 := same_upd (o := HO.tup [V.int (wq), V.int ns[j]]) htp
        refine ⟨F, ts.map V.ref, _, rfl, rfl, u6 _ _ hF5, by rw [List.length_map, ha3.1, sizeLine_eq]; omega, ?_⟩
        have k6 := keepT_upd (o := .lst (ts.map V.ref ++ [.ref tp])) (u6 _ _ hF5) (fun xs z => by cases z)
        obtain ⟨tf, t2, hf, hat, h3, _⟩ := stt_at (D5.fr M fa) m0 m1
        have kk := (Same.keepT u6).trans k6
        refine ⟨_, rfl, _, rfl, f, _, ns[j], .ref t2, rfl, rfl, SqT.of (kk _ _ hf), hat, t2, _, 2, _, rfl, rfl, SqT.of (kk _ _ h3), atI_nat (j := 2) rfl, _, rfl, _, rfl, W, _, wq, (wq).toNat, rfl, rfl, by rw [upd_ne ws.fw.symm]; exact u6 _ _ hW5, ?_, ?_⟩
        · rw [List.length_map, List.length_take, plc_len]
          unfold ixN
          rw [if_pos wr0, if_pos (by omega)]
        · have ent : Ent fr (wq, ns[j]) := ⟨wr0, by show (wq : Int) < 8; omega, m0, m1⟩
          have ws' := WS.push (e := (wq, ns[j])) hF5 ha5 hW5 nF5 nFm nFc nW5 nWm nWc (kb := k + 1 + 3 * ((i + 1 : Nat) : Int)) (by omega) D5 htp ws.hF ws.hW ws.fw
          refine ⟨_, _, _, _, es ++ [(wq, ns[j])], rfl, wr0, wr1, ws', by rw [List.length_append, le]; rfl, wv_snoc wo (by omega) ent ?_⟩
          show (plc fr es)[(wq).toNat]? = some (stt fr ns[j]).1
          rw [hg, m2]
        
      · have hF3 := hFb
        have hW3 := hWb
        have nF3 := nFb
        have nW3 := nWb
        have ha3 := hab
        have D3 := Db
        generalize lb = l3 at *
        generalize kb = k3 at *
        have wn0 : (wr).toNat < (plc fr es).length := by rw [plc_len]; omega
        obtain ⟨g, hg⟩ : ∃ g, (plc fr es)[(wr).toNat]? = some g := ⟨_, List.getElem?_eq_getElem wn0⟩
        obtain ⟨g0, g1⟩ := plc_ok fm wo.ent g (List.mem_of_getElem? hg)
        have hgi : atI (((plc fr es).take nw).map V.int) (wr) = some (.int g) := by
          obtain ⟨j, hj⟩ := Int.eq_ofNat_of_zero_le wr0
          rw [hj] at hg ⊢
          refine atI_nat ?_
          rw [List.getElem?_map, List.getElem?_take, if_pos (by omega)]
          have hg' : (plc fr es)[j]? = some g := hg
          rw [hg']
          rfl
        refine ⟨_, rfl, _, rfl, _, rfl, W, _, wr, .int g, rfl, rfl, SqL.of hW3, hgi, f, fr, last, g, rfl, D3.fr M fa, fm, fun H4 p ns s4 np ep nl nk nz => ?_⟩
        obtain ⟨gn, rfl⟩ := Int.eq_ofNat_of_zero_le g0
        obtain ⟨x0, hx0, ex0, _⟩ := fm.ring gn (by omega)
        have nne := List.length_pos_iff.mpr (nz ⟨x0, hx0, ex0⟩)
        have M4 := D3.at_.same s4
        refine ⟨_, rfl, _, rfl, _, rfl, p, _, rfl, .inl (SqL.of ep), m, c, l3, k3, _, rfl, M4, by rw [List.length_map]; omega, by rw [List.length_map]; omega, by omega, fun r5 H5 l5 k5 a5 b5 g5 N5 f5 q5 => ?_⟩
        have d5 : Dr H4 H5 m c l3 l5 k5 := ⟨N5, f5, q5⟩
        rw [List.length_map] at b5
        obtain ⟨ep5, _⟩ := d5.lst M4 ep (D3.at_.l_some np)
        obtain ⟨j, rfl⟩ := Int.eq_ofNat_of_zero_le a5
        have jl : j < ns.length := by omega
        obtain ⟨m0, m1, m2⟩ := nk ns[j] (List.getElem_mem jl)
        have D5 := (D3.same s4).trans d5
        obtain ⟨hF5, nF5⟩ := d5.lst M4 (s4 _ _ hF3) nF3
        obtain ⟨hW5, nW5⟩ := d5.lst M4 (s4 _ _ hW3) nW3
        have ha5 := (ha3.same (Same.keepT s4)).same (d5.keepT M4)
        refine ⟨p, _, (j : Int), .int ns[j], rfl, rfl, SqL.of ep5, atI_nat (by rw [List.getElem?_map, List.getElem?_eq_getElem jl]; rfl), ?_⟩
        refine ⟨_, rfl, .inl ⟨rfl, _, SqL.of hF5⟩, _, rfl, _, rfl, (by show 2 ≤ sizeLine; decide), fun tp htp => ?_⟩
        have u6 := same_upd (o := HO.tup [V.int (wr), V.int ns[j]]) htp
        refine ⟨F, ts.map V.ref, _, rfl, rfl, u6 _ _ hF5, by rw [List.length_map, ha3.1, sizeLine_eq]; omega, ?_⟩
        have k6 := keepT_upd (o := .lst (ts.map V.ref ++ [.ref tp])) (u6 _ _ hF5) (fun xs z => by cases z)
        obtain ⟨tf, t2, hf, hat, h3, _⟩ := stt_at (D5.fr M fa) m0 m1
        have kk := (Same.keepT u6).trans k6
        refine ⟨_, rfl, _, rfl, f, _, ns[j], .ref t2, rfl, rfl, SqT.of (kk _ _ hf), hat, t2, _, 2, _, rfl, rfl, SqT.of (kk _ _ h3), atI_nat (j := 2) rfl, _, rfl, _, rfl, W, _, wr, (wr).toNat, rfl, rfl, by rw [upd_ne ws.fw.symm]; exact u6 _ _ hW5, ?_, ?_⟩
        · rw [List.length_map, List.length_take, plc_len]
          unfold ixN
          rw [if_pos wr0, if_pos (by omega)]
        · have ent : Ent fr (wr, ns[j]) := ⟨wr0, by show (wr : Int) < 8; omega, m0, m1⟩
          have ws' := WS.push (e := (wr, ns[j])) hF5 ha5 hW5 nF5 nFm nFc nW5 nWm nWc (kb := k + 1 + 3 * ((i + 1 : Nat) : Int)) (by omega) D5 htp ws.hF ws.hW ws.fw
          refine ⟨_, _, _, _, es ++ [(wr, ns[j])], rfl, wr0, wr1, ws', by rw [List.length_append, le]; rfl, wv_snoc wo (by omega) ent ?_⟩
          show (plc fr es)[(wr).toNat]? = some (stt fr ns[j]).1
          rw [hg, m2]
        
    · rintro σ H2 ⟨wr, v7, v8, v9, es, rfl, wr0, wr1, ws, le, wo⟩
      obtain ⟨ts, l2, k2, hF2, ha2, hW2, nF2, _, _, nW2, _, _, kk2, D2⟩ := ws.ex
      refine ⟨_, rfl, F, _, rfl, .inl ⟨SqL.of hF2, fun p hp => ?_⟩⟩
      have u := same_upd (o := HO.tup (ts.map V.ref)) hp
      rw [Int.toNat_natCast] at kk2
      exact q p es _ l2 k2 ⟨ts, upd_same, ha2.1, fun i t e h1 h2 => u _ _ (ha2.2 i t e h1 h2)⟩ wo (by omega) (D2.same u)
end
end K31
/-! The law's own text and lines. -/
namespace K31
open PySem L2 L2.EV
abbrev sPutL : Stmt := top 34
abbrev sTextL : Stmt := top 35
abbrev sLinesL : Stmt := top 36
def spl (fr : List T3) (es : List E2) : List (List E2) × List E2 := es.foldl (fun a e => if ends fr e = true then (a.1 ++ [a.2 ++ [e]], []) else (a.1, a.2 ++ [e])) ([], [])
theorem spl_snoc (fr : List T3) (es : List E2) (e : E2) : spl fr (es ++ [e]) = if ends fr e = true then ((spl fr es).1 ++ [(spl fr es).2 ++ [e]], []) else ((spl fr es).1, (spl fr es).2 ++ [e]) := by
  unfold spl
  rw [List.foldl_append]
  rfl
theorem semi_eq : (";" : Str) = ⟨#[59]⟩ := by decide +kernel
theorem pc_lastc {p : Str} {l : Bool} (h : Pc p l) : ∃ ch, atI p.cps.toList (-1) = some ch ∧ decide (V.str ⟨#[ch]⟩ = V.str ";") = l := by
  have at1 : ∀ (M : List Nat) (y : Nat), sl p = M ++ [y] → atI p.cps.toList (-1) = some y := fun M y e => by
    have e' : p.cps.toList = M ++ [y] := e
    rw [e']
    unfold atI ixN
    simp only [List.length_append, List.length_cons, List.length_nil]
    rw [if_neg (by omega), if_pos (by omega)]
    show (M ++ [y])[((-1 : Int) + ((M.length + (0 + 1) : Nat) : Int)).toNat]? = _
    have e2 : ((-1 : Int) + ((M.length + (0 + 1) : Nat) : Int)).toNat = M.length := by omega
    rw [e2, List.getElem?_append_right (Nat.le_refl _)]
    simp
  obtain ⟨b, e, _, hb, h2⟩ := h
  cases l with
  | true =>
    rw [if_pos rfl] at e
    refine ⟨59, at1 b 59 e, decide_eq_true ?_⟩
    rw [semi_eq]
  | false =>
    rw [if_neg (by simp), List.append_nil] at e
    obtain ⟨M, y, hM⟩ := SrtO.snoc_of (l := b) (List.length_pos_iff.mpr (h2 rfl))
    have hy : y ∈ sgs := hb y (by rw [hM]; simp)
    refine ⟨y, at1 M y (e.trans hM), decide_eq_false fun z => ?_⟩
    have z2 : (⟨#[y]⟩ : Str) = ";" := V.str.inj z
    rw [semi_eq] at z2
    have z3 : y = 59 := by
      have z4 := congrArg (fun s : Str => s.cps.toList) z2
      simpa using z4
    exact no59 (z3 ▸ hy)
def spPutL : Sp := fun vs H Q _ => ∃ (f t : Addr) (fr : List T3) (last : Nat) (e : E2), vs = [.ref f, .ref t] ∧ FrA H f fr ∧ Frm fr last ∧ A2 H t e ∧ Ent fr e ∧ Q (.str (putE fr e)) H
def spLinesL : Sp := fun vs H Q _ => ∃ (f w : Addr) (fr : List T3) (last : Nat) (es : List E2), vs = [.ref f, .ref w] ∧ FrA H f fr ∧ Frm fr last ∧ WvA H w es ∧ Wv fr es ∧
  ∀ (H' : Hp) (p q r : Addr) (qs : List Addr), Same H H' → H' p = some (.tup [.ref q, .ref r]) → H' q = some (.lst (qs.map V.ref)) → qs.length = (spl fr es).1.length → (∀ (i : Nat) a l, qs[i]? = some a → (spl fr es).1[i]? = some l → WvA H' a l) → WvA H' r (spl fr es).2 → Q (.ref p) H'
section
variable {P : Program} {w : World} {K : PySem.W.Frag} {mg : Str → Option Value} {base : Heap}
structure Lt (K : PySem.W.Frag) (mg : Str → Option Value) where
  f1 : Addr
  f2 : Addr
  f3 : Addr
  d1 : FuncData
  d2 : FuncData
  d3 : FuncData
  P : Fun K "_law_put" "_law_put" sPutL f1 d1
  T : Fun K "_law_text" "_law_text" sTextL f2 d2
  L : Fun K "_law_lines" "_law_lines" sLinesL f3 d3
  bP : Binds K d1 ["framing", "entry"] []
  bT : Binds K d2 ["framing", "entries"] []
  bL : Binds K d3 ["framing", "weaving"] []
  gP : mg "_law_put" = some (.ref f1)
  gT : mg "_law_text" = some (.ref f2)
  gL : mg "_law_lines" = some (.ref f3)
  tu : mg "tuple" = none
theorem scPutL : FnScope ["framing", "entry"] ["framing", "entry"] (defScope sPutL) := ⟨rfl, rfl, rfl, by decide +kernel, rfl, by decide +kernel, by decide +kernel⟩
theorem ok_putL (G : Lt K mg) : FnOk P w K mg base CX0 1 G.f1 G.d1 ["framing", "entry"] spPutL := by
  refine G.P.ok scPutL (fun vs H Q E h => ?_) (fun cdv A outer s H vs Q E hr h => ?_)
  · obtain ⟨f, t, fr, last, e, rfl, _⟩ := h
    rfl
  · obtain ⟨f, t, fr, last, e, rfl, fa, fm, ha, ⟨e0, e1, n0, n1⟩, q⟩ := h
    refine ⟨_, pss_one (ps_ret (pe_replM ix_tup (pe_ix ix_tup (pv 0) (pe_ix ix_tup (pv 1) pe_int (fun _ _ => rfl)) (fun _ _ => rfl)) pe_str (pe_ix ix_tup (pv 1) pe_int (fun _ _ => rfl)) (fun _ _ => rfl) (fun _ _ => rfl))), ?_⟩
    obtain ⟨ts, t2, hf, hat, h3, hm⟩ := stt_at fa n0 n1
    obtain ⟨m1, m2⟩ := mrk_at e0 e1
    have p8 := (pc_len (fm.stp _ hm).2.2.1).2
    exact ⟨_, rfl, _, rfl, t, _, 1, _, rfl, rfl, SqT.of ha, atI_nat (j := 1) rfl, f, _, e.2, .ref t2, rfl, rfl, SqT.of hf, hat, t2, _, 1, _, rfl, rfl, SqT.of h3, atI_nat (j := 1) rfl, _, rfl, _, rfl, t, _, 0, _, rfl, rfl, SqT.of ha, atI_nat (j := 0) rfl, _, mrk e.1, e.1, rfl, rfl, (by decide +kernel), m1, m2, by omega, q⟩
theorem scTextL : FnScope ["framing", "entries", "entry"] ["framing", "entries"] (defScope sTextL) := ⟨rfl, rfl, rfl, by decide +kernel, rfl, by decide +kernel, by decide +kernel⟩
theorem ok_textL (G : Lt K mg) : FnOk P w K mg base CX0 2 G.f2 G.d2 ["framing", "entries"] spPut := by
  have GP : FnOk P w K mg base CX0 1 G.f1 G.d1 ["framing", "entry"] spPutL := ok_putL G
  refine G.T.ok scTextL (fun vs H Q E h => ?_) (fun cdv A outer s H vs Q E hr h => ?_)
  · obtain ⟨f, t, fr, l, e, rfl, _⟩ := h
    rfl
  · obtain ⟨f, wv, fr, last, es, rfl, fa, fm, wa, wo, q⟩ := h
    refine ⟨_, pss_one (ps_ret (pe_m1 PySem.F.slot_str_join PySem.F.type_str_join mt_join pe_str (pe_lc (own := [("entry", 2)]) (g := gName 2) rfl scTextL.nd (pi_tup (pv 1))
      (blkOk_by (N := ["framing", "entries", "entry"]) (sc := defScope sTextL) (by decide +kernel))
      (fun _ _ _ _ _ => pg_name (i := 2) scTextL.nd rfl (Or.inl rfl)) (fun _ _ _ _ _ => pts_nil)
      (fun _ _ _ _ _ => pe_call GP hr (by rfl) G.gP G.P.kp G.bP .nil pass0 (pa_cons (pv 0) (pa_cons (pv 2) pa_nil)))))), ?_⟩
    obtain ⟨tw, hw, wl, wt⟩ := id wa
    have l60 := wo.l
    have pl : ∀ e ∈ es, (stt fr e.2).2.1.length ≤ 8 := fun e he => by
      obtain ⟨_, _, n0, n1⟩ := wo.ent e he
      obtain ⟨_, _, _, _, _, hm⟩ := stt_at fa n0 n1
      exact (pc_len (fm.stp _ hm).2.2.1).2
    refine ⟨⟨_, rfl⟩, _, rfl, wv, rfl, ⟨_, SqT.of hw⟩, fun D hD => ?_⟩
    refine lc_it (walk_tup (xs := tw.map V.ref)) (fun i H' => H' D = some (.lst (((es.take i).map (putE fr)).map V.str)) ∧ ∀ b o, H b = some o → H' b = some o) ⟨upd_same, fun b o z => same_upd hD b o z⟩ (fun i H' _ z => SqT.of (z.2 _ _ hw)) ?_ ?_
    · rintro i x H1 H2 hi ⟨hl, kp⟩ ⟨rfl, hx⟩
      obtain ⟨t, e, he, _, rfl, e4⟩ := at_ent (i := i) wl wt hx
      have hm := List.mem_of_getElem? he
      refine ⟨rfl, _, rfl, _, rfl, f, t, fr, last, e, rfl, fa.same kp, fm, kp _ _ e4, wo.ent e hm, _, hl, ?_, ?_, fun b o z => ?_⟩
      · rw [List.length_map, List.length_map, List.length_take, sizeLine_eq]
        omega
      · rw [take_one he, List.map_append, List.map_append]
        exact upd_same
      · rw [upd_ne (ne_of_none z hD)]
        exact kp b o z
    · rintro H1 ⟨hl, kp⟩
      have e0 : es.take (tw.map V.ref).length = es := by
        rw [List.length_map, wl, List.take_length]
      rw [e0] at hl
      refine ⟨"", D, es.map (putE fr), rfl, rfl, .inl (SqL.of hl), ?_, q H1 kp⟩
      have z : ∀ l : List E2, (∀ e ∈ l, (stt fr e.2).2.1.length ≤ 8) → ((l.map (putE fr)).map (·.length)).sum ≤ 17 * l.length := by
        intro l
        induction l with
        | nil => exact fun _ => Nat.le_refl _
        | cons e l ih =>
          intro h
          have h1 := putE_len (h e (List.mem_cons_self ..))
          have h2 := ih fun e he => h e (List.mem_cons_of_mem _ he)
          simp only [List.map_cons, List.sum_cons, List.length_cons]
          omega
      have z1 := z es pl
      have z2 : ("" : Str).length = 0 := by decide +kernel
      rw [z2]
      omega
theorem scLinesL : FnScope ["framing", "weaving", "found", "rest", "entry"] ["framing", "weaving"] (defScope sLinesL) := ⟨rfl, rfl, rfl, by decide +kernel, rfl, by decide +kernel, by decide +kernel⟩
theorem ok_linesL (G : Lt K mg) : FnOk P w K mg base CX0 1 G.f3 G.d3 ["framing", "weaving"] spLinesL := by
  refine G.L.ok scLinesL (fun vs H Q E h => ?_) (fun cdv A outer s H vs Q E hr h => ?_)
  · obtain ⟨f, t, fr, l, e, rfl, _⟩ := h
    rfl
  · obtain ⟨f, wv, fr, last, es, rfl, fa, fm, wa, wo, q⟩ := h
    refine ⟨_, pss_cons (ps_par (i := 2) (j := 3) (x := "found") (y := "rest") rfl scLinesL.nd rfl rfl (by decide) rfl rfl (pa_cons (pe_lst pa_nil) (pa_cons (pe_lst pa_nil) pa_nil)) (by rfl))
      (pss_cons (ps_for PassesOwn.never rfl (pi_tup (pv 1)) (pg_name (i := 4) scLinesL.nd rfl (Or.inl rfl))
        (pss_cons (ps_expr (pe_bm PySem.F.plainAttrs_list PySem.F.slot_list_append PySem.F.type_list_append mt_append (pv 3) (pa_cons (pv 4) pa_nil)))
        (pss_one (ps_if (pt_cmpR op_eq (pe_ix ix_str (pe_ix ix_tup (pe_ix ix_tup (pv 0) (pe_ix ix_tup (pv 4) pe_int (fun _ _ => rfl)) (fun _ _ => rfl)) pe_int (fun _ _ => rfl)) (pe_un un_neg pe_int) (fun _ _ => rfl)) pe_str (nomark _))
          (pss_cons (ps_expr (pe_bm PySem.F.plainAttrs_list PySem.F.slot_list_append PySem.F.type_list_append mt_append (pv 2) (pa_cons (pe_callTy call_tuple_of (by rfl) G.tu (by decide +kernel) (pa_cons (pv 3) pa_nil)) pa_nil)))
          (pss_one (ps_set (i := 3) scLinesL.nd rfl (Or.inl rfl) (pe_lst pa_nil)))) pss_nil))))
      (pss_one (ps_ret (pe_tup (pa_cons (pv 2) (pa_cons (pe_callTy call_tuple_of (by rfl) G.tu (by decide +kernel) (pa_cons (pv 3) pa_nil)) pa_nil)))))), ?_⟩
    obtain ⟨tw, hw, wl, wt⟩ := id wa
    have l60 := wo.l
    refine ⟨by decide, fun Fq hFq => ⟨by decide, fun R0 hR0 => ⟨_, _, rfl, ?_⟩⟩⟩
    have u1 := same_upd (o := HO.lst []) hFq
    have u2 := same_upd (o := HO.lst []) hR0
    refine ⟨_, rfl, wv, rfl, ⟨_, SqT.of ((u1.trans u2) _ _ hw)⟩, for_it (walk_tup (xs := tw.map V.ref)) (fun i σ H' => ∃ (R : Addr) (v4 : Option V) (qs rs : List Addr), σ = [some (.ref f), some (.ref wv), some (.ref Fq), some (.ref R), v4] ∧ Same H H' ∧
      H' Fq = some (.lst (qs.map V.ref)) ∧ H' R = some (.lst (rs.map V.ref)) ∧ Fq ≠ R ∧ H R = none ∧ qs.length = (spl fr (es.take i)).1.length ∧ qs.length ≤ i ∧ (∀ (j : Nat) a l, qs[j]? = some a → (spl fr (es.take i)).1[j]? = some l → WvA H' a l) ∧ At2 H' rs (spl fr (es.take i)).2 ∧ rs.length ≤ i)
      ⟨R0, none, [], [], rfl, u1.trans u2, u2 _ _ upd_same, upd_same, ne_of_none (upd_same (H := H) (a := Fq) (o := HO.lst [])) hR0, u1.free hR0, rfl, Nat.le_refl _, (fun j a l h => by cases h), ⟨rfl, fun j t e h => by cases h⟩, Nat.le_refl _⟩
      (fun i σ H' _ ⟨_, _, _, _, _, z, _⟩ => SqT.of (z _ _ hw)) ?_ ?_⟩
    · rintro i x σ H2 H2' hi ⟨R, v4, qs, rs, rfl, sm, hF, hR, fR, nR, ql, qi, qp, ra, ri⟩ ⟨rfl, hx⟩
      obtain ⟨t, e, he, _, rfl, e4⟩ := at_ent (i := i) wl wt hx
      obtain ⟨e0, e1, n0, n1⟩ := wo.ent e (List.mem_of_getElem? he)
      have ie : i < es.length := (List.getElem?_eq_some_iff.mp he).1
      refine ⟨_, rfl, .inl ⟨rfl, _, SqL.of hR⟩, _, rfl, R, rs.map V.ref, _, rfl, rfl, hR, by rw [List.length_map, sizeLine_eq]; omega, ?_⟩
      have k3 := keepT_upd (o := .lst (rs.map V.ref ++ [.ref t])) hR (fun xs z => by cases z)
      have s3 : Same H (upd H2' R (.lst (rs.map V.ref ++ [.ref t]))) := same_set nR sm
      have hF3 : upd H2' R (.lst (rs.map V.ref ++ [.ref t])) Fq = some (.lst (qs.map V.ref)) := by
        rw [upd_ne fR]
        exact hF
      have hR3 : upd H2' R (.lst (rs.map V.ref ++ [.ref t])) R = some (.lst ((rs ++ [t]).map V.ref)) := by
        rw [List.map_append]
        exact upd_same
      have ra3 := (ra.same k3).snoc (s3 _ _ e4)
      generalize upd H2' R (.lst (rs.map V.ref ++ [.ref t])) = H3 at *
      obtain ⟨ts, t2, hf, hat, h3, hm⟩ := stt_at (fa.same s3) n0 n1
      have hpc := (fm.stp _ hm).2.2.1
      obtain ⟨ch, hch, hdec⟩ := pc_lastc hpc
      have p8 := (pc_len hpc).2
      refine ⟨_, rfl, _, rfl, t, _, 1, _, rfl, rfl, SqT.of (s3 _ _ e4), atI_nat (j := 1) rfl, f, _, e.2, .ref t2, rfl, rfl, SqT.of hf, hat, t2, _, 1, _, rfl, rfl, SqT.of h3, atI_nat (j := 1) rfl, 1, rfl, _, -1, ch, rfl, rfl, by rw [sizeLine_eq]; omega, hch, rfl, _, rfl, ?_⟩
      rw [hdec]
      have wk : ∀ {H4 : Hp} {a : Addr} {l : List E2}, KeepT H2' H4 → WvA H2' a l → WvA H4 a l := fun {H4 a l} kt ⟨ts, e, b, c⟩ => ⟨ts, kt _ _ e, b, fun i t e h1 h2 => kt _ _ (c i t e h1 h2)⟩
      refine ite2 (fun z => ?_) (fun z => ?_)
      · have en : ends fr e = true := z
        refine ⟨_, rfl, .inl ⟨rfl, _, SqL.of hF3⟩, _, rfl, R, _, rfl, .inl ⟨SqL.of hR3, fun pt hpt => ?_⟩⟩
        have u4 := same_upd (o := HO.tup ((rs ++ [t]).map V.ref)) hpt
        refine ⟨Fq, qs.map V.ref, _, rfl, rfl, u4 _ _ hF3, by rw [List.length_map, sizeLine_eq]; omega, by decide, fun R2 hR2 => ?_⟩
        have k5 := keepT_upd (o := .lst (qs.map V.ref ++ [.ref pt])) (u4 _ _ hF3) (fun xs z => by cases z)
        have u6 := same_upd (o := HO.lst []) hR2
        have kt := (Same.keepT u4).trans (k5.trans (Same.keepT u6))
        have s5 : Same H (upd (upd H3 pt (.tup ((rs ++ [t]).map V.ref))) Fq (.lst (qs.map V.ref ++ [.ref pt]))) := same_set hFq (s3.trans u4)
        refine ⟨R2, _, qs ++ [pt], [], rfl, s5.trans u6, u6 _ _ (by rw [upd_same, List.map_append]; rfl), upd_same, ne_of_none (upd_same (H := upd H3 pt (.tup ((rs ++ [t]).map V.ref))) (a := Fq) (o := HO.lst (qs.map V.ref ++ [.ref pt]))) hR2, s5.free hR2, ?_, ?_, ?_, ?_, Nat.zero_le _⟩
        · rw [take_one he, spl_snoc, if_pos en, List.length_append, List.length_append, ql]
          rfl
        · rw [List.length_append]
          simp only [List.length_cons, List.length_nil]
          omega
        · intro j a l h1 h2
          rw [take_one he, spl_snoc, if_pos en] at h2
          by_cases hj : j < qs.length
          · rw [List.getElem?_append_left hj] at h1
            rw [List.getElem?_append_left (by rw [← ql]; exact hj)] at h2
            exact wk (k3.trans kt) (qp j a l h1 h2)
          · have j1 := (List.getElem?_eq_some_iff.mp h1).1
            rw [List.length_append] at j1
            have e2 : j = qs.length := by simp only [List.length_cons, List.length_nil] at j1; omega
            subst e2
            rw [List.getElem?_append_right (Nat.le_refl _), Nat.sub_self] at h1
            rw [ql, List.getElem?_append_right (Nat.le_refl _), Nat.sub_self] at h2
            have e3 : pt = a := Option.some.inj h1
            have e5 := Option.some.inj h2
            rw [← e3, ← e5]
            exact ⟨rs ++ [t], (k5.trans (Same.keepT u6)) _ _ upd_same, ra3.1, fun i t e h1 h2 => kt _ _ (ra3.2 i t e h1 h2)⟩
        · rw [take_one he, spl_snoc, if_pos en]
          exact ⟨rfl, fun j t e h => by cases h⟩
      · have en : ¬ ends fr e = true := z
        refine ⟨R, _, qs, rs ++ [t], rfl, s3, hF3, hR3, fR, nR, ?_, by omega, ?_, ?_, ?_⟩
        · rw [take_one he, spl_snoc, if_neg en]
          exact ql
        · intro j a l h1 h2
          rw [take_one he, spl_snoc, if_neg en] at h2
          exact wk k3 (qp j a l h1 h2)
        · rw [take_one he, spl_snoc, if_neg en]
          exact ra3
        · rw [List.length_append]
          simp only [List.length_cons, List.length_nil]
          omega
    · rintro σ H2 ⟨R, v4, qs, rs, rfl, sm, hF, hR, fR, nR, ql, qi, qp, ra, ri⟩
      rw [List.length_map, wl, List.take_length] at ql qp ra
      refine ⟨_, rfl, _, rfl, R, _, rfl, .inl ⟨SqL.of hR, fun pr hpr => ⟨(by show 2 ≤ sizeLine; decide), fun pp hpp => ?_⟩⟩⟩
      have u4 := same_upd (o := HO.tup (rs.map V.ref)) hpr
      have u5 := same_upd (o := HO.tup [V.ref Fq, V.ref pr]) hpp
      have kk := Same.keepT (u4.trans u5)
      refine q _ pp Fq pr qs (sm.trans (u4.trans u5)) upd_same ((u4.trans u5) _ _ hF) ql (fun j a l h1 h2 => (qp j a l h1 h2).same (u4.trans u5)) ?_
      exact ⟨rs, u5 _ _ upd_same, ra.1, fun i t e h1 h2 => kk _ _ (ra.2 i t e h1 h2)⟩
end
end K31
/-! The lines by places are the lines entry by entry. -/
namespace K31
open PySem L2 L2.EV
theorem cutsN_snoc (fr : List T3) (es : List E2) (e : E2) : cutsN fr (es ++ [e]) (es ++ [e]).length = cutsN fr es es.length ++ (if ends fr e = true then [es.length + 1] else []) := by
  unfold cutsN
  have h1 : ((List.range es.length).filter fun k => ends fr ((es ++ [e]).getD k (0, 0))) = ((List.range es.length).filter fun k => ends fr (es.getD k (0, 0))) := by
    refine List.filter_congr fun k hk => ?_
    have hk2 : k < es.length := List.mem_range.mp hk
    rw [List.getD_eq_getElem?_getD, List.getD_eq_getElem?_getD, List.getElem?_append_left hk2]
  have h2 : (es ++ [e]).getD es.length (0, 0) = e := by
    rw [List.getD_eq_getElem?_getD, List.getElem?_append_right (Nat.le_refl _), Nat.sub_self]
    rfl
  rw [List.length_append, List.length_cons, List.length_nil, Nat.zero_add, List.range_succ, List.filter_append, List.map_append, h1, List.filter_cons, h2]
  split <;> rfl
theorem lpN_snoc (fr : List T3) (es : List E2) (e : E2) : lpN fr (es ++ [e]) = lpN fr es ++ (if ends fr e = true then [es.length + 1] else []) := by
  unfold lpN
  rw [cutsN_snoc]
  rfl
theorem lpN_le {fr : List T3} {es : List E2} : ∀ x ∈ lpN fr es, x ≤ es.length := by
  intro x hx
  unfold lpN cutsN at hx
  rcases List.mem_cons.mp hx with h | h
  · omega
  · obtain ⟨k, hk, rfl⟩ := List.mem_map.mp h
    have := List.mem_range.mp (List.mem_filter.mp hk).1
    omega
theorem zip_snoc (l : List Nat) (M : List Nat) (y x : Nat) (h : l = M ++ [y]) : (l ++ [x]).zip (l ++ [x]).tail = l.zip l.tail ++ [(y, x)] := by
  subst h
  induction M with
  | nil => rfl
  | cons a M ih =>
    cases M with
    | nil => rfl
    | cons b M =>
      have ih' := ih
      simp only [List.cons_append, List.tail_cons, List.zip_cons_cons] at ih' ⊢
      rw [ih']
theorem cutE_snoc {es : List E2} {e : E2} {lo hi : Nat} (h1 : lo ≤ es.length) (h2 : hi ≤ es.length) : cutE (es ++ [e]) lo hi = cutE es lo hi := by
  unfold cutE
  rw [List.length_append, List.length_cons, List.length_nil, Nat.min_eq_left (by omega), Nat.min_eq_left (by omega), Nat.min_eq_left h1, Nat.min_eq_left h2, List.drop_append_of_le_length h1, List.take_append_of_le_length (by rw [List.length_drop]; omega)]
theorem spl_is (fr : List T3) (es : List E2) : linesE fr es = (spl fr es).1 ∧ restE fr es = (spl fr es).2 := by
  refine snoc_ind (p := fun es => linesE fr es = (spl fr es).1 ∧ restE fr es = (spl fr es).2) ⟨rfl, rfl⟩ (fun es e ih => ?_) es
  obtain ⟨i1, i2⟩ := ih
  obtain ⟨M, y, hM⟩ := SrtO.snoc_of (l := lpN fr es) (by unfold lpN; simp)
  have hy : y ≤ es.length := lpN_le y (by rw [hM]; simp)
  have hr : restE fr es = es.drop y := by
    unfold restE
    rw [hM]
    simp [Nat.min_eq_left hy]
  have old : ((lpN fr es).zip (lpN fr es).tail).map (fun q => cutE (es ++ [e]) q.1 q.2) = linesE fr es := by
    unfold linesE
    refine List.map_congr_left fun q hq => ?_
    have h1 := lpN_le q.1 (List.of_mem_zip (show (q.1, q.2) ∈ (lpN fr es).zip (lpN fr es).tail from hq)).1
    have h2 := lpN_le q.2 (List.mem_of_mem_tail (List.of_mem_zip (show (q.1, q.2) ∈ (lpN fr es).zip (lpN fr es).tail from hq)).2)
    exact cutE_snoc h1 h2
  rw [spl_snoc]
  by_cases en : ends fr e = true
  · rw [if_pos en]
    refine ⟨?_, ?_⟩
    · show ((lpN fr (es ++ [e])).zip (lpN fr (es ++ [e])).tail).map (fun q => cutE (es ++ [e]) q.1 q.2) = _
      rw [lpN_snoc, if_pos en, zip_snoc _ M y _ hM, List.map_append, old, i1, ← i2, hr]
      show _ ++ [cutE (es ++ [e]) y (es.length + 1)] = _
      have z : cutE (es ++ [e]) y (es.length + 1) = es.drop y ++ [e] := by
        unfold cutE
        rw [List.length_append, List.length_cons, List.length_nil, Nat.min_eq_left (by omega), Nat.min_eq_left (by omega), List.drop_append_of_le_length hy]
        exact List.take_of_length_le (by rw [List.length_append, List.length_drop]; simp only [List.length_cons, List.length_nil]; omega)
      rw [z]
    · show (es ++ [e]).drop (min ((lpN fr (es ++ [e])).getLastD 0) (es ++ [e]).length) = []
      rw [lpN_snoc, if_pos en]
      have z : (lpN fr es ++ [es.length + 1]).getLastD 0 = es.length + 1 := by simp
      rw [z, List.length_append, List.length_cons, List.length_nil, Nat.zero_add, Nat.min_self]
      exact List.drop_of_length_le (by rw [List.length_append]; simp)
  · rw [if_neg en]
    refine ⟨?_, ?_⟩
    · show ((lpN fr (es ++ [e])).zip (lpN fr (es ++ [e])).tail).map (fun q => cutE (es ++ [e]) q.1 q.2) = _
      rw [lpN_snoc, if_neg en, List.append_nil, old, i1]
    · show (es ++ [e]).drop (min ((lpN fr (es ++ [e])).getLastD 0) (es ++ [e]).length) = _ ++ [e]
      rw [lpN_snoc, if_neg en, List.append_nil, ← i2, hr, hM]
      have z : (M ++ [y]).getLastD 0 = y := by simp
      rw [z, List.length_append, List.length_cons, List.length_nil, Nat.min_eq_left (by omega), List.drop_append_of_le_length hy]
end K31
/-! repr of data, of any size. -/
namespace L2
namespace EV
open PySem PySem.Spec PyProof.Rows _root_.EV
def rShowD (K : PySem.W.Frag) : List V → Hp → VK → Prop := fun xs H Q => ∃ (a : Addr) (d : PyData), xs = [.ref a] ∧ Dp K H (.ref a) d ∧ d.showable = true ∧ d.hasDict = false ∧ d.shown.length ≤ sizeLine ∧ d.depth ≤ 5 ∧ Q (.str d.shown) H
theorem call_showD {X : Cx} (hgd : X.A.guards = some []) (hu : X.A.units + 64 < cLine) : CallR X (.builtin "repr") (rShowD X.K) := by
  intro pins s σ H xs us Q I r h
  obtain ⟨a, d, rfl, hd, sh, nd, sz, dp, q⟩ := h
  obtain ⟨u, rfl, ru⟩ := vals1 r
  obtain ⟨as, rd⟩ := Dp.reads I d (.ref a) u hd ru
  obtain rfl : u = Value.ref a := ru
  exact repr_of_reads' rd sh (fun z => by rw [nd] at z; cases z) hgd (by omega) (fun _ _ e => e) (fun h' t tk hk => ⟨.str _, H, I.kept (t' := tk) hk, ⟨_, rfl⟩, q⟩) sz
end EV
end L2
namespace K31
open PySem L2 L2.EV
structure Okd (d : PyData) (n dp : Nat) : Prop where
  sh : d.showable = true
  nd : d.hasDict = false
  sz : d.shown.length ≤ n
  dp : d.depth ≤ dp
theorem Okd.le {d : PyData} {n m dp dq : Nat} (h : Okd d n dp) (a : n ≤ m) (b : dp ≤ dq) : Okd d m dq := ⟨h.sh, h.nd, Nat.le_trans h.sz a, Nat.le_trans h.dp b⟩
theorem okd_int {i : Int} (h0 : 0 ≤ i) (h1 : i < 64) : Okd (.int i) 10 0 := by
  obtain ⟨k, rfl⟩ := Int.eq_ofNat_of_zero_le h0
  have hk : k < 64 := by omega
  have z : ∀ k : Fin 64, (PyData.int ((k.val : Nat) : Int)).showable = true ∧ (PyData.int ((k.val : Nat) : Int)).shown.length ≤ 10 := by decide +kernel
  obtain ⟨z1, z2⟩ := z ⟨k, hk⟩
  exact ⟨z1, by simp only [PyData.hasDict], z2, by simp only [PyData.depth]; omega⟩
theorem okd_str {x : Str} {m : Nat} (hs : PyData.strOk x = true) (hl : x.length ≤ m) : Okd (.str x) (10 * m + 2) 0 := by
  refine ⟨by simp only [PyData.showable], by simp only [PyData.hasDict], ?_, by simp only [PyData.depth]; omega⟩
  simp only [PyData.shown]
  have z := PySem.StrLaws.reprText_len x (fun c hc => by
    unfold PyData.strOk at hs
    rw [← Array.all_toList, List.all_eq_true] at hs
    have := of_decide_eq_true (hs c hc)
    exact Nat.lt_trans this (by decide))
  omega
theorem okd_all {n dp : Nat} : ∀ {ds : List PyData}, (∀ d ∈ ds, Okd d n dp) → PyData.showableAll ds = true ∧ PyData.hasDictAll ds = false ∧ ((PyData.shownAll ds).map (·.length)).sum ≤ n * ds.length ∧ (PyData.shownAll ds).length = ds.length ∧ PyData.depthAll ds ≤ dp
  | [], _ => ⟨by simp [PyData.showableAll], by simp [PyData.hasDictAll], by simp [PyData.shownAll], by simp [PyData.shownAll], by simp [PyData.depthAll]⟩
  | d :: ds, h => by
    have h1 := h d (List.mem_cons_self ..)
    obtain ⟨a, b, c, e, f⟩ := okd_all (ds := ds) fun d hd => h d (List.mem_cons_of_mem _ hd)
    have h2 := h1.sz
    have h3 := h1.dp
    refine ⟨by simp only [PyData.showableAll, h1.sh, a, Bool.and_self], by simp only [PyData.hasDictAll, h1.nd, b, Bool.or_self], ?_, by simp only [PyData.shownAll, List.length_cons, e], by simp only [PyData.depthAll]; omega⟩
    simp only [PyData.shownAll, List.map_cons, List.sum_cons, List.length_cons, Nat.mul_add, Nat.mul_one]
    omega
theorem okd_list {n dp m : Nat} {ds : List PyData} (h : ∀ d ∈ ds, Okd d n dp) (hl : ds.length ≤ m) : Okd (.list ds) (m * (n + 2) + 3) (dp + 1) := by
  obtain ⟨a, b, c, e, f⟩ := okd_all h
  refine ⟨by simp only [PyData.showable, a], by simp only [PyData.hasDict, b], ?_, by simp only [PyData.depth]; omega⟩
  simp only [PyData.shown]
  have z := listText_len_le (PyData.shownAll ds)
  rw [e] at z
  have y : n * ds.length ≤ n * m := Nat.mul_le_mul_left _ hl
  rw [Nat.mul_add, Nat.mul_comm m n]
  omega
theorem okd_tuple {n dp m : Nat} {ds : List PyData} (h : ∀ d ∈ ds, Okd d n dp) (hl : ds.length ≤ m) : Okd (.tuple ds) (m * (n + 2) + 3) (dp + 1) := by
  obtain ⟨a, b, c, e, f⟩ := okd_all h
  refine ⟨by simp only [PyData.showable, a], by simp only [PyData.hasDict, b], ?_, by simp only [PyData.depth]; omega⟩
  simp only [PyData.shown]
  have z := tupleText_len_le (PyData.shownAll ds)
  rw [e] at z
  have y : n * ds.length ≤ n * m := Nat.mul_le_mul_left _ hl
  rw [Nat.mul_add, Nat.mul_comm m n]
  omega
/-! ### the data of framings, weavings, lines -/
def d2 (e : E2) : PyData := .tuple [.int e.1, .int e.2]
def dFr (fr : List T3) : PyData := .tuple (fr.map d3)
def dWv (es : List E2) : PyData := .tuple (es.map d2)
def dLn (ls : List (List E2)) : PyData := .tuple (ls.map dWv)
theorem dp_fr {K : PySem.W.Frag} {H : Hp} {f : Addr} {fr : List T3} (h : FrA H f fr) : Dp K H (.ref f) (dFr fr) := by
  obtain ⟨ts, e, l, c⟩ := h
  exact .tup (SqT.of e) (dp3s ⟨l, c⟩)
theorem dp2s {K : PySem.W.Frag} {H : Hp} : ∀ {ts : List Addr} {xs : List E2}, At2 H ts xs → DpAll K H (ts.map V.ref) (xs.map d2)
  | [], [], _ => .nil
  | [], _ :: _, h => by cases h.1
  | _ :: _, [], h => by cases h.1
  | t :: ts, x :: xs, h => .cons (.tup (SqT.of (h.2 0 t x rfl rfl)) (.cons (.int _) (.cons (.int _) .nil))) (dp2s ⟨by have := h.1; simpa using this, fun i t x h1 h2 => h.2 (i + 1) t x (by simpa using h1) (by simpa using h2)⟩)
theorem dp_wv {K : PySem.W.Frag} {H : Hp} {w : Addr} {es : List E2} (h : WvA H w es) : Dp K H (.ref w) (dWv es) := by
  obtain ⟨ts, e, l, c⟩ := h
  exact .tup (SqT.of e) (dp2s ⟨l, c⟩)
theorem dp_lns {K : PySem.W.Frag} {H : Hp} : ∀ {qs : List Addr} {ls : List (List E2)}, qs.length = ls.length → (∀ (i : Nat) q l, qs[i]? = some q → ls[i]? = some l → WvA H q l) → DpAll K H (qs.map V.ref) (ls.map dWv)
  | [], [], _, _ => .nil
  | [], _ :: _, h, _ => by cases h
  | _ :: _, [], h, _ => by cases h
  | q :: qs, l :: ls, h, c => .cons (dp_wv (c 0 q l rfl rfl)) (dp_lns (by simpa using h) fun i q l h1 h2 => c (i + 1) q l (by simpa using h1) (by simpa using h2))
theorem dp_ln {K : PySem.W.Frag} {H : Hp} {p : Addr} {ls : List (List E2)} (h : LnA H p ls) : Dp K H (.ref p) (dLn ls) := by
  obtain ⟨qs, e, l, c⟩ := h
  exact .tup (SqT.of e) (dp_lns l c)
theorem okd_fr {fr : List T3} {last : Nat} (F : Frm fr last) : Okd (dFr fr) 5000 2 := by
  refine (okd_tuple (n := 300) (dp := 1) (m := 16) (fun d hd => ?_) (by rw [List.length_map]; exact F.l1)).le (by decide) (by decide)
  obtain ⟨x, hx, rfl⟩ := List.mem_map.mp hd
  obtain ⟨s0, s1, s2, s3, s4⟩ := F.stp x hx
  refine (okd_tuple (n := 82) (dp := 0) (m := 3) (fun d hd => ?_) (Nat.le_refl _)).le (by decide) (by decide)
  have cs : d = .int x.1 ∨ d = .str x.2.1 ∨ d = .int x.2.2 := by simpa using hd
  rcases cs with rfl | rfl | rfl
  · exact (okd_int s0 (by omega)).le (by decide) (by decide)
  · exact okd_str (pc_ok s2) (pc_len s2).2
  · exact (okd_int s3 (by omega)).le (by decide) (by decide)
theorem okd_wv {fr : List T3} {es : List E2} (he : ∀ e ∈ es, Ent fr e) (hf : fr.length ≤ 16) (hl : es.length ≤ 60) : Okd (dWv es) 3000 2 := by
  refine (okd_tuple (n := 40) (dp := 1) (m := 60) (fun d hd => ?_) (by rw [List.length_map]; exact hl)).le (by decide) (by decide)
  obtain ⟨x, hx, rfl⟩ := List.mem_map.mp hd
  obtain ⟨s0, s1, s2, s3⟩ := he x hx
  refine (okd_tuple (n := 10) (dp := 0) (m := 2) (fun d hd => ?_) (Nat.le_refl _)).le (by decide) (by decide)
  have cs : d = .int x.1 ∨ d = .int x.2 := by simpa using hd
  rcases cs with rfl | rfl
  · exact okd_int s0 (by omega)
  · exact okd_int s2 (by omega)
theorem replL_mem {a d : Nat} {z : List Nat} : ∀ {l : List Nat}, d ∈ StrLaws.replL [a] z l → d ∈ z ∨ d ∈ l
  | [], h => by
    rw [StrLaws.replL_nil] at h
    cases h
  | c :: r, h => by
    by_cases e : (c :: r).take ([a] : List Nat).length = [a]
    · rw [StrLaws.replL_hit (by simp) e] at h
      rcases List.mem_append.mp h with h | h
      · exact .inl h
      · exact (replL_mem (l := r) h).imp id fun z => List.mem_cons_of_mem _ z
    · rw [StrLaws.replL_miss e] at h
      rcases List.mem_cons.mp h with h | h
      · exact .inr (by rw [h]; exact List.mem_cons_self ..)
      · exact (replL_mem (l := r) h).imp id fun z => List.mem_cons_of_mem _ z
theorem at_eq : ("@" : Str) = ⟨#[64]⟩ := by decide +kernel
theorem mrk_low {n : Int} : mrk n < 0x110000 := by
  unfold mrk
  by_cases h : n.toNat < 8
  · have z : ∀ k : Fin 8, (sl ("ABCDEFGH" : Str)).getD k.val 0 < 0x110000 := by decide +kernel
    exact z ⟨n.toNat, h⟩
  · rw [List.getD_eq_getElem?_getD, List.getElem?_eq_none (by
      have : (sl ("ABCDEFGH" : Str)).length = 8 := by decide +kernel
      omega)]
    decide
theorem ok_low {p : Str} (h : PyData.strOk p = true) : ∀ c ∈ sl p, c < 0x110000 := fun c hc => by
  unfold PyData.strOk at h
  rw [← Array.all_toList, List.all_eq_true] at h
  exact of_decide_eq_true (h c hc)
theorem putE_low {fr : List T3} {e : E2} (h : PyData.strOk (stt fr e.2).2.1 = true) : ∀ c ∈ sl (putE fr e), c < 0x110000 := by
  intro c hc
  unfold putE at hc
  rw [at_eq, show sl (Txt.replace (stt fr e.2).2.1 ⟨#[64]⟩ ⟨#[mrk e.1]⟩) = StrLaws.replL [64] [mrk e.1] (sl (stt fr e.2).2.1) from StrLaws.replace_list (by decide)] at hc
  rcases replL_mem hc with z | z
  · have : c = mrk e.1 := by simpa using z
    rw [this]
    exact mrk_low
  · exact ok_low h c z
theorem okd_text {fr : List T3} {es : List E2} {last : Nat} (F : Frm fr last) (he : ∀ e ∈ es, Ent fr e) (hl : es.length ≤ 60) : Okd (.str (textE fr es)) 12000 0 := by
  have hm : ∀ e ∈ es, stt fr e.2 ∈ fr := fun e h => by
    obtain ⟨_, _, n0, n1⟩ := he e h
    obtain ⟨k, hk⟩ := Int.eq_ofNat_of_zero_le n0
    unfold stt
    rw [hk] at n1 ⊢
    have kl : k < fr.length := by omega
    rw [List.getD_eq_getElem?_getD, Int.toNat_natCast, List.getElem?_eq_getElem kl]
    exact List.getElem_mem kl
  have ll : ∀ l : List E2, (∀ e ∈ l, e ∈ es) → ((l.map (putE fr)).map sl).flatten.length ≤ 17 * l.length ∧ ∀ c, c ∈ ((l.map (putE fr)).map sl).flatten → c < 0x110000 := by
    intro l
    induction l with
    | nil => exact fun _ => ⟨Nat.le_refl _, fun c h => by cases h⟩
    | cons e l ih =>
      intro h
      obtain ⟨i1, i2⟩ := ih fun x hx => h x (List.mem_cons_of_mem _ hx)
      have e1 := h e (List.mem_cons_self ..)
      have sp := (F.stp _ (hm e e1)).2.2.1
      have h1 := putE_len (pc_len sp).2
      rw [len_sl] at h1
      rw [List.map_cons, List.map_cons, List.flatten_cons]
      refine ⟨by rw [List.length_append, List.length_cons]; omega, fun c hc => ?_⟩
      rcases List.mem_append.mp hc with hc | hc
      · exact putE_low (pc_ok sp) c hc
      · exact i2 c hc
  obtain ⟨z1, z2⟩ := ll es fun e h => h
  have es1 : sl (textE fr es) = ((es.map (putE fr)).map sl).flatten := txt_join _
  rw [← es1] at z1 z2
  refine (okd_str (m := 1020) ?_ (by rw [len_sl]; omega)).le (by decide) (by decide)
  unfold PyData.strOk
  rw [← Array.all_toList, List.all_eq_true]
  exact fun c hc => decide_eq_true (z2 c hc)
theorem mem_cutE {α : Type} {es : List α} {lo hi : Nat} {x : α} (h : x ∈ cutE es lo hi) : x ∈ es := List.mem_of_mem_drop (List.mem_of_mem_take h)
theorem okd_ln {fr : List T3} {es : List E2} (he : ∀ e ∈ es, Ent fr e) (hf : fr.length ≤ 16) (hl : es.length ≤ 60) : Okd (dLn (linesE fr es)) 200000 3 := by
  refine (okd_tuple (n := 3000) (dp := 2) (m := 61) (fun d hd => ?_) ?_).le (by decide) (by decide)
  · obtain ⟨l, hl2, rfl⟩ := List.mem_map.mp hd
    unfold linesE at hl2
    obtain ⟨q, _, rfl⟩ := List.mem_map.mp hl2
    refine okd_wv (fun e h => he e (mem_cutE h)) hf ?_
    unfold cutE
    rw [List.length_take, List.length_drop]
    omega
  · have z := lpN_len (fr := fr) hl
    unfold linesE
    rw [List.length_map, List.length_map, List.length_zip]
    omega
theorem okd_ints {ns : List Int} (h : ∀ n ∈ ns, 0 ≤ n ∧ n ≤ 5) (hl : ns.length ≤ 8) : Okd (.tuple (ns.map PyData.int)) 200 1 := by
  refine (okd_tuple (n := 10) (dp := 0) (m := 8) (fun d hd => ?_) (by rw [List.length_map]; exact hl)).le (by decide) (by decide)
  obtain ⟨n, hn, rfl⟩ := List.mem_map.mp hd
  exact okd_int (h n hn).1 (by have := (h n hn).2; omega)
end K31
/-! The law. -/
namespace K31
open PySem L2 L2.EV
abbrev sLaw : Stmt := top 37
structure Lall (K : PySem.W.Frag) (mg : Str → Option Value) where
  G : Qs K mg
  W : Lw K mg
  T : Lt K mg
  fB : Addr
  dB : FuncData
  B : Fun K "_law_begun" "_law_begun" sBegun fB dB
  bB : Binds K dB ["script"] []
  mB : mg "_law_begun" = some (.ref fB)
  mi : mg "min" = none
  re : mg "repr" = none
def frc : List T3 := [(0, "@a", 1), (1, "@b;", 0)]
def esc : List E2 := [(0, 0), (1, 0), (0, 1), (1, 1)]
theorem text_c : V.str (textE frc esc) = V.str "AaBaAb;Bb;" := by decide +kernel
theorem text_n : decide (V.str (textE frc []) = V.str "") = true := by decide +kernel
theorem frc_ok : Frm frc 1 := by
  have p1 : Pc "@a" (decide ((1 : Int) = 0)) := ⟨[64, 97], by decide +kernel, by decide, by decide +kernel, fun _ => by simp⟩
  have p2 : Pc "@b;" (decide ((0 : Int) = 0)) := ⟨[64, 98], by decide +kernel, by decide, by decide +kernel, fun _ => by simp⟩
  refine ⟨by decide, by decide, fun x hx => ?_, by decide +kernel, fun k hk => ?_, fun x hx => ?_, by decide⟩
  · have cs : x = ((0, "@a", 1) : T3) ∨ x = ((1, "@b;", 0) : T3) := by simpa [frc] using hx
    rcases cs with rfl | rfl
    · exact ⟨by decide, by decide, p1, by decide, by decide⟩
    · exact ⟨by decide, by decide, p2, by decide, by decide⟩
  · match k, hk with
    | 0, _ => exact ⟨((0, "@a", 1) : T3), by simp [frc], rfl, rfl⟩
    | 1, _ => exact ⟨((1, "@b;", 0) : T3), by simp [frc], rfl, rfl⟩
  · have cs : x = ((0, "@a", 1) : T3) ∨ x = ((1, "@b;", 0) : T3) := by simpa [frc] using hx
    rcases cs with rfl | rfl
    · exact ⟨by decide, by decide⟩
    · exact ⟨by decide, by decide⟩
theorem esc_ok : Wv frc esc := by
  refine ⟨by decide, fun e he => ?_, fun i e he => ?_⟩
  · have cs : e = (0, 0) ∨ e = (1, 0) ∨ e = (0, 1) ∨ e = (1, 1) := by simpa [esc] using he
    rcases cs with rfl | rfl | rfl | rfl <;> exact ⟨by decide, by decide, by decide, by decide⟩
  · match i with
    | 0 =>
      cases he
      decide +kernel
    | 1 =>
      cases he
      decide +kernel
    | 2 =>
      cases he
      decide +kernel
    | 3 =>
      cases he
      decide +kernel
    | i + 4 => cases he
def spLaw (K : PySem.W.Frag) : Sp := fun vs H Q _ => ∃ (a : Addr) (ns : List Int), vs = [.ref a] ∧ SqL K H a (ns.map V.int) ∧ ns.length ≤ 63 ∧ ∀ H', Q (.bl true) H'
section
variable {P : Program} {w : World} {K : PySem.W.Frag} {mg : Str → Option Value} {base : Heap}
theorem scLaw : FnScope ["script", "m", "turn", "framing", "weaving", "kept", "now", "writer", "number", "lines", "rest", "found", "one"] ["script"] (defScope sLaw) := ⟨rfl, rfl, rfl, by decide +kernel, rfl, by decide +kernel, by decide +kernel⟩
theorem ok_law {f : Addr} {fd : FuncData} (F : Fun K "law" "law" sLaw f fd) (L : Lall K mg) : FnG P w K mg base CX0 6 f fd ["script"] (spLaw K) := by
  have GB : FnOk P w K mg base CX0 1 L.fB L.dB ["script"] (spBegun K) := ok_begun L.B L.W.G.L.T
  have GX : FnOk P w K mg base CX0 1 L.W.G.L.f1 L.W.G.L.d1 ["m", "total"] spNext := ok_next L.W.G.L.N L.W.G.L.T
  have GF : FnOk P w K mg base CX0 3 L.W.G.f L.W.G.d ["m", "most"] spFraming := ok_framing L.W.G
  have GW : FnOk P w K mg base CX0 2 L.W.f2 L.W.d2 ["m", "framing", "writers", "total"] spWeave := ok_weave L.W
  have GL : FnOk P w K mg base CX0 1 L.T.f3 L.T.d3 ["framing", "weaving"] spLinesL := ok_linesL L.T
  have GT : FnOk P w K mg base CX0 2 L.T.f2 L.T.d2 ["framing", "entries"] spPut := ok_textL L.T
  have G1 : FnOk P w K mg base CX0 5 L.G.fF L.G.dF ["framing", "weaving"] spFile := ok_file L.G
  have G2 : FnOk P w K mg base CX0 5 L.G.fR L.G.dR ["framing", "weaving"] spRead := ok_read L.G L.G.U.Y.Z.T.tuple
  have G3 : FnOk P w K mg base CX0 5 L.G.fS L.G.dS ["framing", "weaving"] spRest := ok_rest L.G
  have G4 : FnOk P w K mg base CX0 5 L.G.fZ L.G.dZ ["framing", "weaving"] spStands := ok_stands L.G L.G.U.Y.Z.T.tuple
  have G5 : FnOk P w K mg base CX0 4 L.G.U.Y.fW L.G.U.Y.dW ["framing", "thing"] spNeedW := ok_needW L.G.U.Y
  refine okG F scLaw (fun vs H Q E h => ?_) (fun cdv A outer s H vs Q E hr hgd h => ?_)
  · obtain ⟨a, ns, rfl, _⟩ := h
    rfl
  · obtain ⟨a, ns, rfl, hS, hlen, q⟩ := h
    have gd : (A.deeper (PyProof.Rows.envOfC "law" (defScope sLaw) s.heap.objs.size f cdv)).guards = some [] := hgd
    have hu64 := hr.units
    have r1 := hr.mono (j := 1) (by decide)
    have r2 := hr.mono (j := 2) (by decide)
    have r3 := hr.mono (j := 3) (by decide)
    have r4 := hr.mono (j := 4) (by decide)
    refine ⟨_, pss_cons (ps_set (i := 1) scLaw.nd rfl (Or.inl rfl) (pe_call GB r1 (by rfl) L.mB L.B.kp L.bB .nil pass0 (pa_cons (pv 0) pa_nil)))
      (pss_cons (ps_for PassesOwn.never rfl (pi_range1 (by rfl) L.W.G.L.ra (pa_cons (pe_op op_add pe_int (pe_callB (call_min2 rfl) (by rfl) L.mi (by decide +kernel) (pa_cons (pe_callB call_len_seq (by rfl) L.W.G.L.T.len PySem.boot_len (pa_cons (pv 0) pa_nil)) (pa_cons pe_int pa_nil)))) pa_nil))
          (pg_name (i := 2) scLaw.nd rfl (Or.inl rfl))
        (pss_cons (ps_set (i := 3) scLaw.nd rfl (Or.inl rfl) (pe_call GF r3 (by rfl) L.W.G.g L.W.G.F.kp L.W.G.b .nil pass0 (pa_cons (pv 1) (pa_cons pe_int pa_nil))))
        (pss_cons (ps_set (i := 4) scLaw.nd rfl (Or.inl rfl) (pe_call GW r2 (by rfl) L.W.gW L.W.W.kp L.W.bW .nil pass0 (pa_cons (pv 1) (pa_cons (pv 3) (pa_cons (pe_op op_add pe_int (pe_call GX r1 (by rfl) L.W.G.L.mN L.W.G.L.N.kp L.W.G.L.bN .nil pass0 (pa_cons (pv 1) (pa_cons pe_int pa_nil)))) (pa_cons (pe_call GX r1 (by rfl) L.W.G.L.mN L.W.G.L.N.kp L.W.G.L.bN .nil pass0 (pa_cons (pv 1) (pa_cons pe_int pa_nil))) pa_nil))))))
        (pss_cons (ps_par (i := 5) (j := 6) (x := "kept") (y := "now") rfl scLaw.nd rfl rfl (by decide) rfl rfl (pa_cons (pe_callB (call_showD gd hu64) (by rfl) L.re (by decide +kernel) (pa_cons (pe_lst (pa_cons (pv 3) (pa_cons (pv 4) pa_nil))) pa_nil)) (pa_cons (pe_op op_rep (pe_lst (pa_cons pe_int pa_nil)) pe_int) pa_nil)) (by rfl))
        (pss_cons (ps_for PassesOwn.never rfl (pi_tup (pv 4)) (pg_tup rfl (pgs_cons (pg_name (i := 7) scLaw.nd rfl (Or.inl rfl)) (pgs_cons (pg_name (i := 8) scLaw.nd rfl (Or.inl rfl)) pgs_nil)))
          (pss_one (ps_asg (pe_ix ix_tup (pe_ix ix_tup (pv 3) (pv 8) (fun _ _ => rfl)) pe_int (fun _ _ => rfl)) (pg_sub (pv 6) (pv 7) set_list))))
        (pss_cons (ps_asg (pe_call GL r1 (by rfl) L.T.gL L.T.L.kp L.T.bL .nil pass0 (pa_cons (pv 3) (pa_cons (pv 4) pa_nil))) (pg_tup rfl (pgs_cons (pg_name (i := 9) scLaw.nd rfl (Or.inl rfl)) (pgs_cons (pg_name (i := 10) scLaw.nd rfl (Or.inl rfl)) pgs_nil))))
        (pss_cons (ps_set (i := 11) scLaw.nd rfl (Or.inl rfl) (pe_lst (pa_cons (pe_call G1 hr (by rfl) L.G.mF L.G.F.kp L.G.bF .nil pass0 (pa_cons (pv 3) (pa_cons (pv 4) pa_nil))) (pa_cons (pe_call G2 hr (by rfl) L.G.mR L.G.R.kp L.G.bR .nil pass0 (pa_cons (pv 3) (pa_cons (pv 4) pa_nil))) (pa_cons (pe_call G3 hr (by rfl) L.G.mS L.G.S.kp L.G.bS .nil pass0 (pa_cons (pv 3) (pa_cons (pv 4) pa_nil))) pa_nil)))))
        (pss_cons (ps_if (pt_cmpR op_ne (pe_callB (call_showD gd hu64) (by rfl) L.re (by decide +kernel) (pa_cons (pv 11) pa_nil))
            (pe_callB (call_showD gd hu64) (by rfl) L.re (by decide +kernel) (pa_cons (pe_lst (pa_cons (pe_call GT r2 (by rfl) L.T.gT L.T.T.kp L.T.bT .nil pass0 (pa_cons (pv 3) (pa_cons (pv 4) pa_nil))) (pa_cons (pe_callTy call_tuple_of (by rfl) L.T.tu (by decide +kernel) (pa_cons (pv 9) pa_nil)) (pa_cons (pv 10) pa_nil)))) pa_nil)) (nomark _)) (pss_one (ps_ret pe_bl)) pss_nil)
        (pss_cons (ps_if (pt_cmpR op_ne (pe_callB (call_showD gd hu64) (by rfl) L.re (by decide +kernel) (pa_cons (pe_call G4 hr (by rfl) L.G.mZ L.G.Z.kp L.G.bZ .nil pass0 (pa_cons (pv 3) (pa_cons (pv 4) pa_nil))) pa_nil))
            (pe_callB (call_showD gd hu64) (by rfl) L.re (by decide +kernel) (pa_cons (pe_callTy call_tuple_of (by rfl) L.T.tu (by decide +kernel) (pa_cons (pv 6) pa_nil)) pa_nil)) (nomark _)) (pss_one (ps_ret pe_bl)) pss_nil)
        (pss_cons (ps_if (pt_cmpR op_ne (pe_callB (call_showD gd hu64) (by rfl) L.re (by decide +kernel) (pa_cons (pe_call G5 r4 (by rfl) L.G.U.Y.mW L.G.U.Y.W.kp L.G.U.Y.bW .nil pass0 (pa_cons (pv 3) (pa_cons (pv 4) pa_nil))) pa_nil))
            (pe_callB (call_showD gd hu64) (by rfl) L.re (by decide +kernel) (pa_cons (pv 4) pa_nil)) (nomark _)) (pss_one (ps_ret pe_bl)) pss_nil)
        (pss_one (ps_if (pt_cmpR op_ne (pe_callB (call_showD gd hu64) (by rfl) L.re (by decide +kernel) (pa_cons (pe_lst (pa_cons (pv 3) (pa_cons (pv 4) pa_nil))) pa_nil)) (pv 5) (nomark _)) (pss_one (ps_ret pe_bl)) pss_nil))))))))))))
      (pss_cons (ps_set (i := 12) scLaw.nd rfl (Or.inl rfl) (pe_tup (pa_cons (pe_tup (pa_cons pe_int (pa_cons pe_str (pa_cons pe_int pa_nil)))) (pa_cons (pe_tup (pa_cons pe_int (pa_cons pe_str (pa_cons pe_int pa_nil)))) pa_nil))))
      (pss_one (ps_ret (pe_and (pe_cmpR op_eq (pe_call G1 hr (by rfl) L.G.mF L.G.F.kp L.G.bF .nil pass0 (pa_cons (pv 12) (pa_cons (pe_tup (pa_cons (pe_tup (pa_cons pe_int (pa_cons pe_int pa_nil))) (pa_cons (pe_tup (pa_cons pe_int (pa_cons pe_int pa_nil))) (pa_cons (pe_tup (pa_cons pe_int (pa_cons pe_int pa_nil))) (pa_cons (pe_tup (pa_cons pe_int (pa_cons pe_int pa_nil))) pa_nil))))) pa_nil))) pe_str (nomark _))
        (pe_one (pe_cmpR op_eq (pe_call G1 hr (by rfl) L.G.mF L.G.F.kp L.G.bF .nil pass0 (pa_cons (pv 12) (pa_cons (pe_tup pa_nil) pa_nil))) pe_str (nomark _)))))))), ?_⟩
    refine ⟨_, rfl, a, ns, rfl, hS, by omega, fun m c l0 H0 M0 hm hc hl sm0 => ?_⟩
    have nl : (ns.map V.int).length ≤ 63 := by rw [List.length_map]; exact hlen
    refine ⟨_, rfl, a, _, rfl, .inl (sm0.seq hS), _, 6, rfl, 3, _, rfl, rfl, _, rfl, by split <;> omega, by split <;> omega, ?_⟩
    have hN : (3 + if (6 : Int) < ((ns.map V.int).length : Nat) then 6 else (((ns.map V.int).length : Nat) : Int)).toNat ≤ 9 := by split <;> omega
    generalize (3 + if (6 : Int) < ((ns.map V.int).length : Nat) then 6 else (((ns.map V.int).length : Nat) : Int)).toNat = N at hN ⊢
    refine for_it walk_range (fun i σ H' => ∃ (v2 v3 v4 v5 v6 v7 v8 v9 v10 v11 v12 : Option V) (l : Addr) (k : Int), σ = [some (.ref a), some (.ref m), v2, v3, v4, v5, v6, v7, v8, v9, v10, v11, v12] ∧ MAt H' m c l k ∧ k ≤ 700 * i)
      ⟨none, none, none, none, none, none, none, none, none, none, none, l0, 0, rfl, M0, by omega⟩ (fun _ _ _ _ _ => trivial) ?_ ?_
    · rintro i x σ H1 H1' hi ⟨v2, v3, v4, v5, v6, v7, v8, v9, v10, v11, v12, l1, k1, rfl, M1, kk1⟩ ⟨rfl, rfl⟩
      refine ⟨_, rfl, m, c, l1, k1, rfl, M1, by omega, fun f fr last H2 l2 k2 fa fm kk2 d2 => ?_⟩
      refine ⟨_, rfl, _, rfl, _, rfl, m, c, l2, k2, 8, rfl, d2.at_, by decide, by decide, by omega, fun r3 H3 l3 k3 a3 b3 g3 N3 f3 q3 => ?_⟩
      refine ⟨1, r3, rfl, rfl, _, rfl, m, c, l3, k3, 61, rfl, N3, by decide, by decide, by omega, fun r4 H4 l4 k4 a4 b4 g4 N4 f4 q4 => ?_⟩
      have d4 : Dr H2 H4 m c l2 l4 k4 := Dr.trans (⟨N3, f3, q3⟩ : Dr H2 H3 m c l2 l3 k3) ⟨N4, f4, q4⟩
      obtain ⟨n3, rfl⟩ := Int.eq_ofNat_of_zero_le a3
      obtain ⟨n4, rfl⟩ := Int.eq_ofNat_of_zero_le a4
      have fa4 := d4.fr d2.at_ fa
      refine ⟨m, c, l4, f, k4, fr, last, 1 + n3, n4, by rw [Int.natCast_add]; rfl, N4, by omega, fa4, fm, by omega, by omega, by omega, fun w es H5 l5 k5 wa wo kk5 d5 => ?_⟩
      have fa5 := d5.fr N4 fa4
      have M5 := d5.at_
      have ent := wo.ent
      have l16 := fm.l1
      have l60 := wo.l
      have okA : Okd (.list [dFr fr, dWv es]) (2 * (5000 + 2) + 3) 3 := okd_list (fun d hd => by
        have cs : d = dFr fr ∨ d = dWv es := by simpa using hd
        rcases cs with rfl | rfl
        · exact okd_fr fm
        · exact (okd_wv ent l16 l60).le (by decide) (by decide)) (Nat.le_refl _)
      have okW := okd_wv ent l16 l60
      have okR : Okd (dWv (restE fr es)) 3000 2 := okd_wv (fun e h => ent e (List.mem_of_mem_drop h)) l16 (by unfold restE; rw [List.length_drop]; omega)
      have okB : Okd (.list [.str (textE fr es), dLn (linesE fr es), dWv (restE fr es)]) (3 * (200000 + 2) + 3) 4 := okd_list (fun d hd => by
        have cs : d = .str (textE fr es) ∨ d = dLn (linesE fr es) ∨ d = dWv (restE fr es) := by simpa using hd
        rcases cs with rfl | rfl | rfl
        · exact (okd_text fm ent l60).le (by decide) (by decide)
        · exact okd_ln ent l16 l60
        · exact okR.le (by decide) (by decide)) (Nat.le_refl _)
      have okS : Okd (.tuple ((plc fr es).map PyData.int)) 200 1 := okd_ints (fun n hn => by
        obtain ⟨z1, z2⟩ := plc_ok fm ent n hn
        have := fm.l5
        exact ⟨z1, by omega⟩) (by rw [plc_len]; omega)
      have szz : ∀ {n : Nat}, n ≤ 700000 → n ≤ sizeLine := fun h => by rw [sizeLine_eq]; omega
      refine ⟨_, rfl, _, rfl, (by show 2 ≤ sizeLine; decide), fun p6 hp6 => ?_⟩
      have u6 := same_upd (o := HO.lst [V.ref f, V.ref w]) hp6
      refine ⟨p6, .list [dFr fr, dWv es], rfl, .lst (SqL.of upd_same) (.cons (dp_fr (fa5.same u6)) (.cons (dp_wv (wa.same u6)) .nil)), okA.sh, okA.nd, szz (Nat.le_trans okA.sz (by decide)), Nat.le_trans okA.dp (by decide), ?_⟩
      refine ⟨(by show 1 ≤ sizeLine; decide), fun z hz => ⟨z, 8, _, rfl, rfl, upd_same, by decide, by decide, (by show 1 * 8 ≤ sizeLine; decide), fun W hW => ⟨_, _, rfl, ?_⟩⟩⟩
      have u7 := same_upd (o := HO.lst [V.int 0]) hz
      have u8 := same_upd (o := HO.lst (List.replicate (8 : Int).toNat [V.int 0]).flatten) hW
      have hW5 : H5 W = none := (u6.trans u7).free hW
      obtain ⟨tw, hw, wl, wt⟩ := id wa
      have s8 : Same H5 _ := u6.trans (u7.trans u8)
      refine ⟨_, rfl, w, rfl, ⟨_, SqT.of (s8 _ _ hw)⟩, for_it (walk_tup (xs := tw.map V.ref)) (fun j σ H' => ∃ v7 v8 : Option V, σ = [some (.ref a), some (.ref m), some (.int (0 + (i : Int))), some (.ref f), some (.ref w), some (.str (PyData.list [dFr fr, dWv es]).shown), some (.ref W), v7, v8, v9, v10, v11, v12] ∧
        H' W = some (.lst ((plc fr (es.take j)).map V.int)) ∧ Same H5 H') ⟨_, _, rfl, upd_same, s8⟩ (fun j σ H' _ ⟨_, _, _, _, z⟩ => SqT.of (z _ _ hw)) ?_ ?_⟩
      · rintro j x σ H9 H9' hj ⟨v7, v8, rfl, hW9, s9⟩ ⟨rfl, hx⟩
        obtain ⟨t, e, he, _, rfl, e4⟩ := at_ent (i := j) wl wt hx
        obtain ⟨e0, e1, n0, n1⟩ := ent e (List.mem_of_getElem? he)
        obtain ⟨ts, t2, hf, ha, h3, _⟩ := stt_at (fa5.same s9) n0 n1
        refine ⟨t, _, rfl, SqT.of (s9 _ _ e4), rfl, _, _, rfl, _, _, rfl, rfl, ?_⟩
        refine ⟨_, rfl, _, rfl, f, _, e.2, .ref t2, rfl, rfl, SqT.of hf, ha, t2, _, 2, _, rfl, rfl, SqT.of h3, atI_nat (j := 2) rfl, _, rfl, _, rfl, W, _, e.1, e.1.toNat, rfl, rfl, hW9, ?_, ?_⟩
        · rw [List.length_map, plc_len]
          unfold ixN
          rw [if_pos e0, if_pos (by omega)]
        · refine ⟨_, _, rfl, ?_, same_set hW5 s9⟩
          rw [take_one he, plc_snoc, List.map_set]
          exact upd_same
      · rintro σ H9 ⟨v7, v8, rfl, hW9, s9⟩
        rw [List.length_map, wl, List.take_length] at hW9
        refine ⟨_, rfl, _, rfl, f, w, fr, last, es, rfl, fa5.same s9, fm, wa.same s9, wo, fun H10 p q r qs s10 e1 e2 ql qp wr => ?_⟩
        obtain ⟨z1, z2⟩ := spl_is fr es
        rw [← z1] at ql qp
        rw [← z2] at wr
        refine ⟨p, _, rfl, SqT.of e1, rfl, _, _, rfl, _, _, rfl, rfl, ?_⟩
        have t10 := s9.trans s10
        refine ⟨_, rfl, _, rfl, f, w, fr, last, es, rfl, fa5.same t10, fm, wa.same t10, wo, fun H11 s11 => ?_⟩
        have t11 := t10.trans s11
        refine ⟨_, rfl, _, rfl, f, w, fr, last, es, rfl, fa5.same t11, fm, wa.same t11, wo, fun H12 pl s12 ln => ?_⟩
        have t12 := t11.trans s12
        refine ⟨_, rfl, _, rfl, f, w, fr, last, es, rfl, fa5.same t12, fm, wa.same t12, wo, fun H13 pr s13 wr2 => ?_⟩
        have t13 := t12.trans s13
        refine ⟨(by show 3 ≤ sizeLine; decide), fun pf hpf => ?_⟩
        have u13 := same_upd (o := HO.lst [V.str (textE fr es), V.ref pl, V.ref pr]) hpf
        have t14 := t13.trans u13
        have lnS : ∀ {H H' : Hp} {p : Addr} {ls : List (List E2)}, LnA H p ls → Same H H' → LnA H' p ls := fun {H H' p ls} ⟨qs, e, b, c⟩ s => ⟨qs, s _ _ e, b, fun i q l h1 h2 => (c i q l h1 h2).same s⟩
        refine ⟨_, rfl, pf, .list [.str (textE fr es), dLn (linesE fr es), dWv (restE fr es)], rfl, .lst (SqL.of upd_same) (.cons (.str _) (.cons (dp_ln (lnS ln (s13.trans u13))) (.cons (dp_wv (wr2.same u13)) .nil))), okB.sh, okB.nd, szz (Nat.le_trans okB.sz (by decide)), Nat.le_trans okB.dp (by decide), ?_⟩
        refine ⟨_, rfl, _, rfl, f, w, fr, last, es, rfl, fa5.same t14, fm, wa.same t14, wo, fun H15 s15 => ?_⟩
        have t15 := t14.trans s15
        have x15 : Same H10 H15 := s11.trans (s12.trans (s13.trans (u13.trans s15)))
        refine ⟨_, rfl, q, _, rfl, .inl ⟨SqL.of (x15 _ _ e2), fun pt hpt => ?_⟩⟩
        have u16 := same_upd (o := HO.tup (qs.map V.ref)) hpt
        refine ⟨_, rfl, (by show 3 ≤ sizeLine; decide), fun pg hpg => ?_⟩
        have u17 := same_upd (o := HO.lst [V.str (textE fr es), V.ref pt, V.ref r]) hpg
        have x17 := x15.trans (u16.trans u17)
        have t17 := t15.trans (u16.trans u17)
        have ln2 : LnA _ pt (linesE fr es) := ⟨qs, u17 _ _ upd_same, ql, fun i q l h1 h2 => (qp i q l h1 h2).same x17⟩
        refine ⟨pg, .list [.str (textE fr es), dLn (linesE fr es), dWv (restE fr es)], rfl, .lst (SqL.of upd_same) (.cons (.str _) (.cons (dp_ln ln2) (.cons (dp_wv (wr.same x17)) .nil))), okB.sh, okB.nd, szz (Nat.le_trans okB.sz (by decide)), Nat.le_trans okB.dp (by decide), rfl, _, rfl, iteF' (by simp) ?_⟩
        generalize upd (upd H15 pt (.tup (qs.map V.ref))) pg (.lst [V.str (textE fr es), V.ref pt, V.ref r]) = H17 at *
        refine ⟨_, rfl, _, rfl, f, w, fr, last, es, rfl, fa5.same t17, fm, wa.same t17, wo, fun H18 ps s18 e18 => ?_⟩
        have t18 := t17.trans s18
        refine ⟨ps, .tuple ((plc fr es).map PyData.int), rfl, .tup (SqT.of e18) (dp_ints _), okS.sh, okS.nd, szz (Nat.le_trans okS.sz (by decide)), Nat.le_trans okS.dp (by decide), ?_⟩
        have x18 : Same H9 H18 := s10.trans (x17.trans s18)
        refine ⟨_, rfl, W, _, rfl, .inl ⟨SqL.of (x18 _ _ hW9), fun pn hpn => ?_⟩⟩
        have u19 := same_upd (o := HO.tup ((plc fr es).map V.int)) hpn
        have t19 := t18.trans u19
        refine ⟨pn, .tuple ((plc fr es).map PyData.int), rfl, .tup (SqT.of upd_same) (dp_ints _), okS.sh, okS.nd, szz (Nat.le_trans okS.sz (by decide)), Nat.le_trans okS.dp (by decide), rfl, _, rfl, iteF' (by simp) ?_⟩
        refine ⟨_, rfl, _, rfl, f, w, fr, last, es, rfl, fa5.same t19, fm, wa.same t19, wo, fun H20 s20 => ?_⟩
        have t20 := t19.trans s20
        refine ⟨w, dWv es, rfl, dp_wv (wa.same t20), okW.sh, okW.nd, szz (Nat.le_trans okW.sz (by decide)), Nat.le_trans okW.dp (by decide), ?_⟩
        refine ⟨_, rfl, w, dWv es, rfl, dp_wv (wa.same t20), okW.sh, okW.nd, szz (Nat.le_trans okW.sz (by decide)), Nat.le_trans okW.dp (by decide), rfl, _, rfl, iteF' (by simp) ?_⟩
        refine ⟨_, rfl, _, rfl, (by show 2 ≤ sizeLine; decide), fun p21 hp21 => ?_⟩
        have u21 := same_upd (o := HO.lst [V.ref f, V.ref w]) hp21
        have t21 := t20.trans u21
        refine ⟨p21, .list [dFr fr, dWv es], rfl, .lst (SqL.of upd_same) (.cons (dp_fr (fa5.same t21)) (.cons (dp_wv (wa.same t21)) .nil)), okA.sh, okA.nd, szz (Nat.le_trans okA.sz (by decide)), Nat.le_trans okA.dp (by decide), _, rfl, rfl, _, rfl, iteF' (by simp) ?_⟩
        exact ⟨_, _, _, _, _, _, _, _, _, _, _, l5, k5, rfl, M5.same t21, by omega⟩
    · rintro σ H1 ⟨v2, v3, v4, v5, v6, v7, v8, v9, v10, v11, v12, l1, k1, rfl, M1, kk1⟩
      refine ⟨(by show 3 ≤ sizeLine; decide), fun t1 h1 => ⟨(by show 3 ≤ sizeLine; decide), fun t2 h2 => ⟨(by show 2 ≤ sizeLine; decide), fun po hpo => ?_⟩⟩⟩
      have u1 := same_upd (o := HO.tup [V.int 0, V.str "@a", V.int 1]) h1
      have u2 := same_upd (o := HO.tup [V.int 1, V.str "@b;", V.int 0]) h2
      have u3 := same_upd (o := HO.tup [V.ref t1, V.ref t2]) hpo
      have fa : FrA _ po frc := ⟨[t1, t2], upd_same, rfl, fun i t x e1 e2 => by
        match i with
        | 0 =>
          cases e1
          cases e2
          exact u3 _ _ (u2 _ _ upd_same)
        | 1 =>
          cases e1
          cases e2
          exact u3 _ _ upd_same
        | i + 2 => cases e1⟩
      refine ⟨_, rfl, (by show 2 ≤ sizeLine; decide), fun w1 k1 => ⟨(by show 2 ≤ sizeLine; decide), fun w2 k2 => ⟨(by show 2 ≤ sizeLine; decide), fun w3 k3 => ⟨(by show 2 ≤ sizeLine; decide), fun w4 k4 => ⟨(by show 4 ≤ sizeLine; decide), fun pw k5 => ?_⟩⟩⟩⟩⟩
      have x1 := same_upd (o := HO.tup [V.int 0, V.int 0]) k1
      have x2 := same_upd (o := HO.tup [V.int 1, V.int 0]) k2
      have x3 := same_upd (o := HO.tup [V.int 0, V.int 1]) k3
      have x4 := same_upd (o := HO.tup [V.int 1, V.int 1]) k4
      have x5 := same_upd (o := HO.tup [V.ref w1, V.ref w2, V.ref w3, V.ref w4]) k5
      have wa : WvA _ pw esc := ⟨[w1, w2, w3, w4], upd_same, rfl, fun i t x e1 e2 => by
        match i with
        | 0 =>
          cases e1
          cases e2
          exact x5 _ _ (x4 _ _ (x3 _ _ (x2 _ _ upd_same)))
        | 1 =>
          cases e1
          cases e2
          exact x5 _ _ (x4 _ _ (x3 _ _ upd_same))
        | 2 =>
          cases e1
          cases e2
          exact x5 _ _ (x4 _ _ upd_same)
        | 3 =>
          cases e1
          cases e2
          exact x5 _ _ upd_same
        | i + 4 => cases e1⟩
      have fa5 := fa.same (x1.trans (x2.trans (x3.trans (x4.trans x5))))
      refine ⟨po, pw, frc, 1, esc, rfl, fa5, frc_ok, wa, esc_ok, fun H2 s2 => ?_⟩
      refine ⟨rfl, true, by rw [text_c]; rfl, iteT ?_⟩
      refine ⟨_, rfl, by decide, fun p6 k6 => ?_⟩
      refine ⟨po, p6, frc, 1, [], rfl, (fa5.same s2).same (same_upd k6), frc_ok, ⟨[], upd_same, rfl, fun i t e h => by cases h⟩, ⟨Nat.zero_le _, fun e h => (by cases h), fun i e h => (by cases h)⟩, fun H3 s3 => ?_⟩
      refine ⟨rfl, ?_⟩
      rw [text_n]
      exact q H3
end
end K31
set_option maxHeartbeats 8000000
/-! What the top has written. -/
namespace K31
open PySem L2 L2.EV
theorem all_mk {P : Program} {w : World} {K : PySem.W.Frag} {h : Heap} {mg : Str → Option Value} {fa f_iN f_iP f_iS f_iL f_iW f_iJ f_iF f_wE f_wR f_wW f_pT f_pL f_qF f_qR f_qS f_qZ f_lB f_lN f_lP f_lF f_lG f_lW f_tP f_tT f_tL f_la : Addr}
    {od_iN an_iN : Option Addr} {sl_iN : Array (Option Value)} {oc_iN kV_iN dc_iN pm_iN cd_iN ct_iN : Value}
    {od_iP an_iP : Option Addr} {sl_iP : Array (Option Value)} {oc_iP kV_iP dc_iP pm_iP cd_iP ct_iP : Value}
    {od_iS an_iS : Option Addr} {sl_iS : Array (Option Value)} {oc_iS kV_iS dc_iS pm_iS cd_iS ct_iS : Value}
    {od_iL an_iL : Option Addr} {sl_iL : Array (Option Value)} {oc_iL kV_iL dc_iL pm_iL cd_iL ct_iL : Value}
    {od_iW an_iW : Option Addr} {sl_iW : Array (Option Value)} {oc_iW kV_iW dc_iW pm_iW cd_iW ct_iW : Value}
    {od_iJ an_iJ : Option Addr} {sl_iJ : Array (Option Value)} {oc_iJ kV_iJ dc_iJ pm_iJ cd_iJ ct_iJ : Value}
    {od_iF an_iF : Option Addr} {sl_iF : Array (Option Value)} {oc_iF kV_iF dc_iF pm_iF cd_iF ct_iF : Value}
    {od_wE an_wE : Option Addr} {sl_wE : Array (Option Value)} {oc_wE kV_wE dc_wE pm_wE cd_wE ct_wE : Value}
    {od_wR an_wR : Option Addr} {sl_wR : Array (Option Value)} {oc_wR kV_wR dc_wR pm_wR cd_wR ct_wR : Value}
    {od_wW an_wW : Option Addr} {sl_wW : Array (Option Value)} {oc_wW kV_wW dc_wW pm_wW cd_wW ct_wW : Value}
    {od_pT an_pT : Option Addr} {sl_pT : Array (Option Value)} {oc_pT kV_pT dc_pT pm_pT cd_pT ct_pT : Value}
    {od_pL an_pL : Option Addr} {sl_pL : Array (Option Value)} {oc_pL kV_pL dc_pL pm_pL cd_pL ct_pL : Value}
    {od_qF an_qF : Option Addr} {sl_qF : Array (Option Value)} {oc_qF kV_qF dc_qF pm_qF cd_qF ct_qF : Value}
    {od_qR an_qR : Option Addr} {sl_qR : Array (Option Value)} {oc_qR kV_qR dc_qR pm_qR cd_qR ct_qR : Value}
    {od_qS an_qS : Option Addr} {sl_qS : Array (Option Value)} {oc_qS kV_qS dc_qS pm_qS cd_qS ct_qS : Value}
    {od_qZ an_qZ : Option Addr} {sl_qZ : Array (Option Value)} {oc_qZ kV_qZ dc_qZ pm_qZ cd_qZ ct_qZ : Value}
    {od_lB an_lB : Option Addr} {sl_lB : Array (Option Value)} {oc_lB kV_lB dc_lB pm_lB cd_lB ct_lB : Value}
    {od_lN an_lN : Option Addr} {sl_lN : Array (Option Value)} {oc_lN kV_lN dc_lN pm_lN cd_lN ct_lN : Value}
    {od_lP an_lP : Option Addr} {sl_lP : Array (Option Value)} {oc_lP kV_lP dc_lP pm_lP cd_lP ct_lP : Value}
    {od_lF an_lF : Option Addr} {sl_lF : Array (Option Value)} {oc_lF kV_lF dc_lF pm_lF cd_lF ct_lF : Value}
    {od_lG an_lG : Option Addr} {sl_lG : Array (Option Value)} {oc_lG kV_lG dc_lG pm_lG cd_lG ct_lG : Value}
    {od_lW an_lW : Option Addr} {sl_lW : Array (Option Value)} {oc_lW kV_lW dc_lW pm_lW cd_lW ct_lW : Value}
    {od_tP an_tP : Option Addr} {sl_tP : Array (Option Value)} {oc_tP kV_tP dc_tP pm_tP cd_tP ct_tP : Value}
    {od_tT an_tT : Option Addr} {sl_tT : Array (Option Value)} {oc_tT kV_tT dc_tT pm_tT cd_tT ct_tT : Value}
    {od_tL an_tL : Option Addr} {sl_tL : Array (Option Value)} {oc_tL kV_tL dc_tL pm_tL cd_tL ct_tL : Value}
    {od_la an_la : Option Addr} {sl_la : Array (Option Value)} {oc_la kV_la dc_la pm_la cd_la ct_la : Value}
    {t_vS : Tok}
    {t_vM : Tok}
    {t_vT : Tok}
    {t_vD : Tok}
    {t_vK : Tok}
    {t_vE : Tok}
    (X : K.In h) (G : h.Ns mainGlobals mg) (hfa : mg "law" = some (.ref fa))
    (a_iN : PySem.W.nsIn K mainGlobals "is_number" = some (some (.ref f_iN)))
    (l_iN : K.lookup f_iN = some ⟨oc_iN, od_iN, .func (PySem.W.fnOf "is_number" "is_number" (defArgs sNum) (defBody sNum) (defScope sNum) .none kV_iN dc_iN pm_iN an_iN cd_iN ct_iN), sl_iN⟩) (c_iN : PySem.W.codeIn K cd_iN "is_number" = true) (k_iN : PySem.W.keepIn K (.ref f_iN) = true)
    (a_iP : PySem.W.nsIn K mainGlobals "is_piece" = some (some (.ref f_iP)))
    (l_iP : K.lookup f_iP = some ⟨oc_iP, od_iP, .func (PySem.W.fnOf "is_piece" "is_piece" (defArgs sPc) (defBody sPc) (defScope sPc) .none kV_iP dc_iP pm_iP an_iP cd_iP ct_iP), sl_iP⟩) (c_iP : PySem.W.codeIn K cd_iP "is_piece" = true) (k_iP : PySem.W.keepIn K (.ref f_iP) = true)
    (a_iS : PySem.W.nsIn K mainGlobals "is_step" = some (some (.ref f_iS)))
    (l_iS : K.lookup f_iS = some ⟨oc_iS, od_iS, .func (PySem.W.fnOf "is_step" "is_step" (defArgs sStep) (defBody sStep) (defScope sStep) .none kV_iS dc_iS pm_iS an_iS cd_iS ct_iS), sl_iS⟩) (c_iS : PySem.W.codeIn K cd_iS "is_step" = true) (k_iS : PySem.W.keepIn K (.ref f_iS) = true)
    (a_iL : PySem.W.nsIn K mainGlobals "listed_standings" = some (some (.ref f_iL)))
    (l_iL : K.lookup f_iL = some ⟨oc_iL, od_iL, .func (PySem.W.fnOf "listed_standings" "listed_standings" (defArgs sListed) (defBody sListed) (defScope sListed) .none kV_iL dc_iL pm_iL an_iL cd_iL ct_iL), sl_iL⟩) (c_iL : PySem.W.codeIn K cd_iL "listed_standings" = true) (k_iL : PySem.W.keepIn K (.ref f_iL) = true)
    (a_iW : PySem.W.nsIn K mainGlobals "ways_from" = some (some (.ref f_iW)))
    (l_iW : K.lookup f_iW = some ⟨oc_iW, od_iW, .func (PySem.W.fnOf "ways_from" "ways_from" (defArgs sWays) (defBody sWays) (defScope sWays) .none kV_iW dc_iW pm_iW an_iW cd_iW ct_iW), sl_iW⟩) (c_iW : PySem.W.codeIn K cd_iW "ways_from" = true) (k_iW : PySem.W.keepIn K (.ref f_iW) = true)
    (a_iJ : PySem.W.nsIn K mainGlobals "is_joined" = some (some (.ref f_iJ)))
    (l_iJ : K.lookup f_iJ = some ⟨oc_iJ, od_iJ, .func (PySem.W.fnOf "is_joined" "is_joined" (defArgs sJoined) (defBody sJoined) (defScope sJoined) .none kV_iJ dc_iJ pm_iJ an_iJ cd_iJ ct_iJ), sl_iJ⟩) (c_iJ : PySem.W.codeIn K cd_iJ "is_joined" = true) (k_iJ : PySem.W.keepIn K (.ref f_iJ) = true)
    (a_iF : PySem.W.nsIn K mainGlobals "need_framing" = some (some (.ref f_iF)))
    (l_iF : K.lookup f_iF = some ⟨oc_iF, od_iF, .func (PySem.W.fnOf "need_framing" "need_framing" (defArgs sNeedF) (defBody sNeedF) (defScope sNeedF) .none kV_iF dc_iF pm_iF an_iF cd_iF ct_iF), sl_iF⟩) (c_iF : PySem.W.codeIn K cd_iF "need_framing" = true) (k_iF : PySem.W.keepIn K (.ref f_iF) = true)
    (a_wE : PySem.W.nsIn K mainGlobals "is_entry" = some (some (.ref f_wE)))
    (l_wE : K.lookup f_wE = some ⟨oc_wE, od_wE, .func (PySem.W.fnOf "is_entry" "is_entry" (defArgs sEntry) (defBody sEntry) (defScope sEntry) .none kV_wE dc_wE pm_wE an_wE cd_wE ct_wE), sl_wE⟩) (c_wE : PySem.W.codeIn K cd_wE "is_entry" = true) (k_wE : PySem.W.keepIn K (.ref f_wE) = true)
    (a_wR : PySem.W.nsIn K mainGlobals "first_wrong" = some (some (.ref f_wR)))
    (l_wR : K.lookup f_wR = some ⟨oc_wR, od_wR, .func (PySem.W.fnOf "first_wrong" "first_wrong" (defArgs sWrong) (defBody sWrong) (defScope sWrong) .none kV_wR dc_wR pm_wR an_wR cd_wR ct_wR), sl_wR⟩) (c_wR : PySem.W.codeIn K cd_wR "first_wrong" = true) (k_wR : PySem.W.keepIn K (.ref f_wR) = true)
    (a_wW : PySem.W.nsIn K mainGlobals "need_weaving" = some (some (.ref f_wW)))
    (l_wW : K.lookup f_wW = some ⟨oc_wW, od_wW, .func (PySem.W.fnOf "need_weaving" "need_weaving" (defArgs sNeedW) (defBody sNeedW) (defScope sNeedW) .none kV_wW dc_wW pm_wW an_wW cd_wW ct_wW), sl_wW⟩) (c_wW : PySem.W.codeIn K cd_wW "need_weaving" = true) (k_wW : PySem.W.keepIn K (.ref f_wW) = true)
    (a_pT : PySem.W.nsIn K mainGlobals "text_put" = some (some (.ref f_pT)))
    (l_pT : K.lookup f_pT = some ⟨oc_pT, od_pT, .func (PySem.W.fnOf "text_put" "text_put" (defArgs sPut) (defBody sPut) (defScope sPut) .none kV_pT dc_pT pm_pT an_pT cd_pT ct_pT), sl_pT⟩) (c_pT : PySem.W.codeIn K cd_pT "text_put" = true) (k_pT : PySem.W.keepIn K (.ref f_pT) = true)
    (a_pL : PySem.W.nsIn K mainGlobals "line_places" = some (some (.ref f_pL)))
    (l_pL : K.lookup f_pL = some ⟨oc_pL, od_pL, .func (PySem.W.fnOf "line_places" "line_places" (defArgs sPlaces) (defBody sPlaces) (defScope sPlaces) .none kV_pL dc_pL pm_pL an_pL cd_pL ct_pL), sl_pL⟩) (c_pL : PySem.W.codeIn K cd_pL "line_places" = true) (k_pL : PySem.W.keepIn K (.ref f_pL) = true)
    (a_qF : PySem.W.nsIn K mainGlobals "file_of" = some (some (.ref f_qF)))
    (l_qF : K.lookup f_qF = some ⟨oc_qF, od_qF, .func (PySem.W.fnOf "file_of" "file_of" (defArgs sFile) (defBody sFile) (defScope sFile) .none kV_qF dc_qF pm_qF an_qF cd_qF ct_qF), sl_qF⟩) (c_qF : PySem.W.codeIn K cd_qF "file_of" = true) (k_qF : PySem.W.keepIn K (.ref f_qF) = true)
    (a_qR : PySem.W.nsIn K mainGlobals "read_lines" = some (some (.ref f_qR)))
    (l_qR : K.lookup f_qR = some ⟨oc_qR, od_qR, .func (PySem.W.fnOf "read_lines" "read_lines" (defArgs sRead) (defBody sRead) (defScope sRead) .none kV_qR dc_qR pm_qR an_qR cd_qR ct_qR), sl_qR⟩) (c_qR : PySem.W.codeIn K cd_qR "read_lines" = true) (k_qR : PySem.W.keepIn K (.ref f_qR) = true)
    (a_qS : PySem.W.nsIn K mainGlobals "rest_of" = some (some (.ref f_qS)))
    (l_qS : K.lookup f_qS = some ⟨oc_qS, od_qS, .func (PySem.W.fnOf "rest_of" "rest_of" (defArgs sRest) (defBody sRest) (defScope sRest) .none kV_qS dc_qS pm_qS an_qS cd_qS ct_qS), sl_qS⟩) (c_qS : PySem.W.codeIn K cd_qS "rest_of" = true) (k_qS : PySem.W.keepIn K (.ref f_qS) = true)
    (a_qZ : PySem.W.nsIn K mainGlobals "stands" = some (some (.ref f_qZ)))
    (l_qZ : K.lookup f_qZ = some ⟨oc_qZ, od_qZ, .func (PySem.W.fnOf "stands" "stands" (defArgs sStands) (defBody sStands) (defScope sStands) .none kV_qZ dc_qZ pm_qZ an_qZ cd_qZ ct_qZ), sl_qZ⟩) (c_qZ : PySem.W.codeIn K cd_qZ "stands" = true) (k_qZ : PySem.W.keepIn K (.ref f_qZ) = true)
    (a_lB : PySem.W.nsIn K mainGlobals "_law_begun" = some (some (.ref f_lB)))
    (l_lB : K.lookup f_lB = some ⟨oc_lB, od_lB, .func (PySem.W.fnOf "_law_begun" "_law_begun" (defArgs sBegun) (defBody sBegun) (defScope sBegun) .none kV_lB dc_lB pm_lB an_lB cd_lB ct_lB), sl_lB⟩) (c_lB : PySem.W.codeIn K cd_lB "_law_begun" = true) (k_lB : PySem.W.keepIn K (.ref f_lB) = true)
    (a_lN : PySem.W.nsIn K mainGlobals "_law_next" = some (some (.ref f_lN)))
    (l_lN : K.lookup f_lN = some ⟨oc_lN, od_lN, .func (PySem.W.fnOf "_law_next" "_law_next" (defArgs sNext) (defBody sNext) (defScope sNext) .none kV_lN dc_lN pm_lN an_lN cd_lN ct_lN), sl_lN⟩) (c_lN : PySem.W.codeIn K cd_lN "_law_next" = true) (k_lN : PySem.W.keepIn K (.ref f_lN) = true)
    (a_lP : PySem.W.nsIn K mainGlobals "_law_piece" = some (some (.ref f_lP)))
    (l_lP : K.lookup f_lP = some ⟨oc_lP, od_lP, .func (PySem.W.fnOf "_law_piece" "_law_piece" (defArgs sPiece) (defBody sPiece) (defScope sPiece) .none kV_lP dc_lP pm_lP an_lP cd_lP ct_lP), sl_lP⟩) (c_lP : PySem.W.codeIn K cd_lP "_law_piece" = true) (k_lP : PySem.W.keepIn K (.ref f_lP) = true)
    (a_lF : PySem.W.nsIn K mainGlobals "_law_framing" = some (some (.ref f_lF)))
    (l_lF : K.lookup f_lF = some ⟨oc_lF, od_lF, .func (PySem.W.fnOf "_law_framing" "_law_framing" (defArgs sFraming) (defBody sFraming) (defScope sFraming) .none kV_lF dc_lF pm_lF an_lF cd_lF ct_lF), sl_lF⟩) (c_lF : PySem.W.codeIn K cd_lF "_law_framing" = true) (k_lF : PySem.W.keepIn K (.ref f_lF) = true)
    (a_lG : PySem.W.nsIn K mainGlobals "_law_from" = some (some (.ref f_lG)))
    (l_lG : K.lookup f_lG = some ⟨oc_lG, od_lG, .func (PySem.W.fnOf "_law_from" "_law_from" (defArgs sFrom) (defBody sFrom) (defScope sFrom) .none kV_lG dc_lG pm_lG an_lG cd_lG ct_lG), sl_lG⟩) (c_lG : PySem.W.codeIn K cd_lG "_law_from" = true) (k_lG : PySem.W.keepIn K (.ref f_lG) = true)
    (a_lW : PySem.W.nsIn K mainGlobals "_law_weaving" = some (some (.ref f_lW)))
    (l_lW : K.lookup f_lW = some ⟨oc_lW, od_lW, .func (PySem.W.fnOf "_law_weaving" "_law_weaving" (defArgs sWeave) (defBody sWeave) (defScope sWeave) .none kV_lW dc_lW pm_lW an_lW cd_lW ct_lW), sl_lW⟩) (c_lW : PySem.W.codeIn K cd_lW "_law_weaving" = true) (k_lW : PySem.W.keepIn K (.ref f_lW) = true)
    (a_tP : PySem.W.nsIn K mainGlobals "_law_put" = some (some (.ref f_tP)))
    (l_tP : K.lookup f_tP = some ⟨oc_tP, od_tP, .func (PySem.W.fnOf "_law_put" "_law_put" (defArgs sPutL) (defBody sPutL) (defScope sPutL) .none kV_tP dc_tP pm_tP an_tP cd_tP ct_tP), sl_tP⟩) (c_tP : PySem.W.codeIn K cd_tP "_law_put" = true) (k_tP : PySem.W.keepIn K (.ref f_tP) = true)
    (a_tT : PySem.W.nsIn K mainGlobals "_law_text" = some (some (.ref f_tT)))
    (l_tT : K.lookup f_tT = some ⟨oc_tT, od_tT, .func (PySem.W.fnOf "_law_text" "_law_text" (defArgs sTextL) (defBody sTextL) (defScope sTextL) .none kV_tT dc_tT pm_tT an_tT cd_tT ct_tT), sl_tT⟩) (c_tT : PySem.W.codeIn K cd_tT "_law_text" = true) (k_tT : PySem.W.keepIn K (.ref f_tT) = true)
    (a_tL : PySem.W.nsIn K mainGlobals "_law_lines" = some (some (.ref f_tL)))
    (l_tL : K.lookup f_tL = some ⟨oc_tL, od_tL, .func (PySem.W.fnOf "_law_lines" "_law_lines" (defArgs sLinesL) (defBody sLinesL) (defScope sLinesL) .none kV_tL dc_tL pm_tL an_tL cd_tL ct_tL), sl_tL⟩) (c_tL : PySem.W.codeIn K cd_tL "_law_lines" = true) (k_tL : PySem.W.keepIn K (.ref f_tL) = true)
    (a_la : PySem.W.nsIn K mainGlobals "law" = some (some (.ref f_la)))
    (l_la : K.lookup f_la = some ⟨oc_la, od_la, .func (PySem.W.fnOf "law" "law" (defArgs sLaw) (defBody sLaw) (defScope sLaw) .none kV_la dc_la pm_la an_la cd_la ct_la), sl_la⟩) (c_la : PySem.W.codeIn K cd_la "law" = true) (k_la : PySem.W.keepIn K (.ref f_la) = true)
    (g_vS : PySem.W.nsIn K mainGlobals "SIGNS" = some (some (.str "abcdefghijklmnopqrstuvwxyz0123456789@" t_vS)))
    (g_vM : PySem.W.nsIn K mainGlobals "MOST_SIGNS" = some (some (.int 8 t_vM)))
    (g_vT : PySem.W.nsIn K mainGlobals "MOST_STEPS" = some (some (.int 16 t_vT)))
    (g_vD : PySem.W.nsIn K mainGlobals "MANY_STANDINGS" = some (some (.int 6 t_vD)))
    (g_vK : PySem.W.nsIn K mainGlobals "MARKS" = some (some (.str "ABCDEFGH" t_vK)))
    (g_vE : PySem.W.nsIn K mainGlobals "MOST_ENTRIES" = some (some (.int 200 t_vE)))
    (z_isinstance : PySem.W.nsIn K mainGlobals "isinstance" = some none)
    (z_int : PySem.W.nsIn K mainGlobals "int" = some none)
    (z_bool : PySem.W.nsIn K mainGlobals "bool" = some none)
    (z_str : PySem.W.nsIn K mainGlobals "str" = some none)
    (z_tuple : PySem.W.nsIn K mainGlobals "tuple" = some none)
    (z_len : PySem.W.nsIn K mainGlobals "len" = some none)
    (z_all : PySem.W.nsIn K mainGlobals "all" = some none)
    (z_sorted : PySem.W.nsIn K mainGlobals "sorted" = some none)
    (z_enumerate : PySem.W.nsIn K mainGlobals "enumerate" = some none)
    (z_zip : PySem.W.nsIn K mainGlobals "zip" = some none)
    (z_list : PySem.W.nsIn K mainGlobals "list" = some none)
    (z_range : PySem.W.nsIn K mainGlobals "range" = some none)
    (z_min : PySem.W.nsIn K mainGlobals "min" = some none)
    (z_repr : PySem.W.nsIn K mainGlobals "repr" = some none) :
    ∃ fd : FuncData, (∀ (s : Shared) (u : Value), BindsTo s fd ⟨[u], []⟩ [("script", u)]) ∧ ∀ base : Heap, K.In base → base.Ns mainGlobals mg → FnG P w K mg base CX0 6 fa fd ["script"] (spLaw K) := by
  have e := hfa.symm.trans (PySem.W.mg_of X G a_la)
  cases e
  have F_iN := fun_mk (st := sNum) l_iN c_iN k_iN
  have b_iN := F_iN.binds (ps := ["thing", "many"]) fun _ _ _ _ _ _ us hl => match us, hl with | [_, _], _ => rfl
  have m_iN := PySem.W.mg_of X G a_iN
  have F_iP := fun_mk (st := sPc) l_iP c_iP k_iP
  have b_iP := F_iP.binds (ps := ["thing"]) fun _ _ _ _ _ _ us hl => match us, hl with | [_], _ => rfl
  have m_iP := PySem.W.mg_of X G a_iP
  have F_iS := fun_mk (st := sStep) l_iS c_iS k_iS
  have b_iS := F_iS.binds (ps := ["thing"]) fun _ _ _ _ _ _ us hl => match us, hl with | [_], _ => rfl
  have m_iS := PySem.W.mg_of X G a_iS
  have F_iL := fun_mk (st := sListed) l_iL c_iL k_iL
  have b_iL := F_iL.binds (ps := ["framing"]) fun _ _ _ _ _ _ us hl => match us, hl with | [_], _ => rfl
  have m_iL := PySem.W.mg_of X G a_iL
  have F_iW := fun_mk (st := sWays) l_iW c_iW k_iW
  have b_iW := F_iW.binds (ps := ["framing", "begin"]) fun _ _ _ _ _ _ us hl => match us, hl with | [_, _], _ => rfl
  have m_iW := PySem.W.mg_of X G a_iW
  have F_iJ := fun_mk (st := sJoined) l_iJ c_iJ k_iJ
  have b_iJ := F_iJ.binds (ps := ["framing"]) fun _ _ _ _ _ _ us hl => match us, hl with | [_], _ => rfl
  have m_iJ := PySem.W.mg_of X G a_iJ
  have F_iF := fun_mk (st := sNeedF) l_iF c_iF k_iF
  have b_iF := F_iF.binds (ps := ["thing"]) fun _ _ _ _ _ _ us hl => match us, hl with | [_], _ => rfl
  have m_iF := PySem.W.mg_of X G a_iF
  have F_wE := fun_mk (st := sEntry) l_wE c_wE k_wE
  have b_wE := F_wE.binds (ps := ["framing", "thing", "many"]) fun _ _ _ _ _ _ us hl => match us, hl with | [_, _, _], _ => rfl
  have m_wE := PySem.W.mg_of X G a_wE
  have F_wR := fun_mk (st := sWrong) l_wR c_wR k_wR
  have b_wR := F_wR.binds (ps := ["framing", "things", "begin"]) fun _ _ _ _ _ _ us hl => match us, hl with | [_, _, _], _ => rfl
  have m_wR := PySem.W.mg_of X G a_wR
  have F_wW := fun_mk (st := sNeedW) l_wW c_wW k_wW
  have b_wW := F_wW.binds (ps := ["framing", "thing"]) fun _ _ _ _ _ _ us hl => match us, hl with | [_, _], _ => rfl
  have m_wW := PySem.W.mg_of X G a_wW
  have F_pT := fun_mk (st := sPut) l_pT c_pT k_pT
  have b_pT := F_pT.binds (ps := ["framing", "entries"]) fun _ _ _ _ _ _ us hl => match us, hl with | [_, _], _ => rfl
  have m_pT := PySem.W.mg_of X G a_pT
  have F_pL := fun_mk (st := sPlaces) l_pL c_pL k_pL
  have b_pL := F_pL.binds (ps := ["framing", "entries"]) fun _ _ _ _ _ _ us hl => match us, hl with | [_, _], _ => rfl
  have m_pL := PySem.W.mg_of X G a_pL
  have F_qF := fun_mk (st := sFile) l_qF c_qF k_qF
  have b_qF := F_qF.binds (ps := ["framing", "weaving"]) fun _ _ _ _ _ _ us hl => match us, hl with | [_, _], _ => rfl
  have m_qF := PySem.W.mg_of X G a_qF
  have F_qR := fun_mk (st := sRead) l_qR c_qR k_qR
  have b_qR := F_qR.binds (ps := ["framing", "weaving"]) fun _ _ _ _ _ _ us hl => match us, hl with | [_, _], _ => rfl
  have m_qR := PySem.W.mg_of X G a_qR
  have F_qS := fun_mk (st := sRest) l_qS c_qS k_qS
  have b_qS := F_qS.binds (ps := ["framing", "weaving"]) fun _ _ _ _ _ _ us hl => match us, hl with | [_, _], _ => rfl
  have m_qS := PySem.W.mg_of X G a_qS
  have F_qZ := fun_mk (st := sStands) l_qZ c_qZ k_qZ
  have b_qZ := F_qZ.binds (ps := ["framing", "weaving"]) fun _ _ _ _ _ _ us hl => match us, hl with | [_, _], _ => rfl
  have m_qZ := PySem.W.mg_of X G a_qZ
  have F_lB := fun_mk (st := sBegun) l_lB c_lB k_lB
  have b_lB := F_lB.binds (ps := ["script"]) fun _ _ _ _ _ _ us hl => match us, hl with | [_], _ => rfl
  have m_lB := PySem.W.mg_of X G a_lB
  have F_lN := fun_mk (st := sNext) l_lN c_lN k_lN
  have b_lN := F_lN.binds (ps := ["m", "total"]) fun _ _ _ _ _ _ us hl => match us, hl with | [_, _], _ => rfl
  have m_lN := PySem.W.mg_of X G a_lN
  have F_lP := fun_mk (st := sPiece) l_lP c_lP k_lP
  have b_lP := F_lP.binds (ps := ["m", "last"]) fun _ _ _ _ _ _ us hl => match us, hl with | [_, _], _ => rfl
  have m_lP := PySem.W.mg_of X G a_lP
  have F_lF := fun_mk (st := sFraming) l_lF c_lF k_lF
  have b_lF := F_lF.binds (ps := ["m", "most"]) fun _ _ _ _ _ _ us hl => match us, hl with | [_, _], _ => rfl
  have m_lF := PySem.W.mg_of X G a_lF
  have F_lG := fun_mk (st := sFrom) l_lG c_lG k_lG
  have b_lG := F_lG.binds (ps := ["framing", "here"]) fun _ _ _ _ _ _ us hl => match us, hl with | [_, _], _ => rfl
  have m_lG := PySem.W.mg_of X G a_lG
  have F_lW := fun_mk (st := sWeave) l_lW c_lW k_lW
  have b_lW := F_lW.binds (ps := ["m", "framing", "writers", "total"]) fun _ _ _ _ _ _ us hl => match us, hl with | [_, _, _, _], _ => rfl
  have m_lW := PySem.W.mg_of X G a_lW
  have F_tP := fun_mk (st := sPutL) l_tP c_tP k_tP
  have b_tP := F_tP.binds (ps := ["framing", "entry"]) fun _ _ _ _ _ _ us hl => match us, hl with | [_, _], _ => rfl
  have m_tP := PySem.W.mg_of X G a_tP
  have F_tT := fun_mk (st := sTextL) l_tT c_tT k_tT
  have b_tT := F_tT.binds (ps := ["framing", "entries"]) fun _ _ _ _ _ _ us hl => match us, hl with | [_, _], _ => rfl
  have m_tT := PySem.W.mg_of X G a_tT
  have F_tL := fun_mk (st := sLinesL) l_tL c_tL k_tL
  have b_tL := F_tL.binds (ps := ["framing", "weaving"]) fun _ _ _ _ _ _ us hl => match us, hl with | [_, _], _ => rfl
  have m_tL := PySem.W.mg_of X G a_tL
  have F_la := fun_mk (st := sLaw) l_la c_la k_la
  have y_isinstance := PySem.W.mg_none_of X G z_isinstance
  have y_int := PySem.W.mg_none_of X G z_int
  have y_bool := PySem.W.mg_none_of X G z_bool
  have y_str := PySem.W.mg_none_of X G z_str
  have y_tuple := PySem.W.mg_none_of X G z_tuple
  have y_len := PySem.W.mg_none_of X G z_len
  have y_all := PySem.W.mg_none_of X G z_all
  have y_sorted := PySem.W.mg_none_of X G z_sorted
  have y_enumerate := PySem.W.mg_none_of X G z_enumerate
  have y_zip := PySem.W.mg_none_of X G z_zip
  have y_list := PySem.W.mg_none_of X G z_list
  have y_range := PySem.W.mg_none_of X G z_range
  have y_min := PySem.W.mg_none_of X G z_min
  have y_repr := PySem.W.mg_none_of X G z_repr
  have x_vS := PySem.W.mg_of X G g_vS
  have x_vM := PySem.W.mg_of X G g_vM
  have x_vT := PySem.W.mg_of X G g_vT
  have x_vD := PySem.W.mg_of X G g_vD
  have x_vK := PySem.W.mg_of X G g_vK
  have x_vE := PySem.W.mg_of X G g_vE
  have TF : TxtF mg := ⟨y_isinstance, y_int, y_bool, y_str, y_tuple, y_len, y_all, ⟨_, x_vS⟩, ⟨_, x_vM⟩, ⟨_, x_vD⟩⟩
  have TD : TxtD mg := ⟨y_list, y_int, y_len⟩
  let zF : Fs K mg := { fN := f_iN, fP := f_iP, fS := f_iS, fL := f_iL, fW := f_iW, fJ := f_iJ, fF := f_iF, dN := _, dP := _, dS := _, dL := _, dW := _, dJ := _, dF := _, N := F_iN, P := F_iP, S := F_iS, L := F_iL, W := F_iW, J := F_iJ, F := F_iF, bN := b_iN, bP := b_iP, bS := b_iS, bL := b_iL, bW := b_iW, bJ := b_iJ, bF := b_iF, mN := m_iN, mP := m_iP, mS := m_iS, mL := m_iL, mW := m_iW, mJ := m_iJ, mF := m_iF, T := TF, so := y_sorted, en := y_enumerate, ms := ⟨_, x_vT⟩ }
  let zW : Ws K mg := { Z := zF, fE := f_wE, fR := f_wR, fW := f_wW, dE := _, dR := _, dW := _, E := F_wE, R := F_wR, W := F_wW, bE := b_wE, bR := b_wR, bW := b_wW, mE := m_wE, mR := m_wR, mW := m_wW, marks := ⟨_, x_vK⟩, most := ⟨_, x_vE⟩ }
  let zP : Ps K mg := { Y := zW, fT := f_pT, fL := f_pL, dT := _, dL := _, T := F_pT, L := F_pL, bT := b_pT, bL := b_pL, mT := m_pT, mL := m_pL }
  let zQ : Qs K mg := { U := zP, fF := f_qF, fR := f_qR, fS := f_qS, fZ := f_qZ, dF := _, dR := _, dS := _, dZ := _, F := F_qF, R := F_qR, S := F_qS, Z := F_qZ, bF := b_qF, bR := b_qR, bS := b_qS, bZ := b_qZ, mF := m_qF, mR := m_qR, mS := m_qS, mZ := m_qZ, zip := y_zip }
  let zL : Ls K mg := { f1 := f_lN, d1 := _, N := F_lN, bN := b_lN, mN := m_lN, T := TD, ra := y_range, f2 := f_lP, d2 := _, P := F_lP, bP := b_lP, mP := m_lP }
  let zG : Lf K mg := { L := zL, f := f_lF, d := _, F := F_lF, b := b_lF, g := m_lF, so := y_sorted, tu := y_tuple, en := y_enumerate }
  let zV : Lw K mg := { G := zG, f1 := f_lG, f2 := f_lW, d1 := _, d2 := _, F := F_lG, W := F_lW, bF := b_lG, bW := b_lW, gF := m_lG, gW := m_lW }
  let zT : Lt K mg := { f1 := f_tP, f2 := f_tT, f3 := f_tL, d1 := _, d2 := _, d3 := _, P := F_tP, T := F_tT, L := F_tL, bP := b_tP, bT := b_tT, bL := b_tL, gP := m_tP, gT := m_tT, gL := m_tL, tu := y_tuple }
  let zA : Lall K mg := { G := zQ, W := zV, T := zT, fB := f_lB, dB := _, B := F_lB, bB := b_lB, mB := m_lB, mi := y_min, re := y_repr }
  exact ⟨PySem.W.fnOf "law" "law" (defArgs sLaw) (defBody sLaw) (defScope sLaw) .none kV_la dc_la pm_la an_la cd_la ct_la, fun s u => .of_eq rfl, fun base _ _ => ok_law F_la zA⟩
theorem walk {l : PySem.W.OpenLaw} {q : Program} {loose : List Str} {XP : (Str → Option Value) → Heap → Prop} {YP : World → Heap → Prop} {d : DefRec} {K : Params → PySem.W.Frag} (hn : l.most = some 63) (hdf : d.params.defaults = [])
    (hY : ∀ (w : World) (h : Heap), YP w h → (K w.params).In h)
    (F : ∀ (w : World) (mg : Str → Option Value) (fa : Addr) (h : Heap), (K w.params).In h → h.Ns mainGlobals mg → mg d.name = some (.ref fa) →
      ∃ fd : FuncData, (∀ (s : Shared) (u : Value), BindsTo s fd ⟨[u], []⟩ [("script", u)]) ∧ ∀ base : Heap, (K w.params).In base → base.Ns mainGlobals mg → FnG l.prog w (K w.params) mg base CX0 6 fa fd ["script"] (spLaw (K w.params))) :
    PySem.W.WalkO q loose XP YP l.row.toRowW d [] (fun f vs => PySem.call f vs) :=
  walk_ofG (n := 63) (k := 6) (x := "script") (sp := spLaw) hn (by decide) hdf ⟨rfl, by decide, by decide⟩ hY F (fun _ _ a ns hl _ hS => ⟨a, ns, rfl, hS, hl, fun _ => rfl⟩)
end K31
open PySem PySem.W PyProof.Rows
set_option maxRecDepth 100000 in
set_option maxHeartbeats 0 in
theorem PySem.Challenge.cw_tornlines_k31_whole_files_woven_holds : PySem.Challenge.rw_tornlines_k31_whole_files_woven.Holds := by
  w_on; o_law; k_head; (case hw => w_witness2)
  k_fill
  refine K31.walk (l := PySem.Challenge.rw_tornlines_k31_whole_files_woven) rfl rfl (fun w h Y => PySem.W.kIn_of Y) ?F
  case F =>
    intro w mg fa h KX G hmg
    refine' K31.all_mk KX G hmg ?a_iN ?l_iN ?c_iN ?k_iN ?a_iP ?l_iP ?c_iP ?k_iP ?a_iS ?l_iS ?c_iS ?k_iS ?a_iL ?l_iL ?c_iL ?k_iL ?a_iW ?l_iW ?c_iW ?k_iW ?a_iJ ?l_iJ ?c_iJ ?k_iJ ?a_iF ?l_iF ?c_iF ?k_iF ?a_wE ?l_wE ?c_wE ?k_wE ?a_wR ?l_wR ?c_wR ?k_wR ?a_wW ?l_wW ?c_wW ?k_wW ?a_pT ?l_pT ?c_pT ?k_pT ?a_pL ?l_pL ?c_pL ?k_pL ?a_qF ?l_qF ?c_qF ?k_qF ?a_qR ?l_qR ?c_qR ?k_qR ?a_qS ?l_qS ?c_qS ?k_qS ?a_qZ ?l_qZ ?c_qZ ?k_qZ ?a_lB ?l_lB ?c_lB ?k_lB ?a_lN ?l_lN ?c_lN ?k_lN ?a_lP ?l_lP ?c_lP ?k_lP ?a_lF ?l_lF ?c_lF ?k_lF ?a_lG ?l_lG ?c_lG ?k_lG ?a_lW ?l_lW ?c_lW ?k_lW ?a_tP ?l_tP ?c_tP ?k_tP ?a_tT ?l_tT ?c_tT ?k_tT ?a_tL ?l_tL ?c_tL ?k_tL ?a_la ?l_la ?c_la ?k_la ?g_vS ?g_vM ?g_vT ?g_vD ?g_vK ?g_vE ?z_isinstance ?z_int ?z_bool ?z_str ?z_tuple ?z_len ?z_all ?z_sorted ?z_enumerate ?z_zip ?z_list ?z_range ?z_min ?z_repr
    (case a_iN => k_is)
    (case l_iN => k_is)
    (case c_iN => k_is)
    (case k_iN => k_is)
    (case a_iP => k_is)
    (case l_iP => k_is)
    (case c_iP => k_is)
    (case k_iP => k_is)
    (case a_iS => k_is)
    (case l_iS => k_is)
    (case c_iS => k_is)
    (case k_iS => k_is)
    (case a_iL => k_is)
    (case l_iL => k_is)
    (case c_iL => k_is)
    (case k_iL => k_is)
    (case a_iW => k_is)
    (case l_iW => k_is)
    (case c_iW => k_is)
    (case k_iW => k_is)
    (case a_iJ => k_is)
    (case l_iJ => k_is)
    (case c_iJ => k_is)
    (case k_iJ => k_is)
    (case a_iF => k_is)
    (case l_iF => k_is)
    (case c_iF => k_is)
    (case k_iF => k_is)
    (case a_wE => k_is)
    (case l_wE => k_is)
    (case c_wE => k_is)
    (case k_wE => k_is)
    (case a_wR => k_is)
    (case l_wR => k_is)
    (case c_wR => k_is)
    (case k_wR => k_is)
    (case a_wW => k_is)
    (case l_wW => k_is)
    (case c_wW => k_is)
    (case k_wW => k_is)
    (case a_pT => k_is)
    (case l_pT => k_is)
    (case c_pT => k_is)
    (case k_pT => k_is)
    (case a_pL => k_is)
    (case l_pL => k_is)
    (case c_pL => k_is)
    (case k_pL => k_is)
    (case a_qF => k_is)
    (case l_qF => k_is)
    (case c_qF => k_is)
    (case k_qF => k_is)
    (case a_qR => k_is)
    (case l_qR => k_is)
    (case c_qR => k_is)
    (case k_qR => k_is)
    (case a_qS => k_is)
    (case l_qS => k_is)
    (case c_qS => k_is)
    (case k_qS => k_is)
    (case a_qZ => k_is)
    (case l_qZ => k_is)
    (case c_qZ => k_is)
    (case k_qZ => k_is)
    (case a_lB => k_is)
    (case l_lB => k_is)
    (case c_lB => k_is)
    (case k_lB => k_is)
    (case a_lN => k_is)
    (case l_lN => k_is)
    (case c_lN => k_is)
    (case k_lN => k_is)
    (case a_lP => k_is)
    (case l_lP => k_is)
    (case c_lP => k_is)
    (case k_lP => k_is)
    (case a_lF => k_is)
    (case l_lF => k_is)
    (case c_lF => k_is)
    (case k_lF => k_is)
    (case a_lG => k_is)
    (case l_lG => k_is)
    (case c_lG => k_is)
    (case k_lG => k_is)
    (case a_lW => k_is)
    (case l_lW => k_is)
    (case c_lW => k_is)
    (case k_lW => k_is)
    (case a_tP => k_is)
    (case l_tP => k_is)
    (case c_tP => k_is)
    (case k_tP => k_is)
    (case a_tT => k_is)
    (case l_tT => k_is)
    (case c_tT => k_is)
    (case k_tT => k_is)
    (case a_tL => k_is)
    (case l_tL => k_is)
    (case c_tL => k_is)
    (case k_tL => k_is)
    (case a_la => k_is)
    (case l_la => k_is)
    (case c_la => k_is)
    (case k_la => k_is)
    (case g_vS => k_is)
    (case g_vM => k_is)
    (case g_vT => k_is)
    (case g_vD => k_is)
    (case g_vK => k_is)
    (case g_vE => k_is)
    (case z_isinstance => k_is)
    (case z_int => k_is)
    (case z_bool => k_is)
    (case z_str => k_is)
    (case z_tuple => k_is)
    (case z_len => k_is)
    (case z_all => k_is)
    (case z_sorted => k_is)
    (case z_enumerate => k_is)
    (case z_zip => k_is)
    (case z_list => k_is)
    (case z_range => k_is)
    (case z_min => k_is)
    (case z_repr => k_is)
#print axioms PySem.Challenge.cw_tornlines_k31_whole_files_woven_holds
