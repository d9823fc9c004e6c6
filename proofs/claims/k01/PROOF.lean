import PyProof.Rows.All
import Wide.All
import OpenK.AllK
import Wide.FinOn
import KE.KExcInit
import KE.KExcIs
import HandS.ForMost
import HandS.Exc
import HandS.ExcInit
import HandS.Defaults
import HandS.IsInst
import HandS.Conv
import HandS.Small
import HandS.Walk
import PySem.Challenge.RW_tornlines_k01_errors
set_option Elab.async false
set_option linter.all false
set_option maxRecDepth 100000
set_option maxHeartbeats 4000000
/-! Own exception classes over any built-in base: made with positional or keyword arguments, kept as values, their fields read, asked by isinstance. -/
namespace EV
open PySem PySem.W PySem.Calls PyProof.Rows PySem.HandSPX
open Builtin Builtin.ObjectAttr
section
variable {prog : Program} {w : World} {A : Around} {E : Value → Shared → Prop} {R : Result → Shared → Prop}
variable {hp : Heap} {g : Array GenState} {d : Drawn} {t : Nat} {os : OsState}
/-- an exception's first field, whatever its base -/
theorem put_first {K : W.Frag} {nm : Str} {tk : Tok} {v : Value} {x C : Addr} {fv : Array Value} {cd : ClassData}
    (X : K.In hp) (hx : hp.get? x = some { cls := .ref C, data := .fields fv }) (hcd : W.clsIn K C = some cd)
    (pas : refuseLoop (.ref x) "__setattr__" cd.mro = pure ()) (hob : cd.mro.contains (.type "object") = true) (hne : cd.mro.isEmpty = false)
    (hh : cd.hasDict = true) (ha : W.findIn K (.ref C) nm = some none)
    (hq : ∀ h' tk' dx, (∀ b o, b ≠ x → hp.get? b = some o → h'.get? b = some o) → hp.objs.size ≤ dx → dx ≠ x →
      h'.get? x = some { cls := .ref C, dict := some dx, data := .fields fv } → h'.Ns1 dx (fun y => if y = nm then some v else none) →
      R (.ok (.ret .none)) ⟨h', g, d, tk', os⟩) :
    codeAny (model prog w) A (.call (.builtin "object.__setattr__") ⟨[.ref x, .str nm tk, v], []⟩) R ⟨hp, g, d, t, os⟩ := by
  have J : W.InstAt hp x { cls := .ref C, data := .fields fv } C none := ⟨hx, rfl, rfl, trivial⟩
  have hxs : x ≠ hp.objs.size := Nat.ne_of_lt (Heap.lt_size hx)
  have isO : W.Looks (model prog w) hp (isInstance (.ref x) (.type "object")) true :=
    J.type.andThen (W.looks_mroIn X (by unfold W.mroIn; rw [hcd, Option.bind_some, if_neg (by rw [hne]; decide), hob]))
  refine codeAny_call_builtin F.store_object.slot.plain F.store_object.entry
    (@W.check_slot (model prog w) _ _ ⟨hp, g, d, t, os⟩ "object.__setattr__" "object" "__setattr__" (.ref x) [.str nm tk, v] [] _
      F.store_object.kind F.store_object.split isO (F.store_object.args (.ref x) (.str nm tk) v) ?_)
  have order : W.Looks (model prog w) hp (mroOf (.ref C)) cd.mro := (W.looks_clsIn X hcd).andThen .now
  have taker : W.Looks (model prog w) hp (storeTaker? none) none := .now
  have data : W.Looks (model prog w) hp (classData C) cd := W.looks_clsIn X hcd
  rw [W.osa_eq, refuse_eq]
  refine wpAny_bind (wpAny_bind (J.type.at (wpAny_bind (order.at ?_))))
  rw [pas]
  refine wpAny_pure (wpAny_bind (J.type.at (wpAny_bind ((W.looks_findIn X ha).at (wpAny_bind (taker.at ?_))))))
  show wpAny _ _ (storeInOwnDict (.ref x) (.ref C) (.str nm tk) nm v false) _ _ _
  obtain ⟨q1, q2, q3, q4, q5, q6, q7, q8, q9, q10, q11⟩ := cd
  dsimp only at hh
  subst hh
  unfold storeInOwnDict ownDictForStores
  repeat (first
    | with_reducible refine store_in_new ?_ ?_
    | with_reducible refine wpAny_loadPart_at hx ?_
    | with_reducible refine data.at ?_
    | wp_step)
  · exact ⟨_, #[], _, (Heap.get?_update_ne _ _ _ _ hxs.symm).trans (Heap.get?_push_at rfl rfl), rfl, fun e he => absurd he (by simp), fun _ => rfl⟩
  · intro h' tk' nsd same
    have hx1 : (hp.push { cls := .type "dict", data := .dict #[] }).get? x = some { cls := .ref C, data := .fields fv } := Heap.get?_push_of_some _ hx
    refine hq h' tk' hp.objs.size (fun b o nb q => ?_) (Nat.le_refl _) hxs.symm ?_ nsd
    · exact (same.2 b (Nat.ne_of_lt (Heap.lt_size q))).trans
        ((Heap.get?_update_ne _ _ _ _ nb).trans (Heap.get?_push_of_some _ q))
    · exact (same.2 x hxs).trans (Heap.get?_update_self _ hx1 rfl)
/-- a further field -/
theorem put_more {K : W.Frag} {nm : Str} {tk : Tok} {v : Value} {x C dx : Addr} {fv : Array Value} {cd : ClassData} {m0 : Str → Option Value} {nl : List Str}
    (X : K.In hp) (hx : hp.get? x = some { cls := .ref C, dict := some dx, data := .fields fv }) (nsd : hp.Ns1 dx m0) (wi : Within m0 nl) (hz : nl.length ≤ 1000)
    (hcd : W.clsIn K C = some cd) (pas : refuseLoop (.ref x) "__setattr__" cd.mro = pure ()) (hob : cd.mro.contains (.type "object") = true)
    (hne : cd.mro.isEmpty = false) (hh : cd.hasDict = true) (ha : W.findIn K (.ref C) nm = some none)
    (hq : ∀ h' tk', (∀ b o, b ≠ dx → hp.get? b = some o → h'.get? b = some o) → h'.Ns1 dx (fun y => if y = nm then some v else m0 y) →
      R (.ok (.ret .none)) ⟨h', g, d, tk', os⟩) :
    codeAny (model prog w) A (.call (.builtin "object.__setattr__") ⟨[.ref x, .str nm tk, v], []⟩) R ⟨hp, g, d, t, os⟩ := by
  obtain ⟨oD, _, _, hoD, _, _⟩ := nsd.count wi
  have J : W.InstAt hp x { cls := .ref C, dict := some dx, data := .fields fv } C (some oD) := ⟨hx, rfl, rfl, hoD⟩
  have isO : W.Looks (model prog w) hp (isInstance (.ref x) (.type "object")) true :=
    J.type.andThen (W.looks_mroIn X (by unfold W.mroIn; rw [hcd, Option.bind_some, if_neg (by rw [hne]; decide), hob]))
  refine codeAny_call_builtin F.store_object.slot.plain F.store_object.entry
    (@W.check_slot (model prog w) _ _ ⟨hp, g, d, t, os⟩ "object.__setattr__" "object" "__setattr__" (.ref x) [.str nm tk, v] [] _
      F.store_object.kind F.store_object.split isO (F.store_object.args (.ref x) (.str nm tk) v) ?_)
  have order : W.Looks (model prog w) hp (mroOf (.ref C)) cd.mro := (W.looks_clsIn X hcd).andThen .now
  have taker : W.Looks (model prog w) hp (storeTaker? none) none := .now
  have data : W.Looks (model prog w) hp (classData C) cd := W.looks_clsIn X hcd
  rw [W.osa_eq, refuse_eq]
  refine wpAny_bind (wpAny_bind (J.type.at (wpAny_bind (order.at ?_))))
  rw [pas]
  refine wpAny_pure (wpAny_bind (J.type.at (wpAny_bind ((W.looks_findIn X ha).at (wpAny_bind (taker.at ?_))))))
  show wpAny _ _ (storeInOwnDict (.ref x) (.ref C) (.str nm tk) nm v false) _ _ _
  obtain ⟨q1, q2, q3, q4, q5, q6, q7, q8, q9, q10, q11⟩ := cd
  dsimp only at hh
  subst hh
  unfold storeInOwnDict ownDictForStores
  repeat (first
    | with_reducible refine OEX.store_in_old nsd wi hz ?_
    | with_reducible refine wpAny_loadPart_at hx ?_
    | with_reducible refine data.at ?_
    | wp_step)
  intro h' tk' ns' same
  exact hq h' tk' (fun b o nb q => (same.2 b nb).trans q) ns'
end
/-! ### an own exception class called with keywords -/
section
variable {M : Model} {A : Around} {E : Value → Shared → Prop} {h : Heap} {g : Array GenState} {d : Drawn} {t : Nat} {os : OsState}
variable {nm q : Str} {C N : Addr} {bs bm : List Value} {hd : Bool} {sn : List Str} {sub : List Value} {ab : Bool} {col : Option Bool} {dd : Option Addr}
variable {k0 k1 k2 k3 k5 : Option Value} {B newId initId : String}
theorem check_newK (F : ExcBaseFacts B newId initId bm) {rest : List Value} {kw : List (Str × Value)} {Q : Unit → Shared → Prop}
    (hC : h.get? C = some (excClassObj nm q C N bs bm hd sn sub ab col dd k0 k1 k2 k3 k5 newId)) (hq : Q () ⟨h, g, d, t, os⟩) :
    wpAny M A (checkBuiltinCall newId ⟨.ref C :: rest, kw⟩) Q E ⟨h, g, d, t, os⟩ := by
  have hasIt : (Value.ref C :: bm).contains (.type B) = true := by rw [List.contains_cons, F.hasB, Bool.or_true]
  have star := F.noStar
  simp only [checkBuiltinCall, F.newKind, F.newSplit, F.newRow]
  repeat (first
    | refine wpAny_loadPart_at hC ?_
    | (refine wpAny_isSubtype_exc hC ?_; rw [hasIt])
    | refine wpAny_staticBase_exc hC ?_
    | refine wpAny_madeBy_exc hC ?_
    | simp only [bne_self_eq_false, Bool.false_eq_true, if_false]
    | wp_step)
  exact hq
end
section
variable {prog : Program} {w : World} {A : Around} {E : Value → Shared → Prop} {R : Result → Shared → Prop}
variable {h : Heap} {g : Array GenState} {d : Drawn} {t : Nat} {os : OsState}
variable {nm q : Str} {C N : Addr} {bs bm : List Value} {hd : Bool} {sn : List Str} {sub : List Value} {ab : Bool} {col : Option Bool} {dd : Option Addr}
variable {k0 k1 k2 k3 k5 : Option Value} {B newId initId : String}
theorem newK (F : ExcBaseFacts B newId initId bm) {rest : List Value} {kw : List (Str × Value)}
    (hC : h.get? C = some (excClassObj nm q C N bs bm hd sn sub ab col dd k0 k1 k2 k3 k5 newId))
    (hq : R (.ok (.ret (.ref (h.objs.size + 1)))) ⟨(h.push (W.kdv_tup rest)).push (excO C h.objs.size), g, d, t, os⟩) (hrest : rest.length ≤ sizeLine) :
    codeAny (model prog w) A (.builtin newId ⟨.ref C :: rest, kw⟩) R ⟨h, g, d, t, os⟩ := by
  have ends := F.ends
  have b1 : (Value.ref C :: bm).contains (.type B) = true := by rw [List.contains_cons, F.hasB, Bool.or_true]
  have b2 : (Value.ref C :: bm).contains (.type "AttributeError") = false := by rw [List.contains_cons, F.noAttr]; rfl
  have b3 : (Value.ref C :: bm).contains (.type "NameError") = false := by rw [List.contains_cons, F.noName]; rfl
  refine codeAny_builtinAt F.entry ?_
  unfold Builtin.«BaseException.__new__»
  refine PySem.wpAt_bind ?_
  show PySem.wpAt _ _ _ (stack >>= _) _ _ _
  refine PySem.wpAt_bind (PySem.wpAt_stack fun p below => PySem.wpAt_of_wpAny ?_)
  wp_walk
  refine PySem.wpAt_of_wpAny ?_
  rw [F.owner]
  repeat (first
    | with_reducible refine wpAny_madeHere_exc F.canon hC ?_
    | with_reducible refine wpAny_loadPart_at hC ?_
    | (with_reducible refine wpAny_isSubtype_exc hC ?_; first | rw [b1] | rw [b2] | rw [b3])
    | wp_step)
  show R _ _
  rw [Heap.size_push]
  exact hq
theorem typeCallK (F : ExcBaseFacts B newId initId bm) {rest : List Value} {kw : List (Str × Value)} {fI : Addr} {Q : Fin → Shared → Prop}
    (hC : h.get? C = some (excClassObj nm q C N bs bm hd sn sub ab col dd k0 k1 k2 k3 k5 newId))
    (hi : W.Looks (model prog w) h (typeLookup (.ref C) "__init__") (some (.ref fI)))
    (hb : ∀ self, W.Looks (model prog w) h (bindSpecial (.ref fI) self) (.ref fI, [self])) (hrest : rest.length ≤ sizeLine)
    (hq : codeAny (model prog w) A (.call (.ref fI) ⟨.ref (h.objs.size + 1) :: rest, kw⟩)
      (fun r s' => match r with | .ok (.ret v) => v = .none ∧ Q (.done (.ret (.ref (h.objs.size + 1)))) s' | .ok _ => False | .error e => E e s')
      ⟨(h.push (W.kdv_tup rest)).push (excO C h.objs.size), g, d, t, os⟩) :
    wpAny (model prog w) A (Builtin.«type.__call__» ⟨.ref C :: rest, kw⟩) Q E ⟨h, g, d, t, os⟩ := by
  repeat (first
    | with_reducible refine wpAny_loadPart_at hC ?_
    | with_reducible refine wpAny_madeBy_exc hC ?_
    | wp_step)
  refine codeAny_call_builtin_code (Code.quiet_builtin _ F.quiet) (check_newK F hC ?_)
  refine newK F hC ?_ hrest
  show wpAny _ _ _ _ _ _
  have kp : ∀ b o, h.get? b = some o → ((h.push (W.kdv_tup rest)).push (excO C h.objs.size)).get? b = some o :=
    fun b o e => Heap.get?_push_of_some _ (Heap.get?_push_of_some _ e)
  have hC1 := kp _ _ hC
  have new : ((h.push (W.kdv_tup rest)).push (excO C h.objs.size)).get? (h.objs.size + 1) = some (excO C h.objs.size) := by heap_get
  have self : (Value.ref C :: bm).contains (.ref C) = true := by simp
  have i1 := hi.keeps kp
  have b1 := (hb (.ref (h.objs.size + 1))).keeps kp
  unfold isInstance
  repeat (first
    | with_reducible refine wpAny_loadPart_at new ?_
    | (with_reducible refine wpAny_isSubtype_exc hC1 ?_; rw [self])
    | wp_step)
  show wpAny _ _ (typeLookup (.ref C) _) _ _ _
  refine i1.at ?_
  refine wpAny_holding (wpAny_bind (b1.at ?_))
  refine wpAny_bind (wpAny_call (codeAny_mono hq fun r s' z => ?_))
  rcases r with e | (v | _ | _ | _) <;> first | exact z | exact z.elim | skip
  obtain ⟨rfl, z⟩ := z
  first
    | exact wpAny_pure (wpAny_pure z)
    | (wp_walk; exact z)
theorem callK (F : ExcBaseFacts B newId initId bm) {rest : List Value} {kw : List (Str × Value)} {fI : Addr}
    (hC : h.get? C = some (excClassObj nm q C N bs bm hd sn sub ab col dd k0 k1 k2 k3 k5 newId))
    (hi : W.Looks (model prog w) h (typeLookup (.ref C) "__init__") (some (.ref fI)))
    (hb : ∀ self, W.Looks (model prog w) h (bindSpecial (.ref fI) self) (.ref fI, [self])) (hrest : rest.length ≤ sizeLine)
    (hq : codeAny (model prog w) (A.under (.builtin "type.__call__" ⟨.ref C :: rest, kw⟩)) (.call (.ref fI) ⟨.ref (h.objs.size + 1) :: rest, kw⟩)
      (W.InitBack (h.objs.size + 1) R) ⟨(h.push (W.kdv_tup rest)).push (excO C h.objs.size), g, d, t, os⟩) :
    codeAny (model prog w) A (.call (.ref C) ⟨rest, kw⟩) R ⟨h, g, d, t, os⟩ := by
  have f1 := tc_lookup
  have f2 := tc_bind (.ref C)
  have ty : (⟨h, g, d, t, os⟩ : Shared).TypeIs (.ref C) "type" := ⟨_, hC, rfl⟩
  refine codeAny_of_tree ?_
  show wpAny _ _ (callAny (.ref C) _) _ _ _
  repeat (any_goals (first
    | assumption
    | with_reducible refine wpAny_loadPart_at hC ?_
    | wp_step))
  refine ⟨rfl, ?_⟩
  refine codeAny_call_builtin_at (Code.quiet_builtin _ (by decide +kernel)) entry_typeCall ?_
  refine wpAny_check_type_call_sub hC ?_
  refine typeCallK F hC hi hb hrest (codeAny_mono hq fun r s' z => ?_)
  rcases r with e | (v | _ | _ | _) <;> exact z
end
end EV
set_option Elab.async false
set_option linter.all false
set_option maxRecDepth 100000
set_option maxHeartbeats 4000000
namespace L2
namespace EV
open PySem PySem.Spec PyProof.Rows _root_.EV
/-- what the written part says of an own exception class at C, straight under the built-in base B -/
structure OxC (K : PySem.W.Frag) (C : Addr) (B newId initId : String) (bm : List Value) : Prop where
  F : ExcBaseFacts B newId initId bm
  cls : ∃ nm q N bs sn sub ab col dd k0 k1 k2 k3 k5, K.lookup C = some (excClassObj nm q C N bs bm true sn sub ab col dd k0 k1 k2 k3 k5 newId)
  pas : ∀ self, refuseLoop self "__setattr__" bm = pure ()
  obj : bm.contains (.type "object") = true
  sa : PySem.W.findIn K (.ref C) "__setattr__" = some (some (.builtin "object.__setattr__"))
  ga : PySem.W.findIn K (.ref C) "__getattribute__" = some (some (.builtin "BaseException.__getattribute__"))
  gg : PySem.W.findIn K (.ref C) "__getattr__" = some none
  exC : PySem.W.subIn K (.ref C) (.type "BaseException") = some true
  kC : PySem.W.keepIn K (.ref C) = true
  hd : PySem.W.hasDictIn K C = true
  ca : PySem.W.findIn K (.ref C) "__class__" = some (some (.builtin "object.__class__"))
  cn : PySem.W.specialIn K (.builtin "object.__class__") "__get__" = some (some (.builtin "getset_descriptor.__get__"))
  ct : PySem.W.takesIn K (.builtin "object.__class__") = some true
  om : PySem.W.mroIn K C (.type "object") = some true
section
variable {X : Cx} {pins : List (Addr × Obj)} {σ : St} {H : Hp} {s : Shared} {a C dx : Addr} {f : Str} {y : V} {u : Value} {fs : List (Str × V)}
variable {Q : Unit → Shared → Prop} {E : Value → Shared → Prop} {A : Around} {B newId initId : String} {bm : List Value}
theorem OxC.data {K : PySem.W.Frag} (T : OxC K C B newId initId bm) : ∃ cd, PySem.W.clsIn K C = some cd ∧ cd.mro = .ref C :: bm ∧ cd.hasDict = true := by
  obtain ⟨nm, q, N, bs, sn, sub, ab, col, dd, k0, k1, k2, k3, k5, hC⟩ := T.cls
  refine ⟨{ name := nm, bases := bs, mro := .ref C :: bm, ns := N, qualname := q, hasDict := true, slotNames := sn, subclasses := sub, abstract := ab, collection := col, hasDel := false }, ?_, rfl, rfl⟩
  unfold PySem.W.clsIn
  rw [hC] <;> rfl
theorem OxC.look {K : PySem.W.Frag} (T : OxC K C B newId initId bm) {cd : ClassData} (e : cd.mro = .ref C :: bm) (self : Value) :
    refuseLoop self "__setattr__" cd.mro = pure () ∧ cd.mro.contains (.type "object") = true ∧ cd.mro.isEmpty = false := by
  rw [e, refuseLoop_ref]
  refine ⟨T.pas self, ?_, rfl⟩
  rw [List.contains_cons, T.obj, Bool.or_true]
/-- self.f = y, the first field -/
theorem ox_first (T : OxC X.K C B newId initId bm) (I : Inv X pins σ H s) (e : H a = some (exo a C none)) (no : PySem.W.findIn X.K (.ref C) f = some none) (ry : RelV y u)
    (h : ∀ dx s', H dx = none → dx ≠ a → Inv X pins σ (upd (upd H dx (exd dx [(f, y)])) a (exo a C (some dx))) s' → Q () s') :
    wpAny (model X.prog X.w) A (setAttr (.ref a) f u) Q E s := by
  obtain ⟨cd, hcl, hmr, hdi⟩ := T.data
  obtain ⟨l1, l2, l3⟩ := T.look hmr (.ref a)
  obtain ⟨t1, ho⟩ := exo_at I.hok e
  obtain ⟨hp, g, d, t, os⟩ := s
  refine PySem.W.set_plain I.kIn (ox := { cls := .ref C, dict := none, data := .fields #[.ref t1, .none, .none, .none, .bool false, .none] })
    (od := none) ⟨ho, rfl, rfl, trivial⟩ T.sa ?_
  refine put_first I.kIn ho hcl l1 l2 l3 hdi no fun h' tk' dx k big ne hx hn => ?_
  have free : H dx = none := I.hok.fresh big
  have old : ∀ {b : Addr} {o : Obj}, hp.get? b = some o → b ≠ dx := fun {b o} q => Nat.ne_of_lt (Nat.lt_of_lt_of_le (Heap.lt_size q) big)
  have nota : ∀ {b : Addr}, H b = none → b ≠ a := fun {b} n z => by
    subst z
    rw [e] at n
    cases n
  have un : Un X.fs [] H (upd (upd H dx (exd dx [(f, y)])) a (exo a C (some dx))) hp h' := by
    refine ⟨fun b o q n _ _ => k b o (nota n) q, fun b o q n _ _ => ⟨o.slots, k b o (nota n) q⟩, fun b o q n _ => ?_, fun b o q _ => ?_, fun b xs q => ?_, fun b o v q => ?_, fun b ps q => ⟨#[], ?_⟩⟩
    · rw [upd_ne (nota n), upd_ne (old q)]
      exact n
    · by_cases hb : b = a
      · subst hb
        exact ⟨_, hx⟩
      · exact ⟨o, k b o hb q⟩
    · rw [upd_ne (at_ne e q exo_tup), upd_ne (ne_of_none q free)]
      exact q
    · rw [upd_ne (at_ne e q exo_frz), upd_ne (ne_of_none q free)]
      exact q
    · rw [upd_ne (at_ne e q exo_tbl), upd_ne (ne_of_none q free), q]
      simp
  refine h dx _ free ne (I.un (t' := tk') un fun b o q => ?_)
  by_cases hb : b = a
  · subst hb
    rw [upd_same] at q
    cases q
    exact exo_ok hx
  · rw [upd_ne hb] at q
    by_cases hd : b = dx
    · subst hd
      rw [upd_same] at q
      cases q
      exact exd_ok hn (relO_put (fs := []) ry fun g => True.intro)
    · rw [upd_ne hd] at q
      refine (I.hok b o q).stay (fun c v hc z => k c v ?_ z) (fun c hc => ?_) fun c xs hc => ?_
      · rcases hc with hc | hc
        · subst hc
          exact hb
        · exact at_ne e hc exo_own
      · rw [upd_ne (at_ne e hc exo_own), upd_ne (ne_of_none hc free)]
        exact hc
      · rw [upd_ne (at_ne e hc exo_tup), upd_ne (ne_of_none hc free)]
        exact hc
/-- self.f = y, a further field -/
theorem ox_more (T : OxC X.K C B newId initId bm) (I : Inv X pins σ H s) (e : H a = some (exo a C (some dx))) (ed : H dx = some (exd dx fs)) (hl : fs.length ≤ 900)
    (no : PySem.W.findIn X.K (.ref C) f = some none) (ry : RelV y u) (h : ∀ s', Inv X pins σ (upd H dx (exd dx ((f, y) :: fs))) s' → Q () s') :
    wpAny (model X.prog X.w) A (setAttr (.ref a) f u) Q E s := by
  obtain ⟨cd, hcl, hmr, hdi⟩ := T.data
  obtain ⟨l1, l2, l3⟩ := T.look hmr (.ref a)
  obtain ⟨t1, ho⟩ := exo_at I.hok e
  obtain ⟨mA, hns, rel⟩ := exd_at I.hok ed
  have hw := within_of rel
  obtain ⟨hp, g, d, t, os⟩ := s
  obtain ⟨oD, _, _, hoD, _, _⟩ := hns.count hw
  refine PySem.W.set_plain I.kIn (ox := { cls := .ref C, dict := some dx, data := .fields #[.ref t1, .none, .none, .none, .bool false, .none] })
    (od := some oD) ⟨ho, rfl, rfl, hoD⟩ T.sa ?_
  refine put_more I.kIn ho hns hw (by rw [List.length_map]; omega) hcl l1 l2 l3 hdi no fun h' tk' k hn => ?_
  have there : ∃ o, h'.get? dx = some o := by
    obtain ⟨o, _, _, e', _⟩ := hn
    exact ⟨o, e'⟩
  refine h _ (I.write (t' := tk') (x := dx) (e := dx) (o := exd dx ((f, y) :: fs)) ?_ (.inl rfl) k there (exd_ok hn (relO_put ry rel)))
  rw [ed]
  exact True.intro
/-- B.__init__(self, ..) of an exception without fields: nothing of it is told -/
theorem ox_init {us : List Value} {Q : Value → Shared → Prop} (T : OxC X.K C B newId initId bm) (I : Inv X pins σ H s) (e : H a = some (exo a C none)) (hl : us.length ≤ sizeLine)
    (h : ∀ s', Inv X pins σ H s' → Q .none s') : wpAny (model X.prog X.w) A (call (.builtin initId) (.ref a :: us)) Q E s := by
  obtain ⟨nm, q, N, bs, sn, sub, ab, col, dd, k0, k1, k2, k3, k5, hC⟩ := T.cls
  obtain ⟨t1, ho⟩ := exo_at I.hok e
  obtain ⟨hp, g, d, t, os⟩ := s
  refine wpAny_call (PySem.HandSPX.init_base T.F (fun _ => rfl) (I.kIn _ _ hC) ho hl fun h' t2 k hx => ?_)
  have J := I.write (t' := t) (x := a) (e := a) (o := exo a C none) (by rw [e]; exact True.intro) (.inl rfl) k ⟨_, hx⟩ (exo_ok hx)
  have eu : upd H a (exo a C none) = H := by
    funext b
    by_cases hb : b = a
    · subst hb
      rw [upd_same, e]
    · rw [upd_ne hb]
  rw [eu] at J
  exact h _ J
end
/-! ### the readings -/
def tBin (K : PySem.W.Frag) (B newId initId : String) (bm : List Value) (ta : TA) : TE := fun σ H Q => ta σ H fun vs H1 =>
  ∃ (a C : Addr) (ws : List V), vs = .ref a :: ws ∧ ws.length ≤ 1000 ∧ OxC K C B newId initId bm ∧ H1 a = some (exo a C none) ∧ Q .non H1
def tPut (K : PySem.W.Frag) (B newId initId : String) (bm : List Value) (f : Str) (to te : TE) : TS := fun D σ H => te σ H fun y H1 => to σ H1 fun x H2 =>
  ∃ a C : Addr, x = .ref a ∧ OxC K C B newId initId bm ∧ PySem.W.findIn K (.ref C) f = some none ∧
    ((H2 a = some (exo a C none) ∧ ∀ dx, H2 dx = none → dx ≠ a → D.nx σ (upd (upd H2 dx (exd dx [(f, y)])) a (exo a C (some dx)))) ∨
      ∃ (dx : Addr) (fs : List (Str × V)), H2 a = some (exo a C (some dx)) ∧ H2 dx = some (exd dx fs) ∧ fs.length ≤ 900 ∧ D.nx σ (upd H2 dx (exd dx ((f, y) :: fs))))
/-- C(..) as a value: gV puts the exception itself, the values by position and those by name in the parameters' order -/
def tNew (C : Addr) (n m : Nat) (sp : Sp) (gV : List V → List V → List V) (t tk : TA) : TE := fun σ H Q => t σ H fun vs H1 => tk σ H1 fun zs H2 =>
  vs.length = n ∧ zs.length = m ∧ vs.length ≤ 1000 ∧ ∀ a, H2 a = none → sp (gV (.ref a :: vs) zs) (upd H2 a (exo a C none)) (fun v H3 => v = .non ∧ Q (.ref a) H3) (fun _ _ _ => False)
/-- e.f, e such an exception -/
def tFld (K : PySem.W.Frag) (f : Str) (te : TE) : TE := fun σ H Q => te σ H fun x H1 =>
  ∃ (a C dx : Addr) (B newId initId : String) (bm : List Value) (fs : List (Str × V)) (v : V), x = .ref a ∧ OxC K C B newId initId bm ∧ PySem.W.findIn K (.ref C) f = some none ∧
    H1 a = some (exo a C (some dx)) ∧ H1 dx = some (exd dx fs) ∧ fs.lookup f = some v ∧ Q v H1
/-- isinstance(e, c) -/
def rIsX (K : PySem.W.Frag) : List V → Hp → VK → Prop := fun xs H Q => ∃ (a C : Addr) (od : Option Addr) (fs : List (Str × V)) (B newId initId : String) (bm : List Value) (c : V) (u : Value) (b : Bool),
  xs = [.ref a, c] ∧ ClsV c u ∧ OxC K C B newId initId bm ∧ H a = some (exo a C od) ∧ (∀ dx, od = some dx → H dx = some (exd dx fs)) ∧ PySem.W.kitOne K (.ref C) u = some b ∧ Q (.bl b) H
section
variable {X : Cx} {o e : Expr} {es : List Expr} {to te : TE} {ta : TA} {f : Str} {p p' p1 p2 pos : Pos} {B newId initId : String} {bm : List Value}
theorem pe_bin {nB : Str} {pl : Sem Bool} (hg : Gl X nB) (hm : X.mg nB = none) (hv : bootBuiltins nB = some (.type B)) (ty : typeOf (.type B) = pure (.type "type"))
    (vV : PySem.W.findCls X.K (.type B) (.type "type") "__init__" = some (.val (.builtin initId))) (q4 : Manifest.isStub B = false) (ha : PA X (e :: es) ta) (q3 : PySem.W.handedIn (.builtin initId) = true)
    (hn1 : nB ≠ "__name__" := by decide) (hn2 : (nB == ("__debug__" : Str)) = false := by decide)
    (hc : eval (.Call (.Attribute (.Name nB p1) "__init__" p2) (e :: es) [] pos) X.env = (do
      let ov ← eval (.Name nB p1) X.env
      standAt p2.atName
      let (f, first) ← holding [ov] (getMethod ov "__init__" pl)
      callWith pos f first (backTo pos (starEach (e :: es) X.env)) (backToKw pos (keywordEach [] X.env))) := by rfl)
    (he : starEach (e :: es) X.env = (false, eval e X.env) :: starEach es X.env := by rfl) (hpl : (backTo pos (starEach es X.env)).any (·.1) = false := by rfl) :
    PE X (.Call (.Attribute (.Name nB p1) "__init__" p2) (e :: es) [] pos) (tBin X.K B newId initId bm ta) := by
  refine ⟨fun pins s σ H Q I h => ?_⟩
  refine PySem.W.methodCall_KW (ld_blt I hg hm hv ?_ hn1 hn2) hc
  obtain ⟨m, fr⟩ := I.fr
  refine PySem.W.method_type fr I.ok.mod.kin ty q4 vV q3 ?_
  show wpAny _ _ (callWith pos (Value.builtin initId) [] (backTo pos (starEach (e :: es) X.env)) []) _ _ _
  refine PyProof.Rows.callWith_method1 (thn (ha.run pos pins _ σ H _ (I.tok _) h) fun us s1 ⟨vs, H1, I1, r1, a, C, ws, ev, hl, T, ea, q⟩ => ?_) he hpl
  subst ev
  cases r1 with
  | @cons _ u0 _ ur ra rr =>
    obtain rfl : u0 = Value.ref a := ra
    have len : ur.length ≤ sizeLine := by
      have e1 := Paired.length rr
      rw [← e1, sizeLine_eq]
      omega
    exact ox_init T I1 ea len fun s' J => ⟨.non, H1, J, rfl, q⟩
/-- self.f = e -/
theorem ps_put (ho : PE X o to) (he : PE X e te) (hs : swapsWith e (some (.Attribute o f p')) pos.line X.env = pure false := by rfl) :
    PS X (.Assign [.Attribute o f p'] e pos) (tPut X.K B newId initId bm f to te) := by
  refine ⟨fun pins s σ H D I h => ?_⟩
  refine plainObj_wpAny_Assign_Attribute (thn (he.run pins s σ H _ I h) fun v s1 ⟨y, H1, I1, r1, q1⟩ => ?_) hs
  refine thn (ho.run pins s1 σ H1 _ I1 q1) fun u s2 ⟨x, H2, I2, r2, a, C, ex, T, no, q⟩ => ?_
  subst ex
  obtain rfl : u = Value.ref a := r2
  rcases q with ⟨ea, q⟩ | ⟨dx, fs, ea, ed, hl, q⟩
  · exact ox_first T I2 ea no r1 fun dx s' n ne J => ⟨σ, _, J, q dx n ne⟩
  · exact ox_more T I2 ea ed hl no r1 fun s' J => ⟨σ, _, J, q⟩
/-- e.f -/
theorem pe_xfld (he : PE X e te) (hb : attributeBase e f X.env (eval e X.env) = eval e X.env := by rfl) : PE X (.Attribute e f pos) (tFld X.K f te) := by
  refine ⟨fun pins s σ H Q I h => ?_⟩
  refine attr_of hb (thn (he.run pins s σ H _ I h) fun u s1 ⟨x, H1, I1, rx, a, C, dx, B, newId, initId, bm, fs, v, ex, T, no, ea, ed, l, q⟩ => ?_)
  subst ex
  obtain rfl : u = Value.ref a := rx
  obtain ⟨t1, ho⟩ := exo_at I1.hok ea
  obtain ⟨mA, hns, hr⟩ := exd_at I1.hok ed
  obtain ⟨od, hod, hl⟩ := lookIn_ns hns
  obtain ⟨u, hu, ru⟩ := RelO.some_of (v := v) (o := mA f) (by rw [← l]; exact hr f)
  have J : PySem.W.InstAt s1.heap a { cls := .ref C, dict := some dx, data := .fields #[.ref t1, .none, .none, .none, .bool false, .none] } C (some od) := ⟨ho, rfl, rfl, hod⟩
  exact HandSPX.exc_get I1.kIn J T.ga T.gg T.exC (PySem.W.findObj_own T.hd no rfl (by rw [hl, hu])) (handed_of ru) ⟨v, H1, I1.tok _, ru, q⟩
theorem call_isX : CallR X (.builtin "isinstance") (rIsX X.K) := by
  intro pins s σ H xs us Q I r h
  obtain ⟨a, C, od, fs, B, newId, initId, bm, c, u, b, rfl, k, T, ea, ed, e, q⟩ := h
  obtain ⟨u1, u2, rfl, r1, r2⟩ := vals2 r
  have e2 := k.eq r2
  subst e2
  obtain rfl : u1 = Value.ref a := r1
  obtain ⟨t1, ho⟩ := exo_at I.hok ea
  obtain ⟨cd, hcl, _⟩ := T.data
  have some_ : (PySem.W.clsIn X.K C).isSome = true := by rw [hcl]; rfl
  have fin : ∀ tk, EP X pins σ Q (.bool b) { s with toks := tk } := fun tk => ⟨.bl b, H, I.tok tk, rfl, q⟩
  cases od with
  | none =>
    have J : PySem.W.InstAt s.heap a { cls := .ref C, dict := none, data := .fields #[.ref t1, .none, .none, .none, .bool false, .none] } C none := ⟨ho, rfl, rfl, trivial⟩
    exact PySem.W.kia_one (PySem.W.kitx_exc some_ T.ga T.gg T.exC T.ca T.cn T.ct T.om) I.kIn J e (fun z => nomatch z) fin
  | some dx =>
    obtain ⟨mA, hns, hr⟩ := exd_at I.hok (ed dx rfl)
    obtain ⟨o', hod, hl⟩ := lookIn_ns hns
    have J : PySem.W.InstAt s.heap a { cls := .ref C, dict := some dx, data := .fields #[.ref t1, .none, .none, .none, .bool false, .none] } C (some o') := ⟨ho, rfl, rfl, hod⟩
    exact PySem.W.kia_one (PySem.W.kitx_exc some_ T.ga T.gg T.exC T.ca T.cn T.ct T.om) I.kIn J e (fun z => nomatch z) fin
end
/-! ### making one, kept as a value -/
section
variable {X : Cx} {CX : CXT} {k n : Nat} {fI C : Addr} {fd : FuncData} {ps ks : List Str} {sp : Sp} {x : Str} {p pos : Pos} {e : Expr} {es : List Expr} {kws : List Keyword}
variable {t tk : TA} {g : List Value → List Value → List Value} {gV : List V → List V → List V} {B newId initId : String} {bm : List Value}
theorem run_new {pins : List (Addr × Obj)} {σ : St} {H : Hp} {s : Shared} {Q : VK} {us ws : List Value} {vs zs : List V} (T : OxC X.K C B newId initId bm)
    (iC : PySem.W.findIn X.K (.ref C) "__init__" = some (some (.ref fI))) (tI : PySem.W.typeIn X.K (.ref fI) = some (.type "function"))
    (F : FnOk X.prog X.w X.K X.mg X.base CX k fI fd ps sp) (hr : Room (k + 1) X.A) (hb : KBn X.K fd ps (n + 1) ks g gV) (hx : Passes CX X (fun _ _ _ => False))
    (I : Inv X pins σ H s) (r : Vals vs us) (rz : Vals zs ws) (l1 : vs.length = n) (l2 : zs.length = ks.length) (l3 : vs.length ≤ 1000)
    (h : ∀ a, H a = none → sp (gV (.ref a :: vs) zs) (upd H a (exo a C none)) (fun v H3 => v = .non ∧ Q (.ref a) H3) (fun _ _ _ => False)) :
    wpAny (model X.prog X.w) X.A (call (.ref C) us (ks.zip ws)) (EP X pins σ Q) X.xe s := by
  obtain ⟨nm, q, N, bs, sn, sub, ab, col, dd, k0, k1, k2, k3, k5, hC⟩ := T.cls
  obtain ⟨hp, g1, dr, tk, os⟩ := s
  have big : hp.objs.size ≤ hp.objs.size + 1 := Nat.le_succ _
  have free : H (hp.objs.size + 1) = none := I.hok.fresh big
  have hq := h (hp.objs.size + 1) free
  have kp : ∀ b o, hp.get? b = some o → ((hp.push (PySem.W.kdv_tup us)).push (PySem.HandSPX.excO C hp.objs.size)).get? b = some o := fun b o e =>
    Heap.get?_push_of_some _ (Heap.get?_push_of_some _ e)
  have new : ((hp.push (PySem.W.kdv_tup us)).push (PySem.HandSPX.excO C hp.objs.size)).get? (hp.objs.size + 1) = some (PySem.HandSPX.excO C hp.objs.size) := by heap_get
  have I2 : Inv X pins σ (upd H (hp.objs.size + 1) (exo (hp.objs.size + 1) C none))
      ⟨(hp.push (PySem.W.kdv_tup us)).push (PySem.HandSPX.excO C hp.objs.size), g1, dr, tk, os⟩ :=
    I.laid (t' := tk) (a := hp.objs.size + 1) (o := exo (hp.objs.size + 1) C none) (h' := (hp.push (PySem.W.kdv_tup us)).push (PySem.HandSPX.excO C hp.objs.size)) kp big (exo_ok new)
  have ra : Vals (V.ref (hp.objs.size + 1) :: vs) (Value.ref (hp.objs.size + 1) :: us) := .cons rfl r
  have lu : us.length ≤ sizeLine := by
    have e1 := Paired.length r
    rw [← e1, sizeLine_eq]
    omega
  have n1 : (Value.ref (hp.objs.size + 1) :: us).length = n + 1 := by
    rw [List.length_cons, ← r.length, l1]
  refine wpAny_call (EV.callK T.F (I.kIn _ _ hC) (PySem.W.looks_findIn I.kIn iC) (fun self => PySem.W.bind_fn I.kIn self tI) lu
    (codeAny_mono (F.run _ X.stack _ _ ⟨Value.ref (hp.objs.size + 1) :: us, ks.zip ws⟩ (g (Value.ref (hp.objs.size + 1) :: us) ws) _ _ (fun _ _ _ => False)
      (hr.make C us (ks.zip ws)) (I2.env0.make C us (ks.zip ws)) (hb.to _ _ ws I2.kIn n1 (rz.length.symm.trans l2)) (hb.rel ra rz) hq) fun r s' hq' => ?_))
  cases r with
  | error er => exact hx pins σ _ _ er s' I2 hq'
  | ok fl =>
    cases fl with
    | ret u =>
      obtain ⟨v, H3, I3, rv, ev, q3⟩ := I2.after hq'
      subst ev
      exact ⟨rv, ⟨V.ref (hp.objs.size + 1), H3, I3, rfl, q3⟩⟩
    | next => exact False.elim hq'
    | brk => exact False.elim hq'
    | cont => exact False.elim hq'
/-- C(e, ..) -/
theorem pe_new (T : OxC X.K C B newId initId bm) (iC : PySem.W.findIn X.K (.ref C) "__init__" = some (some (.ref fI))) (tI : PySem.W.typeIn X.K (.ref fI) = some (.type "function"))
    (F : FnOk X.prog X.w X.K X.mg X.base CX k fI fd ps sp) (hr : Room (k + 1) X.A) (hb : KBn X.K fd ps (n + 1) [] g gV) (hx : Passes CX X (fun _ _ _ => False))
    (hg : Gl X x) (hm : X.mg x = some (.ref C)) (ha : PA X (e :: es) t) (hdb : (x == ("__debug__" : Str)) = false := by decide)
    (he : starEach (e :: es) X.env = (false, eval e X.env) :: starEach es X.env := by rfl) (hpl : (backTo pos (starEach es X.env)).any (·.1) = false := by rfl) :
    PE X (.Call (.Name x p) (e :: es) [] pos) (tNew C n 0 sp gV t tNil) := by
  refine ⟨fun pins s σ H Q I h => ?_⟩
  refine wpAny_Call_Name_kw (ld_glob I hg hm ?_ hdb)
  refine PySem.W.callWith_K (h₀ := X.base) I.ok.mod.kin T.kC (thn (ha.run pos pins s σ H _ I h) fun us s1 ⟨vs, H1, I1, r1, q1⟩ => ⟨I1.kIn, ?_⟩) he hpl
  obtain ⟨l1, _, l3, q2⟩ := q1
  exact run_new (ws := []) (zs := []) T iC tI F hr hb hx I1 r1 .nil l1 rfl l3 q2
/-- C(k = v, ..) -/
theorem pe_newK (T : OxC X.K C B newId initId bm) (iC : PySem.W.findIn X.K (.ref C) "__init__" = some (some (.ref fI))) (tI : PySem.W.typeIn X.K (.ref fI) = some (.type "function"))
    (F : FnOk X.prog X.w X.K X.mg X.base CX k fI fd ps sp) (hr : Room (k + 1) X.A) (hb : KBn X.K fd ps 1 ks g gV) (hx : Passes CX X (fun _ _ _ => False))
    (hg : Gl X x) (hm : X.mg x = some (.ref C)) (hkw : PK X kws tk) (hall : (backToKw pos (keywordEach kws X.env)).all (·.1.isSome) = true := by rfl)
    (hks : (backToKw pos (keywordEach kws X.env)).filterMap (·.1) = ks := by rfl) (hdb : (x == ("__debug__" : Str)) = false := by decide)
    (hpl : ((backTo pos (starEach [] X.env)).any (·.1) || (backToKw pos (keywordEach kws X.env)).any (·.1.isNone)) = false := by rfl) :
    PE X (.Call (.Name x p) [] kws pos) (tNew C 0 ks.length sp gV tNil tk) := by
  refine ⟨fun pins s σ H Q I h => ?_⟩
  refine wpAny_Call_Name_kw (ld_glob I hg hm ?_ hdb)
  refine PySem.W.callWith_KW0 (h₀ := X.base) I.ok.mod.kin T.kC hall ?_ hpl
  refine thn (hkw.run pos pins s σ H _ I h) fun ws s2 ⟨zs, H2, I2, rz, l1, l2, l3, q2⟩ => ⟨I2.kIn, ?_⟩
  rw [hks]
  exact run_new (us := []) (vs := []) T iC tI F hr hb hx I2 .nil rz rfl l2 (by decide) q2
end
end EV
end L2
set_option Elab.async false
set_option linter.all false
set_option maxRecDepth 100000
set_option maxHeartbeats 4000000
/-! Defs that show values by repr: a promise that is kept where no repr runs yet. -/
namespace L2
namespace EV
open PySem PySem.Spec PyProof.Rows _root_.EV
/-- FnOk, where no repr runs yet -/
structure FnG (P : Program) (w : World) (K : PySem.W.Frag) (mg : Str → Option Value) (base : Heap) (CX : CXT) (k : Nat) (f : Addr) (fd : FuncData) (ps : List Str) (sp : Sp) : Prop where
  len : ∀ vs H Q E, sp vs H Q E → vs.length = ps.length
  run : ∀ (A : Around) (outer : List Env) (s : Shared) (H : Hp) (args : Args) (us : List Value) (vs : List V) (Q : VK) (E : XK), Room k A → A.guards = some [] →
    Env0 P w K mg base A outer s H → BindsTo s fd args (ps.zip us) → Vals vs us → sp vs H Q E → codeAny (model P w) A (.call (.ref f) args) (CR CX outer P w H s Q E) s
section
variable {P : Program} {w : World} {K : PySem.W.Frag} {mg : Str → Option Value} {base : Heap}
theorem okG {x qual : Str} {st : Stmt} {f : Addr} {fd : FuncData} {N ps : List Str} {k : Nat} {sp : Sp} (F : Fun K x qual st f fd) (S : FnScope N ps (defScope st))
    (len : ∀ vs H Q E, sp vs H Q E → vs.length = ps.length)
    (hbody : ∀ (cdv : Value) (A : Around) (outer : List Env) (s : Shared) (H : Hp) (vs : List V) (Q : VK) (E : XK), Room k (A.deeper (envOfC qual (defScope st) s.heap.objs.size f cdv)) →
      A.guards = some [] → sp vs H Q E →
      ∃ t, PSs (cxOf CX0 P w K mg base N qual (defScope st) f cdv A outer s H E).nox (defBody st) t ∧ t { nx := fun _ H' => Q .non H', rt := Q } (start N vs) H) :
    FnG P w K mg base CX0 (k + 1) f fd ps sp := by
  obtain ⟨oc, od, kV, doc, pm, an, cdv, ct, osl, rfl, lk, hcd⟩ := F.ex
  refine ⟨len, fun A outer s H args us vs Q E hr hgd e0 hb r hsp => ?_⟩
  have hl := len _ _ _ _ hsp
  have keptB : ∀ b o, base.get? b = some o → s.heap.get? b = some o := fun b o e => (e0.bs b o e).1
  have KX : K.In s.heap := e0.mod.kin.keeps keptB
  have lim : s.heap.NoLimit := e0.mod.nolimit.keeps keptB
  have kinds : ∀ y ∈ ps.zip us, (defScope st).names.lookup y.1 = some .local ∨
      ((defScope st).names.lookup y.1 = some .cell ∧ ((cellsFrom (s.heap.objs.size + 1) (defScope st).names []).lookup y.1).isSome = true) := fun ⟨n, v⟩ hy =>
    (S.par n (List.of_mem_zip hy).1).elim .inl fun q => .inr ⟨q, PySem.W.cellsFrom_some _ _ _ (.inl q)⟩
  refine codeAny_call_function hr.depth (KX _ _ lk) rfl S.co S.gen rfl (PySem.W.codeRec_of KX hcd) (hb _ _ _ _ ?_)
  refine wpAny_newFunctionEnv_cells S.kind kinds fun env he s1 x => ?_
  subst he
  refine ⟨lim.keeps x.toInCall.keep, codeAny_func ?_⟩
  obtain ⟨t, ht0, hq⟩ := hbody cdv A outer s H vs Q E (hr.deeper _) hgd hsp
  have ht := ht0.nox
  have I : Inv (cxOf CX0 P w K mg base N qual (defScope st) f cdv A outer s H E) [] (start N vs) H s1 := inv_start S hr.hd e0 hl r x
  refine wpAny_mono (ht.run [] s1 (start N vs) H _ I hq) (fun fl s' hs => ?_) fun e s' hs => hs
  cases fl with
  | ret u =>
    obtain ⟨v, σ', H', J, rv, q⟩ := hs
    exact ⟨v, H', J.os, J.bare, J.base, J.hok, rv, q⟩
  | next =>
    obtain ⟨σ', H', J, q⟩ := hs
    exact ⟨V.non, H', J.os, J.bare, J.base, J.hok, rfl, q⟩
  | brk =>
    obtain ⟨_, _, _, q⟩ := hs
    exact False.elim q
  | cont =>
    obtain ⟨_, _, _, q⟩ := hs
    exact False.elim q
end
section
variable {X : Cx} {CX : CXT} {k : Nat} {f : Addr} {fd : FuncData} {ps : List Str} {sp : Sp} {x : Str} {p pos : Pos} {e : Expr} {es : List Expr} {t : TA} {E : XK}
/-- f(e, ..) of such a def -/
theorem pe_callG (F : FnG X.prog X.w X.K X.mg X.base CX k f fd ps sp) (hr : Room k X.A) (hgd : X.A.guards = some []) (hg : Gl X x) (hm : X.mg x = some (.ref f))
    (hk : PySem.W.keepIn X.K (.ref f) = true) (hb : Binds X.K fd ps []) (hx : Passes CX X E) (ha : PA X (e :: es) t) (hdb : (x == ("__debug__" : Str)) = false := by decide)
    (he : starEach (e :: es) X.env = (false, eval e X.env) :: starEach es X.env := by rfl) (hpl : (backTo pos (starEach es X.env)).any (·.1) = false := by rfl) :
    PE X (.Call (.Name x p) (e :: es) [] pos) (fun σ H Q => t σ H fun vs H1 => sp vs H1 Q E) := by
  refine ⟨fun pins s σ H Q I h => ?_⟩
  refine wpAny_Call_Name_kw (ld_glob I hg hm ?_ hdb)
  refine PySem.W.callWith_K (h₀ := X.base) I.ok.mod.kin hk (thn (ha.run pos pins s σ H _ I h) fun us s1 ⟨vs, H1, I1, r, q⟩ => ⟨I1.kIn, ?_⟩) he hpl
  have hl : us.length = ps.length := by
    rw [← r.length]
    exact F.len _ _ _ _ q
  have bn := hb s1 us I1.kIn (by rw [List.append_nil]; exact hl)
  rw [List.append_nil] at bn
  refine wpAny_call (codeAny_mono (F.run X.A X.stack s1 H1 ⟨us, []⟩ us vs Q E hr hgd I1.env0 bn r q) fun r2 s2 hq => ?_)
  cases r2 with
  | error er => exact hx pins σ H1 s1 er s2 I1 hq
  | ok fl =>
    cases fl with
    | ret u => exact I1.after hq
    | next => exact False.elim hq
    | brk => exact False.elim hq
    | cont => exact False.elim hq
end
/-- the law's own call, of a promise that is kept where no repr runs -/
theorem law_callG {P : Program} {w : World} {K : PySem.W.Frag} {mg mb : Str → Option Value} {k : Nat} {fa a : Addr} {fd : FuncData} {x : Str} {sp : Sp} {s1 : Shared} {vs : List Value} {ns : List Int}
    (KX : K.In s1.heap) (hns : s1.heap.Ns mainGlobals mg) (hb : s1.heap.Ns builtinsNs mb) (hbb : ∀ x : Str, x ≠ "__name__" → mb x = bootBuiltins x) (hlim : s1.heap.NoLimit) (hg : s1.gens = #[])
    (ha : s1.heap.get? a = some { cls := .type "list", data := .seq vs.toArray }) (hi : IntsAre vs ns) (hl : ns.length ≤ sizeLine) (hr : Room k callerA)
    (F : ∀ base : Heap, K.In base → base.Ns mainGlobals mg → FnG P w K mg base CX0 k fa fd [x] sp) (hbind : ∀ (s : Shared) (u : Value), BindsTo s fd ⟨[u], []⟩ [(x, u)])
    (hsp : ∀ H : Hp, Only H → SqL K H a (ns.map V.int) → sp [.ref a] H (fun v _ => v = .bl true) fun _ _ _ => False) :
    codeAny (model P w) callerA (.call (.ref fa) ⟨[.ref a], []⟩) (fun r s' => r = .ok (.ret (.bool true)) ∧ OldK s1.heap s'.heap ∧ s'.os = s1.os ∧ AllBare s'.gens) s1 := by
  have rv := vals_ints hi
  have lenV := hi.length
  have core : ∀ H : Hp, Only H → SqL K H a (ns.map V.int) → HOk P w H s1.heap → (∀ b, H b ≠ none → b = a) → (H a ≠ none → K.lookup a = none) →
      codeAny (model P w) callerA (.call (.ref fa) ⟨[.ref a], []⟩) (fun r s' => r = .ok (.ret (.bool true)) ∧ OldK s1.heap s'.heap ∧ s'.os = s1.os ∧ AllBare s'.gens) s1 := by
    intro H hO hS hok onlyA notK
    have noDict : ∀ {b : Addr} {o : Obj} {es : Array DictEntry} {ep : Nat}, s1.heap.get? b = some o → o.data = .dict es ep → H b = none := fun {b o es ep} e d => by
      cases q : H b with
      | none => rfl
      | some u =>
        obtain rfl : b = a := onlyA b (by rw [q]; simp)
        rw [ha] at e
        cases e
        exact nomatch (show Data.seq vs.toArray _ = Data.dict es ep from d)
    have nsK : ∀ {b : Addr} {m : Str → Option Value}, s1.heap.Ns b m → (hidT s1.heap H).Ns b m := fun {b m} ⟨o, es, ep, e, d, r⟩ => ⟨o, es, ep, hidT_get e (noDict e d), d, r⟩
    have kin : K.In (hidT s1.heap H) := fun b o e => hidT_get (KX b o e) (by
      cases q : H b with
      | none => rfl
      | some u =>
        obtain rfl : b = a := onlyA b (by rw [q]; simp)
        rw [notK (by rw [q]; simp)] at e
        cases e)
    obtain ⟨mc, c1, c2⟩ := hlim
    have hM : Mod K mg (hidT s1.heap H) := ⟨kin, nsK hns, ⟨mb, nsK hb, hbb⟩, ⟨mc, nsK c1, c2⟩⟩
    have noF : ∀ b, b ∉ frs [] := fun b z => absurd (show b ∈ ([] : List Addr) from z) (by simp)
    have e0 : Env0 P w K mg (hidT s1.heap H) callerA [] s1 H :=
      ⟨rfl, hM, fun b o e => of_hidT e, Nat.le_of_eq (hidT_size _ _), trivial, fun b z => absurd z (noF b), hok, .of_eq hg⟩
    refine codeAny_mono ((F _ kin (nsK hns)).run callerA [] s1 H ⟨[.ref a], []⟩ [.ref a] [.ref a] _ _ hr rfl e0 (hbind s1 (.ref a)) (.cons rfl .nil) (hsp H hO hS)) fun r s' h => ?_
    cases r with
    | error e => exact False.elim h
    | ok fl =>
      cases fl with
      | next => exact False.elim h
      | brk => exact False.elim h
      | cont => exact False.elim h
      | ret u =>
        obtain ⟨v, H', os, bare, un, hok', r', q⟩ := h
        obtain rfl : v = .bl true := q
        obtain rfl : u = Value.bool true := r'
        refine ⟨rfl, OldK.of_keep fun b o e => ?_, os, bare⟩
        cases q : H b with
        | none => exact un.keep b o e q (noF b) (by simp)
        | some u =>
          rcases hO b with z | ⟨ob, xs, z⟩
          · rw [q] at z
            cases z
          · obtain ⟨e1, _⟩ := hok b _ z
            obtain ⟨e2, _⟩ := hok' b _ (un.frzs b ob _ z)
            rw [e] at e1
            cases e1
            exact e2
  cases hk : K.lookup a with
  | some o =>
    have e := KX a o hk
    rw [ha] at e
    cases e
    refine core (fun _ => none) (fun _ => .inl rfl) (.inr ⟨_, vs.toArray, _, hk, rfl, rfl, rfl, ?_, by simpa using rv⟩) (fun b u z => ?_) (fun b z => absurd rfl z) fun z => absurd rfl z
    · rw [List.size_toArray, lenV]
      exact hl
    · exact nomatch (show (none : Option HO) = some u from z)
  | none =>
    refine core (fun b => if b = a then some (.frz { cls := .type "list", data := .seq vs.toArray } (.lst (ns.map V.int))) else none) (fun b => ?_)
      (.inl (.inr ⟨{ cls := .type "list", data := .seq vs.toArray }, if_pos rfl⟩)) (fun b u z => ?_) (fun b z => ?_) fun _ => hk
    · by_cases hb : b = a
      · exact .inr ⟨_, _, if_pos hb⟩
      · exact .inl (if_neg hb)
    · by_cases hb : b = a
      · have z2 := (if_pos hb).symm.trans z
        cases z2
        subst hb
        exact ⟨ha, by rw [List.length_map]; exact hl, vs, _, rv, ha⟩
      · exact nomatch (if_neg hb).symm.trans z
    · by_cases hb : b = a
      · exact hb
      · exact absurd (if_neg hb) z
theorem walk_ofG {l : PySem.W.OpenLaw} {n k : Nat} {q : Program} {loose : List Str} {XP : (Str → Option Value) → Heap → Prop} {YP : World → Heap → Prop} {d : DefRec} {K : Params → PySem.W.Frag} {sp : PySem.W.Frag → Sp} {x : Str}
    (hn : l.most = some n) (hn2 : n ≤ sizeLine) (hdf : d.params.defaults = []) (hr : Room k callerA) (hY : ∀ (w : World) (h : Heap), YP w h → (K w.params).In h)
    (F : ∀ (w : World) (mg : Str → Option Value) (fa : Addr) (h : Heap), (K w.params).In h → h.Ns mainGlobals mg → mg d.name = some (.ref fa) →
      ∃ fd : FuncData, (∀ (s : Shared) (u : Value), BindsTo s fd ⟨[u], []⟩ [(x, u)]) ∧
        ∀ base : Heap, (K w.params).In base → base.Ns mainGlobals mg → FnG l.prog w (K w.params) mg base CX0 k fa fd [x] (sp (K w.params)))
    (hsp : ∀ (K : PySem.W.Frag) (H : Hp) (a : Addr) (ns : List Int), ns.length ≤ n → Only H → SqL K H a (ns.map V.int) → sp K [.ref a] H (fun v _ => v = .bl true) fun _ _ _ => False) :
    PySem.W.WalkO q loose XP YP l.row.toRowW d [] (fun f vs => PySem.call f vs) := by
  refine Att.attach_call hn hdf fun w s0 s1 mg mb fa o pm cd doc a vs ns G Y ho hd hcd hmg hobj hints hlen hg => ?_
  have KX := hY w _ Y
  obtain ⟨fd, hb, hF⟩ := F w mg fa _ KX G.T.g hmg
  exact law_callG KX G.T.g G.T.b G.T.builtins G.T.nolimit hg hobj hints (Nat.le_trans hlen hn2) hr hF hb fun H hO hS => hsp _ H a ns hlen hO hS
end EV
end L2
set_option Elab.async false
set_option linter.all false
set_option maxRecDepth 100000
set_option maxHeartbeats 4000000
/-! repr of a list of data. -/
namespace L2
namespace EV
open PySem PySem.Spec PyProof.Rows _root_.EV
/-- v stands for d: data without dicts, or the dict {"a": 1} -/
inductive Sh (K : PySem.W.Frag) (H : Hp) : V → PyData → Prop
  | plain {v : V} {d : PyData} : Dp K H v d → d.hasDict = false → Sh K H v d
  | one {a : Addr} : H a = some (.dK [(Sum.inr "a", V.int 1)]) → Sh K H (.ref a) (.dict [(.str "a", .int 1)])
def Small (d : PyData) : Prop := d.showable = true ∧ d.shown.length ≤ 60 ∧ d.depth ≤ 5
inductive ShAll (K : PySem.W.Frag) (H : Hp) : List V → List PyData → Prop
  | nil : ShAll K H [] []
  | cons {v : V} {vs : List V} {d : PyData} {ds : List PyData} : Sh K H v d → Small d → ShAll K H vs ds → ShAll K H (v :: vs) (d :: ds)
section
variable {X : Cx} {pins : List (Addr × Obj)} {σ : St} {H : Hp} {s : Shared}
theorem sh_reads (I : Inv X pins σ H s) {v : V} {d : PyData} {u : Value} (h : Sh X.K H v d) (r : RelV v u) : ∃ as, Reads s.heap u d as ∧ (d.hasDict = true → sysModules ∉ as) := by
  cases h with
  | plain hd no =>
    obtain ⟨as, q⟩ := Dp.reads I d v u hd r
    exact ⟨as, q, fun z => by rw [no] at z; cases z⟩
  | @one a e =>
    obtain rfl : u = Value.ref a := r
    obtain ⟨_, nsys, vs, kv, o, es, ep, ho, ex, hd, _, pr, _⟩ := (show ObjOk X.prog X.w H s.heap a (.dK [(Sum.inr "a", V.int 1)]) from I.hok a _ e)
    cases kv with
    | @cons _ p _ ps hk kr =>
      cases kr
      obtain ⟨k, v⟩ := p
      obtain ⟨ek, t, ev⟩ := hk
      dsimp only at ek ev
      subst ek ev
      generalize hes : es.toList = l at pr
      cases pr with
      | @cons e1 _ l2 _ k1 k2 k3 =>
        cases k3
        obtain ⟨t2, ek⟩ : ∃ t2, e1.key = Value.str "a" t2 := Value.isStrOf_shape k1
        refine ⟨[a], Reads.dict (as := []) (bs := []) ho ex.1 hd ?_ ?_, fun _ z => ?_⟩
        · rw [hes]
          show ReadsAll s.heap [e1.key] [PyData.str "a"] []
          rw [ek]
          exact ReadsAll.cons (Reads.str _ _) ReadsAll.nil
        · rw [hes]
          show ReadsAll s.heap [e1.val] [PyData.int 1] []
          rw [k2]
          exact ReadsAll.cons (Reads.int _ _) ReadsAll.nil
        · obtain rfl : sysModules = a := by simpa using z
          simp at nsys
theorem sh_all (I : Inv X pins σ H s) : ∀ {vs : List V} {ds : List PyData} {us : List Value}, ShAll X.K H vs ds → Vals vs us →
    ∃ as bs, ReadsAll s.heap us ds as ∧ ReadAtMost s.heap (PyData.depthAll ds) bs ∧ ReprAllK X.prog X.w bs s.heap (PyData.depthAll ds) us (PyData.shownAll ds)
  | _, _, _, .nil, .nil => ⟨[], [], ReadsAll.nil, (fun _ h => nomatch h), by simp only [PyData.shownAll]; exact .nil⟩
  | _, _, _, .cons (d := d) (ds := ds) h sm t, .cons r rt => by
    obtain ⟨as1, q1, hsm⟩ := sh_reads I h r
    obtain ⟨as2, b2, q2, m2, k2⟩ := sh_all I t rt
    obtain ⟨b1, m1, k1⟩ := ReprK.of_reads (prog := X.prog) (w := X.w) q1 sm.1 hsm (Nat.le_trans sm.2.1 (by decide))
    refine ⟨as1 ++ as2, b1 ++ b2, ReadsAll.cons q1 q2, ?_, ?_⟩
    · simp only [PyData.depthAll]
      exact (m1.mono (Nat.le_max_left _ _)).append (m2.mono (Nat.le_max_right _ _))
    · simp only [PyData.depthAll, PyData.shownAll]
      exact .cons ((k1.more fun b hb => List.mem_append_left _ hb).level_le (Nat.le_max_left _ _)) (k2.more_le (fun b hb => List.mem_append_right _ hb) (Nat.le_max_right _ _))
theorem shall_depth {K : PySem.W.Frag} {H : Hp} : ∀ {vs : List V} {ds : List PyData}, ShAll K H vs ds → PyData.depthAll ds ≤ 5 ∧ (∀ t ∈ PyData.shownAll ds, t.length ≤ 60) ∧ (PyData.shownAll ds).length = vs.length
  | _, _, .nil => ⟨by simp only [PyData.depthAll]; omega, by simp [PyData.shownAll], by simp [PyData.shownAll]⟩
  | _, _, .cons h sm t => by
    obtain ⟨h1, h2, h3⟩ := shall_depth t
    refine ⟨by simp only [PyData.depthAll]; have := sm.2.2; omega, ?_, by simp [PyData.shownAll, h3]⟩
    intro t ht
    simp only [PyData.shownAll, List.mem_cons] at ht
    rcases ht with rfl | ht
    · exact sm.2.1
    · exact h2 t ht
theorem sum_le60 : ∀ {ts : List Str}, (∀ t ∈ ts, t.length ≤ 60) → (ts.map (·.length)).sum ≤ 60 * ts.length
  | [], _ => by simp
  | t :: ts, h => by
    have h1 := h t (List.mem_cons_self ..)
    have h2 := sum_le60 (ts := ts) fun t ht => h t (List.mem_cons_of_mem _ ht)
    simp only [List.map_cons, List.sum_cons, List.length_cons]
    omega
/-- repr(l), l a list of some data -/
def rShow (K : PySem.W.Frag) : List V → Hp → VK → Prop := fun xs H Q => ∃ (l : Addr) (v : V) (vs : List V) (ds : List PyData), xs = [.ref l] ∧ H l = some (.lst (v :: vs)) ∧ ShAll K H (v :: vs) ds ∧ vs.length ≤ 1000 ∧
  Q (.str (listText (PyData.shownAll ds))) H
theorem call_show (hgd : X.A.guards = some []) (hu : X.A.units + 64 < cLine) : CallR X (.builtin "repr") (rShow X.K) := by
  intro pins s σ H xs us Q I r h
  obtain ⟨l, v, vs, ds, rfl, e, sh, lz, q⟩ := h
  obtain ⟨u, rfl, ru⟩ := vals1 r
  obtain rfl : u = Value.ref l := ru
  obtain ⟨_, its, n, rv, ho⟩ := (show ObjOk X.prog X.w H s.heap l (.lst (v :: vs)) from I.hok l _ e)
  obtain ⟨as, bs, q1, m1, k1⟩ := sh_all I sh rv
  obtain ⟨dp, sz, ln⟩ := shall_depth sh
  have whole : Reads s.heap (.ref l) (.list ds) (l :: as) := Reads.list ho rfl rfl (by simpa using q1)
  have hna : l ∉ bs := not_mem_of_deeper whole (by simp only [PyData.depth]; omega) m1
  have hz : (listText (PyData.shownAll ds)).length ≤ sizeLine := by
    have h1 := listText_len_le (PyData.shownAll ds)
    have h2 := sum_le60 sz
    rw [ln, List.length_cons] at *
    rw [sizeLine_eq]
    omega
  cases rv with
  | @cons _ u1 _ ut r1 r2 =>
    refine call_repr_slot (by omega) ⟨_, ho, rfl⟩ PySem.F.slot_list_repr.toG ?_
    refine call_list_reprK ho rfl rfl hna (by simpa using k1.length_eq) (fun i y ey => k1.item i y (by simpa using ey)) (A := X.A.in1) hgd (fun b _ => Clear.nil b) ?_ (fun _ _ z => z) (fun h' t tk hk => ⟨_, _, rfl, ?_⟩) hz
    · show X.A.units + 1 + (PyData.depthAll ds + 1) < cLine
      omega
    · exact ⟨.str _, H, I.kept (t' := tk) hk, ⟨_, rfl⟩, q⟩
end
end EV
end L2
set_option Elab.async false
set_option linter.all false
set_option maxRecDepth 100000
set_option maxHeartbeats 4000000
/-! The law's draws. -/
namespace K01
open PySem L2 L2.EV
def top (i : Nat) : Stmt := PySem.Challenge.pw_tornlines_k01_errors.main.body.getD i (.Pass ⟨0, 0, 0, 0⟩)
abbrev sBegun : Stmt := top 12
abbrev sNext : Stmt := top 13
/-! ### data of ints -/
theorem canLay_ints : ∀ ns : List Int, PyData.canLayAll0 (ns.map PyData.int) = true
  | [] => by simp [PyData.canLayAll0]
  | n :: ns => by simp [PyData.canLayAll0, PyData.canLay0, canLay_ints ns]
theorem depth_ints : ∀ ns : List Int, PyData.depthAll (ns.map PyData.int) = 0
  | [] => by simp [PyData.depthAll]
  | n :: ns => by simp [PyData.depthAll, PyData.depth, depth_ints ns]
theorem shaped_ints (ns : List Int) : SeqAt.shaped (.list (ns.map PyData.int)) = true := by
  show (PyData.canLay0 (.list (ns.map PyData.int)) && decide (PyData.depth (.list (ns.map PyData.int)) ≤ 64)) = true
  rw [Bool.and_eq_true]
  refine ⟨by simp only [PyData.canLay0]; exact canLay_ints ns, decide_eq_true ?_⟩
  simp only [PyData.depth, depth_ints]
  omega
theorem dp_ints {K : PySem.W.Frag} {H : Hp} : ∀ ns : List Int, DpAll K H (ns.map V.int) (ns.map PyData.int)
  | [] => .nil
  | n :: ns => .cons (.int n) (dp_ints ns)
theorem dp_list {K : PySem.W.Frag} {H : Hp} {a : Addr} {ns : List Int} (h : H a = some (.lst (ns.map V.int))) : Dp K H (.ref a) (.list (ns.map PyData.int)) := .lst (SqL.of h) (dp_ints ns)
theorem eqv_nil (ns : List Int) : PyData.eqv (.list (ns.map PyData.int)) (.list []) = ns.isEmpty := by
  cases ns <;> simp [PyData.eqv, PyData.eqvAll]
/-! ### the draws' dict -/
def mkv (c l : Addr) (k : Int) : List (Key × V) := [(Sum.inr "cells", .ref c), (Sum.inr "left", .ref l), (Sum.inr "at", .int k)]
theorem n1 : ¬ (("cells" : Str) = "left") := by decide +kernel
theorem n2 : ¬ (("cells" : Str) = "at") := by decide +kernel
theorem n3 : ¬ (("left" : Str) = "at") := by decide +kernel
theorem n1' : ¬ (("left" : Str) = "cells") := by decide +kernel
theorem n2' : ¬ (("at" : Str) = "cells") := by decide +kernel
theorem n3' : ¬ (("at" : Str) = "left") := by decide +kernel
theorem k1 {a b : Str} (h : ¬ a = b) : ¬ ((Sum.inr a : Key) = Sum.inr b) := fun z => h (Sum.inr.inj z)
theorem v_cells (c l : Addr) (k : Int) : valV (mkv c l k) (Sum.inr "cells" : Key) = some (.ref c) := by simp [valV, mkv, List.find?_cons]
theorem v_left (c l : Addr) (k : Int) : valV (mkv c l k) (Sum.inr "left" : Key) = some (.ref l) := by simp [valV, mkv, List.find?_cons, n1]
theorem v_at (c l : Addr) (k : Int) : valV (mkv c l k) (Sum.inr "at" : Key) = some (.int k) := by simp [valV, mkv, List.find?_cons, n2, n3]
theorem p_left (c l l' : Addr) (k : Int) : putK (mkv c l k) (Sum.inr "left" : Key) (.ref l') = mkv c l' k := by simp [putK, mkv, n1, n3']
theorem p_at (c l : Addr) (k k' : Int) : putK (mkv c l k) (Sum.inr "at" : Key) (.int k') = mkv c l k' := by simp [putK, mkv, n2, n3]
theorem mk_merge (c l : Addr) (k : Int) : mergeK [] (mkv c l k) = mkv c l k := by simp [mergeK, putK, mkv, n1, n2, n3]
structure MAt (H : Hp) (m c l : Addr) (k : Int) : Prop where
  hm : H m = some (.dK (mkv c l k))
  hc : ∃ cs : List Int, H c = some (.lst (cs.map V.int)) ∧ cs.length ≤ 1000
  hl : ∃ ls : List Int, H l = some (.lst (ls.map V.int)) ∧ ls.length ≤ 1000
  ne : c ≠ l
  k0 : 0 ≤ k
  k1 : k ≤ 1000000
/-- a drawn number from 0 to n - 1; only the dict and its list of great cells have changed -/
def spNext : Sp := fun vs H Q _ => ∃ (m c l : Addr) (k n : Int), vs = [.ref m, .int n] ∧ MAt H m c l k ∧ 0 < n ∧ n < 1000000 ∧ k < 1000000 ∧
  ∀ (r : Int) (H' : Hp) (l' : Addr) (k' : Int), 0 ≤ r → r < n → k' ≤ k + 1 → MAt H' m c l' k' → (l' = l ∨ H l' = none) → (∀ b o, H b = some o → b ≠ m → b ≠ l → H' b = some o) → Q (.int r) H'
/-- the beginning -/
def spBegun (K : PySem.W.Frag) : Sp := fun vs H Q _ => ∃ (a : Addr) (ns : List Int), vs = [.ref a] ∧ SqL K H a (ns.map V.int) ∧ ns.length ≤ 1000 ∧
  ∀ (m c l : Addr) (H' : Hp), MAt H' m c l 0 → H m = none → H c = none → H l = none → Same H H' → Q (.ref m) H'
structure TxtD (mg : Str → Option Value) : Prop where
  list : mg "list" = none
  int : mg "int" = none
  len : mg "len" = none
theorem same_upd {H : Hp} {p : Addr} {o : HO} (h : H p = none) : Same H (upd H p o) := fun b u e => by
  rw [upd_ne (ne_of_none e h)]
  exact e
theorem MAt.same {H H' : Hp} {m c l : Addr} {k : Int} (M : MAt H m c l k) (s : Same H H') : MAt H' m c l k := by
  obtain ⟨h1, ⟨cs, h2, h3⟩, ⟨ls, h4, h5⟩, h6, h7, h8⟩ := M
  exact ⟨s _ _ h1, ⟨cs, s _ _ h2, h3⟩, ⟨ls, s _ _ h4, h5⟩, h6, h7, h8⟩
theorem MAt.set {H : Hp} {m c l : Addr} {k : Int} {ls : List Int} (M : MAt H m c l k) (hz : ls.length ≤ 1000) : MAt (upd H l (.lst (ls.map V.int))) m c l k := by
  obtain ⟨h1, ⟨cs, h2, h3⟩, ⟨ls0, h4, h5⟩, h6, h7, h8⟩ := M
  have ml : m ≠ l := ne_of h1 h4 (fun z => by cases z)
  exact ⟨by rw [upd_ne ml]; exact h1, ⟨cs, by rw [upd_ne h6]; exact h2, h3⟩, ⟨ls, upd_same, hz⟩, h6, h7, h8⟩
/-- another list of great cells -/
theorem MAt.turn {H : Hp} {m c l p : Addr} {k : Int} {ls : List Int} (M : MAt H m c l k) (hp : H p = none) (hz : ls.length ≤ 1000) : MAt (upd (upd H p (.lst (ls.map V.int))) m (.dK (mkv c p k))) m c p k := by
  obtain ⟨h1, ⟨cs, h2, h3⟩, ⟨ls0, h4, h5⟩, h6, h7, h8⟩ := M
  have mp : p ≠ m := (ne_of_none h1 hp).symm
  have cp : c ≠ p := ne_of_none h2 hp
  have cm : c ≠ m := ne_of h2 h1 (fun z => by cases z)
  exact ⟨upd_same, ⟨cs, by rw [upd_ne cm, upd_ne cp]; exact h2, h3⟩, ⟨ls, by rw [upd_ne mp]; exact upd_same, hz⟩, cp, h7, h8⟩
/-- another counter -/
theorem MAt.count {H : Hp} {m c l : Addr} {k k' : Int} (M : MAt H m c l k) (h0 : 0 ≤ k') (h1' : k' ≤ 1000000) : MAt (upd H m (.dK (mkv c l k'))) m c l k' := by
  obtain ⟨h1, ⟨cs, h2, h3⟩, ⟨ls0, h4, h5⟩, h6, h7, h8⟩ := M
  have lm : l ≠ m := ne_of h4 h1 (fun z => by cases z)
  have cm : c ≠ m := ne_of h2 h1 (fun z => by cases z)
  exact ⟨upd_same, ⟨cs, by rw [upd_ne cm]; exact h2, h3⟩, ⟨ls0, by rw [upd_ne lm]; exact h4, h5⟩, h6, h0, h1'⟩
section
variable {K : PySem.W.Frag} {σ : St} {H : Hp} {m c l : Addr} {k : Int}
theorem rd_left {Q : VK} (h0 : σ[0]? = some (some (.ref m))) (M : MAt H m c l k) (q : Q (.ref l) H) : tDGet (tVar 0) (tC (.str "left")) σ H Q := by
  have z : DGet H m (.str "left") (valV (mkv c l k) (Sum.inr "left" : Key)) := DGet.k (k := Sum.inr "left") M.hm
  rw [v_left] at z
  exact ⟨_, h0, m, _, rfl, z, q⟩
theorem rd_cells {Q : VK} (h0 : σ[0]? = some (some (.ref m))) (M : MAt H m c l k) (q : Q (.ref c) H) : tDGet (tVar 0) (tC (.str "cells")) σ H Q := by
  have z : DGet H m (.str "cells") (valV (mkv c l k) (Sum.inr "cells" : Key)) := DGet.k (k := Sum.inr "cells") M.hm
  rw [v_cells] at z
  exact ⟨_, h0, m, _, rfl, z, q⟩
theorem rd_at {Q : VK} (h0 : σ[0]? = some (some (.ref m))) (M : MAt H m c l k) (q : Q (.int k) H) : tDGet (tVar 0) (tC (.str "at")) σ H Q := by
  have z : DGet H m (.str "at") (valV (mkv c l k) (Sum.inr "at" : Key)) := DGet.k (k := Sum.inr "at") M.hm
  rw [v_at] at z
  exact ⟨_, h0, m, _, rfl, z, q⟩
/-- a list of ints against the empty one -/
theorem ne_empty {Q : Bool → Hp → Prop} {a : Addr} {ls : List Int} (hl : H a = some (.lst (ls.map V.int))) (q : ∀ p, H p = none → Q (!ls.isEmpty) (upd H p (.lst []))) :
    tLst tNil σ H fun y H2 => rNeD K (.ref a) y H2 fun x H' => ∃ k, x = .bl k ∧ Q k H' := by
  refine ⟨by decide, fun p hp => ⟨.list (ls.map PyData.int), .list [], dp_list (same_upd hp _ _ hl), .lst (SqL.of upd_same) .nil, shaped_ints ls, shaped_ints [], _, rfl, ?_⟩⟩
  rw [eqv_nil]
  exact q p hp
theorem cut_one (ls : List Int) : cutV (ls.map V.int) (some 1) none = (ls.drop 1).map V.int := by
  unfold cutV
  have e1 : HT.sIx (ls.map V.int).length 0 (some 1) = min 1 (ls.map V.int).length := HT.sIx_nat _ _ 1
  rw [e1, HT.sIx_none]
  cases ls with
  | nil => rfl
  | cons x r =>
    have e2 : min 1 ((x :: r).map V.int).length = 1 := by simp
    rw [e2]
    show List.take ((x :: r).map V.int).length.pred (r.map V.int) = r.map V.int
    exact List.take_of_length_le (by simp)
end
theorem byAll {P : Int → Prop} {G : Prop} (a : (∀ x, P x) → G) (b : ∀ x, P x) : G := a b
theorem iteF' {b : Bool} {A B : Prop} (h : b = false) (q : B) : if b = true then A else B := by
  rw [h]
  exact iteF q
theorem iteT' {b : Bool} {A B : Prop} (h : b = true) (q : A) : if b = true then A else B := by
  rw [h]
  exact iteT q
theorem seq_while {tc : TT} {tb u : TS} {D : Ends} {σ : St} {H : Hp} (W : Nat → Hp → Prop) (R : Hp → Prop) {j0 : Nat} (h0 : W j0 H) (hr : ∀ H2, R H2 → u D σ H2)
    (turn : (∀ H2, R H2 → u D σ H2) → ∀ j H1, W j H1 → tc σ H1 fun b H2 => if b = true then
      ∃ N : St → Hp → Prop, (∀ σ' H', N σ' H' → ∃ j', j' < j ∧ (σ' = σ ∧ W j' H')) ∧ tb { nx := N, rt := D.rt, bk := u D, ct := N } σ H2 else u D σ H2) :
    tSeq (tWhile tc tb) u D σ H := by
  refine ⟨fun j σ' H' => σ' = σ ∧ W j H', ⟨j0, rfl, h0⟩, ?_⟩
  rintro j σ' H1 ⟨rfl, w⟩
  exact turn hr j H1 w
section
variable {P : Program} {w : World} {K : PySem.W.Frag} {mg : Str → Option Value} {base : Heap}
theorem scN : FnScope ["m", "many", "rest", "k", "cell", "mixed"] ["m", "many"] (defScope sNext) := ⟨rfl, rfl, rfl, by decide +kernel, rfl, by decide +kernel, by decide +kernel⟩
theorem ok_next {f : Addr} {fd : FuncData} (F : Fun K "_law_next" "_law_next" sNext f fd) (T : TxtD mg) : FnOk P w K mg base CX0 1 f fd ["m", "many"] spNext := by
  refine F.ok scN (fun vs H Q E h => ?_) (fun cdv A outer s H vs Q E hr h => ?_)
  · obtain ⟨m, c, l, k, n, rfl, _⟩ := h
    rfl
  · obtain ⟨m, c, l, k, n, rfl, M, n0, n1, kk, q⟩ := h
    have hu := hu_of hr
    have hu2 := hr.units
    refine ⟨_, pss_cons (ps_while PassesOwn.never
        (pw_and (pt_cmpR (op_neD hu2) (pe_dget hu (pv 0) pe_str (fun _ _ => rfl)) (pe_lst pa_nil) (nomark _))
          (pw_and1 (pt_cmpR op_eq (pe_ix ix_list (pe_dget hu (pv 0) pe_str (fun _ _ => rfl)) pe_int (fun _ _ => rfl)) pe_int (nomark _)))).pt
        (pss_one (ps_dput hu (pv 0) pe_str (pe_slice sl_list (pe_dget hu (pv 0) pe_str (fun _ _ => rfl)) (po_some pe_int) po_none) rfl)))
      (pss_cons (ps_if (pt_cmpR (op_neD hu2) (pe_dget hu (pv 0) pe_str (fun _ _ => rfl)) (pe_lst pa_nil) (nomark _))
        (pss_cons (ps_set (i := 2) scN.nd rfl (Or.inl rfl) (pe_callTy call_int1 (by rfl) T.int (by decide +kernel) (pa_cons (pe_ix ix_list (pe_dget hu (pv 0) pe_str (fun _ _ => rfl)) pe_int (fun _ _ => rfl)) pa_nil)))
        (pss_cons (ps_asg (pe_op op_fdiv (pv 2) (pv 1)) (pg_sub (pe_dget hu (pv 0) pe_str (fun _ _ => rfl)) pe_int set_list))
        (pss_one (ps_ret (pe_op op_mod (pv 2) (pv 1)))))) pss_nil)
      (pss_cons (ps_set (i := 3) scN.nd rfl (Or.inl rfl) (pe_op op_add (pe_dget hu (pv 0) pe_str (fun _ _ => rfl)) pe_int))
      (pss_cons (ps_dput hu (pv 0) pe_str (pv 3) rfl)
      (pss_cons (ps_set (i := 4) scN.nd rfl (Or.inl rfl) (pe_ifExp (pt_cmpR (op_neD hu2) (pe_dget hu (pv 0) pe_str (fun _ _ => rfl)) (pe_lst pa_nil) (nomark _))
        (pe_ix ix_list (pe_dget hu (pv 0) pe_str (fun _ _ => rfl))
          (pe_op op_mod (pe_callTy call_int1 (by rfl) T.int (by decide +kernel) (pa_cons (pv 3) pa_nil)) (pe_callB call_len_seq (by rfl) T.len PySem.boot_len (pa_cons (pe_dget hu (pv 0) pe_str (fun _ _ => rfl)) pa_nil))) (fun _ _ => rfl))
        pe_int))
      (pss_cons (ps_set (i := 5) scN.nd rfl (Or.inl rfl) (pe_op op_mul (pe_callTy call_int1 (by rfl) T.int (by decide +kernel) (pa_cons
        (pe_op op_add (pe_op op_add (pe_op op_mod (pe_callTy call_int1 (by rfl) T.int (by decide +kernel) (pa_cons (pv 4) pa_nil)) pe_int) (pe_op op_mul pe_int (pv 3))) (pe_op op_mul (pe_op op_mul pe_int (pv 3)) (pv 3))) pa_nil)) pe_int))
      (pss_cons (ps_set (i := 5) scN.nd rfl (Or.inl rfl) (pe_op op_mul (pe_callTy call_int1 (by rfl) T.int (by decide +kernel) (pa_cons
        (pe_op op_add (pe_op op_mod (pe_callTy call_int1 (by rfl) T.int (by decide +kernel) (pa_cons (pv 5) pa_nil)) pe_int) (pe_op op_mul pe_int (pv 3))) pa_nil)) pe_int))
      (pss_one (ps_ret (pe_op op_mod (pe_callTy call_int1 (by rfl) T.int (by decide +kernel) (pa_cons
        (pe_op op_fdiv (pe_op op_mod (pe_callTy call_int1 (by rfl) T.int (by decide +kernel) (pa_cons (pv 5) pa_nil)) pe_int) pe_int) pa_nil)) (pv 1)))))))))), ?_⟩
    obtain ⟨ls0, hl0, ll0⟩ := id M.hl
    refine seq_while (fun j H1 => ∃ (l1 : Addr) (ls : List Int), MAt H1 m c l1 k ∧ H1 l1 = some (.lst (ls.map V.int)) ∧ ls.length = j ∧ (l1 = l ∨ H l1 = none) ∧ (∀ b o, H b = some o → b ≠ m → b ≠ l → H1 b = some o) ∧ ∃ o, H1 l = some o)
      (fun H1 => ∃ (l1 : Addr) (ls : List Int), MAt H1 m c l1 k ∧ H1 l1 = some (.lst (ls.map V.int)) ∧ (l1 = l ∨ H l1 = none) ∧ (∀ b o, H b = some o → b ≠ m → b ≠ l → H1 b = some o))
      ⟨l, ls0, M, hl0, rfl, .inl rfl, fun b o e _ _ => e, _, hl0⟩ ?_ ?_
    · rintro H1 ⟨l1, ls, M1, hl, fl, kp⟩
      refine rd_left rfl M1 (ne_empty hl fun p hp => ?_)
      have M2 := MAt.same M1 (same_upd (o := .lst []) hp)
      have hl2 : upd H1 p (.lst []) l1 = some (.lst (ls.map V.int)) := same_upd hp _ _ hl
      cases ls with
      | cons x r =>
        refine iteT' rfl ?_
        refine rd_left rfl M2 ?_
        refine ⟨l1, _, 0, .int x, rfl, rfl, SqL.of hl2, atI_nat (j := 0) rfl, .inl ⟨x, rfl, ?_⟩⟩
        refine ⟨_, rfl, _, rfl, x, n, rfl, rfl, ⟨n0, by omega⟩, ?_⟩
        refine rd_left rfl M2 ?_
        refine ⟨l1, _, 0, 0, rfl, rfl, hl2, by simp [ixN], ?_⟩
        refine ⟨_, rfl, _, rfl, x, n, rfl, rfl, n0, ?_⟩
        show Q (.int (x % n)) _
        have hz : ((x / n) :: r).length ≤ 1000 := by
          obtain ⟨ls', e1, e2⟩ := M2.hl
          rw [hl2] at e1
          have e3 := congrArg List.length (HO.lst.inj (Option.some.inj e1))
          simp only [List.length_map] at e3
          rw [List.length_cons] at e3 ⊢
          omega
        refine q (x % n) _ l1 k (Int.emod_nonneg _ (by omega)) (Int.emod_lt_of_pos _ n0) (by omega) (M2.set hz) fl fun b o e h1 h2 => ?_
        have h3 : b ≠ l1 := by
          rcases fl with z | z
          · rw [z]
            exact h2
          · exact ne_of_none e z
        rw [upd_ne h3]
        exact same_upd hp _ _ (kp b o e h1 h2)
      | nil =>
        refine iteF' rfl ?_
        refine rd_at rfl M2 ⟨k, 1, rfl, rfl, ?_⟩
        refine ⟨_, rfl, _, rfl, m, _, rfl, DPut.k (k := Sum.inr "at") M2.hm (small1000 (by show 3 ≤ 1000; decide)), ?_⟩
        rw [p_at]
        have M3 := M2.count (k' := k + 1) (by have := M2.k0; omega) (by omega)
        obtain ⟨cs, hc, lc⟩ := id M3.hc
        have k0 := M.k0
        have kp3 : ∀ b o, H b = some o → b ≠ m → b ≠ l → upd (upd H1 p (.lst [])) m (.dK (mkv c l1 (k + 1))) b = some o := fun b o e h1 h2 => by
          rw [upd_ne h1]
          exact same_upd hp _ _ (kp b o e h1 h2)
        refine rd_cells rfl M3 (ne_empty hc fun p3 hp3 => ?_)
        have M4 := MAt.same M3 (same_upd (o := .lst []) hp3)
        have hc4 := same_upd (o := .lst []) hp3 _ _ hc
        have kp4 : ∀ b o, H b = some o → b ≠ m → b ≠ l → upd (upd (upd H1 p (.lst [])) m (.dK (mkv c l1 (k + 1)))) p3 (.lst []) b = some o := fun b o e h1 h2 => same_upd hp3 _ _ (kp3 b o e h1 h2)
        apply byAll
        case a =>
          intro fin
          by_cases he : cs.isEmpty = true
          · refine iteF' (by rw [he]; rfl) ?_
            generalize (3 : Int) = x
            exact fin x
          · refine iteT' (by simpa using he) ?_
            refine rd_cells rfl M4 ?_
            have ne0 : 0 < cs.length := List.length_pos_iff.mpr (fun z => he (by rw [z]; rfl))
            have pos : (0 : Int) < ((cs.map V.int).length : Nat) := by
              simp only [List.length_map]
              omega
            refine ⟨_, rfl, .inl ⟨k + 1, rfl, ?_⟩⟩
            refine rd_cells rfl M4 ?_
            refine ⟨c, _, rfl, .inl (SqL.of hc4), k + 1, _, rfl, rfl, pos, ?_⟩
            have i0 := Int.emod_nonneg (k + 1) (Int.ne_of_gt pos)
            have i1 := Int.emod_lt_of_pos (k + 1) pos
            obtain ⟨j, hj⟩ := Int.eq_ofNat_of_zero_le i0
            have jl : j < cs.length := by
              simp only [List.length_map] at i1 hj
              omega
            obtain ⟨x, hx⟩ : ∃ x : Int, cs[j]? = some x := ⟨cs[j], List.getElem?_eq_getElem jl⟩
            refine ⟨c, _, _, V.int x, rfl, rfl, SqL.of hc4, ?_, ?_⟩
            · rw [hj]
              refine atI_nat ?_
              rw [List.getElem?_map, hx]
              rfl
            · exact fin x
        case b =>
          intro x
          have k2 : -(2 ^ 64) < k + 1 ∧ k + 1 < 2 ^ 64 := ⟨by omega, by omega⟩
          refine ⟨_, rfl, .inl ⟨x, rfl, _, _, rfl, rfl, (by show (0 : Int) < 2147483629; decide), _, rfl, _, _, rfl, rfl, .inl ⟨by decide, by decide⟩, _, _, rfl, rfl, _, rfl, _, _, rfl, rfl, .inl ⟨by decide, by decide⟩,
            _, rfl, _, _, rfl, rfl, .inr k2, _, _, rfl, rfl, .inl ⟨_, rfl, _, _, rfl, rfl, .inr ⟨by decide, by decide⟩, ?_⟩⟩⟩
          refine ⟨_, rfl, .inl ⟨_, rfl, _, _, rfl, rfl, (by show (0 : Int) < 2147483647; decide), _, rfl, _, _, rfl, rfl, .inl ⟨by decide, by decide⟩, _, _, rfl, rfl, .inl ⟨_, rfl, _, _, rfl, rfl, .inr ⟨by decide, by decide⟩, ?_⟩⟩⟩
          refine ⟨_, rfl, .inl ⟨_, rfl, _, _, rfl, rfl, (by show (0 : Int) < 2147483587; decide), _, _, rfl, rfl, ⟨by decide, by decide⟩, .inl ⟨_, rfl, _, rfl, _, _, rfl, rfl, n0, ?_⟩⟩⟩
          exact q _ _ l1 (k + 1) (Int.emod_nonneg _ (by omega)) (Int.emod_lt_of_pos _ n0) (by omega) M4 fl kp4
    · rintro out j H1 ⟨l1, ls, M1, hl, lj, fl, kp, lo⟩
      refine rd_left rfl M1 (ne_empty hl fun p hp => ?_)
      have M2 := MAt.same M1 (same_upd (o := .lst []) hp)
      have hl2 : upd H1 p (.lst []) l1 = some (.lst (ls.map V.int)) := same_upd hp _ _ hl
      have kp2 : ∀ b o, H b = some o → b ≠ m → b ≠ l → upd H1 p (.lst []) b = some o := fun b o e h1 h2 => same_upd hp _ _ (kp b o e h1 h2)
      have lo2 : ∃ o, upd H1 p (.lst []) l = some o := lo.elim fun o e => ⟨o, same_upd hp _ _ e⟩
      cases ls with
      | nil =>
        refine iteF' rfl (iteF' rfl ?_)
        exact out _ ⟨l1, [], M2, hl2, fl, kp2⟩
      | cons x r =>
        refine iteT' rfl (rd_left rfl M2 ⟨l1, _, 0, .int x, rfl, rfl, SqL.of hl2, atI_nat (j := 0) rfl, rfl, _, rfl, ?_⟩)
        refine ite2 (fun z => ?_) (fun z => ?_)
        · refine ⟨_, fun _ _ z => z, ?_⟩
          refine rd_left rfl M2 ⟨1, rfl, l1, _, rfl, SqL.of hl2, fun p2 hp2 => ?_⟩
          have M3 : MAt (upd (upd H1 p (.lst [])) p2 (.lst (cutV ((x :: r).map V.int) (some 1) none))) m c l1 k := MAt.same M2 (same_upd hp2)
          refine ⟨_, rfl, m, _, rfl, DPut.k (k := Sum.inr "left") M3.hm (small1000 (by show 3 ≤ 1000; decide)), ?_⟩
          rw [p_left, cut_one]
          have hz : ((x :: r).drop 1).length ≤ 1000 := by
            obtain ⟨ls', e1, e2⟩ := M2.hl
            rw [hl2] at e1
            have e3 := congrArg List.length (HO.lst.inj (Option.some.inj e1))
            simp only [List.length_map] at e3
            rw [List.length_cons] at e3
            simp only [List.drop_succ_cons, List.drop_zero]
            omega
          have mp : p2 ≠ m := (ne_of_none M2.hm hp2).symm
          refine ⟨r.length, by rw [← lj]; simp, rfl, p2, r, M2.turn hp2 hz, by rw [upd_ne mp]; exact upd_same, rfl, .inr ?_, fun b o e h1 h2 => ?_, ?_⟩
          · cases q0 : H p2 with
            | none => rfl
            | some o =>
              have a2 : p2 ≠ l := by
                obtain ⟨o, e⟩ := lo2
                exact (ne_of_none e hp2).symm
              rw [kp2 p2 o q0 mp a2] at hp2
              cases hp2
          · rw [upd_ne h1]
            exact same_upd hp2 _ _ (kp2 b o e h1 h2)
          · obtain ⟨o, e⟩ := lo2
            refine ⟨o, ?_⟩
            by_cases lm : l = m
            · subst lm
              rw [M.hm] at hl0
              cases hl0
            · rw [upd_ne lm]
              exact same_upd hp2 _ _ e
        · exact out _ ⟨l1, x :: r, M2, hl2, fl, kp2⟩
theorem scB : FnScope ["script", "cell"] ["script"] (defScope sBegun) := ⟨rfl, rfl, rfl, by decide +kernel, rfl, by decide +kernel, by decide +kernel⟩
theorem ok_begun {f : Addr} {fd : FuncData} (F : Fun K "_law_begun" "_law_begun" sBegun f fd) (T : TxtD mg) : FnOk P w K mg base CX0 1 f fd ["script"] (spBegun K) := by
  refine F.ok scB (fun vs H Q E h => ?_) (fun cdv A outer s H vs Q E hr h => ?_)
  · obtain ⟨a, ns, rfl, _⟩ := h
    rfl
  · obtain ⟨a, ns, rfl, hS, hl, q⟩ := h
    refine ⟨_, pss_one (ps_ret (pe_disp (pps_cons pe_str (pe_callTy call_list_of (by rfl) T.list (by decide +kernel) (pa_cons (pv 0) pa_nil))
      (pps_cons pe_str (pe_lc (own := [("cell", 1)]) (g := gName 1) rfl scB.nd (pi_list (pv 0)) (blkOk_by (N := ["script", "cell"]) (sc := defScope sBegun) (by decide +kernel))
        (fun _ _ _ _ _ => pg_name (i := 1) scB.nd rfl (Or.inl rfl)) (fun _ _ _ _ _ => pts_one (pt_cmpR op_ge (pv 1) (pe_op op_pow pe_int pe_int) (nomark _))) (fun _ _ _ _ _ => pv 1))
      (pps_cons pe_str pe_int pps_nil))) rfl rfl (by simp) (by decide))), ?_⟩
    intro m hm
    have s1 : Same H (upd H m (.dK [])) := same_upd hm
    refine ⟨_, rfl, a, ns.map V.int, rfl, .inl (s1.seq hS), fun c hc => ?_⟩
    have s2 := s1.trans (same_upd (o := .lst (ns.map V.int)) hc)
    refine ⟨_, rfl, a, rfl, ⟨_, s2.seq hS⟩, fun l hl0 => ?_⟩
    have mc : m ≠ c := ne_of_none upd_same hc
    have hm2 : upd (upd H m (.dK [])) c (.lst (ns.map V.int)) m = some (.dK []) := by
      rw [upd_ne mc]
      exact upd_same
    have ml : m ≠ l := ne_of_none hm2 hl0
    have cl : c ≠ l := ne_of_none (upd_same) hl0
    refine lc_list (K := K) (a := a) (xs := ns.map V.int) (fun i H' => ∃ acc : List Int, H' l = some (.lst (acc.map V.int)) ∧ acc.length ≤ i ∧ ∀ b o, upd (upd H m (.dK [])) c (.lst (ns.map V.int)) b = some o → H' b = some o)
      ⟨[], upd_same, Nat.le_refl _, fun b o e => same_upd hl0 _ _ e⟩ (fun i H' _ ⟨acc, _, _, k⟩ => Same.seq (s2.trans k) hS) ?_ ?_
    · rintro i x H' hi ⟨acc, ha, la, kp⟩
      obtain ⟨z, rfl⟩ : ∃ z, x = V.int z := by
        rw [List.getElem?_map] at hi
        cases e : ns[i]? with
        | none =>
          rw [e] at hi
          cases hi
        | some z =>
          rw [e] at hi
          exact ⟨z, (Option.some.inj hi).symm⟩
      have il : i < ns.length := by
        have := (List.getElem?_eq_some_iff.mp hi).1
        simpa using this
      refine ⟨rfl, _, rfl, 10, 18, rfl, rfl, ⟨by decide, by decide, by decide⟩, _, _, rfl, rfl, _, rfl, ?_⟩
      refine ite2 (fun _ => ⟨_, rfl, acc.map V.int, ha, ?_, acc ++ [z], ?_, ?_, fun b o e => ?_⟩) (fun _ => ⟨acc, ha, Nat.le_succ_of_le la, kp⟩)
      · rw [List.length_map]
        exact small1000 (by omega)
      · rw [List.map_append]
        exact upd_same
      · simp only [List.length_append, List.length_cons, List.length_nil]
        omega
      · rw [upd_ne (ne_of_none e hl0)]
        exact kp b o e
    · rintro H' ⟨acc, ha, la, kp⟩
      rw [List.length_map] at la
      refine ⟨kp _ _ hm2, mkv c l 0, rfl, (by show 3 ≤ 15; decide), ?_⟩
      rw [mk_merge]
      have lm : l ≠ m := ml.symm
      have cm : c ≠ m := mc.symm
      refine q m c l _ ⟨upd_same, ⟨ns, by rw [upd_ne cm]; exact kp _ _ upd_same, hl⟩, ⟨acc, by rw [upd_ne lm]; exact ha, by omega⟩, cl, by decide, by decide⟩ hm (s1.free hc) (s2.free hl0) fun b o e => ?_
      rw [upd_ne (ne_of_none e hm)]
      exact kp _ _ (s2 _ _ e)
end
end K01
set_option Elab.async false
set_option linter.all false
set_option maxRecDepth 100000
set_option maxHeartbeats 4000000
/-! The nine classes: their __init__, message. -/
namespace K01
open PySem L2 L2.EV
/-! ### the arguments -/
mutual
theorem dp_same {K : PySem.W.Frag} {H H' : Hp} (s : Same H H') : ∀ (d : PyData) (v : V), Dp K H v d → Dp K H' v d
  | .none, _, h => by cases h; exact .non
  | .bool b, _, h => by cases h; exact .bl b
  | .int i, _, h => by cases h; exact .int i
  | .str x, _, h => by cases h; exact .str x
  | .list ds, _, h => by
    cases h with
    | lst hs ha => exact .lst (s.seq hs) (dpall_same s ds _ ha)
  | .tuple ds, _, h => by
    cases h with
    | tup hs ha =>
      refine .tup ?_ (dpall_same s ds _ ha)
      rcases hs with (q | ⟨o, q⟩) | q
      · exact .inl (.inl (s _ _ q))
      · exact .inl (.inr ⟨o, s _ _ q⟩)
      · exact .inr q
  | .dict _, _, h => by cases h
theorem dpall_same {K : PySem.W.Frag} {H H' : Hp} (s : Same H H') : ∀ (ds : List PyData) (vs : List V), DpAll K H vs ds → DpAll K H' vs ds
  | [], _, h => by cases h; exact .nil
  | d :: ds, _, h => by
    cases h with
    | cons h1 h2 => exact .cons (dp_same s d _ h1) (dpall_same s ds _ h2)
end
/-- what may be handed to an error, and the data that it is -/
inductive Arg (K : PySem.W.Frag) (H : Hp) : V → PyData → Prop
  | non : Arg K H .non .none
  | bl (b : Bool) : Arg K H (.bl b) (.bool b)
  | int (i : Int) : Arg K H (.int i) (.int i)
  | str (x : Str) : Arg K H (.str x) (.str x)
  | lst {a : Addr} {xs : List V} {ds : List PyData} : H a = some (.lst xs) → DpAll K H xs ds → PyData.hasDict (.list ds) = false → Arg K H (.ref a) (.list ds)
  | tup {a : Addr} {xs : List V} {ds : List PyData} : H a = some (.tup xs) → DpAll K H xs ds → PyData.hasDict (.tuple ds) = false → Arg K H (.ref a) (.tuple ds)
  | dct {a : Addr} : H a = some (.dK [(Sum.inr "a", V.int 1)]) → Arg K H (.ref a) (.dict [(.str "a", .int 1)])
theorem Arg.same {K : PySem.W.Frag} {H H' : Hp} {v : V} {d : PyData} (h : Arg K H v d) (s : Same H H') : Arg K H' v d := by
  cases h with
  | non => exact .non
  | bl b => exact .bl b
  | int i => exact .int i
  | str x => exact .str x
  | lst e ha no => exact .lst (s _ _ e) (dpall_same s _ _ ha) no
  | tup e ha no => exact .tup (s _ _ e) (dpall_same s _ _ ha) no
  | dct e => exact .dct (s _ _ e)
theorem Arg.ty {K : PySem.W.Frag} {H : Hp} {v : V} {d : PyData} (h : Arg K H v d) : ∃ (t : Value) (b : Bool), TyX K H v t ∧ PySem.W.kitOne K t (.type "str") = some b := by
  cases h with
  | non => exact ⟨_, _, .base .non, kit_ty (r := false) (by decide +kernel)⟩
  | bl b => exact ⟨_, _, .base (.bl b), kit_ty (r := false) (by decide +kernel)⟩
  | int i => exact ⟨_, _, .base (.int i), kit_ty (r := false) (by decide +kernel)⟩
  | str x => exact ⟨_, _, .base (.str x), kit_ty (r := true) (by decide +kernel)⟩
  | lst e _ _ => exact ⟨_, _, .base (.lst e), kit_ty (r := false) (by decide +kernel)⟩
  | tup e _ _ => exact ⟨_, _, .base (.tup e), kit_ty (r := false) (by decide +kernel)⟩
  | dct e => exact ⟨_, _, .base (.dK e), kit_ty (r := false) (by decide +kernel)⟩
theorem Arg.sh {K : PySem.W.Frag} {H : Hp} {v : V} {d : PyData} (h : Arg K H v d) : Sh K H v d := by
  cases h with
  | non => exact .plain .non rfl
  | bl b => exact .plain (.bl b) rfl
  | int i => exact .plain (.int i) rfl
  | str x => exact .plain (.str x) rfl
  | lst e ha no => exact .plain (.lst (SqL.of e) ha) no
  | tup e ha no => exact .plain (.tup (SqT.of e) ha) no
  | dct e => exact .one e
/-! ### promises -/
def spOne (C : Addr) (f : Str) : Sp := fun vs H Q _ => ∃ (a : Addr) (x : V), vs = [.ref a, x] ∧ H a = some (exo a C none) ∧
  ∀ dx, H dx = none → dx ≠ a → Q .non (upd (upd H dx (exd dx [(f, x)])) a (exo a C (some dx)))
def spTwo (C : Addr) (f g : Str) : Sp := fun vs H Q _ => ∃ (a : Addr) (x y : V), vs = [.ref a, x, y] ∧ H a = some (exo a C none) ∧
  ∀ dx, H dx = none → dx ≠ a → Q .non (upd (upd (upd H dx (exd dx [(f, x)])) a (exo a C (some dx))) dx (exd dx [(g, y), (f, x)]))
def spNo (K : PySem.W.Frag) (C : Addr) : Sp := fun vs H Q _ => ∃ (a : Addr) (x : V) (d : PyData), vs = [.ref a, x] ∧ H a = some (exo a C none) ∧ Arg K H x d ∧ Q .non H
def spMsg (K : PySem.W.Frag) : Sp := fun vs H Q _ => ∃ (x : V) (d : PyData), vs = [x] ∧ Arg K H x d ∧ ∀ v, Q v H
/-- what is asked of a built-in base, for B.__init__(self, ..) -/
structure BI (K : PySem.W.Frag) (mg : Str → Option Value) (nB : Str) (B initId : String) : Prop where
  mg : mg nB = none
  bt : bootBuiltins nB = some (.type B)
  ty : typeOf (.type B) = pure (.type "type")
  vV : PySem.W.findCls K (.type B) (.type "type") "__init__" = some (.val (.builtin initId))
  st : Manifest.isStub B = false
abbrev sMsg : Stmt := top 1
structure TxtM (mg : Str → Option Value) : Prop where
  isi : mg "isinstance" = none
  str : mg "str" = none
section
variable {P : Program} {w : World} {K : PySem.W.Frag} {mg : Str → Option Value} {base : Heap}
theorem scM : FnScope ["text"] ["text"] (defScope sMsg) := ⟨rfl, rfl, rfl, by decide +kernel, rfl, by decide +kernel, by decide +kernel⟩
theorem ok_msg {f : Addr} {fd : FuncData} (F : Fun K "message" "message" sMsg f fd) (T : TxtM mg) : FnOk P w K mg base CX0 1 f fd ["text"] (spMsg K) := by
  refine F.ok scM (fun vs H Q E h => ?_) (fun cdv A outer s H vs Q E hr h => ?_)
  · obtain ⟨x, d, rfl, _⟩ := h
    rfl
  · obtain ⟨x, d, rfl, ar, q⟩ := h
    refine ⟨_, pss_cons (ps_if (pt_val (pe_callB call_isi (by rfl) T.isi PyProof.Rows.boot_isinstance (pa_cons (pv 0) (pa_cons (pe_bltn (v := .ty "str") (by rfl) T.str (by decide +kernel) rfl) pa_nil)))) (pss_one (ps_ret (pv 0))) pss_nil) (pss_one (ps_ret pe_str)), ?_⟩
    obtain ⟨t, b, ty, kt⟩ := ar.ty
    refine ⟨_, rfl, x, .ty "str", t, .type "str", b, rfl, .ty "str", ty, kt, b, rfl, ?_⟩
    cases b with
    | true => exact iteT ⟨_, rfl, q _⟩
    | false => exact iteF (q _)
abbrev sBadFraming : Stmt := inClass (top 2) 0
theorem scBadFraming : FnScope ["self", "number"] ["self", "number"] (defScope sBadFraming) := ⟨rfl, rfl, rfl, by decide +kernel, rfl, by decide +kernel, by decide +kernel⟩
theorem ok_BadFraming {f C : Addr} {fd : FuncData} (F : Fun K "__init__" "BadFraming.__init__" sBadFraming f fd) (T : OxC K C "ValueError" "ValueError.__new__" "ValueError.__init__" [.type "ValueError", .type "Exception", .type "BaseException", .type "object"]) (I : BI K mg "ValueError" "ValueError" "ValueError.__init__")
    (n0 : PySem.W.findIn K (.ref C) "number" = some none) : FnOk P w K mg base CX0 1 f fd ["self", "number"] (spOne C "number") := by
  refine F.ok scBadFraming (fun vs H Q E h => ?_) (fun cdv A outer s H vs Q E hr h => ?_)
  · obtain ⟨a, x, rfl, _⟩ := h
    rfl
  · obtain ⟨a, x, rfl, e, q⟩ := h
    refine ⟨_, pss_cons (ps_expr (pe_bin (newId := "ValueError.__new__") (bm := [.type "ValueError", .type "Exception", .type "BaseException", .type "object"]) (by rfl) I.mg I.bt I.ty I.vV I.st (pa_cons (pv 0) (pa_cons pe_str pa_nil)) rfl)) (pss_one (ps_put (B := "ValueError") (newId := "ValueError.__new__") (initId := "ValueError.__init__") (bm := [.type "ValueError", .type "Exception", .type "BaseException", .type "object"]) (pv 0) (pv 1) rfl)), ?_⟩
    exact ⟨_, rfl, a, C, _, rfl, by decide, T, e, _, rfl, _, rfl, a, C, rfl, T, n0, .inl ⟨e, fun dx hn ne => q dx hn ne⟩⟩
abbrev sBadReader : Stmt := inClass (top 3) 0
theorem scBadReader : FnScope ["self", "part", "number"] ["self", "part", "number"] (defScope sBadReader) := ⟨rfl, rfl, rfl, by decide +kernel, rfl, by decide +kernel, by decide +kernel⟩
theorem ok_BadReader {f C : Addr} {fd : FuncData} (F : Fun K "__init__" "BadReader.__init__" sBadReader f fd) (T : OxC K C "ValueError" "ValueError.__new__" "ValueError.__init__" [.type "ValueError", .type "Exception", .type "BaseException", .type "object"]) (I : BI K mg "ValueError" "ValueError" "ValueError.__init__")
    (n0 : PySem.W.findIn K (.ref C) "part" = some none) (n1 : PySem.W.findIn K (.ref C) "number" = some none) : FnOk P w K mg base CX0 1 f fd ["self", "part", "number"] (spTwo C "part" "number") := by
  refine F.ok scBadReader (fun vs H Q E h => ?_) (fun cdv A outer s H vs Q E hr h => ?_)
  · obtain ⟨a, x, y, rfl, _⟩ := h
    rfl
  · obtain ⟨a, x, y, rfl, e, q⟩ := h
    refine ⟨_, pss_cons (ps_expr (pe_bin (newId := "ValueError.__new__") (bm := [.type "ValueError", .type "Exception", .type "BaseException", .type "object"]) (by rfl) I.mg I.bt I.ty I.vV I.st (pa_cons (pv 0) (pa_cons pe_str pa_nil)) rfl)) (pss_cons (ps_put (B := "ValueError") (newId := "ValueError.__new__") (initId := "ValueError.__init__") (bm := [.type "ValueError", .type "Exception", .type "BaseException", .type "object"]) (pv 0) (pv 1) rfl) (pss_one (ps_put (B := "ValueError") (newId := "ValueError.__new__") (initId := "ValueError.__init__") (bm := [.type "ValueError", .type "Exception", .type "BaseException", .type "object"]) (pv 0) (pv 2) rfl))), ?_⟩
    exact ⟨_, rfl, a, C, _, rfl, by decide, T, e, _, rfl, _, rfl, a, C, rfl, T, n0, .inl ⟨e, fun dx hn ne => ⟨_, rfl, _, rfl, a, C, rfl, T, n1, .inr ⟨dx, _, upd_same, by rw [upd_ne ne]; exact upd_same, by show 1 ≤ 900; decide, q dx hn ne⟩⟩⟩⟩
abbrev sBadWeaving : Stmt := inClass (top 4) 0
theorem scBadWeaving : FnScope ["self", "number"] ["self", "number"] (defScope sBadWeaving) := ⟨rfl, rfl, rfl, by decide +kernel, rfl, by decide +kernel, by decide +kernel⟩
theorem ok_BadWeaving {f C : Addr} {fd : FuncData} (F : Fun K "__init__" "BadWeaving.__init__" sBadWeaving f fd) (T : OxC K C "ValueError" "ValueError.__new__" "ValueError.__init__" [.type "ValueError", .type "Exception", .type "BaseException", .type "object"]) (I : BI K mg "ValueError" "ValueError" "ValueError.__init__")
    (n0 : PySem.W.findIn K (.ref C) "number" = some none) : FnOk P w K mg base CX0 1 f fd ["self", "number"] (spOne C "number") := by
  refine F.ok scBadWeaving (fun vs H Q E h => ?_) (fun cdv A outer s H vs Q E hr h => ?_)
  · obtain ⟨a, x, rfl, _⟩ := h
    rfl
  · obtain ⟨a, x, rfl, e, q⟩ := h
    refine ⟨_, pss_cons (ps_expr (pe_bin (newId := "ValueError.__new__") (bm := [.type "ValueError", .type "Exception", .type "BaseException", .type "object"]) (by rfl) I.mg I.bt I.ty I.vV I.st (pa_cons (pv 0) (pa_cons pe_str pa_nil)) rfl)) (pss_one (ps_put (B := "ValueError") (newId := "ValueError.__new__") (initId := "ValueError.__init__") (bm := [.type "ValueError", .type "Exception", .type "BaseException", .type "object"]) (pv 0) (pv 1) rfl)), ?_⟩
    exact ⟨_, rfl, a, C, _, rfl, by decide, T, e, _, rfl, _, rfl, a, C, rfl, T, n0, .inl ⟨e, fun dx hn ne => q dx hn ne⟩⟩
abbrev sBadPaper : Stmt := inClass (top 5) 0
theorem scBadPaper : FnScope ["self", "part"] ["self", "part"] (defScope sBadPaper) := ⟨rfl, rfl, rfl, by decide +kernel, rfl, by decide +kernel, by decide +kernel⟩
theorem ok_BadPaper {f C : Addr} {fd : FuncData} (F : Fun K "__init__" "BadPaper.__init__" sBadPaper f fd) (T : OxC K C "ValueError" "ValueError.__new__" "ValueError.__init__" [.type "ValueError", .type "Exception", .type "BaseException", .type "object"]) (I : BI K mg "ValueError" "ValueError" "ValueError.__init__")
    (n0 : PySem.W.findIn K (.ref C) "part" = some none) : FnOk P w K mg base CX0 1 f fd ["self", "part"] (spOne C "part") := by
  refine F.ok scBadPaper (fun vs H Q E h => ?_) (fun cdv A outer s H vs Q E hr h => ?_)
  · obtain ⟨a, x, rfl, _⟩ := h
    rfl
  · obtain ⟨a, x, rfl, e, q⟩ := h
    refine ⟨_, pss_cons (ps_expr (pe_bin (newId := "ValueError.__new__") (bm := [.type "ValueError", .type "Exception", .type "BaseException", .type "object"]) (by rfl) I.mg I.bt I.ty I.vV I.st (pa_cons (pv 0) (pa_cons pe_str pa_nil)) rfl)) (pss_one (ps_put (B := "ValueError") (newId := "ValueError.__new__") (initId := "ValueError.__init__") (bm := [.type "ValueError", .type "Exception", .type "BaseException", .type "object"]) (pv 0) (pv 1) rfl)), ?_⟩
    exact ⟨_, rfl, a, C, _, rfl, by decide, T, e, _, rfl, _, rfl, a, C, rfl, T, n0, .inl ⟨e, fun dx hn ne => q dx hn ne⟩⟩
abbrev sBadText : Stmt := inClass (top 6) 0
theorem scBadText : FnScope ["self", "line", "word"] ["self", "line", "word"] (defScope sBadText) := ⟨rfl, rfl, rfl, by decide +kernel, rfl, by decide +kernel, by decide +kernel⟩
theorem ok_BadText {f C : Addr} {fd : FuncData} (F : Fun K "__init__" "BadText.__init__" sBadText f fd) (T : OxC K C "ValueError" "ValueError.__new__" "ValueError.__init__" [.type "ValueError", .type "Exception", .type "BaseException", .type "object"]) (I : BI K mg "ValueError" "ValueError" "ValueError.__init__")
    (n0 : PySem.W.findIn K (.ref C) "line" = some none) (n1 : PySem.W.findIn K (.ref C) "word" = some none) : FnOk P w K mg base CX0 1 f fd ["self", "line", "word"] (spTwo C "line" "word") := by
  refine F.ok scBadText (fun vs H Q E h => ?_) (fun cdv A outer s H vs Q E hr h => ?_)
  · obtain ⟨a, x, y, rfl, _⟩ := h
    rfl
  · obtain ⟨a, x, y, rfl, e, q⟩ := h
    refine ⟨_, pss_cons (ps_expr (pe_bin (newId := "ValueError.__new__") (bm := [.type "ValueError", .type "Exception", .type "BaseException", .type "object"]) (by rfl) I.mg I.bt I.ty I.vV I.st (pa_cons (pv 0) (pa_cons pe_str pa_nil)) rfl)) (pss_cons (ps_put (B := "ValueError") (newId := "ValueError.__new__") (initId := "ValueError.__init__") (bm := [.type "ValueError", .type "Exception", .type "BaseException", .type "object"]) (pv 0) (pv 1) rfl) (pss_one (ps_put (B := "ValueError") (newId := "ValueError.__new__") (initId := "ValueError.__init__") (bm := [.type "ValueError", .type "Exception", .type "BaseException", .type "object"]) (pv 0) (pv 2) rfl))), ?_⟩
    exact ⟨_, rfl, a, C, _, rfl, by decide, T, e, _, rfl, _, rfl, a, C, rfl, T, n0, .inl ⟨e, fun dx hn ne => ⟨_, rfl, _, rfl, a, C, rfl, T, n1, .inr ⟨dx, _, upd_same, by rw [upd_ne ne]; exact upd_same, by show 1 ≤ 900; decide, q dx hn ne⟩⟩⟩⟩
abbrev sOutOfPlace : Stmt := inClass (top 7) 0
theorem scOutOfPlace : FnScope ["self", "text"] ["self", "text"] (defScope sOutOfPlace) := ⟨rfl, rfl, rfl, by decide +kernel, rfl, by decide +kernel, by decide +kernel⟩
theorem ok_OutOfPlace {f C fM : Addr} {fd fdM : FuncData} (F : Fun K "__init__" "OutOfPlace.__init__" sOutOfPlace f fd) (T : OxC K C "ValueError" "ValueError.__new__" "ValueError.__init__" [.type "ValueError", .type "Exception", .type "BaseException", .type "object"]) (I : BI K mg "ValueError" "ValueError" "ValueError.__init__")
    (FM : Fun K "message" "message" sMsg fM fdM) (bM : Binds K fdM ["text"] []) (mM : mg "message" = some (.ref fM)) (TM : TxtM mg) : FnOk P w K mg base CX0 2 f fd ["self", "text"] (spNo K C) := by
  have GM : FnOk P w K mg base CX0 1 fM fdM ["text"] (spMsg K) := ok_msg FM TM
  refine F.ok scOutOfPlace (fun vs H Q E h => ?_) (fun cdv A outer s H vs Q E hr h => ?_)
  · obtain ⟨a, x, d, rfl, _⟩ := h
    rfl
  · obtain ⟨a, x, d, rfl, e, ar, q⟩ := h
    refine ⟨_, pss_one (ps_expr (pe_bin (newId := "ValueError.__new__") (bm := [.type "ValueError", .type "Exception", .type "BaseException", .type "object"]) (by rfl) I.mg I.bt I.ty I.vV I.st (pa_cons (pv 0) (pa_cons (pe_call GM hr rfl mM FM.kp bM .nil pass0 (pa_cons (pv 1) pa_nil)) pa_nil)) rfl)), ?_⟩
    exact ⟨_, rfl, _, rfl, x, d, rfl, ar, fun v => ⟨a, C, _, rfl, by show 1 ≤ 1000; decide, T, e, q⟩⟩
abbrev sTooGreat : Stmt := inClass (top 8) 0
theorem scTooGreat : FnScope ["self", "most"] ["self", "most"] (defScope sTooGreat) := ⟨rfl, rfl, rfl, by decide +kernel, rfl, by decide +kernel, by decide +kernel⟩
theorem ok_TooGreat {f C : Addr} {fd : FuncData} (F : Fun K "__init__" "TooGreat.__init__" sTooGreat f fd) (T : OxC K C "OverflowError" "OverflowError.__new__" "OverflowError.__init__" [.type "OverflowError", .type "ArithmeticError", .type "Exception", .type "BaseException", .type "object"]) (I : BI K mg "OverflowError" "OverflowError" "OverflowError.__init__")
    (n0 : PySem.W.findIn K (.ref C) "most" = some none) : FnOk P w K mg base CX0 1 f fd ["self", "most"] (spOne C "most") := by
  refine F.ok scTooGreat (fun vs H Q E h => ?_) (fun cdv A outer s H vs Q E hr h => ?_)
  · obtain ⟨a, x, rfl, _⟩ := h
    rfl
  · obtain ⟨a, x, rfl, e, q⟩ := h
    refine ⟨_, pss_cons (ps_expr (pe_bin (newId := "OverflowError.__new__") (bm := [.type "OverflowError", .type "ArithmeticError", .type "Exception", .type "BaseException", .type "object"]) (by rfl) I.mg I.bt I.ty I.vV I.st (pa_cons (pv 0) (pa_cons pe_str pa_nil)) rfl)) (pss_one (ps_put (B := "OverflowError") (newId := "OverflowError.__new__") (initId := "OverflowError.__init__") (bm := [.type "OverflowError", .type "ArithmeticError", .type "Exception", .type "BaseException", .type "object"]) (pv 0) (pv 1) rfl)), ?_⟩
    exact ⟨_, rfl, a, C, _, rfl, by decide, T, e, _, rfl, _, rfl, a, C, rfl, T, n0, .inl ⟨e, fun dx hn ne => q dx hn ne⟩⟩
abbrev sNothing : Stmt := inClass (top 9) 0
theorem scNothing : FnScope ["self", "text"] ["self", "text"] (defScope sNothing) := ⟨rfl, rfl, rfl, by decide +kernel, rfl, by decide +kernel, by decide +kernel⟩
theorem ok_Nothing {f C fM : Addr} {fd fdM : FuncData} (F : Fun K "__init__" "Nothing.__init__" sNothing f fd) (T : OxC K C "LookupError" "LookupError.__new__" "LookupError.__init__" [.type "LookupError", .type "Exception", .type "BaseException", .type "object"]) (I : BI K mg "LookupError" "LookupError" "LookupError.__init__")
    (FM : Fun K "message" "message" sMsg fM fdM) (bM : Binds K fdM ["text"] []) (mM : mg "message" = some (.ref fM)) (TM : TxtM mg) : FnOk P w K mg base CX0 2 f fd ["self", "text"] (spNo K C) := by
  have GM : FnOk P w K mg base CX0 1 fM fdM ["text"] (spMsg K) := ok_msg FM TM
  refine F.ok scNothing (fun vs H Q E h => ?_) (fun cdv A outer s H vs Q E hr h => ?_)
  · obtain ⟨a, x, d, rfl, _⟩ := h
    rfl
  · obtain ⟨a, x, d, rfl, e, ar, q⟩ := h
    refine ⟨_, pss_one (ps_expr (pe_bin (newId := "LookupError.__new__") (bm := [.type "LookupError", .type "Exception", .type "BaseException", .type "object"]) (by rfl) I.mg I.bt I.ty I.vV I.st (pa_cons (pv 0) (pa_cons (pe_call GM hr rfl mM FM.kp bM .nil pass0 (pa_cons (pv 1) pa_nil)) pa_nil)) rfl)), ?_⟩
    exact ⟨_, rfl, _, rfl, x, d, rfl, ar, fun v => ⟨a, C, _, rfl, by show 1 ≤ 1000; decide, T, e, q⟩⟩
abbrev sHeld : Stmt := inClass (top 10) 0
theorem scHeld : FnScope ["self", "writer"] ["self", "writer"] (defScope sHeld) := ⟨rfl, rfl, rfl, by decide +kernel, rfl, by decide +kernel, by decide +kernel⟩
theorem ok_Held {f C : Addr} {fd : FuncData} (F : Fun K "__init__" "Held.__init__" sHeld f fd) (T : OxC K C "RuntimeError" "RuntimeError.__new__" "RuntimeError.__init__" [.type "RuntimeError", .type "Exception", .type "BaseException", .type "object"]) (I : BI K mg "RuntimeError" "RuntimeError" "RuntimeError.__init__")
    (n0 : PySem.W.findIn K (.ref C) "writer" = some none) : FnOk P w K mg base CX0 1 f fd ["self", "writer"] (spOne C "writer") := by
  refine F.ok scHeld (fun vs H Q E h => ?_) (fun cdv A outer s H vs Q E hr h => ?_)
  · obtain ⟨a, x, rfl, _⟩ := h
    rfl
  · obtain ⟨a, x, rfl, e, q⟩ := h
    refine ⟨_, pss_cons (ps_expr (pe_bin (newId := "RuntimeError.__new__") (bm := [.type "RuntimeError", .type "Exception", .type "BaseException", .type "object"]) (by rfl) I.mg I.bt I.ty I.vV I.st (pa_cons (pv 0) (pa_cons pe_str pa_nil)) rfl)) (pss_one (ps_put (B := "RuntimeError") (newId := "RuntimeError.__new__") (initId := "RuntimeError.__init__") (bm := [.type "RuntimeError", .type "Exception", .type "BaseException", .type "object"]) (pv 0) (pv 1) rfl)), ?_⟩
    exact ⟨_, rfl, a, C, _, rfl, by decide, T, e, _, rfl, _, rfl, a, C, rfl, T, n0, .inl ⟨e, fun dx hn ne => q dx hn ne⟩⟩
end
end K01
set_option Elab.async false
set_option linter.all false
set_option maxRecDepth 100000
set_option maxHeartbeats 4000000
/-! isinstance of the made errors. -/
namespace K01
open PySem L2 L2.EV
abbrev sMarks : Stmt := top 14
abbrev sAbove : Stmt := top 15
/-- the class at C is the j-th of the nine -/
def XC (K : PySem.W.Frag) (C : Addr) (j : Nat) : Prop := ∃ (B n i : String) (bm : List Value), OxC K C B n i bm ∧ PySem.W.typeIn K (.ref C) = some (.type "type") ∧ (∀ D : Addr, bm.contains (.ref D) = false) ∧
  bm.contains (.type "ValueError") = decide (j < 6) ∧ bm.contains (.type "OverflowError") = decide (j = 6) ∧ bm.contains (.type "LookupError") = decide (j = 7) ∧
  bm.contains (.type "RuntimeError") = decide (j = 8) ∧ bm.contains (.type "KeyError") = false ∧ bm.contains (.type "IndexError") = false
/-- an error of the class at C, its fields fs -/
def XAt (H : Hp) (C a : Addr) (fs : List (Str × V)) : Prop := ∃ od, H a = some (exo a C od) ∧ (∀ dx, od = some dx → H dx = some (exd dx fs)) ∧ (od = none → fs = [])
theorem XAt.same {H H' : Hp} {C a : Addr} {fs : List (Str × V)} (x : XAt H C a fs) (s : Same H H') : XAt H' C a fs := by
  obtain ⟨od, h1, h2, h3⟩ := x
  exact ⟨od, s _ _ h1, fun dx e => s _ _ (h2 dx e), h3⟩
theorem kit_ref {K : PySem.W.Frag} {C D : Addr} {j k : Nat} (x : XC K C j) (y : XC K D k) : PySem.W.kitOne K (.ref C) (.ref D) = some (decide (C = D)) := by
  obtain ⟨B, n, i, bm, T, _, nr, _⟩ := x
  obtain ⟨B', n', i', bm', T', ty, _⟩ := y
  obtain ⟨cd, h1, h2, _⟩ := T.data
  obtain ⟨cd', h1', _⟩ := T'.data
  unfold PySem.W.kitOne
  by_cases e : C = D
  · subst e
    simp
  · rw [if_neg (by simpa using e), decide_eq_false e]
    show (if ((PySem.W.clsIn K D).isSome && PySem.W.typeIn K (.ref D) == some (.type "type")) = true then PySem.W.subIn K (.ref C) (.ref D) else none) = some false
    rw [h1', ty, if_pos (by simp)]
    show PySem.W.mroIn K C (.ref D) = some false
    unfold PySem.W.mroIn
    rw [h1, Option.bind_some, h2, if_neg (by simp), List.contains_cons, nr D]
    simp [Ne.symm e]
theorem kit_blt {K : PySem.W.Frag} {C : Addr} {B n i : String} {bm : List Value} (T : OxC K C B n i bm) {N : String} {b : Bool} (hm : PySem.W.kitMeta N = true) (e : bm.contains (.type N) = b) : PySem.W.kitOne K (.ref C) (.type N) = some b := by
  obtain ⟨cd, h1, h2, _⟩ := T.data
  unfold PySem.W.kitOne
  rw [if_neg (by simp)]
  show (if PySem.W.kitMeta N = true then PySem.W.subIn K (.ref C) (.type N) else none) = some b
  rw [if_pos hm]
  show PySem.W.mroIn K C (.type N) = some b
  unfold PySem.W.mroIn
  rw [h1, Option.bind_some, h2, if_neg (by simp), List.contains_cons, e]
  simp
section
variable {K : PySem.W.Frag} {σ : St} {H : Hp} {Q : VK} {C D a : Addr} {j k : Nat} {fs : List (Str × V)}
theorem rd_isx (h0 : σ[0]? = some (some (.ref a))) (x : XC K C j) (y : XC K D k) (xa : XAt H C a fs) (q : Q (.bl (decide (C = D))) H) :
    tCB (rIsX K) (tCons (tVar 0) (tCons (tC (.ref D)) tNil)) σ H Q := by
  have kit := kit_ref x y
  obtain ⟨B, n, i, bm, T, _⟩ := x
  obtain ⟨od, h1, h2, _⟩ := xa
  exact ⟨_, h0, a, C, od, fs, B, n, i, bm, .ref D, .ref D, _, rfl, .own D, T, h1, h2, kit, q⟩
theorem rd_isb {N : String} {b : Bool} {B n i : String} {bm : List Value} (h0 : σ[0]? = some (some (.ref a))) (T : OxC K C B n i bm) (xa : XAt H C a fs) (hm : PySem.W.kitMeta N = true) (e : bm.contains (.type N) = b) (q : Q (.bl b) H) :
    tCB (rIsX K) (tCons (tVar 0) (tCons (tC (.ty N)) tNil)) σ H Q := by
  obtain ⟨od, h1, h2, _⟩ := xa
  exact ⟨_, h0, a, C, od, fs, B, n, i, bm, .ty N, .type N, _, rfl, .ty N, T, h1, h2, kit_blt T hm e, q⟩
end
/-- the nine classes by their numbers -/
structure Txt3 (K : PySem.W.Frag) (mg : Str → Option Value) (c : Nat → Addr) : Prop where
  xc : ∀ k, k < 9 → XC K (c k) k
  inj : ∀ i, i < 9 → ∀ j, j < 9 → c i = c j → i = j
  m0 : mg "BadFraming" = some (.ref (c 0))
  m1 : mg "BadReader" = some (.ref (c 1))
  m2 : mg "BadWeaving" = some (.ref (c 2))
  m3 : mg "BadPaper" = some (.ref (c 3))
  m4 : mg "BadText" = some (.ref (c 4))
  m5 : mg "OutOfPlace" = some (.ref (c 5))
  m6 : mg "TooGreat" = some (.ref (c 6))
  m7 : mg "Nothing" = some (.ref (c 7))
  m8 : mg "Held" = some (.ref (c 8))
  isi : mg "isinstance" = none
  ve : mg "ValueError" = none
  oe : mg "OverflowError" = none
  le : mg "LookupError" = none
  re : mg "RuntimeError" = none
  ke : mg "KeyError" = none
  ie : mg "IndexError" = none
/-- of which class it is -/
def spMarks (c : Nat → Addr) : Sp := fun vs H Q _ => ∃ (a : Addr) (j : Nat) (fs : List (Str × V)), vs = [.ref a] ∧ j < 9 ∧ XAt H (c j) a fs ∧
  ∀ (l : Addr) (H' : Hp), H l = none → H' l = some (.lst ((List.range 9).map fun k => V.bl (decide (k = j)))) → Same H H' → Q (.ref l) H'
def aboveOf (j : Nat) : List Bool := [decide (j < 6), decide (j = 6), decide (j = 7), decide (j = 8), false, false]
def spAbove (c : Nat → Addr) : Sp := fun vs H Q _ => ∃ (a : Addr) (j : Nat) (fs : List (Str × V)), vs = [.ref a] ∧ j < 9 ∧ XAt H (c j) a fs ∧
  ∀ (l : Addr) (H' : Hp), H l = none → H' l = some (.lst ((aboveOf j).map V.bl)) → Same H H' → Q (.ref l) H'
section
variable {P : Program} {w : World} {K : PySem.W.Frag} {mg : Str → Option Value} {base : Heap}
theorem scMk : FnScope ["one", "found"] ["one"] (defScope sMarks) := ⟨rfl, rfl, rfl, by decide +kernel, rfl, by decide +kernel, by decide +kernel⟩
theorem ok_marks {f : Addr} {c : Nat → Addr} {fd : FuncData} (F : Fun K "_law_marks" "_law_marks" sMarks f fd) (T : Txt3 K mg c) : FnOk P w K mg base CX0 1 f fd ["one"] (spMarks c) := by
  refine F.ok scMk (fun vs H Q E h => ?_) (fun cdv A outer s H vs Q E hr h => ?_)
  · obtain ⟨a, j, fs, rfl, _⟩ := h
    rfl
  · obtain ⟨a, j, fs, rfl, hj, xa, q⟩ := h
    refine ⟨_, pss_cons (ps_set (i := 1) scMk.nd rfl (Or.inl rfl) (pe_lst (pa_cons (pe_callB call_isX (by rfl) T.isi PyProof.Rows.boot_isinstance (pa_cons (pv 0) (pa_cons (pe_glob (v := .ref (c 0)) (by rfl) T.m0 rfl) pa_nil)))
        (pa_cons (pe_callB call_isX (by rfl) T.isi PyProof.Rows.boot_isinstance (pa_cons (pv 0) (pa_cons (pe_glob (v := .ref (c 1)) (by rfl) T.m1 rfl) pa_nil)))
        (pa_cons (pe_callB call_isX (by rfl) T.isi PyProof.Rows.boot_isinstance (pa_cons (pv 0) (pa_cons (pe_glob (v := .ref (c 2)) (by rfl) T.m2 rfl) pa_nil))) pa_nil)))))
      (pss_cons (ps_set (i := 1) scMk.nd rfl (Or.inl rfl) (pe_op op_cat (pv 1) (pe_lst (pa_cons (pe_callB call_isX (by rfl) T.isi PyProof.Rows.boot_isinstance (pa_cons (pv 0) (pa_cons (pe_glob (v := .ref (c 3)) (by rfl) T.m3 rfl) pa_nil)))
        (pa_cons (pe_callB call_isX (by rfl) T.isi PyProof.Rows.boot_isinstance (pa_cons (pv 0) (pa_cons (pe_glob (v := .ref (c 4)) (by rfl) T.m4 rfl) pa_nil)))
        (pa_cons (pe_callB call_isX (by rfl) T.isi PyProof.Rows.boot_isinstance (pa_cons (pv 0) (pa_cons (pe_glob (v := .ref (c 5)) (by rfl) T.m5 rfl) pa_nil))) pa_nil))))))
      (pss_one (ps_ret (pe_op op_cat (pv 1) (pe_lst (pa_cons (pe_callB call_isX (by rfl) T.isi PyProof.Rows.boot_isinstance (pa_cons (pv 0) (pa_cons (pe_glob (v := .ref (c 6)) (by rfl) T.m6 rfl) pa_nil)))
        (pa_cons (pe_callB call_isX (by rfl) T.isi PyProof.Rows.boot_isinstance (pa_cons (pv 0) (pa_cons (pe_glob (v := .ref (c 7)) (by rfl) T.m7 rfl) pa_nil)))
        (pa_cons (pe_callB call_isX (by rfl) T.isi PyProof.Rows.boot_isinstance (pa_cons (pv 0) (pa_cons (pe_glob (v := .ref (c 8)) (by rfl) T.m8 rfl) pa_nil))) pa_nil)))))))), ?_⟩
    have x := T.xc j hj
    refine rd_isx rfl x (T.xc 0 (by decide)) xa (rd_isx rfl x (T.xc 1 (by decide)) xa (rd_isx rfl x (T.xc 2 (by decide)) xa ⟨(by show 3 ≤ sizeLine; decide), fun l1 h1 => ?_⟩))
    have s1 := same_upd (o := HO.lst [V.bl (decide (c j = c 0)), V.bl (decide (c j = c 1)), V.bl (decide (c j = c 2))]) h1
    have xa1 := xa.same s1
    refine ⟨_, rfl, ?_⟩
    refine rd_isx rfl x (T.xc 3 (by decide)) xa1 (rd_isx rfl x (T.xc 4 (by decide)) xa1 (rd_isx rfl x (T.xc 5 (by decide)) xa1 ⟨(by show 3 ≤ sizeLine; decide), fun l2 h2 => ?_⟩))
    have s2 := same_upd (o := HO.lst [V.bl (decide (c j = c 3)), V.bl (decide (c j = c 4)), V.bl (decide (c j = c 5))]) h2
    refine ⟨l1, l2, _, _, rfl, rfl, s2 _ _ upd_same, upd_same, (by show 6 ≤ sizeLine; decide), fun l3 h3 => ?_⟩
    have s3 := same_upd (o := HO.lst ([V.bl (decide (c j = c 0)), V.bl (decide (c j = c 1)), V.bl (decide (c j = c 2))] ++ [V.bl (decide (c j = c 3)), V.bl (decide (c j = c 4)), V.bl (decide (c j = c 5))])) h3
    have xa3 := (xa1.same s2).same s3
    refine ⟨_, rfl, ?_⟩
    refine rd_isx rfl x (T.xc 6 (by decide)) xa3 (rd_isx rfl x (T.xc 7 (by decide)) xa3 (rd_isx rfl x (T.xc 8 (by decide)) xa3 ⟨(by show 3 ≤ sizeLine; decide), fun l4 h4 => ?_⟩))
    have s4 := same_upd (o := HO.lst [V.bl (decide (c j = c 6)), V.bl (decide (c j = c 7)), V.bl (decide (c j = c 8))]) h4
    refine ⟨l3, l4, _, _, rfl, rfl, s4 _ _ upd_same, upd_same, (by show 9 ≤ sizeLine; decide), fun l5 h5 => ?_⟩
    have sall := ((s1.trans s2).trans s3).trans s4
    have e : ∀ k, k < 9 → decide (c j = c k) = decide (k = j) := fun k hk => by
      by_cases z : k = j
      · subst z
        simp
      · have z2 : ¬ c j = c k := fun y => z (T.inj j hj k hk y).symm
        rw [decide_eq_false z, decide_eq_false z2]
    refine q l5 _ (sall.free h5) ?_ (sall.trans (same_upd h5))
    rw [upd_same, e 0 (by decide), e 1 (by decide), e 2 (by decide), e 3 (by decide), e 4 (by decide), e 5 (by decide), e 6 (by decide), e 7 (by decide), e 8 (by decide)]
    rfl
theorem scAb : FnScope ["one", "found"] ["one"] (defScope sAbove) := ⟨rfl, rfl, rfl, by decide +kernel, rfl, by decide +kernel, by decide +kernel⟩
theorem ok_above {f : Addr} {c : Nat → Addr} {fd : FuncData} (F : Fun K "_law_above" "_law_above" sAbove f fd) (T : Txt3 K mg c) : FnOk P w K mg base CX0 1 f fd ["one"] (spAbove c) := by
  refine F.ok scAb (fun vs H Q E h => ?_) (fun cdv A outer s H vs Q E hr h => ?_)
  · obtain ⟨a, j, fs, rfl, _⟩ := h
    rfl
  · obtain ⟨a, j, fs, rfl, hj, xa, q⟩ := h
    refine ⟨_, pss_cons (ps_set (i := 1) scAb.nd rfl (Or.inl rfl) (pe_lst (pa_cons (pe_callB call_isX (by rfl) T.isi PyProof.Rows.boot_isinstance (pa_cons (pv 0) (pa_cons (pe_bltn (v := .ty "ValueError") (by rfl) T.ve (by decide +kernel) rfl) pa_nil)))
        (pa_cons (pe_callB call_isX (by rfl) T.isi PyProof.Rows.boot_isinstance (pa_cons (pv 0) (pa_cons (pe_bltn (v := .ty "OverflowError") (by rfl) T.oe (by decide +kernel) rfl) pa_nil)))
        (pa_cons (pe_callB call_isX (by rfl) T.isi PyProof.Rows.boot_isinstance (pa_cons (pv 0) (pa_cons (pe_bltn (v := .ty "LookupError") (by rfl) T.le (by decide +kernel) rfl) pa_nil))) pa_nil)))))
      (pss_one (ps_ret (pe_op op_cat (pv 1) (pe_lst (pa_cons (pe_callB call_isX (by rfl) T.isi PyProof.Rows.boot_isinstance (pa_cons (pv 0) (pa_cons (pe_bltn (v := .ty "RuntimeError") (by rfl) T.re (by decide +kernel) rfl) pa_nil)))
        (pa_cons (pe_callB call_isX (by rfl) T.isi PyProof.Rows.boot_isinstance (pa_cons (pv 0) (pa_cons (pe_bltn (v := .ty "KeyError") (by rfl) T.ke (by decide +kernel) rfl) pa_nil)))
        (pa_cons (pe_callB call_isX (by rfl) T.isi PyProof.Rows.boot_isinstance (pa_cons (pv 0) (pa_cons (pe_bltn (v := .ty "IndexError") (by rfl) T.ie (by decide +kernel) rfl) pa_nil))) pa_nil))))))), ?_⟩
    obtain ⟨B, n, i, bm, O, _, _, c1, c2, c3, c4, c5, c6⟩ := T.xc j hj
    refine rd_isb rfl O xa (by decide +kernel) c1 (rd_isb rfl O xa (by decide +kernel) c2 (rd_isb rfl O xa (by decide +kernel) c3 ⟨(by show 3 ≤ sizeLine; decide), fun l1 h1 => ?_⟩))
    have s1 := same_upd (o := HO.lst [V.bl (decide (j < 6)), V.bl (decide (j = 6)), V.bl (decide (j = 7))]) h1
    have xa1 := xa.same s1
    refine ⟨_, rfl, ?_⟩
    refine rd_isb rfl O xa1 (by decide +kernel) c4 (rd_isb rfl O xa1 (by decide +kernel) c5 (rd_isb rfl O xa1 (by decide +kernel) c6 ⟨(by show 3 ≤ sizeLine; decide), fun l2 h2 => ?_⟩))
    have s2 := same_upd (o := HO.lst [V.bl (decide (j = 8)), V.bl false, V.bl false]) h2
    refine ⟨l1, l2, _, _, rfl, rfl, s2 _ _ upd_same, upd_same, (by show 6 ≤ sizeLine; decide), fun l5 h5 => ?_⟩
    have sall := s1.trans s2
    exact q l5 _ (sall.free h5) upd_same (sall.trans (same_upd h5))
end
end K01
set_option Elab.async false
set_option linter.all false
set_option maxRecDepth 100000
set_option maxHeartbeats 4000000
/-! The errors made, both ways. -/
namespace K01
open PySem L2 L2.EV
abbrev sMade : Stmt := top 16
abbrev gP : List Value → List Value → List Value := fun us _ => us
abbrev vP : List V → List V → List V := fun vs _ => vs
abbrev gK : List Value → List Value → List Value := fun us ws => us ++ ws.reverse
abbrev vK : List V → List V → List V := fun vs zs => vs ++ zs.reverse
theorem vals_rev : ∀ {zs : List V} {ws : List Value}, Vals zs ws → Vals zs.reverse ws.reverse
  | _, _, .nil => .nil
  | _, _, .cons r t => by
    rw [List.reverse_cons, List.reverse_cons]
    exact (vals_rev t).append (.cons r .nil)
section
variable {K : PySem.W.Frag} {x qual : Str} {st : Stmt} {f : Addr} {fd : FuncData} {ps ks : List Str} {n : Nat}
theorem kb_pos (b : Binds K fd ps []) (hn : ps.length = n) : KBn K fd ps n [] gP vP := by
  refine ⟨fun s us ws X l1 l2 => ?_, fun r _ => r⟩
  have z := b s us X (by rw [List.append_nil, l1, hn])
  rw [List.append_nil] at z
  exact z
theorem kb_kw (F : Fun K x qual st f fd) (h : ∀ (kV doc pm : Value) (an : Option Addr) (cdv ct : Value) (us ws : List Value), us.length = 1 → ws.length = ks.length →
    bindArgs (PySem.W.fnOf x qual (defArgs st) (defBody st) (defScope st) .none kV doc pm an cdv ct) ⟨us, ks.zip ws⟩ = pure (ps.zip (us ++ ws.reverse))) : KBn K fd ps 1 ks gK vK := by
  obtain ⟨oc, od, kV, doc, pm, an, cdv, ct, osl, rfl, _, _⟩ := F.ex
  exact ⟨fun s us ws X l1 l2 => .of_eq (h kV doc pm an cdv ct us ws l1 l2), fun r rz => r.append (vals_rev rz)⟩
end
/-- how the class at C is made -/
def Mk (P : Program) (w : World) (K : PySem.W.Frag) (mg : Str → Option Value) (base : Heap) (C : Addr) (ps ks : List Str) (sp : Sp) : Prop := ∃ (fI : Addr) (fd : FuncData),
  PySem.W.findIn K (.ref C) "__init__" = some (some (.ref fI)) ∧ PySem.W.typeIn K (.ref fI) = some (.type "function") ∧ FnOk P w K mg base CX0 2 fI fd ("self" :: ps) sp ∧
  KBn K fd ("self" :: ps) (ps.length + 1) [] gP vP ∧ KBn K fd ("self" :: ps) 1 ks gK vK
section
variable {H : Hp} {C a dx : Addr} {f g : Str} {x y : V}
theorem sm1 (ha : H a = none) (hn : (upd H a (exo a C none)) dx = none) (ne : dx ≠ a) : Same H (upd (upd (upd H a (exo a C none)) dx (exd dx [(f, x)])) a (exo a C (some dx))) := fun b o e => by
  have h1 : b ≠ a := ne_of_none e ha
  have h2 : b ≠ dx := fun z => by
    subst z
    rw [upd_ne ne, e] at hn
    cases hn
  rw [upd_ne h1, upd_ne h2, upd_ne h1]
  exact e
theorem xa1 (ne : dx ≠ a) : XAt (upd (upd (upd H a (exo a C none)) dx (exd dx [(f, x)])) a (exo a C (some dx))) C a [(f, x)] :=
  ⟨some dx, upd_same, fun dx' e => by cases e; rw [upd_ne ne]; exact upd_same, fun z => nomatch z⟩
theorem sm2 (ha : H a = none) (hn : (upd H a (exo a C none)) dx = none) (ne : dx ≠ a) :
    Same H (upd (upd (upd (upd H a (exo a C none)) dx (exd dx [(f, x)])) a (exo a C (some dx))) dx (exd dx [(g, y), (f, x)])) := fun b o e => by
  have h1 : b ≠ a := ne_of_none e ha
  have h2 : b ≠ dx := fun z => by
    subst z
    rw [upd_ne ne, e] at hn
    cases hn
  rw [upd_ne h2, upd_ne h1, upd_ne h2, upd_ne h1]
  exact e
theorem xa2 (ne : dx ≠ a) : XAt (upd (upd (upd (upd H a (exo a C none)) dx (exd dx [(f, x)])) a (exo a C (some dx))) dx (exd dx [(g, y), (f, x)])) C a [(g, y), (f, x)] :=
  ⟨some dx, by rw [upd_ne ne.symm]; exact upd_same, fun dx' e => by cases e; exact upd_same, fun z => nomatch z⟩
theorem mk1 (ha : H a = none) (hn : (upd H a (exo a C none)) dx = none) (ne : dx ≠ a) : Same H (upd (upd (upd H a (exo a C none)) dx (exd dx [(f, x)])) a (exo a C (some dx))) ∧
    XAt (upd (upd (upd H a (exo a C none)) dx (exd dx [(f, x)])) a (exo a C (some dx))) C a [(f, x)] := ⟨sm1 ha hn ne, xa1 ne⟩
theorem mk2 (ha : H a = none) (hn : (upd H a (exo a C none)) dx = none) (ne : dx ≠ a) : Same H (upd (upd (upd (upd H a (exo a C none)) dx (exd dx [(f, x)])) a (exo a C (some dx))) dx (exd dx [(g, y), (f, x)])) ∧
    XAt (upd (upd (upd (upd H a (exo a C none)) dx (exd dx [(f, x)])) a (exo a C (some dx))) dx (exd dx [(g, y), (f, x)])) C a [(g, y), (f, x)] := ⟨sm2 ha hn ne, xa2 ne⟩
theorem mk0 (ha : H a = none) : Same H (upd H a (exo a C none)) ∧ XAt (upd H a (exo a C none)) C a [] :=
  ⟨same_upd ha, ⟨none, upd_same, fun dx' e => (nomatch e), fun _ => rfl⟩⟩
theorem xa0 : XAt (upd H a (exo a C none)) C a [] := ⟨none, upd_same, fun dx' e => (nomatch e), fun _ => rfl⟩
end
/-- the fields that they have -/
def flds (x y : V) : Nat → List (Str × V)
  | 0 => [("number", x)]
  | 1 => [("number", y), ("part", x)]
  | 2 => [("number", y)]
  | 3 => [("part", x)]
  | 4 => [("word", y), ("line", x)]
  | 5 => []
  | 6 => [("most", x)]
  | 7 => []
  | _ => [("writer", y)]
def spMade (K : PySem.W.Frag) (c : Nat → Addr) : Sp := fun vs H Q _ => ∃ (way : Int) (x y : V) (dx dy : PyData), vs = [.int way, x, y] ∧ Arg K H x dx ∧ Arg K H y dy ∧
  ∀ (l : Addr) (H' : Hp) (as : Nat → Addr), H l = none → H' l = some (.lst ((List.range 9).map fun k => V.ref (as k))) → (∀ k, k < 9 → XAt H' (c k) (as k) (flds x y k)) → Same H H' → Q (.ref l) H'
section
variable {P : Program} {w : World} {K : PySem.W.Frag} {mg : Str → Option Value} {base : Heap}
theorem scMd : FnScope ["way", "x", "y", "found"] ["way", "x", "y"] (defScope sMade) := ⟨rfl, rfl, rfl, by decide +kernel, rfl, by decide +kernel, by decide +kernel⟩
theorem ok_made {f : Addr} {c : Nat → Addr} {fd : FuncData} (F : Fun K "_law_made" "_law_made" sMade f fd) (T : Txt3 K mg c)
    (M0 : Mk P w K mg base (c 0) ["number"] ["number"] (spOne (c 0) "number"))
    (M1 : Mk P w K mg base (c 1) ["part", "number"] ["number", "part"] (spTwo (c 1) "part" "number"))
    (M2 : Mk P w K mg base (c 2) ["number"] ["number"] (spOne (c 2) "number"))
    (M3 : Mk P w K mg base (c 3) ["part"] ["part"] (spOne (c 3) "part"))
    (M4 : Mk P w K mg base (c 4) ["line", "word"] ["word", "line"] (spTwo (c 4) "line" "word"))
    (M5 : Mk P w K mg base (c 5) ["text"] ["text"] (spNo K (c 5)))
    (M6 : Mk P w K mg base (c 6) ["most"] ["most"] (spOne (c 6) "most"))
    (M7 : Mk P w K mg base (c 7) ["text"] ["text"] (spNo K (c 7)))
    (M8 : Mk P w K mg base (c 8) ["writer"] ["writer"] (spOne (c 8) "writer")) :
    FnOk P w K mg base CX0 4 f fd ["way", "x", "y"] (spMade K c) := by
  refine F.ok scMd (fun vs H Q E h => ?_) (fun cdv A outer s H vs Q E hr h => ?_)
  · obtain ⟨way, x, y, dx, dy, rfl, _⟩ := h
    rfl
  · obtain ⟨way, x, y, dx, dy, rfl, ax, ay, q⟩ := h
    obtain ⟨B0, n0, i0, m0, O0, _⟩ := T.xc 0 (by decide)
    obtain ⟨fI0, fd0, iC0, tI0, G0, kp0, kk0⟩ := M0
    obtain ⟨B1, n1, i1, m1, O1, _⟩ := T.xc 1 (by decide)
    obtain ⟨fI1, fd1, iC1, tI1, G1, kp1, kk1⟩ := M1
    obtain ⟨B2, n2, i2, m2, O2, _⟩ := T.xc 2 (by decide)
    obtain ⟨fI2, fd2, iC2, tI2, G2, kp2, kk2⟩ := M2
    obtain ⟨B3, n3, i3, m3, O3, _⟩ := T.xc 3 (by decide)
    obtain ⟨fI3, fd3, iC3, tI3, G3, kp3, kk3⟩ := M3
    obtain ⟨B4, n4, i4, m4, O4, _⟩ := T.xc 4 (by decide)
    obtain ⟨fI4, fd4, iC4, tI4, G4, kp4, kk4⟩ := M4
    obtain ⟨B5, n5, i5, m5, O5, _⟩ := T.xc 5 (by decide)
    obtain ⟨fI5, fd5, iC5, tI5, G5, kp5, kk5⟩ := M5
    obtain ⟨B6, n6, i6, m6, O6, _⟩ := T.xc 6 (by decide)
    obtain ⟨fI6, fd6, iC6, tI6, G6, kp6, kk6⟩ := M6
    obtain ⟨B7, n7, i7, m7, O7, _⟩ := T.xc 7 (by decide)
    obtain ⟨fI7, fd7, iC7, tI7, G7, kp7, kk7⟩ := M7
    obtain ⟨B8, n8, i8, m8, O8, _⟩ := T.xc 8 (by decide)
    obtain ⟨fI8, fd8, iC8, tI8, G8, kp8, kk8⟩ := M8
    refine ⟨_, pss_cons (ps_if (pt_cmpR op_eq (pv 0) pe_int (nomark _))
        (pss_cons (ps_set (i := 3) scMd.nd rfl (Or.inl rfl) (pe_lst (pa_cons (pe_new O0 iC0 tI0 G0 hr kp0 pass0 (by rfl) T.m0 (pa_cons (pv 1) pa_nil)) (pa_cons (pe_new O1 iC1 tI1 G1 hr kp1 pass0 (by rfl) T.m1 (pa_cons (pv 1) (pa_cons (pv 2) pa_nil))) (pa_cons (pe_new O2 iC2 tI2 G2 hr kp2 pass0 (by rfl) T.m2 (pa_cons (pv 2) pa_nil)) (pa_cons (pe_new O3 iC3 tI3 G3 hr kp3 pass0 (by rfl) T.m3 (pa_cons (pv 1) pa_nil)) (pa_cons (pe_new O4 iC4 tI4 G4 hr kp4 pass0 (by rfl) T.m4 (pa_cons (pv 1) (pa_cons (pv 2) pa_nil))) pa_nil)))))))
        (pss_one (ps_ret (pe_op op_cat (pv 3) (pe_lst (pa_cons (pe_new O5 iC5 tI5 G5 hr kp5 pass0 (by rfl) T.m5 (pa_cons (pv 1) pa_nil)) (pa_cons (pe_new O6 iC6 tI6 G6 hr kp6 pass0 (by rfl) T.m6 (pa_cons (pv 1) pa_nil)) (pa_cons (pe_new O7 iC7 tI7 G7 hr kp7 pass0 (by rfl) T.m7 (pa_cons (pv 2) pa_nil)) (pa_cons (pe_new O8 iC8 tI8 G8 hr kp8 pass0 (by rfl) T.m8 (pa_cons (pv 2) pa_nil)) pa_nil))))))))) pss_nil)
      (pss_cons (ps_set (i := 3) scMd.nd rfl (Or.inl rfl) (pe_lst (pa_cons (pe_newK O0 iC0 tI0 G0 hr kk0 pass0 (by rfl) T.m0 (pk_cons (pv 1) pk_nil)) (pa_cons (pe_newK O1 iC1 tI1 G1 hr kk1 pass0 (by rfl) T.m1 (pk_cons (pv 2) (pk_cons (pv 1) pk_nil))) (pa_cons (pe_newK O2 iC2 tI2 G2 hr kk2 pass0 (by rfl) T.m2 (pk_cons (pv 2) pk_nil)) (pa_cons (pe_newK O3 iC3 tI3 G3 hr kk3 pass0 (by rfl) T.m3 (pk_cons (pv 1) pk_nil)) pa_nil))))))
      (pss_cons (ps_set (i := 3) scMd.nd rfl (Or.inl rfl) (pe_op op_cat (pv 3) (pe_lst (pa_cons (pe_newK O4 iC4 tI4 G4 hr kk4 pass0 (by rfl) T.m4 (pk_cons (pv 2) (pk_cons (pv 1) pk_nil))) (pa_cons (pe_newK O5 iC5 tI5 G5 hr kk5 pass0 (by rfl) T.m5 (pk_cons (pv 1) pk_nil)) (pa_cons (pe_newK O6 iC6 tI6 G6 hr kk6 pass0 (by rfl) T.m6 (pk_cons (pv 1) pk_nil)) (pa_cons (pe_newK O7 iC7 tI7 G7 hr kk7 pass0 (by rfl) T.m7 (pk_cons (pv 2) pk_nil)) pa_nil)))))))
      (pss_one (ps_ret (pe_op op_cat (pv 3) (pe_lst (pa_cons (pe_newK O8 iC8 tI8 G8 hr kk8 pass0 (by rfl) T.m8 (pk_cons (pv 2) pk_nil)) pa_nil))))))), ?_⟩
    refine ⟨_, rfl, rfl, _, rfl, ?_⟩
    refine ite2 (fun _ => ?_) (fun _ => ?_)
    · refine ⟨_, rfl, rfl, rfl, (by simp), fun a0 e0 => ⟨a0, x, rfl, upd_same, fun dx0 h0 n0' => ⟨rfl, ?_⟩⟩⟩
      obtain ⟨s0, x0⟩ := mk1 (f := "number") (x := x) e0 h0 n0'
      have t0 := Same.trans (Same.refl H) s0
      refine ⟨_, rfl, _, rfl, rfl, rfl, (by simp), fun a1 e1 => ⟨a1, x, y, rfl, upd_same, fun dx1 h1 n1' => ⟨rfl, ?_⟩⟩⟩
      obtain ⟨s1, x1⟩ := mk2 (f := "part") (x := x) (g := "number") (y := y) e1 h1 n1'
      have t1 := Same.trans t0 s1
      refine ⟨_, rfl, rfl, rfl, (by simp), fun a2 e2 => ⟨a2, y, rfl, upd_same, fun dx2 h2 n2' => ⟨rfl, ?_⟩⟩⟩
      obtain ⟨s2, x2⟩ := mk1 (f := "number") (x := y) e2 h2 n2'
      have t2 := Same.trans t1 s2
      refine ⟨_, rfl, rfl, rfl, (by simp), fun a3 e3 => ⟨a3, x, rfl, upd_same, fun dx3 h3 n3' => ⟨rfl, ?_⟩⟩⟩
      obtain ⟨s3, x3⟩ := mk1 (f := "part") (x := x) e3 h3 n3'
      have t3 := Same.trans t2 s3
      refine ⟨_, rfl, _, rfl, rfl, rfl, (by simp), fun a4 e4 => ⟨a4, x, y, rfl, upd_same, fun dx4 h4 n4' => ⟨rfl, ?_⟩⟩⟩
      obtain ⟨s4, x4⟩ := mk2 (f := "line") (x := x) (g := "word") (y := y) e4 h4 n4'
      have t4 := Same.trans t3 s4
      refine ⟨(by show 5 ≤ sizeLine; decide), fun l1 h1 => ?_⟩
      have u1 := same_upd (o := HO.lst [V.ref a0, V.ref a1, V.ref a2, V.ref a3, V.ref a4]) h1
      have v1 := t4.trans u1
      refine ⟨_, rfl, ?_⟩
      refine ⟨_, rfl, rfl, rfl, (by simp), fun a5 e5 => ⟨a5, x, dx, rfl, upd_same, (ax.same v1).same (same_upd e5), rfl, ?_⟩⟩
      obtain ⟨s5, x5⟩ := mk0 (C := c 5) e5
      have t5 := Same.trans v1 s5
      refine ⟨_, rfl, rfl, rfl, (by simp), fun a6 e6 => ⟨a6, x, rfl, upd_same, fun dx6 h6 n6' => ⟨rfl, ?_⟩⟩⟩
      obtain ⟨s6, x6⟩ := mk1 (f := "most") (x := x) e6 h6 n6'
      have t6 := Same.trans t5 s6
      refine ⟨_, rfl, rfl, rfl, (by simp), fun a7 e7 => ⟨a7, y, dy, rfl, upd_same, (ay.same t6).same (same_upd e7), rfl, ?_⟩⟩
      obtain ⟨s7, x7⟩ := mk0 (C := c 7) e7
      have t7 := Same.trans t6 s7
      refine ⟨_, rfl, rfl, rfl, (by simp), fun a8 e8 => ⟨a8, y, rfl, upd_same, fun dx8 h8 n8' => ⟨rfl, ?_⟩⟩⟩
      obtain ⟨s8, x8⟩ := mk1 (f := "writer") (x := y) e8 h8 n8'
      have t8 := Same.trans t7 s8
      refine ⟨(by show 4 ≤ sizeLine; decide), fun l2 h2 => ?_⟩
      have u2 := same_upd (o := HO.lst [V.ref a5, V.ref a6, V.ref a7, V.ref a8]) h2
      have r8 := u2
      have r7 := s8.trans r8
      have r6 := s7.trans r7
      have r5 := s6.trans r6
      have r4' := s5.trans r5
      refine ⟨l1, l2, _, _, rfl, rfl, r4' _ _ upd_same, upd_same, (by show 9 ≤ sizeLine; decide), fun l3 h3 => ?_⟩
      have u3 := same_upd (o := HO.lst ([V.ref a0, V.ref a1, V.ref a2, V.ref a3, V.ref a4] ++ [V.ref a5, V.ref a6, V.ref a7, V.ref a8])) h3
      have r4 := u1.trans r4'
      have r3 := s4.trans r4
      have r2 := s3.trans r3
      have r1 := s2.trans r2
      have r0 := s1.trans r1
      have rr := s0.trans r0
      refine q l3 _ (fun k => ([a0, a1, a2, a3, a4, a5, a6, a7, a8] : List Addr).getD k 0) (rr.free h3) upd_same (fun k hk => ?_) (rr.trans u3)
      match k, hk with
      | 0, _ => exact (x0.same r0).same u3
      | 1, _ => exact (x1.same r1).same u3
      | 2, _ => exact (x2.same r2).same u3
      | 3, _ => exact (x3.same r3).same u3
      | 4, _ => exact (x4.same r4).same u3
      | 5, _ => exact (x5.same r5).same u3
      | 6, _ => exact (x6.same r6).same u3
      | 7, _ => exact (x7.same r7).same u3
      | 8, _ => exact (x8.same r8).same u3
    · refine ⟨_, rfl, rfl, rfl, (by simp), fun a0 e0 => ⟨a0, x, rfl, upd_same, fun dx0 h0 n0' => ⟨rfl, ?_⟩⟩⟩
      obtain ⟨s0, x0⟩ := mk1 (f := "number") (x := x) e0 h0 n0'
      have t0 := Same.trans (Same.refl H) s0
      refine ⟨_, rfl, _, rfl, rfl, rfl, (by simp), fun a1 e1 => ⟨a1, x, y, rfl, upd_same, fun dx1 h1 n1' => ⟨rfl, ?_⟩⟩⟩
      obtain ⟨s1, x1⟩ := mk2 (f := "part") (x := x) (g := "number") (y := y) e1 h1 n1'
      have t1 := Same.trans t0 s1
      refine ⟨_, rfl, rfl, rfl, (by simp), fun a2 e2 => ⟨a2, y, rfl, upd_same, fun dx2 h2 n2' => ⟨rfl, ?_⟩⟩⟩
      obtain ⟨s2, x2⟩ := mk1 (f := "number") (x := y) e2 h2 n2'
      have t2 := Same.trans t1 s2
      refine ⟨_, rfl, rfl, rfl, (by simp), fun a3 e3 => ⟨a3, x, rfl, upd_same, fun dx3 h3 n3' => ⟨rfl, ?_⟩⟩⟩
      obtain ⟨s3, x3⟩ := mk1 (f := "part") (x := x) e3 h3 n3'
      have t3 := Same.trans t2 s3
      refine ⟨(by show 4 ≤ sizeLine; decide), fun l1 h1 => ?_⟩
      have u1 := same_upd (o := HO.lst [V.ref a0, V.ref a1, V.ref a2, V.ref a3]) h1
      have v1 := t3.trans u1
      refine ⟨_, rfl, ?_⟩
      refine ⟨_, rfl, _, rfl, rfl, rfl, (by simp), fun a4 e4 => ⟨a4, x, y, rfl, upd_same, fun dx4 h4 n4' => ⟨rfl, ?_⟩⟩⟩
      obtain ⟨s4, x4⟩ := mk2 (f := "line") (x := x) (g := "word") (y := y) e4 h4 n4'
      have t4 := Same.trans v1 s4
      refine ⟨_, rfl, rfl, rfl, (by simp), fun a5 e5 => ⟨a5, x, dx, rfl, upd_same, (ax.same t4).same (same_upd e5), rfl, ?_⟩⟩
      obtain ⟨s5, x5⟩ := mk0 (C := c 5) e5
      have t5 := Same.trans t4 s5
      refine ⟨_, rfl, rfl, rfl, (by simp), fun a6 e6 => ⟨a6, x, rfl, upd_same, fun dx6 h6 n6' => ⟨rfl, ?_⟩⟩⟩
      obtain ⟨s6, x6⟩ := mk1 (f := "most") (x := x) e6 h6 n6'
      have t6 := Same.trans t5 s6
      refine ⟨_, rfl, rfl, rfl, (by simp), fun a7 e7 => ⟨a7, y, dy, rfl, upd_same, (ay.same t6).same (same_upd e7), rfl, ?_⟩⟩
      obtain ⟨s7, x7⟩ := mk0 (C := c 7) e7
      have t7 := Same.trans t6 s7
      refine ⟨(by show 4 ≤ sizeLine; decide), fun l2 h2 => ?_⟩
      have u2 := same_upd (o := HO.lst [V.ref a4, V.ref a5, V.ref a6, V.ref a7]) h2
      have r3' := s4.trans (s5.trans (s6.trans (s7.trans u2)))
      refine ⟨l1, l2, _, _, rfl, rfl, r3' _ _ upd_same, upd_same, (by show 8 ≤ sizeLine; decide), fun l3 h3 => ?_⟩
      have u3 := same_upd (o := HO.lst ([V.ref a0, V.ref a1, V.ref a2, V.ref a3] ++ [V.ref a4, V.ref a5, V.ref a6, V.ref a7])) h3
      refine ⟨_, rfl, ?_⟩
      refine ⟨_, rfl, rfl, rfl, (by simp), fun a8 e8 => ⟨a8, y, rfl, upd_same, fun dx8 h8 n8' => ⟨rfl, ?_⟩⟩⟩
      obtain ⟨s8, x8⟩ := mk1 (f := "writer") (x := y) e8 h8 n8'
      refine ⟨(by show 1 ≤ sizeLine; decide), fun l4 h4 => ?_⟩
      have u4 := same_upd (o := HO.lst [V.ref a8]) h4
      have r8 := u4
      have r7 := (u2.trans u3).trans (s8.trans u4)
      have r6 := s7.trans r7
      have r5 := s6.trans r6
      have r4 := s5.trans r5
      have r3 := u1.trans (s4.trans r4)
      have r2 := s3.trans r3
      have r1 := s2.trans r2
      have r0 := s1.trans r1
      have rr := s0.trans r0
      refine ⟨l3, l4, _, _, rfl, rfl, (s8.trans u4) _ _ upd_same, upd_same, (by show 9 ≤ sizeLine; decide), fun l5 h5 => ?_⟩
      have u5 := same_upd (o := HO.lst ([V.ref a0, V.ref a1, V.ref a2, V.ref a3] ++ [V.ref a4, V.ref a5, V.ref a6, V.ref a7] ++ [V.ref a8])) h5
      refine q l5 _ (fun k => ([a0, a1, a2, a3, a4, a5, a6, a7, a8] : List Addr).getD k 0) (rr.free h5) upd_same (fun k hk => ?_) (rr.trans u5)
      match k, hk with
      | 0, _ => exact (x0.same r0).same u5
      | 1, _ => exact (x1.same r1).same u5
      | 2, _ => exact (x2.same r2).same u5
      | 3, _ => exact (x3.same r3).same u5
      | 4, _ => exact (x4.same r4).same u5
      | 5, _ => exact (x5.same r5).same u5
      | 6, _ => exact (x6.same r6).same u5
      | 7, _ => exact (x7.same r7).same u5
      | 8, _ => exact (x8.same r8).same u5
end
end K01
set_option Elab.async false
set_option linter.all false
set_option maxRecDepth 100000
set_option maxHeartbeats 4000000
/-! All nine errors of two things. -/
namespace K01
open PySem L2 L2.EV
abbrev sRight : Stmt := top 17
structure Txt5 (K : PySem.W.Frag) (mg : Str → Option Value) (c : Nat → Addr) : Prop extends Txt3 K mg c where
  f0 : PySem.W.findIn K (.ref (c 0)) "number" = some none
  f1 : PySem.W.findIn K (.ref (c 1)) "part" = some none
  f1' : PySem.W.findIn K (.ref (c 1)) "number" = some none
  f2 : PySem.W.findIn K (.ref (c 2)) "number" = some none
  f3 : PySem.W.findIn K (.ref (c 3)) "part" = some none
  f4 : PySem.W.findIn K (.ref (c 4)) "line" = some none
  f4' : PySem.W.findIn K (.ref (c 4)) "word" = some none
  f6 : PySem.W.findIn K (.ref (c 6)) "most" = some none
  f8 : PySem.W.findIn K (.ref (c 8)) "writer" = some none
  rep : mg "repr" = none
  enu : mg "enumerate" = none
section
variable {K : PySem.W.Frag} {σ : St} {H : Hp} {Q : VK} {C lm : Addr} {j k : Nat} {fs : List (Str × V)} {as : Nat → Addr} {f : Str} {v : V}
/-- made[i].f -/
theorem rd_fld {i : Int} (h0 : σ[3]? = some (some (.ref lm))) (hl : H lm = some (.lst ((List.range 9).map fun k => V.ref (as k)))) (hi : i = (k : Nat)) (hk : k < 9) (x : XC K C j) (no : PySem.W.findIn K (.ref C) f = some none)
    (xa : XAt H C (as k) fs) (lk : fs.lookup f = some v) (q : Q v H) : tFld K f (tOp (rIxL K) (tVar 3) (tC (.int i))) σ H Q := by
  obtain ⟨B, n, m, bm, T, _⟩ := x
  obtain ⟨od, h1, h2, h3⟩ := xa
  cases od with
  | none =>
    rw [h3 rfl] at lk
    cases lk
  | some dx =>
    have at_ : ((List.range 9).map fun k => V.ref (as k))[k]? = some (V.ref (as k)) := by
      rw [List.getElem?_map, List.getElem?_range hk]
      rfl
    subst hi
    exact ⟨_, h0, lm, _, _, V.ref (as k), rfl, rfl, SqL.of hl, atI_nat at_, as k, C, dx, B, n, m, bm, fs, v, rfl, T, no, h1, h2 dx rfl, lk, q⟩
end
theorem lk2 {f g : Str} {x y : V} (h : ¬ f = g) : List.lookup f [(g, y), (f, x)] = some x := by
  rw [lookup_put, if_neg h, lookup_put, if_pos rfl]
theorem lk1 {f : Str} {x : V} {r : List (Str × V)} : List.lookup f ((f, x) :: r) = some x := by
  rw [lookup_put, if_pos rfl]
def spRight (K : PySem.W.Frag) : Sp := fun vs H Q _ => ∃ (way : Int) (x y : V) (dx dy : PyData), vs = [.int way, x, y] ∧ Arg K H x dx ∧ Arg K H y dy ∧ Small dx ∧ Small dy ∧ ∀ H', Same H H' → Q (.bl true) H'
theorem canLay_bools : ∀ bs : List Bool, PyData.canLayAll0 (bs.map PyData.bool) = true
  | [] => by simp [PyData.canLayAll0]
  | b :: bs => by simp [PyData.canLayAll0, PyData.canLay0, canLay_bools bs]
theorem depth_bools : ∀ bs : List Bool, PyData.depthAll (bs.map PyData.bool) = 0
  | [] => by simp [PyData.depthAll]
  | b :: bs => by simp [PyData.depthAll, PyData.depth, depth_bools bs]
theorem shaped_bools (bs : List Bool) : SeqAt.shaped (.list (bs.map PyData.bool)) = true := by
  show (PyData.canLay0 (.list (bs.map PyData.bool)) && decide (PyData.depth (.list (bs.map PyData.bool)) ≤ 64)) = true
  rw [Bool.and_eq_true]
  refine ⟨by simp only [PyData.canLay0]; exact canLay_bools bs, decide_eq_true ?_⟩
  simp only [PyData.depth, depth_bools]
  omega
theorem dp_bools {K : PySem.W.Frag} {H : Hp} : ∀ bs : List Bool, DpAll K H (bs.map V.bl) (bs.map PyData.bool)
  | [] => .nil
  | b :: bs => .cons (.bl b) (dp_bools bs)
theorem eqvAll_bools : ∀ bs : List Bool, PyData.eqvAll (bs.map PyData.bool) (bs.map PyData.bool) = true
  | [] => by simp [PyData.eqvAll]
  | b :: bs => by simp [PyData.eqvAll, PyData.eqv, eqvAll_bools bs]
theorem eqv_bools (bs : List Bool) : PyData.eqv (.list (bs.map PyData.bool)) (.list (bs.map PyData.bool)) = true := by
  simp only [PyData.eqv, eqvAll_bools]
theorem eqvAll_ints : ∀ ns : List Int, PyData.eqvAll (ns.map PyData.int) (ns.map PyData.int) = true
  | [] => by simp [PyData.eqvAll]
  | n :: ns => by simp [PyData.eqvAll, PyData.eqv, eqvAll_ints ns]
theorem eqv_ints (ns : List Int) : PyData.eqv (.list (ns.map PyData.int)) (.list (ns.map PyData.int)) = true := by
  simp only [PyData.eqv, eqvAll_ints]
/-- two lists of the same ints differ nowhere -/
theorem ne_ints {K : PySem.W.Frag} {H : Hp} {a b : Addr} {ns : List Int} {Q : Bool → Hp → Prop} (ha : H a = some (.lst (ns.map V.int))) (hb : H b = some (.lst (ns.map V.int))) (q : Q false H) :
    rNeD K (.ref a) (.ref b) H fun x H' => ∃ k, x = .bl k ∧ Q k H' := by
  refine ⟨_, _, dp_list ha, dp_list hb, shaped_ints ns, shaped_ints ns, _, rfl, ?_⟩
  rw [eqv_ints]
  exact q
theorem ne_bools {K : PySem.W.Frag} {H : Hp} {a b : Addr} {bs : List Bool} {Q : Bool → Hp → Prop} (ha : H a = some (.lst (bs.map V.bl))) (hb : H b = some (.lst (bs.map V.bl))) (q : Q false H) :
    rNeD K (.ref a) (.ref b) H fun x H' => ∃ k, x = .bl k ∧ Q k H' := by
  refine ⟨_, _, .lst (SqL.of ha) (dp_bools bs), .lst (SqL.of hb) (dp_bools bs), shaped_bools bs, shaped_bools bs, _, rfl, ?_⟩
  rw [eqv_bools]
  exact q
section
variable {P : Program} {w : World} {K : PySem.W.Frag} {mg : Str → Option Value} {base : Heap}
theorem scR : FnScope ["way", "x", "y", "made", "fields", "at", "one", "k", "is_so"] ["way", "x", "y"] (defScope sRight) := ⟨rfl, rfl, rfl, by decide +kernel, rfl, by decide +kernel, by decide +kernel⟩
theorem ok_right {f fMd fMk fAb : Addr} {c : Nat → Addr} {fd fdMd fdMk fdAb : FuncData} (F : Fun K "_law_right" "_law_right" sRight f fd) (T : Txt5 K mg c)
    (GMd : FnOk P w K mg base CX0 4 fMd fdMd ["way", "x", "y"] (spMade K c)) (bMd : Binds K fdMd ["way", "x", "y"] []) (kMd : PySem.W.keepIn K (.ref fMd) = true) (mMd : mg "_law_made" = some (.ref fMd))
    (GMk : FnOk P w K mg base CX0 1 fMk fdMk ["one"] (spMarks c)) (bMk : Binds K fdMk ["one"] []) (kMk : PySem.W.keepIn K (.ref fMk) = true) (mMk : mg "_law_marks" = some (.ref fMk))
    (GAb : FnOk P w K mg base CX0 1 fAb fdAb ["one"] (spAbove c)) (bAb : Binds K fdAb ["one"] []) (kAb : PySem.W.keepIn K (.ref fAb) = true) (mAb : mg "_law_above" = some (.ref fAb)) :
    FnG P w K mg base CX0 5 f fd ["way", "x", "y"] (spRight K) := by
  refine okG F scR (fun vs H Q E h => ?_) (fun cdv A outer s H vs Q E hr hgd h => ?_)
  · obtain ⟨way, x, y, dx, dy, rfl, _⟩ := h
    rfl
  · obtain ⟨way, x, y, dx, dy, rfl, ax, ay, smx, smy, q⟩ := h
    have hr1 : Room 1 _ := hr.mono (by decide)
    have hu2 := hr.units
    have gd : (A.deeper (PyProof.Rows.envOfC "_law_right" (defScope sRight) s.heap.objs.size f cdv)).guards = some [] := hgd
    refine ⟨_, pss_cons (ps_set (i := 3) scR.nd rfl (Or.inl rfl) (pe_call GMd hr rfl mMd kMd bMd .nil pass0 (pa_cons (pv 0) (pa_cons (pv 1) (pa_cons (pv 2) pa_nil)))))
      (pss_cons (ps_set (i := 4) scR.nd rfl (Or.inl rfl) (pe_lst (pa_cons (pe_xfld (pe_ix ix_list (pv 3) pe_int (fun _ _ => rfl))) (pa_cons (pe_xfld (pe_ix ix_list (pv 3) pe_int (fun _ _ => rfl))) (pa_cons (pe_xfld (pe_ix ix_list (pv 3) pe_int (fun _ _ => rfl)))
        (pa_cons (pe_xfld (pe_ix ix_list (pv 3) pe_int (fun _ _ => rfl))) (pa_cons (pe_xfld (pe_ix ix_list (pv 3) pe_int (fun _ _ => rfl))) pa_nil)))))))
      (pss_cons (ps_set (i := 4) scR.nd rfl (Or.inl rfl) (pe_op op_cat (pv 4) (pe_lst (pa_cons (pe_xfld (pe_ix ix_list (pv 3) pe_int (fun _ _ => rfl))) (pa_cons (pe_xfld (pe_ix ix_list (pv 3) pe_int (fun _ _ => rfl)))
        (pa_cons (pe_xfld (pe_ix ix_list (pv 3) pe_int (fun _ _ => rfl))) (pa_cons (pe_xfld (pe_ix ix_list (pv 3) pe_int (fun _ _ => rfl))) pa_nil)))))))
      (pss_cons (ps_if (pt_cmpR op_ne (pe_callB (call_show gd hu2) (by rfl) T.rep PyProof.Rows.boot_repr (pa_cons (pv 4) pa_nil))
          (pe_callB (call_show gd hu2) (by rfl) T.rep PyProof.Rows.boot_repr (pa_cons (pe_lst (pa_cons (pv 1) (pa_cons (pv 1) (pa_cons (pv 2) (pa_cons (pv 2) (pa_cons (pv 1) (pa_cons (pv 1) (pa_cons (pv 2) (pa_cons (pv 1) (pa_cons (pv 2) pa_nil)))))))))) pa_nil)) (nomark _))
        (pss_one (ps_ret pe_bl)) pss_nil)
      (pss_cons (ps_for PassesOwn.never rfl (pi_enum (by rfl) T.enu (pa_cons (pv 3) pa_nil)) (pg_tup rfl (pgs_cons (pg_name (i := 5) scR.nd rfl (Or.inl rfl)) (pgs_cons (pg_name (i := 6) scR.nd rfl (Or.inl rfl)) pgs_nil)))
        (pss_cons (ps_if (pt_cmpR (op_neD hu2) (pe_lc (own := [("k", 7), ("is_so", 8)]) (g := gTup K 2 (gCons (gName 7) (gCons (gName 8) gNil))) rfl scR.nd (pi_enum (by rfl) T.enu (pa_cons (pe_call GMk hr1 rfl mMk kMk bMk .nil pass0 (pa_cons (pv 6) pa_nil)) pa_nil))
            (blkOk_by (N := ["way", "x", "y", "made", "fields", "at", "one", "k", "is_so"]) (sc := defScope sRight) (by decide +kernel))
            (fun _ _ _ _ _ => pg_tup rfl (pgs_cons (pg_name (i := 7) scR.nd rfl (Or.inl rfl)) (pgs_cons (pg_name (i := 8) scR.nd rfl (Or.inl rfl)) pgs_nil))) (fun _ _ _ _ _ => pts_one (pt_val (pv 8))) (fun _ _ _ _ _ => pv 7))
            (pe_lst (pa_cons (pv 5) pa_nil)) (nomark _)) (pss_one (ps_ret pe_bl)) pss_nil)
        (pss_one (ps_if (pt_cmpR (op_neD hu2) (pe_call GAb hr1 rfl mAb kAb bAb .nil pass0 (pa_cons (pv 6) pa_nil))
          (pe_lst (pa_cons (pe_cmpR op_lt (pv 5) pe_int (nomark _)) (pa_cons (pe_cmpR op_eq (pv 5) pe_int (nomark _)) (pa_cons (pe_cmpR op_eq (pv 5) pe_int (nomark _)) (pa_cons (pe_cmpR op_eq (pv 5) pe_int (nomark _)) (pa_cons pe_bl (pa_cons pe_bl pa_nil))))))) (nomark _)) (pss_one (ps_ret pe_bl)) pss_nil))))
      (pss_one (ps_ret pe_bl)))))), ?_⟩
    refine ⟨_, rfl, _, rfl, _, rfl, way, x, y, dx, dy, rfl, ax, ay, fun lm H1 as nm hm xm s1 => ?_⟩
    have X0 := xm 0 (by decide)
    have X1 := xm 1 (by decide)
    have X2 := xm 2 (by decide)
    have X3 := xm 3 (by decide)
    have X4 := xm 4 (by decide)
    have X6 := xm 6 (by decide)
    have X8 := xm 8 (by decide)
    refine rd_fld rfl hm rfl (by decide) (T.xc 0 (by decide)) T.f0 X0 lk1 ?_
    refine rd_fld rfl hm rfl (by decide) (T.xc 1 (by decide)) T.f1 X1 (lk2 (by decide +kernel)) ?_
    refine rd_fld rfl hm rfl (by decide) (T.xc 1 (by decide)) T.f1' X1 lk1 ?_
    refine rd_fld rfl hm rfl (by decide) (T.xc 2 (by decide)) T.f2 X2 lk1 ?_
    refine rd_fld rfl hm rfl (by decide) (T.xc 3 (by decide)) T.f3 X3 lk1 ?_
    refine ⟨(by show 5 ≤ sizeLine; decide), fun l1 h1 => ?_⟩
    have u1 := same_upd (o := HO.lst [x, x, y, y, x]) h1
    have hm1 := u1 _ _ hm
    refine ⟨_, rfl, ?_⟩
    refine rd_fld rfl hm1 rfl (by decide) (T.xc 4 (by decide)) T.f4 (X4.same u1) (lk2 (by decide +kernel)) ?_
    refine rd_fld rfl hm1 rfl (by decide) (T.xc 4 (by decide)) T.f4' (X4.same u1) lk1 ?_
    refine rd_fld rfl hm1 rfl (by decide) (T.xc 6 (by decide)) T.f6 (X6.same u1) lk1 ?_
    refine rd_fld rfl hm1 rfl (by decide) (T.xc 8 (by decide)) T.f8 (X8.same u1) lk1 ?_
    refine ⟨(by show 4 ≤ sizeLine; decide), fun l2 h2 => ?_⟩
    have u2 := same_upd (o := HO.lst [x, y, x, y]) h2
    refine ⟨l1, l2, _, _, rfl, rfl, u2 _ _ upd_same, upd_same, (by show 9 ≤ sizeLine; decide), fun l3 h3 => ?_⟩
    have u3 := same_upd (o := HO.lst ([x, x, y, y, x] ++ [x, y, x, y])) h3
    have s3 := s1.trans (u1.trans (u2.trans u3))
    -- both texts
    have ax3 := (ax.same s3).sh
    have ay3 := (ay.same s3).sh
    refine ⟨_, rfl, l3, x, _, [dx, dx, dy, dy, dx, dx, dy, dx, dy], rfl, upd_same,
      .cons ax3 smx (.cons ax3 smx (.cons ay3 smy (.cons ay3 smy (.cons ax3 smx (.cons ax3 smx (.cons ay3 smy (.cons ax3 smx (.cons ay3 smy .nil)))))))), (by show 8 ≤ 1000; decide), ?_⟩
    refine ⟨_, rfl, _, rfl, _, rfl, _, rfl, _, rfl, _, rfl, _, rfl, _, rfl, _, rfl, (by show 9 ≤ sizeLine; decide), fun l4 h4 => ?_⟩
    have u4 := same_upd (o := HO.lst [x, x, y, y, x, x, y, x, y]) h4
    have s4 := s3.trans u4
    have ax4 := (ax.same s4).sh
    have ay4 := (ay.same s4).sh
    refine ⟨l4, x, _, [dx, dx, dy, dy, dx, dx, dy, dx, dy], rfl, upd_same,
      .cons ax4 smx (.cons ax4 smx (.cons ay4 smy (.cons ay4 smy (.cons ax4 smx (.cons ax4 smx (.cons ay4 smy (.cons ax4 smx (.cons ay4 smy .nil)))))))), (by show 8 ≤ 1000; decide), rfl, _, rfl, ?_⟩
    refine iteF' (by simp) ?_
    have sL := u1.trans (u2.trans (u3.trans u4))
    refine ⟨_, rfl, lm, _, rfl, SqL.of (sL _ _ hm), for_it walk_enum (fun i σ H' => ∃ v5 v6 : Option V, σ = [some (.int way), some x, some y, some (.ref lm), some (.ref l3), v5, v6, none, none] ∧ Same H1 H')
      ⟨none, none, rfl, sL⟩ (fun i σ H' _ ⟨_, _, _, s⟩ => SqL.of (s _ _ hm)) ?_ ?_⟩
    · rintro i v σ H5 H6 hi ⟨v5, v6, rfl, s5⟩ ⟨Tp, xi, xo, rfl, nT, rfl, e1, e2⟩
      have hi9 : i < 9 := by simpa using hi
      cases e1
      dsimp only at e2
      rw [List.getElem?_map, List.getElem?_range hi9] at e2
      cases e2
      have uT := same_upd (o := HO.tup [V.int (i : Nat), V.ref (as i)]) nT
      have s6 := s5.trans uT
      have xi6 := (xm i hi9).same s6
      refine ⟨Tp, _, rfl, SqT.of upd_same, rfl, _, _, rfl, _, _, rfl, rfl, ?_⟩
      refine ⟨_, rfl, as i, i, flds x y i, rfl, hi9, xi6, fun lk Hk nk ek sk => ⟨lk, _, rfl, SqL.of ek, fun D hD => ?_⟩⟩
      have uD := same_upd (o := HO.lst []) hD
      refine lc_it walk_enum (fun k H' => ∃ acc : List Int, H' D = some (.lst (acc.map V.int)) ∧ acc = (if i < k then [(i : Int)] else []) ∧ ∀ b o, Hk b = some o → H' b = some o)
        ⟨[], upd_same, by simp, fun b o e => uD _ _ e⟩ (fun k H' _ ⟨_, _, _, kp⟩ => SqL.of (kp _ _ ek)) ?_ ?_
      · rintro k v H7 H8 hk ⟨acc, ha, hacc, kp⟩ ⟨T2, xk, xb, rfl, nT2, rfl, e3, e4⟩
        have hk9 : k < 9 := by simpa using hk
        cases e3
        dsimp only at e4
        rw [List.getElem?_map, List.getElem?_range hk9] at e4
        cases e4
        have DT : D ≠ T2 := ne_of_none ha nT2
        have kp2 : ∀ b o, Hk b = some o → upd H7 T2 (.tup [V.int (k : Nat), V.bl (decide (k = i))]) b = some o := fun b o e => same_upd nT2 _ _ (kp b o e)
        refine ⟨T2, _, rfl, SqT.of upd_same, rfl, _, _, rfl, _, _, rfl, rfl, rfl, _, rfl, _, rfl, ?_⟩
        refine ite2 (fun z => ?_) (fun z => ?_)
        · have z2 : k = i := of_decide_eq_true z
          subst z2
          rw [if_neg (by omega)] at hacc
          subst hacc
          refine ⟨_, rfl, [], by rw [upd_ne DT]; exact ha, (by decide), [(k : Int)], upd_same, by simp, fun b o e => ?_⟩
          rw [upd_ne (ne_of_none e hD)]
          exact kp2 b o e
        · have z2 : ¬ k = i := fun y => z (decide_eq_true y)
          refine ⟨acc, by rw [upd_ne DT]; exact ha, ?_, kp2⟩
          rw [hacc]
          by_cases h : i < k
          · rw [if_pos h, if_pos (by omega)]
          · rw [if_neg h, if_neg (by omega)]
      · rintro H7 ⟨acc, ha, hacc, kp⟩
        have len9 : ((List.range 9).map fun k => V.bl (decide (k = i))).length = 9 := by simp
        rw [len9, if_pos hi9] at hacc
        subst hacc
        refine ⟨_, rfl, (by show 1 ≤ sizeLine; decide), fun l5 h5 => ne_ints (ns := [(i : Int)]) (same_upd h5 _ _ ha) upd_same ?_⟩
        have u5 := same_upd (o := HO.lst [V.int (i : Nat)]) h5
        have s7 : Same H1 (upd H7 l5 (.lst [V.int (i : Nat)])) := fun b o e => u5 _ _ (kp _ _ (sk _ _ (s6 _ _ e)))
        refine iteF ?_
        refine ⟨_, rfl, as i, i, flds x y i, rfl, hi9, (xm i hi9).same s7, fun la Ha na ea sa => ?_⟩
        refine ⟨_, rfl, _, _, rfl, rfl, _, rfl, rfl, _, rfl, rfl, _, rfl, rfl, (by show 6 ≤ sizeLine; decide), fun l6 h6 => ?_⟩
        have u6 := fun o => same_upd (o := o) h6
        refine ne_bools (bs := aboveOf i) (u6 _ _ _ ea) ?_ ?_
        · rw [upd_same]
          have q1 : decide (((i : Nat) : Int) < 6) = decide (i < 6) := by
            by_cases h : i < 6
            · rw [decide_eq_true h, decide_eq_true (by omega)]
            · rw [decide_eq_false h, decide_eq_false (by omega)]
          have q2 : ∀ n : Nat, decide (V.int ((i : Nat) : Int) = V.int (n : Nat)) = decide (i = n) := fun n => by
            by_cases h : i = n
            · subst h
              simp
            · have z : ¬ V.int ((i : Nat) : Int) = V.int ((n : Nat) : Int) := fun z => h (by
                have z2 := V.int.inj z
                omega)
              rw [decide_eq_false h, decide_eq_false z]
          have q6 := q2 6
          have q7 := q2 7
          have q8 := q2 8
          show some (HO.lst [V.bl (decide (((i : Nat) : Int) < 6)), V.bl (decide (V.int ((i : Nat) : Int) = V.int ((6 : Nat) : Int))), V.bl (decide (V.int ((i : Nat) : Int) = V.int ((7 : Nat) : Int))), V.bl (decide (V.int ((i : Nat) : Int) = V.int ((8 : Nat) : Int))), V.bl false, V.bl false]) = _
          rw [q1, q6, q7, q8]
          rfl
        · refine iteF ?_
          exact ⟨some (.int (i : Nat)), some (.ref (as i)), rfl, (s7.trans sa).trans (u6 _)⟩
    · rintro σ H5 ⟨v5, v6, rfl, s5⟩
      exact q _ (s1.trans s5)
end
end K01
set_option Elab.async false
set_option linter.all false
set_option maxRecDepth 100000
set_option maxHeartbeats 4000000
/-! The law. -/
namespace K01
open PySem L2 L2.EV
abbrev sLaw : Stmt := top 18
structure Txt6 (mg : Str → Option Value) : Prop where
  rng : mg "range" = none
  min : mg "min" = none
  len : mg "len" = none
/-- what was tracked in H, but for the draws' dict and its list of great cells -/
def rs (H : Hp) (m l : Addr) : Hp := fun b => if b = m ∨ b = l then none else H b
theorem rs_at {H : Hp} {m l b : Addr} {o : HO} (e : H b = some o) (h1 : b ≠ m) (h2 : b ≠ l) : rs H m l b = some o := by
  unfold rs
  rw [if_neg (by intro z; rcases z with z | z; exact h1 z; exact h2 z)]
  exact e
theorem rs_same {H H' : Hp} {m l : Addr} (k : ∀ b o, H b = some o → b ≠ m → b ≠ l → H' b = some o) : Same (rs H m l) H' := fun b o e => by
  unfold rs at e
  by_cases h : b = m ∨ b = l
  · rw [if_pos h] at e
    cases e
  · rw [if_neg h] at e
    exact k b o e (fun z => h (.inl z)) (fun z => h (.inr z))
/-- a further draw -/
theorem step {H1 Ha Hb : Hp} {m c l0 l l' : Addr} {k : Int} (kp : ∀ b o, H1 b = some o → b ≠ m → b ≠ l0 → Ha b = some o) (fl : l = l0 ∨ H1 l = none) (M : MAt Ha m c l k)
    (kp' : ∀ b o, Ha b = some o → b ≠ m → b ≠ l → Hb b = some o) (fl' : l' = l ∨ Ha l' = none) :
    (∀ b o, H1 b = some o → b ≠ m → b ≠ l0 → Hb b = some o) ∧ (l' = l0 ∨ H1 l' = none) := by
  refine ⟨fun b o e h1 h2 => kp' b o (kp b o e h1 h2) h1 ?_, ?_⟩
  · rcases fl with z | z
    · rw [z]
      exact h2
    · exact ne_of_none e z
  · rcases fl' with z | z
    · rw [z]
      exact fl
    · by_cases e0 : l' = l0
      · exact .inl e0
      · refine .inr ?_
        cases e : H1 l' with
        | none => rfl
        | some o =>
          have e1 : l' ≠ m := (ne_of_none M.hm z).symm
          rw [kp l' o e e1 e0] at z
          cases z
theorem apart {H0 H : Hp} {m c l p : Addr} {k : Int} (M : MAt H0 m c l k) (a : Same H0 H) (n : H p = none) : p ≠ m ∧ p ≠ l := by
  obtain ⟨ls, h1, _⟩ := M.hl
  exact ⟨(ne_of_none (a _ _ M.hm) n).symm, (ne_of_none (a _ _ h1) n).symm⟩
theorem small_of {d : PyData} (h : (d.showable && decide (d.shown.length ≤ 60) && decide (d.depth ≤ 5)) = true) : Small d := by
  rw [Bool.and_eq_true, Bool.and_eq_true] at h
  exact ⟨h.1.1, of_decide_eq_true h.1.2, of_decide_eq_true h.2⟩
def spLaw (K : PySem.W.Frag) : Sp := fun vs H Q _ => ∃ (a : Addr) (ns : List Int), vs = [.ref a] ∧ SqL K H a (ns.map V.int) ∧ ns.length ≤ 63 ∧ ∀ H', Q (.bl true) H'
section
variable {P : Program} {w : World} {K : PySem.W.Frag} {mg : Str → Option Value} {base : Heap}
theorem scL : FnScope ["script", "m", "some", "turn"] ["script"] (defScope sLaw) := ⟨rfl, rfl, rfl, by decide +kernel, rfl, by decide +kernel, by decide +kernel⟩
theorem ok_law {f fB fN fR : Addr} {fd fdB fdN fdR : FuncData} (F : Fun K "law" "law" sLaw f fd) (T : Txt6 mg)
    (GB : FnOk P w K mg base CX0 1 fB fdB ["script"] (spBegun K)) (bB : Binds K fdB ["script"] []) (kB : PySem.W.keepIn K (.ref fB) = true) (mB : mg "_law_begun" = some (.ref fB))
    (GN : FnOk P w K mg base CX0 1 fN fdN ["m", "many"] spNext) (bN : Binds K fdN ["m", "many"] []) (kN : PySem.W.keepIn K (.ref fN) = true) (mN : mg "_law_next" = some (.ref fN))
    (GR : FnG P w K mg base CX0 5 fR fdR ["way", "x", "y"] (spRight K)) (bR : Binds K fdR ["way", "x", "y"] []) (kR : PySem.W.keepIn K (.ref fR) = true) (mR : mg "_law_right" = some (.ref fR)) :
    FnG P w K mg base CX0 6 f fd ["script"] (spLaw K) := by
  refine okG F scL (fun vs H Q E h => ?_) (fun cdv A outer s H vs Q E hr hgd h => ?_)
  · obtain ⟨a, ns, rfl, _⟩ := h
    rfl
  · obtain ⟨a, ns, rfl, hS, hlen, q⟩ := h
    have hr1 : Room 1 _ := hr.mono (by decide)
    have gd : (A.deeper (PyProof.Rows.envOfC "law" (defScope sLaw) s.heap.objs.size f cdv)).guards = some [] := hgd
    refine ⟨_, pss_cons (ps_set (i := 1) scL.nd rfl (Or.inl rfl) (pe_call GB hr1 rfl mB kB bB .nil pass0 (pa_cons (pv 0) pa_nil)))
      (pss_cons (ps_set (i := 2) scL.nd rfl (Or.inl rfl) (pe_lst (pa_cons pe_non (pa_cons pe_int (pa_cons (pe_un un_neg pe_int) (pa_cons pe_int (pa_cons pe_bl (pa_cons pe_str (pa_cons pe_str (pa_cons (pe_tup pa_nil)
        (pa_cons (pe_tup (pa_cons pe_int (pa_cons pe_int pa_nil))) (pa_cons (pe_lst (pa_cons pe_int (pa_cons pe_int pa_nil))) (pa_cons (pe_disp (pps_cons pe_str pe_int pps_nil) rfl rfl (by simp) (by decide))
        (pa_cons (pe_op op_pow pe_int pe_int) (pa_cons (pe_tup (pa_cons pe_int (pa_cons (pe_tup (pa_cons pe_int (pa_cons pe_int pa_nil))) pa_nil))) (pa_cons pe_bl pa_nil))))))))))))))))
      (pss_cons (ps_for PassesOwn.never rfl (pi_range1 (by rfl) T.rng (pa_cons (pe_op op_add pe_int (pe_callB (call_min2 rfl) (by rfl) T.min (by decide +kernel) (pa_cons (pe_callB call_len_seq (by rfl) T.len PySem.boot_len (pa_cons (pv 0) pa_nil)) (pa_cons pe_int pa_nil)))) pa_nil))
          (pg_name (i := 3) scL.nd rfl (Or.inl rfl))
        (pss_one (ps_if (pt_not (pt_val (pe_callG GR hr gd (by rfl) mR kR bR pass0 (pa_cons (pe_call GN hr1 rfl mN kN bN .nil pass0 (pa_cons (pv 1) (pa_cons pe_int pa_nil)))
          (pa_cons (pe_ix ix_list (pv 2) (pe_call GN hr1 rfl mN kN bN .nil pass0 (pa_cons (pv 1) (pa_cons pe_int pa_nil))) (fun _ _ => rfl))
          (pa_cons (pe_ix ix_list (pv 2) (pe_call GN hr1 rfl mN kN bN .nil pass0 (pa_cons (pv 1) (pa_cons pe_int pa_nil))) (fun _ _ => rfl)) pa_nil)))))) (pss_one (ps_ret pe_bl)) pss_nil)))
      (pss_one (ps_ret pe_bl)))), ?_⟩
    refine ⟨_, rfl, a, ns, rfl, hS, by omega, fun m c l0 H0 M0 nm0 nc0 nl0 s0 => ?_⟩
    refine ⟨_, rfl, (by decide), fun p7 h7 => ⟨(by show 2 ≤ sizeLine; decide), fun p8 h8 => ⟨(by show 2 ≤ sizeLine; decide), fun p9 h9 => ?_⟩⟩⟩
    refine fun p10 h10 => ⟨upd_same, [(Sum.inr "a", V.int 1)], rfl, (by show 1 ≤ 15; decide), 10, 30, rfl, rfl, ⟨by decide, by decide, by decide⟩,
      (by show 2 ≤ sizeLine; decide), fun g12 hg => ⟨(by show 2 ≤ sizeLine; decide), fun p12 h12 => ⟨(by show 14 ≤ sizeLine; decide), fun ps hps => ?_⟩⟩⟩
    have u7 := same_upd (o := HO.tup []) h7
    have u8 := same_upd (o := HO.tup [V.int 1, V.int 2]) h8
    have u9 := same_upd (o := HO.lst [V.int 1, V.int 2]) h9
    have u10 : Same _ (upd (upd (upd (upd (upd H0 p7 (.tup [])) p8 (.tup [V.int 1, V.int 2])) p9 (.lst [V.int 1, V.int 2])) p10 (.dK [])) p10 (.dK (mergeK [] [(Sum.inr "a", V.int 1)]))) := fun b o e => by
      rw [upd_ne (ne_of_none e h10), upd_ne (ne_of_none e h10)]
      exact e
    have ug := same_upd (o := HO.tup [V.int 0, V.int 2]) hg
    have u12 := same_upd (o := HO.tup [V.int 1, V.ref g12]) h12
    have ups := fun o => same_upd (o := o) hps
    have a9 := u7.trans u8
    have a10 := a9.trans u9
    have ag := a10.trans u10
    have a12 := ag.trans ug
    have aps := a12.trans u12
    obtain ⟨x7, y7⟩ := apart M0 (Same.refl _) h7
    obtain ⟨x8, y8⟩ := apart M0 u7 h8
    obtain ⟨x9, y9⟩ := apart M0 a9 h9
    obtain ⟨x10, y10⟩ := apart M0 a10 h10
    obtain ⟨xg, yg⟩ := apart M0 ag hg
    obtain ⟨x12, y12⟩ := apart M0 a12 h12
    obtain ⟨xps, yps⟩ := apart M0 aps hps
    have r12 := ups
    have rg := fun o => u12.trans (ups o)
    have r10 := fun o => ug.trans (rg o)
    have r9 := fun o => u10.trans (r10 o)
    have r8 := fun o => u9.trans (r9 o)
    have r7 := fun o => u8.trans (r8 o)
    have r0 := fun o => u7.trans (r7 o)
    obtain ⟨vals, hvals⟩ : ∃ vals : List V, vals = [V.non, V.int 0, V.int (-1), V.int 7, V.bl true, V.str "", V.str "form", V.ref p7, V.ref p8, V.ref p9, V.ref p10, V.int (10 ^ (30 : Int).toNat), V.ref p12, V.bl false] := ⟨_, rfl⟩
    obtain ⟨H1, hH1⟩ : ∃ H1 : Hp, H1 = upd (upd (upd (upd (upd (upd (upd (upd H0 p7 (.tup [])) p8 (.tup [V.int 1, V.int 2])) p9 (.lst [V.int 1, V.int 2])) p10 (.dK [])) p10 (.dK (mergeK [] [(Sum.inr "a", V.int 1)]))) g12 (.tup [V.int 0, V.int 2])) p12 (.tup [V.int 1, V.ref g12])) ps (.lst vals) := ⟨_, rfl⟩
    have e7 : H1 p7 = some (.tup []) := by rw [hH1]; exact r7 _ _ _ upd_same
    have e8 : H1 p8 = some (.tup [V.int 1, V.int 2]) := by rw [hH1]; exact r8 _ _ _ upd_same
    have e9 : H1 p9 = some (.lst [V.int 1, V.int 2]) := by rw [hH1]; exact r9 _ _ _ upd_same
    have e10 : H1 p10 = some (.dK [(Sum.inr "a", V.int 1)]) := by rw [hH1]; exact r10 _ _ _ upd_same
    have eg : H1 g12 = some (.tup [V.int 0, V.int 2]) := by rw [hH1]; exact rg _ _ _ upd_same
    have e12 : H1 p12 = some (.tup [V.int 1, V.ref g12]) := by rw [hH1]; exact r12 _ _ _ upd_same
    have eps : H1 ps = some (.lst vals) := by rw [hH1]; exact upd_same
    have s1 : Same H0 H1 := by rw [hH1]; exact r0 _
    have hall : ∀ v ∈ vals, ∃ d, Arg K (rs H1 m l0) v d ∧ Small d := by
      rw [hvals]
      intro v hv
      simp only [List.mem_cons, List.not_mem_nil, or_false] at hv
      rcases hv with rfl | rfl | rfl | rfl | rfl | rfl | rfl | rfl | rfl | rfl | rfl | rfl | rfl | rfl
      · exact ⟨_, .non, small_of (by decide +kernel)⟩
      · exact ⟨_, .int _, small_of (by decide +kernel)⟩
      · exact ⟨_, .int _, small_of (by decide +kernel)⟩
      · exact ⟨_, .int _, small_of (by decide +kernel)⟩
      · exact ⟨_, .bl _, small_of (by decide +kernel)⟩
      · exact ⟨_, .str _, small_of (by decide +kernel)⟩
      · exact ⟨_, .str _, small_of (by decide +kernel)⟩
      · exact ⟨_, .tup (rs_at e7 x7 y7) .nil rfl, small_of (by decide +kernel)⟩
      · exact ⟨_, .tup (rs_at e8 x8 y8) (.cons (.int 1) (.cons (.int 2) .nil)) (by decide +kernel), small_of (by decide +kernel)⟩
      · exact ⟨_, .lst (rs_at e9 x9 y9) (.cons (.int 1) (.cons (.int 2) .nil)) (by decide +kernel), small_of (by decide +kernel)⟩
      · exact ⟨_, .dct (rs_at e10 x10 y10), small_of (by decide +kernel)⟩
      · exact ⟨_, .int _, small_of (by decide +kernel)⟩
      · exact ⟨_, .tup (rs_at e12 x12 y12) (.cons (.int 1) (.cons (.tup (SqT.of (rs_at eg xg yg)) (.cons (.int 0) (.cons (.int 2) .nil))) .nil)) (by decide +kernel), small_of (by decide +kernel)⟩
      · exact ⟨_, .bl _, small_of (by decide +kernel)⟩
    have len14 : vals.length = 14 := by rw [hvals]; rfl
    rw [← hvals, ← hH1]
    have M1 := M0.same s1
    have hmin : ∀ n : Nat, (0 : Int) ≤ (if (5 : Int) < (n : Int) then 5 else (n : Int)) ∧ (if (5 : Int) < (n : Int) then 5 else (n : Int)) ≤ 5 := fun n => by
      by_cases h : (5 : Int) < (n : Int)
      · rw [if_pos h]
        omega
      · rw [if_neg h]
        omega
    have hj := hmin (ns.map V.int).length
    refine ⟨_, rfl, a, _, rfl, .inl ((s0.trans s1).seq hS), _, _, rfl, _, _, rfl, rfl, _, rfl, ?_, ?_, ?_⟩
    · omega
    · omega
    -- the turns
    have pick : ∀ r : Int, 0 ≤ r → r < 14 → ∃ (v : V) (d : PyData), atI vals r = some v ∧ Arg K (rs H1 m l0) v d ∧ Small d := fun r r0 r14 => by
      obtain ⟨j, rfl⟩ := Int.eq_ofNat_of_zero_le r0
      have jl : j < vals.length := by omega
      obtain ⟨d, h1, h2⟩ := hall vals[j] (List.getElem_mem jl)
      exact ⟨vals[j], d, atI_nat (List.getElem?_eq_getElem jl), h1, h2⟩
    refine for_range (lo := 0) (fun i σ H' => ∃ (v3 : Option V) (l : Addr) (k : Int), σ = [some (.ref a), some (.ref m), some (.ref ps), v3] ∧ MAt H' m c l k ∧ k ≤ 3 * (i : Nat) ∧ (l = l0 ∨ H1 l = none) ∧
      (∀ b o, H1 b = some o → b ≠ m → b ≠ l0 → H' b = some o)) ⟨none, l0, 0, rfl, M1, by omega, .inl rfl, fun b o e _ _ => e⟩ ?_ ?_
    · rintro i σ H' hi ⟨v3, l, k, rfl, M, hk, fl, kp⟩
      have ib : i < 7 := by omega
      refine ⟨_, rfl, m, c, l, k, 2, rfl, M, by decide, by decide, by omega, fun r1 Ha la ka r10 r1l kle Ma fla kpa => ?_⟩
      obtain ⟨kp1, fl1⟩ := step kp fl M kpa fla
      refine ⟨_, rfl, _, rfl, m, c, la, ka, 14, rfl, Ma, by decide, by decide, by omega, fun r2 Hb lb kb r20 r2l kle2 Mb flb kpb => ?_⟩
      obtain ⟨kp2, fl2⟩ := step kp1 fl1 Ma kpb flb
      obtain ⟨v2, d2, at2, ar2, sm2⟩ := pick r2 r20 r2l
      refine ⟨ps, _, r2, v2, rfl, rfl, SqL.of (kp2 _ _ eps xps yps), at2, ?_⟩
      refine ⟨_, rfl, _, rfl, m, c, lb, kb, 14, rfl, Mb, by decide, by decide, by omega, fun r3 Hc lc kc r30 r3l kle3 Mc flc kpc => ?_⟩
      obtain ⟨kp3, fl3⟩ := step kp2 fl2 Mb kpc flc
      obtain ⟨v3', d3, at3, ar3, sm3⟩ := pick r3 r30 r3l
      refine ⟨ps, _, r3, v3', rfl, rfl, SqL.of (kp3 _ _ eps xps yps), at3, ?_⟩
      have sr := rs_same kp3
      refine ⟨r1, v2, v3', d2, d3, rfl, ar2.same sr, ar3.same sr, sm2, sm3, fun Hd sd => ⟨_, rfl, ?_⟩⟩
      refine iteF ?_
      exact ⟨_, lc, kc, rfl, Mc.same sd, by push_cast; omega, fl3, fun b o e h1 h2 => sd _ _ (kp3 b o e h1 h2)⟩
    · rintro σ H' _
      exact q H'
end
end K01
set_option Elab.async false
set_option linter.all false
set_option maxRecDepth 100000
set_option maxHeartbeats 8000000
/-! What the top has written. -/
namespace K01
open PySem L2 L2.EV
theorem oxc {K : PySem.W.Frag} {C N : Addr} {nm q : Str} {bs : List Value} {sn : List Str} {sub : List Value} {ab : Bool} {col : Option Bool} {dd : Option Addr} {k0 k1 k2 k3 k5 : Option Value} {B newId initId : String} {bm : List Value}
    (cl : K.lookup C = some (excClassObj nm q C N bs bm true sn sub ab col dd k0 k1 k2 k3 k5 newId)) (F : ExcBaseFacts B newId initId bm) (pas : ∀ self, refuseLoop self "__setattr__" bm = pure ()) (obj : bm.contains (.type "object") = true)
    (sa : PySem.W.findIn K (.ref C) "__setattr__" = some (some (.builtin "object.__setattr__"))) (ga : PySem.W.findIn K (.ref C) "__getattribute__" = some (some (.builtin "BaseException.__getattribute__")))
    (gg : PySem.W.findIn K (.ref C) "__getattr__" = some none) (exC : PySem.W.subIn K (.ref C) (.type "BaseException") = some true) (kC : PySem.W.keepIn K (.ref C) = true) (hd : PySem.W.hasDictIn K C = true)
    (ca : PySem.W.findIn K (.ref C) "__class__" = some (some (.builtin "object.__class__"))) (cn : PySem.W.specialIn K (.builtin "object.__class__") "__get__" = some (some (.builtin "getset_descriptor.__get__")))
    (ct : PySem.W.takesIn K (.builtin "object.__class__") = some true) (om : PySem.W.mroIn K C (.type "object") = some true) : OxC K C B newId initId bm :=
  ⟨F, ⟨nm, q, N, bs, sn, sub, ab, col, dd, k0, k1, k2, k3, k5, cl⟩, pas, obj, sa, ga, gg, exC, kC, hd, ca, cn, ct, om⟩
theorem all_mk {P : Program} {w : World} {K : PySem.W.Frag} {h : Heap} {mg : Str → Option Value} {fa fM fB fN fK fA fD fR fL C0 f0 C1 f1 C2 f2 C3 f3 C4 f4 C5 f5 C6 f6 C7 f7 C8 f8 : Addr} (X : K.In h) (G : h.Ns mainGlobals mg) (hfa : mg "law" = some (.ref fa))
    {odM anM : Option Addr} {slM : Array (Option Value)} {ocM kVM dcM pmM cdM ctM : Value}
    {odB anB : Option Addr} {slB : Array (Option Value)} {ocB kVB dcB pmB cdB ctB : Value}
    {odN anN : Option Addr} {slN : Array (Option Value)} {ocN kVN dcN pmN cdN ctN : Value}
    {odK anK : Option Addr} {slK : Array (Option Value)} {ocK kVK dcK pmK cdK ctK : Value}
    {odA anA : Option Addr} {slA : Array (Option Value)} {ocA kVA dcA pmA cdA ctA : Value}
    {odD anD : Option Addr} {slD : Array (Option Value)} {ocD kVD dcD pmD cdD ctD : Value}
    {odR anR : Option Addr} {slR : Array (Option Value)} {ocR kVR dcR pmR cdR ctR : Value}
    {odL anL : Option Addr} {slL : Array (Option Value)} {ocL kVL dcL pmL cdL ctL : Value}
    {od0 an0 : Option Addr} {sl0 : Array (Option Value)} {oc0 kV0 dc0 pm0 cd0 ct0 : Value}
    {od1 an1 : Option Addr} {sl1 : Array (Option Value)} {oc1 kV1 dc1 pm1 cd1 ct1 : Value}
    {od2 an2 : Option Addr} {sl2 : Array (Option Value)} {oc2 kV2 dc2 pm2 cd2 ct2 : Value}
    {od3 an3 : Option Addr} {sl3 : Array (Option Value)} {oc3 kV3 dc3 pm3 cd3 ct3 : Value}
    {od4 an4 : Option Addr} {sl4 : Array (Option Value)} {oc4 kV4 dc4 pm4 cd4 ct4 : Value}
    {od5 an5 : Option Addr} {sl5 : Array (Option Value)} {oc5 kV5 dc5 pm5 cd5 ct5 : Value}
    {od6 an6 : Option Addr} {sl6 : Array (Option Value)} {oc6 kV6 dc6 pm6 cd6 ct6 : Value}
    {od7 an7 : Option Addr} {sl7 : Array (Option Value)} {oc7 kV7 dc7 pm7 cd7 ct7 : Value}
    {od8 an8 : Option Addr} {sl8 : Array (Option Value)} {oc8 kV8 dc8 pm8 cd8 ct8 : Value}
    (aM : PySem.W.nsIn K mainGlobals "message" = some (some (.ref fM)))
    (lM : K.lookup fM = some ⟨ocM, odM, .func (PySem.W.fnOf "message" "message" (defArgs sMsg) (defBody sMsg) (defScope sMsg) .none kVM dcM pmM anM cdM ctM), slM⟩) (cM : PySem.W.codeIn K cdM "message" = true) (kM : PySem.W.keepIn K (.ref fM) = true)
    (aB : PySem.W.nsIn K mainGlobals "_law_begun" = some (some (.ref fB)))
    (lB : K.lookup fB = some ⟨ocB, odB, .func (PySem.W.fnOf "_law_begun" "_law_begun" (defArgs sBegun) (defBody sBegun) (defScope sBegun) .none kVB dcB pmB anB cdB ctB), slB⟩) (cB : PySem.W.codeIn K cdB "_law_begun" = true) (kB : PySem.W.keepIn K (.ref fB) = true)
    (aN : PySem.W.nsIn K mainGlobals "_law_next" = some (some (.ref fN)))
    (lN : K.lookup fN = some ⟨ocN, odN, .func (PySem.W.fnOf "_law_next" "_law_next" (defArgs sNext) (defBody sNext) (defScope sNext) .none kVN dcN pmN anN cdN ctN), slN⟩) (cN : PySem.W.codeIn K cdN "_law_next" = true) (kN : PySem.W.keepIn K (.ref fN) = true)
    (aK : PySem.W.nsIn K mainGlobals "_law_marks" = some (some (.ref fK)))
    (lK : K.lookup fK = some ⟨ocK, odK, .func (PySem.W.fnOf "_law_marks" "_law_marks" (defArgs sMarks) (defBody sMarks) (defScope sMarks) .none kVK dcK pmK anK cdK ctK), slK⟩) (cK : PySem.W.codeIn K cdK "_law_marks" = true) (kK : PySem.W.keepIn K (.ref fK) = true)
    (aA : PySem.W.nsIn K mainGlobals "_law_above" = some (some (.ref fA)))
    (lA : K.lookup fA = some ⟨ocA, odA, .func (PySem.W.fnOf "_law_above" "_law_above" (defArgs sAbove) (defBody sAbove) (defScope sAbove) .none kVA dcA pmA anA cdA ctA), slA⟩) (cA : PySem.W.codeIn K cdA "_law_above" = true) (kA : PySem.W.keepIn K (.ref fA) = true)
    (aD : PySem.W.nsIn K mainGlobals "_law_made" = some (some (.ref fD)))
    (lD : K.lookup fD = some ⟨ocD, odD, .func (PySem.W.fnOf "_law_made" "_law_made" (defArgs sMade) (defBody sMade) (defScope sMade) .none kVD dcD pmD anD cdD ctD), slD⟩) (cD : PySem.W.codeIn K cdD "_law_made" = true) (kD : PySem.W.keepIn K (.ref fD) = true)
    (aR : PySem.W.nsIn K mainGlobals "_law_right" = some (some (.ref fR)))
    (lR : K.lookup fR = some ⟨ocR, odR, .func (PySem.W.fnOf "_law_right" "_law_right" (defArgs sRight) (defBody sRight) (defScope sRight) .none kVR dcR pmR anR cdR ctR), slR⟩) (cR : PySem.W.codeIn K cdR "_law_right" = true) (kR : PySem.W.keepIn K (.ref fR) = true)
    (aL : PySem.W.nsIn K mainGlobals "law" = some (some (.ref fL)))
    (lL : K.lookup fL = some ⟨ocL, odL, .func (PySem.W.fnOf "law" "law" (defArgs sLaw) (defBody sLaw) (defScope sLaw) .none kVL dcL pmL anL cdL ctL), slL⟩) (cL : PySem.W.codeIn K cdL "law" = true) (kL : PySem.W.keepIn K (.ref fL) = true)
    (aC0 : PySem.W.nsIn K mainGlobals "BadFraming" = some (some (.ref C0)))
    (O0 : OxC K C0 "ValueError" "ValueError.__new__" "ValueError.__init__" [.type "ValueError", .type "Exception", .type "BaseException", .type "object"])
    (tC0 : PySem.W.typeIn K (.ref C0) = some (.type "type")) (iC0 : PySem.W.findIn K (.ref C0) "__init__" = some (some (.ref f0))) (tI0 : PySem.W.typeIn K (.ref f0) = some (.type "function"))
    (l0 : K.lookup f0 = some ⟨oc0, od0, .func (PySem.W.fnOf "__init__" "BadFraming.__init__" (defArgs sBadFraming) (defBody sBadFraming) (defScope sBadFraming) .none kV0 dc0 pm0 an0 cd0 ct0), sl0⟩) (c0 : PySem.W.codeIn K cd0 "BadFraming.__init__" = true) (k0 : PySem.W.keepIn K (.ref f0) = true)
    (n0_0 : PySem.W.findIn K (.ref C0) "number" = some none)
    (aC1 : PySem.W.nsIn K mainGlobals "BadReader" = some (some (.ref C1)))
    (O1 : OxC K C1 "ValueError" "ValueError.__new__" "ValueError.__init__" [.type "ValueError", .type "Exception", .type "BaseException", .type "object"])
    (tC1 : PySem.W.typeIn K (.ref C1) = some (.type "type")) (iC1 : PySem.W.findIn K (.ref C1) "__init__" = some (some (.ref f1))) (tI1 : PySem.W.typeIn K (.ref f1) = some (.type "function"))
    (l1 : K.lookup f1 = some ⟨oc1, od1, .func (PySem.W.fnOf "__init__" "BadReader.__init__" (defArgs sBadReader) (defBody sBadReader) (defScope sBadReader) .none kV1 dc1 pm1 an1 cd1 ct1), sl1⟩) (c1 : PySem.W.codeIn K cd1 "BadReader.__init__" = true) (k1 : PySem.W.keepIn K (.ref f1) = true)
    (n1_0 : PySem.W.findIn K (.ref C1) "part" = some none)
    (n1_1 : PySem.W.findIn K (.ref C1) "number" = some none)
    (aC2 : PySem.W.nsIn K mainGlobals "BadWeaving" = some (some (.ref C2)))
    (O2 : OxC K C2 "ValueError" "ValueError.__new__" "ValueError.__init__" [.type "ValueError", .type "Exception", .type "BaseException", .type "object"])
    (tC2 : PySem.W.typeIn K (.ref C2) = some (.type "type")) (iC2 : PySem.W.findIn K (.ref C2) "__init__" = some (some (.ref f2))) (tI2 : PySem.W.typeIn K (.ref f2) = some (.type "function"))
    (l2 : K.lookup f2 = some ⟨oc2, od2, .func (PySem.W.fnOf "__init__" "BadWeaving.__init__" (defArgs sBadWeaving) (defBody sBadWeaving) (defScope sBadWeaving) .none kV2 dc2 pm2 an2 cd2 ct2), sl2⟩) (c2 : PySem.W.codeIn K cd2 "BadWeaving.__init__" = true) (k2 : PySem.W.keepIn K (.ref f2) = true)
    (n2_0 : PySem.W.findIn K (.ref C2) "number" = some none)
    (aC3 : PySem.W.nsIn K mainGlobals "BadPaper" = some (some (.ref C3)))
    (O3 : OxC K C3 "ValueError" "ValueError.__new__" "ValueError.__init__" [.type "ValueError", .type "Exception", .type "BaseException", .type "object"])
    (tC3 : PySem.W.typeIn K (.ref C3) = some (.type "type")) (iC3 : PySem.W.findIn K (.ref C3) "__init__" = some (some (.ref f3))) (tI3 : PySem.W.typeIn K (.ref f3) = some (.type "function"))
    (l3 : K.lookup f3 = some ⟨oc3, od3, .func (PySem.W.fnOf "__init__" "BadPaper.__init__" (defArgs sBadPaper) (defBody sBadPaper) (defScope sBadPaper) .none kV3 dc3 pm3 an3 cd3 ct3), sl3⟩) (c3 : PySem.W.codeIn K cd3 "BadPaper.__init__" = true) (k3 : PySem.W.keepIn K (.ref f3) = true)
    (n3_0 : PySem.W.findIn K (.ref C3) "part" = some none)
    (aC4 : PySem.W.nsIn K mainGlobals "BadText" = some (some (.ref C4)))
    (O4 : OxC K C4 "ValueError" "ValueError.__new__" "ValueError.__init__" [.type "ValueError", .type "Exception", .type "BaseException", .type "object"])
    (tC4 : PySem.W.typeIn K (.ref C4) = some (.type "type")) (iC4 : PySem.W.findIn K (.ref C4) "__init__" = some (some (.ref f4))) (tI4 : PySem.W.typeIn K (.ref f4) = some (.type "function"))
    (l4 : K.lookup f4 = some ⟨oc4, od4, .func (PySem.W.fnOf "__init__" "BadText.__init__" (defArgs sBadText) (defBody sBadText) (defScope sBadText) .none kV4 dc4 pm4 an4 cd4 ct4), sl4⟩) (c4 : PySem.W.codeIn K cd4 "BadText.__init__" = true) (k4 : PySem.W.keepIn K (.ref f4) = true)
    (n4_0 : PySem.W.findIn K (.ref C4) "line" = some none)
    (n4_1 : PySem.W.findIn K (.ref C4) "word" = some none)
    (aC5 : PySem.W.nsIn K mainGlobals "OutOfPlace" = some (some (.ref C5)))
    (O5 : OxC K C5 "ValueError" "ValueError.__new__" "ValueError.__init__" [.type "ValueError", .type "Exception", .type "BaseException", .type "object"])
    (tC5 : PySem.W.typeIn K (.ref C5) = some (.type "type")) (iC5 : PySem.W.findIn K (.ref C5) "__init__" = some (some (.ref f5))) (tI5 : PySem.W.typeIn K (.ref f5) = some (.type "function"))
    (l5 : K.lookup f5 = some ⟨oc5, od5, .func (PySem.W.fnOf "__init__" "OutOfPlace.__init__" (defArgs sOutOfPlace) (defBody sOutOfPlace) (defScope sOutOfPlace) .none kV5 dc5 pm5 an5 cd5 ct5), sl5⟩) (c5 : PySem.W.codeIn K cd5 "OutOfPlace.__init__" = true) (k5 : PySem.W.keepIn K (.ref f5) = true)
    (aC6 : PySem.W.nsIn K mainGlobals "TooGreat" = some (some (.ref C6)))
    (O6 : OxC K C6 "OverflowError" "OverflowError.__new__" "OverflowError.__init__" [.type "OverflowError", .type "ArithmeticError", .type "Exception", .type "BaseException", .type "object"])
    (tC6 : PySem.W.typeIn K (.ref C6) = some (.type "type")) (iC6 : PySem.W.findIn K (.ref C6) "__init__" = some (some (.ref f6))) (tI6 : PySem.W.typeIn K (.ref f6) = some (.type "function"))
    (l6 : K.lookup f6 = some ⟨oc6, od6, .func (PySem.W.fnOf "__init__" "TooGreat.__init__" (defArgs sTooGreat) (defBody sTooGreat) (defScope sTooGreat) .none kV6 dc6 pm6 an6 cd6 ct6), sl6⟩) (c6 : PySem.W.codeIn K cd6 "TooGreat.__init__" = true) (k6 : PySem.W.keepIn K (.ref f6) = true)
    (n6_0 : PySem.W.findIn K (.ref C6) "most" = some none)
    (aC7 : PySem.W.nsIn K mainGlobals "Nothing" = some (some (.ref C7)))
    (O7 : OxC K C7 "LookupError" "LookupError.__new__" "LookupError.__init__" [.type "LookupError", .type "Exception", .type "BaseException", .type "object"])
    (tC7 : PySem.W.typeIn K (.ref C7) = some (.type "type")) (iC7 : PySem.W.findIn K (.ref C7) "__init__" = some (some (.ref f7))) (tI7 : PySem.W.typeIn K (.ref f7) = some (.type "function"))
    (l7 : K.lookup f7 = some ⟨oc7, od7, .func (PySem.W.fnOf "__init__" "Nothing.__init__" (defArgs sNothing) (defBody sNothing) (defScope sNothing) .none kV7 dc7 pm7 an7 cd7 ct7), sl7⟩) (c7 : PySem.W.codeIn K cd7 "Nothing.__init__" = true) (k7 : PySem.W.keepIn K (.ref f7) = true)
    (aC8 : PySem.W.nsIn K mainGlobals "Held" = some (some (.ref C8)))
    (O8 : OxC K C8 "RuntimeError" "RuntimeError.__new__" "RuntimeError.__init__" [.type "RuntimeError", .type "Exception", .type "BaseException", .type "object"])
    (tC8 : PySem.W.typeIn K (.ref C8) = some (.type "type")) (iC8 : PySem.W.findIn K (.ref C8) "__init__" = some (some (.ref f8))) (tI8 : PySem.W.typeIn K (.ref f8) = some (.type "function"))
    (l8 : K.lookup f8 = some ⟨oc8, od8, .func (PySem.W.fnOf "__init__" "Held.__init__" (defArgs sHeld) (defBody sHeld) (defScope sHeld) .none kV8 dc8 pm8 an8 cd8 ct8), sl8⟩) (c8 : PySem.W.codeIn K cd8 "Held.__init__" = true) (k8 : PySem.W.keepIn K (.ref f8) = true)
    (n8_0 : PySem.W.findIn K (.ref C8) "writer" = some none)
    (z_list : PySem.W.nsIn K mainGlobals "list" = some none)
    (z_int : PySem.W.nsIn K mainGlobals "int" = some none)
    (z_len : PySem.W.nsIn K mainGlobals "len" = some none)
    (z_isinstance : PySem.W.nsIn K mainGlobals "isinstance" = some none)
    (z_str : PySem.W.nsIn K mainGlobals "str" = some none)
    (z_ValueError : PySem.W.nsIn K mainGlobals "ValueError" = some none)
    (z_OverflowError : PySem.W.nsIn K mainGlobals "OverflowError" = some none)
    (z_LookupError : PySem.W.nsIn K mainGlobals "LookupError" = some none)
    (z_RuntimeError : PySem.W.nsIn K mainGlobals "RuntimeError" = some none)
    (z_KeyError : PySem.W.nsIn K mainGlobals "KeyError" = some none)
    (z_IndexError : PySem.W.nsIn K mainGlobals "IndexError" = some none)
    (z_repr : PySem.W.nsIn K mainGlobals "repr" = some none)
    (z_enumerate : PySem.W.nsIn K mainGlobals "enumerate" = some none)
    (z_range : PySem.W.nsIn K mainGlobals "range" = some none)
    (z_min : PySem.W.nsIn K mainGlobals "min" = some none)
    (v_ValueError : PySem.W.findCls K (.type "ValueError") (.type "type") "__init__" = some (.val (.builtin "ValueError.__init__")))
    (v_OverflowError : PySem.W.findCls K (.type "OverflowError") (.type "type") "__init__" = some (.val (.builtin "OverflowError.__init__")))
    (v_LookupError : PySem.W.findCls K (.type "LookupError") (.type "type") "__init__" = some (.val (.builtin "LookupError.__init__")))
    (v_RuntimeError : PySem.W.findCls K (.type "RuntimeError") (.type "type") "__init__" = some (.val (.builtin "RuntimeError.__init__")))
    (nd : ∀ i, i < 9 → ∀ j, j < 9 → ([C0, C1, C2, C3, C4, C5, C6, C7, C8] : List Addr).getD i 0 = ([C0, C1, C2, C3, C4, C5, C6, C7, C8] : List Addr).getD j 0 → i = j) :
    ∃ fd : FuncData, (∀ (s : Shared) (u : Value), BindsTo s fd ⟨[u], []⟩ [("script", u)]) ∧ ∀ base : Heap, K.In base → base.Ns mainGlobals mg → FnG P w K mg base CX0 6 fa fd ["script"] (spLaw K) := by
  have e := hfa.symm.trans (PySem.W.mg_of X G aL)
  cases e
  have FM := fun_mk (st := sMsg) lM cM kM
  have FB := fun_mk (st := sBegun) lB cB kB
  have FN := fun_mk (st := sNext) lN cN kN
  have FK := fun_mk (st := sMarks) lK cK kK
  have FA := fun_mk (st := sAbove) lA cA kA
  have FD := fun_mk (st := sMade) lD cD kD
  have FR := fun_mk (st := sRight) lR cR kR
  have FL := fun_mk (st := sLaw) lL cL kL
  have F0 := fun_mk (st := sBadFraming) l0 c0 k0
  have F1 := fun_mk (st := sBadReader) l1 c1 k1
  have F2 := fun_mk (st := sBadWeaving) l2 c2 k2
  have F3 := fun_mk (st := sBadPaper) l3 c3 k3
  have F4 := fun_mk (st := sBadText) l4 c4 k4
  have F5 := fun_mk (st := sOutOfPlace) l5 c5 k5
  have F6 := fun_mk (st := sTooGreat) l6 c6 k6
  have F7 := fun_mk (st := sNothing) l7 c7 k7
  have F8 := fun_mk (st := sHeld) l8 c8 k8
  have bM := FM.binds (ps := ["text"]) fun _ _ _ _ _ _ us hl => match us, hl with | [_], _ => rfl
  have bB := FB.binds (ps := ["script"]) fun _ _ _ _ _ _ us hl => match us, hl with | [_], _ => rfl
  have bN := FN.binds (ps := ["m", "many"]) fun _ _ _ _ _ _ us hl => match us, hl with | [_, _], _ => rfl
  have bK := FK.binds (ps := ["one"]) fun _ _ _ _ _ _ us hl => match us, hl with | [_], _ => rfl
  have bA := FA.binds (ps := ["one"]) fun _ _ _ _ _ _ us hl => match us, hl with | [_], _ => rfl
  have bD := FD.binds (ps := ["way", "x", "y"]) fun _ _ _ _ _ _ us hl => match us, hl with | [_, _, _], _ => rfl
  have bR := FR.binds (ps := ["way", "x", "y"]) fun _ _ _ _ _ _ us hl => match us, hl with | [_, _, _], _ => rfl
  have b0 := F0.binds (ps := ["self", "number"]) fun _ _ _ _ _ _ us hl => match us, hl with | [_, _], _ => rfl
  have w0 := kb_kw (ps := ["self", "number"]) (ks := ["number"]) F0 fun _ _ _ _ _ _ us ws h1 h2 => match us, h1, ws, h2 with | [_], _, [_], _ => rfl
  have b1 := F1.binds (ps := ["self", "part", "number"]) fun _ _ _ _ _ _ us hl => match us, hl with | [_, _, _], _ => rfl
  have w1 := kb_kw (ps := ["self", "part", "number"]) (ks := ["number", "part"]) F1 fun _ _ _ _ _ _ us ws h1 h2 => match us, h1, ws, h2 with | [_], _, [_, _], _ => rfl
  have b2 := F2.binds (ps := ["self", "number"]) fun _ _ _ _ _ _ us hl => match us, hl with | [_, _], _ => rfl
  have w2 := kb_kw (ps := ["self", "number"]) (ks := ["number"]) F2 fun _ _ _ _ _ _ us ws h1 h2 => match us, h1, ws, h2 with | [_], _, [_], _ => rfl
  have b3 := F3.binds (ps := ["self", "part"]) fun _ _ _ _ _ _ us hl => match us, hl with | [_, _], _ => rfl
  have w3 := kb_kw (ps := ["self", "part"]) (ks := ["part"]) F3 fun _ _ _ _ _ _ us ws h1 h2 => match us, h1, ws, h2 with | [_], _, [_], _ => rfl
  have b4 := F4.binds (ps := ["self", "line", "word"]) fun _ _ _ _ _ _ us hl => match us, hl with | [_, _, _], _ => rfl
  have w4 := kb_kw (ps := ["self", "line", "word"]) (ks := ["word", "line"]) F4 fun _ _ _ _ _ _ us ws h1 h2 => match us, h1, ws, h2 with | [_], _, [_, _], _ => rfl
  have b5 := F5.binds (ps := ["self", "text"]) fun _ _ _ _ _ _ us hl => match us, hl with | [_, _], _ => rfl
  have w5 := kb_kw (ps := ["self", "text"]) (ks := ["text"]) F5 fun _ _ _ _ _ _ us ws h1 h2 => match us, h1, ws, h2 with | [_], _, [_], _ => rfl
  have b6 := F6.binds (ps := ["self", "most"]) fun _ _ _ _ _ _ us hl => match us, hl with | [_, _], _ => rfl
  have w6 := kb_kw (ps := ["self", "most"]) (ks := ["most"]) F6 fun _ _ _ _ _ _ us ws h1 h2 => match us, h1, ws, h2 with | [_], _, [_], _ => rfl
  have b7 := F7.binds (ps := ["self", "text"]) fun _ _ _ _ _ _ us hl => match us, hl with | [_, _], _ => rfl
  have w7 := kb_kw (ps := ["self", "text"]) (ks := ["text"]) F7 fun _ _ _ _ _ _ us ws h1 h2 => match us, h1, ws, h2 with | [_], _, [_], _ => rfl
  have b8 := F8.binds (ps := ["self", "writer"]) fun _ _ _ _ _ _ us hl => match us, hl with | [_, _], _ => rfl
  have w8 := kb_kw (ps := ["self", "writer"]) (ks := ["writer"]) F8 fun _ _ _ _ _ _ us ws h1 h2 => match us, h1, ws, h2 with | [_], _, [_], _ => rfl
  have TM : TxtM mg := ⟨(PySem.W.mg_none_of X G z_isinstance), (PySem.W.mg_none_of X G z_str)⟩
  have TD : TxtD mg := ⟨(PySem.W.mg_none_of X G z_list), (PySem.W.mg_none_of X G z_int), (PySem.W.mg_none_of X G z_len)⟩
  have I_ValueError : BI K mg "ValueError" "ValueError" "ValueError.__init__" := ⟨(PySem.W.mg_none_of X G z_ValueError), by decide +kernel, by kernel_rfl, v_ValueError, by decide +kernel⟩
  have I_OverflowError : BI K mg "OverflowError" "OverflowError" "OverflowError.__init__" := ⟨(PySem.W.mg_none_of X G z_OverflowError), by decide +kernel, by kernel_rfl, v_OverflowError, by decide +kernel⟩
  have I_LookupError : BI K mg "LookupError" "LookupError" "LookupError.__init__" := ⟨(PySem.W.mg_none_of X G z_LookupError), by decide +kernel, by kernel_rfl, v_LookupError, by decide +kernel⟩
  have I_RuntimeError : BI K mg "RuntimeError" "RuntimeError" "RuntimeError.__init__" := ⟨(PySem.W.mg_none_of X G z_RuntimeError), by decide +kernel, by kernel_rfl, v_RuntimeError, by decide +kernel⟩
  let c : Nat → Addr := fun k => ([C0, C1, C2, C3, C4, C5, C6, C7, C8] : List Addr).getD k 0
  have xc : ∀ k, k < 9 → XC K (c k) k := fun k hk => by
    match k, hk with
    | 0, _ => exact ⟨_, _, _, _, O0, tC0, fun D => rfl, by decide +kernel, by decide +kernel, by decide +kernel, by decide +kernel, by decide +kernel, by decide +kernel⟩
    | 1, _ => exact ⟨_, _, _, _, O1, tC1, fun D => rfl, by decide +kernel, by decide +kernel, by decide +kernel, by decide +kernel, by decide +kernel, by decide +kernel⟩
    | 2, _ => exact ⟨_, _, _, _, O2, tC2, fun D => rfl, by decide +kernel, by decide +kernel, by decide +kernel, by decide +kernel, by decide +kernel, by decide +kernel⟩
    | 3, _ => exact ⟨_, _, _, _, O3, tC3, fun D => rfl, by decide +kernel, by decide +kernel, by decide +kernel, by decide +kernel, by decide +kernel, by decide +kernel⟩
    | 4, _ => exact ⟨_, _, _, _, O4, tC4, fun D => rfl, by decide +kernel, by decide +kernel, by decide +kernel, by decide +kernel, by decide +kernel, by decide +kernel⟩
    | 5, _ => exact ⟨_, _, _, _, O5, tC5, fun D => rfl, by decide +kernel, by decide +kernel, by decide +kernel, by decide +kernel, by decide +kernel, by decide +kernel⟩
    | 6, _ => exact ⟨_, _, _, _, O6, tC6, fun D => rfl, by decide +kernel, by decide +kernel, by decide +kernel, by decide +kernel, by decide +kernel, by decide +kernel⟩
    | 7, _ => exact ⟨_, _, _, _, O7, tC7, fun D => rfl, by decide +kernel, by decide +kernel, by decide +kernel, by decide +kernel, by decide +kernel, by decide +kernel⟩
    | 8, _ => exact ⟨_, _, _, _, O8, tC8, fun D => rfl, by decide +kernel, by decide +kernel, by decide +kernel, by decide +kernel, by decide +kernel, by decide +kernel⟩
  have T3 : Txt3 K mg c := ⟨xc, nd, (PySem.W.mg_of X G aC0), (PySem.W.mg_of X G aC1), (PySem.W.mg_of X G aC2), (PySem.W.mg_of X G aC3), (PySem.W.mg_of X G aC4), (PySem.W.mg_of X G aC5), (PySem.W.mg_of X G aC6), (PySem.W.mg_of X G aC7), (PySem.W.mg_of X G aC8), (PySem.W.mg_none_of X G z_isinstance), (PySem.W.mg_none_of X G z_ValueError), (PySem.W.mg_none_of X G z_OverflowError), (PySem.W.mg_none_of X G z_LookupError), (PySem.W.mg_none_of X G z_RuntimeError), (PySem.W.mg_none_of X G z_KeyError), (PySem.W.mg_none_of X G z_IndexError)⟩
  have T5 : Txt5 K mg c := { T3 with f0 := n0_0, f1 := n1_0, f1' := n1_1, f2 := n2_0, f3 := n3_0, f4 := n4_0, f4' := n4_1, f6 := n6_0, f8 := n8_0, rep := (PySem.W.mg_none_of X G z_repr), enu := (PySem.W.mg_none_of X G z_enumerate) }
  have T6 : Txt6 mg := ⟨(PySem.W.mg_none_of X G z_range), (PySem.W.mg_none_of X G z_min), (PySem.W.mg_none_of X G z_len)⟩
  refine ⟨PySem.W.fnOf "law" "law" (defArgs sLaw) (defBody sLaw) (defScope sLaw) .none kVL dcL pmL anL cdL ctL, fun s u => .of_eq rfl, fun base _ _ => ?_⟩
  have M0 : Mk P w K mg base (c 0) ["number"] ["number"] (spOne (c 0) "number") := ⟨f0, _, iC0, tI0, (ok_BadFraming F0 O0 I_ValueError n0_0).mono (by decide), kb_pos b0 rfl, w0⟩
  have M1 : Mk P w K mg base (c 1) ["part", "number"] ["number", "part"] (spTwo (c 1) "part" "number") := ⟨f1, _, iC1, tI1, (ok_BadReader F1 O1 I_ValueError n1_0 n1_1).mono (by decide), kb_pos b1 rfl, w1⟩
  have M2 : Mk P w K mg base (c 2) ["number"] ["number"] (spOne (c 2) "number") := ⟨f2, _, iC2, tI2, (ok_BadWeaving F2 O2 I_ValueError n2_0).mono (by decide), kb_pos b2 rfl, w2⟩
  have M3 : Mk P w K mg base (c 3) ["part"] ["part"] (spOne (c 3) "part") := ⟨f3, _, iC3, tI3, (ok_BadPaper F3 O3 I_ValueError n3_0).mono (by decide), kb_pos b3 rfl, w3⟩
  have M4 : Mk P w K mg base (c 4) ["line", "word"] ["word", "line"] (spTwo (c 4) "line" "word") := ⟨f4, _, iC4, tI4, (ok_BadText F4 O4 I_ValueError n4_0 n4_1).mono (by decide), kb_pos b4 rfl, w4⟩
  have M5 : Mk P w K mg base (c 5) ["text"] ["text"] (spNo K (c 5)) := ⟨f5, _, iC5, tI5, ok_OutOfPlace F5 O5 I_ValueError FM bM (PySem.W.mg_of X G aM) TM, kb_pos b5 rfl, w5⟩
  have M6 : Mk P w K mg base (c 6) ["most"] ["most"] (spOne (c 6) "most") := ⟨f6, _, iC6, tI6, (ok_TooGreat F6 O6 I_OverflowError n6_0).mono (by decide), kb_pos b6 rfl, w6⟩
  have M7 : Mk P w K mg base (c 7) ["text"] ["text"] (spNo K (c 7)) := ⟨f7, _, iC7, tI7, ok_Nothing F7 O7 I_LookupError FM bM (PySem.W.mg_of X G aM) TM, kb_pos b7 rfl, w7⟩
  have M8 : Mk P w K mg base (c 8) ["writer"] ["writer"] (spOne (c 8) "writer") := ⟨f8, _, iC8, tI8, (ok_Held F8 O8 I_RuntimeError n8_0).mono (by decide), kb_pos b8 rfl, w8⟩
  have GMd := ok_made (P := P) (w := w) (base := base) FD T3 M0 M1 M2 M3 M4 M5 M6 M7 M8
  have GMk := ok_marks (P := P) (w := w) (base := base) FK T3
  have GAb := ok_above (P := P) (w := w) (base := base) FA T3
  have GR := ok_right FR T5 GMd bD kD (PySem.W.mg_of X G aD) GMk bK kK (PySem.W.mg_of X G aK) GAb bA kA (PySem.W.mg_of X G aA)
  exact ok_law FL T6 (ok_begun FB TD) bB kB (PySem.W.mg_of X G aB) (ok_next FN TD) bN kN (PySem.W.mg_of X G aN) GR bR kR (PySem.W.mg_of X G aR)
theorem walk {l : PySem.W.OpenLaw} {q : Program} {loose : List Str} {XP : (Str → Option Value) → Heap → Prop} {YP : World → Heap → Prop} {d : DefRec} {K : Params → PySem.W.Frag} (hn : l.most = some 63) (hdf : d.params.defaults = [])
    (hY : ∀ (w : World) (h : Heap), YP w h → (K w.params).In h)
    (F : ∀ (w : World) (mg : Str → Option Value) (fa : Addr) (h : Heap), (K w.params).In h → h.Ns mainGlobals mg → mg d.name = some (.ref fa) →
      ∃ fd : FuncData, (∀ (s : Shared) (u : Value), BindsTo s fd ⟨[u], []⟩ [("script", u)]) ∧ ∀ base : Heap, (K w.params).In base → base.Ns mainGlobals mg → FnG l.prog w (K w.params) mg base CX0 6 fa fd ["script"] (spLaw (K w.params))) :
    PySem.W.WalkO q loose XP YP l.row.toRowW d [] (fun f vs => PySem.call f vs) :=
  walk_ofG (n := 63) (k := 6) (x := "script") (sp := spLaw) hn (by decide) hdf ⟨rfl, by decide, by decide⟩ hY F (fun _ _ a ns hl _ hS => ⟨a, ns, rfl, hS, hl, fun _ => rfl⟩)
end K01
set_option Elab.async false
set_option maxRecDepth 100000
open PySem PySem.W PyProof.Rows
set_option maxRecDepth 100000 in
set_option maxHeartbeats 0 in
theorem PySem.Challenge.cw_tornlines_k01_errors_holds : PySem.Challenge.rw_tornlines_k01_errors.Holds := by
  w_on; o_law; k_head; (case hw => w_witness2)
  k_fill
  refine K01.walk (l := PySem.Challenge.rw_tornlines_k01_errors) rfl rfl (fun w h Y => PySem.W.kIn_of Y) ?F
  case F =>
    intro w mg fa h KX G hmg
    refine' K01.all_mk KX G hmg ?aM ?lM ?cM ?kM ?aB ?lB ?cB ?kB ?aN ?lN ?cN ?kN ?aK ?lK ?cK ?kK ?aA ?lA ?cA ?kA ?aD ?lD ?cD ?kD ?aR ?lR ?cR ?kR ?aL ?lL ?cL ?kL ?aC0 ?O0 ?tC0 ?iC0 ?tI0 ?l0 ?c0 ?k0 ?n0_0 ?aC1 ?O1 ?tC1 ?iC1 ?tI1 ?l1 ?c1 ?k1 ?n1_0 ?n1_1 ?aC2 ?O2 ?tC2 ?iC2 ?tI2 ?l2 ?c2 ?k2 ?n2_0 ?aC3 ?O3 ?tC3 ?iC3 ?tI3 ?l3 ?c3 ?k3 ?n3_0 ?aC4 ?O4 ?tC4 ?iC4 ?tI4 ?l4 ?c4 ?k4 ?n4_0 ?n4_1 ?aC5 ?O5 ?tC5 ?iC5 ?tI5 ?l5 ?c5 ?k5 ?aC6 ?O6 ?tC6 ?iC6 ?tI6 ?l6 ?c6 ?k6 ?n6_0 ?aC7 ?O7 ?tC7 ?iC7 ?tI7 ?l7 ?c7 ?k7 ?aC8 ?O8 ?tC8 ?iC8 ?tI8 ?l8 ?c8 ?k8 ?n8_0 ?z_list ?z_int ?z_len ?z_isinstance ?z_str ?z_ValueError ?z_OverflowError ?z_LookupError ?z_RuntimeError ?z_KeyError ?z_IndexError ?z_repr ?z_enumerate ?z_range ?z_min ?v_ValueError ?v_OverflowError ?v_LookupError ?v_RuntimeError ?nd
    (case aM => k_is)
    (case lM => k_is)
    (case cM => k_is)
    (case kM => k_is)
    (case aB => k_is)
    (case lB => k_is)
    (case cB => k_is)
    (case kB => k_is)
    (case aN => k_is)
    (case lN => k_is)
    (case cN => k_is)
    (case kN => k_is)
    (case aK => k_is)
    (case lK => k_is)
    (case cK => k_is)
    (case kK => k_is)
    (case aA => k_is)
    (case lA => k_is)
    (case cA => k_is)
    (case kA => k_is)
    (case aD => k_is)
    (case lD => k_is)
    (case cD => k_is)
    (case kD => k_is)
    (case aR => k_is)
    (case lR => k_is)
    (case cR => k_is)
    (case kR => k_is)
    (case aL => k_is)
    (case lL => k_is)
    (case cL => k_is)
    (case kL => k_is)
    (case aC0 => k_is)
    case O0 =>
      refine' K01.oxc ?cl PySem.F.excBase_ValueError (fun self => PySem.F.store_ValueError.passes self) (by decide +kernel) ?sa ?ga ?gg ?exC ?kC ?hd ?ca ?cn ?ct ?om
      (case cl => k_is)
      (case sa => k_is)
      (case ga => k_is)
      (case gg => k_is)
      (case exC => k_is)
      (case kC => k_is)
      (case hd => k_is)
      (case ca => k_is)
      (case cn => k_is)
      (case ct => k_is)
      (case om => k_is)
    (case tC0 => k_is)
    (case iC0 => k_is)
    (case tI0 => k_is)
    (case l0 => k_is)
    (case c0 => k_is)
    (case k0 => k_is)
    (case n0_0 => k_is)
    (case aC1 => k_is)
    case O1 =>
      refine' K01.oxc ?cl PySem.F.excBase_ValueError (fun self => PySem.F.store_ValueError.passes self) (by decide +kernel) ?sa ?ga ?gg ?exC ?kC ?hd ?ca ?cn ?ct ?om
      (case cl => k_is)
      (case sa => k_is)
      (case ga => k_is)
      (case gg => k_is)
      (case exC => k_is)
      (case kC => k_is)
      (case hd => k_is)
      (case ca => k_is)
      (case cn => k_is)
      (case ct => k_is)
      (case om => k_is)
    (case tC1 => k_is)
    (case iC1 => k_is)
    (case tI1 => k_is)
    (case l1 => k_is)
    (case c1 => k_is)
    (case k1 => k_is)
    (case n1_0 => k_is)
    (case n1_1 => k_is)
    (case aC2 => k_is)
    case O2 =>
      refine' K01.oxc ?cl PySem.F.excBase_ValueError (fun self => PySem.F.store_ValueError.passes self) (by decide +kernel) ?sa ?ga ?gg ?exC ?kC ?hd ?ca ?cn ?ct ?om
      (case cl => k_is)
      (case sa => k_is)
      (case ga => k_is)
      (case gg => k_is)
      (case exC => k_is)
      (case kC => k_is)
      (case hd => k_is)
      (case ca => k_is)
      (case cn => k_is)
      (case ct => k_is)
      (case om => k_is)
    (case tC2 => k_is)
    (case iC2 => k_is)
    (case tI2 => k_is)
    (case l2 => k_is)
    (case c2 => k_is)
    (case k2 => k_is)
    (case n2_0 => k_is)
    (case aC3 => k_is)
    case O3 =>
      refine' K01.oxc ?cl PySem.F.excBase_ValueError (fun self => PySem.F.store_ValueError.passes self) (by decide +kernel) ?sa ?ga ?gg ?exC ?kC ?hd ?ca ?cn ?ct ?om
      (case cl => k_is)
      (case sa => k_is)
      (case ga => k_is)
      (case gg => k_is)
      (case exC => k_is)
      (case kC => k_is)
      (case hd => k_is)
      (case ca => k_is)
      (case cn => k_is)
      (case ct => k_is)
      (case om => k_is)
    (case tC3 => k_is)
    (case iC3 => k_is)
    (case tI3 => k_is)
    (case l3 => k_is)
    (case c3 => k_is)
    (case k3 => k_is)
    (case n3_0 => k_is)
    (case aC4 => k_is)
    case O4 =>
      refine' K01.oxc ?cl PySem.F.excBase_ValueError (fun self => PySem.F.store_ValueError.passes self) (by decide +kernel) ?sa ?ga ?gg ?exC ?kC ?hd ?ca ?cn ?ct ?om
      (case cl => k_is)
      (case sa => k_is)
      (case ga => k_is)
      (case gg => k_is)
      (case exC => k_is)
      (case kC => k_is)
      (case hd => k_is)
      (case ca => k_is)
      (case cn => k_is)
      (case ct => k_is)
      (case om => k_is)
    (case tC4 => k_is)
    (case iC4 => k_is)
    (case tI4 => k_is)
    (case l4 => k_is)
    (case c4 => k_is)
    (case k4 => k_is)
    (case n4_0 => k_is)
    (case n4_1 => k_is)
    (case aC5 => k_is)
    case O5 =>
      refine' K01.oxc ?cl PySem.F.excBase_ValueError (fun self => PySem.F.store_ValueError.passes self) (by decide +kernel) ?sa ?ga ?gg ?exC ?kC ?hd ?ca ?cn ?ct ?om
      (case cl => k_is)
      (case sa => k_is)
      (case ga => k_is)
      (case gg => k_is)
      (case exC => k_is)
      (case kC => k_is)
      (case hd => k_is)
      (case ca => k_is)
      (case cn => k_is)
      (case ct => k_is)
      (case om => k_is)
    (case tC5 => k_is)
    (case iC5 => k_is)
    (case tI5 => k_is)
    (case l5 => k_is)
    (case c5 => k_is)
    (case k5 => k_is)
    (case aC6 => k_is)
    case O6 =>
      refine' K01.oxc ?cl PySem.F.excBase_OverflowError (fun self => PySem.F.store_OverflowError.passes self) (by decide +kernel) ?sa ?ga ?gg ?exC ?kC ?hd ?ca ?cn ?ct ?om
      (case cl => k_is)
      (case sa => k_is)
      (case ga => k_is)
      (case gg => k_is)
      (case exC => k_is)
      (case kC => k_is)
      (case hd => k_is)
      (case ca => k_is)
      (case cn => k_is)
      (case ct => k_is)
      (case om => k_is)
    (case tC6 => k_is)
    (case iC6 => k_is)
    (case tI6 => k_is)
    (case l6 => k_is)
    (case c6 => k_is)
    (case k6 => k_is)
    (case n6_0 => k_is)
    (case aC7 => k_is)
    case O7 =>
      refine' K01.oxc ?cl PySem.F.excBase_LookupError (fun self => PySem.F.store_LookupError.passes self) (by decide +kernel) ?sa ?ga ?gg ?exC ?kC ?hd ?ca ?cn ?ct ?om
      (case cl => k_is)
      (case sa => k_is)
      (case ga => k_is)
      (case gg => k_is)
      (case exC => k_is)
      (case kC => k_is)
      (case hd => k_is)
      (case ca => k_is)
      (case cn => k_is)
      (case ct => k_is)
      (case om => k_is)
    (case tC7 => k_is)
    (case iC7 => k_is)
    (case tI7 => k_is)
    (case l7 => k_is)
    (case c7 => k_is)
    (case k7 => k_is)
    (case aC8 => k_is)
    case O8 =>
      refine' K01.oxc ?cl PySem.F.excBase_RuntimeError (fun self => PySem.F.store_RuntimeError.passes self) (by decide +kernel) ?sa ?ga ?gg ?exC ?kC ?hd ?ca ?cn ?ct ?om
      (case cl => k_is)
      (case sa => k_is)
      (case ga => k_is)
      (case gg => k_is)
      (case exC => k_is)
      (case kC => k_is)
      (case hd => k_is)
      (case ca => k_is)
      (case cn => k_is)
      (case ct => k_is)
      (case om => k_is)
    (case tC8 => k_is)
    (case iC8 => k_is)
    (case tI8 => k_is)
    (case l8 => k_is)
    (case c8 => k_is)
    (case k8 => k_is)
    (case n8_0 => k_is)
    (case z_list => k_is)
    (case z_int => k_is)
    (case z_len => k_is)
    (case z_isinstance => k_is)
    (case z_str => k_is)
    (case z_ValueError => k_is)
    (case z_OverflowError => k_is)
    (case z_LookupError => k_is)
    (case z_RuntimeError => k_is)
    (case z_KeyError => k_is)
    (case z_IndexError => k_is)
    (case z_repr => k_is)
    (case z_enumerate => k_is)
    (case z_range => k_is)
    (case z_min => k_is)
    (case v_ValueError => k_is)
    (case v_OverflowError => k_is)
    (case v_LookupError => k_is)
    (case v_RuntimeError => k_is)
    case nd => decide
#print axioms PySem.Challenge.cw_tornlines_k01_errors_holds
