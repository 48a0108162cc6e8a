import PyProof.Rows.All
import Wide.All
import OpenK.AllK
import Wide.FinOn
import HandS.ForMost
import HandS.RaiseMore
import HandS.Defaults
import HandS.Wide
import HandS.Codes
import HandS.More
import HandS.Style
import HandS.CallLocal
import HandS.DictComp
import HandS.TupAny
import HandS.IsInst
import HandS.StrMore
import HandS.Walk
import HandS.Flow
import PyProof.ReprRoads
import PyProof.StrLaws
import HandS.Exc
import HandS.ExcInit
import HandS.ExcField
import HandS.ExcIs
import HandS.WordsExc
import KE.KExcIs
import KE.KIsAll
import KE.KBits
import KE.BitLaws
import KE.IntTextLaws
import KE.IntTextText
import KE.DataEq
import PyProof.StrLawsRepr
import HandS.ExcValue
import HandS.FStr
import HandS.TryOnly
import HandS.MakeKwOnly
import KE.KExcInit
import PySem.Challenge.RW_replaytravel_k25_turns_packed_and_read
set_option Elab.async false
set_option maxRecDepth 100000
set_option maxHeartbeats 4000000
namespace Kw
open PySem L2
/-! Errors of one's own as values: made by places and by names, asked for their class and their fields. -/
section
open PySem.HandSPX PySem.Builtin PySem.Builtin.ObjectAttr
variable {prog : Program} {w : World} {A : Around} {E : Value → Shared → Prop} {R : Result → Shared → Prop} {h : Heap} {g : Array GenState} {d : Drawn} {t : Nat} {os : OsState}
variable {nm q : Str} {C N : Addr} {bs bm bmB : List Value} {hdct : Bool} {sn : List Str} {sub : List Value} {ab : Bool} {col : Option Bool} {dd : Option Addr} {k0 k1 k2 k3 k5 : Option Value} {B newId initId : String}
/-- what is told of the classes above -/
structure Above (B : String) (bm : List Value) : Prop where
  own : bm.contains (.type B) = true
  noA : bm.contains (.type "AttributeError") = false
  noN : bm.contains (.type "NameError") = false
  obj : bm.contains (.type "object") = true
  pas : ∀ self : Value, refuseLoop self "__setattr__" bm = pure ()
theorem newChk (F : ExcBaseFacts B newId initId bmB) (U : Above B bm) {M : Model} {us : List Value} {kw : List (Str × Value)} {Q : Unit → Shared → Prop}
    (at_ : h.get? C = some (excClassObj nm q C N bs bm hdct sn sub ab col dd k0 k1 k2 k3 k5 newId)) (z : Q () ⟨h, g, d, t, os⟩) : wpAny M A (checkBuiltinCall newId ⟨.ref C :: us, kw⟩) Q E ⟨h, g, d, t, os⟩ := by
  have hc : (Value.ref C :: bm).contains (.type B) = true := by rw [List.contains_cons, U.own, Bool.or_true]
  have st := F.noStar
  simp only [checkBuiltinCall, F.newKind, F.newSplit, F.newRow]
  repeat (first | refine wpAny_loadPart_at at_ ?_ | (refine wpAny_isSubtype_exc at_ ?_; rw [hc]) | refine wpAny_staticBase_exc at_ ?_ | refine wpAny_madeBy_exc at_ ?_ | simp only [bne_self_eq_false, Bool.false_eq_true, if_false] | wp_step)
  exact z
theorem newRun (F : ExcBaseFacts B newId initId bmB) (U : Above B bm) {us : List Value} {kw : List (Str × Value)}
    (at_ : h.get? C = some (excClassObj nm q C N bs bm hdct sn sub ab col dd k0 k1 k2 k3 k5 newId))
    (z : R (.ok (.ret (.ref (h.objs.size + 1)))) ⟨(h.push (W.kdv_tup us)).push (excO C h.objs.size), g, d, t, os⟩) (hl : us.length ≤ sizeLine) :
    codeAny (model prog w) A (.builtin newId ⟨.ref C :: us, kw⟩) R ⟨h, g, d, t, os⟩ := by
  have en := F.ends
  have c1 : (Value.ref C :: bm).contains (.type B) = true := by rw [List.contains_cons, U.own, Bool.or_true]
  have c2 : (Value.ref C :: bm).contains (.type "AttributeError") = false := by rw [List.contains_cons, U.noA]; rfl
  have c3 : (Value.ref C :: bm).contains (.type "NameError") = false := by rw [List.contains_cons, U.noN]; rfl
  refine codeAny_builtinAt F.entry ?_
  unfold Builtin.«BaseException.__new__»
  refine wpAt_bind ?_
  show wpAt _ _ _ (stack >>= _) _ _ _
  refine wpAt_bind (wpAt_stack fun p below => wpAt_of_wpAny ?_)
  wp_walk
  refine wpAt_of_wpAny ?_
  rw [F.owner]
  repeat (first | with_reducible refine wpAny_madeHere_exc F.canon at_ ?_ | with_reducible refine wpAny_loadPart_at at_ ?_ | (with_reducible refine wpAny_isSubtype_exc at_ ?_; first | rw [c1] | rw [c2] | rw [c3]) | wp_step)
  show R _ _
  rw [Heap.size_push]
  exact z
theorem callRun (F : ExcBaseFacts B newId initId bmB) (U : Above B bm) {us : List Value} {kw : List (Str × Value)} {fI : Addr} {Q : Fin → Shared → Prop}
    (at_ : h.get? C = some (excClassObj nm q C N bs bm hdct sn sub ab col dd k0 k1 k2 k3 k5 newId))
    (hi : W.Looks (model prog w) h (typeLookup (.ref C) "__init__") (some (.ref fI))) (hb : ∀ self, W.Looks (model prog w) h (bindSpecial (.ref fI) self) (.ref fI, [self])) (hl : us.length ≤ sizeLine)
    (z : codeAny (model prog w) A (.call (.ref fI) ⟨.ref (h.objs.size + 1) :: us, kw⟩)
      (fun r s' => match r with | .ok (.ret v) => v = .none ∧ Q (.done (.ret (.ref (h.objs.size + 1)))) s' | .ok _ => False | .error e => E e s')
      ⟨(h.push (W.kdv_tup us)).push (excO C h.objs.size), g, d, t, os⟩) :
    wpAny (model prog w) A (Builtin.«type.__call__» ⟨.ref C :: us, kw⟩) Q E ⟨h, g, d, t, os⟩ := by
  repeat (first | with_reducible refine wpAny_loadPart_at at_ ?_ | with_reducible refine wpAny_madeBy_exc at_ ?_ | wp_step)
  refine codeAny_call_builtin_code (Code.quiet_builtin _ F.quiet) (newChk F U at_ ?_)
  refine newRun F U at_ ?_ hl
  show wpAny _ _ _ _ _ _
  have kk : ∀ b o, h.get? b = some o → ((h.push (W.kdv_tup us)).push (excO C h.objs.size)).get? b = some o := fun b o e => Heap.get?_push_of_some _ (Heap.get?_push_of_some _ e)
  have at2 := kk _ _ at_
  have new : ((h.push (W.kdv_tup us)).push (excO C h.objs.size)).get? (h.objs.size + 1) = some (excO C h.objs.size) := by heap_get
  have c1 : (Value.ref C :: bm).contains (.ref C) = true := by simp
  have i1 := hi.keeps kk
  have b1 := (hb (.ref (h.objs.size + 1))).keeps kk
  unfold isInstance
  repeat (first | with_reducible refine wpAny_loadPart_at new ?_ | (with_reducible refine wpAny_isSubtype_exc at2 ?_; rw [c1]) | wp_step)
  show wpAny _ _ (typeLookup (.ref C) _) _ _ _
  refine i1.at ?_
  refine wpAny_holding (wpAny_bind (b1.at ?_))
  refine wpAny_bind (wpAny_call (codeAny_mono z fun r s' y => ?_))
  rcases r with e | (v | _ | _ | _) <;> first | exact y | exact y.elim | skip
  obtain ⟨rfl, y⟩ := y
  first
    | exact wpAny_pure (wpAny_pure y)
    | (wp_walk; exact y)
theorem chkKw {M : Model} {us : List Value} {kw : List (Str × Value)} {Q : Unit → Shared → Prop} (at_ : h.get? C = some (excClassObj nm q C N bs bm hdct sn sub ab col dd k0 k1 k2 k3 k5 newId))
    (z : Q () ⟨h, g, d, t, os⟩) : wpAny M A (checkBuiltinCall "type.__call__" ⟨.ref C :: us, kw⟩) Q E ⟨h, g, d, t, os⟩ := by
  have f3 := tc_sub
  have ty : (⟨h, g, d, t, os⟩ : Shared).TypeIs (.ref C) "type" := ⟨_, at_, rfl⟩
  simp only [checkBuiltinCall, tc_kind, tc_split]
  repeat (any_goals (first | assumption | with_reducible refine wpAny_loadPart_at at_ ?_ | with_reducible refine wpAny_onRaise ?_ | with_reducible refine wpAny_map ?_ | wp_step))
theorem callC (F : ExcBaseFacts B newId initId bmB) (U : Above B bm) {us : List Value} {kw : List (Str × Value)} {fI : Addr}
    (at_ : h.get? C = some (excClassObj nm q C N bs bm hdct sn sub ab col dd k0 k1 k2 k3 k5 newId))
    (hi : W.Looks (model prog w) h (typeLookup (.ref C) "__init__") (some (.ref fI))) (hb : ∀ self, W.Looks (model prog w) h (bindSpecial (.ref fI) self) (.ref fI, [self])) (hl : us.length ≤ sizeLine)
    (z : codeAny (model prog w) (A.under (.builtin "type.__call__" ⟨.ref C :: us, kw⟩)) (.call (.ref fI) ⟨.ref (h.objs.size + 1) :: us, kw⟩) (W.InitBack (h.objs.size + 1) R)
      ⟨(h.push (W.kdv_tup us)).push (excO C h.objs.size), g, d, t, os⟩) :
    codeAny (model prog w) A (.call (.ref C) ⟨us, kw⟩) R ⟨h, g, d, t, os⟩ := by
  have f1 := tc_lookup
  have f2 := tc_bind (.ref C)
  have ty : (⟨h, g, d, t, os⟩ : Shared).TypeIs (.ref C) "type" := ⟨_, at_, rfl⟩
  refine codeAny_of_tree ?_
  show wpAny _ _ (callAny (.ref C) _) _ _ _
  repeat (any_goals (first | assumption | with_reducible refine wpAny_loadPart_at at_ ?_ | wp_step))
  refine ⟨rfl, ?_⟩
  refine codeAny_call_builtin_at (Code.quiet_builtin _ (by decide +kernel)) entry_typeCall (chkKw at_ (callRun F U at_ hi hb hl ?_))
  refine codeAny_mono z fun r s' y => ?_
  rcases r with e | (v | _ | _ | _) <;> exact y
end
section
open PySem.W PySem.Calls PyProof.Rows PySem.HandSPX PySem.Builtin PySem.Builtin.ObjectAttr
variable {prog : Program} {w : World} {A : Around} {E : Value → Shared → Prop} {R : Result → Shared → Prop} {hp : Heap} {g : Array GenState} {d : Drawn} {t : Nat} {os : OsState} {B : String} {bm : List Value}
theorem Above.mro {cd : ClassData} {C : Addr} (U : Above B bm) (hm : cd.mro = .ref C :: bm) : (∀ self : Value, refuseLoop self "__setattr__" cd.mro = pure ()) ∧ cd.mro.isEmpty = false ∧ cd.mro.contains (.type "object") = true := by
  rw [hm]
  refine ⟨fun self => ?_, rfl, ?_⟩
  · rw [refuseLoop_ref]
    exact U.pas self
  · rw [List.contains_cons, U.obj, Bool.or_true]
theorem osaNew {K : W.Frag} {name : Str} {tk : Tok} {v : Value} {x C : Addr} {fv : Array Value} {cd : ClassData} (X : K.In hp) (there : hp.get? x = some { cls := .ref C, data := .fields fv }) (hcd : W.clsIn K C = some cd) (hm : cd.mro = .ref C :: bm) (U : Above B bm) (hh : cd.hasDict = true) (ha : W.findIn K (.ref C) name = some none)
    (z : ∀ h' tk' dx, (∀ b o, b ≠ x → hp.get? b = some o → h'.get? b = some o) → hp.objs.size ≤ dx → dx ≠ x → h'.get? x = some { cls := .ref C, dict := some dx, data := .fields fv } →
      h'.Ns1 dx (fun y => if y = name then some v else none) → R (.ok (.ret .none)) ⟨h', g, d, tk', os⟩) :
    codeAny (model prog w) A (.call (.builtin "object.__setattr__") ⟨[.ref x, .str name tk, v], []⟩) R ⟨hp, g, d, t, os⟩ := by
  have I : W.InstAt hp x { cls := .ref C, data := .fields fv } C none := ⟨there, rfl, rfl, trivial⟩
  have SF := PySem.F.store_object
  obtain ⟨pas, ne, ob⟩ := U.mro hm
  have far : x ≠ hp.objs.size := Nat.ne_of_lt (Heap.lt_size there)
  have isO : W.Looks (model prog w) hp (isInstance (.ref x) (.type "object")) true := I.type.andThen (W.looks_mroIn X (by unfold W.mroIn; rw [hcd, Option.bind_some, if_neg (by rw [ne]; decide), ob]))
  refine codeAny_call_builtin SF.slot.plain SF.entry (@W.check_slot (model prog w) _ _ ⟨hp, g, d, t, os⟩ "object.__setattr__" "object" "__setattr__" (.ref x) [.str name tk, v] [] _ SF.kind SF.split isO (SF.args (.ref x) (.str name tk) v) ?_)
  have L1 : W.Looks (model prog w) hp (mroOf (.ref C)) cd.mro := (W.looks_clsIn X hcd).andThen .now
  have L3 : W.Looks (model prog w) hp (storeTaker? none) none := .now
  have L4 : W.Looks (model prog w) hp (classData C) cd := W.looks_clsIn X hcd
  rw [W.osa_eq, refuse_eq]
  refine wpAny_bind (wpAny_bind (I.type.at (wpAny_bind (L1.at ?_))))
  rw [pas]
  refine wpAny_pure (wpAny_bind (I.type.at (wpAny_bind ((W.looks_findIn X ha).at (wpAny_bind (L3.at ?_))))))
  show wpAny _ _ (storeInOwnDict (.ref x) (.ref C) (.str name tk) name v false) _ _ _
  clear hm pas ne ob
  obtain ⟨nm, bs, mro, ns, qn, hd, sn, sb, ab, col, del⟩ := cd
  dsimp only at hh
  subst hh
  unfold storeInOwnDict ownDictForStores
  repeat (first | with_reducible refine store_in_new ?_ ?_ | with_reducible refine wpAny_loadPart_at there ?_ | with_reducible refine L4.at ?_ | wp_step)
  · exact ⟨_, #[], _, (Heap.get?_update_ne _ _ _ _ far.symm).trans (Heap.get?_push_at rfl rfl), rfl, (fun e he => absurd he (by simp)), (fun _ => rfl)⟩
  · intro h' tk' hn' hs
    have x1 : (hp.push { cls := .type "dict", data := .dict #[] }).get? x = some { cls := .ref C, data := .fields fv } := Heap.get?_push_of_some _ there
    refine z h' tk' hp.objs.size (fun b o hb ho => ?_) (Nat.le_refl _) far.symm ?_ hn'
    · exact (hs.2 b (Nat.ne_of_lt (Heap.lt_size ho))).trans ((Heap.get?_update_ne _ _ _ _ hb).trans (Heap.get?_push_of_some _ ho))
    · exact (hs.2 x far).trans (Heap.get?_update_self _ x1 rfl)
theorem osaOld {K : W.Frag} {name : Str} {tk : Tok} {v : Value} {x C dx : Addr} {fv : Array Value} {cd : ClassData} {m0 : Str → Option Value} {nl : List Str}
    (X : K.In hp) (there : hp.get? x = some { cls := .ref C, dict := some dx, data := .fields fv }) (hns : hp.Ns1 dx m0) (hw : Within m0 nl) (hz : nl.length ≤ 1000) (hcd : W.clsIn K C = some cd) (hm : cd.mro = .ref C :: bm) (U : Above B bm) (hh : cd.hasDict = true)
    (ha : W.findIn K (.ref C) name = some none)
    (z : ∀ h' tk', (∀ b o, b ≠ dx → hp.get? b = some o → h'.get? b = some o) → h'.Ns1 dx (fun y => if y = name then some v else m0 y) → R (.ok (.ret .none)) ⟨h', g, d, tk', os⟩) :
    codeAny (model prog w) A (.call (.builtin "object.__setattr__") ⟨[.ref x, .str name tk, v], []⟩) R ⟨hp, g, d, t, os⟩ := by
  obtain ⟨oD, esD, epD, hoD, hdD, _⟩ := hns.count hw
  have I : W.InstAt hp x { cls := .ref C, dict := some dx, data := .fields fv } C (some oD) := ⟨there, rfl, rfl, hoD⟩
  have SF := PySem.F.store_object
  obtain ⟨pas, ne, ob⟩ := U.mro hm
  have isO : W.Looks (model prog w) hp (isInstance (.ref x) (.type "object")) true := I.type.andThen (W.looks_mroIn X (by unfold W.mroIn; rw [hcd, Option.bind_some, if_neg (by rw [ne]; decide), ob]))
  refine codeAny_call_builtin SF.slot.plain SF.entry (@W.check_slot (model prog w) _ _ ⟨hp, g, d, t, os⟩ "object.__setattr__" "object" "__setattr__" (.ref x) [.str name tk, v] [] _ SF.kind SF.split isO (SF.args (.ref x) (.str name tk) v) ?_)
  have L1 : W.Looks (model prog w) hp (mroOf (.ref C)) cd.mro := (W.looks_clsIn X hcd).andThen .now
  have L3 : W.Looks (model prog w) hp (storeTaker? none) none := .now
  have L4 : W.Looks (model prog w) hp (classData C) cd := W.looks_clsIn X hcd
  rw [W.osa_eq, refuse_eq]
  refine wpAny_bind (wpAny_bind (I.type.at (wpAny_bind (L1.at ?_))))
  rw [pas]
  refine wpAny_pure (wpAny_bind (I.type.at (wpAny_bind ((W.looks_findIn X ha).at (wpAny_bind (L3.at ?_))))))
  show wpAny _ _ (storeInOwnDict (.ref x) (.ref C) (.str name tk) name v false) _ _ _
  clear hm pas ne ob
  obtain ⟨nm, bs, mro, ns, qn, hd, sn, sb, ab, col, del⟩ := cd
  dsimp only at hh
  subst hh
  unfold storeInOwnDict ownDictForStores
  repeat (first | with_reducible refine PySem.OEX.store_in_old hns hw hz ?_ | with_reducible refine wpAny_loadPart_at there ?_ | with_reducible refine L4.at ?_ | wp_step)
  intro h' tk' hn' hs
  exact z h' tk' (fun b o hb ho => (hs.2 b hb).trans ho) hn'
end
/-- what the written part says of an error's class, straight under one of Python's -/
structure OexG (K : PySem.W.Frag) (C : Addr) : Prop where
  cls : ∃ (B newId initId : String) (bm bmB : List Value) (nm q : Str) (N : Addr) (bs : List Value) (sn : List Str) (sub : List Value) (ab : Bool) (col : Option Bool) (dd : Option Addr) (k0 k1 k2 k3 k5 : Option Value),
    ExcBaseFacts B newId initId bmB ∧ Above B bm ∧ K.lookup C = some (excClassObj nm q C N bs bm true sn sub ab col dd k0 k1 k2 k3 k5 newId)
  sa : PySem.W.findIn K (.ref C) "__setattr__" = some (some (.builtin "object.__setattr__"))
  kC : PySem.W.keepIn K (.ref C) = true
/-- an error's object, of this class and with this dict -/
def XOf (cls : Value) (d : Option Addr) (a : Addr) (φ : Heap → Prop) : Prop := ∀ h, φ h → ∃ (oe : Obj) (vs : Array Value), h.get? a = some oe ∧ oe.cls = cls ∧ oe.dict = d ∧ oe.data = .fields vs
/-- at a: an error of the class at C with these fields -/
def XV (H : Hp) (a C : Addr) (fs : List (Str × V)) : Prop := ∃ (d : Addr) (φ : Heap → Prop), H a = some (.ext φ) ∧ XOf (.ref C) (some d) a φ ∧ (H d = some (.xd fs) ∨ H d = some (exd d fs))
theorem XV.same {H H' : Hp} {a C : Addr} {fs : List (Str × V)} (h : XV H a C fs) (s : Same H H') : XV H' a C fs := by
  obtain ⟨d, φ, h1, h2, h3⟩ := h
  exact ⟨d, φ, s _ _ h1, h2, h3.elim (fun z => .inl (s _ _ z)) (fun z => .inr (s _ _ z))⟩
theorem XV.made {H : Hp} {a C d : Addr} {fs : List (Str × V)} (h1 : H a = some (exo a C (some d))) (h2 : H d = some (exd d fs)) : XV H a C fs :=
  ⟨d, _, h1, fun _ ⟨_, q⟩ => ⟨_, _, q, rfl, rfl, rfl⟩, .inr h2⟩
section
open PySem.Spec PyProof.Rows
variable {X : Cx} {pins : List (Addr × Obj)} {σ : L2.St} {H : Hp} {s : Shared} {a C : Addr}
theorem XV.at {fs : List (Str × V)} (h : XV H a C fs) (I : L2.Inv X pins σ H s) : ∃ (oe od : Obj) (mA : Str → Option Value), PySem.W.InstAt s.heap a oe C (some od) ∧ (∀ f, PySem.W.lookIn f od = some (mA f)) ∧ ∀ f, RelO (fs.lookup f) (mA f) := by
  obtain ⟨d, φ, h1, h2, h3⟩ := h
  have k1 : ObjOk X.prog X.w H s.heap a (.ext φ) := I.hok a _ h1
  obtain ⟨oe, vs, e1, e2, e3, e4⟩ := h2 _ k1.1
  have k2 : ∃ mA, s.heap.Ns1 d mA ∧ ∀ f, RelO (fs.lookup f) (mA f) := by
    rcases h3 with h3 | h3
    · have z : ObjOk X.prog X.w H s.heap d (.xd fs) := I.hok d _ h3
      exact z
    · exact exd_at I.hok h3
  obtain ⟨mA, hns, rel⟩ := k2
  obtain ⟨od, ho, hl⟩ := lookIn_ns hns
  exact ⟨oe, od, mA, ⟨e1, e2, (by unfold PySem.W.notCls; rw [e4] <;> rfl), (by rw [e3]; exact ho)⟩, hl, rel⟩
end
section
open PySem.Spec PyProof.Rows
variable {X : Cx} {pins : List (Addr × Obj)} {σ : L2.St} {H : Hp} {s : Shared} {a C dx : Addr} {f : Str} {y : V} {u : Value} {fs : List (Str × V)} {Q : Unit → Shared → Prop} {E : Value → Shared → Prop} {A : Around}
/-- self.f = y, the first field -/
theorem ostN (T : OexG X.K C) (I : L2.Inv X pins σ H s) (e : H a = some (exo a C none)) (hno : PySem.W.findIn X.K (.ref C) f = some none) (ry : RelV y u)
    (q : ∀ dx s', H dx = none → dx ≠ a → L2.Inv X pins σ (upd (upd H dx (exd dx [(f, y)])) a (exo a C (some dx))) s' → Q () s') : wpAny (model X.prog X.w) A (setAttr (.ref a) f u) Q E s := by
  obtain ⟨B, newId, initId, bm, bmB, nm, q0, N, bs, sn, sub, ab, col, dd, k0, k1, k2, k3, k5, FB, U, hC⟩ := T.cls
  have hcl : PySem.W.clsIn X.K C = some { name := nm, bases := bs, mro := .ref C :: bm, ns := N, qualname := q0, hasDict := true, slotNames := sn, subclasses := sub, abstract := ab, collection := col, hasDel := false } := by
    unfold PySem.W.clsIn
    rw [hC] <;> rfl
  obtain ⟨t1, ho⟩ := exo_at I.hok e
  obtain ⟨hp, g, d, t, os⟩ := s
  refine PySem.W.set_plain I.kIn (ox := { cls := .ref C, dict := none, data := .fields #[.ref t1, .none, .none, .none, .bool false, .none] }) (od := none) ⟨ho, rfl, rfl, trivial⟩ T.sa ?_
  refine osaNew I.kIn ho hcl rfl U rfl hno (fun h' tk' dx k dn dne hx hn => ?_)
  have free : H dx = none := I.hok.fresh dn
  have old : ∀ {b : Addr} {o : Obj}, hp.get? b = some o → b ≠ dx := fun {b o} z => Nat.ne_of_lt (Nat.lt_of_lt_of_le (Heap.lt_size z) dn)
  have nota : ∀ {b : Addr}, H b = none → b ≠ a := fun {b} n z => by
    rw [z, e] at n
    cases n
  have U1 : Un X.fs [] H (upd (upd H dx (exd dx [(f, y)])) a (exo a C (some dx))) hp h' := {
    keep := fun b o z n _ _ => k b o (nota n) z
    slot := fun b o z n _ _ => ⟨o.slots, k b o (nota n) z⟩
    free := fun b o z n _ => by rw [upd_ne (nota n), upd_ne (old z)]; exact n
    there := fun b o z _ => by
      by_cases hb : b = a
      · exact ⟨_, by rw [hb]; exact hx⟩
      · exact ⟨o, k b o hb z⟩
    tups := fun b xs z => by rw [upd_ne (at_ne e z exo_tup), upd_ne (ne_of_none z free)]; exact z
    frzs := fun b o v z => by rw [upd_ne (at_ne e z exo_frz), upd_ne (ne_of_none z free)]; exact z
    tbls := fun b ps z => ⟨#[], by rw [upd_ne (at_ne e z exo_tbl), upd_ne (ne_of_none z free), z]; simp⟩ }
  refine q dx _ free dne (I.un (t' := tk') U1 fun b o z => ?_)
  by_cases hb : b = a
  · subst hb
    rw [upd_same] at z
    cases z
    exact exo_ok hx
  · rw [upd_ne hb] at z
    by_cases hd : b = dx
    · subst hd
      rw [upd_same] at z
      cases z
      exact exd_ok hn (relO_put (fs := []) ry fun g => True.intro)
    · rw [upd_ne hd] at z
      refine (I.hok b o z).stay (fun c v hc z2 => k c v ?_ z2) (fun c hc => ?_) (fun c xs hc => ?_)
      · rcases hc with hc | hc
        · rw [hc]
          exact hb
        · exact at_ne e hc exo_own
      · rw [upd_ne (at_ne e hc exo_own), upd_ne (ne_of_none hc free)]
        exact hc
      · rw [upd_ne (at_ne e hc exo_tup), upd_ne (ne_of_none hc free)]
        exact hc
/-- self.f = y, a further field -/
theorem ostO (T : OexG X.K C) (I : L2.Inv X pins σ H s) (e : H a = some (exo a C (some dx))) (ed : H dx = some (exd dx fs)) (hl : fs.length ≤ 900) (hno : PySem.W.findIn X.K (.ref C) f = some none) (ry : RelV y u)
    (q : ∀ s', L2.Inv X pins σ (upd H dx (exd dx ((f, y) :: fs))) s' → Q () s') : wpAny (model X.prog X.w) A (setAttr (.ref a) f u) Q E s := by
  obtain ⟨B, newId, initId, bm, bmB, nm, q0, N, bs, sn, sub, ab, col, dd, k0, k1, k2, k3, k5, FB, U, hC⟩ := T.cls
  have hcl : PySem.W.clsIn X.K C = some { name := nm, bases := bs, mro := .ref C :: bm, ns := N, qualname := q0, hasDict := true, slotNames := sn, subclasses := sub, abstract := ab, collection := col, hasDel := false } := by
    unfold PySem.W.clsIn
    rw [hC] <;> rfl
  obtain ⟨t1, ho⟩ := exo_at I.hok e
  obtain ⟨mA, hns, rel⟩ := exd_at I.hok ed
  have hw := within_of rel
  obtain ⟨hp, g, d, t, os⟩ := s
  obtain ⟨oD, _, _, hoD, _, _⟩ := hns.count hw
  refine PySem.W.set_plain I.kIn (ox := { cls := .ref C, dict := some dx, data := .fields #[.ref t1, .none, .none, .none, .bool false, .none] }) (od := some oD) ⟨ho, rfl, rfl, hoD⟩ T.sa ?_
  refine osaOld I.kIn ho hns hw (by rw [List.length_map]; omega) hcl rfl U rfl hno (fun h' tk' k hn => ?_)
  have hd : ∃ o, h'.get? dx = some o := by
    obtain ⟨o, _, _, e', _⟩ := hn
    exact ⟨o, e'⟩
  exact q _ (I.write (t' := tk') (x := dx) (e := dx) (o := exd dx ((f, y) :: fs)) (by rw [ed]; exact True.intro) (.inl rfl) k hd (exd_ok hn (relO_put ry rel)))
end
/-- self.f = e -/
def tOsG (K : PySem.W.Frag) (f : Str) (to te : TE) : TS := fun D σ H => te σ H fun y H1 => to σ H1 fun x H2 => ∃ a C : Addr, x = .ref a ∧ OexG K C ∧ PySem.W.findIn K (.ref C) f = some none ∧
  ((H2 a = some (exo a C none) ∧ ∀ dx, H2 dx = none → dx ≠ a → D.nx σ (upd (upd H2 dx (exd dx [(f, y)])) a (exo a C (some dx)))) ∨
    ∃ (dx : Addr) (fs : List (Str × V)), H2 a = some (exo a C (some dx)) ∧ H2 dx = some (exd dx fs) ∧ fs.length ≤ 900 ∧ D.nx σ (upd H2 dx (exd dx ((f, y) :: fs))))
/-- C(e, ..) as a thing -/
def tMkV (C : Addr) (sp : Sp) (ta : TA) : TE := fun σ H Q => ta σ H fun vs H1 => vs.length ≤ 1000 ∧ ∀ a, H1 a = none → sp (.ref a :: vs) (upd H1 a (exo a C none)) (fun v H2 => v = .non ∧ Q (.ref a) H2) (fun _ _ _ => False)
/-- C(k = e, ..) as a thing -/
def tMkK (C : Addr) (m : Nat) (sp : Sp) (gV : List V → List V → List V) (tk : TA) : TE := fun σ H Q => tk σ H fun zs H1 => zs.length = m ∧ ∀ a, H1 a = none → sp (gV [.ref a] zs) (upd H1 a (exo a C none)) (fun v H2 => v = .non ∧ Q (.ref a) H2) (fun _ _ _ => False)
section
open PySem.Spec PyProof.Rows
variable {X : Cx} {o e : Expr} {es : List Expr} {to te : TE} {ta : TA} {f : Str} {p p' p1 p2 pos : Pos}
theorem ps_osG (ho : PE X o to) (he : PE X e te) (hs : swapsWith e (some (.Attribute o f p')) pos.line X.env = pure false := by rfl) : PS X (.Assign [.Attribute o f p'] e pos) (tOsG X.K f to te) := by
  constructor
  intro pins s σ H D I h
  refine plainObj_wpAny_Assign_Attribute (thn (he.run pins s σ H _ I h) fun v s1 ⟨y, H1, I1, r1, q1⟩ => thn (ho.run pins s1 σ H1 _ I1 q1) fun u s2 ⟨x, H2, I2, r2, a, C, ex, T, hno, q⟩ => ?_) hs
  subst ex
  obtain rfl : u = Value.ref a := r2
  rcases q with ⟨ea, q⟩ | ⟨dx, fs, ea, ed, hl, q⟩
  · exact ostN T I2 ea hno r1 fun dx s' n ne J => ⟨σ, _, J, q dx n ne⟩
  · exact ostO T I2 ea ed hl hno r1 fun s' J => ⟨σ, _, J, q⟩
variable {CX : CXT} {x : Str} {C fI : Addr} {k : Nat} {fd : FuncData} {ps ks : List Str} {sp : Sp} {kws : List Keyword} {tk : TA} {g : List Value → List Value → List Value} {gV : List V → List V → List V}
/-- making: the new error stays tracked -/
theorem run_mkV {pins : List (Addr × Obj)} {σ : L2.St} {H : Hp} {s : Shared} {Q : VK} {us fu : List Value} {fv : Addr → List V} {kw : List (Str × Value)} (T : OexG X.K C) (iC : PySem.W.findIn X.K (.ref C) "__init__" = some (some (.ref fI))) (tI : PySem.W.typeIn X.K (.ref fI) = some (.type "function"))
    (F1 : FnOk X.prog X.w X.K X.mg X.base CX k fI fd ps sp) (hr : Room (k + 1) X.A) (hx : Passes CX X (fun _ _ _ => False)) (I : L2.Inv X pins σ H s) (hl : us.length ≤ sizeLine)
    (r : Vals (fv (s.heap.objs.size + 1)) fu) (hb : ∀ s' : Shared, X.K.In s'.heap → BindsTo s' fd ⟨.ref (s.heap.objs.size + 1) :: us, kw⟩ (ps.zip fu))
    (q : ∀ a, H a = none → sp (fv a) (upd H a (exo a C none)) (fun v H2 => v = .non ∧ Q (.ref a) H2) (fun _ _ _ => False)) : wpAny (model X.prog X.w) X.A (call (.ref C) us kw) (EP X pins σ Q) X.xe s := by
  obtain ⟨B, newId, initId, bm, bmB, nm, q0, N, bs, sn, sub, ab, col, dd, k0, k1, k2, k3, k5, FB, U, hC⟩ := T.cls
  obtain ⟨hp, g, dr, tk, os⟩ := s
  have big : hp.objs.size ≤ hp.objs.size + 1 := Nat.le_succ _
  have hq := q (hp.objs.size + 1) (I.hok.fresh big)
  have kk : ∀ b o, hp.get? b = some o → ((hp.push (PySem.W.kdv_tup us)).push (PySem.HandSPX.excO C hp.objs.size)).get? b = some o := fun b o z => Heap.get?_push_of_some _ (Heap.get?_push_of_some _ z)
  have new : ((hp.push (PySem.W.kdv_tup us)).push (PySem.HandSPX.excO C hp.objs.size)).get? (hp.objs.size + 1) = some (PySem.HandSPX.excO C hp.objs.size) := by heap_get
  have I2 : L2.Inv X pins σ (upd H (hp.objs.size + 1) (exo (hp.objs.size + 1) C none)) ⟨(hp.push (PySem.W.kdv_tup us)).push (PySem.HandSPX.excO C hp.objs.size), g, dr, tk, os⟩ :=
    I.laid (t' := tk) (a := hp.objs.size + 1) (o := exo (hp.objs.size + 1) C none) (h' := (hp.push (PySem.W.kdv_tup us)).push (PySem.HandSPX.excO C hp.objs.size)) kk big (exo_ok new)
  refine wpAny_call (callC FB U (I.kIn _ _ hC) (PySem.W.looks_findIn I.kIn iC) (fun self => PySem.W.bind_fn I.kIn self tI) hl
    (codeAny_mono (F1.run _ X.stack _ _ ⟨Value.ref (hp.objs.size + 1) :: us, kw⟩ fu _ _ (fun _ _ _ => False) (hr.make C us kw) (I2.env0.make C us kw) (hb _ I2.kIn) r hq) fun r' s' hq' => ?_))
  cases r' with
  | error er => exact hx pins σ _ _ er s' I2 hq'
  | ok fl =>
    cases fl with
    | ret u =>
      obtain ⟨v, H', I3, rv, ev, q3⟩ := I2.after hq'
      subst ev
      exact ⟨rv, V.ref (hp.objs.size + 1), H', I3, rfl, q3⟩
    | next => exact False.elim hq'
    | brk => exact False.elim hq'
    | cont => exact False.elim hq'
theorem pe_mkV (T : OexG X.K C) (iC : PySem.W.findIn X.K (.ref C) "__init__" = some (some (.ref fI))) (tI : PySem.W.typeIn X.K (.ref fI) = some (.type "function"))
    (F1 : FnOk X.prog X.w X.K X.mg X.base CX k fI fd ps sp) (hr : Room (k + 1) X.A) (hb : Binds X.K fd ps []) (hx : Passes CX X (fun _ _ _ => False)) (hg : Gl X x) (hm : X.mg x = some (.ref C)) (ha : PA X (e :: es) ta)
    (hdb : (x == ("__debug__" : Str)) = false := by decide) (he : starEach (e :: es) X.env = (false, eval e X.env) :: starEach es X.env := by rfl) (hpl : (backTo pos (starEach es X.env)).any (·.1) = false := by rfl) :
    PE X (.Call (.Name x p) (e :: es) [] pos) (tMkV C sp ta) := by
  constructor
  intro pins s σ H Q I h
  refine wpAny_Call_Name_kw (ld_glob I hg hm ?_ hdb)
  refine PySem.W.callWith_K (h₀ := X.base) I.ok.mod.kin T.kC (thn (ha.run pos pins s σ H _ I h) fun us s1 ⟨vs, H1, I1, r1, hz, q1⟩ => ⟨I1.kIn, ?_⟩) he hpl
  have r2 : Vals (V.ref (s1.heap.objs.size + 1) :: vs) (Value.ref (s1.heap.objs.size + 1) :: us) := .cons rfl r1
  have hlen : (Value.ref (s1.heap.objs.size + 1) :: us ++ []).length = ps.length := by
    rw [List.append_nil, ← r2.length, F1.len _ _ _ _ (q1 _ (I1.hok.fresh (Nat.le_succ _)))]
  have hus : us.length ≤ sizeLine := by
    rw [← Paired.length r1, sizeLine_eq]
    omega
  refine run_mkV (fu := Value.ref (s1.heap.objs.size + 1) :: us) (fv := fun a => .ref a :: vs) T iC tI F1 hr hx I1 hus r2 (fun s' kin => ?_) q1
  have z := hb s' (Value.ref (s1.heap.objs.size + 1) :: us) kin hlen
  rw [List.append_nil] at z
  exact z
theorem pe_mkK (T : OexG X.K C) (iC : PySem.W.findIn X.K (.ref C) "__init__" = some (some (.ref fI))) (tI : PySem.W.typeIn X.K (.ref fI) = some (.type "function"))
    (F1 : FnOk X.prog X.w X.K X.mg X.base CX k fI fd ps sp) (hr : Room (k + 1) X.A) (hb : KBn X.K fd ps 1 ks g gV) (hx : Passes CX X (fun _ _ _ => False)) (hg : Gl X x) (hm : X.mg x = some (.ref C)) (hkw : PK X kws tk)
    (hall : (backToKw pos (keywordEach kws X.env)).all (·.1.isSome) = true := by rfl)
    (hks : (backToKw pos (keywordEach kws X.env)).filterMap (·.1) = ks := by rfl)
    (hdb : (x == ("__debug__" : Str)) = false := by decide)
    (hpl : ((backTo pos (starEach [] X.env)).any (·.1) || (backToKw pos (keywordEach kws X.env)).any (·.1.isNone)) = false := by rfl) :
    PE X (.Call (.Name x p) [] kws pos) (tMkK C ks.length sp gV tk) := by
  constructor
  intro pins s σ H Q I h
  refine wpAny_Call_Name_kw (ld_glob I hg hm ?_ hdb)
  refine PySem.W.callWith_KW0 (h₀ := X.base) I.ok.mod.kin T.kC hall ?_ hpl
  refine thn (hkw.run pos pins s σ H _ I h) ?_
  rintro ws s2 ⟨zs, H2, I2, rz, l2, q2⟩
  refine ⟨I2.kIn, ?_⟩
  rw [hks]
  have r2 : Vals (gV [V.ref (s2.heap.objs.size + 1)] zs) (g [Value.ref (s2.heap.objs.size + 1)] ws) := hb.rel (.cons rfl .nil) rz
  exact run_mkV (us := []) (fu := g [Value.ref (s2.heap.objs.size + 1)] ws) (fv := fun a => gV [.ref a] zs) T iC tI F1 hr hx I2 (by rw [sizeLine_eq]; exact Nat.zero_le _) r2 (fun s' kin => hb.to s' [Value.ref (s2.heap.objs.size + 1)] ws kin rfl (rz.length.symm.trans l2)) q2
/-- a field -/
def tXfV (K : PySem.W.Frag) (f : Str) (te : TE) : TE := fun σ H Q => te σ H fun x H1 => ∃ (a C : Addr) (fs : List (Str × V)) (v : V), x = .ref a ∧ XV H1 a C fs ∧ XfC K C ∧ PySem.W.findIn K (.ref C) f = some none ∧ fs.lookup f = some v ∧ Q v H1
theorem pe_xfV {f0 : Str} (he : PE X e te) (hb : attributeBase e f0 X.env (eval e X.env) = eval e X.env := by rfl) : PE X (.Attribute e f0 pos) (tXfV X.K f0 te) := by
  constructor
  intro pins s σ H Q I h
  refine attr_of hb (thn (he.run pins s σ H _ I h) fun u s1 hh => ?_)
  obtain ⟨x, H1, I1, rx, a, C, fs, v, rfl, hX, T, hno, l, q⟩ := hh
  obtain rfl : u = Value.ref a := rx
  obtain ⟨oe, od, mA, J, hl, rel⟩ := hX.at I1
  obtain ⟨u, hu, ru⟩ := RelO.some_of (v := v) (o := mA f0) (by rw [← l]; exact rel f0)
  exact HandSPX.exc_get I1.kIn J T.ga T.gg T.exC (PySem.W.findObj_own T.hdC hno rfl (by rw [hl, hu])) (handed_of ru) ⟨v, H1, I1.tok _, ru, q⟩
/-- isinstance of an error, and a class -/
def rIsV (K : PySem.W.Frag) : List V → Hp → VK → Prop := fun xs H Q => ∃ (a C : Addr) (fs : List (Str × V)) (c : V) (cv : Value) (b : Bool), xs = [.ref a, c] ∧ XV H a C fs ∧ ExcC K C ∧ PySem.W.isClsIn K C = true ∧ (∀ u, L2.RelV c u → u = cv) ∧ PySem.W.kitOne K (.ref C) cv = some b ∧ Q (.bl b) H
theorem call_isV : CallR X (.builtin "isinstance") (rIsV X.K) := by
  intro pins s σ H xs us Q I r h
  obtain ⟨a, C, fs, c, cv, b, rfl, hX, CC, hcl, hcv, e, q⟩ := h
  obtain ⟨u0, r0, rfl, h0, hr0⟩ : ∃ u0 r0, us = u0 :: r0 ∧ u0 = Value.ref a ∧ Vals [c] r0 := by
    cases r with
    | cons h1 h2 => exact ⟨_, _, rfl, h1, h2⟩
  subst h0
  obtain ⟨u1, rfl, hu1⟩ := vals1 hr0
  obtain ⟨oe, od, mA, J, _, _⟩ := hX.at I
  obtain rfl := hcv _ hu1
  exact PySem.W.kia_one (PySem.W.kitx_exc (x := a) (ox := oe) (od := some od) hcl CC.hg CC.hk CC.hs CC.ha CC.hn CC.ht CC.hm) I.kIn J e (fun z => nomatch z) fun tk => ⟨.bl b, H, I.kept (t' := tk) fun _ _ z => z, rfl, q⟩
end
/-! A try whose error is kept under another name: behind the try it is tracked. -/
section
open PySem.Spec PyProof.Rows
variable {X : Cx}
/-- the context behind it: the exception is pinned -/
abbrev kpC (X : Cx) (q : Addr × Obj) : Cx := Cx.tr X (q :: X.pn) X.xe
theorem inv_kp {pins pn' : List (Addr × Obj)} {σ : L2.St} {H : Hp} {s : Shared} {a : Addr} {q : Addr × Obj} (I : L2.Inv (Cx.suite X a (q :: (X.pn ++ pins))) pn' σ H s) (ok : X.Ok) : L2.Inv (kpC X q) pins σ H s :=
  ⟨Cx.Ok.toTry ok _ _, I.os, I.bare, I.base, I.loc, I.cell, I.free, I.freeC, fun p hp => I.pin p (List.mem_append_left _ hp), I.hok, I.len⟩
theorem inv_unkp {pins : List (Addr × Obj)} {σ : L2.St} {H : Hp} {s : Shared} {q : Addr × Obj} (I : L2.Inv (kpC X q) pins σ H s) (ok : X.Ok) : L2.Inv X pins σ H s :=
  ⟨ok, I.os, I.bare, I.base, I.loc, I.cell, I.free, I.freeC, fun p hp => I.pin p (List.mem_cons_of_mem _ hp), I.hok, I.len⟩
theorem inv_trk {pins : List (Addr × Obj)} {σ : L2.St} {H : Hp} {s : Shared} {a : Addr} {oe : Obj} (I : L2.Inv (kpC X (a, oe)) pins σ H s) (ok : X.Ok) (new : X.s_0.heap.get? a = none) (other : ∀ p ∈ X.pn ++ pins, p.1 ≠ a) :
    L2.Inv X pins σ (upd H a (.ext fun h => h.get? a = some oe)) s := by
  obtain ⟨there, na, nl, nf, nc⟩ := I.pin (a, oe) (List.mem_append_left _ List.mem_cons_self)
  have ne : ∀ {b : Addr} {o : HO}, H b = some o → b ≠ a := fun {b o} e z => by
    rw [z] at e
    rw [show H a = none from na] at e
    cases e
  refine ⟨ok, I.os, I.bare, ⟨I.base.keep, I.base.slot, fun b o e n hq => ?_, I.base.there, fun b xs e => ?_, fun b o u e => ?_, fun b ps e => ?_⟩, I.loc, I.cell, ?_, fun x c e => ?_, fun p hp => ?_, ?_, I.len⟩
  · have z := I.base.free b o e n hq
    rw [upd_ne (fun y => by rw [y, new] at e; cases e)]
    exact z
  · have z := I.base.tups b xs e
    rw [upd_ne (ne z)]
    exact z
  · have z := I.base.frzs b o u e
    rw [upd_ne (ne z)]
    exact z
  · obtain ⟨m, z⟩ := I.base.tbls b ps e
    exact ⟨m, by rw [upd_ne (ne z)]; exact z⟩
  · rw [upd_ne (fun y => nl y.symm)]
    exact I.free
  · have z := I.freeC x c e
    rw [upd_ne]
    · exact z
    · intro y
      obtain ⟨v, o, ho, hd⟩ := I.cell x c e
      rw [y, there] at ho
      cases ho
      exact nc _ hd
  · obtain ⟨e1, e2, e3, e4, e5⟩ := I.pin p (List.mem_cons_of_mem _ hp)
    exact ⟨e1, by rw [upd_ne (other p hp)]; exact e2, e3, e4, e5⟩
  · exact HOk.laidN I.hok (fun _ _ z => z) na ⟨there, ⟨oe, there⟩, fun h1 h2 z k => k _ z⟩
def endsTr (i : Nat) (D : Ends) (a : Addr) (φ : Heap → Prop) : Ends :=
  { nx := fun σ' H' => D.nx (σ'.set i none) (upd H' a (.ext φ)), rt := fun _ _ => False, bk := fun _ _ => False, ct := fun _ _ => False }
def wTrk (K : PySem.W.Frag) (c : Value) (i : Nat) (ts : Addr → TS) (Wout : WX) (D : Ends) : WX := fun cls d σ H =>
  ∃ b, PySem.W.exmOne K cls c = some b ∧ (b = true → ∀ a φ, H a = none → XOf cls d a φ → ts a (endsTr i D a φ) (σ.set i (some (.ref a))) H) ∧ (b = false → Wout cls d σ H)
variable {x nm0 : Str} {c : Value} {i : Nat} {body suite : List Stmt} {b0 : Stmt} {np pos pos' : Pos} {tb : WX → TS} {ts : Addr → TS} {Wout : WX}
theorem ps_try_trk (stk : X.stack = X.env :: X.outer) (frm : X.env.frame = some X.env.locals) (nod : X.N.Nodup) (at_ : X.N[i]? = some nm0) (kin : X.env.kindOf nm0 = some .local) (nms : Names X x c) (tk : Takes X Wout)
    (hbody : ∀ (W : WX) (pn : List (Addr × Obj)) (xe : Value → Shared → Prop), Takes (Cx.tr X pn xe) W → PassesOwn (model X.prog X.w) X.A X.env xe → PSs (Cx.tr X pn xe) body (tb W))
    (hsuite : ∀ (a : Addr) (oe : Obj) (cls : Value) (d : Option Addr) (pn : List (Addr × Obj)), Zc cls d oe → (∃ vs, oe.data = .fields vs) → PSs (Cx.suite X a ((a, oe) :: pn)) (b0 :: suite) (ts a))
    (hex : X.ex = [] := by rfl) : PS X (.Try body [.ExceptHandler (some (.Name x np)) (some nm0) (b0 :: suite) pos'] [] [] pos) (fun D σ H => tb (wTrk X.K c i ts Wout D) D σ H) := by
  constructor
  intro pins s σ H D I h
  have okX := I.ok
  have allF : X.A.frames = some (X.env :: X.outer) := by
    rw [okX.frames, stk]
  refine wpAny_Try_except ?_
  refine wpAny_mono ((hbody (wTrk X.K c i ts Wout D) (X.pn ++ pins) (fun e s₁ => wpAny (model X.prog X.w) X.A (noteFrame e X.env) (fun _ s₂ => wpAny (model X.prog X.w) X.A (setFlight e none)
    (fun _ s₃ => wpAny (model X.prog X.w) X.A (handleBy e X.env [.ExceptHandler (some (.Name x np)) (some nm0) (b0 :: suite) pos']) (SP X pins D) X.xe s₃) X.xe s₂) X.xe s₁) (fun u s' caught => ?_) PassesOwn.looking).run [] s σ H _ (I.toTry _) h) (fun fl s1 hsp => ?_) (fun e s1 he => he)
  · obtain ⟨a, B, sI, pins', σ', H', cls, d, rfl, J', nb, up, sky, na, os, ag, b, hb1, hyes, hno⟩ := caught
    have J : L2.Inv X pins σ' H' sI := J'.ofTry okX
    have sky2 : Sky B (X.env :: X.outer) a (Zc cls d) X.env.locals s'.heap := by
      rw [← stk]
      exact sky
    show wpAny (model X.prog X.w) X.A (noteFrame (.ref a) X.env) _ _ _
    refine Sky.land Zc.steady allF frm sky2 fun h3 fl3 up3 => ?_
    have J3 : L2.Inv X pins σ' H' { s' with heap := h3 } := J.landed nb fl3.1 (up.trans up3) os ag
    obtain ⟨oe3, vs3, he3, hz3, hd3⟩ := fl3.there
    have notIn : a ∉ frs (X.env :: X.outer) := fun hm => by
      obtain ⟨_, o', e', hnf⟩ := fl3.2.2.1.mem hm
      rw [he3] at e'
      cases e'
      exact hnf _ hd3
    have nL : a ≠ X.env.locals := fun z => notIn (List.mem_filterMap.mpr ⟨X.env, List.mem_cons_self, (by rw [frm, z])⟩)
    have nF : a ∉ X.fs := fun hm => by
      obtain ⟨e, hin, eq⟩ := List.mem_filterMap.mp hm
      exact notIn (List.mem_filterMap.mpr ⟨e, List.mem_cons_of_mem _ hin, eq⟩)
    have newI : sI.heap.get? a = none := by
      cases e : sI.heap.get? a with
      | none => rfl
      | some o =>
        have z := nb a o e (by rw [stk]; exact notIn)
        rw [show B.get? a = none from fl3.2.1] at z
        cases z
    have new0 : X.s_0.heap.get? a = none := by
      cases e : X.s_0.heap.get? a with
      | none => rfl
      | some o =>
        obtain ⟨o', z⟩ := J.base.there a o e (by rw [hex]; exact fun y => nomatch y)
        rw [newI] at z
        cases z
    have other : ∀ p ∈ X.pn ++ pins, p.1 ≠ a := fun p hp z => by
      have y := (J.pin p hp).1
      rw [z, newI] at y
      cases y
    have S3 := Inv.suite J3 he3 hd3 na nL nF
    refine wpAny_handleBy_cons (codeAny_handlers_test ?_) (by intro q; cases q)
    have itsType : PySem.W.Looks (model X.prog X.w) h3 (typeOf (.ref a)) cls := fun A Q E s k q => wpAny_typeOf_ref (k _ _ he3) (by rw [hz3.1]; exact q)
    have itMatches := PySem.W.exm_one (M := model X.prog X.w) (J3.kIn) itsType hb1
    have named : ∀ {Q : Value → Shared → Prop} {E : Value → Shared → Prop}, Q c { s' with heap := h3 } → wpAny (model X.prog X.w) (X.A.mark (some (.ref a))) (eval (.Name x np) X.env) Q E { s' with heap := h3 } := fun {Q E} q => by
      obtain ⟨gl, dbg, g | ⟨g, v, nn⟩⟩ := nms
      · exact ld_glob (X := Cx.suite X a ((a, oe3) :: (X.pn ++ pins))) S3 gl g q dbg
      · exact ld_blt (X := Cx.suite X a ((a, oe3) :: (X.pn ++ pins))) S3 gl g v q nn dbg
    refine named (itMatches.here ?_)
    cases b with
    | true =>
      refine codeAny_handlers_suite_as ?_
      refine HandSPX.lands_againZ fl3 fun h4 fl4 up4 => ?_
      have J4 : L2.Inv X pins σ' H' { s' with heap := h4 } := J.landed nb fl4.1 ((up.trans up3).trans up4) os ag
      obtain ⟨oe4, vs4, he4, hz4, hd4⟩ := fl4.there
      have S4 := Inv.suite J4 he4 hd4 na nL nF
      refine store_ok (X := Cx.suite X a ((a, oe4) :: (X.pn ++ pins))) (v := .ref a) S4 nod at_ (.inl kin) rfl (fun s5 S5 => ?_) (.inr kin)
      refine wpAny_mono ((hsuite a oe4 cls d (X.pn ++ pins) hz4 ⟨_, hd4⟩).run [] s5 _ H' _ S5 (hyes rfl a (fun h => h.get? a = some oe4) na (fun h z => ⟨oe4, vs4, z, hz4.1, hz4.2, hd4⟩))) (fun fl s6 hsp => ?_) (fun _ _ z => False.elim z)
      cases fl with
      | next =>
        obtain ⟨σ6, H6, S6, q6⟩ := hsp
        exact gone_ok (X := kpC X (a, oe4)) (inv_kp S6 okX) nod at_ kin fun s7 J7 => ⟨_, _, inv_trk J7 okX new0 other, q6⟩
      | brk =>
        obtain ⟨_, _, _, bad⟩ := hsp
        exact False.elim bad
      | cont =>
        obtain ⟨_, _, _, bad⟩ := hsp
        exact False.elim bad
      | ret u =>
        obtain ⟨_, _, _, _, _, bad⟩ := hsp
        exact False.elim bad
    | false =>
      show wpAny _ X.A (handleBy (.ref a) X.env []) _ _ _
      refine wpAny_handleBy_nil ?_
      obtain ⟨k1, k2, k3, oe, vs, T, oT, ts', he, hz, hd, h1, hr⟩ := id fl3
      unfold PySem.passOn
      refine wpAny_bind (wpAny_field he hd h1 ?_)
      rw [if_neg (show ¬ ((Value.ref T == Value.none) = true) by simp)]
      have on : wpAny (model X.prog X.w) X.A (setFlight (.ref a) X.env.frame) (fun _ s4 => wpAny (model X.prog X.w) X.A (throw (.ref a) : Sem Flow) (SP X pins D) X.xe s4) X.xe { s' with heap := h3 } := by
        rw [frm]
        refine HandSPX.setFlight_upZ fl3 fun h4 hh4 up4 => wpAny_throw (tk _ _ ?_)
        exact ⟨a, B, sI, pins, σ', H', cls, d, rfl, J, nb, (up.trans up3).trans up4, .inr (.inr (by rw [stk]; exact hh4)), na, os, ag, hno rfl⟩
      first
        | exact wpAny_bind (wpAny_pure (wpAny_bind on))
        | exact wpAny_bind on
  · cases fl with
    | next =>
      obtain ⟨σ', H', J', q⟩ := hsp
      exact wpAny_execs_nil ⟨σ', H', J'.ofTry okX, q⟩
    | brk =>
      obtain ⟨σ', H', J', q⟩ := hsp
      exact ⟨σ', H', J'.ofTry okX, q⟩
    | cont =>
      obtain ⟨σ', H', J', q⟩ := hsp
      exact ⟨σ', H', J'.ofTry okX, q⟩
    | ret u =>
      obtain ⟨v, σ', H', J', r, q⟩ := hsp
      exact ⟨v, σ', H', J'.ofTry okX, r, q⟩
end
theorem ab_ValueError : Above "ValueError" [.type "ValueError", .type "Exception", .type "BaseException", .type "object"] := ⟨by decide +kernel, by decide +kernel, by decide +kernel, by decide +kernel, fun self => by kernel_rfl⟩
theorem ab_RuntimeError : Above "RuntimeError" [.type "RuntimeError", .type "Exception", .type "BaseException", .type "object"] := ⟨by decide +kernel, by decide +kernel, by decide +kernel, by decide +kernel, fun self => by kernel_rfl⟩
theorem ab_IndexError : Above "IndexError" [.type "IndexError", .type "LookupError", .type "Exception", .type "BaseException", .type "object"] := ⟨by decide +kernel, by decide +kernel, by decide +kernel, by decide +kernel, fun self => by kernel_rfl⟩
theorem ab_KeyError : Above "LookupError" [.type "KeyError", .type "LookupError", .type "Exception", .type "BaseException", .type "object"] := ⟨by decide +kernel, by decide +kernel, by decide +kernel, by decide +kernel, fun self => by kernel_rfl⟩
theorem ab_LookupError : Above "LookupError" [.type "LookupError", .type "Exception", .type "BaseException", .type "object"] := ⟨by decide +kernel, by decide +kernel, by decide +kernel, by decide +kernel, fun self => by kernel_rfl⟩
theorem ab_OverflowError : Above "OverflowError" [.type "OverflowError", .type "ArithmeticError", .type "Exception", .type "BaseException", .type "object"] := ⟨by decide +kernel, by decide +kernel, by decide +kernel, by decide +kernel, fun self => by kernel_rfl⟩
theorem ab_ArithmeticError : Above "ArithmeticError" [.type "ArithmeticError", .type "Exception", .type "BaseException", .type "object"] := ⟨by decide +kernel, by decide +kernel, by decide +kernel, by decide +kernel, fun self => by kernel_rfl⟩
theorem ab_Exception : Above "Exception" [.type "Exception", .type "BaseException", .type "object"] := ⟨by decide +kernel, by decide +kernel, by decide +kernel, by decide +kernel, fun self => by kernel_rfl⟩
/-! Which error is of which class. -/
def basN : List String := ["ValueError", "RuntimeError", "IndexError", "KeyError", "LookupError", "OverflowError", "ArithmeticError"]
def basD : List (List Nat) := [[0], [0], [0], [1], [1], [2, 4], [2, 4], [3, 4], [3, 4], [4], [4], [5, 6], [6], []]
def ownTab (K : PySem.W.Frag) (cs : List Addr) : Bool := (List.range 14).all fun i => (List.range 14).all fun j => PySem.W.kitOne K (.ref (cs.getD i 0)) (.ref (cs.getD j 0)) == some (i == j)
def basTab (K : PySem.W.Frag) (cs : List Addr) : Bool := (List.range 14).all fun i => (List.range 7).all fun j => PySem.W.kitOne K (.ref (cs.getD i 0)) (.type (basN.getD j "")) == some ((basD.getD i []).contains j)
def top (i : Nat) : Stmt := PySem.Challenge.pw_replaytravel_k25_turns_packed_and_read.main.body.getD i (.Pass ⟨0, 0, 0, 0⟩)
def cls0 : Stmt → Stmt
  | .ClassDef (body := b) .. => b.getD 0 (.Pass ⟨0, 0, 0, 0⟩)
  | s => s
abbrev s_iNoText : Stmt := cls0 (top 2)
abbrev N_iNoText : List Str := ["self", "nth"]
theorem sc_iNoText : FnScope N_iNoText ["self", "nth"] (defScope s_iNoText) := ⟨rfl, rfl, rfl, by decide +kernel, rfl, by decide +kernel, by decide +kernel⟩
abbrev s_iNotAhead : Stmt := cls0 (top 3)
abbrev N_iNotAhead : List Str := ["self", "one", "other"]
theorem sc_iNotAhead : FnScope N_iNotAhead ["self", "one", "other"] (defScope s_iNotAhead) := ⟨rfl, rfl, rfl, by decide +kernel, rfl, by decide +kernel, by decide +kernel⟩
abbrev s_iNoRow : Stmt := cls0 (top 4)
abbrev N_iNoRow : List Str := ["self", "said"]
theorem sc_iNoRow : FnScope N_iNoRow ["self", "said"] (defScope s_iNoRow) := ⟨rfl, rfl, rfl, by decide +kernel, rfl, by decide +kernel, by decide +kernel⟩
abbrev s_iNotReady : Stmt := cls0 (top 5)
abbrev N_iNotReady : List Str := ["self", "nth", "who", "what"]
theorem sc_iNotReady : FnScope N_iNotReady ["self", "nth", "who", "what"] (defScope s_iNotReady) := ⟨rfl, rfl, rfl, by decide +kernel, rfl, by decide +kernel, by decide +kernel⟩
abbrev s_iNoReplay : Stmt := cls0 (top 6)
abbrev N_iNoReplay : List Str := ["self", "stopped"]
theorem sc_iNoReplay : FnScope N_iNoReplay ["self", "stopped"] (defScope s_iNoReplay) := ⟨rfl, rfl, rfl, by decide +kernel, rfl, by decide +kernel, by decide +kernel⟩
abbrev s_iNoPlace : Stmt := cls0 (top 7)
abbrev N_iNoPlace : List Str := ["self", "asked"]
theorem sc_iNoPlace : FnScope N_iNoPlace ["self", "asked"] (defScope s_iNoPlace) := ⟨rfl, rfl, rfl, by decide +kernel, rfl, by decide +kernel, by decide +kernel⟩
abbrev s_iNoTime : Stmt := cls0 (top 8)
abbrev N_iNoTime : List Str := ["self", "asked"]
theorem sc_iNoTime : FnScope N_iNoTime ["self", "asked"] (defScope s_iNoTime) := ⟨rfl, rfl, rfl, by decide +kernel, rfl, by decide +kernel, by decide +kernel⟩
abbrev s_iNoStep : Stmt := cls0 (top 9)
abbrev N_iNoStep : List Str := ["self", "asked"]
theorem sc_iNoStep : FnScope N_iNoStep ["self", "asked"] (defScope s_iNoStep) := ⟨rfl, rfl, rfl, by decide +kernel, rfl, by decide +kernel, by decide +kernel⟩
abbrev s_iNoPair : Stmt := cls0 (top 10)
abbrev N_iNoPair : List Str := ["self", "one", "other"]
theorem sc_iNoPair : FnScope N_iNoPair ["self", "one", "other"] (defScope s_iNoPair) := ⟨rfl, rfl, rfl, by decide +kernel, rfl, by decide +kernel, by decide +kernel⟩
abbrev s_iNoThread : Stmt := cls0 (top 11)
abbrev N_iNoThread : List Str := ["self", "asked"]
theorem sc_iNoThread : FnScope N_iNoThread ["self", "asked"] (defScope s_iNoThread) := ⟨rfl, rfl, rfl, by decide +kernel, rfl, by decide +kernel, by decide +kernel⟩
abbrev s_iNoSource : Stmt := cls0 (top 12)
abbrev N_iNoSource : List Str := ["self", "asked"]
theorem sc_iNoSource : FnScope N_iNoSource ["self", "asked"] (defScope s_iNoSource) := ⟨rfl, rfl, rfl, by decide +kernel, rfl, by decide +kernel, by decide +kernel⟩
abbrev s_iTooMany : Stmt := cls0 (top 13)
abbrev N_iTooMany : List Str := ["self", "most"]
theorem sc_iTooMany : FnScope N_iTooMany ["self", "most"] (defScope s_iTooMany) := ⟨rfl, rfl, rfl, by decide +kernel, rfl, by decide +kernel, by decide +kernel⟩
abbrev s_iTooLong : Stmt := cls0 (top 14)
abbrev N_iTooLong : List Str := ["self", "limit"]
theorem sc_iTooLong : FnScope N_iTooLong ["self", "limit"] (defScope s_iTooLong) := ⟨rfl, rfl, rfl, by decide +kernel, rfl, by decide +kernel, by decide +kernel⟩
abbrev s_iNotYet : Stmt := cls0 (top 15)
abbrev N_iNotYet : List Str := ["self", "what"]
theorem sc_iNotYet : FnScope N_iNotYet ["self", "what"] (defScope s_iNotYet) := ⟨rfl, rfl, rfl, by decide +kernel, rfl, by decide +kernel, by decide +kernel⟩
abbrev s_iswhole : Stmt := top 17
abbrev N_iswhole : List Str := ["thing"]
theorem sc_iswhole : FnScope N_iswhole ["thing"] (defScope s_iswhole) := ⟨rfl, rfl, rfl, by decide +kernel, rfl, by decide +kernel, by decide +kernel⟩
abbrev s_isbelow : Stmt := top 18
abbrev N_isbelow : List Str := ["thing", "many"]
theorem sc_isbelow : FnScope N_isbelow ["thing", "many"] (defScope s_isbelow) := ⟨rfl, rfl, rfl, by decide +kernel, rfl, by decide +kernel, by decide +kernel⟩
abbrev s_wholeof : Stmt := top 19
abbrev N_wholeof : List Str := ["text"]
theorem sc_wholeof : FnScope N_wholeof ["text"] (defScope s_wholeof) := ⟨rfl, rfl, rfl, by decide +kernel, rfl, by decide +kernel, by decide +kernel⟩
abbrev s_stretches : Stmt := top 23
abbrev N_stretches : List Str := ["turns", "rows", "thread"]
theorem sc_stretches : FnScope N_stretches ["turns"] (defScope s_stretches) := ⟨rfl, rfl, rfl, by decide +kernel, rfl, by decide +kernel, by decide +kernel⟩
abbrev s_packed : Stmt := top 24
abbrev N_packed : List Str := ["turns", "words", "thread", "many"]
theorem sc_packed : FnScope N_packed ["turns"] (defScope s_packed) := ⟨rfl, rfl, rfl, by decide +kernel, rfl, by decide +kernel, by decide +kernel⟩
abbrev s_turnsof : Stmt := top 25
abbrev N_turnsof : List Str := ["word", "thread", "star", "many", "number", "times"]
theorem sc_turnsof : FnScope N_turnsof ["word"] (defScope s_turnsof) := ⟨rfl, rfl, rfl, by decide +kernel, rfl, by decide +kernel, by decide +kernel⟩
abbrev s_unpacked : Stmt := top 26
abbrev N_unpacked : List Str := ["text", "turns", "word"]
theorem sc_unpacked : FnScope N_unpacked ["text"] (defScope s_unpacked) := ⟨rfl, rfl, rfl, by decide +kernel, rfl, by decide +kernel, by decide +kernel⟩
abbrev s_lpen : Stmt := top 28
abbrev N_lpen : List Str := ["_law_script"]
theorem sc_lpen : FnScope N_lpen ["_law_script"] (defScope s_lpen) := ⟨rfl, rfl, rfl, by decide +kernel, rfl, by decide +kernel, by decide +kernel⟩
abbrev s_ldraw : Stmt := top 29
abbrev N_ldraw : List Str := ["_law_pen_here", "_law_many_here", "_law_digit", "_law_turn", "_law_cell", "_law_primes", "_law_prime", "_law_mixed"]
theorem sc_ldraw : FnScope N_ldraw ["_law_pen_here", "_law_many_here"] (defScope s_ldraw) := ⟨rfl, rfl, rfl, by decide +kernel, rfl, by decide +kernel, by decide +kernel⟩
abbrev s_lclass : Stmt := top 30
abbrev N_lclass : List Str := ["_law_e", "_law_some", "_law_words", "_law_word", "_law_so"]
theorem sc_lclass : FnScope N_lclass ["_law_e"] (defScope s_lclass) := ⟨rfl, rfl, rfl, by decide +kernel, rfl, by decide +kernel, by decide +kernel⟩
abbrev s_lbase : Stmt := top 31
abbrev N_lbase : List Str := ["_law_e", "_law_some", "_law_words", "_law_word", "_law_so"]
theorem sc_lbase : FnScope N_lbase ["_law_e"] (defScope s_lbase) := ⟨rfl, rfl, rfl, by decide +kernel, rfl, by decide +kernel, by decide +kernel⟩
abbrev s_lmany : Stmt := top 32
abbrev N_lmany : List Str := ["_law_pen_here", "_law_turns", "_law_upto", "_law_k"]
theorem sc_lmany : FnScope N_lmany ["_law_pen_here"] (defScope s_lmany) := ⟨rfl, rfl, rfl, by decide +kernel, rfl, by decide +kernel, by decide +kernel⟩
abbrev s_lpk : Stmt := top 33
abbrev N_lpk : List Str := ["_law_turns", "_law_words", "_law_at", "_law_many_here"]
theorem sc_lpk : FnScope N_lpk ["_law_turns"] (defScope s_lpk) := ⟨rfl, rfl, rfl, by decide +kernel, rfl, by decide +kernel, by decide +kernel⟩
abbrev s_lisright : Stmt := top 34
abbrev N_lisright : List Str := ["_law_text", "_law_total", "_law_before", "_law_word", "_law_figures", "_law_strange", "_law_mark"]
theorem sc_lisright : FnScope N_lisright ["_law_text"] (defScope s_lisright) := ⟨rfl, rfl, rfl, by decide +kernel, rfl, by decide +kernel, by decide +kernel⟩
abbrev s_lbent : Stmt := top 35
abbrev N_lbent : List Str := ["_law_pen_here", "_law_text", "_law_signs", "_law_at", "_law_sign", "_law_words", "_law_k", "_law_odd", "_law_some", "_law_word"]
theorem sc_lbent : FnScope N_lbent ["_law_pen_here", "_law_text"] (defScope s_lbent) := ⟨rfl, rfl, rfl, by decide +kernel, rfl, by decide +kernel, by decide +kernel⟩
abbrev s_lrefused : Stmt := top 36
abbrev N_lrefused : List Str := ["_law_thing", "_law_kept", "_law_e"]
theorem sc_lrefused : FnScope N_lrefused ["_law_thing"] (defScope s_lrefused) := ⟨rfl, rfl, rfl, by decide +kernel, rfl, by decide +kernel, by decide +kernel⟩
abbrev s_lplaced : Stmt := top 37
abbrev N_lplaced : List Str := ["_law_it", "_law_more", "_law_last", "_law_found"]
theorem sc_lplaced : FnScope N_lplaced ["_law_it", "_law_more", "_law_last"] (defScope s_lplaced) := ⟨rfl, rfl, rfl, by decide +kernel, rfl, by decide +kernel, by decide +kernel⟩
abbrev s_lnamed : Stmt := top 38
abbrev N_lnamed : List Str := ["_law_it", "_law_more", "_law_last", "_law_found"]
theorem sc_lnamed : FnScope N_lnamed ["_law_it", "_law_more", "_law_last"] (defScope s_lnamed) := ⟨rfl, rfl, rfl, by decide +kernel, rfl, by decide +kernel, by decide +kernel⟩
abbrev s_lfields : Stmt := top 39
abbrev N_lfields : List Str := ["_law_e", "_law_word"]
theorem sc_lfields : FnScope N_lfields ["_law_e", "_law_word"] (defScope s_lfields) := ⟨rfl, rfl, rfl, by decide +kernel, rfl, by decide +kernel, by decide +kernel⟩
abbrev s_lbases : Stmt := top 40
abbrev N_lbases : List Str := ["_law_e", "_law_some", "_law_k"]
theorem sc_lbases : FnScope N_lbases ["_law_e"] (defScope s_lbases) := ⟨rfl, rfl, rfl, by decide +kernel, rfl, by decide +kernel, by decide +kernel⟩
abbrev s_lmaderight : Stmt := top 41
abbrev N_lmaderight : List Str := ["_law_pen_here", "_law_classes", "_law_due", "_law_it", "_law_more", "_law_last", "_law_k", "_law_found", "_law_things"]
theorem sc_lmaderight : FnScope N_lmaderight ["_law_pen_here"] (defScope s_lmaderight) := ⟨rfl, rfl, rfl, by decide +kernel, rfl, by decide +kernel, by decide +kernel⟩
abbrev s_law : Stmt := top 42
abbrev N_law : List Str := ["_law_script", "_law_pen_here", "_law_bout", "_law_turns", "_law_handed", "_law_text", "_law_bent_here", "_law_odd", "_law_thing"]
theorem sc_law : FnScope N_law ["_law_script"] (defScope s_law) := ⟨rfl, rfl, rfl, by decide +kernel, rfl, by decide +kernel, by decide +kernel⟩
structure Txt (K : PySem.W.Frag) (w : World) (mg : Str → Option Value) (f : Nat → Addr) (fd : Nat → FuncData) (ob : Nat → Addr) : Prop where
  F_iNoText : Fun K "__init__" "NoText.__init__" s_iNoText (f 0) (fd 0)
  m_NoText : mg "NoText" = some (.ref (ob 0))
  G_NoText : OexG K (ob 0)
  X_NoText : OexC K (ob 0)
  XE_NoText : PySem.W.exmOne K (.ref (ob 0)) (.ref (ob 0)) = some true
  XI_NoText : PySem.W.findIn K (.ref (ob 0)) "__init__" = some (some (.ref (f 0)))
  XT_NoText : PySem.W.typeIn K (.ref (f 0)) = some (.type "function")
  XK_NoText : ExcC K (ob 0)
  XC_NoText : PySem.W.isClsIn K (ob 0) = true
  XN_NoText_nth : PySem.W.findIn K (.ref (ob 0)) "nth" = some none
  b_iNoText : Binds K (fd 0) ["self", "nth"] []
  F_iNotAhead : Fun K "__init__" "NotAhead.__init__" s_iNotAhead (f 1) (fd 1)
  m_NotAhead : mg "NotAhead" = some (.ref (ob 1))
  G_NotAhead : OexG K (ob 1)
  XI_NotAhead : PySem.W.findIn K (.ref (ob 1)) "__init__" = some (some (.ref (f 1)))
  XT_NotAhead : PySem.W.typeIn K (.ref (f 1)) = some (.type "function")
  XK_NotAhead : ExcC K (ob 1)
  XC_NotAhead : PySem.W.isClsIn K (ob 1) = true
  XN_NotAhead_one : PySem.W.findIn K (.ref (ob 1)) "one" = some none
  XN_NotAhead_other : PySem.W.findIn K (.ref (ob 1)) "other" = some none
  b_iNotAhead : Binds K (fd 1) ["self", "one", "other"] []
  F_iNoRow : Fun K "__init__" "NoRow.__init__" s_iNoRow (f 2) (fd 2)
  m_NoRow : mg "NoRow" = some (.ref (ob 2))
  G_NoRow : OexG K (ob 2)
  XI_NoRow : PySem.W.findIn K (.ref (ob 2)) "__init__" = some (some (.ref (f 2)))
  XT_NoRow : PySem.W.typeIn K (.ref (f 2)) = some (.type "function")
  XK_NoRow : ExcC K (ob 2)
  XC_NoRow : PySem.W.isClsIn K (ob 2) = true
  XN_NoRow_said : PySem.W.findIn K (.ref (ob 2)) "said" = some none
  b_iNoRow : Binds K (fd 2) ["self", "said"] []
  F_iNotReady : Fun K "__init__" "NotReady.__init__" s_iNotReady (f 3) (fd 3)
  m_NotReady : mg "NotReady" = some (.ref (ob 3))
  G_NotReady : OexG K (ob 3)
  XI_NotReady : PySem.W.findIn K (.ref (ob 3)) "__init__" = some (some (.ref (f 3)))
  XT_NotReady : PySem.W.typeIn K (.ref (f 3)) = some (.type "function")
  XK_NotReady : ExcC K (ob 3)
  XC_NotReady : PySem.W.isClsIn K (ob 3) = true
  XN_NotReady_nth : PySem.W.findIn K (.ref (ob 3)) "nth" = some none
  XN_NotReady_who : PySem.W.findIn K (.ref (ob 3)) "who" = some none
  XN_NotReady_what : PySem.W.findIn K (.ref (ob 3)) "what" = some none
  b_iNotReady : Binds K (fd 3) ["self", "nth", "who", "what"] []
  F_iNoReplay : Fun K "__init__" "NoReplay.__init__" s_iNoReplay (f 4) (fd 4)
  m_NoReplay : mg "NoReplay" = some (.ref (ob 4))
  G_NoReplay : OexG K (ob 4)
  XI_NoReplay : PySem.W.findIn K (.ref (ob 4)) "__init__" = some (some (.ref (f 4)))
  XT_NoReplay : PySem.W.typeIn K (.ref (f 4)) = some (.type "function")
  XK_NoReplay : ExcC K (ob 4)
  XC_NoReplay : PySem.W.isClsIn K (ob 4) = true
  XN_NoReplay_stopped : PySem.W.findIn K (.ref (ob 4)) "stopped" = some none
  b_iNoReplay : Binds K (fd 4) ["self", "stopped"] []
  F_iNoPlace : Fun K "__init__" "NoPlace.__init__" s_iNoPlace (f 5) (fd 5)
  m_NoPlace : mg "NoPlace" = some (.ref (ob 5))
  G_NoPlace : OexG K (ob 5)
  XI_NoPlace : PySem.W.findIn K (.ref (ob 5)) "__init__" = some (some (.ref (f 5)))
  XT_NoPlace : PySem.W.typeIn K (.ref (f 5)) = some (.type "function")
  XK_NoPlace : ExcC K (ob 5)
  XC_NoPlace : PySem.W.isClsIn K (ob 5) = true
  XN_NoPlace_asked : PySem.W.findIn K (.ref (ob 5)) "asked" = some none
  b_iNoPlace : Binds K (fd 5) ["self", "asked"] []
  F_iNoTime : Fun K "__init__" "NoTime.__init__" s_iNoTime (f 6) (fd 6)
  m_NoTime : mg "NoTime" = some (.ref (ob 6))
  G_NoTime : OexG K (ob 6)
  XI_NoTime : PySem.W.findIn K (.ref (ob 6)) "__init__" = some (some (.ref (f 6)))
  XT_NoTime : PySem.W.typeIn K (.ref (f 6)) = some (.type "function")
  XK_NoTime : ExcC K (ob 6)
  XC_NoTime : PySem.W.isClsIn K (ob 6) = true
  XN_NoTime_asked : PySem.W.findIn K (.ref (ob 6)) "asked" = some none
  b_iNoTime : Binds K (fd 6) ["self", "asked"] []
  F_iNoStep : Fun K "__init__" "NoStep.__init__" s_iNoStep (f 7) (fd 7)
  m_NoStep : mg "NoStep" = some (.ref (ob 7))
  G_NoStep : OexG K (ob 7)
  XI_NoStep : PySem.W.findIn K (.ref (ob 7)) "__init__" = some (some (.ref (f 7)))
  XT_NoStep : PySem.W.typeIn K (.ref (f 7)) = some (.type "function")
  XK_NoStep : ExcC K (ob 7)
  XC_NoStep : PySem.W.isClsIn K (ob 7) = true
  XN_NoStep_asked : PySem.W.findIn K (.ref (ob 7)) "asked" = some none
  b_iNoStep : Binds K (fd 7) ["self", "asked"] []
  F_iNoPair : Fun K "__init__" "NoPair.__init__" s_iNoPair (f 8) (fd 8)
  m_NoPair : mg "NoPair" = some (.ref (ob 8))
  G_NoPair : OexG K (ob 8)
  XI_NoPair : PySem.W.findIn K (.ref (ob 8)) "__init__" = some (some (.ref (f 8)))
  XT_NoPair : PySem.W.typeIn K (.ref (f 8)) = some (.type "function")
  XK_NoPair : ExcC K (ob 8)
  XC_NoPair : PySem.W.isClsIn K (ob 8) = true
  XN_NoPair_one : PySem.W.findIn K (.ref (ob 8)) "one" = some none
  XN_NoPair_other : PySem.W.findIn K (.ref (ob 8)) "other" = some none
  b_iNoPair : Binds K (fd 8) ["self", "one", "other"] []
  F_iNoThread : Fun K "__init__" "NoThread.__init__" s_iNoThread (f 9) (fd 9)
  m_NoThread : mg "NoThread" = some (.ref (ob 9))
  G_NoThread : OexG K (ob 9)
  XI_NoThread : PySem.W.findIn K (.ref (ob 9)) "__init__" = some (some (.ref (f 9)))
  XT_NoThread : PySem.W.typeIn K (.ref (f 9)) = some (.type "function")
  XK_NoThread : ExcC K (ob 9)
  XC_NoThread : PySem.W.isClsIn K (ob 9) = true
  XN_NoThread_asked : PySem.W.findIn K (.ref (ob 9)) "asked" = some none
  b_iNoThread : Binds K (fd 9) ["self", "asked"] []
  F_iNoSource : Fun K "__init__" "NoSource.__init__" s_iNoSource (f 10) (fd 10)
  m_NoSource : mg "NoSource" = some (.ref (ob 10))
  G_NoSource : OexG K (ob 10)
  XI_NoSource : PySem.W.findIn K (.ref (ob 10)) "__init__" = some (some (.ref (f 10)))
  XT_NoSource : PySem.W.typeIn K (.ref (f 10)) = some (.type "function")
  XK_NoSource : ExcC K (ob 10)
  XC_NoSource : PySem.W.isClsIn K (ob 10) = true
  XN_NoSource_asked : PySem.W.findIn K (.ref (ob 10)) "asked" = some none
  b_iNoSource : Binds K (fd 10) ["self", "asked"] []
  F_iTooMany : Fun K "__init__" "TooMany.__init__" s_iTooMany (f 11) (fd 11)
  m_TooMany : mg "TooMany" = some (.ref (ob 11))
  G_TooMany : OexG K (ob 11)
  XI_TooMany : PySem.W.findIn K (.ref (ob 11)) "__init__" = some (some (.ref (f 11)))
  XT_TooMany : PySem.W.typeIn K (.ref (f 11)) = some (.type "function")
  XK_TooMany : ExcC K (ob 11)
  XC_TooMany : PySem.W.isClsIn K (ob 11) = true
  XN_TooMany_most : PySem.W.findIn K (.ref (ob 11)) "most" = some none
  b_iTooMany : Binds K (fd 11) ["self", "most"] []
  F_iTooLong : Fun K "__init__" "TooLong.__init__" s_iTooLong (f 12) (fd 12)
  m_TooLong : mg "TooLong" = some (.ref (ob 12))
  G_TooLong : OexG K (ob 12)
  XI_TooLong : PySem.W.findIn K (.ref (ob 12)) "__init__" = some (some (.ref (f 12)))
  XT_TooLong : PySem.W.typeIn K (.ref (f 12)) = some (.type "function")
  XK_TooLong : ExcC K (ob 12)
  XC_TooLong : PySem.W.isClsIn K (ob 12) = true
  XN_TooLong_limit : PySem.W.findIn K (.ref (ob 12)) "limit" = some none
  b_iTooLong : Binds K (fd 12) ["self", "limit"] []
  F_iNotYet : Fun K "__init__" "NotYet.__init__" s_iNotYet (f 13) (fd 13)
  m_NotYet : mg "NotYet" = some (.ref (ob 13))
  G_NotYet : OexG K (ob 13)
  XI_NotYet : PySem.W.findIn K (.ref (ob 13)) "__init__" = some (some (.ref (f 13)))
  XT_NotYet : PySem.W.typeIn K (.ref (f 13)) = some (.type "function")
  XK_NotYet : ExcC K (ob 13)
  XC_NotYet : PySem.W.isClsIn K (ob 13) = true
  XN_NotYet_what : PySem.W.findIn K (.ref (ob 13)) "what" = some none
  b_iNotYet : Binds K (fd 13) ["self", "what"] []
  F_iswhole : Fun K "is_whole" "is_whole" s_iswhole (f 14) (fd 14)
  m_iswhole : mg "is_whole" = some (.ref (f 14))
  b_iswhole : Binds K (fd 14) ["thing"] []
  F_isbelow : Fun K "is_below" "is_below" s_isbelow (f 15) (fd 15)
  m_isbelow : mg "is_below" = some (.ref (f 15))
  b_isbelow : Binds K (fd 15) ["thing", "many"] []
  F_wholeof : Fun K "whole_of" "whole_of" s_wholeof (f 16) (fd 16)
  m_wholeof : mg "whole_of" = some (.ref (f 16))
  b_wholeof : Binds K (fd 16) ["text"] []
  F_stretches : Fun K "stretches" "stretches" s_stretches (f 17) (fd 17)
  m_stretches : mg "stretches" = some (.ref (f 17))
  b_stretches : Binds K (fd 17) ["turns"] []
  F_packed : Fun K "packed" "packed" s_packed (f 18) (fd 18)
  m_packed : mg "packed" = some (.ref (f 18))
  b_packed : Binds K (fd 18) ["turns"] []
  F_turnsof : Fun K "turns_of" "turns_of" s_turnsof (f 19) (fd 19)
  m_turnsof : mg "turns_of" = some (.ref (f 19))
  b_turnsof : Binds K (fd 19) ["word"] []
  F_unpacked : Fun K "unpacked" "unpacked" s_unpacked (f 20) (fd 20)
  m_unpacked : mg "unpacked" = some (.ref (f 20))
  b_unpacked : Binds K (fd 20) ["text"] []
  F_lpen : Fun K "_law_pen" "_law_pen" s_lpen (f 21) (fd 21)
  m_lpen : mg "_law_pen" = some (.ref (f 21))
  b_lpen : Binds K (fd 21) ["_law_script"] []
  F_ldraw : Fun K "_law_draw" "_law_draw" s_ldraw (f 22) (fd 22)
  m_ldraw : mg "_law_draw" = some (.ref (f 22))
  b_ldraw : Binds K (fd 22) ["_law_pen_here", "_law_many_here"] []
  F_lclass : Fun K "_law_class" "_law_class" s_lclass (f 23) (fd 23)
  m_lclass : mg "_law_class" = some (.ref (f 23))
  b_lclass : Binds K (fd 23) ["_law_e"] []
  F_lbase : Fun K "_law_base" "_law_base" s_lbase (f 24) (fd 24)
  m_lbase : mg "_law_base" = some (.ref (f 24))
  b_lbase : Binds K (fd 24) ["_law_e"] []
  F_lmany : Fun K "_law_many" "_law_many" s_lmany (f 25) (fd 25)
  m_lmany : mg "_law_many" = some (.ref (f 25))
  b_lmany : Binds K (fd 25) ["_law_pen_here"] []
  F_lpk : Fun K "_law_packed" "_law_packed" s_lpk (f 26) (fd 26)
  m_lpk : mg "_law_packed" = some (.ref (f 26))
  b_lpk : Binds K (fd 26) ["_law_turns"] []
  F_lisright : Fun K "_law_is_right" "_law_is_right" s_lisright (f 27) (fd 27)
  m_lisright : mg "_law_is_right" = some (.ref (f 27))
  b_lisright : Binds K (fd 27) ["_law_text"] []
  F_lbent : Fun K "_law_bent" "_law_bent" s_lbent (f 28) (fd 28)
  m_lbent : mg "_law_bent" = some (.ref (f 28))
  b_lbent : Binds K (fd 28) ["_law_pen_here", "_law_text"] []
  F_lrefused : Fun K "_law_refused" "_law_refused" s_lrefused (f 29) (fd 29)
  m_lrefused : mg "_law_refused" = some (.ref (f 29))
  b_lrefused : Binds K (fd 29) ["_law_thing"] []
  F_lplaced : Fun K "_law_placed" "_law_placed" s_lplaced (f 30) (fd 30)
  m_lplaced : mg "_law_placed" = some (.ref (f 30))
  b_lplaced : Binds K (fd 30) ["_law_it", "_law_more", "_law_last"] []
  F_lnamed : Fun K "_law_named" "_law_named" s_lnamed (f 31) (fd 31)
  m_lnamed : mg "_law_named" = some (.ref (f 31))
  b_lnamed : Binds K (fd 31) ["_law_it", "_law_more", "_law_last"] []
  F_lfields : Fun K "_law_fields" "_law_fields" s_lfields (f 32) (fd 32)
  m_lfields : mg "_law_fields" = some (.ref (f 32))
  b_lfields : Binds K (fd 32) ["_law_e", "_law_word"] []
  F_lbases : Fun K "_law_bases" "_law_bases" s_lbases (f 33) (fd 33)
  m_lbases : mg "_law_bases" = some (.ref (f 33))
  b_lbases : Binds K (fd 33) ["_law_e"] []
  F_lmaderight : Fun K "_law_made_right" "_law_made_right" s_lmaderight (f 34) (fd 34)
  m_lmaderight : mg "_law_made_right" = some (.ref (f 34))
  b_lmaderight : Binds K (fd 34) ["_law_pen_here"] []
  F_law : Fun K "law" "law" s_law (f 35) (fd 35)
  m_law : mg "law" = some (.ref (f 35))
  b_law : Binds K (fd 35) ["_law_script"] []
  q_get : PySem.W.specialIn K (.builtin "object.__class__") "__get__" = some (some (.builtin "getset_descriptor.__get__"))
  q_tks : PySem.W.takesIn K (.builtin "object.__class__") = some true
  q_own : ownTab K [(ob 0), (ob 1), (ob 2), (ob 3), (ob 4), (ob 5), (ob 6), (ob 7), (ob 8), (ob 9), (ob 10), (ob 11), (ob 12), (ob 13)] = true
  q_bas : basTab K [(ob 0), (ob 1), (ob 2), (ob 3), (ob 4), (ob 5), (ob 6), (ob 7), (ob 8), (ob 9), (ob 10), (ob 11), (ob 12), (ob 13)] = true
  c_MOST : ∃ t, mg "MOST" = some (.int 400 t)
  c_MOST_THREADS : ∃ t, mg "MOST_THREADS" = some (.int 4 t)
  c_NONE : ∃ t, mg "NONE" = some (.str "-" t)
  z_ArithmeticError : mg "ArithmeticError" = none
  z_IndexError : mg "IndexError" = none
  z_KeyError : mg "KeyError" = none
  z_LookupError : mg "LookupError" = none
  z_OverflowError : mg "OverflowError" = none
  z_RuntimeError : mg "RuntimeError" = none
  z_ValueError : mg "ValueError" = none
  z_abs : mg "abs" = none
  z_bool : mg "bool" = none
  z_int : mg "int" = none
  z_isinstance : mg "isinstance" = none
  z_len : mg "len" = none
  z_list : mg "list" = none
  z_range : mg "range" = none
  z_repr : mg "repr" = none
  z_str : mg "str" = none
/-! Frames: all that was tracked but p stands as it stood. -/
def Kp (p : Addr) (H H' : Hp) : Prop := ∀ b o, b ≠ p → H b = some o → H' b = some o
theorem Kp.refl (p : Addr) (H : Hp) : Kp p H H := fun _ _ _ h => h
theorem Kp.trans {p : Addr} {H H1 H2 : Hp} (a : Kp p H H1) (b : Kp p H1 H2) : Kp p H H2 := fun x o n h => b x o n (a x o n h)
theorem Kp.upd {p : Addr} {H : Hp} (o : HO) : Kp p H (upd H p o) := fun b u n h => by
  rw [upd_ne n]
  exact h
theorem Kp.new {p q : Addr} {H : Hp} {o : HO} (h : H q = none) : Kp p H (L2.upd H q o) := fun b u _ e => by
  rw [upd_ne (ne_of_none e h)]
  exact e
theorem Kp.mut {p q : Addr} {H H' : Hp} {o : HO} (k : Kp p H H') (h : H q = none) : Kp p H (L2.upd H' q o) := fun b u n e => by
  rw [upd_ne (ne_of_none e h)]
  exact k b u n e
theorem Same.kp {p : Addr} {H H' : Hp} (s : Same H H') : Kp p H H' := fun b o _ h => s b o h
theorem Same.new {q : Addr} {H : Hp} {o : HO} (h : H q = none) : Same H (L2.upd H q o) := fun b u e => by
  rw [upd_ne (ne_of_none e h)]
  exact e
theorem Same.mut {q : Addr} {H H' : Hp} {o : HO} (k : Same H H') (h : H q = none) : Same H (L2.upd H' q o) := fun b u e => by
  rw [upd_ne (ne_of_none e h)]
  exact k b u e
/-- free behind a frame is free ahead of it, but for p -/
theorem Kp.free {p q : Addr} {H H' : Hp} (k : Kp p H H') (hq : q ≠ p) (h : H' q = none) : H q = none := by
  cases e : H q with
  | none => rfl
  | some o =>
    rw [k q o hq e] at h
    cases h
/-! What holds of the feed: a list of the cells, how many were begun, what is left. -/
def Pen (H : Hp) (p c : Addr) (ns : List Int) (n : Int) : Prop :=
  ∃ r : Int, H p = some (.lst [.ref c, .int n, .int r]) ∧ H c = some (.lst (ns.map V.int)) ∧ 0 ≤ n ∧ 0 ≤ r
theorem Pen.ne {H : Hp} {p c : Addr} {ns : List Int} {n : Int} (h : Pen H p c ns n) : c ≠ p := by
  obtain ⟨r, h1, h2, _⟩ := h
  refine ne_of h2 h1 fun e => ?_
  cases ns with
  | nil => cases e
  | cons a l => cases e
theorem Pen.nn {H : Hp} {p c : Addr} {ns : List Int} {n : Int} (h : Pen H p c ns n) : 0 ≤ n := by
  obtain ⟨r, _, _, h, _⟩ := h
  exact h
theorem Pen.new {H : Hp} {p c q : Addr} {ns : List Int} {n : Int} {o : HO} (h : Pen H p c ns n) (hq : H q = none) : Pen (upd H q o) p c ns n := by
  obtain ⟨r, h1, h2, h3, h4⟩ := h
  exact ⟨r, (upd_ne (ne_of_none h1 hq)).trans h1, (upd_ne (ne_of_none h2 hq)).trans h2, h3, h4⟩
theorem Pen.same {H H' : Hp} {p c : Addr} {ns : List Int} {n : Int} (h : Pen H p c ns n) (s : Same H H') : Pen H' p c ns n := by
  obtain ⟨r, h1, h2, h3, h4⟩ := h
  exact ⟨r, s _ _ h1, s _ _ h2, h3, h4⟩
theorem Pen.ni {H : Hp} {p c q : Addr} {ns : List Int} {n : Int} (h : Pen H p c ns n) (hq : H q = none) : q ≠ p := by
  obtain ⟨r, h1, _⟩ := h
  exact (ne_of_none h1 hq).symm
theorem cut63 {xs : List V} (h : xs.length ≤ 63) : cutV xs none (some 63) = xs := by
  unfold cutV
  rw [HT.sIx_none, show HT.sIx xs.length xs.length (some 63) = min 63 xs.length from HT.sIx_nat xs.length xs.length 63]
  rw [show min 63 xs.length = xs.length by omega]
  simp
theorem atI_in {ns : List Int} {i : Int} (h0 : 0 ≤ i) (h1 : i < ((ns.map V.int).length : Int)) : ∃ v : Int, atI (ns.map V.int) i = some (.int v) := by
  obtain ⟨j, rfl⟩ := Int.eq_ofNat_of_zero_le h0
  have hj : j < ns.length := by
    rw [List.length_map] at h1
    omega
  refine ⟨ns[j], atI_nat ?_⟩
  rw [List.getElem?_map, List.getElem?_eq_getElem hj]
  rfl
theorem few {i : Int} (h : i.natAbs < 2 ^ 20) : i.natAbs.log2 < 1920 := Nat.lt_of_lt_of_le (PySem.Flt.log2_lt_of (by decide) h) (by decide)
/-! Lists of ints as data. -/
theorem dpInts {K : PySem.W.Frag} {H : Hp} : ∀ ns : List Int, DpAll K H (ns.map V.int) (ns.map PyData.int)
  | [] => .nil
  | n :: r => .cons (.int n) (dpInts r)
theorem dpL {K : PySem.W.Frag} {H : Hp} {a : Addr} {ns : List Int} (h : SqL K H a (ns.map V.int)) : Dp K H (.ref a) (.list (ns.map PyData.int)) := .lst h (dpInts ns)
theorem shInts (ns : List Int) : SeqAt.shaped (.list (ns.map PyData.int)) = true := by
  simp [SeqAt.shaped, PyData.canLay0, PyData.depth, PySem.W.ke_canLayAll0, PySem.W.ke_depthAll]
theorem eqvInts (ns ms : List Int) : PyData.eqv (.list (ns.map PyData.int)) (.list (ms.map PyData.int)) = decide (ns = ms) := by
  rw [PyData.eqv, PySem.W.ked_eqvAll]
/-! A call with keywords alone. -/
section
variable {X : Cx} {CX : CXT} {k : Nat} {f : Addr} {fd : FuncData} {ps ks : List Str} {sp : Sp} {E : XK} {x : Str} {p pos : Pos} {kws : List Keyword} {tk : TA} {g : List Value → List Value → List Value} {gV : List V → List V → List V}
theorem callKw0 (F : FnOk X.prog X.w X.K X.mg X.base CX k f fd ps sp) (hr : Room k X.A) (hg : Gl X x) (hm : X.mg x = some (.ref f))
    (hk : PySem.W.keepIn X.K (.ref f) = true) (hb : KBn X.K fd ps 0 ks g gV) (hx : Passes CX X E) (hkw : PK X kws tk)
    (hall : (backToKw pos (keywordEach kws X.env)).all (·.1.isSome) = true := by rfl)
    (hks : (backToKw pos (keywordEach kws X.env)).filterMap (·.1) = ks := by rfl)
    (hdb : (x == ("__debug__" : Str)) = false := by decide)
    (hpl : ((backTo pos (starEach [] X.env)).any (·.1) || (backToKw pos (keywordEach kws X.env)).any (·.1.isNone)) = false := by rfl) :
    PE X (.Call (.Name x p) [] kws pos) (tCallN 0 ks.length sp gV E tNil tk) := by
  constructor
  intro pins s σ H Q I h
  refine wpAny_Call_Name_kw (ld_glob I hg hm ?_ hdb)
  refine PySem.W.callWith_KW0 (h₀ := X.base) I.ok.mod.kin hk hall ?_ hpl
  refine thn (hkw.run pos pins s σ H _ I h) ?_
  rintro ws s2 ⟨zs, H2, I2, rz, l1, l2, q2⟩
  refine ⟨I2.kIn, ?_⟩
  rw [hks]
  exact run_fnN (us := []) (vs := []) F hr hb hx I2 .nil rz rfl l2 q2
end
/-! A word between a test and what follows it; between an expression and what follows it. -/
section
variable {X : Cx}
def tM (t : TT) : TT := fun σ H Q => ∃ M : Bool → Hp → Prop, t σ H M ∧ ∀ b H', M b H' → Q b H'
theorem pt_M {e : Expr} {t : TT} (h : PT X e t) : PT X e (tM t) :=
  ⟨fun pins s σ H _ I ⟨M, hm, k⟩ => thn (h.run pins s σ H M I hm) fun b _ ⟨H1, I1, q⟩ => ⟨H1, I1, k b H1 q⟩⟩
def eM (t : TE) : TE := fun σ H Q => ∃ M : V → Hp → Prop, t σ H M ∧ ∀ v H', M v H' → Q v H'
theorem pe_M {e : Expr} {t : TE} (h : PE X e t) : PE X e (eM t) :=
  ⟨fun pins s σ H _ I ⟨M, hm, k⟩ => thn (h.run pins s σ H M I hm) fun _ _ ⟨v, H1, I1, r, q⟩ => ⟨v, H1, I1, r, k v H1 q⟩⟩
end
theorem Pen.nt {H : Hp} {p c q : Addr} {ns : List Int} {n : Int} {o : HO} (h : Pen H p c ns n) (e : H q = some o) (ho : ∀ xs, o ≠ .lst xs) : q ≠ p := by
  obtain ⟨r, h1, _⟩ := h
  exact ne_of e h1 (ho _)
theorem ex_t {K : PySem.W.Frag} {H H' : Hp} {a : Addr} {xs : List V} (e : Same H H') (h : SqT K H a xs) : SqT K H' a xs := by
  rcases h with (h | ⟨o, h⟩) | h
  · exact .inl (.inl (e _ _ h))
  · exact .inl (.inr ⟨o, e _ _ h⟩)
  · exact .inr h
/-! Defs that are called where no repr is under way (guards known): their promise, the rule, the call, the law's end. -/
structure FnG (P : Program) (w : World) (K : PySem.W.Frag) (mg : Str → Option Value) (base : Heap) (C : CXT) (k : Nat) (f : Addr) (fd : FuncData) (ps : List Str) (sp : Sp) : Prop where
  len : ∀ vs H Q E, sp vs H Q E → vs.length = ps.length
  go : ∀ (A : Around) (o : List Env) (s : Shared) (H : Hp) (args : Args) (us : List Value) (vs : List V) (Q : VK) (E : XK), A.guards = some [] → Room k A → Env0 P w K mg base A o s H →
    BindsTo s fd args (ps.zip us) → Vals vs us → sp vs H Q E → codeAny (model P w) A (.call (.ref f) args) (CR C o P w H s Q E) s
theorem FnG.of {P : Program} {w : World} {K : PySem.W.Frag} {mg : Str → Option Value} {base : Heap} {C : CXT} {k : Nat} {f : Addr} {fd : FuncData} {ps : List Str} {sp : Sp} (h : FnOk P w K mg base C k f fd ps sp) : FnG P w K mg base C k f fd ps sp :=
  ⟨h.len, fun A o s H args us vs Q E _ => h.run A o s H args us vs Q E⟩
section
open PyProof.Rows
theorem Fun.okG {P : Program} {w : World} {K : PySem.W.Frag} {mg : Str → Option Value} {base : Heap} {x qual : Str} {st : Stmt} {f : Addr} {fd : FuncData} {N ps : List Str} {k : Nat} {sp : Sp} (F : Fun K x qual st f fd) (S : FnScope N ps (defScope st))
    (len : ∀ vs H Q E, sp vs H Q E → vs.length = ps.length)
    (body : ∀ (cdv : Value) (A : Around) (o : List Env) (s : Shared) (H : Hp) (vs : List V) (Q : VK) (E : XK), A.guards = some [] → Room k (A.deeper (envOfC qual (defScope st) s.heap.objs.size f cdv)) → sp vs H Q E →
      ∃ t, PSs (cxOf CX0 P w K mg base N qual (defScope st) f cdv A o s H E).nox (defBody st) t ∧ t { nx := fun _ H' => Q .non H', rt := Q } (start N vs) H) : FnG P w K mg base CX0 (k + 1) f fd ps sp := by
  obtain ⟨oc, od, kV, doc, pm, an, cdv, ct, osl, rfl, lk, hcd⟩ := F.ex
  constructor
  · exact len
  · intro A o s H args us vs Q E hg room env bnd rel want
    have hl := len vs H Q E want
    have kin : K.In s.heap := env.mod.kin.keeps fun b u e => (env.bs b u e).1
    have nol : s.heap.NoLimit := env.mod.nolimit.keeps fun b u e => (env.bs b u e).1
    have kinds : ∀ y ∈ ps.zip us, (defScope st).names.lookup y.1 = some .local ∨ ((defScope st).names.lookup y.1 = some .cell ∧ ((cellsFrom (s.heap.objs.size + 1) (defScope st).names []).lookup y.1).isSome = true) := by
      rintro ⟨n, v⟩ hy
      rcases S.par n (List.of_mem_zip hy).1 with q | q
      · left
        exact q
      · right
        exact ⟨q, PySem.W.cellsFrom_some _ _ _ (.inl q)⟩
    refine codeAny_call_function room.depth (kin _ _ lk) rfl S.co S.gen rfl (PySem.W.codeRec_of kin hcd) (bnd _ _ _ _ ?_)
    apply wpAny_newFunctionEnv_cells S.kind kinds
    intro en he s1 q1
    subst he
    refine ⟨nol.keeps q1.toInCall.keep, codeAny_func ?_⟩
    obtain ⟨t, ht, hq⟩ := body cdv A o s H vs Q E hg (room.deeper _) want
    have J : Inv (cxOf CX0 P w K mg base N qual (defScope st) f cdv A o s H E) [] (start N vs) H s1 := inv_start S room.hd env hl rel q1
    refine wpAny_mono (ht.nox.run [] s1 (start N vs) H _ J hq) ?_ (fun e s' z => z)
    intro fl s' z
    match fl, z with
    | .ret u, ⟨v, _, H', I', rv, qv⟩ => exact ⟨v, H', I'.os, I'.bare, I'.base, I'.hok, rv, qv⟩
    | .next, ⟨_, H', I', qv⟩ => exact ⟨V.non, H', I'.os, I'.bare, I'.base, I'.hok, rfl, qv⟩
    | .brk, ⟨_, _, _, bad⟩ => exact False.elim bad
    | .cont, ⟨_, _, _, bad⟩ => exact False.elim bad
/-- the call of such a def by its name -/
theorem callG {X : Cx} {C : CXT} {k : Nat} {f : Addr} {fd : FuncData} {ps : List Str} {ds : List Value} {dvs : List V} {sp : Sp} {E : XK} {x : Str} {p pos : Pos} {e : Expr} {es : List Expr} {t : TA}
    (F : FnG X.prog X.w X.K X.mg X.base C k f fd ps sp) (hu : X.A.guards = some []) (room : Room k X.A) (glob : Gl X x) (hm : X.mg x = some (.ref f)) (kp : PySem.W.keepIn X.K (.ref f) = true) (bnd : Binds X.K fd ps ds) (hd : Vals dvs ds) (pas : Passes C X E)
    (args : PA X (e :: es) t) (h1 : (x == ("__debug__" : Str)) = false := by decide) (h2 : starEach (e :: es) X.env = (false, eval e X.env) :: starEach es X.env := by rfl) (h3 : (backTo pos (starEach es X.env)).any (·.1) = false := by rfl) :
    PE X (.Call (.Name x p) (e :: es) [] pos) (tCall sp dvs E t) := by
  constructor
  intro pins s σ H Q I h
  refine wpAny_Call_Name_kw (ld_glob I glob hm ?_ h1)
  refine PySem.W.callWith_K (h₀ := X.base) I.ok.mod.kin kp (thn (args.run pos pins s σ H _ I h) ?_) h2 h3
  rintro us s1 ⟨vs, H1, I1, r1, q1⟩
  refine ⟨I1.kIn, ?_⟩
  have r2 : Vals (vs ++ dvs) (us ++ ds) := r1.append hd
  have hl : (us ++ ds).length = ps.length := r2.length.symm.trans (F.len _ _ _ _ q1)
  refine wpAny_call (codeAny_mono (F.go X.A X.stack s1 H1 ⟨us, []⟩ (us ++ ds) (vs ++ dvs) Q E hu room I1.env0 (bnd s1 us I1.kIn hl) r2 q1) ?_)
  intro r s' hq
  match r, hq with
  | .error z, hq => exact pas pins σ H1 s1 z s' I1 hq
  | .ok (.ret u), hq => exact I1.after hq
  | .ok .next, hq => exact False.elim hq
  | .ok .brk, hq => exact False.elim hq
  | .ok .cont, hq => exact False.elim hq
/-- repr of data -/
structure ShowOk (d : PyData) : Prop where
  can : d.showable = true
  nod : d.hasDict = false
  deep : d.depth ≤ 60
  size : d.shown.length ≤ sizeLine
def rRepr (K : PySem.W.Frag) : List V → Hp → VK → Prop := fun xs H Q => ∃ (x : V) (d : PyData), xs = [x] ∧ Dp K H x d ∧ ShowOk d ∧ Q (.str d.shown) H
theorem call_reprD {X : Cx} (hg : X.A.guards = some []) (hu : X.A.units + 64 < cLine) : CallR X (.builtin "repr") (rRepr X.K) := by
  intro pins s σ H xs us Q I r h
  obtain ⟨x, d, rfl, dp, ok, q⟩ := h
  obtain ⟨u, rfl, ru⟩ := vals1 r
  obtain ⟨as, rd⟩ := Dp.reads I d x u dp ru
  cases dp with
  | non =>
    cases ru
    exact PySem.P.repr_of_none ⟨.str _, H, I.tok _, ⟨_, rfl⟩, q⟩
  | bl b =>
    cases ru
    exact PySem.P.repr_of_bool ⟨.str _, H, I.tok _, ⟨_, rfl⟩, q⟩
  | int i =>
    obtain ⟨t, rfl⟩ := ru
    exact PySem.P.repr_of_int (of_decide_eq_true ok.can) ⟨.str _, H, I.tok _, ⟨_, rfl⟩, q⟩
  | str z =>
    obtain ⟨t, rfl⟩ := ru
    exact PySem.P.repr_of_str ⟨.str _, H, I.tok _, ⟨_, rfl⟩, q⟩ ok.size
  | lst hs ha =>
    cases ru
    refine repr_of_reads' rd ok.can (fun e => by rw [ok.nod] at e; cases e) hg (by have := ok.deep; omega) (fun _ _ e => e) (fun h' t tk hk => ⟨.str _, H, I.kept hk, ⟨_, rfl⟩, q⟩) ok.size
  | tup hs ha =>
    cases ru
    refine repr_of_reads' rd ok.can (fun e => by rw [ok.nod] at e; cases e) hg (by have := ok.deep; omega) (fun _ _ e => e) (fun h' t tk hk => ⟨.str _, H, I.kept hk, ⟨_, rfl⟩, q⟩) ok.size
end
section
open PyProof.Rows
/-- the law's call from such a promise -/
theorem lawG {P : Program} {w : World} {K : PySem.W.Frag} {mg mb : Str → Option Value} {C : CXT} {k : Nat} {fa a : Addr} {fd : FuncData} {x : Str} {sp : Sp} {s0 : Shared} {vs : List Value} {ns : List Int}
    (kin : K.In s0.heap) (hns : s0.heap.Ns mainGlobals mg) (hbn : s0.heap.Ns builtinsNs mb) (hbb : ∀ z : Str, z ≠ "__name__" → mb z = bootBuiltins z) (nol : s0.heap.NoLimit) (gens : s0.gens = #[])
    (ha : s0.heap.get? a = some { cls := .type "list", data := .seq vs.toArray }) (nums : IntsAre vs ns) (few : ns.length ≤ sizeLine) (room : Room k callerA)
    (F : ∀ base : Heap, K.In base → base.Ns mainGlobals mg → FnG P w K mg base C k fa fd [x] sp) (bnd : ∀ (s : Shared) (u : Value), BindsTo s fd ⟨[u], []⟩ [(x, u)])
    (want : ∀ H : Hp, Only H → SqL K H a (ns.map V.int) → sp [.ref a] H (fun v _ => v = .bl true) fun _ _ _ => False) (noX : ∀ H e s', C [] H s0 (fun _ _ _ => False) e s' → False) :
    codeAny (model P w) callerA (.call (.ref fa) ⟨[.ref a], []⟩) (fun r s' => r = .ok (.ret (.bool true)) ∧ OldK s0.heap s'.heap ∧ s'.os = s0.os ∧ AllBare s'.gens) s0 := by
  have rel := vals_ints nums
  have nlen := nums.length
  have core : ∀ H : Hp, Only H → SqL K H a (ns.map V.int) → HOk P w H s0.heap → (∀ b, H b ≠ none → b = a) → (H a ≠ none → K.lookup a = none) →
      codeAny (model P w) callerA (.call (.ref fa) ⟨[.ref a], []⟩) (fun r s' => r = .ok (.ret (.bool true)) ∧ OldK s0.heap s'.heap ∧ s'.os = s0.os ∧ AllBare s'.gens) s0 := by
    intro H only sq hok isA notK
    have free : ∀ {b : Addr} {o : Obj} {es : Array DictEntry} {ep : Nat}, s0.heap.get? b = some o → o.data = .dict es ep → H b = none := by
      intro b o es ep e d
      cases q : H b with
      | none => rfl
      | some u =>
        obtain rfl : b = a := isA b (by rw [q]; simp)
        rw [ha] at e
        cases e
        cases d
    have nsK : ∀ {b : Addr} {m : Str → Option Value}, s0.heap.Ns b m → (hidT s0.heap H).Ns b m := by
      rintro b m ⟨o, es, ep, e, d, r⟩
      exact ⟨o, es, ep, hidT_get e (free e d), d, r⟩
    have kinB : K.In (hidT s0.heap H) := by
      intro b o e
      refine hidT_get (kin b o e) ?_
      cases q : H b with
      | none => rfl
      | some u =>
        obtain rfl : b = a := isA b (by rw [q]; simp)
        rw [notK (by rw [q]; simp)] at e
        cases e
    have lim : (hidT s0.heap H).NoLimit := by
      obtain ⟨mc, l1, l2⟩ := nol
      exact ⟨mc, nsK l1, l2⟩
    have env : Env0 P w K mg (hidT s0.heap H) callerA [] s0 H :=
      ⟨rfl, ⟨kinB, nsK hns, ⟨mb, nsK hbn, hbb⟩, lim⟩, fun b o e => of_hidT e, Nat.le_of_eq (hidT_size _ _), trivial, fun b z => absurd z (List.not_mem_nil), hok, .of_eq gens⟩
    refine codeAny_mono ((F _ kinB (nsK hns)).go callerA [] s0 H ⟨[.ref a], []⟩ [.ref a] [.ref a] _ _ rfl room env (bnd s0 (.ref a)) (.cons rfl .nil) (want H only sq)) ?_
    intro r s' h
    match r, h with
    | .error e, h => exact (noX H e s' h).elim
    | .ok .next, h => exact False.elim h
    | .ok .brk, h => exact False.elim h
    | .ok .cont, h => exact False.elim h
    | .ok (.ret u), h =>
      obtain ⟨v, H', os, bare, un, hok', rv, (q : v = .bl true)⟩ := h
      subst q
      obtain rfl : u = Value.bool true := rv
      refine ⟨rfl, OldK.of_keep ?_, os, bare⟩
      intro b o e
      cases q : H b with
      | none => exact un.keep b o e q (fun z => absurd z List.not_mem_nil) (fun z => absurd z List.not_mem_nil)
      | some u =>
        rcases only b with z | ⟨ob, xs, z⟩
        · rw [q] at z
          cases z
        · obtain ⟨e1, _⟩ := hok b _ z
          obtain ⟨e2, _⟩ := hok' b _ (un.frzs b ob _ z)
          rw [e] at e1
          cases e1
          exact e2
  cases hk : K.lookup a with
  | some o =>
    have e := kin a o hk
    rw [ha] at e
    cases e
    refine core (fun _ => none) (fun _ => .inl rfl) ?_ (fun b u z => nomatch z) (fun b z => absurd rfl z) (fun z => absurd rfl z)
    exact .inr ⟨_, vs.toArray, _, hk, rfl, rfl, rfl, by rw [List.size_toArray, nlen]; exact few, by simpa using rel⟩
  | none =>
    have at_ : ∀ b : Addr, (if b = a then some (HO.frz { cls := .type "list", data := .seq vs.toArray } (.lst (ns.map V.int))) else none) ≠ none → b = a := fun b z => by
      by_cases hb : b = a
      · exact hb
      · rw [if_neg hb] at z
        exact absurd rfl z
    refine core (fun b => if b = a then some (.frz { cls := .type "list", data := .seq vs.toArray } (.lst (ns.map V.int))) else none) (fun b => ?_) (.inl (.inr ⟨_, if_pos rfl⟩)) (fun b u z => ?_) at_ (fun _ => hk)
    · by_cases hb : b = a
      · exact .inr ⟨_, _, if_pos hb⟩
      · exact .inl (if_neg hb)
    · dsimp only at z
      obtain rfl := at_ b (by rw [z]; simp)
      rw [if_pos rfl] at z
      obtain rfl := Option.some.inj z
      exact ⟨ha, by rw [List.length_map]; exact few, vs, _, rel, ha⟩
theorem walkG {l : PySem.W.OpenLaw} {n k : Nat} {q : Program} {loose : List Str} {XP : (Str → Option Value) → Heap → Prop} {YP : World → Heap → Prop} {d : DefRec} {K : Params → PySem.W.Frag} {C : World → CXT} {sp : World → Sp} {x : Str}
    (hn : l.most = some n) (hn2 : n ≤ sizeLine) (hdf : d.params.defaults = []) (room : Room k callerA) (hY : ∀ (w : World) (h : Heap), YP w h → (K w.params).In h)
    (F : ∀ (w : World) (mg : Str → Option Value) (fa : Addr) (h : Heap), (K w.params).In h → h.Ns mainGlobals mg → mg d.name = some (.ref fa) →
      ∃ fd : FuncData, (∀ (s : Shared) (u : Value), BindsTo s fd ⟨[u], []⟩ [(x, u)]) ∧ ∀ base : Heap, (K w.params).In base → base.Ns mainGlobals mg → FnG l.prog w (K w.params) mg base (C w) k fa fd [x] (sp w))
    (want : ∀ (w : World) (H : Hp) (a : Addr) (ns : List Int), ns.length ≤ n → Only H → SqL (K w.params) H a (ns.map V.int) → sp w [.ref a] H (fun v _ => v = .bl true) fun _ _ _ => False)
    (noX : ∀ (w : World) (H : Hp) (s : Shared) (e : Value) (s' : Shared), C w [] H s (fun _ _ _ => False) e s' → False) : PySem.W.WalkO q loose XP YP l.row.toRowW d [] (fun f vs => PySem.call f vs) := by
  refine Att.attach_call hn hdf ?_
  intro w s₀ s1 mg mb fa o pm cd doc a vs ns G Y ho hd hcd hmg hobj nums hlen gens
  obtain ⟨fd, bnd, ok⟩ := F w mg fa _ (hY w _ Y) G.T.g hmg
  exact lawG (hY w _ Y) G.T.g G.T.b G.T.builtins G.T.nolimit gens hobj nums (Nat.le_trans hlen hn2) room ok bnd (fun H h1 h2 => want w H a ns hlen h1 h2) (fun H e s' => noX w H s1 e s')
end
/-! o[i] of a list, for o[i] += e. -/
section
open PySem.Spec PyProof.Rows
variable {X : Cx}
theorem get_listN : PGet X (fun o i H Q => ∃ (p : Addr) (xs : List V) (j : Nat) (v : V), o = .ref p ∧ i = .int j ∧ SqL X.K H p xs ∧ xs[j]? = some v ∧ Q v H) := by
  intro pins s σ H o i ov iv Q I ro ri h
  obtain ⟨p, xs, j, z, rfl, rfl, hq, he, q⟩ := h
  cases ro
  obtain ⟨t, rfl⟩ := ri
  obtain ⟨its, r, pl, hz⟩ := I.list hq
  obtain ⟨w, ew, rw'⟩ := r.get he
  have hl := r.length
  have hn := line63
  have hj : j < xs.length := (List.getElem?_eq_some_iff.mp he).1
  have fin : EP X pins σ Q w s := ⟨z, H, I, rw', q⟩
  exact wpAny_getItem_list pl.isList (by omega) (by omega) (by simpa using ew) fin
end
/-! list(text). -/
section
open PySem.Spec PyProof.Rows
variable {X : Cx}
def rListS : List V → Hp → VK → Prop := fun xs H Q => ∃ z : Str, xs = [.str z] ∧ z.length ≤ 1000 ∧ ∀ l, H l = none → Q (.ref l) (upd H l (.lst (z.cps.toList.map fun c => V.str ⟨#[c]⟩)))
theorem call_listS (hc : X.calm = true) : CallR X (.type "list") rListS := by
  intro pins s σ H xs us Q I r h
  obtain ⟨z, rfl, hz, q⟩ := h
  obtain ⟨u, rfl, t, rfl⟩ := vals1 r
  have hz2 : z.cps.size ≤ sizeLine := Nat.le_trans (show z.cps.size ≤ 1000 from hz) (by decide)
  refine PySem.call_list_str (I.ok.hd hc) z t (hn := hz2) fun h' tk acc c kp e it => ?_
  have rel : Vals (z.cps.toList.map fun c => V.str ⟨#[c]⟩) acc.toList := by
    refine vals_of_idx _ _ (by rw [List.length_map, Array.length_toList, it.1, Array.length_toList]) fun j v hv => ?_
    obtain ⟨c, u, hc, rfl⟩ := it.2 j v (by simpa using hv)
    exact ⟨.str ⟨#[c]⟩, by rw [List.getElem?_map, Array.getElem?_toList, hc]; rfl, ⟨u, rfl⟩⟩
  refine ⟨.ref s.heap.objs.size, _, I.laid (t' := tk) kp (Nat.le_refl _) (show ObjOk X.prog X.w _ h' _ (.lst (z.cps.toList.map fun c => V.str ⟨#[c]⟩)) from ⟨?_, acc.toList, c, rel, ?_⟩), rfl, q _ (I.hok.fresh (Nat.le_refl _))⟩
  · rw [List.length_map, Array.length_toList]
    exact hz2
  · rw [Array.toArray_toList]
    exact e
end
/-! A text times a number; a list that is empty or not. -/
section
open PySem.Spec PyProof.Rows
variable {X : Cx}
def repS (k : Nat) (i : Str) : Str := ⟨(List.replicate k i.cps).foldl (· ++ ·) #[]⟩
theorem op_mulS : OpR X (binaryOp .Mult) (fun x y H Q => ∃ (i : Str) (k : Nat), x = .str i ∧ y = .int (k : Int) ∧ 2 ≤ k ∧ k ≤ 1000 ∧ 0 < i.length ∧ i.length ≤ 1000 ∧ (repS k i).length ≤ 1000000 ∧ Q (.str (repS k i)) H) := by
  intro pins s σ H x y v u Q I rx ry h
  obtain ⟨i, k, rfl, rfl, hk, hk2, hi, hi2, hs, q⟩ := h
  obtain ⟨t, rfl⟩ := rx
  obtain ⟨t', rfl⟩ := ry
  have hmul : i.length * k ≤ 1000 * 1000 := Nat.mul_le_mul hi2 hk2
  refine P.mul_str ?_ (fun _ _ => ?_) (fun _ _ => ?_) ?_
  · rw [decide_eq_false (by omega), decide_eq_false (by omega)]
    rfl
  · have h1 : (1000 : Int) ≤ (2 ^ 63 - 1) / (k : Int) := Int.le_ediv_of_mul_le (by omega) (by omega)
    omega
  · rw [Int.toNat_natCast]
    exact decide_eq_false (show ¬ i.length * k > sizeLine from Nat.not_lt.mpr (Nat.le_trans hmul (by decide)))
  · rw [if_neg (by omega), if_neg]
    · show _ ∧ _
      refine ⟨Nat.le_trans hs (by decide), .str (repS k i), H, I.tok _, ⟨_, rfl⟩, q⟩
    · have e1 : ((k : Int) == 1) = false := by
        rw [beq_eq_false_iff_ne]
        omega
      have e2 : (i.length == 0) = false := by
        rw [beq_eq_false_iff_ne]
        omega
      rw [e1, e2]
      exact Bool.false_ne_true
def rEqL0 (K : PySem.W.Frag) : R2 := fun x y H Q => ∃ a b xs, x = .ref a ∧ y = .ref b ∧ SqL K H a xs ∧ SqL K H b [] ∧ Q (.bl (decide (xs = []))) H
theorem op_eqL0 (hu : X.A.units + 64 < cLine) : OpR X (compareOp .Eq) (rEqL0 X.K) := by
  intro pins s σ H x y v u Q I rx ry h
  obtain ⟨a, b, xs, rfl, rfl, ha, hb, q⟩ := h
  cases rx
  cases ry
  obtain ⟨its, r1, p1, _⟩ := I.list ha
  obtain ⟨its2, r2, p2, _⟩ := I.list hb
  cases r2
  cases r1 with
  | nil =>
    refine SeqAt.RcAt.lists (e := fun _ => true) p1.isList p2.isList rfl (by omega) (fun j h1 _ => absurd h1 (by simp)) X.prog X.w X.xe _ ⟨.bl true, H, I, ?_, q⟩
    rfl
  | cons h t =>
    refine SeqAt.RcAt.lists_lengths p1.isList p2.isList (by simp) (by omega) X.prog X.w X.xe _ ⟨.bl false, H, I, rfl, ?_⟩
    exact q
end
/-! l != [] of a list of whatever. -/
section
open PySem.Spec PyProof.Rows
variable {X : Cx}
def rNeL0 (K : PySem.W.Frag) : R2 := fun x y H Q => ∃ a b xs, x = .ref a ∧ y = .ref b ∧ SqL K H a xs ∧ SqL K H b [] ∧ Q (.bl (!decide (xs = []))) H
theorem op_neL0 (hu : X.A.units + 64 < cLine) : OpR X (compareOp .NotEq) (rNeL0 X.K) := by
  intro pins s σ H x y v u Q I rx ry h
  obtain ⟨a, b, xs, rfl, rfl, ha, hb, q⟩ := h
  cases rx
  cases ry
  obtain ⟨its, r1, p1, _⟩ := I.list ha
  obtain ⟨its2, r2, p2, _⟩ := I.list hb
  cases r2
  cases r1 with
  | nil =>
    refine SeqAt.RcNeAt.lists (e := fun _ => true) p1.isList p2.isList rfl (by omega) (fun j h1 _ => absurd h1 (by simp)) X.prog X.w X.xe _ ⟨.bl false, H, I, ?_, q⟩
    rfl
  | cons h t =>
    refine SeqAt.RcNeAt.lists_lengths p1.isList p2.isList (by simp) (by omega) X.prog X.w X.xe _ ⟨.bl true, H, I, rfl, ?_⟩
    exact q
end
theorem exm_self {K : PySem.W.Frag} {S : Addr} (h1 : PySem.W.subIn K (.ref S) (.type "BaseException") = some true) (h2 : PySem.W.isClsIn K S = true) (h3 : PySem.W.typeIn K (.ref S) = some (.type "type")) (h4 : PySem.W.subIn K (.ref S) (.ref S) = some true) : PySem.W.exmOne K (.ref S) (.ref S) = some true := by
  have c1 : (PySem.W.subIn K (.ref S) (.type "BaseException") == some true) = true := by
    rw [h1]
    rfl
  have c2 : ((PySem.W.clsIn K S).isSome && PySem.W.typeIn K (.ref S) == some (.type "type")) = true := by
    rw [show (PySem.W.clsIn K S).isSome = true from h2, h3]
    rfl
  show (if (PySem.W.subIn K (.ref S) (.type "BaseException") == some true) = true then (if ((PySem.W.clsIn K S).isSome && PySem.W.typeIn K (.ref S) == some (.type "type")) = true then PySem.W.subIn K (.ref S) (.ref S) else none) else none) = _
  rw [if_pos c1, if_pos c2, h4]
theorem cutTo (xs : List V) (k : Nat) : cutV xs none (some (k : Int)) = xs.take k := by
  unfold cutV
  rw [HT.sIx_none, HT.sIx_nat]
  show (xs.drop 0).take (min k xs.length - 0) = _
  rw [List.drop_zero, Nat.sub_zero]
  by_cases h : k ≤ xs.length
  · rw [Nat.min_eq_left h]
  · rw [Nat.min_eq_right (by omega), List.take_of_length_le (Nat.le_refl _), List.take_of_length_le (by omega)]
theorem cutFrom (xs : List V) {k : Nat} (h : k ≤ xs.length) : cutV xs (some (k : Int)) none = xs.drop k := by
  unfold cutV
  rw [HT.sIx_none, HT.sIx_nat, Nat.min_eq_left h]
  exact List.take_of_length_le (by rw [List.length_drop]; omega)
/-! Data that can be shown, put together: at most n signs, at most k deep. -/
structure Shw (d : PyData) (n k : Nat) : Prop where
  len : d.shown.length ≤ n
  can : d.showable = true
  nod : d.hasDict = false
  deep : d.depth ≤ k
theorem Shw.ok {d : PyData} {n k : Nat} (h : Shw d n k) (hn : n ≤ 10000000) (hk : k ≤ 60) : ShowOk d :=
  ⟨h.can, h.nod, Nat.le_trans h.deep hk, Nat.le_trans h.len (Nat.le_trans hn (by decide))⟩
theorem Shw.mono {d : PyData} {n k n' k' : Nat} (h : Shw d n k) (hn : n ≤ n') (hk : k ≤ k') : Shw d n' k' := ⟨Nat.le_trans h.len hn, h.can, h.nod, Nat.le_trans h.deep hk⟩
theorem sm_app (a b : Str) : (a ++ b).length = a.length + b.length := by
  rw [TL.len_tl, show TL.tl (a ++ b) = TL.tl a ++ TL.tl b from TL.tl_append a b, List.length_append, ← TL.len_tl, ← TL.len_tl]
theorem sm_join : ∀ (n : Nat) (ts : List Str), (∀ t ∈ ts, t.length ≤ n) → (Str.join ", " ts).length ≤ (n + 2) * ts.length
  | n, [], _ => by
    show (Str.empty).length ≤ _
    rw [show (Str.empty).length = 0 from rfl]
    omega
  | n, [x], h => by
    show x.length ≤ (n + 2) * 1
    have := h x List.mem_cons_self
    omega
  | n, x :: y :: r, h => by
    have ih := sm_join n (y :: r) (fun t ht => h t (List.mem_cons_of_mem _ ht))
    have hx := h x List.mem_cons_self
    show (x ++ ", " ++ Str.join ", " (y :: r)).length ≤ _
    rw [sm_app, sm_app, show ((", " : Str)).length = 2 by decide +kernel]
    rw [List.length_cons] at ih ⊢
    rw [List.length_cons]
    rw [Nat.mul_succ] at ih ⊢
    rw [Nat.mul_succ]
    omega
theorem sm_from : ∀ (ts : List Str) (j : Nat) (acc : Str) (n : Nat), (∀ t ∈ ts, t.length ≤ n) → (textFrom j acc ts).length ≤ acc.length + (n + 2) * ts.length
  | [], j, acc, n, _ => by
    show acc.length ≤ _
    omega
  | t :: r, j, acc, n, h => by
    have ht := h t List.mem_cons_self
    have e : (textFrom j acc (t :: r)) = textFrom (j + 1) (acc ++ ((if j > 0 then ", " else "" : String) : Str) ++ t) r := rfl
    rw [e]
    have ih := sm_from r (j + 1) (acc ++ ((if j > 0 then ", " else "" : String) : Str) ++ t) n (fun x hx => h x (List.mem_cons_of_mem _ hx))
    rw [sm_app, sm_app] at ih
    have h2 : ((if j > 0 then ", " else "" : String) : Str).length ≤ 2 := by
      split <;> decide +kernel
    rw [List.length_cons, Nat.mul_succ]
    omega
theorem shw_int {a : Int} (h : a.natAbs < 10 ^ 5) : Shw (.int a) 6 0 := by
  refine ⟨?_, decide_eq_true (Nat.lt_of_lt_of_le (PySem.Flt.log2_lt_of (k := 17) (by decide) (Nat.lt_trans h (by decide))) (by decide)), rfl, Nat.le_refl _⟩
  show (Str.ofString (toString a)).length ≤ 6
  have := int_text_length_le10 (a := a) (k := 5) (by decide) h
  have e : (Str.ofString (toString a)).length = (toString a).length := by
    rw [TL.len_tl, show TL.tl (Str.ofString (toString a)) = (toString a).toList.map Char.toNat from TL.tl_ofString _, List.length_map]
    rfl
  rw [e]
  exact this
theorem shw_all : ∀ {ds : List PyData} {n k : Nat}, (∀ d ∈ ds, Shw d n k) → (∀ t ∈ PyData.shownAll ds, t.length ≤ n) ∧ (PyData.shownAll ds).length = ds.length ∧ PyData.showableAll ds = true ∧ PyData.hasDictAll ds = false ∧ PyData.depthAll ds ≤ k
  | [], n, k, _ => ⟨(fun t h => nomatch h), rfl, rfl, rfl, Nat.zero_le _⟩
  | d :: r, n, k, h => by
    have a := h d List.mem_cons_self
    obtain ⟨b1, b2, b3, b4, b5⟩ := shw_all (ds := r) (fun x hx => h x (List.mem_cons_of_mem _ hx))
    refine ⟨fun t ht => ?_, ?_, ?_, ?_, ?_⟩
    · rcases List.mem_cons.mp (show t ∈ d.shown :: PyData.shownAll r from ht) with rfl | ht
      · exact a.len
      · exact b1 t ht
    · show (PyData.shownAll r).length + 1 = r.length + 1
      rw [b2]
    · show (d.showable && PyData.showableAll r) = true
      rw [a.can, b3]
      rfl
    · show (d.hasDict || PyData.hasDictAll r) = false
      rw [a.nod, b4]
      rfl
    · show max d.depth (PyData.depthAll r) ≤ k
      have := a.deep
      omega
theorem shw_tup {ds : List PyData} {n k : Nat} (h : ∀ d ∈ ds, Shw d n k) : Shw (.tuple ds) ((n + 2) * ds.length + 3) (k + 1) := by
  obtain ⟨b1, b2, b3, b4, b5⟩ := shw_all h
  refine ⟨?_, b3, b4, ?_⟩
  · show (tupleText (PyData.shownAll ds)).length ≤ _
    have hj := sm_join n _ b1
    rw [b2] at hj
    unfold tupleText
    rw [sm_app, sm_app]
    have h1 : (("(" : Str)).length = 1 := by decide +kernel
    have h2 : ((if (PyData.shownAll ds).length == 1 then ",)" else ")" : String) : Str).length ≤ 2 := by
      split <;> decide +kernel
    rw [h1]
    omega
  · show PyData.depthAll ds + 1 ≤ k + 1
    omega
theorem shw_lst {ds : List PyData} {n k : Nat} (h : ∀ d ∈ ds, Shw d n k) : Shw (.list ds) ((n + 2) * ds.length + 2) (k + 1) := by
  obtain ⟨b1, b2, b3, b4, b5⟩ := shw_all h
  refine ⟨?_, b3, b4, ?_⟩
  · show (listText (PyData.shownAll ds)).length ≤ _
    have hj := sm_from (PyData.shownAll ds) 0 "[" n b1
    rw [b2] at hj
    unfold listText
    have h1 : (("[" : Str)).length = 1 := by decide +kernel
    have h2 : (("]" : Str)).length = 1 := by decide +kernel
    rw [sm_app, h2]
    rw [h1] at hj
    omega
  · show PyData.depthAll ds + 1 ≤ k + 1
    omega
theorem shw_bool (b : Bool) : Shw (.bool b) 5 0 := ⟨by cases b <;> decide +kernel, rfl, rfl, Nat.zero_le _⟩
/-! Texts by their codes: whole numbers, worths, items. -/
abbrev cp (x : Str) : List Nat := x.cps.toList
def digL (l : List Nat) : Bool := !l.isEmpty && l.all (fun c => decide (48 ≤ c) && decide (c ≤ 57)) && decide (l.length ≤ 9)
def wholeL (l : List Nat) : Option Int := if digL l = true then (if l.head? = some 48 ∧ l ≠ [48] then none else some (NumText.digitsVal l : Nat)) else none
def keepW (o : Option Int) : Option Int := match o with
  | some a => if -32768 ≤ a ∧ a ≤ 32767 then some a else none
  | none => none
def worthL (l : List Nat) : Option Int := if l.head? = some 45 then (if l = [45, 48] then none else keepW ((wholeL (l.drop 1)).map (fun a => -a))) else keepW (wholeL l)
def ov : Option Int → V
  | none => .non
  | some a => .int a
theorem cp_len (x : Str) : x.length = (cp x).length := TL.len_tl x
theorem cp_ext {x y : Str} (h : cp x = cp y) : x = y := TL.ext_tl h
theorem digit_128 : ∀ c, c < 128 → Unicode.isDigit c = (decide (48 ≤ c) && decide (c ≤ 57)) := by decide +kernel
theorem all_codes (x : Str) (p : Nat → Bool) : x.cps.all p = (cp x).all p := by
  rw [Array.all_toList]
theorem asc_digits {l : List Nat} (h : l.all (fun c => decide (c < 128)) = true) : l.all Unicode.isDigit = l.all (fun c => decide (48 ≤ c) && decide (c ≤ 57)) := by
  induction l with
  | nil => rfl
  | cons c r ih =>
    rw [List.all_cons, Bool.and_eq_true] at h
    rw [List.all_cons, List.all_cons, ih h.2, digit_128 c (of_decide_eq_true h.1)]
theorem digits_asc {l : List Nat} (h : l.all (fun c => decide (48 ≤ c) && decide (c ≤ 57)) = true) : l.all (fun c => decide (c < 128)) = true := by
  rw [List.all_eq_true] at h ⊢
  intro c hc
  have := h c hc
  rw [Bool.and_eq_true] at this
  have h2 := of_decide_eq_true this.2
  exact decide_eq_true (by omega)
theorem isascii_cp (x : Str) : Txt.isascii x = (cp x).all (fun c => decide (c < 128)) := all_codes x _
theorem isdigit_cp (x : Str) : Txt.isdigit x = (decide (0 < (cp x).length) && (cp x).all Unicode.isDigit) := by
  unfold Txt.isdigit
  rw [all_codes, cp_len]
theorem dig_of {x : Str} (h1 : Txt.isascii x = true) (h2 : Txt.isdigit x = true) (h3 : x.length ≤ 9) : digL (cp x) = true := by
  rw [isascii_cp] at h1
  rw [isdigit_cp, asc_digits h1, Bool.and_eq_true] at h2
  unfold digL
  rw [h2.2, decide_eq_true (show (cp x).length ≤ 9 by rw [← cp_len]; exact h3)]
  have := of_decide_eq_true h2.1
  cases e : cp x with
  | nil =>
    rw [e] at this
    exact absurd this (by decide)
  | cons c r => rfl
theorem dig_to {x : Str} (h : digL (cp x) = true) : Txt.isascii x = true ∧ Txt.isdigit x = true ∧ x.length ≤ 9 := by
  unfold digL at h
  rw [Bool.and_eq_true, Bool.and_eq_true] at h
  obtain ⟨⟨h1, h2⟩, h3⟩ := h
  have ha := digits_asc h2
  refine ⟨by rw [isascii_cp]; exact ha, ?_, by rw [cp_len]; exact of_decide_eq_true h3⟩
  rw [isdigit_cp, asc_digits ha, h2, Bool.and_true]
  cases e : cp x with
  | nil =>
    rw [e] at h1
    cases h1
  | cons c r => rfl
theorem dig_int {x : Str} (h : digL (cp x) = true) : intText? x = some ((NumText.digitsVal (cp x) : Nat) : Int) := by
  have h0 := dig_to h
  unfold digL at h
  rw [Bool.and_eq_true, Bool.and_eq_true] at h
  obtain ⟨⟨h1, h2⟩, h3⟩ := h
  refine PySem.intText_digits (fun c hc => ?_) (fun z => ?_) (by omega)
  · have := List.all_eq_true.mp h2 c hc
    rw [Bool.and_eq_true] at this
    exact ⟨of_decide_eq_true this.1, of_decide_eq_true this.2⟩
  · rw [show cp x = [] from z] at h1
    cases h1
theorem starts_dash (x : Str) : Txt.startswith x "-" = decide ((cp x).head? = some 45) := by
  unfold Txt.startswith
  rw [PySem.StrLaws.subAt_eq]
  have e1 : ("-" : Str).length = 1 := by decide +kernel
  have e2 : ("-" : Str).cps.toList = [45] := by decide +kernel
  rw [e1, e2, cp_len]
  show (decide (0 + 1 ≤ (cp x).length) && (((cp x).drop 0).take 1 == [45])) = _
  cases cp x with
  | nil => rfl
  | cons c r =>
    show (decide (0 + 1 ≤ (c :: r).length) && ([c] == [45])) = decide (some c = some 45)
    rw [decide_eq_true (show 0 + 1 ≤ (c :: r).length by rw [List.length_cons]; omega), Bool.true_and]
    by_cases h : c = 45
    · subst h
      rfl
    · rw [decide_eq_false (fun z => h (Option.some.inj z))]
      simp [h]
theorem str_eq (x : Str) (s : Str) : decide (V.str x = V.str s) = decide (cp x = cp s) := by
  by_cases h : cp x = cp s
  · rw [decide_eq_true h, decide_eq_true (by rw [cp_ext h])]
  · rw [decide_eq_false h, decide_eq_false (fun z => h (by rw [V.str.inj z]))]
theorem cp_zero : cp ("0" : Str) = [48] := by decide +kernel
theorem cp_mzero : cp ("-0" : Str) = [45, 48] := by decide +kernel
theorem cp_blank : cp (" " : Str) = [32] := by decide +kernel
theorem cp_cut1 (x : Str) : cp (cutS x (some 1) none) = (cp x).drop 1 := by
  unfold cutS
  show ((x.cps.toList.drop (HT.sIx x.length 0 (some 1))).take (HT.sIx x.length x.length none - HT.sIx x.length 0 (some 1))) = _
  rw [show HT.sIx x.length 0 (some 1) = min 1 x.length from HT.sIx_nat x.length 0 1, HT.sIx_none, cp_len]
  show ((cp x).drop (min 1 (cp x).length)).take ((cp x).length - min 1 (cp x).length) = _
  cases cp x with
  | nil => rfl
  | cons c r =>
    rw [show min 1 (c :: r).length = 1 by rw [List.length_cons]; omega]
    show r.take (r.length + 1 - 1) = r
    rw [Nat.add_sub_cancel, List.take_length]
theorem cp_nat (n : Nat) : cp (Str.ofString (toString ((n : Nat) : Int))) = TL.numL n := TL.tl_num n
theorem numL_lead : ∀ n : Nat, (TL.numL n).head? = some 48 → n = 0
  | n, h => by
    by_cases hn : n < 10
    · rw [TL.numL_lt hn] at h
      have := Option.some.inj h
      omega
    · rw [TL.numL_step (by omega)] at h
      have hne := TL.numL_ne (n / 10)
      have h2 : (TL.numL (n / 10)).head? = some 48 := by
        cases q : TL.numL (n / 10) with
        | nil => exact absurd q hne
        | cons c r =>
          rw [q] at h
          exact h
      have := numL_lead (n / 10) h2
      omega
  termination_by n => n
theorem wholeL_num {n : Nat} (h : n < 10 ^ 9) : wholeL (TL.numL n) = some (n : Int) := by
  have hl := TL.numL_len (show 0 < 9 by decide) h
  have hd := TL.numL_digits n
  have hne := TL.numL_ne n
  have e : digL (TL.numL n) = true := by
    unfold digL
    rw [Bool.and_eq_true, Bool.and_eq_true]
    refine ⟨⟨?_, ?_⟩, decide_eq_true hl⟩
    · cases q : TL.numL n with
      | nil => exact absurd q hne
      | cons c r => rfl
    · rw [List.all_eq_true]
      intro c hc
      rw [Bool.and_eq_true]
      exact ⟨decide_eq_true (hd c hc).1, decide_eq_true (hd c hc).2⟩
  unfold wholeL
  rw [if_pos e, if_neg, TL.numL_val]
  rintro ⟨h1, h2⟩
  have hz := numL_lead n h1
  subst hz
  exact h2 (TL.numL_lt (by decide))
theorem back_num : ∀ (n : Nat) (l : List Nat), l.length = n → l ≠ [] → (∀ c ∈ l, 48 ≤ c ∧ c ≤ 57) → (l.head? = some 48 → l = [48]) → TL.numL (NumText.digitsVal l) = l
  | 0, l, hl, h, _, _ => absurd (List.length_eq_zero_iff.mp hl) h
  | n + 1, l, hl, h, hd, hz => by
    rcases List.eq_nil_or_concat l with e | ⟨r, c, e⟩
    · exact absurd e h
    have e' : l = r ++ [c] := by simpa using e
    subst e'
    have hc := hd c (List.mem_append_right _ List.mem_cons_self)
    have ev : NumText.digitsVal (r ++ [c]) = NumText.digitsVal r * 10 + (c - 48) := PySem.NumText.digitsVal_snoc r c
    rw [List.length_append, List.length_singleton] at hl
    rw [ev]
    cases r with
    | nil =>
      have e0 : NumText.digitsVal [] = 0 := rfl
      rw [e0, TL.numL_lt (by omega)]
      show [48 + (0 * 10 + (c - 48))] = [c]
      rw [show 48 + (0 * 10 + (c - 48)) = c by omega]
    | cons d r =>
      have hh : d ≠ 48 := fun z => by
        have := hz (by rw [z]; rfl)
        have h2 : (d :: r ++ [c]).length = 1 := by rw [this]; rfl
        rw [List.length_append, List.length_cons, List.length_singleton] at h2
        omega
      have hd1 := hd d (List.mem_append_left _ List.mem_cons_self)
      have hpos : 0 < NumText.digitsVal (d :: r) := PySem.NumText.digitsVal_pos (by omega)
      rw [TL.numL_step (by omega)]
      rw [show (NumText.digitsVal (d :: r) * 10 + (c - 48)) / 10 = NumText.digitsVal (d :: r) by omega, show (NumText.digitsVal (d :: r) * 10 + (c - 48)) % 10 = c - 48 by omega]
      rw [back_num n (d :: r) (by omega) (by simp) (fun x hx => hd x (List.mem_append_left _ hx)) (fun z => absurd (Option.some.inj z) hh), show 48 + (c - 48) = c by omega]
theorem dig_all {l : List Nat} (h : digL l = true) : l ≠ [] ∧ (∀ c ∈ l, 48 ≤ c ∧ c ≤ 57) ∧ l.length ≤ 9 := by
  unfold digL at h
  rw [Bool.and_eq_true, Bool.and_eq_true] at h
  obtain ⟨⟨h1, h2⟩, h3⟩ := h
  refine ⟨(fun z => by rw [z] at h1; cases h1), fun c hc => ?_, of_decide_eq_true h3⟩
  have := List.all_eq_true.mp h2 c hc
  rw [Bool.and_eq_true] at this
  exact ⟨of_decide_eq_true this.1, of_decide_eq_true this.2⟩
/-! Turns packed: stretches, words, what is read of a text. -/
def runs : List Int → List (Int × Nat)
  | [] => []
  | x :: t => match runs t with
    | (y, n) :: r => if x = y then (y, n + 1) :: r else (x, 1) :: (y, n) :: r
    | [] => [(x, 1)]
/-- one turn more ahead -/
def consR (x : Int) (rs : List (Int × Nat)) : List (Int × Nat) := match rs with
  | (y, n) :: r => if x = y then (y, n + 1) :: r else (x, 1) :: (y, n) :: r
  | [] => [(x, 1)]
theorem runs_cons (x : Int) (t : List Int) : runs (x :: t) = consR x (runs t) := rfl
def flatR (rs : List (Int × Nat)) : List Int := rs.flatMap fun p => List.replicate p.2 p.1
/-- one turn more behind -/
def addT (rs : List (Int × Nat)) (x : Int) : List (Int × Nat) := match rs.getLast? with
  | some (y, n) => if y = x then rs.dropLast ++ [(y, n + 1)] else rs ++ [(x, 1)]
  | none => [(x, 1)]
/-- neighbours unlike, none empty -/
def Alt : Option Int → List (Int × Nat) → Prop
  | _, [] => True
  | b, (x, n) :: r => b ≠ some x ∧ 1 ≤ n ∧ Alt (some x) r
theorem runs_head (x : Int) (t : List Int) : ∃ n r, runs (x :: t) = (x, n + 1) :: r := by
  unfold runs
  cases h : runs t with
  | nil => exact ⟨0, [], rfl⟩
  | cons p r =>
    obtain ⟨y, n⟩ := p
    dsimp only
    by_cases e : x = y
    · rw [if_pos e, ← e]
      exact ⟨n, r, rfl⟩
    · rw [if_neg e]
      exact ⟨0, _, rfl⟩
theorem runs_ne {t : List Int} (h : t ≠ []) : runs t ≠ [] := by
  cases t with
  | nil => exact absurd rfl h
  | cons x t =>
    obtain ⟨n, r, e⟩ := runs_head x t
    rw [e]
    simp
theorem flat_runs : ∀ t : List Int, flatR (runs t) = t
  | [] => rfl
  | x :: t => by
    have ih := flat_runs t
    unfold runs
    cases h : runs t with
    | nil =>
      rw [h] at ih
      have e : t = [] := ih.symm
      subst e
      rfl
    | cons p r =>
      obtain ⟨y, n⟩ := p
      rw [h] at ih
      dsimp only
      by_cases e : x = y
      · rw [if_pos e]
        show List.replicate (n + 1) y ++ flatR r = x :: t
        rw [List.replicate_succ, List.cons_append, e]
        exact congrArg _ ih
      · rw [if_neg e]
        show List.replicate 1 x ++ flatR ((y, n) :: r) = x :: t
        rw [ih]
        rfl
theorem alt_weak {b : Option Int} {x : Int} {n : Nat} {r : List (Int × Nat)} (h : Alt b ((x, n) :: r)) : Alt none ((x, n) :: r) := ⟨(fun z => by cases z), h.2.1, h.2.2⟩
theorem alt_runs : ∀ t : List Int, Alt none (runs t)
  | [] => trivial
  | x :: t => by
    have ih := alt_runs t
    unfold runs
    cases h : runs t with
    | nil => exact ⟨(fun z => by cases z), Nat.le_refl _, trivial⟩
    | cons p r =>
      obtain ⟨y, n⟩ := p
      rw [h] at ih
      dsimp only
      by_cases e : x = y
      · rw [if_pos e]
        exact ⟨(fun z => by cases z), by omega, ih.2.2⟩
      · rw [if_neg e]
        exact ⟨(fun z => by cases z), Nat.le_refl _, (fun z => e (Option.some.inj z)), ih.2.1, ih.2.2⟩
theorem runs_rep (x : Int) (u : List Int) (h : ∀ y, u.head? = some y → y ≠ x) : ∀ n, runs (List.replicate (n + 1) x ++ u) = (x, n + 1) :: runs u
  | 0 => by
    show runs (x :: u) = _
    cases u with
    | nil => rfl
    | cons y u =>
      obtain ⟨n, r, e⟩ := runs_head y u
      have hne := h y rfl
      rw [runs_cons x, e]
      show (if x = y then _ else (x, 1) :: (y, n + 1) :: r) = _
      rw [if_neg (fun z => hne z.symm)]
  | n + 1 => by
    have ih := runs_rep x u h n
    show runs (x :: (List.replicate (n + 1) x ++ u)) = _
    rw [runs_cons, ih]
    show (if x = x then (x, n + 1 + 1) :: runs u else _) = _
    rw [if_pos rfl]
theorem flat_head : ∀ (rs : List (Int × Nat)) (b : Option Int), Alt b rs → ∀ y, (flatR rs).head? = some y → b ≠ some y
  | [], _, _, y, h => by cases h
  | (x, n) :: r, b, h, y, e => by
    obtain ⟨h1, h2, _⟩ := h
    obtain ⟨m, rfl⟩ : ∃ m, n = m + 1 := ⟨n - 1, by omega⟩
    have e2 : some x = some y := e
    rw [← e2]
    exact h1
theorem runs_flat : ∀ (rs : List (Int × Nat)) (b : Option Int), Alt b rs → runs (flatR rs) = rs
  | [], _, _ => rfl
  | (x, n) :: r, b, h => by
    obtain ⟨h1, h2, h3⟩ := h
    obtain ⟨m, rfl⟩ : ∃ m, n = m + 1 := ⟨n - 1, by omega⟩
    show runs (List.replicate (m + 1) x ++ flatR r) = _
    rw [runs_rep x (flatR r) (fun y hy z => flat_head r _ h3 y hy (by rw [z])) m, runs_flat r _ h3]
theorem addT_cons (x : Int) (p : Int × Nat) : ∀ l : List (Int × Nat), l ≠ [] → addT (p :: l) x = p :: addT l x
  | [], h => absurd rfl h
  | q :: l, _ => by
    unfold addT
    rw [List.getLast?_cons_cons]
    cases hg : (q :: l).getLast? with
    | none => simp at hg
    | some w =>
      obtain ⟨y, n⟩ := w
      dsimp only
      by_cases e : y = x
      · rw [if_pos e, if_pos e]
        rfl
      · rw [if_neg e, if_neg e]
        rfl
theorem cons_add (a x : Int) : ∀ rs : List (Int × Nat), consR a (addT rs x) = addT (consR a rs) x
  | [] => by
    show (if a = x then [(x, 2)] else [(a, 1), (x, 1)]) = (if a = x then [] ++ [(a, 2)] else [(a, 1)] ++ [(x, 1)])
    by_cases e : a = x
    · rw [if_pos e, if_pos e, e]
      rfl
    · rw [if_neg e, if_neg e]
      rfl
  | [(y, n)] => by
    show consR a (if y = x then [] ++ [(y, n + 1)] else [(y, n)] ++ [(x, 1)]) = addT (if a = y then [(y, n + 1)] else [(a, 1), (y, n)]) x
    by_cases e : y = x
    · by_cases e2 : a = y
      · rw [if_pos e, if_pos e2]
        show (if a = y then [(y, n + 1 + 1)] else _) = (if y = x then [] ++ [(y, n + 1 + 1)] else _)
        rw [if_pos e, if_pos e2]
        rfl
      · rw [if_pos e, if_neg e2]
        show (if a = y then _ else [(a, 1), (y, n + 1)]) = (if y = x then [(a, 1)] ++ [(y, n + 1)] else _)
        rw [if_pos e, if_neg e2]
        rfl
    · by_cases e2 : a = y
      · rw [if_neg e, if_pos e2]
        show (if a = y then [(y, n + 1), (x, 1)] else _) = (if y = x then _ else [(y, n + 1)] ++ [(x, 1)])
        rw [if_neg e, if_pos e2]
        rfl
      · rw [if_neg e, if_neg e2]
        show (if a = y then _ else [(a, 1), (y, n), (x, 1)]) = (if y = x then _ else [(a, 1), (y, n)] ++ [(x, 1)])
        rw [if_neg e, if_neg e2]
        rfl
  | (y, n) :: q :: r => by
    rw [addT_cons x _ _ (by simp)]
    show (if a = y then (y, n + 1) :: addT (q :: r) x else (a, 1) :: (y, n) :: addT (q :: r) x) = addT (if a = y then (y, n + 1) :: q :: r else (a, 1) :: (y, n) :: q :: r) x
    by_cases e : a = y
    · rw [if_pos e, if_pos e, addT_cons x (y, n + 1) _ (by simp)]
    · rw [if_neg e, if_neg e, addT_cons x (a, 1) _ (by simp), addT_cons x (y, n) _ (by simp)]
theorem runs_snoc : ∀ (t : List Int) (x : Int), runs (t ++ [x]) = addT (runs t) x
  | [], x => rfl
  | a :: t, x => by
    have ih := runs_snoc t x
    show runs (a :: (t ++ [x])) = addT (runs (a :: t)) x
    rw [runs_cons, runs_cons, ih]
    exact cons_add a x (runs t)
/-! Words. -/
def wordL (p : Int × Nat) : List Nat := (48 + p.1.toNat) :: (if p.2 = 1 then [] else 42 :: TL.numL p.2)
def wordS (p : Int × Nat) : Str := ⟨(wordL p).toArray⟩
def pkS (t : List Int) : Str := if t = [] then "-" else Txt.join " " ((runs t).map wordS)
/-- a word of the law's own look -/
def wOk (l : List Nat) : Option (Int × Nat) := match l with
  | [] => none
  | c :: r => if 48 ≤ c ∧ c ≤ 51 then (match r with
    | [] => some ((c : Int) - 48, 1)
    | s :: g => if s = 42 ∧ (∀ d ∈ g, 48 ≤ d ∧ d ≤ 57) ∧ 1 ≤ g.length ∧ g.length ≤ 3 ∧ g.head? ≠ some 48 ∧ g ≠ [49] then some ((c : Int) - 48, NumText.digitsVal g) else none) else none
def rightL : Option Int → Nat → List (List Nat) → Bool
  | _, n, [] => decide (n ≤ 400)
  | b, n, l :: r => match wOk l with
    | none => false
    | some (x, m) => if b = some x then false else rightL (some x) (n + m) r
def isRight (z : Str) : Bool := decide (z = "-") || rightL none 0 ((Txt.split z " ").map cp)
/-- what the program reads of a word -/
def parL (l : List Nat) : List Nat × Option (List Nat) := match TL.par [42] [] l with
  | some (a, b) => (a, some b)
  | none => (l, none)
def tmL (l : List Nat) : Option Int := match (parL l).2 with
  | some b => wholeL b
  | none => some 1
def tOf (l : List Nat) : List Int := match wholeL (parL l).1, tmL l with
  | some x, some n => if 0 ≤ x ∧ x < 4 ∧ 0 ≤ n ∧ n < 401 then List.replicate n.toNat x else []
  | _, _ => []
def wsOf (z : Str) : List Str := if z = "-" then [] else Txt.split z " "
def tsOf (z : Str) : List Int := (wsOf z).flatMap fun w => tOf (cp w)
def uOk (z : Str) : Bool := decide ((tsOf z).length ≤ 400) && decide (pkS (tsOf z) = z)
theorem num_dig (n : Nat) : ∀ c ∈ TL.numL n, 48 ≤ c ∧ c ≤ 57 := by
  intro c hc
  induction n using Nat.strongRecOn generalizing c with
  | _ n ih =>
    by_cases h : n < 10
    · rw [TL.numL_lt h, List.mem_singleton] at hc
      omega
    · rw [TL.numL_step (by omega)] at hc
      rcases List.mem_append.mp hc with hc | hc
      · exact ih _ (by omega) c hc
      · rw [List.mem_singleton] at hc
        omega
theorem num_len {n : Nat} (h : n < 1000) : 1 ≤ (TL.numL n).length ∧ (TL.numL n).length ≤ 3 := by
  by_cases h1 : n < 10
  · rw [TL.numL_lt h1]
    exact ⟨by simp, by simp⟩
  · rw [TL.numL_step (by omega)]
    by_cases h2 : n / 10 < 10
    · rw [TL.numL_lt h2]
      exact ⟨by simp, by simp⟩
    · rw [TL.numL_step (by omega), TL.numL_lt (show n / 10 / 10 < 10 by omega)]
      exact ⟨by simp, by simp⟩
theorem num_val {n : Nat} (h : n < 1000) : NumText.digitsVal (TL.numL n) = n := by
  have e := wholeL_num (n := n) (by omega)
  unfold wholeL at e
  split at e
  · split at e
    · cases e
    · exact Int.ofNat.inj (Option.some.inj e)
  · cases e
theorem word_ok {x : Int} {n : Nat} (h0 : 0 ≤ x) (h1 : x ≤ 3) (hn : 1 ≤ n) (hm : n ≤ 400) : wOk (wordL (x, n)) = some (x, n) := by
  unfold wordL wOk
  dsimp only
  rw [if_pos (show 48 ≤ 48 + x.toNat ∧ 48 + x.toNat ≤ 51 by omega)]
  have ex : ((48 + x.toNat : Nat) : Int) - 48 = x := by omega
  by_cases e : n = 1
  · rw [if_pos e, e]
    dsimp only
    rw [ex]
  · rw [if_neg e]
    dsimp only
    have hl := num_len (n := n) (by omega)
    rw [if_pos, ex, num_val (by omega)]
    refine ⟨rfl, num_dig n, hl.1, hl.2, fun z => ?_, fun z => ?_⟩
    · have := numL_lead n z
      omega
    · have := num_val (n := n) (by omega)
      rw [z] at this
      have h2 : NumText.digitsVal [49] = 1 := by decide +kernel
      omega
theorem ok_word {l : List Nat} {x : Int} {n : Nat} (h : wOk l = some (x, n)) : l = wordL (x, n) ∧ 0 ≤ x ∧ x ≤ 3 ∧ 1 ≤ n := by
  cases l with
  | nil => cases h
  | cons c r =>
    unfold wOk at h
    dsimp only at h
    by_cases hc : 48 ≤ c ∧ c ≤ 51
    · rw [if_pos hc] at h
      cases r with
      | nil =>
        cases h
        refine ⟨?_, by omega, by omega, Nat.le_refl _⟩
        unfold wordL
        dsimp only
        rw [if_pos rfl, show 48 + ((c : Int) - 48).toNat = c by omega]
      | cons s g =>
        dsimp only at h
        split at h
        · rename_i hg
          obtain ⟨rfl, hd, hl1, hl3, hz, h1⟩ := hg
          cases h
          have hne : g ≠ [] := fun z => by
            rw [z] at hl1
            exact absurd hl1 (by decide)
          have hb := back_num _ g rfl hne hd (fun z => absurd z hz)
          have hpos : 2 ≤ NumText.digitsVal g := by
            cases hv : NumText.digitsVal g with
            | zero =>
              rw [hv, TL.numL_lt (by decide)] at hb
              exact absurd (by rw [← hb]; rfl) hz
            | succ k =>
              cases k with
              | zero =>
                rw [hv, TL.numL_lt (by decide)] at hb
                exact absurd hb.symm h1
              | succ k => omega
          refine ⟨?_, by omega, by omega, by omega⟩
          unfold wordL
          dsimp only
          rw [if_neg (by omega), hb, show 48 + ((c : Int) - 48).toNat = c by omega]
        · cases h
    · rw [if_neg hc] at h
      cases h
theorem num_no {n c : Nat} (h : c < 48) : c ∉ TL.numL n := fun z => by
  have := num_dig n c z
  omega
theorem tOf_word {x : Int} {n : Nat} (h0 : 0 ≤ x) (h1 : x ≤ 3) (hn : 1 ≤ n) (hm : n ≤ 400) : tOf (wordL (x, n)) = List.replicate n x := by
  have hw : wholeL [48 + x.toNat] = some x := by
    have := wholeL_num (n := x.toNat) (by omega)
    rw [TL.numL_lt (by omega)] at this
    rw [this]
    exact congrArg some (by omega)
  by_cases e : n = 1
  · have ep : parL (wordL (x, n)) = ([48 + x.toNat], none) := by
      unfold parL wordL
      dsimp only
      rw [if_pos e, TL.par_none1 (by simp; omega)]
    unfold tOf tmL
    rw [ep]
    dsimp only
    rw [hw]
    dsimp only
    rw [if_pos (by omega), e]
    rfl
  · have ep : parL (wordL (x, n)) = ([48 + x.toNat], some (TL.numL n)) := by
      unfold parL wordL
      dsimp only
      rw [if_neg e]
      have := TL.par_part1 (s := 42) (S := []) (p := [48 + x.toNat]) (rest := TL.numL n) (acc := []) (by simp; omega)
      rw [show (48 + x.toNat) :: 42 :: TL.numL n = [48 + x.toNat] ++ ([42] ++ TL.numL n) from rfl, this]
      rfl
    unfold tOf tmL
    rw [ep]
    dsimp only
    rw [hw, wholeL_num (by omega)]
    dsimp only
    rw [if_pos (by omega)]
    rfl
theorem tOf_in (l : List Nat) : ∀ x ∈ tOf l, 0 ≤ x ∧ x ≤ 3 := by
  intro x hx
  unfold tOf at hx
  split at hx
  · split at hx
    · have := (List.mem_replicate.mp hx).2
      omega
    · cases hx
  · cases hx
theorem tsOf_in (z : Str) : ∀ x ∈ tsOf z, 0 ≤ x ∧ x ≤ 3 := by
  intro x hx
  unfold tsOf at hx
  obtain ⟨w, _, hw⟩ := List.mem_flatMap.mp hx
  exact tOf_in _ x hw
/-- the law's look, of words that are right -/
theorem right_of : ∀ (rs : List (Int × Nat)) (b : Option Int) (n : Nat), Alt b rs → (∀ p ∈ rs, 0 ≤ p.1 ∧ p.1 ≤ 3) → n + (flatR rs).length ≤ 400 → rightL b n (rs.map wordL) = true
  | [], b, n, _, _, h => decide_eq_true h
  | (x, m) :: r, b, n, ha, hx, h => by
    obtain ⟨h1, h2, h3⟩ := ha
    have hl : (flatR ((x, m) :: r)).length = m + (flatR r).length := by
      show (List.replicate m x ++ flatR r).length = _
      rw [List.length_append, List.length_replicate]
    rw [hl] at h
    have hx0 := hx (x, m) List.mem_cons_self
    show (match wOk (wordL (x, m)) with | none => false | some (x, m) => if b = some x then false else rightL (some x) (n + m) (r.map wordL)) = true
    rw [word_ok hx0.1 hx0.2 h2 (by omega)]
    dsimp only
    rw [if_neg h1]
    exact right_of r _ _ h3 (fun p hp => hx p (List.mem_cons_of_mem _ hp)) (by omega)
theorem of_right : ∀ (ls : List (List Nat)) (b : Option Int) (n : Nat), rightL b n ls = true → ∃ rs, ls = rs.map wordL ∧ Alt b rs ∧ (∀ p ∈ rs, 0 ≤ p.1 ∧ p.1 ≤ 3) ∧ n + (flatR rs).length ≤ 400
  | [], b, n, h => ⟨[], rfl, trivial, (fun p hp => by cases hp), of_decide_eq_true h⟩
  | l :: r, b, n, h => by
    cases hw : wOk l with
    | none =>
      have h' : (match wOk l with | none => false | some (x, m) => if b = some x then false else rightL (some x) (n + m) r) = true := h
      rw [hw] at h'
      cases h'
    | some p =>
      obtain ⟨x, m⟩ := p
      have h' : (match wOk l with | none => false | some (x, m) => if b = some x then false else rightL (some x) (n + m) r) = true := h
      rw [hw] at h'
      dsimp only at h'
      by_cases hb : b = some x
      · rw [if_pos hb] at h'
        cases h'
      · rw [if_neg hb] at h'
        obtain ⟨rs, e, ha, hx, hl⟩ := of_right r _ _ h'
        obtain ⟨e1, e2, e3, e4⟩ := ok_word hw
        refine ⟨(x, m) :: rs, by rw [List.map_cons, ← e, ← e1], ⟨hb, e4, ha⟩, ?_, ?_⟩
        · intro p hp
          rcases List.mem_cons.mp hp with rfl | hp
          · exact ⟨e2, e3⟩
          · exact hx p hp
        · show n + (List.replicate m x ++ flatR rs).length ≤ 400
          rw [List.length_append, List.length_replicate]
          omega
theorem runs_in {t : List Int} {P : Int → Prop} (h : ∀ x ∈ t, P x) : ∀ p ∈ runs t, P p.1 := by
  have key : ∀ (rs : List (Int × Nat)) (b : Option Int), Alt b rs → (∀ x ∈ flatR rs, P x) → ∀ p ∈ rs, P p.1 := by
    intro rs
    induction rs with
    | nil =>
      intro b _ _ p hp
      cases hp
    | cons q r ih =>
      intro b ha hx p hp
      obtain ⟨x, n⟩ := q
      obtain ⟨h1, h2, h3⟩ := ha
      rcases List.mem_cons.mp hp with rfl | hp
      · exact hx x (List.mem_append_left _ (List.mem_replicate.mpr ⟨by omega, rfl⟩))
      · exact ih _ h3 (fun y hy => hx y (List.mem_append_right _ hy)) p hp
  exact key _ none (alt_runs t) (by rw [flat_runs]; exact h)
theorem cp_wordS (p : Int × Nat) : cp (wordS p) = wordL p := rfl
theorem wordL_blank (p : Int × Nat) : 32 ∉ wordL p := by
  unfold wordL
  intro h
  rcases List.mem_cons.mp h with h | h
  · omega
  · split at h
    · cases h
    · rcases List.mem_cons.mp h with h | h
      · cases h
      · exact num_no (by decide) h
theorem split_pk {t : List Int} (h : t ≠ []) : Txt.split (pkS t) " " = (runs t).map wordS := by
  unfold pkS
  rw [if_neg h]
  refine TL.split_join (show TL.tl (" " : Str) = 32 :: [] from cp_blank) (by decide +kernel) (by simpa using runs_ne h) ?_
  intro p hp
  obtain ⟨q, _, rfl⟩ := List.mem_map.mp hp
  exact wordL_blank q
theorem pk_dash {t : List Int} (h : t ≠ []) : pkS t ≠ "-" := by
  intro z
  have e := split_pk h
  rw [z] at e
  have hd : Txt.split ("-" : Str) " " = [("-" : Str)] := by decide +kernel
  rw [hd] at e
  cases hr : runs t with
  | nil => exact runs_ne h hr
  | cons p r =>
    rw [hr, List.map_cons] at e
    have e1 := congrArg cp (List.cons.inj e).1
    rw [cp_wordS] at e1
    have e2 : cp ("-" : Str) = [45] := by decide +kernel
    rw [e2] at e1
    unfold wordL at e1
    have := (List.cons.inj e1).1
    omega
theorem right_pk {t : List Int} (hx : ∀ x ∈ t, 0 ≤ x ∧ x ≤ 3) (hl : t.length ≤ 400) : isRight (pkS t) = true := by
  unfold isRight
  by_cases h : t = []
  · subst h
    rfl
  · rw [split_pk h, List.map_map, show (cp ∘ wordS) = wordL from rfl, right_of (runs t) none 0 (alt_runs t) (runs_in (P := fun x => 0 ≤ x ∧ x ≤ 3) hx) (by rw [flat_runs]; omega), Bool.or_true]
theorem flatMap_words : ∀ rs : List (Int × Nat), (∀ p ∈ rs, 0 ≤ p.1 ∧ p.1 ≤ 3 ∧ 1 ≤ p.2 ∧ p.2 ≤ 400) → (rs.map wordS).flatMap (fun w => tOf (cp w)) = flatR rs
  | [], _ => rfl
  | (x, n) :: r, h => by
    obtain ⟨h1, h2, h3, h4⟩ := h (x, n) List.mem_cons_self
    show tOf (cp (wordS (x, n))) ++ (r.map wordS).flatMap (fun w => tOf (cp w)) = List.replicate n x ++ flatR r
    rw [cp_wordS, tOf_word h1 h2 h3 h4, flatMap_words r fun p hp => h p (List.mem_cons_of_mem _ hp)]
theorem alt_pos : ∀ (rs : List (Int × Nat)) (b : Option Int), Alt b rs → ∀ p ∈ rs, 1 ≤ p.2 ∧ p.2 ≤ (flatR rs).length
  | [], _, _, p, hp => by cases hp
  | (x, n) :: r, b, h, p, hp => by
    have hl : (flatR ((x, n) :: r)).length = n + (flatR r).length := by
      show (List.replicate n x ++ flatR r).length = _
      rw [List.length_append, List.length_replicate]
    rcases List.mem_cons.mp hp with rfl | hp
    · exact ⟨h.2.1, by dsimp only; omega⟩
    · have := alt_pos r _ h.2.2 p hp
      omega
theorem ts_pk {t : List Int} (hx : ∀ x ∈ t, 0 ≤ x ∧ x ≤ 3) (hl : t.length ≤ 400) : tsOf (pkS t) = t := by
  unfold tsOf wsOf
  by_cases h : t = []
  · subst h
    rfl
  · rw [if_neg (pk_dash h), split_pk h, flatMap_words, flat_runs]
    intro p hp
    have h1 := runs_in (P := fun x => 0 ≤ x ∧ x ≤ 3) hx p hp
    have h2 := alt_pos _ _ (alt_runs t) p hp
    rw [flat_runs] at h2
    omega
theorem uOk_pk {t : List Int} (hx : ∀ x ∈ t, 0 ≤ x ∧ x ≤ 3) (hl : t.length ≤ 400) : uOk (pkS t) = true := by
  unfold uOk
  rw [ts_pk hx hl, decide_eq_true hl, decide_eq_true rfl]
  rfl
theorem join_split (z : Str) : Txt.join " " (Txt.split z " ") = z := by
  rw [TL.join_eq]
  exact PySem.StrLaws.join_split z " "
theorem right_is (z : Str) : isRight z = true → ∃ t, z = pkS t ∧ (∀ x ∈ t, 0 ≤ x ∧ x ≤ 3) ∧ t.length ≤ 400 := by
  intro h
  unfold isRight at h
  rw [Bool.or_eq_true] at h
  rcases h with h | h
  · exact ⟨[], of_decide_eq_true h, (fun x hx => by cases hx), by simp⟩
  · obtain ⟨rs, e, ha, hx, hl⟩ := of_right _ _ _ h
    have es : Txt.split z " " = rs.map wordS := by
      have h2 : ((Txt.split z " ").map cp).map (fun l => (⟨l.toArray⟩ : Str)) = (rs.map wordL).map (fun l => (⟨l.toArray⟩ : Str)) := by rw [e]
      rw [List.map_map, List.map_map] at h2
      rw [← show (Txt.split z " ").map ((fun l => (⟨l.toArray⟩ : Str)) ∘ cp) = Txt.split z " " from (List.map_congr_left fun w _ => rfl).trans (List.map_id _)]
      exact h2
    have hr : runs (flatR rs) = rs := runs_flat rs none ha
    have hne : flatR rs ≠ [] := by
      intro z0
      rw [z0] at hr
      rw [← hr] at es
      have := congrArg List.length es
      have hl0 : (Txt.split z " ").length ≠ 0 := by
        intro q
        have h3 := join_split z
        rw [List.length_eq_zero_iff.mp q] at h3
        have : z = "" := h3.symm
        subst this
        exact absurd q (by decide +kernel)
      exact hl0 this
    refine ⟨flatR rs, ?_, ?_, by omega⟩
    · unfold pkS
      rw [if_neg hne, hr, ← es, join_split]
    · intro x hx'
      obtain ⟨p, hp, hm⟩ := List.mem_flatMap.mp hx'
      have := (List.mem_replicate.mp hm).2
      rw [this]
      exact hx p hp
theorem right_same (z : Str) : isRight z = uOk z := by
  cases h : isRight z with
  | true =>
    obtain ⟨t, rfl, hx, hl⟩ := right_is z h
    rw [uOk_pk hx hl]
  | false =>
    cases hu : uOk z with
    | false => rfl
    | true =>
      unfold uOk at hu
      rw [Bool.and_eq_true] at hu
      have h1 := of_decide_eq_true hu.1
      have h2 := of_decide_eq_true hu.2
      rw [← h2, right_pk (tsOf_in z) h1] at h
      cases h
theorem iteB0 {c : Bool} {A B : Prop} (h : c = false) (hB : B) : if c = true then A else B := by
  rw [h]
  exact iteF hB
theorem iteB1 {c : Bool} {A B : Prop} (h : c = true) (hA : A) : if c = true then A else B := by
  rw [h]
  exact iteT hA
theorem len_size {n : Nat} (h : n ≤ 100000) : n ≤ sizeLine := Nat.le_trans h (by decide)
/-! The promises. -/
def blO (m : Int) : Option Int → Bool
  | some a => decide (0 ≤ a ∧ a < m)
  | none => false
def sp_iswhole : Sp := fun vs H Q _ => ∃ o : Option Int, vs = [ov o] ∧ Q (.bl o.isSome) H
def sp_isbelow : Sp := fun vs H Q _ => ∃ (o : Option Int) (m : Int), vs = [ov o, .int m] ∧ Q (.bl (blO m o)) H
def sp_wholeof : Sp := fun vs H Q _ => ∃ z : Str, vs = [.str z] ∧ z.length ≤ 100000 ∧ Q (ov (wholeL (cp z))) H
/-- at these addresses the stretches, as lists of two -/
def RL (H : Hp) : List Addr → List (Int × Nat) → Prop
  | [], [] => True
  | a :: as, p :: rs => H a = some (.lst [.int p.1, .int p.2]) ∧ RL H as rs
  | _, _ => False
def sp_stretches (K : PySem.W.Frag) : Sp := fun vs H Q _ => ∃ (a : Addr) (ts : List Int), vs = [.ref a] ∧ SqL K H a (ts.map V.int) ∧ ts.length ≤ 1000 ∧
  ∀ (H' : Hp) (R : Addr) (as : List Addr), Same H H' → H' R = some (.lst (as.map V.ref)) → RL H' as (runs ts) → Q (.ref R) H'
def sp_packed (K : PySem.W.Frag) : Sp := fun vs H Q _ => ∃ (a : Addr) (ts : List Int), vs = [.ref a] ∧ SqL K H a (ts.map V.int) ∧ ts.length ≤ 1000 ∧ (∀ x ∈ ts, 0 ≤ x ∧ x ≤ 3) ∧
  ∀ H', Same H H' → Q (.str (pkS ts)) H'
def sp_turnsof : Sp := fun vs H Q _ => ∃ z : Str, vs = [.str z] ∧ z.length ≤ 100000 ∧
  ∀ (H' : Hp) (l : Addr), Same H H' → H l = none → H' l = some (.lst ((tOf (cp z)).map V.int)) → Q (.ref l) H'
def sp_unpacked (C : Addr) : Sp := fun vs H Q E => ∃ z : Str, vs = [.str z] ∧ z.length ≤ 40000 ∧
  (uOk z = true → ∀ (H' : Hp) (l : Addr), Same H H' → H' l = some (.lst ((tsOf z).map V.int)) → Q (.ref l) H') ∧
  (uOk z = false → ∀ (H' : Hp) (d : Addr), Same H H' → H' d = some (.xd [("nth", .int 0)]) → E (.ref C) (some d) H')
theorem prime_at {i : Int} (h0 : 0 ≤ i) (h1 : i < 5) : ∃ v : Int, atI [V.int 2147483647, V.int 2147483629, V.int 2147483587, V.int 2147483579, V.int 2147483563] i = some (.int v) ∧ 2147483563 ≤ v ∧ v ≤ 2147483647 := by
  have h : i = 0 ∨ i = 1 ∨ i = 2 ∨ i = 3 ∨ i = 4 := by omega
  rcases h with rfl | rfl | rfl | rfl | rfl
  · exact ⟨_, rfl, by decide, by decide⟩
  · exact ⟨_, rfl, by decide, by decide⟩
  · exact ⟨_, rfl, by decide, by decide⟩
  · exact ⟨_, rfl, by decide, by decide⟩
  · exact ⟨_, rfl, by decide, by decide⟩
def sp_lpen (K : PySem.W.Frag) : Sp := fun vs H Q _ => ∃ (a : Addr) (ns : List Int), vs = [.ref a] ∧ SqL K H a (ns.map V.int) ∧ ns.length ≤ 63 ∧
  ∀ H' p c, Pen H' p c ns 0 → Q (.ref p) H'
def sp_ldraw : Sp := fun vs H Q _ => ∃ (p c : Addr) (ns : List Int) (n m : Int), vs = [.ref p, .int m] ∧ Pen H p c ns n ∧ 0 < m ∧ m < 1073741824 ∧ n < 1000000 ∧
  ∀ (H' : Hp) (d n' : Int), Kp p H H' → Pen H' p c ns n' → 0 ≤ d → d < m → n ≤ n' → n' ≤ n + 1 → Q (.int d) H'
def sp_law (K : PySem.W.Frag) : Sp := fun vs H Q _ => ∃ (a : Addr) (ns : List Int), vs = [.ref a] ∧ SqL K H a (ns.map V.int) ∧ ns.length ≤ 63 ∧ ∀ H', Q (.bl true) H'
section
variable {P : Program} {w : World} {K : PySem.W.Frag} {mg : Str → Option Value} {base : Heap} {f : Nat → Addr} {fd : Nat → FuncData} {ob : Nat → Addr}
theorem ok_lpen (T : Txt K w mg f fd ob) : FnOk P w K mg base CX0 1 (f 21) (fd 21) ["_law_script"] (sp_lpen K) := by
  refine T.F_lpen.ok sc_lpen (fun vs H Q E h => ?_) (fun cdv A outer s H vs Q E hr h => ?_)
  · obtain ⟨a, ns, rfl, _⟩ := h
    rfl
  · obtain ⟨a, ns, rfl, hS, hlen, q⟩ := h
    refine ⟨_, (pss_one (ps_ret (pe_lst (pa_cons (pe_callTy call_list_of (by rfl) T.z_list (by decide +kernel) (pa_cons (pe_slice sl_list (pv 0) po_none (po_some pe_int)) pa_nil)) (pa_cons pe_int (pa_cons pe_int pa_nil)))))), ?_⟩
    refine ⟨_, rfl, _, rfl, a, _, rfl, hS, fun c1 n1 => ⟨_, _, rfl, .inl (SqL.of upd_same), fun c n2 => ⟨(show 3 ≤ sizeLine by decide), fun p n3 => ?_⟩⟩⟩
    refine q _ p c ⟨0, upd_same, ?_, by decide, by decide⟩
    rw [upd_ne (ne_of_none upd_same n3), upd_same, cut63 (by rw [List.length_map]; exact hlen)]
theorem ok_ldraw (T : Txt K w mg f fd ob) : FnOk P w K mg base CX0 1 (f 22) (fd 22) ["_law_pen_here", "_law_many_here"] sp_ldraw := by
  refine T.F_ldraw.ok sc_ldraw (fun vs H Q E h => ?_) (fun cdv A outer s H vs Q E hr h => ?_)
  · obtain ⟨p, c, ns, n, m, rfl, _⟩ := h
    rfl
  · obtain ⟨p, c, ns, n, m, rfl, hP, hm0, hm1, hn1, q⟩ := h
    have hne : c ≠ p := hP.ne
    obtain ⟨r, hp, hc, hn0, hr0⟩ := hP
    refine ⟨_, (pss_cons (ps_if (pt_cmpR op_gt (pe_ix ix_list (pv 0) pe_int (fun _ _ => rfl)) pe_int (nomark _)) (pss_cons (ps_set (i := 2) sc_ldraw.nd rfl (Or.inl rfl) (pe_op op_mod (pe_ix ix_list (pv 0) pe_int (fun _ _ => rfl)) (pv 1)))
      (pss_cons (ps_asg (pe_op op_fdiv (pe_ix ix_list (pv 0) pe_int (fun _ _ => rfl)) (pv 1)) (pg_sub (pv 0) pe_int set_list))
      (pss_one (ps_ret (pv 2))))) pss_nil)
      (pss_cons (ps_set (i := 3) sc_ldraw.nd rfl (Or.inl rfl) (pe_ix ix_list (pv 0) pe_int (fun _ _ => rfl)))
      (C8.pss_cut (ps_asg (pe_op op_add (pv 3) pe_int) (pg_sub (pv 0) pe_int set_list))
      (pss_cons (ps_set (i := 4) sc_ldraw.nd rfl (Or.inl rfl) pe_int)
      (C8.pss_cut (ps_if (pt_cmpR (op_neD hr.units) (pe_ix ix_list (pv 0) pe_int (fun _ _ => rfl)) (pe_lst pa_nil) (nomark _)) (pss_one (ps_set (i := 4) sc_ldraw.nd rfl (Or.inl rfl) (pe_ix ix_list (pe_ix ix_list (pv 0) pe_int (fun _ _ => rfl)) (pe_op op_mod (pv 3) (pe_callB call_len_seq (by rfl) T.z_len PySem.boot_len (pa_cons (pe_ix ix_list (pv 0) pe_int (fun _ _ => rfl)) pa_nil))) (fun _ _ => rfl)))) pss_nil)
      (C8.pss_cut (ps_if (PW.pt (pw_and (pt_cmpR op_lt (pv 3) (pe_callB call_len_seq (by rfl) T.z_len PySem.boot_len (pa_cons (pe_ix ix_list (pv 0) pe_int (fun _ _ => rfl)) pa_nil)) (nomark _)) (pw_and1 (pt_cmpR op_ge (pe_callB call_abs (by rfl) T.z_abs (by decide +kernel) (pa_cons (pv 4) pa_nil)) (pe_op op_pow pe_int pe_int) (nomark _))))) (pss_cons (ps_asg (pe_op op_fdiv (pe_op op_sub (pe_callB call_abs (by rfl) T.z_abs (by decide +kernel) (pa_cons (pv 4) pa_nil)) (pe_op op_pow pe_int pe_int)) (pv 1)) (pg_sub (pv 0) pe_int set_list))
      (pss_one (ps_ret (pe_op op_mod (pe_op op_sub (pe_callB call_abs (by rfl) T.z_abs (by decide +kernel) (pa_cons (pv 4) pa_nil)) (pe_op op_pow pe_int pe_int)) (pv 1))))) pss_nil)
      (C8.pss_cut (ps_set (i := 5) sc_ldraw.nd rfl (Or.inl rfl) (pe_lst (pa_cons pe_int (pa_cons pe_int (pa_cons pe_int (pa_cons pe_int (pa_cons pe_int pa_nil)))))))
      (pss_cons (ps_set (i := 6) sc_ldraw.nd rfl (Or.inl rfl) (pe_ix ix_list (pv 5) (pe_op op_mod (pv 3) pe_int) (fun _ _ => rfl)))
      (C8.pss_cut (ps_set (i := 7) sc_ldraw.nd rfl (Or.inl rfl) (pe_op op_mod (pe_op op_add (pe_op op_add (pe_op op_add (pe_op op_mul (pe_op op_mod (pv 4) (pv 6)) pe_int) (pe_op op_mul (pe_op op_mul pe_int (pv 3)) (pv 3))) (pe_op op_mul pe_int (pv 3))) pe_int) (pv 6)))
      (C8.pss_cut (ps_set (i := 7) sc_ldraw.nd rfl (Or.inl rfl) (pe_op op_mod (pe_op op_mul (pv 7) (pe_op op_add (pv 7) pe_int)) (pe_ix ix_list (pv 5) (pe_op op_mod (pe_op op_add (pv 3) pe_int) pe_int) (fun _ _ => rfl))))
      (pss_one (ps_ret (pe_op op_mod (pe_op op_fdiv (pe_op op_mod (pe_op op_mul (pv 7) (pv 7)) pe_int) pe_int) (pv 1)))))))))))))), ?_⟩
    refine ⟨_, rfl, _, _, _, _, rfl, rfl, SqL.of hp, rfl, _, _, rfl, rfl, _, rfl, ite2 (fun h1 => ?_) (fun h1 => ?_)⟩
    · refine ⟨_, rfl, _, _, _, _, rfl, rfl, SqL.of hp, rfl, _, rfl, _, _, rfl, rfl, hm0, ?_⟩
      refine ⟨_, rfl, _, _, _, _, rfl, rfl, SqL.of hp, rfl, _, rfl, _, _, rfl, rfl, ⟨hm0, hm1⟩, _, rfl, _, _, _, _, rfl, rfl, hp, rfl, ?_⟩
      exact ⟨_, rfl, q _ _ _ (Kp.upd _) ⟨_, upd_same, (upd_ne hne).trans hc, hn0, Int.ediv_nonneg hr0 (by omega)⟩ (Int.emod_nonneg _ (by omega)) (Int.emod_lt_of_pos _ hm0) (by omega) (by omega)⟩
    · refine ⟨_, rfl, _, _, _, _, rfl, rfl, SqL.of hp, rfl, ?_⟩
      refine ⟨fun σ' H' => σ' = [some (.ref p), some (.int m), none, some (.int n), none, none, none, none] ∧ Kp p H H' ∧ H' p = some (.lst [.ref c, .int (n + 1), .int r]) ∧ H' c = some (.lst (ns.map V.int)),
        ⟨_, rfl, _, _, rfl, rfl, _, rfl, _, _, _, _, rfl, rfl, hp, rfl, rfl, Kp.upd _, upd_same, (upd_ne hne).trans hc⟩, ?_⟩
      rintro _ H1 ⟨rfl, k1, hp1, hc1⟩
      -- cell = 0; if pen[0] != []
      refine ⟨fun σ' H' => ∃ v : Int, σ' = [some (.ref p), some (.int m), none, some (.int n), some (.int v), none, none, none] ∧ Same H1 H', ?_, ?_⟩
      · refine ⟨_, rfl, _, _, _, _, rfl, rfl, SqL.of hp1, rfl, Nat.zero_le _, fun e he => ?_⟩
        have se : Same H1 (upd H1 e (.lst [])) := Same.new he
        refine ⟨_, _, dpL (SqL.of (se _ _ hc1)), dpL (ns := []) (SqL.of upd_same), shInts _, shInts _, _, rfl, ?_⟩
        rw [eqvInts]
        by_cases h2 : ns = []
        · rw [decide_eq_true h2]
          exact iteF ⟨0, rfl, se⟩
        · rw [decide_eq_false h2]
          have hl : 0 < ((ns.map V.int).length : Int) := by
            rw [List.length_map]
            have := List.length_pos_iff.mpr h2
            omega
          obtain ⟨v, hv⟩ := atI_in (ns := ns) (Int.emod_nonneg n (by omega)) (Int.emod_lt_of_pos n hl)
          exact iteT ⟨_, rfl, _, _, _, _, rfl, rfl, SqL.of (se _ _ hp1), rfl, _, rfl, _, rfl, _, _, _, _, rfl, rfl, SqL.of (se _ _ hp1), rfl, _, _, rfl, .inl (SqL.of (se _ _ hc1)), _, _, rfl, rfl, hl, _, _, _, _, rfl, rfl, SqL.of (se _ _ hc1), hv, v, rfl, se⟩
      · rintro _ H2 ⟨v, rfl, s2⟩
        have hp2 := s2 _ _ hp1
        have hc2 := s2 _ _ hc1
        -- if turn < len(pen[0]) and abs(cell) >= 10 ** 18
        refine ⟨fun σ' H' => σ' = [some (.ref p), some (.int m), none, some (.int n), some (.int v), none, none, none] ∧ H2 = H', ?_, ?_⟩
        · refine ⟨_, rfl, _, rfl, _, _, _, _, rfl, rfl, SqL.of hp2, rfl, _, _, rfl, .inl (SqL.of hc2), _, _, rfl, rfl, _, rfl, ite2 (fun h3 => ?_) (fun h3 => iteF ⟨rfl, rfl⟩)⟩
          refine ⟨_, rfl, _, rfl, _, _, rfl, rfl, ⟨by decide, by decide, by decide⟩, _, _, rfl, rfl, _, rfl, ite2 (fun h4 => ?_) (fun h4 => ⟨rfl, rfl⟩)⟩
          have hv : (10 : Int) ^ (18 : Int).toNat ≤ (if v < 0 then -v else v) := of_decide_eq_true h4
          have hv0 : 0 ≤ (if v < 0 then -v else v) - (10 : Int) ^ (18 : Int).toNat := by omega
          refine ⟨_, rfl, _, rfl, _, _, rfl, rfl, ⟨by decide, by decide, by decide⟩, _, _, rfl, rfl, _, rfl, _, _, rfl, rfl, ⟨hm0, hm1⟩, _, rfl, _, _, _, _, rfl, rfl, hp2, rfl, ?_⟩
          refine ⟨_, rfl, _, rfl, _, _, rfl, rfl, ⟨by decide, by decide, by decide⟩, _, _, rfl, rfl, _, rfl, _, _, rfl, rfl, hm0, ?_⟩
          exact q _ _ (n + 1) ((k1.trans (Same.kp s2)).trans (Kp.upd _)) ⟨_, upd_same, (upd_ne hne).trans hc2, by omega, Int.ediv_nonneg hv0 (by omega)⟩ (Int.emod_nonneg _ (by omega)) (Int.emod_lt_of_pos _ hm0) (by omega) (by omega)
        · rintro _ _ ⟨rfl, rfl⟩
          -- primes, prime
          obtain ⟨z, hz, hz0, hz1⟩ := prime_at (i := n % 5) (Int.emod_nonneg _ (by decide)) (Int.emod_lt_of_pos _ (by decide))
          obtain ⟨y, hy, hy0, hy1⟩ := prime_at (i := (n + 2) % 5) (Int.emod_nonneg _ (by decide)) (Int.emod_lt_of_pos _ (by decide))
          refine ⟨fun σ' H' => ∃ l, σ' = [some (.ref p), some (.int m), none, some (.int n), some (.int v), some (.ref l), none, none] ∧ Same H2 H' ∧ H' l = some (.lst [V.int 2147483647, V.int 2147483629, V.int 2147483587, V.int 2147483579, V.int 2147483563]),
            ⟨(show 5 ≤ sizeLine by decide), fun l hl => ⟨l, rfl, Same.new hl, upd_same⟩⟩, ?_⟩
          rintro _ H3 ⟨l, rfl, s3, hl3⟩
          refine ⟨_, rfl, _, rfl, _, _, rfl, rfl, (by show (0 : Int) < 5; decide), _, _, _, _, rfl, rfl, SqL.of hl3, hz, ?_⟩
          -- mixed
          refine ⟨fun σ' H' => ∃ x : Int, σ' = [some (.ref p), some (.int m), none, some (.int n), some (.int v), some (.ref l), some (.int z), some (.int x)] ∧ 0 ≤ x ∧ x < z ∧ H3 = H',
            ⟨_, rfl, _, rfl, _, _, rfl, rfl, (show (0 : Int) < z by omega), _, _, rfl, rfl, .inr ⟨by decide, by decide⟩, _, rfl, _, _, rfl, rfl, .inl ⟨by decide, by decide⟩, _, rfl, _, _, rfl, rfl, .inr ⟨by omega, by omega⟩, _, _, rfl, rfl, _, rfl, _, _, rfl, rfl, .inl ⟨by decide, by decide⟩, _, _, rfl, rfl, _, _, rfl, rfl, _, rfl, _, _, rfl, rfl, (show (0 : Int) < z by omega),
              _, rfl, Int.emod_nonneg _ (by omega), Int.emod_lt_of_pos _ (by omega), rfl⟩, ?_⟩
          rintro _ _ ⟨x, rfl, hx0, hx1, rfl⟩
          refine ⟨fun σ' H' => ∃ u : Int, σ' = [some (.ref p), some (.int m), none, some (.int n), some (.int v), some (.ref l), some (.int z), some (.int u)] ∧ 0 ≤ u ∧ u < y ∧ H3 = H',
            ⟨_, rfl, _, rfl, _, _, rfl, rfl, _, _, rfl, rfl, .inl ⟨by omega, by omega⟩, _, rfl, _, rfl, _, _, rfl, rfl, _, _, rfl, rfl, (by show (0 : Int) < 5; decide), _, _, _, _, rfl, rfl, SqL.of hl3, hy, _, _, rfl, rfl, (show (0 : Int) < y by omega),
              _, rfl, Int.emod_nonneg _ (by omega), Int.emod_lt_of_pos _ (by omega), rfl⟩, ?_⟩
          rintro _ _ ⟨u, rfl, hu0, hu1, rfl⟩
          refine ⟨_, rfl, _, rfl, _, _, rfl, rfl, .inl ⟨by omega, by omega⟩, _, _, rfl, rfl, (by show (0 : Int) < 2147483549; decide), _, _, rfl, rfl, ⟨by decide, by decide⟩, _, rfl, _, _, rfl, rfl, hm0, ?_⟩
          exact q _ _ (n + 1) (k1.trans (Same.kp (s2.trans s3))) ⟨_, s3 _ _ hp2, s3 _ _ hc2, by omega, hr0⟩ (Int.emod_nonneg _ (by omega)) (Int.emod_lt_of_pos _ hm0) (by omega) (by omega)
def sp_iNoText (K : PySem.W.Frag) : Sp := fun vs H Q _ => ∃ (a C : Addr) (v : V), vs = [.ref a, v] ∧ OexC K C ∧ PySem.W.findIn K (.ref C) "nth" = some none ∧ H a = some (exo a C none) ∧
  ∀ dx, H dx = none → dx ≠ a → Q .non (upd (upd H dx (exd dx [("nth", v)])) a (exo a C (some dx)))
theorem ok_iNoText (T : Txt K w mg f fd ob) : FnOk P w K mg base CX0 1 (f 0) (fd 0) ["self", "nth"] (sp_iNoText K) := by
  refine T.F_iNoText.ok sc_iNoText (fun vs H Q E h => ?_) (fun cdv A outer s H vs Q E hr h => ?_)
  · obtain ⟨a, C, v, rfl, _⟩ := h
    rfl
  · obtain ⟨a, C, v, rfl, hC, hn, ha, q⟩ := h
    refine ⟨_, (pss_one (ps_ost (pv 0) (pv 1))), ?_⟩
    exact ⟨_, rfl, _, rfl, a, C, rfl, hC, hn, .inl ⟨ha, fun dx h1 h2 => q dx h1 h2⟩⟩
theorem ok_iswhole (T : Txt K w mg f fd ob) : FnOk P w K mg base CX0 1 (f 14) (fd 14) ["thing"] sp_iswhole := by
  refine T.F_iswhole.ok sc_iswhole (fun vs H Q E h => ?_) (fun cdv A outer s H vs Q E hr h => ?_)
  · obtain ⟨x, rfl, _⟩ := h
    rfl
  · obtain ⟨x, rfl, q⟩ := h
    refine ⟨_, (pss_one (ps_ret (pe_and (pe_callB call_isi (by rfl) T.z_isinstance (by decide +kernel) (pa_cons (pv 0) (pa_cons (pe_bltn (v := .ty "int") (by rfl) T.z_int (by decide +kernel) rfl) pa_nil))) (pe_one (pe_not (pe_callB call_isi (by rfl) T.z_isinstance (by decide +kernel) (pa_cons (pv 0) (pa_cons (pe_bltn (v := .ty "bool") (by rfl) T.z_bool (by decide +kernel) rfl) pa_nil)))))))), ?_⟩
    cases x with
    | none => exact ⟨_, rfl, _, _, _, _, false, rfl, .ty _, .base .non, kit_ty (by decide +kernel), _, rfl, iteF q⟩
    | some i => exact ⟨_, rfl, _, _, _, _, true, rfl, .ty _, .base (.int _), kit_ty (by decide +kernel), _, rfl, iteT ⟨_, rfl, _, _, _, _, false, rfl, .ty _, .base (.int _), kit_ty (by decide +kernel), _, rfl, q⟩⟩
theorem ok_isbelow (T : Txt K w mg f fd ob) : FnOk P w K mg base CX0 2 (f 15) (fd 15) ["thing", "many"] sp_isbelow := by
  have G_iswhole := ok_iswhole (P := P) (base := base) T
  refine T.F_isbelow.ok sc_isbelow (fun vs H Q E h => ?_) (fun cdv A outer s H vs Q E hr h => ?_)
  · obtain ⟨x, m, rfl, _⟩ := h
    rfl
  · obtain ⟨x, m, rfl, q⟩ := h
    have hr_iswhole := hr
    refine ⟨_, (pss_one (ps_ret (pe_and (pe_call G_iswhole hr_iswhole (by rfl) T.m_iswhole T.F_iswhole.kp T.b_iswhole .nil pass0 (pa_cons (pv 0) pa_nil)) (pe_one (pe_chain op_le op_lt pe_int (pv 0) (pv 1)))))), ?_⟩
    refine ⟨_, rfl, x, rfl, _, rfl, ?_⟩
    cases x with
    | none => exact iteF q
    | some i =>
      refine iteT ⟨_, rfl, _, _, rfl, rfl, _, rfl, ite2 (fun h1 => ⟨_, rfl, _, _, rfl, rfl, ?_⟩) (fun h1 => ?_)⟩
      · have h1' : 0 ≤ i := of_decide_eq_true h1
        have e : blO m (some i) = decide (i < m) := by
          show decide (0 ≤ i ∧ i < m) = _
          by_cases h2 : i < m
          · rw [decide_eq_true h2, decide_eq_true ⟨h1', h2⟩]
          · rw [decide_eq_false h2, decide_eq_false (fun z => h2 z.2)]
        rw [e] at q
        exact q
      · have e : blO m (some i) = false := decide_eq_false (fun z => h1 (decide_eq_true z.1))
        rw [e] at q
        exact q
theorem ok_wholeof (T : Txt K w mg f fd ob) : FnOk P w K mg base CX0 1 (f 16) (fd 16) ["text"] sp_wholeof := by
  refine T.F_wholeof.ok sc_wholeof (fun vs H Q E h => ?_) (fun cdv A outer s H vs Q E hr h => ?_)
  · obtain ⟨z, rfl, _⟩ := h
    rfl
  · obtain ⟨z, rfl, hz, q⟩ := h
    refine ⟨_, (pss_cons (ps_if (pt_M (pt_not (PW.pt (pw_and (pt_val (pe_m0 PySem.F.slot_str_isascii PySem.F.type_str_isascii mt_isascii (pv 0))) (pw_and (pt_val (pe_m0 PySem.F.slot_str_isdigit PySem.F.type_str_isdigit mt_isdigit (pv 0))) (pw_and1 (pt_cmpR op_le (pe_callB call_len_str (by rfl) T.z_len PySem.boot_len (pa_cons (pv 0) pa_nil)) pe_int (nomark _)))))))) (pss_one (ps_ret pe_non)) pss_nil)
      (C8.pss_cut (ps_if (PW.pt (pw_and (pt_cmpR op_eq (pe_ix ix_str (pv 0) pe_int (fun _ _ => rfl)) pe_str (nomark _)) (pw_and1 (pt_cmpR op_ne (pv 0) pe_str (nomark _))))) (pss_one (ps_ret pe_non)) pss_nil)
      (pss_one (ps_ret (pe_callTy call_int_str (by rfl) T.z_int (by decide +kernel) (pa_cons (pv 0) pa_nil)))))), ?_⟩
    refine ⟨fun b H' => H = H' ∧ b = !digL (cp z), ?_, ?_⟩
    · refine ⟨_, rfl, ⟨_, rfl⟩, z, rfl, rfl, trivial, _, rfl, ?_⟩
      by_cases h1 : Txt.isascii z = true
      · refine iteB1 h1 ⟨_, rfl, ⟨_, rfl⟩, z, rfl, rfl, trivial, _, rfl, ?_⟩
        by_cases h2 : Txt.isdigit z = true
        · refine iteB1 h2 ⟨_, rfl, z, rfl, len_size hz, _, _, rfl, rfl, _, rfl, ?_⟩
          by_cases h3 : z.length ≤ 9
          · refine ⟨rfl, ?_⟩
            rw [dig_of h1 h2 h3, decide_eq_true (show ((z.length : Nat) : Int) ≤ 9 by omega)]
          · refine ⟨rfl, ?_⟩
            have e : digL (cp z) = false := by
              cases e : digL (cp z) with
              | false => rfl
              | true => exact absurd (dig_to e).2.2 h3
            rw [e, decide_eq_false (show ¬ ((z.length : Nat) : Int) ≤ 9 by omega)]
        · refine iteB0 (by simpa using h2) ⟨rfl, ?_⟩
          have e : digL (cp z) = false := by
            cases e : digL (cp z) with
            | false => rfl
            | true => exact absurd (dig_to e).2.1 h2
          rw [e]
      · refine iteB0 (by simpa using h1) ⟨rfl, ?_⟩
        have e : digL (cp z) = false := by
          cases e : digL (cp z) with
          | false => rfl
          | true => exact absurd (dig_to e).1 h1
        rw [e]
    · rintro b _ ⟨rfl, rfl⟩
      cases e : digL (cp z) with
      | false =>
        refine iteT ?_
        unfold wholeL at q
        rw [e] at q
        exact q
      | true =>
        refine iteF ?_
        obtain ⟨c, r, hc⟩ : ∃ c r, cp z = c :: r := by
          cases g : cp z with
          | nil =>
            rw [g] at e
            cases e
          | cons c r => exact ⟨c, r, rfl⟩
        have ha : atI z.cps.toList 0 = some c := atI_nat (j := 0) (by rw [show z.cps.toList = c :: r from hc]; rfl)
        have ezero : decide (V.str ⟨#[c]⟩ = V.str "0") = decide (c = 48) := by
          rw [str_eq, cp_zero]
          by_cases h : c = 48
          · subst h
            rfl
          · rw [decide_eq_false h, decide_eq_false (fun g => h (List.cons.inj g).1)]
        have e2 : decide (V.str z = V.str "0") = decide (cp z = [48]) := by
          rw [str_eq, cp_zero]
        refine ⟨fun σ' H' => σ' = [some (.str z)] ∧ H = H' ∧ ¬ ((cp z).head? = some 48 ∧ cp z ≠ [48]), ?_, ?_⟩
        · refine ⟨_, rfl, _, _, c, rfl, rfl, len_size hz, ha, rfl, _, rfl, ?_⟩
          by_cases h1 : c = 48
          · refine iteB1 (by rw [ezero]; exact decide_eq_true h1) ⟨_, rfl, rfl, _, rfl, ?_⟩
            by_cases h2 : cp z = [48]
            · refine iteB0 (by rw [e2, decide_eq_true h2]; rfl) ⟨rfl, rfl, fun g => g.2 h2⟩
            · refine iteB1 (by rw [e2, decide_eq_false h2]; rfl) ?_
              unfold wholeL at q
              rw [if_pos e, if_pos ⟨by rw [hc, h1]; rfl, h2⟩] at q
              exact q
          · refine iteB0 (by rw [ezero]; exact decide_eq_false h1) (iteF ⟨rfl, rfl, fun g => ?_⟩)
            rw [hc] at g
            exact h1 (Option.some.inj g.1)
        · rintro _ _ ⟨rfl, rfl, h3⟩
          unfold wholeL at q
          rw [if_pos e, if_neg h3] at q
          exact ⟨_, rfl, z, _, rfl, dig_int e, (by have := (dig_to e).2.2; omega), q⟩
theorem RL.len {H : Hp} : ∀ {as : List Addr} {rs : List (Int × Nat)}, RL H as rs → as.length = rs.length
  | [], [], _ => rfl
  | a :: as, p :: rs, h => by rw [List.length_cons, List.length_cons, RL.len h.2]
  | [], _ :: _, h => h.elim
  | _ :: _, [], h => h.elim
theorem RL.keep {H H' : Hp} : ∀ {as : List Addr} {rs : List (Int × Nat)}, RL H as rs → (∀ a ∈ as, ∀ o, H a = some o → H' a = some o) → RL H' as rs
  | [], [], _, _ => trivial
  | a :: as, p :: rs, h, k => ⟨k a List.mem_cons_self _ h.1, RL.keep h.2 fun b hb => k b (List.mem_cons_of_mem _ hb)⟩
  | [], _ :: _, h, _ => h.elim
  | _ :: _, [], h, _ => h.elim
theorem RL.app {H : Hp} : ∀ {as bs : List Addr} {rs qs : List (Int × Nat)}, RL H as rs → RL H bs qs → RL H (as ++ bs) (rs ++ qs)
  | [], _, [], _, _, h => h
  | a :: as, _, p :: rs, _, h, k => ⟨h.1, RL.app h.2 k⟩
  | [], _, _ :: _, _, h, _ => h.elim
  | _ :: _, _, [], _, h, _ => h.elim
theorem RL.split {H : Hp} : ∀ {as : List Addr} {rs : List (Int × Nat)} {p : Int × Nat}, RL H as (rs ++ [p]) → ∃ bs b, as = bs ++ [b] ∧ RL H bs rs ∧ H b = some (.lst [.int p.1, .int p.2])
  | [], [], _, h => h.elim
  | [], _ :: _, _, h => h.elim
  | a :: as, [], p, h => by
    have h2 : RL H as [] := h.2
    cases as with
    | nil => exact ⟨[], a, rfl, trivial, h.1⟩
    | cons _ _ => exact h2.elim
  | a :: as, q :: rs, p, h => by
    obtain ⟨bs, b, e, h1, h2⟩ := RL.split (as := as) (rs := rs) (p := p) h.2
    exact ⟨a :: bs, b, by rw [e]; rfl, ⟨h.1, h1⟩, h2⟩
theorem RL.there {H : Hp} : ∀ {as : List Addr} {rs : List (Int × Nat)}, RL H as rs → ∀ {c : Addr}, c ∈ as → ∃ o, H c = some o
  | [], _, _, _, hc => by cases hc
  | a :: as, p :: rs, h, c, hc => by
    rcases List.mem_cons.mp hc with rfl | hc
    · exact ⟨_, h.1⟩
    · exact RL.there h.2 hc
  | _ :: _, [], h, _, _ => h.elim
theorem alt_len : ∀ (rs : List (Int × Nat)) (b : Option Int), Alt b rs → rs.length ≤ (flatR rs).length
  | [], _, _ => Nat.le_refl _
  | (x, n) :: r, b, h => by
    have := alt_len r _ h.2.2
    have h2 := h.2.1
    show r.length + 1 ≤ (List.replicate n x ++ flatR r).length
    rw [List.length_append, List.length_replicate]
    omega
theorem Same.free {H H' : Hp} {q : Addr} (s : Same H H') (h : H' q = none) : H q = none := by
  cases e : H q with
  | none => rfl
  | some o =>
    rw [s q o e] at h
    cases h
theorem ok_stretches (T : Txt K w mg f fd ob) : FnOk P w K mg base CX0 1 (f 17) (fd 17) ["turns"] (sp_stretches K) := by
  refine T.F_stretches.ok sc_stretches (fun vs H Q E h => ?_) (fun cdv A outer s H vs Q E hr h => ?_)
  · obtain ⟨a, ts, rfl, _⟩ := h
    rfl
  · obtain ⟨a, ts, rfl, hS, hlen, q⟩ := h
    refine ⟨_, (pss_cons (ps_set (i := 1) sc_stretches.nd rfl (Or.inl rfl) (pe_lst pa_nil))
      (pss_cons (ps_for PassesOwn.never rfl (pi_list (pv 0)) (pg_name (i := 2) sc_stretches.nd rfl (Or.inl rfl)) (pss_one (ps_if (PW.pt (pw_and (pt_truth (pv 1) (by intro _; rfl)) (pw_and1 (pt_cmpR op_eq (pe_ix ix_list (pe_ix ix_list (pv 1) (pe_un un_neg pe_int) (fun _ _ => rfl)) pe_int (fun _ _ => rfl)) (pv 2) (nomark _))))) (pss_one (ps_augS (pe_ix ix_list (pv 1) (pe_un un_neg pe_int) (fun _ _ => rfl)) pe_int get_listN pe_int ip_add set_list)) (pss_one (ps_expr (pe_bm PySem.F.plainAttrs_list PySem.F.slot_list_append PySem.F.type_list_append mt_append (pv 1) (pa_cons (pe_lst (pa_cons (pv 2) (pa_cons pe_int pa_nil))) pa_nil)))))))
      (pss_one (ps_ret (pv 1))))), ?_⟩
    refine ⟨Nat.zero_le _, fun R hR => ?_⟩
    have hS1 : SqL K (upd H R (.lst [])) a (ts.map V.int) := (Same.new hR).seq hS
    refine ⟨_, rfl, a, rfl, ⟨_, hS1⟩, for_list (xs := ts.map V.int) (fun i σ' H' => ∃ (y : Option V) (as : List Addr), σ' = [some (.ref a), some (.ref R), y] ∧ Same H H' ∧ H' R = some (.lst (as.map V.ref)) ∧ as.Nodup ∧ (∀ b ∈ as, H b = none ∧ b ≠ R) ∧ RL H' as (runs (ts.take i)))
      ⟨none, [], rfl, Same.new hR, upd_same, .nil, (fun b hb => by cases hb), trivial⟩ (fun i σ' H' _ h => ?_) ?_ ?_⟩
    · obtain ⟨y, as, rfl, sm, _⟩ := h
      exact sm.seq hS
    · rintro i x _ H1 hx ⟨y, as, rfl, sm, hR1, nd, fr, rl⟩
      have hi : i < ts.length := by
        have := (List.getElem?_eq_some_iff.mp hx).1
        rwa [List.length_map] at this
      obtain rfl : x = .int ts[i] := by
        rw [List.getElem?_map, List.getElem?_eq_getElem hi] at hx
        exact (Option.some.inj hx).symm
      have eT : ts.take (i + 1) = ts.take i ++ [ts[i]] := by
        rw [List.take_succ, List.getElem?_eq_getElem hi]
        rfl
      have eR : runs (ts.take (i + 1)) = addT (runs (ts.take i)) ts[i] := by
        rw [eT, runs_snoc]
      have lenR : as.length ≤ 1000 := by
        have h1 := alt_len _ _ (alt_runs (ts.take i))
        rw [flat_runs, List.length_take] at h1
        rw [rl.len]
        omega
      cases hg : (runs (ts.take i)).getLast? with
      | none =>
        have e0 : runs (ts.take i) = [] := List.getLast?_eq_none_iff.mp hg
        rw [e0] at rl
        have ea : as = [] := by
          cases as with
          | nil => rfl
          | cons _ _ => exact rl.elim
        subst ea
        refine ⟨_, rfl, _, .inl ⟨_, SqL.of hR1, rfl⟩, iteF (iteF ?_)⟩
        refine ⟨_, rfl, .inl ⟨rfl, _, SqL.of hR1⟩, _, rfl, (show 2 ≤ sizeLine by decide), fun b hb => ?_⟩
        have hbR : b ≠ R := (ne_of_none hR1 hb).symm
        have hb0 : H b = none := sm.free hb
        refine ⟨R, _, _, rfl, rfl, (upd_ne hbR.symm).trans hR1, (by decide), some (.int ts[i]), [b], rfl, ?_, upd_same, by simp, ?_, ?_⟩
        · exact Same.mut (sm.trans (Same.new hb)) hR
        · intro c hc
          rw [List.mem_singleton.mp hc]
          exact ⟨hb0, hbR⟩
        · rw [eR, e0]
          exact ⟨(upd_ne hbR).trans upd_same, trivial⟩
      | some pr =>
        obtain ⟨x, n⟩ := pr
        obtain ⟨rs, ers⟩ : ∃ rs, runs (ts.take i) = rs ++ [(x, n)] := List.getLast?_eq_some_iff.mp hg
        rw [ers] at rl
        obtain ⟨bs, b, rfl, rlb, hb⟩ := rl.split
        have hlast : atI ((bs ++ [b]).map V.ref) (-1) = some (.ref b) := by
          rw [List.map_append]
          exact atI_last _ _
        have hbb := fr b (List.mem_append_right _ List.mem_cons_self)
        have eAdd : addT (runs (ts.take i)) ts[i] = if x = ts[i] then rs ++ [(x, n + 1)] else rs ++ [(x, n)] ++ [(ts[i], 1)] := by
          unfold addT
          rw [hg]
          dsimp only
          rw [ers, List.dropLast_concat]
        refine ⟨_, rfl, _, .inl ⟨_, SqL.of hR1, rfl⟩, ?_⟩
        refine iteB1 (by rw [List.map_append]; simp) ?_
        refine ⟨_, rfl, _, rfl, _, _, _, _, rfl, rfl, SqL.of hR1, hlast, _, _, _, _, rfl, rfl, SqL.of hb, rfl, _, rfl, rfl, _, rfl, ?_⟩
        by_cases e : x = ts[i]
        · refine iteB1 (decide_eq_true (by rw [e])) ?_
          refine ⟨_, rfl, _, rfl, _, _, _, _, rfl, rfl, SqL.of hR1, hlast, b, _, 1, _, rfl, rfl, SqL.of hb, rfl, _, _, rfl, rfl, b, _, 1, 1, rfl, rfl, hb, rfl, ?_⟩
          refine ⟨some (.int ts[i]), bs ++ [b], rfl, Same.mut sm hbb.1, (upd_ne hbb.2.symm).trans hR1, nd, fr, ?_⟩
          rw [eR, eAdd, if_pos e]
          refine RL.app (rlb.keep fun c hc o ho => ?_) ⟨upd_same, trivial⟩
          rw [upd_ne]
          · exact ho
          · intro z
            rw [z] at hc
            exact (List.nodup_append.mp nd).2.2 b hc b List.mem_cons_self rfl
        · refine iteB0 (decide_eq_false (fun z => e (V.int.inj z))) ?_
          refine ⟨_, rfl, .inl ⟨rfl, _, SqL.of hR1⟩, _, rfl, (show 2 ≤ sizeLine by decide), fun c hc => ?_⟩
          have hcR : c ≠ R := (ne_of_none hR1 hc).symm
          have hc0 : H c = none := sm.free hc
          have hcn : c ∉ bs ++ [b] := fun hm => by
            have hz : ∃ o, H1 c = some o := by
              rcases List.mem_append.mp hm with hm | hm
              · exact rlb.there hm
              · rw [List.mem_singleton.mp hm]
                exact ⟨_, hb⟩
            obtain ⟨o, hz⟩ := hz
            rw [hc] at hz
            cases hz
          refine ⟨R, _, _, rfl, rfl, (upd_ne hcR.symm).trans hR1, ?_, some (.int ts[i]), bs ++ [b] ++ [c], rfl, Same.mut (sm.trans (Same.new hc)) hR, ?_, ?_, ?_, ?_⟩
          · rw [List.length_map]
            exact Nat.lt_of_le_of_lt lenR (by decide)
          · rw [upd_same, List.map_append (l₂ := [c])]
            rfl
          · rw [List.nodup_append]
            refine ⟨nd, by simp, fun y hy z hz => ?_⟩
            rw [List.mem_singleton.mp hz]
            intro g
            rw [g] at hy
            exact hcn hy
          · intro y hy
            rcases List.mem_append.mp hy with hy | hy
            · exact fr y hy
            · rw [List.mem_singleton.mp hy]
              exact ⟨hc0, hcR⟩
          · rw [eR, eAdd, if_neg e]
            refine RL.app (RL.keep (RL.app rlb ⟨hb, trivial⟩) fun y hy o ho => ?_) ⟨(upd_ne hcR).trans upd_same, trivial⟩
            rw [upd_ne (fr y hy).2, upd_ne (ne_of_none ho hc)]
            exact ho
    · rintro _ H1 ⟨y, as, rfl, sm, hR1, nd, fr, rl⟩
      rw [List.length_map, List.take_length] at rl
      exact ⟨_, rfl, q _ R as sm hR1 rl⟩
theorem RL.at {H : Hp} : ∀ {as : List Addr} {rs : List (Int × Nat)}, RL H as rs → ∀ {i : Nat} {b : Addr}, as[i]? = some b → ∃ p, rs[i]? = some p ∧ H b = some (.lst [.int p.1, .int p.2])
  | [], _, _, i, b, e => by cases e
  | a :: as, p :: rs, h, 0, b, e => by
    have : a = b := Option.some.inj e
    subst this
    exact ⟨p, rfl, h.1⟩
  | a :: as, p :: rs, h, i + 1, b, e => RL.at (as := as) (rs := rs) h.2 e
  | _ :: _, [], h, _, _, _ => h.elim
theorem sum_words : ∀ rs : List (Int × Nat), (∀ p ∈ rs, p.2 ≤ 1000) → ((rs.map wordS).map (fun x => x.length)).sum ≤ 6 * rs.length
  | [], _ => Nat.zero_le _
  | p :: r, h => by
    have ih := sum_words r fun q hq => h q (List.mem_cons_of_mem _ hq)
    have hp := h p List.mem_cons_self
    have ln : (TL.numL p.2).length ≤ 4 := TL.numL_len (by decide) (by omega)
    have l : (wordS p).length ≤ 6 := by
      rw [cp_len, cp_wordS]
      unfold wordL
      rw [List.length_cons]
      split
      · simp
      · rw [List.length_cons]
        omega
    show (wordS p).length + ((r.map wordS).map (fun x => x.length)).sum ≤ 6 * (r.length + 1)
    omega
theorem Same.mut' {q : Addr} {H H' : Hp} {o : HO} (k : Same H H') (h : H q = none) : Same H (L2.upd H' q o) := Same.mut k h
theorem cp_app (a b : Str) : cp (a ++ b) = cp a ++ cp b := TL.tl_append a b
theorem cp_star : cp ("*" : Str) = [42] := by decide +kernel
theorem fmt_word {x : Int} {n : Nat} (h0 : 0 ≤ x) (h1 : x ≤ 3) (hn : 1 ≤ n) (hm : n ≤ 1000) :
    (Str.empty ++ Str.ofString (toString x)).length ≤ sizeLine ∧ ((Str.empty ++ Str.ofString (toString x)) ++ "*").length ≤ sizeLine ∧ (((Str.empty ++ Str.ofString (toString x)) ++ "*") ++ Str.ofString (toString (n : Int))).length ≤ sizeLine ∧
    (n = 1 → Str.ofString (toString x) = wordS (x, n)) ∧ (n ≠ 1 → (((Str.empty ++ Str.ofString (toString x)) ++ "*") ++ Str.ofString (toString (n : Int))) = wordS (x, n)) := by
  obtain ⟨k, rfl⟩ := Int.eq_ofNat_of_zero_le h0
  have ek : cp (Str.ofString (toString ((k : Nat) : Int))) = [48 + k] := by
    rw [cp_nat, TL.numL_lt (by omega)]
  have ee : cp Str.empty = [] := rfl
  have ln : (TL.numL n).length ≤ 4 := TL.numL_len (by decide) (by omega)
  refine ⟨?_, ?_, ?_, fun e => ?_, fun e => ?_⟩
  · rw [cp_len, cp_app, ee, ek]
    exact len_size (by simp)
  · rw [cp_len, cp_app, cp_app, ee, ek, cp_star]
    exact len_size (by simp)
  · rw [cp_len, cp_app, cp_app, cp_app, ee, ek, cp_star, cp_nat]
    refine len_size ?_
    simp
    omega
  · apply cp_ext
    rw [ek, cp_wordS]
    unfold wordL
    dsimp only
    rw [if_pos e]
    rfl
  · apply cp_ext
    rw [cp_app, cp_app, cp_app, ee, ek, cp_star, cp_nat, cp_wordS]
    unfold wordL
    dsimp only
    rw [if_neg e]
    rfl
theorem ok_packed (T : Txt K w mg f fd ob) : FnOk P w K mg base CX0 2 (f 18) (fd 18) ["turns"] (sp_packed K) := by
  have G_stretches := ok_stretches (P := P) (base := base) T
  obtain ⟨tkN, h_NONE⟩ := T.c_NONE
  refine T.F_packed.ok sc_packed (fun vs H Q E h => ?_) (fun cdv A outer s H vs Q E hr h => ?_)
  · obtain ⟨a, ts, rfl, _⟩ := h
    rfl
  · obtain ⟨a, ts, rfl, hS, hlen, hx, q⟩ := h
    have hr_stretches := hr
    refine ⟨_, (pss_cons (ps_if (pt_cmpR op_eq (pe_callB call_len_seq (by rfl) T.z_len PySem.boot_len (pa_cons (pv 0) pa_nil)) pe_int (nomark _)) (pss_one (ps_ret (pe_glob (v := .str "-") (by rfl) h_NONE ⟨_, rfl⟩))) pss_nil)
      (pss_cons (ps_setLc (i := 1) (own := [("thread", 2), ("many", 3)]) (g := (gLst K 2 (gCons (gName 2) (gCons (gName 3) gNil)))) (tt := tYes) (te := (tIf (tTest (tOp rEq (tVar 3) (tC (.int 1)))) (tFmt (tVar 2)) (fun σ H Q => tJs [(tFmt (tVar 2)), (tC (.str "*")), (tFmt (tVar 3))] Str.empty σ H fun out H1 => Q (.str out) H1))) (by rfl) sc_packed.nd rfl rfl (sw_true rfl rfl rfl (by decide +kernel)) (pi_list (pe_call G_stretches hr_stretches (by rfl) T.m_stretches T.F_stretches.kp T.b_stretches .nil pass0 (pa_cons (pv 0) pa_nil))) (blkOk_by (own := [("thread", 2), ("many", 3)]) (N := N_packed) (sc := defScope s_packed) (by decide +kernel)) (fun _ _ _ _ _ => (pg_lst (by rfl) (pgs_cons (pg_name (i := 2) sc_packed.nd rfl (Or.inl rfl)) (pgs_cons (pg_name (i := 3) sc_packed.nd rfl (Or.inl rfl)) pgs_nil)))) (fun _ _ _ _ _ => pts_nil) (fun _ _ _ _ _ => (pe_ifExp (pt_cmpR op_eq (pv 3) pe_int (nomark _)) (pe_joined1 (pe_fmt (pv 2))) (pe_joined (.cons (pe_fmt (pv 2)) (.cons pe_str (.cons (pe_fmt (pv 3)) .nil)))))))
      (pss_one (ps_ret (pe_join pe_str (pv 1)))))), ?_⟩
    refine ⟨_, rfl, _, _, rfl, .inl hS, rfl, _, rfl, ?_⟩
    by_cases e0 : ts = []
    · subst e0
      refine iteB1 (by decide) ?_
      exact q _ (fun _ _ z => z)
    · refine iteB0 (decide_eq_false fun z => ?_) ?_
      · have := V.int.inj z
        rw [List.length_map] at this
        exact e0 (List.length_eq_zero_iff.mp (by omega))
      refine ⟨_, rfl, a, ts, rfl, hS, hlen, fun H1 R as s1 hR rl => ?_⟩
      refine ⟨R, rfl, ⟨_, SqL.of hR⟩, fun D hD => lc_list (xs := as.map V.ref) (fun i H' => Same H1 H' ∧ H' D = some (.lst (((runs ts).take i).map fun p => V.str (wordS p)))) ⟨Same.new hD, upd_same⟩ (fun i H' _ h => h.1.seq (SqL.of hR)) ?_ ?_⟩
      · rintro i x H2 hx' ⟨sm, hDl⟩
        obtain ⟨b, hb, rfl⟩ : ∃ b, as[i]? = some b ∧ x = .ref b := by
          rw [List.getElem?_map] at hx'
          cases e : as[i]? with
          | none =>
            rw [e] at hx'
            cases hx'
          | some b =>
            rw [e] at hx'
            exact ⟨b, rfl, (Option.some.inj hx').symm⟩
        obtain ⟨⟨x, n⟩, hp, hbo⟩ := rl.at hb
        have hm := List.mem_of_getElem? hp
        have hx0 := runs_in (P := fun x => 0 ≤ x ∧ x ≤ 3) hx _ hm
        have hn0 := alt_pos _ _ (alt_runs ts) _ hm
        rw [flat_runs] at hn0
        dsimp only at hx0 hn0
        obtain ⟨l1, l2, l3, e1, e2⟩ := fmt_word hx0.1 hx0.2 hn0.1 (show n ≤ 1000 by omega)
        have eS : ((runs ts).take (i + 1)).map (fun p => V.str (wordS p)) = ((runs ts).take i).map (fun p => V.str (wordS p)) ++ [V.str (wordS (x, n))] := by
          rw [List.take_succ, hp, List.map_append]
          rfl
        have hlen2 : (((runs ts).take i).map fun p => V.str (wordS p)).length < sizeLine := by
          rw [List.length_map, List.length_take]
          have h1 := alt_len _ _ (alt_runs ts)
          rw [flat_runs] at h1
          exact Nat.lt_of_le_of_lt (show _ ≤ 1000 by omega) (by decide)
        refine ⟨b, _, rfl, SqL.of (sm _ _ hbo), rfl, _, _, rfl, _, _, rfl, rfl, rfl, ?_⟩
        refine ⟨_, rfl, rfl, _, rfl, ?_⟩
        by_cases e : n = 1
        · refine iteB1 (decide_eq_true (by rw [e]; rfl)) ⟨_, rfl, .inr ⟨x, rfl, few (by omega), _, hDl, hlen2, Same.mut sm hD, ?_⟩⟩
          rw [upd_same, eS, e1 e]
        · refine iteB0 (decide_eq_false fun z => e (by have := V.int.inj z; omega)) ⟨_, rfl, .inr ⟨x, rfl, few (by omega), _, rfl, l1, _, rfl, l2, _, rfl, .inr ⟨(n : Int), rfl, few (by omega), _, rfl, l3, _, hDl, hlen2, Same.mut sm hD, ?_⟩⟩⟩
          rw [upd_same, eS, e2 e]
      · rintro H2 ⟨sm, hDl⟩
        rw [List.length_map, rl.len, List.take_length] at hDl
        refine ⟨⟨_, rfl⟩, _, rfl, _, D, (runs ts).map wordS, rfl, rfl, .inl (SqL.of (by rw [hDl, List.map_map]; rfl)), ?_, ?_⟩
        · have h1 := sum_words (runs ts) fun p hp => by
            have := alt_pos _ _ (alt_runs ts) p hp
            rw [flat_runs] at this
            omega
          have h2 := alt_len _ _ (alt_runs ts)
          rw [flat_runs] at h2
          have h3 : (" " : Str).length = 1 := by decide +kernel
          rw [h3, List.length_map]
          omega
        · have := q _ (s1.trans sm)
          unfold pkS at this
          rw [if_neg e0] at this
          exact this
theorem flat_rep1 (v : V) : ∀ j : Nat, (List.replicate j [v]).flatten = List.replicate j v
  | 0 => rfl
  | j + 1 => by
    rw [List.replicate_succ, List.flatten_cons, flat_rep1 v j, List.replicate_succ]
    rfl
theorem part_of (z : Str) : cp (Txt.partition z "*").1 = (parL (cp z)).1 ∧ (match (parL (cp z)).2 with | some b => (Txt.partition z "*").2.1 = "*" ∧ cp (Txt.partition z "*").2.2 = b | none => (Txt.partition z "*").2.1 = Str.empty) ∧
    (Txt.partition z "*").1.length ≤ z.length ∧ (Txt.partition z "*").2.2.length ≤ z.length := by
  have e := TL.partition_par z "*" (by rw [show TL.tl ("*" : Str) = [42] from cp_star]; simp)
  rw [show TL.tl ("*" : Str) = [42] from cp_star] at e
  have key : ∀ (l acc a b : List Nat), TL.par [42] acc l = some (a, b) → a.length + b.length ≤ acc.length + l.length := by
    intro l
    induction l with
    | nil =>
      intro acc a b h
      cases h
    | cons c r ih =>
      intro acc a b h
      cases hp : TL.pre [42] (c :: r) with
      | true =>
        rw [TL.par_hit hp] at h
        cases h
        rw [List.length_drop]
        omega
      | false =>
        rw [TL.par_miss hp] at h
        have := ih _ _ _ h
        rw [List.length_append, List.length_singleton] at this
        rw [List.length_cons]
        omega
  unfold parL
  cases h : TL.par [42] [] (cp z) with
  | none =>
    rw [show TL.par [42] [] (TL.tl z) = none from h] at e
    rw [e]
    exact ⟨rfl, rfl, Nat.le_refl _, Nat.zero_le _⟩
  | some ab =>
    obtain ⟨a, b⟩ := ab
    rw [show TL.par [42] [] (TL.tl z) = some (a, b) from h] at e
    rw [e]
    have hl := key _ _ _ _ h
    rw [List.length_nil] at hl
    refine ⟨rfl, ⟨rfl, rfl⟩, ?_, ?_⟩
    · rw [cp_len, cp_len]
      show a.length ≤ _
      omega
    · rw [cp_len, cp_len]
      show b.length ≤ _
      omega
theorem ok_turnsof (T : Txt K w mg f fd ob) : FnOk P w K mg base CX0 3 (f 19) (fd 19) ["word"] sp_turnsof := by
  have G_wholeof := ok_wholeof (P := P) (base := base) T
  have G_isbelow := ok_isbelow (P := P) (base := base) T
  obtain ⟨tk1, h_MOST⟩ := T.c_MOST
  obtain ⟨tk2, h_MOST_THREADS⟩ := T.c_MOST_THREADS
  refine T.F_turnsof.ok sc_turnsof (fun vs H Q E h => ?_) (fun cdv A outer s H vs Q E hr h => ?_)
  · obtain ⟨z, rfl, _⟩ := h
    rfl
  · obtain ⟨z, rfl, hz, q⟩ := h
    have hr_isbelow := hr
    have hr_wholeof : Room 1 _ := hr.mono (by decide)
    refine ⟨_, (pss_cons (ps_asg (pe_partition (pv 0) pe_str) (pg_tup (by rfl) (pgs_cons (pg_name (i := 1) sc_turnsof.nd rfl (Or.inl rfl)) (pgs_cons (pg_name (i := 2) sc_turnsof.nd rfl (Or.inl rfl)) (pgs_cons (pg_name (i := 3) sc_turnsof.nd rfl (Or.inl rfl)) pgs_nil)))))
      (pss_cons (ps_set (i := 4) sc_turnsof.nd rfl (Or.inl rfl) (pe_call G_wholeof hr_wholeof (by rfl) T.m_wholeof T.F_wholeof.kp T.b_wholeof .nil pass0 (pa_cons (pv 1) pa_nil)))
      (C8.pss_cut (ps_set (i := 5) sc_turnsof.nd rfl (Or.inl rfl) (pe_ifExp (pt_truth (pv 2) (by intro _; rfl)) (pe_call G_wholeof hr_wholeof (by rfl) T.m_wholeof T.F_wholeof.kp T.b_wholeof .nil pass0 (pa_cons (pv 3) pa_nil)) pe_int))
      (pss_cons (ps_if (PW.pt (pw_or (pt_not (pt_val (pe_call G_isbelow hr_isbelow (by rfl) T.m_isbelow T.F_isbelow.kp T.b_isbelow .nil pass0 (pa_cons (pv 4) (pa_cons (pe_glob (v := .int 4) (by rfl) h_MOST_THREADS ⟨_, rfl⟩) pa_nil))))) (pw_or1 (pt_not (pt_val (pe_call G_isbelow hr_isbelow (by rfl) T.m_isbelow T.F_isbelow.kp T.b_isbelow .nil pass0 (pa_cons (pv 5) (pa_cons (pe_op op_add (pe_glob (v := .int 400) (by rfl) h_MOST ⟨_, rfl⟩) pe_int) pa_nil)))))))) (pss_one (ps_ret (pe_lst pa_nil))) pss_nil)
      (pss_one (ps_ret (pe_op op_rep (pe_lst (pa_cons (pv 4) pa_nil)) (pv 5)))))))), ?_⟩
    obtain ⟨f1, f2, f3, f4⟩ := part_of z
    refine ⟨_, rfl, ⟨_, rfl⟩, z, _, rfl, rfl, (by decide +kernel), len_size hz, fun p hp => ?_⟩
    have s1 : Same H (upd H p (.tup [V.str (Txt.partition z "*").1, V.str (Txt.partition z "*").2.1, V.str (Txt.partition z "*").2.2])) := Same.new hp
    generalize hH1 : (upd H p (.tup [V.str (Txt.partition z "*").1, V.str (Txt.partition z "*").2.1, V.str (Txt.partition z "*").2.2])) = H1 at s1
    have ht : SqT K H1 p [V.str (Txt.partition z "*").1, V.str (Txt.partition z "*").2.1, V.str (Txt.partition z "*").2.2] := SqT.of (by rw [← hH1, upd_same])
    refine ⟨p, _, rfl, ht, rfl, _, _, rfl, _, _, rfl, _, _, rfl, rfl, ?_⟩
    refine ⟨_, rfl, _, rfl, Nat.le_trans f3 hz, ?_⟩
    rw [f1]
    refine ⟨fun σ' H' => σ' = [some (.str z), some (.str (Txt.partition z "*").1), some (.str (Txt.partition z "*").2.1), some (.str (Txt.partition z "*").2.2), some (ov (wholeL (parL (cp z)).1)), some (ov (tmL (cp z)))] ∧ H1 = H', ?_, ?_⟩
    · unfold tmL
      cases e : (parL (cp z)).2 with
      | none =>
        rw [e] at f2
        have es : (Txt.partition z "*").2.1 = Str.empty := f2
        refine ⟨_, rfl, false, ⟨?_, ?_⟩, iteF ⟨rfl, rfl⟩⟩
        · rw [es]
          exact Nat.zero_le _
        · rw [es]
          rfl
      | some b =>
        rw [e] at f2
        obtain ⟨es, eb⟩ : (Txt.partition z "*").2.1 = "*" ∧ cp (Txt.partition z "*").2.2 = b := f2
        refine ⟨_, rfl, true, ⟨?_, ?_⟩, iteT ⟨_, rfl, _, rfl, Nat.le_trans f4 hz, ?_⟩⟩
        · rw [es]
          decide +kernel
        · rw [es]
          decide +kernel
        · rw [eb]
          exact ⟨rfl, rfl⟩
    · rintro _ _ ⟨rfl, rfl⟩
      refine ⟨_, rfl, _, _, rfl, _, rfl, ?_⟩
      cases ex : wholeL (parL (cp z)).1 with
      | none =>
        have eo : tOf (cp z) = [] := by
          unfold tOf
          rw [ex]
        refine iteT ⟨Nat.zero_le _, fun l hl => q _ l (s1.trans (Same.new hl)) (s1.free hl) ?_⟩
        rw [upd_same, eo]
        rfl
      | some x =>
        by_cases hx : 0 ≤ x ∧ x < 4
        · refine iteB0 (by rw [show blO 4 (some x) = true from decide_eq_true hx]; rfl) ?_
          refine ⟨_, rfl, _, _, rfl, rfl, _, _, rfl, _, rfl, ?_⟩
          cases en : tmL (cp z) with
          | none =>
            have eo : tOf (cp z) = [] := by
              unfold tOf
              rw [ex, en]
            refine iteT ⟨Nat.zero_le _, fun l hl => q _ l (s1.trans (Same.new hl)) (s1.free hl) ?_⟩
            rw [upd_same, eo]
            rfl
          | some n =>
            by_cases hn : 0 ≤ n ∧ n < 401
            · have eo : tOf (cp z) = List.replicate n.toNat x := by
                unfold tOf
                rw [ex, en]
                dsimp only
                rw [if_pos ⟨hx.1, hx.2, hn.1, hn.2⟩]
              refine iteB0 (by rw [show blO (400 + 1) (some n) = true from decide_eq_true hn]; rfl) ?_
              refine ⟨_, rfl, (show 1 ≤ sizeLine by decide), fun c hc => ⟨_, rfl, _, _, _, rfl, rfl, upd_same, by omega, by omega, ?_, fun l hl => ?_⟩⟩
              · show 1 * n.toNat ≤ sizeLine
                exact len_size (by omega)
              · have sc : Same H1 (upd H1 c (.lst [ov (some x)])) := Same.new hc
                refine q _ l (s1.trans (sc.trans (Same.new hl))) (s1.free (sc.free hl)) ?_
                rw [upd_same, eo, List.map_replicate]
                refine congrArg some (congrArg HO.lst ?_)
                exact flat_rep1 _ _
            · have eo : tOf (cp z) = [] := by
                unfold tOf
                rw [ex, en]
                dsimp only
                rw [if_neg (fun g => hn ⟨g.2.2.1, g.2.2.2⟩)]
              refine iteB1 (by rw [show blO (400 + 1) (some n) = false from decide_eq_false hn]; rfl) ⟨Nat.zero_le _, fun l hl => q _ l (s1.trans (Same.new hl)) (s1.free hl) ?_⟩
              rw [upd_same, eo]
              rfl
        · have eo : tOf (cp z) = [] := by
            unfold tOf
            rw [ex]
            cases tmL (cp z) with
            | none => rfl
            | some n =>
              dsimp only
              rw [if_neg (fun g => hx ⟨g.1, g.2.1⟩)]
          refine iteB1 (by rw [show blO 4 (some x) = false from decide_eq_false hx]; rfl) ⟨Nat.zero_le _, fun l hl => q _ l (s1.trans (Same.new hl)) (s1.free hl) ?_⟩
          rw [upd_same, eo]
          rfl
theorem tOf_len (l : List Nat) : (tOf l).length ≤ 400 := by
  unfold tOf
  split
  · split
    · rw [List.length_replicate]
      omega
    · exact Nat.zero_le _
  · exact Nat.zero_le _
theorem split_len (z : Str) : (Txt.split z " ").length ≤ z.length + 1 ∧ ∀ w ∈ Txt.split z " ", w.length ≤ z.length := by
  have h := TL.split_spl z " " (by rw [show TL.tl (" " : Str) = [32] from cp_blank]; simp) (TL.kind_ok (by decide +kernel))
  rw [show TL.tl (" " : Str) = [32] from cp_blank] at h
  have key : ∀ (l acc : List Nat), (TL.spl [32] 0 acc l).length ≤ l.length + 1 ∧ ∀ w ∈ TL.spl [32] 0 acc l, w.length ≤ acc.length + l.length := by
    intro l
    induction l with
    | nil =>
      intro acc
      rw [TL.spl_nil]
      refine ⟨Nat.le_refl _, fun w hw => ?_⟩
      rw [List.mem_singleton] at hw
      rw [hw]
      exact Nat.le_refl _
    | cons c r ih =>
      intro acc
      by_cases hc : TL.pre [32] (c :: r) = true
      · rw [TL.spl_hit hc]
        obtain ⟨h1, h2⟩ := ih []
        refine ⟨by rw [List.length_cons, List.length_cons]; exact Nat.succ_le_succ h1, fun w hw => ?_⟩
        rcases List.mem_cons.mp hw with rfl | hw
        · omega
        · have := h2 w hw
          rw [List.length_nil] at this
          rw [List.length_cons]
          omega
      · rw [TL.spl_miss (by simpa using hc)]
        obtain ⟨h1, h2⟩ := ih (acc ++ [c])
        refine ⟨by rw [List.length_cons]; omega, fun w hw => ?_⟩
        have := h2 w hw
        rw [List.length_append, List.length_singleton] at this
        rw [List.length_cons]
        omega
  obtain ⟨h1, h2⟩ := key (cp z) []
  have e1 : (Txt.split z " ").length = (TL.spl [32] 0 [] (cp z)).length := by
    rw [← h, List.length_map]
  refine ⟨by rw [e1, cp_len]; exact h1, fun w hw => ?_⟩
  have hm : TL.tl w ∈ TL.spl [32] 0 [] (cp z) := by
    rw [← h]
    exact List.mem_map_of_mem hw
  have := h2 _ hm
  rw [List.length_nil] at this
  rw [cp_len, cp_len]
  show (TL.tl w).length ≤ _
  omega
theorem ok_unpacked (T : Txt K w mg f fd ob) : FnOk P w K mg base (L2.CX P w) 4 (f 20) (fd 20) ["text"] (sp_unpacked (ob 0)) := by
  have G_turnsof := ok_turnsof (P := P) (base := base) T
  have G_packed := ok_packed (P := P) (base := base) T
  have G_iNoText := ok_iNoText (P := P) (base := base) T
  obtain ⟨tk1, h_MOST⟩ := T.c_MOST
  obtain ⟨tkN, h_NONE⟩ := T.c_NONE
  refine T.F_unpacked.okX sc_unpacked (fun vs H Q E h => ?_) (fun cdv A outer s H vs Q E hr h => ?_)
  · obtain ⟨z, rfl, _⟩ := h
    rfl
  · obtain ⟨z, rfl, hz, q1, q2⟩ := h
    have hr_turnsof := hr
    have hr_packed : Room 2 _ := hr.mono (by decide)
    have hr_iNoText : Room 2 _ := hr.mono (by decide)
    refine ⟨_, (pss_cons (ps_set (i := 1) sc_unpacked.nd rfl (Or.inl rfl) (pe_lst pa_nil))
      (C8.pss_cut (ps_for (passes_of rfl) rfl (pi_list (pe_M (pe_ifExp (pt_cmpR op_eq (pv 0) (pe_glob (v := .str "-") (by rfl) h_NONE ⟨_, rfl⟩) (nomark _)) (pe_lst pa_nil) (pe_split (pv 0) pe_str)))) (pg_name (i := 2) sc_unpacked.nd rfl (Or.inl rfl)) (pss_cons (ps_expr (pe_bm PySem.F.plainAttrs_list PySem.F.slot_list_extend PySem.F.type_list_extend mt_extend (pv 1) (pa_cons (pe_call G_turnsof hr_turnsof (by rfl) T.m_turnsof T.F_turnsof.kp T.b_turnsof .nil pass0 (pa_cons (pv 2) pa_nil)) pa_nil)))
      (pss_one (ps_if (pt_cmpR op_gt (pe_callB call_len_seq (by rfl) T.z_len PySem.boot_len (pa_cons (pv 1) pa_nil)) (pe_glob (v := .int 400) (by rfl) h_MOST ⟨_, rfl⟩) (nomark _)) (pss_one (ps_raise rfl (takes_of rfl rfl rfl rfl) (pmk_oex T.X_NoText T.XI_NoText T.XT_NoText G_iNoText hr_iNoText T.b_iNoText .nil pass0 (by rfl) T.m_NoText (pa_cons pe_int pa_nil)))) pss_nil))))
      (pss_cons (ps_if (pt_cmpR op_ne (pe_call G_packed hr_packed (by rfl) T.m_packed T.F_packed.kp T.b_packed .nil pass0 (pa_cons (pv 1) pa_nil)) (pv 0) (nomark _)) (pss_one (ps_raise rfl (takes_of rfl rfl rfl rfl) (pmk_oex T.X_NoText T.XI_NoText T.XT_NoText G_iNoText hr_iNoText T.b_iNoText .nil pass0 (by rfl) T.m_NoText (pa_cons pe_int pa_nil)))) pss_nil)
      (pss_one (ps_ret (pv 1)))))), ?_⟩
    -- what is raised
    have refuse : uOk z = false → ∀ (σ' : L2.St) (H1 : Hp), Same H H1 → tMkO (ob 0) (sp_iNoText K) [] (tCons (tC (V.int 0)) tNil) σ' H1 fun cls d H' => E cls d H' := by
      intro hu σ' H1 s1
      refine ⟨(show 1 ≤ 1000 by decide), fun a ha => ⟨a, ob 0, _, rfl, T.X_NoText, T.XN_NoText_nth, upd_same, fun dx hdx hne => ⟨rfl, dx, _, upd_same, ?_, ?_, q2 hu _ dx ?_ upd_same⟩⟩⟩
      · rw [upd_ne hne, upd_same]
      · rw [upd_ne hne] at hdx
        exact hdx
      · intro b o hb
        have hb1 := s1 b o hb
        have hba : b ≠ a := ne_of_none hb1 ha
        have hbd : b ≠ dx := by
          rw [upd_ne hne] at hdx
          exact ne_of_none hb1 hdx
        rw [upd_ne hbd, del_ne hba, upd_ne hba, upd_ne hbd, upd_ne hba]
        exact hb1
    refine ⟨Nat.zero_le _, fun l hl => ?_⟩
    refine ⟨fun σ' H' => ∃ y : Option V, σ' = [some (.str z), some (.ref l), y] ∧ Same H H' ∧ H' l = some (.lst ((tsOf z).map V.int)) ∧ (tsOf z).length ≤ 400, ?_, ?_⟩
    · obtain ⟨hw1, hw2⟩ : (wsOf z).length ≤ 50000 ∧ ∀ w ∈ wsOf z, w.length ≤ 100000 := by
        unfold wsOf
        split
        · exact ⟨Nat.zero_le _, fun w hw => by cases hw⟩
        · have := split_len z
          exact ⟨by omega, fun w hw => by have := this.2 w hw; omega⟩
      have sl : Same H (upd H l (.lst [])) := Same.new hl
      refine ⟨fun v H' => ∃ b, v = .ref b ∧ Same H H' ∧ H' l = some (.lst []) ∧ b ≠ l ∧ H' b = some (.lst ((wsOf z).map V.str)), ?_, ?_⟩
      · refine ⟨_, rfl, rfl, _, rfl, ?_⟩
        unfold wsOf
        by_cases e : z = "-"
        · refine iteB1 (decide_eq_true (by rw [e])) ⟨Nat.zero_le _, fun b hb => ?_⟩
          have nb : b ≠ l := (ne_of_none upd_same hb).symm
          refine ⟨b, rfl, sl.trans (Same.new hb), (upd_ne nb.symm).trans upd_same, nb, ?_⟩
          rw [upd_same, if_pos e]
          rfl
        · refine iteB0 (decide_eq_false fun g => e (V.str.inj g)) ⟨_, rfl, ⟨_, rfl⟩, z, _, rfl, rfl, (by decide +kernel), len_size (by omega), fun b hb => ?_⟩
          have nb : b ≠ l := (ne_of_none upd_same hb).symm
          refine ⟨b, rfl, sl.trans (Same.new hb), (upd_ne nb.symm).trans upd_same, nb, ?_⟩
          rw [upd_same, if_neg e]
      · rintro _ H1 ⟨b, rfl, s1, hl1, nb, hb⟩
        refine ⟨b, rfl, ⟨_, SqL.of hb⟩, for_list (xs := (wsOf z).map V.str) (fun i σ' H' => ∃ y : Option V, σ' = [some (.str z), some (.ref l), y] ∧ Same H H' ∧ H' b = some (.lst ((wsOf z).map V.str)) ∧ H' l = some (.lst ((((wsOf z).take i).flatMap fun w => tOf (cp w)).map V.int)) ∧ (((wsOf z).take i).flatMap fun w => tOf (cp w)).length ≤ 400)
          ⟨none, rfl, s1, hb, hl1, Nat.zero_le _⟩ (fun i σ' H' _ h => ?_) ?_ ?_⟩
        · obtain ⟨y, _, _, h3, _⟩ := h
          exact SqL.of h3
        · rintro i x _ H2 hx ⟨y, rfl, s2, hb2, hl2, hlen⟩
          obtain ⟨u, hu, rfl⟩ : ∃ u, (wsOf z)[i]? = some u ∧ x = .str u := by
            rw [List.getElem?_map] at hx
            cases e : (wsOf z)[i]? with
            | none =>
              rw [e] at hx
              cases hx
            | some u =>
              rw [e] at hx
              exact ⟨u, rfl, (Option.some.inj hx).symm⟩
          have eT : ((wsOf z).take (i + 1)).flatMap (fun w => tOf (cp w)) = ((wsOf z).take i).flatMap (fun w => tOf (cp w)) ++ tOf (cp u) := by
            rw [List.take_succ, hu, List.flatMap_append]
            simp
          have lt := tOf_len (cp u)
          refine ⟨_, rfl, .inl ⟨rfl, _, SqL.of hl2⟩, _, rfl, u, rfl, hw2 u (List.mem_of_getElem? hu), fun H3 c s3 hc h3 => ?_⟩
          have hl3 := s3 _ _ hl2
          have ncl : c ≠ l := (ne_of_none hl2 hc).symm
          refine ⟨l, c, _, _, rfl, rfl, hl3, h3, ?_, ?_⟩
          · rw [List.length_map, List.length_map]
            exact len_size (by omega)
          refine ⟨_, rfl, l, _, rfl, .inl (SqL.of upd_same), _, _, rfl, rfl, _, rfl, ?_⟩
          have s4 : Same H (upd H3 l (.lst ((((wsOf z).take i).flatMap fun w => tOf (cp w)).map V.int ++ (tOf (cp u)).map V.int))) := Same.mut (s2.trans s3) hl
          by_cases e : (((wsOf z).take i).flatMap fun w => tOf (cp w)).length + (tOf (cp u)).length ≤ 400
          · refine iteB0 (decide_eq_false ?_) ⟨_, rfl, s4, (upd_ne nb).trans (s3 _ _ hb2), ?_, ?_⟩
            · rw [List.length_append, List.length_map, List.length_map]
              omega
            · rw [upd_same, eT, List.map_append]
            · rw [eT, List.length_append]
              exact e
          · refine iteB1 (decide_eq_true ?_) ?_
            · rw [List.length_append, List.length_map, List.length_map]
              omega
            · refine refuse ?_ _ _ s4
              unfold uOk
              rw [decide_eq_false, Bool.false_and]
              intro g
              have hpre : (((wsOf z).take (i + 1)).flatMap fun w => tOf (cp w)).length ≤ (tsOf z).length := by
                unfold tsOf
                conv => rhs; rw [← List.take_append_drop (i + 1) (wsOf z)]
                rw [List.flatMap_append, List.length_append]
                omega
              rw [eT, List.length_append] at hpre
              omega
        · rintro _ H2 ⟨y, rfl, s2, hb2, hl2, hlen⟩
          rw [List.length_map, List.take_length] at hl2 hlen
          exact ⟨y, rfl, s2, hl2, hlen⟩
    · rintro _ H1 ⟨y, rfl, s1, hl1, hlen⟩
      refine ⟨_, rfl, l, tsOf z, rfl, SqL.of hl1, by omega, tsOf_in z, fun H2 s2 => ⟨_, rfl, rfl, _, rfl, ?_⟩⟩
      by_cases e : pkS (tsOf z) = z
      · have hu : uOk z = true := by
          unfold uOk
          rw [decide_eq_true hlen, decide_eq_true e]
          rfl
        refine iteB0 (by rw [e, decide_eq_true rfl]; rfl) ⟨_, rfl, q1 hu _ l (s1.trans s2) (s2 _ _ hl1)⟩
      · have hu : uOk z = false := by
          unfold uOk
          rw [decide_eq_false e, Bool.and_false]
        refine iteB1 (by rw [decide_eq_false fun g => e (V.str.inj g)]; rfl) ?_
        exact refuse hu _ _ (s1.trans s2)
/-! The errors' own inits, as things are made of them. -/
def sp_iV (K : PySem.W.Frag) (fl : List Str) : Sp := fun vs H Q _ => ∃ (a C : Addr) (us : List V), vs = .ref a :: us ∧ us.length = fl.length ∧ OexG K C ∧ (∀ f ∈ fl, PySem.W.findIn K (.ref C) f = some none) ∧ H a = some (exo a C none) ∧
  ∀ (H' : Hp) (d : Addr), Kp a H H' → H' a = some (exo a C (some d)) → H' d = some (exd d (fl.zip us).reverse) → Q .non H'
theorem sameV {H1 H' : Hp} {a : Addr} {o : HO} (ha : H1 a = none) (kp : Kp a (upd H1 a o) H') : Same H1 H' := fun b u hb => by
  have nb : b ≠ a := ne_of_none hb ha
  exact kp b u nb (by rw [upd_ne nb]; exact hb)
theorem fm1 {P : Str → Prop} {a : Str} (h : P a) : ∀ f ∈ [a], P f := fun f hf => by
  rw [List.mem_singleton.mp hf]
  exact h
theorem fm2 {P : Str → Prop} {a b : Str} (h : P a) (h2 : P b) : ∀ f ∈ [a, b], P f := fun f hf => by
  rcases List.mem_cons.mp hf with rfl | hf
  · exact h
  · exact fm1 h2 f hf
theorem fm3 {P : Str → Prop} {a b c : Str} (h : P a) (h2 : P b) (h3 : P c) : ∀ f ∈ [a, b, c], P f := fun f hf => by
  rcases List.mem_cons.mp hf with rfl | hf
  · exact h
  · exact fm2 h2 h3 f hf
theorem vals_revV {vs : List V} {us : List Value} (r : Vals vs us) : Vals vs.reverse us.reverse := by
  induction r with
  | nil => exact .nil
  | cons h _ ih =>
    rw [List.reverse_cons, List.reverse_cons]
    exact ih.append (.cons h .nil)
def rotL {α : Type} : List α → List α
  | [] => []
  | a :: l => l ++ [a]
theorem vals_rot {vs : List V} {us : List Value} (r : Vals vs us) : Vals (rotL vs) (rotL us) := by
  cases r with
  | nil => exact .nil
  | cons h t => exact Vals.append t (.cons h .nil)

theorem list1 {us : List V} {a : Str} (h : us.length = [a].length) : ∃ u0, us = [u0] := by
  match us, h with
  | [u0], _ => exact ⟨u0, rfl⟩
theorem list2 {us : List V} {a b : Str} (h : us.length = [a, b].length) : ∃ u0 u1, us = [u0, u1] := by
  match us, h with
  | [u0, u1], _ => exact ⟨u0, u1, rfl⟩
theorem list3 {us : List V} {a b c : Str} (h : us.length = [a, b, c].length) : ∃ u0 u1 u2, us = [u0, u1, u2] := by
  match us, h with
  | [u0, u1, u2], _ => exact ⟨u0, u1, u2, rfl⟩
theorem iv_kp {H : Hp} {a dx : Addr} {o1 o2 : HO} (h : H dx = none) : Kp a H (upd (upd H dx o1) a o2) := fun b o nb hb => by
  rw [upd_ne nb, upd_ne (ne_of_none hb h)]
  exact hb

theorem okv_iNoText (T : Txt K w mg f fd ob) : FnOk P w K mg base CX0 1 (f 0) (fd 0) ["self", "nth"] (sp_iV K ["nth"]) := by
  refine T.F_iNoText.ok sc_iNoText (fun vs H Q E h => ?_) (fun cdv A outer s H vs Q E hr h => ?_)
  · obtain ⟨a, C, us, rfl, hl, _⟩ := h
    rw [List.length_cons, hl]
    rfl
  · obtain ⟨a, C, us, rfl, hl, hC, hn, ha, q⟩ := h
    obtain ⟨u0, rfl⟩ := list1 hl
    refine ⟨_, (pss_one (ps_osG (pv 0) (pv 1))), ?_⟩
    refine ⟨_, rfl, _, rfl, a, C, rfl, hC, hn _ List.mem_cons_self, .inl ⟨ha, fun dx h1 h2 => q _ dx (iv_kp h1) upd_same ?_⟩⟩
    rw [upd_ne h2, upd_same]
    rfl
theorem kb_iNoText (T : Txt K w mg f fd ob) : KBn K (fd 0) ["self", "nth"] 1 ["nth"] (fun us ws => us ++ ws) (fun vs zs => vs ++ zs) := by
  obtain ⟨oc, od, kV, doc, pm, an, cdv, ct, osl, e, lk, hcd⟩ := T.F_iNoText.ex
  refine ⟨fun s us ws X l1 l2 => ?_, fun r1 r2 => r1.append r2⟩
  rw [e]
  match us, ws, l1, l2 with
  | [u], [w0], _, _ => exact .of_eq rfl
theorem okv_iNotAhead (T : Txt K w mg f fd ob) : FnOk P w K mg base CX0 1 (f 1) (fd 1) ["self", "one", "other"] (sp_iV K ["one", "other"]) := by
  refine T.F_iNotAhead.ok sc_iNotAhead (fun vs H Q E h => ?_) (fun cdv A outer s H vs Q E hr h => ?_)
  · obtain ⟨a, C, us, rfl, hl, _⟩ := h
    rw [List.length_cons, hl]
    rfl
  · obtain ⟨a, C, us, rfl, hl, hC, hn, ha, q⟩ := h
    obtain ⟨u0, u1, rfl⟩ := list2 hl
    refine ⟨_, (pss_cons (ps_osG (pv 0) (pv 1)) (pss_one (ps_osG (pv 0) (pv 2)))), ?_⟩
    refine ⟨_, rfl, _, rfl, a, C, rfl, hC, hn _ List.mem_cons_self, .inl ⟨ha, fun dx h1 h2 => ?_⟩⟩
    refine ⟨_, rfl, _, rfl, a, C, rfl, hC, hn _ (List.mem_cons_of_mem _ List.mem_cons_self), .inr ⟨dx, _, upd_same, (upd_ne h2).trans upd_same, (show 1 ≤ 900 by decide), q _ dx (fun b o nb hb => ?_) ?_ upd_same⟩⟩
    · rw [upd_ne (ne_of_none hb h1)]
      exact iv_kp h1 b o nb hb
    · rw [upd_ne h2.symm, upd_same]
theorem kb_iNotAhead (T : Txt K w mg f fd ob) : KBn K (fd 1) ["self", "one", "other"] 1 ["other", "one"] (fun us ws => us ++ ws.reverse) (fun vs zs => vs ++ zs.reverse) := by
  obtain ⟨oc, od, kV, doc, pm, an, cdv, ct, osl, e, lk, hcd⟩ := T.F_iNotAhead.ex
  refine ⟨fun s us ws X l1 l2 => ?_, fun r1 r2 => r1.append (vals_revV r2)⟩
  rw [e]
  match us, ws, l1, l2 with
  | [u], [w0, w1], _, _ => exact .of_eq rfl
theorem okv_iNoRow (T : Txt K w mg f fd ob) : FnOk P w K mg base CX0 1 (f 2) (fd 2) ["self", "said"] (sp_iV K ["said"]) := by
  refine T.F_iNoRow.ok sc_iNoRow (fun vs H Q E h => ?_) (fun cdv A outer s H vs Q E hr h => ?_)
  · obtain ⟨a, C, us, rfl, hl, _⟩ := h
    rw [List.length_cons, hl]
    rfl
  · obtain ⟨a, C, us, rfl, hl, hC, hn, ha, q⟩ := h
    obtain ⟨u0, rfl⟩ := list1 hl
    refine ⟨_, (pss_one (ps_osG (pv 0) (pv 1))), ?_⟩
    refine ⟨_, rfl, _, rfl, a, C, rfl, hC, hn _ List.mem_cons_self, .inl ⟨ha, fun dx h1 h2 => q _ dx (iv_kp h1) upd_same ?_⟩⟩
    rw [upd_ne h2, upd_same]
    rfl
theorem kb_iNoRow (T : Txt K w mg f fd ob) : KBn K (fd 2) ["self", "said"] 1 ["said"] (fun us ws => us ++ ws) (fun vs zs => vs ++ zs) := by
  obtain ⟨oc, od, kV, doc, pm, an, cdv, ct, osl, e, lk, hcd⟩ := T.F_iNoRow.ex
  refine ⟨fun s us ws X l1 l2 => ?_, fun r1 r2 => r1.append r2⟩
  rw [e]
  match us, ws, l1, l2 with
  | [u], [w0], _, _ => exact .of_eq rfl
theorem okv_iNotReady (T : Txt K w mg f fd ob) : FnOk P w K mg base CX0 1 (f 3) (fd 3) ["self", "nth", "who", "what"] (sp_iV K ["nth", "who", "what"]) := by
  refine T.F_iNotReady.ok sc_iNotReady (fun vs H Q E h => ?_) (fun cdv A outer s H vs Q E hr h => ?_)
  · obtain ⟨a, C, us, rfl, hl, _⟩ := h
    rw [List.length_cons, hl]
    rfl
  · obtain ⟨a, C, us, rfl, hl, hC, hn, ha, q⟩ := h
    obtain ⟨u0, u1, u2, rfl⟩ := list3 hl
    refine ⟨_, (pss_cons (ps_osG (pv 0) (pv 1)) (pss_cons (ps_osG (pv 0) (pv 2)) (pss_one (ps_osG (pv 0) (pv 3))))), ?_⟩
    refine ⟨_, rfl, _, rfl, a, C, rfl, hC, hn _ List.mem_cons_self, .inl ⟨ha, fun dx h1 h2 => ?_⟩⟩
    refine ⟨_, rfl, _, rfl, a, C, rfl, hC, hn _ (List.mem_cons_of_mem _ List.mem_cons_self), .inr ⟨dx, _, upd_same, (upd_ne h2).trans upd_same, (show 1 ≤ 900 by decide), ?_⟩⟩
    refine ⟨_, rfl, _, rfl, a, C, rfl, hC, hn _ (List.mem_cons_of_mem _ (List.mem_cons_of_mem _ List.mem_cons_self)), .inr ⟨dx, _, (upd_ne h2.symm).trans upd_same, upd_same, (show 2 ≤ 900 by decide), q _ dx (fun b o nb hb => ?_) ?_ upd_same⟩⟩
    · rw [upd_ne (ne_of_none hb h1), upd_ne (ne_of_none hb h1)]
      exact iv_kp h1 b o nb hb
    · rw [upd_ne h2.symm, upd_ne h2.symm, upd_same]
theorem kb_iNotReady (T : Txt K w mg f fd ob) : KBn K (fd 3) ["self", "nth", "who", "what"] 1 ["what", "nth", "who"] (fun us ws => us ++ rotL ws) (fun vs zs => vs ++ rotL zs) := by
  obtain ⟨oc, od, kV, doc, pm, an, cdv, ct, osl, e, lk, hcd⟩ := T.F_iNotReady.ex
  refine ⟨fun s us ws X l1 l2 => ?_, fun r1 r2 => r1.append (vals_rot r2)⟩
  rw [e]
  match us, ws, l1, l2 with
  | [u], [w0, w1, w2], _, _ => exact .of_eq rfl
theorem okv_iNoReplay (T : Txt K w mg f fd ob) : FnOk P w K mg base CX0 1 (f 4) (fd 4) ["self", "stopped"] (sp_iV K ["stopped"]) := by
  refine T.F_iNoReplay.ok sc_iNoReplay (fun vs H Q E h => ?_) (fun cdv A outer s H vs Q E hr h => ?_)
  · obtain ⟨a, C, us, rfl, hl, _⟩ := h
    rw [List.length_cons, hl]
    rfl
  · obtain ⟨a, C, us, rfl, hl, hC, hn, ha, q⟩ := h
    obtain ⟨u0, rfl⟩ := list1 hl
    refine ⟨_, (pss_one (ps_osG (pv 0) (pv 1))), ?_⟩
    refine ⟨_, rfl, _, rfl, a, C, rfl, hC, hn _ List.mem_cons_self, .inl ⟨ha, fun dx h1 h2 => q _ dx (iv_kp h1) upd_same ?_⟩⟩
    rw [upd_ne h2, upd_same]
    rfl
theorem kb_iNoReplay (T : Txt K w mg f fd ob) : KBn K (fd 4) ["self", "stopped"] 1 ["stopped"] (fun us ws => us ++ ws) (fun vs zs => vs ++ zs) := by
  obtain ⟨oc, od, kV, doc, pm, an, cdv, ct, osl, e, lk, hcd⟩ := T.F_iNoReplay.ex
  refine ⟨fun s us ws X l1 l2 => ?_, fun r1 r2 => r1.append r2⟩
  rw [e]
  match us, ws, l1, l2 with
  | [u], [w0], _, _ => exact .of_eq rfl
theorem okv_iNoPlace (T : Txt K w mg f fd ob) : FnOk P w K mg base CX0 1 (f 5) (fd 5) ["self", "asked"] (sp_iV K ["asked"]) := by
  refine T.F_iNoPlace.ok sc_iNoPlace (fun vs H Q E h => ?_) (fun cdv A outer s H vs Q E hr h => ?_)
  · obtain ⟨a, C, us, rfl, hl, _⟩ := h
    rw [List.length_cons, hl]
    rfl
  · obtain ⟨a, C, us, rfl, hl, hC, hn, ha, q⟩ := h
    obtain ⟨u0, rfl⟩ := list1 hl
    refine ⟨_, (pss_one (ps_osG (pv 0) (pv 1))), ?_⟩
    refine ⟨_, rfl, _, rfl, a, C, rfl, hC, hn _ List.mem_cons_self, .inl ⟨ha, fun dx h1 h2 => q _ dx (iv_kp h1) upd_same ?_⟩⟩
    rw [upd_ne h2, upd_same]
    rfl
theorem kb_iNoPlace (T : Txt K w mg f fd ob) : KBn K (fd 5) ["self", "asked"] 1 ["asked"] (fun us ws => us ++ ws) (fun vs zs => vs ++ zs) := by
  obtain ⟨oc, od, kV, doc, pm, an, cdv, ct, osl, e, lk, hcd⟩ := T.F_iNoPlace.ex
  refine ⟨fun s us ws X l1 l2 => ?_, fun r1 r2 => r1.append r2⟩
  rw [e]
  match us, ws, l1, l2 with
  | [u], [w0], _, _ => exact .of_eq rfl
theorem okv_iNoTime (T : Txt K w mg f fd ob) : FnOk P w K mg base CX0 1 (f 6) (fd 6) ["self", "asked"] (sp_iV K ["asked"]) := by
  refine T.F_iNoTime.ok sc_iNoTime (fun vs H Q E h => ?_) (fun cdv A outer s H vs Q E hr h => ?_)
  · obtain ⟨a, C, us, rfl, hl, _⟩ := h
    rw [List.length_cons, hl]
    rfl
  · obtain ⟨a, C, us, rfl, hl, hC, hn, ha, q⟩ := h
    obtain ⟨u0, rfl⟩ := list1 hl
    refine ⟨_, (pss_one (ps_osG (pv 0) (pv 1))), ?_⟩
    refine ⟨_, rfl, _, rfl, a, C, rfl, hC, hn _ List.mem_cons_self, .inl ⟨ha, fun dx h1 h2 => q _ dx (iv_kp h1) upd_same ?_⟩⟩
    rw [upd_ne h2, upd_same]
    rfl
theorem kb_iNoTime (T : Txt K w mg f fd ob) : KBn K (fd 6) ["self", "asked"] 1 ["asked"] (fun us ws => us ++ ws) (fun vs zs => vs ++ zs) := by
  obtain ⟨oc, od, kV, doc, pm, an, cdv, ct, osl, e, lk, hcd⟩ := T.F_iNoTime.ex
  refine ⟨fun s us ws X l1 l2 => ?_, fun r1 r2 => r1.append r2⟩
  rw [e]
  match us, ws, l1, l2 with
  | [u], [w0], _, _ => exact .of_eq rfl
theorem okv_iNoStep (T : Txt K w mg f fd ob) : FnOk P w K mg base CX0 1 (f 7) (fd 7) ["self", "asked"] (sp_iV K ["asked"]) := by
  refine T.F_iNoStep.ok sc_iNoStep (fun vs H Q E h => ?_) (fun cdv A outer s H vs Q E hr h => ?_)
  · obtain ⟨a, C, us, rfl, hl, _⟩ := h
    rw [List.length_cons, hl]
    rfl
  · obtain ⟨a, C, us, rfl, hl, hC, hn, ha, q⟩ := h
    obtain ⟨u0, rfl⟩ := list1 hl
    refine ⟨_, (pss_one (ps_osG (pv 0) (pv 1))), ?_⟩
    refine ⟨_, rfl, _, rfl, a, C, rfl, hC, hn _ List.mem_cons_self, .inl ⟨ha, fun dx h1 h2 => q _ dx (iv_kp h1) upd_same ?_⟩⟩
    rw [upd_ne h2, upd_same]
    rfl
theorem kb_iNoStep (T : Txt K w mg f fd ob) : KBn K (fd 7) ["self", "asked"] 1 ["asked"] (fun us ws => us ++ ws) (fun vs zs => vs ++ zs) := by
  obtain ⟨oc, od, kV, doc, pm, an, cdv, ct, osl, e, lk, hcd⟩ := T.F_iNoStep.ex
  refine ⟨fun s us ws X l1 l2 => ?_, fun r1 r2 => r1.append r2⟩
  rw [e]
  match us, ws, l1, l2 with
  | [u], [w0], _, _ => exact .of_eq rfl
theorem okv_iNoPair (T : Txt K w mg f fd ob) : FnOk P w K mg base CX0 1 (f 8) (fd 8) ["self", "one", "other"] (sp_iV K ["one", "other"]) := by
  refine T.F_iNoPair.ok sc_iNoPair (fun vs H Q E h => ?_) (fun cdv A outer s H vs Q E hr h => ?_)
  · obtain ⟨a, C, us, rfl, hl, _⟩ := h
    rw [List.length_cons, hl]
    rfl
  · obtain ⟨a, C, us, rfl, hl, hC, hn, ha, q⟩ := h
    obtain ⟨u0, u1, rfl⟩ := list2 hl
    refine ⟨_, (pss_cons (ps_osG (pv 0) (pv 1)) (pss_one (ps_osG (pv 0) (pv 2)))), ?_⟩
    refine ⟨_, rfl, _, rfl, a, C, rfl, hC, hn _ List.mem_cons_self, .inl ⟨ha, fun dx h1 h2 => ?_⟩⟩
    refine ⟨_, rfl, _, rfl, a, C, rfl, hC, hn _ (List.mem_cons_of_mem _ List.mem_cons_self), .inr ⟨dx, _, upd_same, (upd_ne h2).trans upd_same, (show 1 ≤ 900 by decide), q _ dx (fun b o nb hb => ?_) ?_ upd_same⟩⟩
    · rw [upd_ne (ne_of_none hb h1)]
      exact iv_kp h1 b o nb hb
    · rw [upd_ne h2.symm, upd_same]
theorem kb_iNoPair (T : Txt K w mg f fd ob) : KBn K (fd 8) ["self", "one", "other"] 1 ["other", "one"] (fun us ws => us ++ ws.reverse) (fun vs zs => vs ++ zs.reverse) := by
  obtain ⟨oc, od, kV, doc, pm, an, cdv, ct, osl, e, lk, hcd⟩ := T.F_iNoPair.ex
  refine ⟨fun s us ws X l1 l2 => ?_, fun r1 r2 => r1.append (vals_revV r2)⟩
  rw [e]
  match us, ws, l1, l2 with
  | [u], [w0, w1], _, _ => exact .of_eq rfl
theorem okv_iNoThread (T : Txt K w mg f fd ob) : FnOk P w K mg base CX0 1 (f 9) (fd 9) ["self", "asked"] (sp_iV K ["asked"]) := by
  refine T.F_iNoThread.ok sc_iNoThread (fun vs H Q E h => ?_) (fun cdv A outer s H vs Q E hr h => ?_)
  · obtain ⟨a, C, us, rfl, hl, _⟩ := h
    rw [List.length_cons, hl]
    rfl
  · obtain ⟨a, C, us, rfl, hl, hC, hn, ha, q⟩ := h
    obtain ⟨u0, rfl⟩ := list1 hl
    refine ⟨_, (pss_one (ps_osG (pv 0) (pv 1))), ?_⟩
    refine ⟨_, rfl, _, rfl, a, C, rfl, hC, hn _ List.mem_cons_self, .inl ⟨ha, fun dx h1 h2 => q _ dx (iv_kp h1) upd_same ?_⟩⟩
    rw [upd_ne h2, upd_same]
    rfl
theorem kb_iNoThread (T : Txt K w mg f fd ob) : KBn K (fd 9) ["self", "asked"] 1 ["asked"] (fun us ws => us ++ ws) (fun vs zs => vs ++ zs) := by
  obtain ⟨oc, od, kV, doc, pm, an, cdv, ct, osl, e, lk, hcd⟩ := T.F_iNoThread.ex
  refine ⟨fun s us ws X l1 l2 => ?_, fun r1 r2 => r1.append r2⟩
  rw [e]
  match us, ws, l1, l2 with
  | [u], [w0], _, _ => exact .of_eq rfl
theorem okv_iNoSource (T : Txt K w mg f fd ob) : FnOk P w K mg base CX0 1 (f 10) (fd 10) ["self", "asked"] (sp_iV K ["asked"]) := by
  refine T.F_iNoSource.ok sc_iNoSource (fun vs H Q E h => ?_) (fun cdv A outer s H vs Q E hr h => ?_)
  · obtain ⟨a, C, us, rfl, hl, _⟩ := h
    rw [List.length_cons, hl]
    rfl
  · obtain ⟨a, C, us, rfl, hl, hC, hn, ha, q⟩ := h
    obtain ⟨u0, rfl⟩ := list1 hl
    refine ⟨_, (pss_one (ps_osG (pv 0) (pv 1))), ?_⟩
    refine ⟨_, rfl, _, rfl, a, C, rfl, hC, hn _ List.mem_cons_self, .inl ⟨ha, fun dx h1 h2 => q _ dx (iv_kp h1) upd_same ?_⟩⟩
    rw [upd_ne h2, upd_same]
    rfl
theorem kb_iNoSource (T : Txt K w mg f fd ob) : KBn K (fd 10) ["self", "asked"] 1 ["asked"] (fun us ws => us ++ ws) (fun vs zs => vs ++ zs) := by
  obtain ⟨oc, od, kV, doc, pm, an, cdv, ct, osl, e, lk, hcd⟩ := T.F_iNoSource.ex
  refine ⟨fun s us ws X l1 l2 => ?_, fun r1 r2 => r1.append r2⟩
  rw [e]
  match us, ws, l1, l2 with
  | [u], [w0], _, _ => exact .of_eq rfl
theorem okv_iTooMany (T : Txt K w mg f fd ob) : FnOk P w K mg base CX0 1 (f 11) (fd 11) ["self", "most"] (sp_iV K ["most"]) := by
  refine T.F_iTooMany.ok sc_iTooMany (fun vs H Q E h => ?_) (fun cdv A outer s H vs Q E hr h => ?_)
  · obtain ⟨a, C, us, rfl, hl, _⟩ := h
    rw [List.length_cons, hl]
    rfl
  · obtain ⟨a, C, us, rfl, hl, hC, hn, ha, q⟩ := h
    obtain ⟨u0, rfl⟩ := list1 hl
    refine ⟨_, (pss_one (ps_osG (pv 0) (pv 1))), ?_⟩
    refine ⟨_, rfl, _, rfl, a, C, rfl, hC, hn _ List.mem_cons_self, .inl ⟨ha, fun dx h1 h2 => q _ dx (iv_kp h1) upd_same ?_⟩⟩
    rw [upd_ne h2, upd_same]
    rfl
theorem kb_iTooMany (T : Txt K w mg f fd ob) : KBn K (fd 11) ["self", "most"] 1 ["most"] (fun us ws => us ++ ws) (fun vs zs => vs ++ zs) := by
  obtain ⟨oc, od, kV, doc, pm, an, cdv, ct, osl, e, lk, hcd⟩ := T.F_iTooMany.ex
  refine ⟨fun s us ws X l1 l2 => ?_, fun r1 r2 => r1.append r2⟩
  rw [e]
  match us, ws, l1, l2 with
  | [u], [w0], _, _ => exact .of_eq rfl
theorem okv_iTooLong (T : Txt K w mg f fd ob) : FnOk P w K mg base CX0 1 (f 12) (fd 12) ["self", "limit"] (sp_iV K ["limit"]) := by
  refine T.F_iTooLong.ok sc_iTooLong (fun vs H Q E h => ?_) (fun cdv A outer s H vs Q E hr h => ?_)
  · obtain ⟨a, C, us, rfl, hl, _⟩ := h
    rw [List.length_cons, hl]
    rfl
  · obtain ⟨a, C, us, rfl, hl, hC, hn, ha, q⟩ := h
    obtain ⟨u0, rfl⟩ := list1 hl
    refine ⟨_, (pss_one (ps_osG (pv 0) (pv 1))), ?_⟩
    refine ⟨_, rfl, _, rfl, a, C, rfl, hC, hn _ List.mem_cons_self, .inl ⟨ha, fun dx h1 h2 => q _ dx (iv_kp h1) upd_same ?_⟩⟩
    rw [upd_ne h2, upd_same]
    rfl
theorem kb_iTooLong (T : Txt K w mg f fd ob) : KBn K (fd 12) ["self", "limit"] 1 ["limit"] (fun us ws => us ++ ws) (fun vs zs => vs ++ zs) := by
  obtain ⟨oc, od, kV, doc, pm, an, cdv, ct, osl, e, lk, hcd⟩ := T.F_iTooLong.ex
  refine ⟨fun s us ws X l1 l2 => ?_, fun r1 r2 => r1.append r2⟩
  rw [e]
  match us, ws, l1, l2 with
  | [u], [w0], _, _ => exact .of_eq rfl
theorem okv_iNotYet (T : Txt K w mg f fd ob) : FnOk P w K mg base CX0 1 (f 13) (fd 13) ["self", "what"] (sp_iV K ["what"]) := by
  refine T.F_iNotYet.ok sc_iNotYet (fun vs H Q E h => ?_) (fun cdv A outer s H vs Q E hr h => ?_)
  · obtain ⟨a, C, us, rfl, hl, _⟩ := h
    rw [List.length_cons, hl]
    rfl
  · obtain ⟨a, C, us, rfl, hl, hC, hn, ha, q⟩ := h
    obtain ⟨u0, rfl⟩ := list1 hl
    refine ⟨_, (pss_one (ps_osG (pv 0) (pv 1))), ?_⟩
    refine ⟨_, rfl, _, rfl, a, C, rfl, hC, hn _ List.mem_cons_self, .inl ⟨ha, fun dx h1 h2 => q _ dx (iv_kp h1) upd_same ?_⟩⟩
    rw [upd_ne h2, upd_same]
    rfl
theorem kb_iNotYet (T : Txt K w mg f fd ob) : KBn K (fd 13) ["self", "what"] 1 ["what"] (fun us ws => us ++ ws) (fun vs zs => vs ++ zs) := by
  obtain ⟨oc, od, kV, doc, pm, an, cdv, ct, osl, e, lk, hcd⟩ := T.F_iNotYet.ex
  refine ⟨fun s us ws X l1 l2 => ?_, fun r1 r2 => r1.append r2⟩
  rw [e]
  match us, ws, l1, l2 with
  | [u], [w0], _, _ => exact .of_eq rfl
/-! The fourteen errors made of three things. -/
def fldN : Nat → List Str
  | 0 => ["nth"]
  | 1 => ["one", "other"]
  | 2 => ["said"]
  | 3 => ["nth", "who", "what"]
  | 4 => ["stopped"]
  | 5 => ["asked"]
  | 6 => ["asked"]
  | 7 => ["asked"]
  | 8 => ["one", "other"]
  | 9 => ["asked"]
  | 10 => ["asked"]
  | 11 => ["most"]
  | 12 => ["limit"]
  | 13 => ["what"]
  | _ => []
def fldV (i : Nat) (x y z : V) : List V := if i = 3 then [x, y, z] else if i = 1 ∨ i = 8 then [x, y] else [x]
def fldS (i : Nat) (x y z : V) : List (Str × V) := ((fldN i).zip (fldV i x y z)).reverse
/-- at these addresses the errors from the k-th class on -/
def XVs (H : Hp) (ob : Nat → Addr) (x y z : V) : Nat → List Addr → Prop
  | _, [] => True
  | k, a :: as => XV H a (ob k) (fldS k x y z) ∧ XVs H ob x y z (k + 1) as
theorem XVs.same {H H' : Hp} {ob : Nat → Addr} {x y z : V} (s : Same H H') : ∀ {k : Nat} {as : List Addr}, XVs H ob x y z k as → XVs H' ob x y z k as
  | _, [], _ => trivial
  | k, a :: as, h => ⟨h.1.same s, XVs.same s (k := k + 1) (as := as) h.2⟩
theorem XVs.app {H : Hp} {ob : Nat → Addr} {x y z : V} : ∀ {k : Nat} {as bs : List Addr}, XVs H ob x y z k as → XVs H ob x y z (k + as.length) bs → XVs H ob x y z k (as ++ bs)
  | k, [], bs, _, h => h
  | k, a :: as, bs, h, g => ⟨h.1, XVs.app (k := k + 1) (as := as) h.2 (by rw [List.length_cons] at g; rw [show k + 1 + as.length = k + (as.length + 1) by omega]; exact g)⟩
theorem XVs.at {H : Hp} {ob : Nat → Addr} {x y z : V} : ∀ {k : Nat} {as : List Addr}, XVs H ob x y z k as → ∀ {i : Nat} {a : Addr}, as[i]? = some a → XV H a (ob (k + i)) (fldS (k + i) x y z)
  | _, [], _, i, a, e => by cases e
  | k, b :: as, h, 0, a, e => by
    have : b = a := Option.some.inj e
    subst this
    exact h.1
  | k, b :: as, h, i + 1, a, e => by
    have := XVs.at (k := k + 1) (as := as) h.2 (i := i) (a := a) e
    rw [show k + 1 + i = k + (i + 1) by omega] at this
    exact this
def sp_made (ob : Nat → Addr) : Sp := fun vs H Q _ => ∃ x y z : V, vs = [x, y, z] ∧ ∀ (H' : Hp) (l : Addr) (as : List Addr), Same H H' → H' l = some (.lst (as.map V.ref)) → as.length = 14 → XVs H' ob x y z 0 as → Q (.ref l) H'

theorem ok_lplaced (T : Txt K w mg f fd ob) : FnOk P w K mg base CX0 3 (f 30) (fd 30) ["_law_it", "_law_more", "_law_last"] (sp_made ob) := by
  have V_iNoText := okv_iNoText (P := P) (base := base) T
  have V_iNotAhead := okv_iNotAhead (P := P) (base := base) T
  have V_iNoRow := okv_iNoRow (P := P) (base := base) T
  have V_iNotReady := okv_iNotReady (P := P) (base := base) T
  have V_iNoReplay := okv_iNoReplay (P := P) (base := base) T
  have V_iNoPlace := okv_iNoPlace (P := P) (base := base) T
  have V_iNoTime := okv_iNoTime (P := P) (base := base) T
  have V_iNoStep := okv_iNoStep (P := P) (base := base) T
  have V_iNoPair := okv_iNoPair (P := P) (base := base) T
  have V_iNoThread := okv_iNoThread (P := P) (base := base) T
  have V_iNoSource := okv_iNoSource (P := P) (base := base) T
  have V_iTooMany := okv_iTooMany (P := P) (base := base) T
  have V_iTooLong := okv_iTooLong (P := P) (base := base) T
  have V_iNotYet := okv_iNotYet (P := P) (base := base) T
  refine T.F_lplaced.ok sc_lplaced (fun vs H Q E h => ?_) (fun cdv A outer s H vs Q E hr h => ?_)
  · obtain ⟨x, y, z, rfl, _⟩ := h
    rfl
  · obtain ⟨x, y, z, rfl, q⟩ := h
    have hr_i := hr
    refine ⟨_, (pss_cons (ps_set (i := 3) sc_lplaced.nd rfl (Or.inl rfl) (pe_lst (pa_cons (pe_mkV T.G_NoText T.XI_NoText T.XT_NoText V_iNoText hr_i T.b_iNoText pass0 (by rfl) T.m_NoText (pa_cons (pv 0) pa_nil)) (pa_cons (pe_mkV T.G_NotAhead T.XI_NotAhead T.XT_NotAhead V_iNotAhead hr_i T.b_iNotAhead pass0 (by rfl) T.m_NotAhead (pa_cons (pv 0) (pa_cons (pv 1) pa_nil))) (pa_cons (pe_mkV T.G_NoRow T.XI_NoRow T.XT_NoRow V_iNoRow hr_i T.b_iNoRow pass0 (by rfl) T.m_NoRow (pa_cons (pv 0) pa_nil)) (pa_cons (pe_mkV T.G_NotReady T.XI_NotReady T.XT_NotReady V_iNotReady hr_i T.b_iNotReady pass0 (by rfl) T.m_NotReady (pa_cons (pv 0) (pa_cons (pv 1) (pa_cons (pv 2) pa_nil)))) (pa_cons (pe_mkV T.G_NoReplay T.XI_NoReplay T.XT_NoReplay V_iNoReplay hr_i T.b_iNoReplay pass0 (by rfl) T.m_NoReplay (pa_cons (pv 0) pa_nil)) (pa_cons (pe_mkV T.G_NoPlace T.XI_NoPlace T.XT_NoPlace V_iNoPlace hr_i T.b_iNoPlace pass0 (by rfl) T.m_NoPlace (pa_cons (pv 0) pa_nil)) pa_nil))))))))
      (pss_cons (ps_set (i := 3) sc_lplaced.nd rfl (Or.inl rfl) (pe_op op_cat (pv 3) (pe_lst (pa_cons (pe_mkV T.G_NoTime T.XI_NoTime T.XT_NoTime V_iNoTime hr_i T.b_iNoTime pass0 (by rfl) T.m_NoTime (pa_cons (pv 0) pa_nil)) (pa_cons (pe_mkV T.G_NoStep T.XI_NoStep T.XT_NoStep V_iNoStep hr_i T.b_iNoStep pass0 (by rfl) T.m_NoStep (pa_cons (pv 0) pa_nil)) (pa_cons (pe_mkV T.G_NoPair T.XI_NoPair T.XT_NoPair V_iNoPair hr_i T.b_iNoPair pass0 (by rfl) T.m_NoPair (pa_cons (pv 0) (pa_cons (pv 1) pa_nil))) (pa_cons (pe_mkV T.G_NoThread T.XI_NoThread T.XT_NoThread V_iNoThread hr_i T.b_iNoThread pass0 (by rfl) T.m_NoThread (pa_cons (pv 0) pa_nil)) (pa_cons (pe_mkV T.G_NoSource T.XI_NoSource T.XT_NoSource V_iNoSource hr_i T.b_iNoSource pass0 (by rfl) T.m_NoSource (pa_cons (pv 0) pa_nil)) (pa_cons (pe_mkV T.G_TooMany T.XI_TooMany T.XT_TooMany V_iTooMany hr_i T.b_iTooMany pass0 (by rfl) T.m_TooMany (pa_cons (pv 0) pa_nil)) pa_nil)))))))))
      (pss_one (ps_ret (pe_op op_cat (pv 3) (pe_lst (pa_cons (pe_mkV T.G_TooLong T.XI_TooLong T.XT_TooLong V_iTooLong hr_i T.b_iTooLong pass0 (by rfl) T.m_TooLong (pa_cons (pv 0) pa_nil)) (pa_cons (pe_mkV T.G_NotYet T.XI_NotYet T.XT_NotYet V_iNotYet hr_i T.b_iNotYet pass0 (by rfl) T.m_NotYet (pa_cons (pv 0) pa_nil)) pa_nil)))))))), ?_⟩
    refine ⟨_, rfl, (show 1 ≤ 1000 by decide), fun e0 he0 => ⟨e0, ob 0, [x], rfl, rfl, T.G_NoText, (fm1 T.XN_NoText_nth), upd_same, fun K0 d0 kp0 ea0 ed0 => ⟨rfl, ?_⟩⟩⟩
    have s0 : Same H K0 := sameV he0 kp0
    have x0 : XV K0 e0 (ob 0) (fldS 0 x y z) := XV.made ea0 ed0
    refine ⟨_, rfl, _, rfl, (show 2 ≤ 1000 by decide), fun e1 he1 => ⟨e1, ob 1, [x, y], rfl, rfl, T.G_NotAhead, (fm2 T.XN_NotAhead_one T.XN_NotAhead_other), upd_same, fun K1 d1 kp1 ea1 ed1 => ⟨rfl, ?_⟩⟩⟩
    have s1 : Same K0 K1 := sameV he1 kp1
    have x1 : XV K1 e1 (ob 1) (fldS 1 x y z) := XV.made ea1 ed1
    refine ⟨_, rfl, (show 1 ≤ 1000 by decide), fun e2 he2 => ⟨e2, ob 2, [x], rfl, rfl, T.G_NoRow, (fm1 T.XN_NoRow_said), upd_same, fun K2 d2 kp2 ea2 ed2 => ⟨rfl, ?_⟩⟩⟩
    have s2 : Same K1 K2 := sameV he2 kp2
    have x2 : XV K2 e2 (ob 2) (fldS 2 x y z) := XV.made ea2 ed2
    refine ⟨_, rfl, _, rfl, _, rfl, (show 3 ≤ 1000 by decide), fun e3 he3 => ⟨e3, ob 3, [x, y, z], rfl, rfl, T.G_NotReady, (fm3 T.XN_NotReady_nth T.XN_NotReady_who T.XN_NotReady_what), upd_same, fun K3 d3 kp3 ea3 ed3 => ⟨rfl, ?_⟩⟩⟩
    have s3 : Same K2 K3 := sameV he3 kp3
    have x3 : XV K3 e3 (ob 3) (fldS 3 x y z) := XV.made ea3 ed3
    refine ⟨_, rfl, (show 1 ≤ 1000 by decide), fun e4 he4 => ⟨e4, ob 4, [x], rfl, rfl, T.G_NoReplay, (fm1 T.XN_NoReplay_stopped), upd_same, fun K4 d4 kp4 ea4 ed4 => ⟨rfl, ?_⟩⟩⟩
    have s4 : Same K3 K4 := sameV he4 kp4
    have x4 : XV K4 e4 (ob 4) (fldS 4 x y z) := XV.made ea4 ed4
    refine ⟨_, rfl, (show 1 ≤ 1000 by decide), fun e5 he5 => ⟨e5, ob 5, [x], rfl, rfl, T.G_NoPlace, (fm1 T.XN_NoPlace_asked), upd_same, fun K5 d5 kp5 ea5 ed5 => ⟨rfl, ?_⟩⟩⟩
    have s5 : Same K4 K5 := sameV he5 kp5
    have x5 : XV K5 e5 (ob 5) (fldS 5 x y z) := XV.made ea5 ed5
    refine ⟨(show 6 ≤ sizeLine by decide), fun l0 hl0 => ?_⟩
    have S0 : Same H K5 := ((((s0.trans s1).trans s2).trans s3).trans s4).trans s5
    have Y0 : XVs K5 ob x y z 0 [e0, e1, e2, e3, e4, e5] := ⟨x0.same ((((s1.trans s2).trans s3).trans s4).trans s5), x1.same (((s2.trans s3).trans s4).trans s5), x2.same ((s3.trans s4).trans s5), x3.same (s4.trans s5), x4.same (s5), x5, trivial⟩
    have N0 : Same K5 (upd K5 l0 (.lst ([e0, e1, e2, e3, e4, e5].map V.ref))) := Same.new hl0
    have A0 : Same H (upd K5 l0 (.lst ([e0, e1, e2, e3, e4, e5].map V.ref))) := S0.trans N0
    have B0 := Y0.same N0
    have L0 : (upd K5 l0 (.lst ([e0, e1, e2, e3, e4, e5].map V.ref))) l0 = some (.lst ([e0, e1, e2, e3, e4, e5].map V.ref)) := upd_same
    refine ⟨_, rfl, ?_⟩
    refine ⟨_, rfl, (show 1 ≤ 1000 by decide), fun e6 he6 => ⟨e6, ob 6, [x], rfl, rfl, T.G_NoTime, (fm1 T.XN_NoTime_asked), upd_same, fun K6 d6 kp6 ea6 ed6 => ⟨rfl, ?_⟩⟩⟩
    have s6 : Same (upd K5 l0 (.lst ([e0, e1, e2, e3, e4, e5].map V.ref))) K6 := sameV he6 kp6
    have x6 : XV K6 e6 (ob 6) (fldS 6 x y z) := XV.made ea6 ed6
    refine ⟨_, rfl, (show 1 ≤ 1000 by decide), fun e7 he7 => ⟨e7, ob 7, [x], rfl, rfl, T.G_NoStep, (fm1 T.XN_NoStep_asked), upd_same, fun K7 d7 kp7 ea7 ed7 => ⟨rfl, ?_⟩⟩⟩
    have s7 : Same K6 K7 := sameV he7 kp7
    have x7 : XV K7 e7 (ob 7) (fldS 7 x y z) := XV.made ea7 ed7
    refine ⟨_, rfl, _, rfl, (show 2 ≤ 1000 by decide), fun e8 he8 => ⟨e8, ob 8, [x, y], rfl, rfl, T.G_NoPair, (fm2 T.XN_NoPair_one T.XN_NoPair_other), upd_same, fun K8 d8 kp8 ea8 ed8 => ⟨rfl, ?_⟩⟩⟩
    have s8 : Same K7 K8 := sameV he8 kp8
    have x8 : XV K8 e8 (ob 8) (fldS 8 x y z) := XV.made ea8 ed8
    refine ⟨_, rfl, (show 1 ≤ 1000 by decide), fun e9 he9 => ⟨e9, ob 9, [x], rfl, rfl, T.G_NoThread, (fm1 T.XN_NoThread_asked), upd_same, fun K9 d9 kp9 ea9 ed9 => ⟨rfl, ?_⟩⟩⟩
    have s9 : Same K8 K9 := sameV he9 kp9
    have x9 : XV K9 e9 (ob 9) (fldS 9 x y z) := XV.made ea9 ed9
    refine ⟨_, rfl, (show 1 ≤ 1000 by decide), fun e10 he10 => ⟨e10, ob 10, [x], rfl, rfl, T.G_NoSource, (fm1 T.XN_NoSource_asked), upd_same, fun K10 d10 kp10 ea10 ed10 => ⟨rfl, ?_⟩⟩⟩
    have s10 : Same K9 K10 := sameV he10 kp10
    have x10 : XV K10 e10 (ob 10) (fldS 10 x y z) := XV.made ea10 ed10
    refine ⟨_, rfl, (show 1 ≤ 1000 by decide), fun e11 he11 => ⟨e11, ob 11, [x], rfl, rfl, T.G_TooMany, (fm1 T.XN_TooMany_most), upd_same, fun K11 d11 kp11 ea11 ed11 => ⟨rfl, ?_⟩⟩⟩
    have s11 : Same K10 K11 := sameV he11 kp11
    have x11 : XV K11 e11 (ob 11) (fldS 11 x y z) := XV.made ea11 ed11
    refine ⟨(show 6 ≤ sizeLine by decide), fun l1 hl1 => ?_⟩
    have S1 : Same (upd K5 l0 (.lst ([e0, e1, e2, e3, e4, e5].map V.ref))) K11 := ((((s6.trans s7).trans s8).trans s9).trans s10).trans s11
    have Y1 : XVs K11 ob x y z 6 [e6, e7, e8, e9, e10, e11] := ⟨x6.same ((((s7.trans s8).trans s9).trans s10).trans s11), x7.same (((s8.trans s9).trans s10).trans s11), x8.same ((s9.trans s10).trans s11), x9.same (s10.trans s11), x10.same (s11), x11, trivial⟩
    have N1 : Same K11 (upd K11 l1 (.lst ([e6, e7, e8, e9, e10, e11].map V.ref))) := Same.new hl1
    refine ⟨_, _, _, _, rfl, rfl, (S1.trans N1) _ _ L0, upd_same, (show 12 ≤ sizeLine by decide), fun r1 hr1 => ?_⟩
    have R1 : Same (upd K5 l0 (.lst ([e0, e1, e2, e3, e4, e5].map V.ref))) _ := (S1.trans N1).trans (Same.new (o := .lst ([e0, e1, e2, e3, e4, e5, e6, e7, e8, e9, e10, e11].map V.ref)) hr1)
    have B1 : XVs _ ob x y z 0 [e0, e1, e2, e3, e4, e5, e6, e7, e8, e9, e10, e11] := XVs.app (B0.same R1) (Y1.same (N1.trans (Same.new (o := .lst ([e0, e1, e2, e3, e4, e5, e6, e7, e8, e9, e10, e11].map V.ref)) hr1)))
    have A1 := A0.trans R1
    have L1 : (upd (upd K11 l1 (.lst ([e6, e7, e8, e9, e10, e11].map V.ref))) r1 (.lst ([e0, e1, e2, e3, e4, e5, e6, e7, e8, e9, e10, e11].map V.ref))) r1 = some (.lst ([e0, e1, e2, e3, e4, e5, e6, e7, e8, e9, e10, e11].map V.ref)) := upd_same
    refine ⟨_, rfl, ?_⟩
    refine ⟨_, rfl, (show 1 ≤ 1000 by decide), fun e12 he12 => ⟨e12, ob 12, [x], rfl, rfl, T.G_TooLong, (fm1 T.XN_TooLong_limit), upd_same, fun K12 d12 kp12 ea12 ed12 => ⟨rfl, ?_⟩⟩⟩
    have s12 : Same (upd (upd K11 l1 (.lst ([e6, e7, e8, e9, e10, e11].map V.ref))) r1 (.lst ([e0, e1, e2, e3, e4, e5, e6, e7, e8, e9, e10, e11].map V.ref))) K12 := sameV he12 kp12
    have x12 : XV K12 e12 (ob 12) (fldS 12 x y z) := XV.made ea12 ed12
    refine ⟨_, rfl, (show 1 ≤ 1000 by decide), fun e13 he13 => ⟨e13, ob 13, [x], rfl, rfl, T.G_NotYet, (fm1 T.XN_NotYet_what), upd_same, fun K13 d13 kp13 ea13 ed13 => ⟨rfl, ?_⟩⟩⟩
    have s13 : Same K12 K13 := sameV he13 kp13
    have x13 : XV K13 e13 (ob 13) (fldS 13 x y z) := XV.made ea13 ed13
    refine ⟨(show 2 ≤ sizeLine by decide), fun l2 hl2 => ?_⟩
    have S2 : Same (upd (upd K11 l1 (.lst ([e6, e7, e8, e9, e10, e11].map V.ref))) r1 (.lst ([e0, e1, e2, e3, e4, e5, e6, e7, e8, e9, e10, e11].map V.ref))) K13 := s12.trans s13
    have Y2 : XVs K13 ob x y z 12 [e12, e13] := ⟨x12.same (s13), x13, trivial⟩
    have N2 : Same K13 (upd K13 l2 (.lst ([e12, e13].map V.ref))) := Same.new hl2
    refine ⟨_, _, _, _, rfl, rfl, (S2.trans N2) _ _ L1, upd_same, (show 14 ≤ sizeLine by decide), fun r2 hr2 => ?_⟩
    have R2 : Same (upd (upd K11 l1 (.lst ([e6, e7, e8, e9, e10, e11].map V.ref))) r1 (.lst ([e0, e1, e2, e3, e4, e5, e6, e7, e8, e9, e10, e11].map V.ref))) _ := (S2.trans N2).trans (Same.new (o := .lst ([e0, e1, e2, e3, e4, e5, e6, e7, e8, e9, e10, e11, e12, e13].map V.ref)) hr2)
    have B2 : XVs _ ob x y z 0 [e0, e1, e2, e3, e4, e5, e6, e7, e8, e9, e10, e11, e12, e13] := XVs.app (B1.same R2) (Y2.same (N2.trans (Same.new (o := .lst ([e0, e1, e2, e3, e4, e5, e6, e7, e8, e9, e10, e11, e12, e13].map V.ref)) hr2)))
    exact q _ r2 [e0, e1, e2, e3, e4, e5, e6, e7, e8, e9, e10, e11, e12, e13] (A1.trans R2) upd_same rfl B2
theorem ok_lnamed (T : Txt K w mg f fd ob) : FnOk P w K mg base CX0 3 (f 31) (fd 31) ["_law_it", "_law_more", "_law_last"] (sp_made ob) := by
  have V_iNoText := okv_iNoText (P := P) (base := base) T
  have V_iNotAhead := okv_iNotAhead (P := P) (base := base) T
  have V_iNoRow := okv_iNoRow (P := P) (base := base) T
  have V_iNotReady := okv_iNotReady (P := P) (base := base) T
  have V_iNoReplay := okv_iNoReplay (P := P) (base := base) T
  have V_iNoPlace := okv_iNoPlace (P := P) (base := base) T
  have V_iNoTime := okv_iNoTime (P := P) (base := base) T
  have V_iNoStep := okv_iNoStep (P := P) (base := base) T
  have V_iNoPair := okv_iNoPair (P := P) (base := base) T
  have V_iNoThread := okv_iNoThread (P := P) (base := base) T
  have V_iNoSource := okv_iNoSource (P := P) (base := base) T
  have V_iTooMany := okv_iTooMany (P := P) (base := base) T
  have V_iTooLong := okv_iTooLong (P := P) (base := base) T
  have V_iNotYet := okv_iNotYet (P := P) (base := base) T
  refine T.F_lnamed.ok sc_lnamed (fun vs H Q E h => ?_) (fun cdv A outer s H vs Q E hr h => ?_)
  · obtain ⟨x, y, z, rfl, _⟩ := h
    rfl
  · obtain ⟨x, y, z, rfl, q⟩ := h
    have hr_i := hr
    refine ⟨_, (pss_cons (ps_set (i := 3) sc_lnamed.nd rfl (Or.inl rfl) (pe_lst (pa_cons (pe_mkK T.G_NoText T.XI_NoText T.XT_NoText V_iNoText hr_i (kb_iNoText T) pass0 (by rfl) T.m_NoText (pk_cons (pv 0) pk_nil)) (pa_cons (pe_mkK T.G_NotAhead T.XI_NotAhead T.XT_NotAhead V_iNotAhead hr_i (kb_iNotAhead T) pass0 (by rfl) T.m_NotAhead (pk_cons (pv 1) (pk_cons (pv 0) pk_nil))) (pa_cons (pe_mkK T.G_NoRow T.XI_NoRow T.XT_NoRow V_iNoRow hr_i (kb_iNoRow T) pass0 (by rfl) T.m_NoRow (pk_cons (pv 0) pk_nil)) (pa_cons (pe_mkK T.G_NotReady T.XI_NotReady T.XT_NotReady V_iNotReady hr_i (kb_iNotReady T) pass0 (by rfl) T.m_NotReady (pk_cons (pv 2) (pk_cons (pv 0) (pk_cons (pv 1) pk_nil)))) pa_nil))))))
      (pss_cons (ps_set (i := 3) sc_lnamed.nd rfl (Or.inl rfl) (pe_op op_cat (pv 3) (pe_lst (pa_cons (pe_mkK T.G_NoReplay T.XI_NoReplay T.XT_NoReplay V_iNoReplay hr_i (kb_iNoReplay T) pass0 (by rfl) T.m_NoReplay (pk_cons (pv 0) pk_nil)) (pa_cons (pe_mkK T.G_NoPlace T.XI_NoPlace T.XT_NoPlace V_iNoPlace hr_i (kb_iNoPlace T) pass0 (by rfl) T.m_NoPlace (pk_cons (pv 0) pk_nil)) (pa_cons (pe_mkK T.G_NoTime T.XI_NoTime T.XT_NoTime V_iNoTime hr_i (kb_iNoTime T) pass0 (by rfl) T.m_NoTime (pk_cons (pv 0) pk_nil)) (pa_cons (pe_mkK T.G_NoStep T.XI_NoStep T.XT_NoStep V_iNoStep hr_i (kb_iNoStep T) pass0 (by rfl) T.m_NoStep (pk_cons (pv 0) pk_nil)) pa_nil)))))))
      (pss_cons (ps_set (i := 3) sc_lnamed.nd rfl (Or.inl rfl) (pe_op op_cat (pv 3) (pe_lst (pa_cons (pe_mkK T.G_NoPair T.XI_NoPair T.XT_NoPair V_iNoPair hr_i (kb_iNoPair T) pass0 (by rfl) T.m_NoPair (pk_cons (pv 1) (pk_cons (pv 0) pk_nil))) (pa_cons (pe_mkK T.G_NoThread T.XI_NoThread T.XT_NoThread V_iNoThread hr_i (kb_iNoThread T) pass0 (by rfl) T.m_NoThread (pk_cons (pv 0) pk_nil)) (pa_cons (pe_mkK T.G_NoSource T.XI_NoSource T.XT_NoSource V_iNoSource hr_i (kb_iNoSource T) pass0 (by rfl) T.m_NoSource (pk_cons (pv 0) pk_nil)) (pa_cons (pe_mkK T.G_TooMany T.XI_TooMany T.XT_TooMany V_iTooMany hr_i (kb_iTooMany T) pass0 (by rfl) T.m_TooMany (pk_cons (pv 0) pk_nil)) pa_nil)))))))
      (pss_one (ps_ret (pe_op op_cat (pv 3) (pe_lst (pa_cons (pe_mkK T.G_TooLong T.XI_TooLong T.XT_TooLong V_iTooLong hr_i (kb_iTooLong T) pass0 (by rfl) T.m_TooLong (pk_cons (pv 0) pk_nil)) (pa_cons (pe_mkK T.G_NotYet T.XI_NotYet T.XT_NotYet V_iNotYet hr_i (kb_iNotYet T) pass0 (by rfl) T.m_NotYet (pk_cons (pv 0) pk_nil)) pa_nil))))))))), ?_⟩
    refine ⟨_, rfl, rfl, fun e0 he0 => ⟨e0, ob 0, [x], rfl, rfl, T.G_NoText, (fm1 T.XN_NoText_nth), upd_same, fun K0 d0 kp0 ea0 ed0 => ⟨rfl, ?_⟩⟩⟩
    have s0 : Same H K0 := sameV he0 kp0
    have x0 : XV K0 e0 (ob 0) (fldS 0 x y z) := XV.made ea0 ed0
    refine ⟨_, rfl, _, rfl, rfl, fun e1 he1 => ⟨e1, ob 1, [x, y], rfl, rfl, T.G_NotAhead, (fm2 T.XN_NotAhead_one T.XN_NotAhead_other), upd_same, fun K1 d1 kp1 ea1 ed1 => ⟨rfl, ?_⟩⟩⟩
    have s1 : Same K0 K1 := sameV he1 kp1
    have x1 : XV K1 e1 (ob 1) (fldS 1 x y z) := XV.made ea1 ed1
    refine ⟨_, rfl, rfl, fun e2 he2 => ⟨e2, ob 2, [x], rfl, rfl, T.G_NoRow, (fm1 T.XN_NoRow_said), upd_same, fun K2 d2 kp2 ea2 ed2 => ⟨rfl, ?_⟩⟩⟩
    have s2 : Same K1 K2 := sameV he2 kp2
    have x2 : XV K2 e2 (ob 2) (fldS 2 x y z) := XV.made ea2 ed2
    refine ⟨_, rfl, _, rfl, _, rfl, rfl, fun e3 he3 => ⟨e3, ob 3, [x, y, z], rfl, rfl, T.G_NotReady, (fm3 T.XN_NotReady_nth T.XN_NotReady_who T.XN_NotReady_what), upd_same, fun K3 d3 kp3 ea3 ed3 => ⟨rfl, ?_⟩⟩⟩
    have s3 : Same K2 K3 := sameV he3 kp3
    have x3 : XV K3 e3 (ob 3) (fldS 3 x y z) := XV.made ea3 ed3
    refine ⟨(show 4 ≤ sizeLine by decide), fun l0 hl0 => ?_⟩
    have S0 : Same H K3 := ((s0.trans s1).trans s2).trans s3
    have Y0 : XVs K3 ob x y z 0 [e0, e1, e2, e3] := ⟨x0.same ((s1.trans s2).trans s3), x1.same (s2.trans s3), x2.same (s3), x3, trivial⟩
    have N0 : Same K3 (upd K3 l0 (.lst ([e0, e1, e2, e3].map V.ref))) := Same.new hl0
    have A0 : Same H (upd K3 l0 (.lst ([e0, e1, e2, e3].map V.ref))) := S0.trans N0
    have B0 := Y0.same N0
    have L0 : (upd K3 l0 (.lst ([e0, e1, e2, e3].map V.ref))) l0 = some (.lst ([e0, e1, e2, e3].map V.ref)) := upd_same
    refine ⟨_, rfl, ?_⟩
    refine ⟨_, rfl, rfl, fun e4 he4 => ⟨e4, ob 4, [x], rfl, rfl, T.G_NoReplay, (fm1 T.XN_NoReplay_stopped), upd_same, fun K4 d4 kp4 ea4 ed4 => ⟨rfl, ?_⟩⟩⟩
    have s4 : Same (upd K3 l0 (.lst ([e0, e1, e2, e3].map V.ref))) K4 := sameV he4 kp4
    have x4 : XV K4 e4 (ob 4) (fldS 4 x y z) := XV.made ea4 ed4
    refine ⟨_, rfl, rfl, fun e5 he5 => ⟨e5, ob 5, [x], rfl, rfl, T.G_NoPlace, (fm1 T.XN_NoPlace_asked), upd_same, fun K5 d5 kp5 ea5 ed5 => ⟨rfl, ?_⟩⟩⟩
    have s5 : Same K4 K5 := sameV he5 kp5
    have x5 : XV K5 e5 (ob 5) (fldS 5 x y z) := XV.made ea5 ed5
    refine ⟨_, rfl, rfl, fun e6 he6 => ⟨e6, ob 6, [x], rfl, rfl, T.G_NoTime, (fm1 T.XN_NoTime_asked), upd_same, fun K6 d6 kp6 ea6 ed6 => ⟨rfl, ?_⟩⟩⟩
    have s6 : Same K5 K6 := sameV he6 kp6
    have x6 : XV K6 e6 (ob 6) (fldS 6 x y z) := XV.made ea6 ed6
    refine ⟨_, rfl, rfl, fun e7 he7 => ⟨e7, ob 7, [x], rfl, rfl, T.G_NoStep, (fm1 T.XN_NoStep_asked), upd_same, fun K7 d7 kp7 ea7 ed7 => ⟨rfl, ?_⟩⟩⟩
    have s7 : Same K6 K7 := sameV he7 kp7
    have x7 : XV K7 e7 (ob 7) (fldS 7 x y z) := XV.made ea7 ed7
    refine ⟨(show 4 ≤ sizeLine by decide), fun l1 hl1 => ?_⟩
    have S1 : Same (upd K3 l0 (.lst ([e0, e1, e2, e3].map V.ref))) K7 := ((s4.trans s5).trans s6).trans s7
    have Y1 : XVs K7 ob x y z 4 [e4, e5, e6, e7] := ⟨x4.same ((s5.trans s6).trans s7), x5.same (s6.trans s7), x6.same (s7), x7, trivial⟩
    have N1 : Same K7 (upd K7 l1 (.lst ([e4, e5, e6, e7].map V.ref))) := Same.new hl1
    refine ⟨_, _, _, _, rfl, rfl, (S1.trans N1) _ _ L0, upd_same, (show 8 ≤ sizeLine by decide), fun r1 hr1 => ?_⟩
    have R1 : Same (upd K3 l0 (.lst ([e0, e1, e2, e3].map V.ref))) _ := (S1.trans N1).trans (Same.new (o := .lst ([e0, e1, e2, e3, e4, e5, e6, e7].map V.ref)) hr1)
    have B1 : XVs _ ob x y z 0 [e0, e1, e2, e3, e4, e5, e6, e7] := XVs.app (B0.same R1) (Y1.same (N1.trans (Same.new (o := .lst ([e0, e1, e2, e3, e4, e5, e6, e7].map V.ref)) hr1)))
    have A1 := A0.trans R1
    have L1 : (upd (upd K7 l1 (.lst ([e4, e5, e6, e7].map V.ref))) r1 (.lst ([e0, e1, e2, e3, e4, e5, e6, e7].map V.ref))) r1 = some (.lst ([e0, e1, e2, e3, e4, e5, e6, e7].map V.ref)) := upd_same
    refine ⟨_, rfl, ?_⟩
    refine ⟨_, rfl, _, rfl, rfl, fun e8 he8 => ⟨e8, ob 8, [x, y], rfl, rfl, T.G_NoPair, (fm2 T.XN_NoPair_one T.XN_NoPair_other), upd_same, fun K8 d8 kp8 ea8 ed8 => ⟨rfl, ?_⟩⟩⟩
    have s8 : Same (upd (upd K7 l1 (.lst ([e4, e5, e6, e7].map V.ref))) r1 (.lst ([e0, e1, e2, e3, e4, e5, e6, e7].map V.ref))) K8 := sameV he8 kp8
    have x8 : XV K8 e8 (ob 8) (fldS 8 x y z) := XV.made ea8 ed8
    refine ⟨_, rfl, rfl, fun e9 he9 => ⟨e9, ob 9, [x], rfl, rfl, T.G_NoThread, (fm1 T.XN_NoThread_asked), upd_same, fun K9 d9 kp9 ea9 ed9 => ⟨rfl, ?_⟩⟩⟩
    have s9 : Same K8 K9 := sameV he9 kp9
    have x9 : XV K9 e9 (ob 9) (fldS 9 x y z) := XV.made ea9 ed9
    refine ⟨_, rfl, rfl, fun e10 he10 => ⟨e10, ob 10, [x], rfl, rfl, T.G_NoSource, (fm1 T.XN_NoSource_asked), upd_same, fun K10 d10 kp10 ea10 ed10 => ⟨rfl, ?_⟩⟩⟩
    have s10 : Same K9 K10 := sameV he10 kp10
    have x10 : XV K10 e10 (ob 10) (fldS 10 x y z) := XV.made ea10 ed10
    refine ⟨_, rfl, rfl, fun e11 he11 => ⟨e11, ob 11, [x], rfl, rfl, T.G_TooMany, (fm1 T.XN_TooMany_most), upd_same, fun K11 d11 kp11 ea11 ed11 => ⟨rfl, ?_⟩⟩⟩
    have s11 : Same K10 K11 := sameV he11 kp11
    have x11 : XV K11 e11 (ob 11) (fldS 11 x y z) := XV.made ea11 ed11
    refine ⟨(show 4 ≤ sizeLine by decide), fun l2 hl2 => ?_⟩
    have S2 : Same (upd (upd K7 l1 (.lst ([e4, e5, e6, e7].map V.ref))) r1 (.lst ([e0, e1, e2, e3, e4, e5, e6, e7].map V.ref))) K11 := ((s8.trans s9).trans s10).trans s11
    have Y2 : XVs K11 ob x y z 8 [e8, e9, e10, e11] := ⟨x8.same ((s9.trans s10).trans s11), x9.same (s10.trans s11), x10.same (s11), x11, trivial⟩
    have N2 : Same K11 (upd K11 l2 (.lst ([e8, e9, e10, e11].map V.ref))) := Same.new hl2
    refine ⟨_, _, _, _, rfl, rfl, (S2.trans N2) _ _ L1, upd_same, (show 12 ≤ sizeLine by decide), fun r2 hr2 => ?_⟩
    have R2 : Same (upd (upd K7 l1 (.lst ([e4, e5, e6, e7].map V.ref))) r1 (.lst ([e0, e1, e2, e3, e4, e5, e6, e7].map V.ref))) _ := (S2.trans N2).trans (Same.new (o := .lst ([e0, e1, e2, e3, e4, e5, e6, e7, e8, e9, e10, e11].map V.ref)) hr2)
    have B2 : XVs _ ob x y z 0 [e0, e1, e2, e3, e4, e5, e6, e7, e8, e9, e10, e11] := XVs.app (B1.same R2) (Y2.same (N2.trans (Same.new (o := .lst ([e0, e1, e2, e3, e4, e5, e6, e7, e8, e9, e10, e11].map V.ref)) hr2)))
    have A2 := A1.trans R2
    have L2 : (upd (upd K11 l2 (.lst ([e8, e9, e10, e11].map V.ref))) r2 (.lst ([e0, e1, e2, e3, e4, e5, e6, e7, e8, e9, e10, e11].map V.ref))) r2 = some (.lst ([e0, e1, e2, e3, e4, e5, e6, e7, e8, e9, e10, e11].map V.ref)) := upd_same
    refine ⟨_, rfl, ?_⟩
    refine ⟨_, rfl, rfl, fun e12 he12 => ⟨e12, ob 12, [x], rfl, rfl, T.G_TooLong, (fm1 T.XN_TooLong_limit), upd_same, fun K12 d12 kp12 ea12 ed12 => ⟨rfl, ?_⟩⟩⟩
    have s12 : Same (upd (upd K11 l2 (.lst ([e8, e9, e10, e11].map V.ref))) r2 (.lst ([e0, e1, e2, e3, e4, e5, e6, e7, e8, e9, e10, e11].map V.ref))) K12 := sameV he12 kp12
    have x12 : XV K12 e12 (ob 12) (fldS 12 x y z) := XV.made ea12 ed12
    refine ⟨_, rfl, rfl, fun e13 he13 => ⟨e13, ob 13, [x], rfl, rfl, T.G_NotYet, (fm1 T.XN_NotYet_what), upd_same, fun K13 d13 kp13 ea13 ed13 => ⟨rfl, ?_⟩⟩⟩
    have s13 : Same K12 K13 := sameV he13 kp13
    have x13 : XV K13 e13 (ob 13) (fldS 13 x y z) := XV.made ea13 ed13
    refine ⟨(show 2 ≤ sizeLine by decide), fun l3 hl3 => ?_⟩
    have S3 : Same (upd (upd K11 l2 (.lst ([e8, e9, e10, e11].map V.ref))) r2 (.lst ([e0, e1, e2, e3, e4, e5, e6, e7, e8, e9, e10, e11].map V.ref))) K13 := s12.trans s13
    have Y3 : XVs K13 ob x y z 12 [e12, e13] := ⟨x12.same (s13), x13, trivial⟩
    have N3 : Same K13 (upd K13 l3 (.lst ([e12, e13].map V.ref))) := Same.new hl3
    refine ⟨_, _, _, _, rfl, rfl, (S3.trans N3) _ _ L2, upd_same, (show 14 ≤ sizeLine by decide), fun r3 hr3 => ?_⟩
    have R3 : Same (upd (upd K11 l2 (.lst ([e8, e9, e10, e11].map V.ref))) r2 (.lst ([e0, e1, e2, e3, e4, e5, e6, e7, e8, e9, e10, e11].map V.ref))) _ := (S3.trans N3).trans (Same.new (o := .lst ([e0, e1, e2, e3, e4, e5, e6, e7, e8, e9, e10, e11, e12, e13].map V.ref)) hr3)
    have B3 : XVs _ ob x y z 0 [e0, e1, e2, e3, e4, e5, e6, e7, e8, e9, e10, e11, e12, e13] := XVs.app (B2.same R3) (Y3.same (N3.trans (Same.new (o := .lst ([e0, e1, e2, e3, e4, e5, e6, e7, e8, e9, e10, e11, e12, e13].map V.ref)) hr3)))
    exact q _ r3 [e0, e1, e2, e3, e4, e5, e6, e7, e8, e9, e10, e11, e12, e13] (A2.trans R3) upd_same rfl B3
/-! Of which class an error is. -/
def clsW : Nat → Str
  | 0 => "text"
  | 1 => "ahead"
  | 2 => "row"
  | 3 => "ready"
  | 4 => "replay"
  | 5 => "place"
  | 6 => "time"
  | 7 => "step"
  | 8 => "pair"
  | 9 => "thread"
  | 10 => "source"
  | 11 => "many"
  | 12 => "long"
  | 13 => "yet"
  | _ => ""
theorem xk_at (T : Txt K w mg f fd ob) : ∀ i, i < 14 → ExcC K (ob i) ∧ PySem.W.isClsIn K (ob i) = true
  | 0, _ => ⟨T.XK_NoText, T.XC_NoText⟩
  | 1, _ => ⟨T.XK_NotAhead, T.XC_NotAhead⟩
  | 2, _ => ⟨T.XK_NoRow, T.XC_NoRow⟩
  | 3, _ => ⟨T.XK_NotReady, T.XC_NotReady⟩
  | 4, _ => ⟨T.XK_NoReplay, T.XC_NoReplay⟩
  | 5, _ => ⟨T.XK_NoPlace, T.XC_NoPlace⟩
  | 6, _ => ⟨T.XK_NoTime, T.XC_NoTime⟩
  | 7, _ => ⟨T.XK_NoStep, T.XC_NoStep⟩
  | 8, _ => ⟨T.XK_NoPair, T.XC_NoPair⟩
  | 9, _ => ⟨T.XK_NoThread, T.XC_NoThread⟩
  | 10, _ => ⟨T.XK_NoSource, T.XC_NoSource⟩
  | 11, _ => ⟨T.XK_TooMany, T.XC_TooMany⟩
  | 12, _ => ⟨T.XK_TooLong, T.XC_TooLong⟩
  | 13, _ => ⟨T.XK_NotYet, T.XC_NotYet⟩
  | n + 14, h => absurd h (by omega)
theorem ob_at (ob : Nat → Addr) : ∀ i, i < 14 → [ob 0, ob 1, ob 2, ob 3, ob 4, ob 5, ob 6, ob 7, ob 8, ob 9, ob 10, ob 11, ob 12, ob 13].getD i 0 = ob i
  | 0, _ => rfl
  | 1, _ => rfl
  | 2, _ => rfl
  | 3, _ => rfl
  | 4, _ => rfl
  | 5, _ => rfl
  | 6, _ => rfl
  | 7, _ => rfl
  | 8, _ => rfl
  | 9, _ => rfl
  | 10, _ => rfl
  | 11, _ => rfl
  | 12, _ => rfl
  | 13, _ => rfl
  | n + 14, h => absurd h (by omega)
theorem own_at (T : Txt K w mg f fd ob) {i j : Nat} (hi : i < 14) (hj : j < 14) : PySem.W.kitOne K (.ref (ob i)) (.ref (ob j)) = some (i == j) := by
  have h := T.q_own
  unfold ownTab at h
  have h1 := List.all_eq_true.mp h i (List.mem_range.mpr hi)
  have h2 := List.all_eq_true.mp h1 j (List.mem_range.mpr hj)
  rw [ob_at ob i hi, ob_at ob j hj] at h2
  exact beq_iff_eq.mp h2
def basB (i j : Nat) : Bool := (basD.getD i []).contains j
theorem bas_at (T : Txt K w mg f fd ob) {i j : Nat} (hi : i < 14) (hj : j < 7) : PySem.W.kitOne K (.ref (ob i)) (.type (basN.getD j "")) = some (basB i j) := by
  have h := T.q_bas
  unfold basTab at h
  have h1 := List.all_eq_true.mp h i (List.mem_range.mpr hi)
  have h2 := List.all_eq_true.mp h1 j (List.mem_range.mpr hj)
  rw [ob_at ob i hi] at h2
  exact beq_iff_eq.mp h2
/-- at these addresses tuples of a word and a truth -/
def BT (H : Hp) : List Addr → List (Str × Bool) → Prop
  | [], [] => True
  | t :: ts, p :: ps => H t = some (.tup [.str p.1, .bl p.2]) ∧ BT H ts ps
  | _, _ => False
theorem BT.same {H H' : Hp} (s : Same H H') : ∀ {ts : List Addr} {ps : List (Str × Bool)}, BT H ts ps → BT H' ts ps
  | [], [], _ => trivial
  | t :: ts, p :: ps, h => ⟨s _ _ h.1, BT.same s (ts := ts) (ps := ps) h.2⟩
  | [], _ :: _, h => h.elim
  | _ :: _, [], h => h.elim
theorem BT.app {H : Hp} : ∀ {ts us : List Addr} {ps qs : List (Str × Bool)}, BT H ts ps → BT H us qs → BT H (ts ++ us) (ps ++ qs)
  | [], _, [], _, _, h => h
  | t :: ts, _, p :: ps, _, h, g => ⟨h.1, BT.app (ts := ts) (ps := ps) h.2 g⟩
  | [], _, _ :: _, _, h, _ => h.elim
  | _ :: _, _, [], _, h, _ => h.elim
theorem BT.len {H : Hp} : ∀ {ts : List Addr} {ps : List (Str × Bool)}, BT H ts ps → ts.length = ps.length
  | [], [], _ => rfl
  | t :: ts, p :: ps, h => by rw [List.length_cons, List.length_cons, BT.len (ts := ts) (ps := ps) h.2]
  | [], _ :: _, h => h.elim
  | _ :: _, [], h => h.elim
theorem BT.at {H : Hp} : ∀ {ts : List Addr} {ps : List (Str × Bool)}, BT H ts ps → ∀ {i : Nat} {t : Addr}, ts[i]? = some t → ∃ p, ps[i]? = some p ∧ H t = some (.tup [.str p.1, .bl p.2])
  | [], _, _, i, t, e => by cases e
  | a :: ts, p :: ps, h, 0, t, e => by
    have : a = t := Option.some.inj e
    subst this
    exact ⟨p, rfl, h.1⟩
  | a :: ts, p :: ps, h, i + 1, t, e => BT.at (ts := ts) (ps := ps) h.2 e
  | _ :: _, [], h, _, _, _ => h.elim
def psC (i n : Nat) : List (Str × Bool) := (List.range n).map fun j => (clsW j, i == j)
def wsT (ps : List (Str × Bool)) : List V := (ps.filter (·.2)).map fun p => V.str p.1
theorem wsT_snoc (ps : List (Str × Bool)) (p : Str × Bool) : wsT (ps ++ [p]) = if p.2 = true then wsT ps ++ [V.str p.1] else wsT ps := by
  unfold wsT
  rw [List.filter_append]
  obtain ⟨z, b⟩ := p
  cases b with
  | true =>
    rw [if_pos rfl, List.map_append]
    rfl
  | false =>
    rw [if_neg Bool.false_ne_true]
    simp
theorem wsT_len (ps : List (Str × Bool)) : (wsT ps).length ≤ ps.length := by
  unfold wsT
  rw [List.length_map]
  exact List.length_filter_le _ _
theorem ws_cls : ∀ i, i < 14 → wsT (psC i 14) = [V.str (clsW i)] := by
  intro i hi
  match i, hi with
  | 0, _ => rfl
  | 1, _ => rfl
  | 2, _ => rfl
  | 3, _ => rfl
  | 4, _ => rfl
  | 5, _ => rfl
  | 6, _ => rfl
  | 7, _ => rfl
  | 8, _ => rfl
  | 9, _ => rfl
  | 10, _ => rfl
  | 11, _ => rfl
  | 12, _ => rfl
  | 13, _ => rfl
  | n + 14, h => exact absurd h (by omega)
def sp_lclass (ob : Nat → Addr) : Sp := fun vs H Q _ => ∃ (a : Addr) (i : Nat) (fs : List (Str × V)), vs = [.ref a] ∧ i < 14 ∧ XV H a (ob i) fs ∧ ∀ H', Same H H' → Q (.str (clsW i)) H'
def sp_lbase (ob : Nat → Addr) : Sp := fun vs H Q _ => ∃ (a : Addr) (fs : List (Str × V)), vs = [.ref a] ∧ XV H a (ob 0) fs ∧ ∀ H', Same H H' → Q (.str "value") H'
def sp_lbases (ob : Nat → Addr) : Sp := fun vs H Q _ => ∃ (a : Addr) (i : Nat) (fs : List (Str × V)), vs = [.ref a] ∧ i < 14 ∧ XV H a (ob i) fs ∧ ∀ (H' : Hp) (l : Addr), Same H H' → H' l = some (.lst (((basD.getD i []).map fun (n : Nat) => (n : Int)).map V.int)) → Q (.ref l) H'

theorem ref_at {ts : List Addr} {k : Nat} {x : V} (h : (ts.map V.ref)[k]? = some x) : ∃ t, ts[k]? = some t ∧ x = .ref t := by
  rw [List.getElem?_map] at h
  cases e : ts[k]? with
  | none =>
    rw [e] at h
    cases h
  | some t =>
    rw [e] at h
    exact ⟨t, rfl, (Option.some.inj h).symm⟩
theorem ok_lclass (T : Txt K w mg f fd ob) : FnOk P w K mg base CX0 1 (f 23) (fd 23) ["_law_e"] (sp_lclass ob) := by
  refine T.F_lclass.ok sc_lclass (fun vs H Q E h => ?_) (fun cdv A outer s H vs Q E hr h => ?_)
  · obtain ⟨a, i, fs, rfl, _⟩ := h
    rfl
  · obtain ⟨a, i, fs, rfl, hi, hX, q⟩ := h
    refine ⟨_, (C8.pss_cut (ps_set (i := 1) sc_lclass.nd rfl (Or.inl rfl) (pe_lst (pa_cons (pe_tup (pa_cons pe_str (pa_cons (pe_callB call_isV (by rfl) T.z_isinstance (by decide +kernel) (pa_cons (pv 0) (pa_cons (pe_glob (v := .ref (ob 0)) (by rfl) T.m_NoText rfl) pa_nil))) pa_nil))) (pa_cons (pe_tup (pa_cons pe_str (pa_cons (pe_callB call_isV (by rfl) T.z_isinstance (by decide +kernel) (pa_cons (pv 0) (pa_cons (pe_glob (v := .ref (ob 1)) (by rfl) T.m_NotAhead rfl) pa_nil))) pa_nil))) (pa_cons (pe_tup (pa_cons pe_str (pa_cons (pe_callB call_isV (by rfl) T.z_isinstance (by decide +kernel) (pa_cons (pv 0) (pa_cons (pe_glob (v := .ref (ob 2)) (by rfl) T.m_NoRow rfl) pa_nil))) pa_nil))) pa_nil)))))
      (C8.pss_cut (ps_set (i := 1) sc_lclass.nd rfl (Or.inl rfl) (pe_op op_cat (pv 1) (pe_lst (pa_cons (pe_tup (pa_cons pe_str (pa_cons (pe_callB call_isV (by rfl) T.z_isinstance (by decide +kernel) (pa_cons (pv 0) (pa_cons (pe_glob (v := .ref (ob 3)) (by rfl) T.m_NotReady rfl) pa_nil))) pa_nil))) (pa_cons (pe_tup (pa_cons pe_str (pa_cons (pe_callB call_isV (by rfl) T.z_isinstance (by decide +kernel) (pa_cons (pv 0) (pa_cons (pe_glob (v := .ref (ob 4)) (by rfl) T.m_NoReplay rfl) pa_nil))) pa_nil))) pa_nil)))))
      (C8.pss_cut (ps_set (i := 1) sc_lclass.nd rfl (Or.inl rfl) (pe_op op_cat (pv 1) (pe_lst (pa_cons (pe_tup (pa_cons pe_str (pa_cons (pe_callB call_isV (by rfl) T.z_isinstance (by decide +kernel) (pa_cons (pv 0) (pa_cons (pe_glob (v := .ref (ob 5)) (by rfl) T.m_NoPlace rfl) pa_nil))) pa_nil))) (pa_cons (pe_tup (pa_cons pe_str (pa_cons (pe_callB call_isV (by rfl) T.z_isinstance (by decide +kernel) (pa_cons (pv 0) (pa_cons (pe_glob (v := .ref (ob 6)) (by rfl) T.m_NoTime rfl) pa_nil))) pa_nil))) (pa_cons (pe_tup (pa_cons pe_str (pa_cons (pe_callB call_isV (by rfl) T.z_isinstance (by decide +kernel) (pa_cons (pv 0) (pa_cons (pe_glob (v := .ref (ob 7)) (by rfl) T.m_NoStep rfl) pa_nil))) pa_nil))) pa_nil))))))
      (C8.pss_cut (ps_set (i := 1) sc_lclass.nd rfl (Or.inl rfl) (pe_op op_cat (pv 1) (pe_lst (pa_cons (pe_tup (pa_cons pe_str (pa_cons (pe_callB call_isV (by rfl) T.z_isinstance (by decide +kernel) (pa_cons (pv 0) (pa_cons (pe_glob (v := .ref (ob 8)) (by rfl) T.m_NoPair rfl) pa_nil))) pa_nil))) (pa_cons (pe_tup (pa_cons pe_str (pa_cons (pe_callB call_isV (by rfl) T.z_isinstance (by decide +kernel) (pa_cons (pv 0) (pa_cons (pe_glob (v := .ref (ob 9)) (by rfl) T.m_NoThread rfl) pa_nil))) pa_nil))) pa_nil)))))
      (C8.pss_cut (ps_set (i := 1) sc_lclass.nd rfl (Or.inl rfl) (pe_op op_cat (pv 1) (pe_lst (pa_cons (pe_tup (pa_cons pe_str (pa_cons (pe_callB call_isV (by rfl) T.z_isinstance (by decide +kernel) (pa_cons (pv 0) (pa_cons (pe_glob (v := .ref (ob 10)) (by rfl) T.m_NoSource rfl) pa_nil))) pa_nil))) (pa_cons (pe_tup (pa_cons pe_str (pa_cons (pe_callB call_isV (by rfl) T.z_isinstance (by decide +kernel) (pa_cons (pv 0) (pa_cons (pe_glob (v := .ref (ob 11)) (by rfl) T.m_TooMany rfl) pa_nil))) pa_nil))) pa_nil)))))
      (C8.pss_cut (ps_set (i := 1) sc_lclass.nd rfl (Or.inl rfl) (pe_op op_cat (pv 1) (pe_lst (pa_cons (pe_tup (pa_cons pe_str (pa_cons (pe_callB call_isV (by rfl) T.z_isinstance (by decide +kernel) (pa_cons (pv 0) (pa_cons (pe_glob (v := .ref (ob 12)) (by rfl) T.m_TooLong rfl) pa_nil))) pa_nil))) (pa_cons (pe_tup (pa_cons pe_str (pa_cons (pe_callB call_isV (by rfl) T.z_isinstance (by decide +kernel) (pa_cons (pv 0) (pa_cons (pe_glob (v := .ref (ob 13)) (by rfl) T.m_NotYet rfl) pa_nil))) pa_nil))) pa_nil)))))
      (pss_cons (ps_setLc (i := 2) (own := [("_law_word", 3), ("_law_so", 4)]) (g := (gTup K 2 (gCons (gName 3) (gCons (gName 4) gNil)))) (tt := (tB (tVar 4))) (te := (tVar 3)) (by rfl) sc_lclass.nd rfl rfl (sw_true rfl rfl rfl (by decide +kernel)) (pi_list (pv 1)) (blkOk_by (own := [("_law_word", 3), ("_law_so", 4)]) (N := N_lclass) (sc := defScope s_lclass) (by decide +kernel)) (fun _ _ _ _ _ => (pg_tup (by rfl) (pgs_cons (pg_name (i := 3) sc_lclass.nd rfl (Or.inl rfl)) (pgs_cons (pg_name (i := 4) sc_lclass.nd rfl (Or.inl rfl)) pgs_nil)))) (fun _ _ _ _ _ => (pts_one (pt_val (pv 4)))) (fun _ _ _ _ _ => (pv 3)))
      (pss_one (ps_ret (pe_ifExp (pt_cmpR op_eq (pe_callB call_len_seq (by rfl) T.z_len PySem.boot_len (pa_cons (pv 2) pa_nil)) pe_int (nomark _)) (pe_ix ix_list (pv 2) pe_int (fun _ _ => rfl)) pe_str)))))))))), ?_⟩
    refine ⟨fun σ' H' => ∃ (l : Addr) (ts : List Addr), σ' = [some (.ref a), some (.ref l), none, none, none] ∧ Same H H' ∧ H' l = some (.lst (ts.map V.ref)) ∧ BT H' ts (psC i 3), ?_, ?_⟩
    · refine ⟨_, rfl, a, ob i, fs, _, _, _, rfl, hX, (xk_at T i hi).1, (xk_at T i hi).2, (fun u hu => hu), own_at T hi (show 0 < 14 by decide), (show 2 ≤ sizeLine by decide), fun t0 ht0 => ?_⟩
      have n0 : Same H (upd H t0 (.tup [.str "text", .bl (i == 0)])) := Same.new ht0
      refine ⟨_, rfl, a, ob i, fs, _, _, _, rfl, (hX).same (n0), (xk_at T i hi).1, (xk_at T i hi).2, (fun u hu => hu), own_at T hi (show 1 < 14 by decide), (show 2 ≤ sizeLine by decide), fun t1 ht1 => ?_⟩
      have n1 : Same (upd H t0 (.tup [.str "text", .bl (i == 0)])) (upd (upd H t0 (.tup [.str "text", .bl (i == 0)])) t1 (.tup [.str "ahead", .bl (i == 1)])) := Same.new ht1
      refine ⟨_, rfl, a, ob i, fs, _, _, _, rfl, (hX).same (n0.trans n1), (xk_at T i hi).1, (xk_at T i hi).2, (fun u hu => hu), own_at T hi (show 2 < 14 by decide), (show 2 ≤ sizeLine by decide), fun t2 ht2 => ?_⟩
      have n2 : Same (upd (upd H t0 (.tup [.str "text", .bl (i == 0)])) t1 (.tup [.str "ahead", .bl (i == 1)])) (upd (upd (upd H t0 (.tup [.str "text", .bl (i == 0)])) t1 (.tup [.str "ahead", .bl (i == 1)])) t2 (.tup [.str "row", .bl (i == 2)])) := Same.new ht2
      have B : BT (upd (upd (upd H t0 (.tup [.str "text", .bl (i == 0)])) t1 (.tup [.str "ahead", .bl (i == 1)])) t2 (.tup [.str "row", .bl (i == 2)])) [t0, t1, t2] [("text", (i == 0)), ("ahead", (i == 1)), ("row", (i == 2))] := ⟨(n1.trans n2) _ _ upd_same, (n2) _ _ upd_same, upd_same, trivial⟩
      have S : Same H (upd (upd (upd H t0 (.tup [.str "text", .bl (i == 0)])) t1 (.tup [.str "ahead", .bl (i == 1)])) t2 (.tup [.str "row", .bl (i == 2)])) := (n0.trans n1).trans n2
      refine ⟨(show 3 ≤ sizeLine by decide), fun l hl => ?_⟩
      have nl : Same (upd (upd (upd H t0 (.tup [.str "text", .bl (i == 0)])) t1 (.tup [.str "ahead", .bl (i == 1)])) t2 (.tup [.str "row", .bl (i == 2)])) (upd (upd (upd (upd H t0 (.tup [.str "text", .bl (i == 0)])) t1 (.tup [.str "ahead", .bl (i == 1)])) t2 (.tup [.str "row", .bl (i == 2)])) l (.lst ([t0, t1, t2].map V.ref))) := Same.new hl
      exact ⟨l, [t0, t1, t2], rfl, S.trans nl, upd_same, B.same nl⟩
    · rintro _ H1 ⟨l1, ts1, rfl, s1, hl1, bt1⟩
      refine ⟨fun σ' H' => ∃ (l : Addr) (ts : List Addr), σ' = [some (.ref a), some (.ref l), none, none, none] ∧ Same H H' ∧ H' l = some (.lst (ts.map V.ref)) ∧ BT H' ts (psC i 5), ?_, ?_⟩
      · refine ⟨_, rfl, ?_⟩
        refine ⟨_, rfl, a, ob i, fs, _, _, _, rfl, (hX.same s1), (xk_at T i hi).1, (xk_at T i hi).2, (fun u hu => hu), own_at T hi (show 3 < 14 by decide), (show 2 ≤ sizeLine by decide), fun t0 ht0 => ?_⟩
        have n0 : Same H1 (upd H1 t0 (.tup [.str "ready", .bl (i == 3)])) := Same.new ht0
        refine ⟨_, rfl, a, ob i, fs, _, _, _, rfl, ((hX.same s1)).same (n0), (xk_at T i hi).1, (xk_at T i hi).2, (fun u hu => hu), own_at T hi (show 4 < 14 by decide), (show 2 ≤ sizeLine by decide), fun t1 ht1 => ?_⟩
        have n1 : Same (upd H1 t0 (.tup [.str "ready", .bl (i == 3)])) (upd (upd H1 t0 (.tup [.str "ready", .bl (i == 3)])) t1 (.tup [.str "replay", .bl (i == 4)])) := Same.new ht1
        have B : BT (upd (upd H1 t0 (.tup [.str "ready", .bl (i == 3)])) t1 (.tup [.str "replay", .bl (i == 4)])) [t0, t1] [("ready", (i == 3)), ("replay", (i == 4))] := ⟨(n1) _ _ upd_same, upd_same, trivial⟩
        have S : Same H1 (upd (upd H1 t0 (.tup [.str "ready", .bl (i == 3)])) t1 (.tup [.str "replay", .bl (i == 4)])) := n0.trans n1
        refine ⟨(show 2 ≤ sizeLine by decide), fun l hl => ?_⟩
        have nl : Same (upd (upd H1 t0 (.tup [.str "ready", .bl (i == 3)])) t1 (.tup [.str "replay", .bl (i == 4)])) (upd (upd (upd H1 t0 (.tup [.str "ready", .bl (i == 3)])) t1 (.tup [.str "replay", .bl (i == 4)])) l (.lst ([t0, t1].map V.ref))) := Same.new hl
        refine ⟨_, _, _, _, rfl, rfl, (S.trans nl) _ _ hl1, upd_same, ?_, fun r hr => ?_⟩
        · rw [List.length_map, bt1.len]
          exact (show 5 ≤ sizeLine by decide)
        · have nr : Same _ (upd _ r (.lst (ts1.map V.ref ++ [t0, t1].map V.ref))) := Same.new hr
          refine ⟨r, ts1 ++ [t0, t1], rfl, (s1.trans (S.trans nl)).trans nr, ?_, BT.app (bt1.same ((S.trans nl).trans nr)) (B.same (nl.trans nr))⟩
          rw [upd_same, List.map_append]
          rfl
      · rintro _ H2 ⟨l2, ts2, rfl, s2, hl2, bt2⟩
        refine ⟨fun σ' H' => ∃ (l : Addr) (ts : List Addr), σ' = [some (.ref a), some (.ref l), none, none, none] ∧ Same H H' ∧ H' l = some (.lst (ts.map V.ref)) ∧ BT H' ts (psC i 8), ?_, ?_⟩
        · refine ⟨_, rfl, ?_⟩
          refine ⟨_, rfl, a, ob i, fs, _, _, _, rfl, (hX.same s2), (xk_at T i hi).1, (xk_at T i hi).2, (fun u hu => hu), own_at T hi (show 5 < 14 by decide), (show 2 ≤ sizeLine by decide), fun t0 ht0 => ?_⟩
          have n0 : Same H2 (upd H2 t0 (.tup [.str "place", .bl (i == 5)])) := Same.new ht0
          refine ⟨_, rfl, a, ob i, fs, _, _, _, rfl, ((hX.same s2)).same (n0), (xk_at T i hi).1, (xk_at T i hi).2, (fun u hu => hu), own_at T hi (show 6 < 14 by decide), (show 2 ≤ sizeLine by decide), fun t1 ht1 => ?_⟩
          have n1 : Same (upd H2 t0 (.tup [.str "place", .bl (i == 5)])) (upd (upd H2 t0 (.tup [.str "place", .bl (i == 5)])) t1 (.tup [.str "time", .bl (i == 6)])) := Same.new ht1
          refine ⟨_, rfl, a, ob i, fs, _, _, _, rfl, ((hX.same s2)).same (n0.trans n1), (xk_at T i hi).1, (xk_at T i hi).2, (fun u hu => hu), own_at T hi (show 7 < 14 by decide), (show 2 ≤ sizeLine by decide), fun t2 ht2 => ?_⟩
          have n2 : Same (upd (upd H2 t0 (.tup [.str "place", .bl (i == 5)])) t1 (.tup [.str "time", .bl (i == 6)])) (upd (upd (upd H2 t0 (.tup [.str "place", .bl (i == 5)])) t1 (.tup [.str "time", .bl (i == 6)])) t2 (.tup [.str "step", .bl (i == 7)])) := Same.new ht2
          have B : BT (upd (upd (upd H2 t0 (.tup [.str "place", .bl (i == 5)])) t1 (.tup [.str "time", .bl (i == 6)])) t2 (.tup [.str "step", .bl (i == 7)])) [t0, t1, t2] [("place", (i == 5)), ("time", (i == 6)), ("step", (i == 7))] := ⟨(n1.trans n2) _ _ upd_same, (n2) _ _ upd_same, upd_same, trivial⟩
          have S : Same H2 (upd (upd (upd H2 t0 (.tup [.str "place", .bl (i == 5)])) t1 (.tup [.str "time", .bl (i == 6)])) t2 (.tup [.str "step", .bl (i == 7)])) := (n0.trans n1).trans n2
          refine ⟨(show 3 ≤ sizeLine by decide), fun l hl => ?_⟩
          have nl : Same (upd (upd (upd H2 t0 (.tup [.str "place", .bl (i == 5)])) t1 (.tup [.str "time", .bl (i == 6)])) t2 (.tup [.str "step", .bl (i == 7)])) (upd (upd (upd (upd H2 t0 (.tup [.str "place", .bl (i == 5)])) t1 (.tup [.str "time", .bl (i == 6)])) t2 (.tup [.str "step", .bl (i == 7)])) l (.lst ([t0, t1, t2].map V.ref))) := Same.new hl
          refine ⟨_, _, _, _, rfl, rfl, (S.trans nl) _ _ hl2, upd_same, ?_, fun r hr => ?_⟩
          · rw [List.length_map, bt2.len]
            exact (show 8 ≤ sizeLine by decide)
          · have nr : Same _ (upd _ r (.lst (ts2.map V.ref ++ [t0, t1, t2].map V.ref))) := Same.new hr
            refine ⟨r, ts2 ++ [t0, t1, t2], rfl, (s2.trans (S.trans nl)).trans nr, ?_, BT.app (bt2.same ((S.trans nl).trans nr)) (B.same (nl.trans nr))⟩
            rw [upd_same, List.map_append]
            rfl
        · rintro _ H3 ⟨l3, ts3, rfl, s3, hl3, bt3⟩
          refine ⟨fun σ' H' => ∃ (l : Addr) (ts : List Addr), σ' = [some (.ref a), some (.ref l), none, none, none] ∧ Same H H' ∧ H' l = some (.lst (ts.map V.ref)) ∧ BT H' ts (psC i 10), ?_, ?_⟩
          · refine ⟨_, rfl, ?_⟩
            refine ⟨_, rfl, a, ob i, fs, _, _, _, rfl, (hX.same s3), (xk_at T i hi).1, (xk_at T i hi).2, (fun u hu => hu), own_at T hi (show 8 < 14 by decide), (show 2 ≤ sizeLine by decide), fun t0 ht0 => ?_⟩
            have n0 : Same H3 (upd H3 t0 (.tup [.str "pair", .bl (i == 8)])) := Same.new ht0
            refine ⟨_, rfl, a, ob i, fs, _, _, _, rfl, ((hX.same s3)).same (n0), (xk_at T i hi).1, (xk_at T i hi).2, (fun u hu => hu), own_at T hi (show 9 < 14 by decide), (show 2 ≤ sizeLine by decide), fun t1 ht1 => ?_⟩
            have n1 : Same (upd H3 t0 (.tup [.str "pair", .bl (i == 8)])) (upd (upd H3 t0 (.tup [.str "pair", .bl (i == 8)])) t1 (.tup [.str "thread", .bl (i == 9)])) := Same.new ht1
            have B : BT (upd (upd H3 t0 (.tup [.str "pair", .bl (i == 8)])) t1 (.tup [.str "thread", .bl (i == 9)])) [t0, t1] [("pair", (i == 8)), ("thread", (i == 9))] := ⟨(n1) _ _ upd_same, upd_same, trivial⟩
            have S : Same H3 (upd (upd H3 t0 (.tup [.str "pair", .bl (i == 8)])) t1 (.tup [.str "thread", .bl (i == 9)])) := n0.trans n1
            refine ⟨(show 2 ≤ sizeLine by decide), fun l hl => ?_⟩
            have nl : Same (upd (upd H3 t0 (.tup [.str "pair", .bl (i == 8)])) t1 (.tup [.str "thread", .bl (i == 9)])) (upd (upd (upd H3 t0 (.tup [.str "pair", .bl (i == 8)])) t1 (.tup [.str "thread", .bl (i == 9)])) l (.lst ([t0, t1].map V.ref))) := Same.new hl
            refine ⟨_, _, _, _, rfl, rfl, (S.trans nl) _ _ hl3, upd_same, ?_, fun r hr => ?_⟩
            · rw [List.length_map, bt3.len]
              exact (show 10 ≤ sizeLine by decide)
            · have nr : Same _ (upd _ r (.lst (ts3.map V.ref ++ [t0, t1].map V.ref))) := Same.new hr
              refine ⟨r, ts3 ++ [t0, t1], rfl, (s3.trans (S.trans nl)).trans nr, ?_, BT.app (bt3.same ((S.trans nl).trans nr)) (B.same (nl.trans nr))⟩
              rw [upd_same, List.map_append]
              rfl
          · rintro _ H4 ⟨l4, ts4, rfl, s4, hl4, bt4⟩
            refine ⟨fun σ' H' => ∃ (l : Addr) (ts : List Addr), σ' = [some (.ref a), some (.ref l), none, none, none] ∧ Same H H' ∧ H' l = some (.lst (ts.map V.ref)) ∧ BT H' ts (psC i 12), ?_, ?_⟩
            · refine ⟨_, rfl, ?_⟩
              refine ⟨_, rfl, a, ob i, fs, _, _, _, rfl, (hX.same s4), (xk_at T i hi).1, (xk_at T i hi).2, (fun u hu => hu), own_at T hi (show 10 < 14 by decide), (show 2 ≤ sizeLine by decide), fun t0 ht0 => ?_⟩
              have n0 : Same H4 (upd H4 t0 (.tup [.str "source", .bl (i == 10)])) := Same.new ht0
              refine ⟨_, rfl, a, ob i, fs, _, _, _, rfl, ((hX.same s4)).same (n0), (xk_at T i hi).1, (xk_at T i hi).2, (fun u hu => hu), own_at T hi (show 11 < 14 by decide), (show 2 ≤ sizeLine by decide), fun t1 ht1 => ?_⟩
              have n1 : Same (upd H4 t0 (.tup [.str "source", .bl (i == 10)])) (upd (upd H4 t0 (.tup [.str "source", .bl (i == 10)])) t1 (.tup [.str "many", .bl (i == 11)])) := Same.new ht1
              have B : BT (upd (upd H4 t0 (.tup [.str "source", .bl (i == 10)])) t1 (.tup [.str "many", .bl (i == 11)])) [t0, t1] [("source", (i == 10)), ("many", (i == 11))] := ⟨(n1) _ _ upd_same, upd_same, trivial⟩
              have S : Same H4 (upd (upd H4 t0 (.tup [.str "source", .bl (i == 10)])) t1 (.tup [.str "many", .bl (i == 11)])) := n0.trans n1
              refine ⟨(show 2 ≤ sizeLine by decide), fun l hl => ?_⟩
              have nl : Same (upd (upd H4 t0 (.tup [.str "source", .bl (i == 10)])) t1 (.tup [.str "many", .bl (i == 11)])) (upd (upd (upd H4 t0 (.tup [.str "source", .bl (i == 10)])) t1 (.tup [.str "many", .bl (i == 11)])) l (.lst ([t0, t1].map V.ref))) := Same.new hl
              refine ⟨_, _, _, _, rfl, rfl, (S.trans nl) _ _ hl4, upd_same, ?_, fun r hr => ?_⟩
              · rw [List.length_map, bt4.len]
                exact (show 12 ≤ sizeLine by decide)
              · have nr : Same _ (upd _ r (.lst (ts4.map V.ref ++ [t0, t1].map V.ref))) := Same.new hr
                refine ⟨r, ts4 ++ [t0, t1], rfl, (s4.trans (S.trans nl)).trans nr, ?_, BT.app (bt4.same ((S.trans nl).trans nr)) (B.same (nl.trans nr))⟩
                rw [upd_same, List.map_append]
                rfl
            · rintro _ H5 ⟨l5, ts5, rfl, s5, hl5, bt5⟩
              refine ⟨fun σ' H' => ∃ (l : Addr) (ts : List Addr), σ' = [some (.ref a), some (.ref l), none, none, none] ∧ Same H H' ∧ H' l = some (.lst (ts.map V.ref)) ∧ BT H' ts (psC i 14), ?_, ?_⟩
              · refine ⟨_, rfl, ?_⟩
                refine ⟨_, rfl, a, ob i, fs, _, _, _, rfl, (hX.same s5), (xk_at T i hi).1, (xk_at T i hi).2, (fun u hu => hu), own_at T hi (show 12 < 14 by decide), (show 2 ≤ sizeLine by decide), fun t0 ht0 => ?_⟩
                have n0 : Same H5 (upd H5 t0 (.tup [.str "long", .bl (i == 12)])) := Same.new ht0
                refine ⟨_, rfl, a, ob i, fs, _, _, _, rfl, ((hX.same s5)).same (n0), (xk_at T i hi).1, (xk_at T i hi).2, (fun u hu => hu), own_at T hi (show 13 < 14 by decide), (show 2 ≤ sizeLine by decide), fun t1 ht1 => ?_⟩
                have n1 : Same (upd H5 t0 (.tup [.str "long", .bl (i == 12)])) (upd (upd H5 t0 (.tup [.str "long", .bl (i == 12)])) t1 (.tup [.str "yet", .bl (i == 13)])) := Same.new ht1
                have B : BT (upd (upd H5 t0 (.tup [.str "long", .bl (i == 12)])) t1 (.tup [.str "yet", .bl (i == 13)])) [t0, t1] [("long", (i == 12)), ("yet", (i == 13))] := ⟨(n1) _ _ upd_same, upd_same, trivial⟩
                have S : Same H5 (upd (upd H5 t0 (.tup [.str "long", .bl (i == 12)])) t1 (.tup [.str "yet", .bl (i == 13)])) := n0.trans n1
                refine ⟨(show 2 ≤ sizeLine by decide), fun l hl => ?_⟩
                have nl : Same (upd (upd H5 t0 (.tup [.str "long", .bl (i == 12)])) t1 (.tup [.str "yet", .bl (i == 13)])) (upd (upd (upd H5 t0 (.tup [.str "long", .bl (i == 12)])) t1 (.tup [.str "yet", .bl (i == 13)])) l (.lst ([t0, t1].map V.ref))) := Same.new hl
                refine ⟨_, _, _, _, rfl, rfl, (S.trans nl) _ _ hl5, upd_same, ?_, fun r hr => ?_⟩
                · rw [List.length_map, bt5.len]
                  exact (show 14 ≤ sizeLine by decide)
                · have nr : Same _ (upd _ r (.lst (ts5.map V.ref ++ [t0, t1].map V.ref))) := Same.new hr
                  refine ⟨r, ts5 ++ [t0, t1], rfl, (s5.trans (S.trans nl)).trans nr, ?_, BT.app (bt5.same ((S.trans nl).trans nr)) (B.same (nl.trans nr))⟩
                  rw [upd_same, List.map_append]
                  rfl
              · rintro _ H6 ⟨l6, ts6, rfl, s6, hl6, bt6⟩
                refine ⟨_, rfl, l6, rfl, ⟨_, SqL.of hl6⟩, fun D hD => lc_list (xs := ts6.map V.ref) (fun k H' => Same H6 H' ∧ H' D = some (.lst (wsT ((psC i 14).take k)))) ⟨Same.new hD, upd_same⟩ (fun k H' _ h => h.1.seq (SqL.of hl6)) ?_ ?_⟩
                · rintro k x H2 hx ⟨sm, hDl⟩
                  obtain ⟨t, ht, rfl⟩ : ∃ t, ts6[k]? = some t ∧ x = .ref t := ref_at hx
                  obtain ⟨p, hp, hto⟩ := bt6.at ht
                  have eS : wsT ((psC i 14).take (k + 1)) = if p.2 = true then wsT ((psC i 14).take k) ++ [V.str p.1] else wsT ((psC i 14).take k) := by
                    rw [List.take_succ, hp]
                    exact wsT_snoc _ _
                  refine ⟨t, _, rfl, SqT.of (sm _ _ hto), rfl, _, _, rfl, _, _, rfl, rfl, rfl, ?_⟩
                  refine ⟨_, rfl, _, rfl, ?_⟩
                  cases hb : p.2 with
                  | true =>
                    rw [hb, if_pos rfl] at eS
                    refine iteT ⟨_, rfl, _, hDl, ?_, Same.mut sm hD, ?_⟩
                    · have h1 := wsT_len ((psC i 14).take k)
                      rw [List.length_take] at h1
                      exact Nat.lt_of_le_of_lt (Nat.le_trans h1 (Nat.min_le_right _ _)) (show 14 < sizeLine by decide)
                    · rw [upd_same, eS]
                  | false =>
                    rw [hb, if_neg Bool.false_ne_true] at eS
                    refine iteF ⟨sm, ?_⟩
                    rw [eS]
                    exact hDl
                · rintro H2 ⟨sm, hDl⟩
                  have e14 : (psC i 14).take (ts6.map V.ref).length = psC i 14 := by
                    rw [List.length_map, bt6.len]
                    rfl
                  rw [e14, ws_cls i hi] at hDl
                  refine ⟨_, rfl, D, _, rfl, .inl (SqL.of hDl), rfl, _, rfl, iteT ⟨_, rfl, _, _, _, _, rfl, rfl, SqL.of hDl, rfl, ?_⟩⟩
                  exact q _ (s6.trans sm)
def psB (n : Nat) : List (Str × Bool) := ([("value", basB 0 0), ("runtime", basB 0 1), ("index", basB 0 2), ("key", basB 0 3), ("overflow", basB 0 5)] : List (Str × Bool)).take n
theorem ws_bas : wsT (psB 5) = [V.str "value"] := rfl
theorem ok_lbase (T : Txt K w mg f fd ob) : FnOk P w K mg base CX0 1 (f 24) (fd 24) ["_law_e"] (sp_lbase ob) := by
  refine T.F_lbase.ok sc_lbase (fun vs H Q E h => ?_) (fun cdv A outer s H vs Q E hr h => ?_)
  · obtain ⟨a, fs, rfl, _⟩ := h
    rfl
  · obtain ⟨a, fs, rfl, hX, q⟩ := h
    have hi : 0 < 14 := by decide
    refine ⟨_, (C8.pss_cut (ps_set (i := 1) sc_lbase.nd rfl (Or.inl rfl) (pe_lst (pa_cons (pe_tup (pa_cons pe_str (pa_cons (pe_callB call_isV (by rfl) T.z_isinstance (by decide +kernel) (pa_cons (pv 0) (pa_cons (pe_bltn (v := .ty "ValueError") (by rfl) T.z_ValueError (by decide +kernel) rfl) pa_nil))) pa_nil))) (pa_cons (pe_tup (pa_cons pe_str (pa_cons (pe_callB call_isV (by rfl) T.z_isinstance (by decide +kernel) (pa_cons (pv 0) (pa_cons (pe_bltn (v := .ty "RuntimeError") (by rfl) T.z_RuntimeError (by decide +kernel) rfl) pa_nil))) pa_nil))) pa_nil))))
      (C8.pss_cut (ps_set (i := 1) sc_lbase.nd rfl (Or.inl rfl) (pe_op op_cat (pv 1) (pe_lst (pa_cons (pe_tup (pa_cons pe_str (pa_cons (pe_callB call_isV (by rfl) T.z_isinstance (by decide +kernel) (pa_cons (pv 0) (pa_cons (pe_bltn (v := .ty "IndexError") (by rfl) T.z_IndexError (by decide +kernel) rfl) pa_nil))) pa_nil))) (pa_cons (pe_tup (pa_cons pe_str (pa_cons (pe_callB call_isV (by rfl) T.z_isinstance (by decide +kernel) (pa_cons (pv 0) (pa_cons (pe_bltn (v := .ty "KeyError") (by rfl) T.z_KeyError (by decide +kernel) rfl) pa_nil))) pa_nil))) pa_nil)))))
      (C8.pss_cut (ps_set (i := 1) sc_lbase.nd rfl (Or.inl rfl) (pe_op op_cat (pv 1) (pe_lst (pa_cons (pe_tup (pa_cons pe_str (pa_cons (pe_callB call_isV (by rfl) T.z_isinstance (by decide +kernel) (pa_cons (pv 0) (pa_cons (pe_bltn (v := .ty "OverflowError") (by rfl) T.z_OverflowError (by decide +kernel) rfl) pa_nil))) pa_nil))) pa_nil))))
      (pss_cons (ps_setLc (i := 2) (own := [("_law_word", 3), ("_law_so", 4)]) (g := (gTup K 2 (gCons (gName 3) (gCons (gName 4) gNil)))) (tt := (tB (tVar 4))) (te := (tVar 3)) (by rfl) sc_lbase.nd rfl rfl (sw_true rfl rfl rfl (by decide +kernel)) (pi_list (pv 1)) (blkOk_by (own := [("_law_word", 3), ("_law_so", 4)]) (N := N_lbase) (sc := defScope s_lbase) (by decide +kernel)) (fun _ _ _ _ _ => (pg_tup (by rfl) (pgs_cons (pg_name (i := 3) sc_lbase.nd rfl (Or.inl rfl)) (pgs_cons (pg_name (i := 4) sc_lbase.nd rfl (Or.inl rfl)) pgs_nil)))) (fun _ _ _ _ _ => (pts_one (pt_val (pv 4)))) (fun _ _ _ _ _ => (pv 3)))
      (pss_cons (ps_if (pt_cmpR (op_eqL0 hr.units) (pv 2) (pe_lst pa_nil) (nomark _)) (pss_one (ps_ret (pe_ifExp (pt_val (pe_callB call_isV (by rfl) T.z_isinstance (by decide +kernel) (pa_cons (pv 0) (pa_cons (pe_bltn (v := .ty "LookupError") (by rfl) T.z_LookupError (by decide +kernel) rfl) pa_nil)))) pe_str pe_str))) pss_nil)
      (pss_one (ps_ret (pe_ifExp (pt_cmpR op_eq (pe_callB call_len_seq (by rfl) T.z_len PySem.boot_len (pa_cons (pv 2) pa_nil)) pe_int (nomark _)) (pe_ix ix_list (pv 2) pe_int (fun _ _ => rfl)) pe_str)))))))), ?_⟩
    refine ⟨fun σ' H' => ∃ (l : Addr) (ts : List Addr), σ' = [some (.ref a), some (.ref l), none, none, none] ∧ Same H H' ∧ H' l = some (.lst (ts.map V.ref)) ∧ BT H' ts (psB 2), ?_, ?_⟩
    · refine ⟨_, rfl, a, ob 0, fs, _, _, _, rfl, hX, (xk_at T 0 hi).1, (xk_at T 0 hi).2, (fun u hu => hu), bas_at T hi (show 0 < 7 by decide), (show 2 ≤ sizeLine by decide), fun t0 ht0 => ?_⟩
      have n0 : Same H (upd H t0 (.tup [.str "value", .bl (basB 0 0)])) := Same.new ht0
      refine ⟨_, rfl, a, ob 0, fs, _, _, _, rfl, (hX).same (n0), (xk_at T 0 hi).1, (xk_at T 0 hi).2, (fun u hu => hu), bas_at T hi (show 1 < 7 by decide), (show 2 ≤ sizeLine by decide), fun t1 ht1 => ?_⟩
      have n1 : Same (upd H t0 (.tup [.str "value", .bl (basB 0 0)])) (upd (upd H t0 (.tup [.str "value", .bl (basB 0 0)])) t1 (.tup [.str "runtime", .bl (basB 0 1)])) := Same.new ht1
      have B : BT (upd (upd H t0 (.tup [.str "value", .bl (basB 0 0)])) t1 (.tup [.str "runtime", .bl (basB 0 1)])) [t0, t1] [("value", (basB 0 0)), ("runtime", (basB 0 1))] := ⟨(n1) _ _ upd_same, upd_same, trivial⟩
      have S : Same H (upd (upd H t0 (.tup [.str "value", .bl (basB 0 0)])) t1 (.tup [.str "runtime", .bl (basB 0 1)])) := n0.trans n1
      refine ⟨(show 2 ≤ sizeLine by decide), fun l hl => ?_⟩
      have nl : Same (upd (upd H t0 (.tup [.str "value", .bl (basB 0 0)])) t1 (.tup [.str "runtime", .bl (basB 0 1)])) (upd (upd (upd H t0 (.tup [.str "value", .bl (basB 0 0)])) t1 (.tup [.str "runtime", .bl (basB 0 1)])) l (.lst ([t0, t1].map V.ref))) := Same.new hl
      exact ⟨l, [t0, t1], rfl, S.trans nl, upd_same, B.same nl⟩
    · rintro _ H1 ⟨l1, ts1, rfl, s1, hl1, bt1⟩
      refine ⟨fun σ' H' => ∃ (l : Addr) (ts : List Addr), σ' = [some (.ref a), some (.ref l), none, none, none] ∧ Same H H' ∧ H' l = some (.lst (ts.map V.ref)) ∧ BT H' ts (psB 4), ?_, ?_⟩
      · refine ⟨_, rfl, ?_⟩
        refine ⟨_, rfl, a, ob 0, fs, _, _, _, rfl, (hX.same s1), (xk_at T 0 hi).1, (xk_at T 0 hi).2, (fun u hu => hu), bas_at T hi (show 2 < 7 by decide), (show 2 ≤ sizeLine by decide), fun t0 ht0 => ?_⟩
        have n0 : Same H1 (upd H1 t0 (.tup [.str "index", .bl (basB 0 2)])) := Same.new ht0
        refine ⟨_, rfl, a, ob 0, fs, _, _, _, rfl, ((hX.same s1)).same (n0), (xk_at T 0 hi).1, (xk_at T 0 hi).2, (fun u hu => hu), bas_at T hi (show 3 < 7 by decide), (show 2 ≤ sizeLine by decide), fun t1 ht1 => ?_⟩
        have n1 : Same (upd H1 t0 (.tup [.str "index", .bl (basB 0 2)])) (upd (upd H1 t0 (.tup [.str "index", .bl (basB 0 2)])) t1 (.tup [.str "key", .bl (basB 0 3)])) := Same.new ht1
        have B : BT (upd (upd H1 t0 (.tup [.str "index", .bl (basB 0 2)])) t1 (.tup [.str "key", .bl (basB 0 3)])) [t0, t1] [("index", (basB 0 2)), ("key", (basB 0 3))] := ⟨(n1) _ _ upd_same, upd_same, trivial⟩
        have S : Same H1 (upd (upd H1 t0 (.tup [.str "index", .bl (basB 0 2)])) t1 (.tup [.str "key", .bl (basB 0 3)])) := n0.trans n1
        refine ⟨(show 2 ≤ sizeLine by decide), fun l hl => ?_⟩
        have nl : Same (upd (upd H1 t0 (.tup [.str "index", .bl (basB 0 2)])) t1 (.tup [.str "key", .bl (basB 0 3)])) (upd (upd (upd H1 t0 (.tup [.str "index", .bl (basB 0 2)])) t1 (.tup [.str "key", .bl (basB 0 3)])) l (.lst ([t0, t1].map V.ref))) := Same.new hl
        refine ⟨_, _, _, _, rfl, rfl, (S.trans nl) _ _ hl1, upd_same, ?_, fun r hr => ?_⟩
        · rw [List.length_map, bt1.len]
          exact (show 4 ≤ sizeLine by decide)
        · have nr : Same _ (upd _ r (.lst (ts1.map V.ref ++ [t0, t1].map V.ref))) := Same.new hr
          refine ⟨r, ts1 ++ [t0, t1], rfl, (s1.trans (S.trans nl)).trans nr, ?_, BT.app (bt1.same ((S.trans nl).trans nr)) (B.same (nl.trans nr))⟩
          rw [upd_same, List.map_append]
          rfl
      · rintro _ H2 ⟨l2, ts2, rfl, s2, hl2, bt2⟩
        refine ⟨fun σ' H' => ∃ (l : Addr) (ts : List Addr), σ' = [some (.ref a), some (.ref l), none, none, none] ∧ Same H H' ∧ H' l = some (.lst (ts.map V.ref)) ∧ BT H' ts (psB 5), ?_, ?_⟩
        · refine ⟨_, rfl, ?_⟩
          refine ⟨_, rfl, a, ob 0, fs, _, _, _, rfl, (hX.same s2), (xk_at T 0 hi).1, (xk_at T 0 hi).2, (fun u hu => hu), bas_at T hi (show 5 < 7 by decide), (show 2 ≤ sizeLine by decide), fun t0 ht0 => ?_⟩
          have n0 : Same H2 (upd H2 t0 (.tup [.str "overflow", .bl (basB 0 5)])) := Same.new ht0
          have B : BT (upd H2 t0 (.tup [.str "overflow", .bl (basB 0 5)])) [t0] [("overflow", (basB 0 5))] := ⟨upd_same, trivial⟩
          have S : Same H2 (upd H2 t0 (.tup [.str "overflow", .bl (basB 0 5)])) := n0
          refine ⟨(show 1 ≤ sizeLine by decide), fun l hl => ?_⟩
          have nl : Same (upd H2 t0 (.tup [.str "overflow", .bl (basB 0 5)])) (upd (upd H2 t0 (.tup [.str "overflow", .bl (basB 0 5)])) l (.lst ([t0].map V.ref))) := Same.new hl
          refine ⟨_, _, _, _, rfl, rfl, (S.trans nl) _ _ hl2, upd_same, ?_, fun r hr => ?_⟩
          · rw [List.length_map, bt2.len]
            exact (show 5 ≤ sizeLine by decide)
          · have nr : Same _ (upd _ r (.lst (ts2.map V.ref ++ [t0].map V.ref))) := Same.new hr
            refine ⟨r, ts2 ++ [t0], rfl, (s2.trans (S.trans nl)).trans nr, ?_, BT.app (bt2.same ((S.trans nl).trans nr)) (B.same (nl.trans nr))⟩
            rw [upd_same, List.map_append]
            rfl
        · rintro _ H3 ⟨l3, ts3, rfl, s3, hl3, bt3⟩
          refine ⟨_, rfl, l3, rfl, ⟨_, SqL.of hl3⟩, fun D hD => lc_list (xs := ts3.map V.ref) (fun k H' => Same H3 H' ∧ H' D = some (.lst (wsT ((psB 5).take k)))) ⟨Same.new hD, upd_same⟩ (fun k H' _ h => h.1.seq (SqL.of hl3)) ?_ ?_⟩
          · rintro k x H2 hx ⟨sm, hDl⟩
            obtain ⟨t, ht, rfl⟩ : ∃ t, ts3[k]? = some t ∧ x = .ref t := ref_at hx
            obtain ⟨p, hp, hto⟩ := bt3.at ht
            have eS : wsT ((psB 5).take (k + 1)) = if p.2 = true then wsT ((psB 5).take k) ++ [V.str p.1] else wsT ((psB 5).take k) := by
              rw [List.take_succ, hp]
              exact wsT_snoc _ _
            refine ⟨t, _, rfl, SqT.of (sm _ _ hto), rfl, _, _, rfl, _, _, rfl, rfl, rfl, ?_⟩
            refine ⟨_, rfl, _, rfl, ?_⟩
            cases hb : p.2 with
            | true =>
              rw [hb, if_pos rfl] at eS
              refine iteT ⟨_, rfl, _, hDl, ?_, Same.mut sm hD, ?_⟩
              · have h1 := wsT_len ((psB 5).take k)
                rw [List.length_take] at h1
                exact Nat.lt_of_le_of_lt (Nat.le_trans h1 (Nat.min_le_right _ _)) (show 5 < sizeLine by decide)
              · rw [upd_same, eS]
            | false =>
              rw [hb, if_neg Bool.false_ne_true] at eS
              refine iteF ⟨sm, ?_⟩
              rw [eS]
              exact hDl
          · rintro H2 ⟨sm, hDl⟩
            have e5 : (psB 5).take (ts3.map V.ref).length = psB 5 := by
              rw [List.length_map, bt3.len]
              rfl
            rw [e5, ws_bas] at hDl
            refine ⟨_, rfl, Nat.zero_le _, fun e he => ?_⟩
            have se : Same H2 (upd H2 e (.lst [])) := Same.new he
            refine ⟨D, e, _, rfl, rfl, SqL.of (se _ _ hDl), SqL.of upd_same, _, rfl, iteB0 (decide_eq_false (fun z => by cases z)) ?_⟩
            refine ⟨_, rfl, D, _, rfl, .inl (SqL.of (se _ _ hDl)), rfl, _, rfl, iteT ⟨_, rfl, _, _, _, _, rfl, rfl, SqL.of (se _ _ hDl), rfl, ?_⟩⟩
            exact q _ ((s3.trans sm).trans se)
theorem bas_list : ∀ i, i < 14 → (List.range 7).filter (basB i) = basD.getD i [] := by decide +kernel
theorem ok_lbases (T : Txt K w mg f fd ob) : FnOk P w K mg base CX0 1 (f 33) (fd 33) ["_law_e"] (sp_lbases ob) := by
  refine T.F_lbases.ok sc_lbases (fun vs H Q E h => ?_) (fun cdv A outer s H vs Q E hr h => ?_)
  · obtain ⟨a, i, fs, rfl, _⟩ := h
    rfl
  · obtain ⟨a, i, fs, rfl, hi, hX, q⟩ := h
    refine ⟨_, (C8.pss_cut (ps_set (i := 1) sc_lbases.nd rfl (Or.inr rfl) (pe_lst (pa_cons (pe_callB call_isV (by rfl) T.z_isinstance (by decide +kernel) (pa_cons (pv 0) (pa_cons (pe_bltn (v := .ty "ValueError") (by rfl) T.z_ValueError (by decide +kernel) rfl) pa_nil))) (pa_cons (pe_callB call_isV (by rfl) T.z_isinstance (by decide +kernel) (pa_cons (pv 0) (pa_cons (pe_bltn (v := .ty "RuntimeError") (by rfl) T.z_RuntimeError (by decide +kernel) rfl) pa_nil))) (pa_cons (pe_callB call_isV (by rfl) T.z_isinstance (by decide +kernel) (pa_cons (pv 0) (pa_cons (pe_bltn (v := .ty "IndexError") (by rfl) T.z_IndexError (by decide +kernel) rfl) pa_nil))) (pa_cons (pe_callB call_isV (by rfl) T.z_isinstance (by decide +kernel) (pa_cons (pv 0) (pa_cons (pe_bltn (v := .ty "KeyError") (by rfl) T.z_KeyError (by decide +kernel) rfl) pa_nil))) pa_nil))))))
      (C8.pss_cut (ps_set (i := 1) sc_lbases.nd rfl (Or.inr rfl) (pe_op op_cat (pv 1) (pe_lst (pa_cons (pe_callB call_isV (by rfl) T.z_isinstance (by decide +kernel) (pa_cons (pv 0) (pa_cons (pe_bltn (v := .ty "LookupError") (by rfl) T.z_LookupError (by decide +kernel) rfl) pa_nil))) (pa_cons (pe_callB call_isV (by rfl) T.z_isinstance (by decide +kernel) (pa_cons (pv 0) (pa_cons (pe_bltn (v := .ty "OverflowError") (by rfl) T.z_OverflowError (by decide +kernel) rfl) pa_nil))) (pa_cons (pe_callB call_isV (by rfl) T.z_isinstance (by decide +kernel) (pa_cons (pv 0) (pa_cons (pe_bltn (v := .ty "ArithmeticError") (by rfl) T.z_ArithmeticError (by decide +kernel) rfl) pa_nil))) pa_nil))))))
      (pss_one (ps_ret (pe_lc (own := [("_law_k", 2)]) (g := (gName 2)) (tt := (tB (tOp (rIxL K) (tVar 1) (tVar 2)))) (te := (tVar 2)) (by rfl) sc_lbases.nd (pi_range1 (by rfl) T.z_range (pa_cons pe_int pa_nil)) (blkOk_by (own := [("_law_k", 2)]) (N := N_lbases) (sc := defScope s_lbases) (by decide +kernel)) (fun _ _ _ _ _ => (pg_name (i := 2) sc_lbases.nd rfl (Or.inl rfl))) (fun _ _ _ _ _ => (pts_one (pt_val (pe_ix ix_list (pv 1) (pv 2) (fun _ _ => rfl))))) (fun _ _ _ _ _ => (pv 2))))))), ?_⟩
    refine ⟨fun σ' H' => ∃ l : Addr, σ' = [some (.ref a), some (.ref l), none] ∧ Same H H' ∧ H' l = some (.lst ((List.range 4).map fun j => V.bl (basB i j))), ?_, ?_⟩
    · refine ⟨_, rfl, a, ob i, fs, _, _, _, rfl, hX, (xk_at T i hi).1, (xk_at T i hi).2, (fun u hu => hu), bas_at T hi (show 0 < 7 by decide), ?_⟩
      refine ⟨_, rfl, a, ob i, fs, _, _, _, rfl, hX, (xk_at T i hi).1, (xk_at T i hi).2, (fun u hu => hu), bas_at T hi (show 1 < 7 by decide), ?_⟩
      refine ⟨_, rfl, a, ob i, fs, _, _, _, rfl, hX, (xk_at T i hi).1, (xk_at T i hi).2, (fun u hu => hu), bas_at T hi (show 2 < 7 by decide), ?_⟩
      refine ⟨_, rfl, a, ob i, fs, _, _, _, rfl, hX, (xk_at T i hi).1, (xk_at T i hi).2, (fun u hu => hu), bas_at T hi (show 3 < 7 by decide), ?_⟩
      exact ⟨(show 4 ≤ sizeLine by decide), fun l hl => ⟨l, rfl, Same.new hl, upd_same⟩⟩
    · rintro _ H1 ⟨l1, rfl, s1, hl1⟩
      refine ⟨fun σ' H' => ∃ l : Addr, σ' = [some (.ref a), some (.ref l), none] ∧ Same H H' ∧ H' l = some (.lst ((List.range 7).map fun j => V.bl (basB i j))), ?_, ?_⟩
      · refine ⟨_, rfl, ?_⟩
        refine ⟨_, rfl, a, ob i, fs, _, _, _, rfl, hX.same s1, (xk_at T i hi).1, (xk_at T i hi).2, (fun u hu => hu), bas_at T hi (show 4 < 7 by decide), ?_⟩
        refine ⟨_, rfl, a, ob i, fs, _, _, _, rfl, hX.same s1, (xk_at T i hi).1, (xk_at T i hi).2, (fun u hu => hu), bas_at T hi (show 5 < 7 by decide), ?_⟩
        refine ⟨_, rfl, a, ob i, fs, _, _, _, rfl, hX.same s1, (xk_at T i hi).1, (xk_at T i hi).2, (fun u hu => hu), bas_at T hi (show 6 < 7 by decide), ?_⟩
        refine ⟨(show 3 ≤ sizeLine by decide), fun l hl => ?_⟩
        have nl : Same H1 (upd H1 l (.lst [V.bl (basB i 4), V.bl (basB i 5), V.bl (basB i 6)])) := Same.new hl
        refine ⟨_, _, _, _, rfl, rfl, nl _ _ hl1, upd_same, (show 7 ≤ sizeLine by decide), fun r hr => ⟨r, rfl, (s1.trans nl).trans (Same.new hr), upd_same⟩⟩
      · rintro _ H2 ⟨l2, rfl, s2, hl2⟩
        refine ⟨7, rfl, by decide, by decide, fun D hD => lc_range (lo := 0) (n := 7) (fun k H' => Same H2 H' ∧ H' D = some (.lst (((List.range k).filter (basB i)).map fun (n : Nat) => V.int n))) ⟨Same.new hD, upd_same⟩ ?_ ?_⟩
        · rintro k H3 hk ⟨sm, hDl⟩
          have hat : atI ((List.range 7).map fun j => V.bl (basB i j)) (0 + (k : Int)) = some (.bl (basB i k)) := by
            rw [Int.zero_add]
            refine atI_nat ?_
            rw [List.getElem?_map, List.getElem?_range hk]
            rfl
          have eS : ((List.range (k + 1)).filter (basB i)).map (fun (n : Nat) => V.int n) = if basB i k = true then ((List.range k).filter (basB i)).map (fun (n : Nat) => V.int n) ++ [V.int k] else ((List.range k).filter (basB i)).map (fun (n : Nat) => V.int n) := by
            rw [List.range_succ, List.filter_append]
            cases hb : basB i k with
            | true =>
              rw [if_pos rfl, List.map_append]
              simp [hb]
            | false =>
              rw [if_neg Bool.false_ne_true]
              simp [hb]
          refine ⟨rfl, _, rfl, _, rfl, _, _, _, _, rfl, rfl, SqL.of (sm _ _ hl2), hat, _, rfl, ?_⟩
          cases hb : basB i k with
          | true =>
            rw [hb, if_pos rfl] at eS
            refine iteT ⟨_, rfl, _, hDl, ?_, Same.mut sm hD, ?_⟩
            · rw [List.length_map]
              have h1 := List.length_filter_le (basB i) (List.range k)
              rw [List.length_range] at h1
              exact Nat.lt_of_le_of_lt (Nat.le_trans h1 (Nat.le_of_lt hk)) (show 7 < sizeLine by decide)
            · rw [upd_same, eS, Int.zero_add]
          | false =>
            rw [hb, if_neg Bool.false_ne_true] at eS
            refine iteF ⟨sm, ?_⟩
            rw [eS]
            exact hDl
        · rintro H3 ⟨sm, hDl⟩
          refine q _ D (s2.trans sm) ?_
          rw [hDl, bas_list i hi, List.map_map]
          rfl
def sp_lfields (ob : Nat → Addr) : Sp := fun vs H Q _ => ∃ (a : Addr) (i : Nat) (x y z : V), vs = [.ref a, .str (clsW i)] ∧ i < 14 ∧ XV H a (ob i) (fldS i x y z) ∧
  ∀ (H' : Hp) (l : Addr), Same H H' → H' l = some (.lst (fldV i x y z)) → Q (.ref l) H'
theorem xf_at (T : Txt K w mg f fd ob) {i : Nat} (hi : i < 14) : XfC K (ob i) := by
  have h := (xk_at T i hi).1
  exact ⟨h.hg, h.hk, h.hs, h.hd⟩
theorem ok_lfields (T : Txt K w mg f fd ob) : FnOk P w K mg base CX0 1 (f 32) (fd 32) ["_law_e", "_law_word"] (sp_lfields ob) := by
  refine T.F_lfields.ok sc_lfields (fun vs H Q E h => ?_) (fun cdv A outer s H vs Q E hr h => ?_)
  · obtain ⟨a, i, x, y, z, rfl, _⟩ := h
    rfl
  · obtain ⟨a, i, x, y, z, rfl, hi, hX, q⟩ := h
    refine ⟨_, (pss_cons (ps_if (pt_cmpR op_in_seq (pv 1) (pe_tup (pa_cons pe_str (pa_cons pe_str pa_nil))) (by rfl)) (pss_one (ps_ret (pe_lst (pa_cons (pe_xfV (pv 0)) (pa_cons (pe_xfV (pv 0)) pa_nil))))) pss_nil)
      (pss_cons (ps_if (pt_cmpR op_eq (pv 1) pe_str (nomark _)) (pss_one (ps_ret (pe_lst (pa_cons (pe_xfV (pv 0)) (pa_cons (pe_xfV (pv 0)) (pa_cons (pe_xfV (pv 0)) pa_nil)))))) pss_nil)
      (pss_cons (ps_if (pt_cmpR op_in_seq (pv 1) (pe_tup (pa_cons pe_str (pa_cons pe_str (pa_cons pe_str pa_nil)))) (by rfl)) (pss_one (ps_ret (pe_lst (pa_cons (pe_ifExp (pt_cmpR op_eq (pv 1) pe_str (nomark _)) (pe_xfV (pv 0)) (pe_ifExp (pt_cmpR op_eq (pv 1) pe_str (nomark _)) (pe_xfV (pv 0)) (pe_xfV (pv 0)))) pa_nil)))) pss_nil)
      (pss_cons (ps_if (pt_cmpR op_in_seq (pv 1) (pe_tup (pa_cons pe_str (pa_cons pe_str (pa_cons pe_str pa_nil)))) (by rfl)) (pss_one (ps_ret (pe_lst (pa_cons (pe_ifExp (pt_cmpR op_eq (pv 1) pe_str (nomark _)) (pe_xfV (pv 0)) (pe_ifExp (pt_cmpR op_eq (pv 1) pe_str (nomark _)) (pe_xfV (pv 0)) (pe_xfV (pv 0)))) pa_nil)))) pss_nil)
      (pss_one (ps_ret (pe_lst (pa_cons (pe_xfV (pv 0)) pa_nil)))))))), ?_⟩
    match i, hi with
    | 0, hi =>
      refine ⟨_, rfl, (show 2 ≤ sizeLine by decide), fun p1 h1 => ?_⟩
      have s1 : Same H (upd H p1 (.tup [V.str "ahead", V.str "pair"])) := Same.new h1
      refine ⟨p1, _, rfl, .inr (SqT.of upd_same), rfl, rfl, _, rfl, iteB0 (by decide +kernel) ?_⟩
      refine ⟨_, rfl, rfl, _, rfl, iteB0 (by decide +kernel) ?_⟩
      refine ⟨_, rfl, (show 3 ≤ sizeLine by decide), fun p2 h2 => ?_⟩
      have s2 : Same (upd H p1 (.tup [V.str "ahead", V.str "pair"])) (upd (upd H p1 (.tup [V.str "ahead", V.str "pair"])) p2 (.tup [V.str "text", V.str "row", V.str "replay"])) := Same.new h2
      refine ⟨p2, _, rfl, .inr (SqT.of upd_same), rfl, rfl, _, rfl, iteB1 (by decide +kernel) ?_⟩
      refine ⟨_, rfl, rfl, _, rfl, iteB1 (by decide +kernel) ?_⟩
      refine ⟨_, rfl, a, ob 0, _, _, rfl, (hX.same (s1.trans s2)), xf_at T hi, T.XN_NoText_nth, rfl, ?_⟩
      exact ⟨(show 1 ≤ sizeLine by decide), fun l hl => q _ l ((s1.trans s2).trans (Same.new hl)) upd_same⟩
    | 1, hi =>
      refine ⟨_, rfl, (show 2 ≤ sizeLine by decide), fun p1 h1 => ?_⟩
      have s1 : Same H (upd H p1 (.tup [V.str "ahead", V.str "pair"])) := Same.new h1
      refine ⟨p1, _, rfl, .inr (SqT.of upd_same), rfl, rfl, _, rfl, iteB1 (by decide +kernel) ?_⟩
      refine ⟨_, rfl, a, ob 1, _, _, rfl, (hX.same (s1)), xf_at T hi, T.XN_NotAhead_one, rfl, ?_⟩
      refine ⟨_, rfl, a, ob 1, _, _, rfl, (hX.same (s1)), xf_at T hi, T.XN_NotAhead_other, rfl, ?_⟩
      exact ⟨(show 2 ≤ sizeLine by decide), fun l hl => q _ l ((s1).trans (Same.new hl)) upd_same⟩
    | 2, hi =>
      refine ⟨_, rfl, (show 2 ≤ sizeLine by decide), fun p1 h1 => ?_⟩
      have s1 : Same H (upd H p1 (.tup [V.str "ahead", V.str "pair"])) := Same.new h1
      refine ⟨p1, _, rfl, .inr (SqT.of upd_same), rfl, rfl, _, rfl, iteB0 (by decide +kernel) ?_⟩
      refine ⟨_, rfl, rfl, _, rfl, iteB0 (by decide +kernel) ?_⟩
      refine ⟨_, rfl, (show 3 ≤ sizeLine by decide), fun p2 h2 => ?_⟩
      have s2 : Same (upd H p1 (.tup [V.str "ahead", V.str "pair"])) (upd (upd H p1 (.tup [V.str "ahead", V.str "pair"])) p2 (.tup [V.str "text", V.str "row", V.str "replay"])) := Same.new h2
      refine ⟨p2, _, rfl, .inr (SqT.of upd_same), rfl, rfl, _, rfl, iteB1 (by decide +kernel) ?_⟩
      refine ⟨_, rfl, rfl, _, rfl, iteB0 (by decide +kernel) ?_⟩
      refine ⟨_, rfl, rfl, _, rfl, iteB1 (by decide +kernel) ?_⟩
      refine ⟨_, rfl, a, ob 2, _, _, rfl, (hX.same (s1.trans s2)), xf_at T hi, T.XN_NoRow_said, rfl, ?_⟩
      exact ⟨(show 1 ≤ sizeLine by decide), fun l hl => q _ l ((s1.trans s2).trans (Same.new hl)) upd_same⟩
    | 3, hi =>
      refine ⟨_, rfl, (show 2 ≤ sizeLine by decide), fun p1 h1 => ?_⟩
      have s1 : Same H (upd H p1 (.tup [V.str "ahead", V.str "pair"])) := Same.new h1
      refine ⟨p1, _, rfl, .inr (SqT.of upd_same), rfl, rfl, _, rfl, iteB0 (by decide +kernel) ?_⟩
      refine ⟨_, rfl, rfl, _, rfl, iteB1 (by decide +kernel) ?_⟩
      refine ⟨_, rfl, a, ob 3, _, _, rfl, (hX.same (s1)), xf_at T hi, T.XN_NotReady_nth, rfl, ?_⟩
      refine ⟨_, rfl, a, ob 3, _, _, rfl, (hX.same (s1)), xf_at T hi, T.XN_NotReady_who, rfl, ?_⟩
      refine ⟨_, rfl, a, ob 3, _, _, rfl, (hX.same (s1)), xf_at T hi, T.XN_NotReady_what, rfl, ?_⟩
      exact ⟨(show 3 ≤ sizeLine by decide), fun l hl => q _ l ((s1).trans (Same.new hl)) upd_same⟩
    | 4, hi =>
      refine ⟨_, rfl, (show 2 ≤ sizeLine by decide), fun p1 h1 => ?_⟩
      have s1 : Same H (upd H p1 (.tup [V.str "ahead", V.str "pair"])) := Same.new h1
      refine ⟨p1, _, rfl, .inr (SqT.of upd_same), rfl, rfl, _, rfl, iteB0 (by decide +kernel) ?_⟩
      refine ⟨_, rfl, rfl, _, rfl, iteB0 (by decide +kernel) ?_⟩
      refine ⟨_, rfl, (show 3 ≤ sizeLine by decide), fun p2 h2 => ?_⟩
      have s2 : Same (upd H p1 (.tup [V.str "ahead", V.str "pair"])) (upd (upd H p1 (.tup [V.str "ahead", V.str "pair"])) p2 (.tup [V.str "text", V.str "row", V.str "replay"])) := Same.new h2
      refine ⟨p2, _, rfl, .inr (SqT.of upd_same), rfl, rfl, _, rfl, iteB1 (by decide +kernel) ?_⟩
      refine ⟨_, rfl, rfl, _, rfl, iteB0 (by decide +kernel) ?_⟩
      refine ⟨_, rfl, rfl, _, rfl, iteB0 (by decide +kernel) ?_⟩
      refine ⟨_, rfl, a, ob 4, _, _, rfl, (hX.same (s1.trans s2)), xf_at T hi, T.XN_NoReplay_stopped, rfl, ?_⟩
      exact ⟨(show 1 ≤ sizeLine by decide), fun l hl => q _ l ((s1.trans s2).trans (Same.new hl)) upd_same⟩
    | 5, hi =>
      refine ⟨_, rfl, (show 2 ≤ sizeLine by decide), fun p1 h1 => ?_⟩
      have s1 : Same H (upd H p1 (.tup [V.str "ahead", V.str "pair"])) := Same.new h1
      refine ⟨p1, _, rfl, .inr (SqT.of upd_same), rfl, rfl, _, rfl, iteB0 (by decide +kernel) ?_⟩
      refine ⟨_, rfl, rfl, _, rfl, iteB0 (by decide +kernel) ?_⟩
      refine ⟨_, rfl, (show 3 ≤ sizeLine by decide), fun p2 h2 => ?_⟩
      have s2 : Same (upd H p1 (.tup [V.str "ahead", V.str "pair"])) (upd (upd H p1 (.tup [V.str "ahead", V.str "pair"])) p2 (.tup [V.str "text", V.str "row", V.str "replay"])) := Same.new h2
      refine ⟨p2, _, rfl, .inr (SqT.of upd_same), rfl, rfl, _, rfl, iteB0 (by decide +kernel) ?_⟩
      refine ⟨_, rfl, (show 3 ≤ sizeLine by decide), fun p3 h3 => ?_⟩
      have s3 : Same (upd (upd H p1 (.tup [V.str "ahead", V.str "pair"])) p2 (.tup [V.str "text", V.str "row", V.str "replay"])) (upd (upd (upd H p1 (.tup [V.str "ahead", V.str "pair"])) p2 (.tup [V.str "text", V.str "row", V.str "replay"])) p3 (.tup [V.str "many", V.str "long", V.str "yet"])) := Same.new h3
      refine ⟨p3, _, rfl, .inr (SqT.of upd_same), rfl, rfl, _, rfl, iteB0 (by decide +kernel) ?_⟩
      refine ⟨_, rfl, a, ob 5, _, _, rfl, (hX.same ((s1.trans s2).trans s3)), xf_at T hi, T.XN_NoPlace_asked, rfl, ?_⟩
      exact ⟨(show 1 ≤ sizeLine by decide), fun l hl => q _ l (((s1.trans s2).trans s3).trans (Same.new hl)) upd_same⟩
    | 6, hi =>
      refine ⟨_, rfl, (show 2 ≤ sizeLine by decide), fun p1 h1 => ?_⟩
      have s1 : Same H (upd H p1 (.tup [V.str "ahead", V.str "pair"])) := Same.new h1
      refine ⟨p1, _, rfl, .inr (SqT.of upd_same), rfl, rfl, _, rfl, iteB0 (by decide +kernel) ?_⟩
      refine ⟨_, rfl, rfl, _, rfl, iteB0 (by decide +kernel) ?_⟩
      refine ⟨_, rfl, (show 3 ≤ sizeLine by decide), fun p2 h2 => ?_⟩
      have s2 : Same (upd H p1 (.tup [V.str "ahead", V.str "pair"])) (upd (upd H p1 (.tup [V.str "ahead", V.str "pair"])) p2 (.tup [V.str "text", V.str "row", V.str "replay"])) := Same.new h2
      refine ⟨p2, _, rfl, .inr (SqT.of upd_same), rfl, rfl, _, rfl, iteB0 (by decide +kernel) ?_⟩
      refine ⟨_, rfl, (show 3 ≤ sizeLine by decide), fun p3 h3 => ?_⟩
      have s3 : Same (upd (upd H p1 (.tup [V.str "ahead", V.str "pair"])) p2 (.tup [V.str "text", V.str "row", V.str "replay"])) (upd (upd (upd H p1 (.tup [V.str "ahead", V.str "pair"])) p2 (.tup [V.str "text", V.str "row", V.str "replay"])) p3 (.tup [V.str "many", V.str "long", V.str "yet"])) := Same.new h3
      refine ⟨p3, _, rfl, .inr (SqT.of upd_same), rfl, rfl, _, rfl, iteB0 (by decide +kernel) ?_⟩
      refine ⟨_, rfl, a, ob 6, _, _, rfl, (hX.same ((s1.trans s2).trans s3)), xf_at T hi, T.XN_NoTime_asked, rfl, ?_⟩
      exact ⟨(show 1 ≤ sizeLine by decide), fun l hl => q _ l (((s1.trans s2).trans s3).trans (Same.new hl)) upd_same⟩
    | 7, hi =>
      refine ⟨_, rfl, (show 2 ≤ sizeLine by decide), fun p1 h1 => ?_⟩
      have s1 : Same H (upd H p1 (.tup [V.str "ahead", V.str "pair"])) := Same.new h1
      refine ⟨p1, _, rfl, .inr (SqT.of upd_same), rfl, rfl, _, rfl, iteB0 (by decide +kernel) ?_⟩
      refine ⟨_, rfl, rfl, _, rfl, iteB0 (by decide +kernel) ?_⟩
      refine ⟨_, rfl, (show 3 ≤ sizeLine by decide), fun p2 h2 => ?_⟩
      have s2 : Same (upd H p1 (.tup [V.str "ahead", V.str "pair"])) (upd (upd H p1 (.tup [V.str "ahead", V.str "pair"])) p2 (.tup [V.str "text", V.str "row", V.str "replay"])) := Same.new h2
      refine ⟨p2, _, rfl, .inr (SqT.of upd_same), rfl, rfl, _, rfl, iteB0 (by decide +kernel) ?_⟩
      refine ⟨_, rfl, (show 3 ≤ sizeLine by decide), fun p3 h3 => ?_⟩
      have s3 : Same (upd (upd H p1 (.tup [V.str "ahead", V.str "pair"])) p2 (.tup [V.str "text", V.str "row", V.str "replay"])) (upd (upd (upd H p1 (.tup [V.str "ahead", V.str "pair"])) p2 (.tup [V.str "text", V.str "row", V.str "replay"])) p3 (.tup [V.str "many", V.str "long", V.str "yet"])) := Same.new h3
      refine ⟨p3, _, rfl, .inr (SqT.of upd_same), rfl, rfl, _, rfl, iteB0 (by decide +kernel) ?_⟩
      refine ⟨_, rfl, a, ob 7, _, _, rfl, (hX.same ((s1.trans s2).trans s3)), xf_at T hi, T.XN_NoStep_asked, rfl, ?_⟩
      exact ⟨(show 1 ≤ sizeLine by decide), fun l hl => q _ l (((s1.trans s2).trans s3).trans (Same.new hl)) upd_same⟩
    | 8, hi =>
      refine ⟨_, rfl, (show 2 ≤ sizeLine by decide), fun p1 h1 => ?_⟩
      have s1 : Same H (upd H p1 (.tup [V.str "ahead", V.str "pair"])) := Same.new h1
      refine ⟨p1, _, rfl, .inr (SqT.of upd_same), rfl, rfl, _, rfl, iteB1 (by decide +kernel) ?_⟩
      refine ⟨_, rfl, a, ob 8, _, _, rfl, (hX.same (s1)), xf_at T hi, T.XN_NoPair_one, rfl, ?_⟩
      refine ⟨_, rfl, a, ob 8, _, _, rfl, (hX.same (s1)), xf_at T hi, T.XN_NoPair_other, rfl, ?_⟩
      exact ⟨(show 2 ≤ sizeLine by decide), fun l hl => q _ l ((s1).trans (Same.new hl)) upd_same⟩
    | 9, hi =>
      refine ⟨_, rfl, (show 2 ≤ sizeLine by decide), fun p1 h1 => ?_⟩
      have s1 : Same H (upd H p1 (.tup [V.str "ahead", V.str "pair"])) := Same.new h1
      refine ⟨p1, _, rfl, .inr (SqT.of upd_same), rfl, rfl, _, rfl, iteB0 (by decide +kernel) ?_⟩
      refine ⟨_, rfl, rfl, _, rfl, iteB0 (by decide +kernel) ?_⟩
      refine ⟨_, rfl, (show 3 ≤ sizeLine by decide), fun p2 h2 => ?_⟩
      have s2 : Same (upd H p1 (.tup [V.str "ahead", V.str "pair"])) (upd (upd H p1 (.tup [V.str "ahead", V.str "pair"])) p2 (.tup [V.str "text", V.str "row", V.str "replay"])) := Same.new h2
      refine ⟨p2, _, rfl, .inr (SqT.of upd_same), rfl, rfl, _, rfl, iteB0 (by decide +kernel) ?_⟩
      refine ⟨_, rfl, (show 3 ≤ sizeLine by decide), fun p3 h3 => ?_⟩
      have s3 : Same (upd (upd H p1 (.tup [V.str "ahead", V.str "pair"])) p2 (.tup [V.str "text", V.str "row", V.str "replay"])) (upd (upd (upd H p1 (.tup [V.str "ahead", V.str "pair"])) p2 (.tup [V.str "text", V.str "row", V.str "replay"])) p3 (.tup [V.str "many", V.str "long", V.str "yet"])) := Same.new h3
      refine ⟨p3, _, rfl, .inr (SqT.of upd_same), rfl, rfl, _, rfl, iteB0 (by decide +kernel) ?_⟩
      refine ⟨_, rfl, a, ob 9, _, _, rfl, (hX.same ((s1.trans s2).trans s3)), xf_at T hi, T.XN_NoThread_asked, rfl, ?_⟩
      exact ⟨(show 1 ≤ sizeLine by decide), fun l hl => q _ l (((s1.trans s2).trans s3).trans (Same.new hl)) upd_same⟩
    | 10, hi =>
      refine ⟨_, rfl, (show 2 ≤ sizeLine by decide), fun p1 h1 => ?_⟩
      have s1 : Same H (upd H p1 (.tup [V.str "ahead", V.str "pair"])) := Same.new h1
      refine ⟨p1, _, rfl, .inr (SqT.of upd_same), rfl, rfl, _, rfl, iteB0 (by decide +kernel) ?_⟩
      refine ⟨_, rfl, rfl, _, rfl, iteB0 (by decide +kernel) ?_⟩
      refine ⟨_, rfl, (show 3 ≤ sizeLine by decide), fun p2 h2 => ?_⟩
      have s2 : Same (upd H p1 (.tup [V.str "ahead", V.str "pair"])) (upd (upd H p1 (.tup [V.str "ahead", V.str "pair"])) p2 (.tup [V.str "text", V.str "row", V.str "replay"])) := Same.new h2
      refine ⟨p2, _, rfl, .inr (SqT.of upd_same), rfl, rfl, _, rfl, iteB0 (by decide +kernel) ?_⟩
      refine ⟨_, rfl, (show 3 ≤ sizeLine by decide), fun p3 h3 => ?_⟩
      have s3 : Same (upd (upd H p1 (.tup [V.str "ahead", V.str "pair"])) p2 (.tup [V.str "text", V.str "row", V.str "replay"])) (upd (upd (upd H p1 (.tup [V.str "ahead", V.str "pair"])) p2 (.tup [V.str "text", V.str "row", V.str "replay"])) p3 (.tup [V.str "many", V.str "long", V.str "yet"])) := Same.new h3
      refine ⟨p3, _, rfl, .inr (SqT.of upd_same), rfl, rfl, _, rfl, iteB0 (by decide +kernel) ?_⟩
      refine ⟨_, rfl, a, ob 10, _, _, rfl, (hX.same ((s1.trans s2).trans s3)), xf_at T hi, T.XN_NoSource_asked, rfl, ?_⟩
      exact ⟨(show 1 ≤ sizeLine by decide), fun l hl => q _ l (((s1.trans s2).trans s3).trans (Same.new hl)) upd_same⟩
    | 11, hi =>
      refine ⟨_, rfl, (show 2 ≤ sizeLine by decide), fun p1 h1 => ?_⟩
      have s1 : Same H (upd H p1 (.tup [V.str "ahead", V.str "pair"])) := Same.new h1
      refine ⟨p1, _, rfl, .inr (SqT.of upd_same), rfl, rfl, _, rfl, iteB0 (by decide +kernel) ?_⟩
      refine ⟨_, rfl, rfl, _, rfl, iteB0 (by decide +kernel) ?_⟩
      refine ⟨_, rfl, (show 3 ≤ sizeLine by decide), fun p2 h2 => ?_⟩
      have s2 : Same (upd H p1 (.tup [V.str "ahead", V.str "pair"])) (upd (upd H p1 (.tup [V.str "ahead", V.str "pair"])) p2 (.tup [V.str "text", V.str "row", V.str "replay"])) := Same.new h2
      refine ⟨p2, _, rfl, .inr (SqT.of upd_same), rfl, rfl, _, rfl, iteB0 (by decide +kernel) ?_⟩
      refine ⟨_, rfl, (show 3 ≤ sizeLine by decide), fun p3 h3 => ?_⟩
      have s3 : Same (upd (upd H p1 (.tup [V.str "ahead", V.str "pair"])) p2 (.tup [V.str "text", V.str "row", V.str "replay"])) (upd (upd (upd H p1 (.tup [V.str "ahead", V.str "pair"])) p2 (.tup [V.str "text", V.str "row", V.str "replay"])) p3 (.tup [V.str "many", V.str "long", V.str "yet"])) := Same.new h3
      refine ⟨p3, _, rfl, .inr (SqT.of upd_same), rfl, rfl, _, rfl, iteB1 (by decide +kernel) ?_⟩
      refine ⟨_, rfl, rfl, _, rfl, iteB1 (by decide +kernel) ?_⟩
      refine ⟨_, rfl, a, ob 11, _, _, rfl, (hX.same ((s1.trans s2).trans s3)), xf_at T hi, T.XN_TooMany_most, rfl, ?_⟩
      exact ⟨(show 1 ≤ sizeLine by decide), fun l hl => q _ l (((s1.trans s2).trans s3).trans (Same.new hl)) upd_same⟩
    | 12, hi =>
      refine ⟨_, rfl, (show 2 ≤ sizeLine by decide), fun p1 h1 => ?_⟩
      have s1 : Same H (upd H p1 (.tup [V.str "ahead", V.str "pair"])) := Same.new h1
      refine ⟨p1, _, rfl, .inr (SqT.of upd_same), rfl, rfl, _, rfl, iteB0 (by decide +kernel) ?_⟩
      refine ⟨_, rfl, rfl, _, rfl, iteB0 (by decide +kernel) ?_⟩
      refine ⟨_, rfl, (show 3 ≤ sizeLine by decide), fun p2 h2 => ?_⟩
      have s2 : Same (upd H p1 (.tup [V.str "ahead", V.str "pair"])) (upd (upd H p1 (.tup [V.str "ahead", V.str "pair"])) p2 (.tup [V.str "text", V.str "row", V.str "replay"])) := Same.new h2
      refine ⟨p2, _, rfl, .inr (SqT.of upd_same), rfl, rfl, _, rfl, iteB0 (by decide +kernel) ?_⟩
      refine ⟨_, rfl, (show 3 ≤ sizeLine by decide), fun p3 h3 => ?_⟩
      have s3 : Same (upd (upd H p1 (.tup [V.str "ahead", V.str "pair"])) p2 (.tup [V.str "text", V.str "row", V.str "replay"])) (upd (upd (upd H p1 (.tup [V.str "ahead", V.str "pair"])) p2 (.tup [V.str "text", V.str "row", V.str "replay"])) p3 (.tup [V.str "many", V.str "long", V.str "yet"])) := Same.new h3
      refine ⟨p3, _, rfl, .inr (SqT.of upd_same), rfl, rfl, _, rfl, iteB1 (by decide +kernel) ?_⟩
      refine ⟨_, rfl, rfl, _, rfl, iteB0 (by decide +kernel) ?_⟩
      refine ⟨_, rfl, rfl, _, rfl, iteB1 (by decide +kernel) ?_⟩
      refine ⟨_, rfl, a, ob 12, _, _, rfl, (hX.same ((s1.trans s2).trans s3)), xf_at T hi, T.XN_TooLong_limit, rfl, ?_⟩
      exact ⟨(show 1 ≤ sizeLine by decide), fun l hl => q _ l (((s1.trans s2).trans s3).trans (Same.new hl)) upd_same⟩
    | 13, hi =>
      refine ⟨_, rfl, (show 2 ≤ sizeLine by decide), fun p1 h1 => ?_⟩
      have s1 : Same H (upd H p1 (.tup [V.str "ahead", V.str "pair"])) := Same.new h1
      refine ⟨p1, _, rfl, .inr (SqT.of upd_same), rfl, rfl, _, rfl, iteB0 (by decide +kernel) ?_⟩
      refine ⟨_, rfl, rfl, _, rfl, iteB0 (by decide +kernel) ?_⟩
      refine ⟨_, rfl, (show 3 ≤ sizeLine by decide), fun p2 h2 => ?_⟩
      have s2 : Same (upd H p1 (.tup [V.str "ahead", V.str "pair"])) (upd (upd H p1 (.tup [V.str "ahead", V.str "pair"])) p2 (.tup [V.str "text", V.str "row", V.str "replay"])) := Same.new h2
      refine ⟨p2, _, rfl, .inr (SqT.of upd_same), rfl, rfl, _, rfl, iteB0 (by decide +kernel) ?_⟩
      refine ⟨_, rfl, (show 3 ≤ sizeLine by decide), fun p3 h3 => ?_⟩
      have s3 : Same (upd (upd H p1 (.tup [V.str "ahead", V.str "pair"])) p2 (.tup [V.str "text", V.str "row", V.str "replay"])) (upd (upd (upd H p1 (.tup [V.str "ahead", V.str "pair"])) p2 (.tup [V.str "text", V.str "row", V.str "replay"])) p3 (.tup [V.str "many", V.str "long", V.str "yet"])) := Same.new h3
      refine ⟨p3, _, rfl, .inr (SqT.of upd_same), rfl, rfl, _, rfl, iteB1 (by decide +kernel) ?_⟩
      refine ⟨_, rfl, rfl, _, rfl, iteB0 (by decide +kernel) ?_⟩
      refine ⟨_, rfl, rfl, _, rfl, iteB0 (by decide +kernel) ?_⟩
      refine ⟨_, rfl, a, ob 13, _, _, rfl, (hX.same ((s1.trans s2).trans s3)), xf_at T hi, T.XN_NotYet_what, rfl, ?_⟩
      exact ⟨(show 1 ≤ sizeLine by decide), fun l hl => q _ l (((s1.trans s2).trans s3).trans (Same.new hl)) upd_same⟩
    | n + 14, h => exact absurd h (by omega)
def sp_lmany : Sp := fun vs H Q _ => ∃ (p c : Addr) (ns : List Int) (n : Int), vs = [.ref p] ∧ Pen H p c ns n ∧ n < 900000 ∧
  ∀ (H' : Hp) (l : Addr) (ts : List Int) (n' : Int), Kp p H H' → Pen H' p c ns n' → n ≤ n' → n' ≤ n + 50 → H' l = some (.lst (ts.map V.int)) → l ≠ p → ts.length ≤ 400 → (∀ x ∈ ts, 0 ≤ x ∧ x ≤ 3) → Q (.ref l) H'
theorem ok_lmany (T : Txt K w mg f fd ob) : FnOk P w K mg base CX0 2 (f 25) (fd 25) ["_law_pen_here"] sp_lmany := by
  have G_ldraw := ok_ldraw (P := P) (w := w) (base := base) T
  refine T.F_lmany.ok sc_lmany (fun vs H Q E h => ?_) (fun cdv A outer s H vs Q E hr h => ?_)
  · obtain ⟨p, c, ns, n, rfl, _⟩ := h
    rfl
  · obtain ⟨p, c, ns, n, rfl, hP, hn, q⟩ := h
    have hr_ldraw := hr
    refine ⟨_, (C8.pss_cut (ps_par (i := 1) (j := 2) (by rfl) sc_lmany.nd rfl rfl (by decide) rfl rfl (pa_cons (pe_lst pa_nil) (pa_cons (pe_ix ix_list (pe_lst (pa_cons pe_int (pa_cons pe_int (pa_cons pe_int pa_nil)))) (pe_call G_ldraw hr_ldraw (by rfl) T.m_ldraw T.F_ldraw.kp T.b_ldraw .nil pass0 (pa_cons (pv 0) (pa_cons pe_int pa_nil))) (fun _ _ => rfl)) pa_nil)) (by rfl))
      (pss_cons (ps_for PassesOwn.never rfl (pi_range1 (by rfl) T.z_range (pa_cons (pe_call G_ldraw hr_ldraw (by rfl) T.m_ldraw T.F_ldraw.kp T.b_ldraw .nil pass0 (pa_cons (pv 0) (pa_cons pe_int pa_nil))) pa_nil)) (pg_name (i := 3) sc_lmany.nd rfl (Or.inl rfl)) (pss_one (ps_set (i := 1) sc_lmany.nd rfl (Or.inl rfl) (pe_op op_cat (pv 1) (pe_op op_rep (pe_lst (pa_cons (pe_call G_ldraw hr_ldraw (by rfl) T.m_ldraw T.F_ldraw.kp T.b_ldraw .nil pass0 (pa_cons (pv 0) (pa_cons pe_int pa_nil))) pa_nil)) (pe_op op_add pe_int (pe_call G_ldraw hr_ldraw (by rfl) T.m_ldraw T.F_ldraw.kp T.b_ldraw .nil pass0 (pa_cons (pv 0) (pa_cons (pe_ix ix_list (pe_lst (pa_cons pe_int (pa_cons pe_int (pa_cons pe_int pa_nil)))) (pe_call G_ldraw hr_ldraw (by rfl) T.m_ldraw T.F_ldraw.kp T.b_ldraw .nil pass0 (pa_cons (pv 0) (pa_cons pe_int pa_nil))) (fun _ _ => rfl)) pa_nil)))))))))
      (pss_one (ps_ret (pe_slice sl_list (pv 1) po_none (po_some (pv 2))))))), ?_⟩
    refine ⟨fun σ' H' => ∃ (l : Addr) (m : Nat) (n' : Int), σ' = [some (.ref p), some (.ref l), some (.int m), none] ∧ Kp p H H' ∧ Pen H' p c ns n' ∧ n ≤ n' ∧ n' ≤ n + 1 ∧ H' l = some (.lst []) ∧ l ≠ p ∧ m ≤ 400, ?_, ?_⟩
    · refine ⟨Nat.zero_le _, fun l hl => ⟨(show 3 ≤ sizeLine by decide), fun l3 hl3 => ?_⟩⟩
      refine ⟨_, rfl, p, c, ns, n, 3, rfl, (hP.new hl).new hl3, by decide, by decide, by omega, fun H1 d1 n1 k1 P1 d1a d1b n1a n1b => ?_⟩
      have e3 : H1 l3 = some (.lst [.int 9, .int 99, .int 400]) := k1 _ _ ((hP.new hl).ni hl3) upd_same
      have el : H1 l = some (.lst []) := k1 _ _ (hP.ni hl) (Same.new hl3 _ _ upd_same)
      obtain ⟨m, hm, hm1⟩ : ∃ m : Nat, atI [V.int 9, V.int 99, V.int 400] d1 = some (.int m) ∧ m ≤ 400 := by
        have h : d1 = 0 ∨ d1 = 1 ∨ d1 = 2 := by omega
        rcases h with rfl | rfl | rfl
        · exact ⟨9, rfl, by decide⟩
        · exact ⟨99, rfl, by decide⟩
        · exact ⟨400, rfl, by decide⟩
      exact ⟨_, _, _, _, rfl, rfl, SqL.of e3, hm, _, _, rfl, l, m, n1, rfl, ((Kp.new hl).trans (Kp.new hl3)).trans k1, P1, by omega, by omega, el, hP.ni hl, hm1⟩
    · rintro _ H1 ⟨l0, m, n1, rfl, k1, P1, n1a, n1b, hl0, nl0, hm⟩
      refine ⟨_, rfl, p, c, ns, n1, 12, rfl, P1, by decide, by decide, by omega, fun H2 d2 n2 k2 P2 d2a d2b n2a n2b => ?_⟩
      refine ⟨_, rfl, by omega, by omega, for_range (lo := 0) (n := d2.toNat) (fun j σ' H' => ∃ (l : Addr) (ts : List Int) (y : Option V) (n' : Int), σ' = [some (.ref p), some (.ref l), some (.int m), y] ∧ Kp p H H' ∧ Pen H' p c ns n' ∧ n ≤ n' ∧ n' ≤ n + 2 + 3 * j ∧ H' l = some (.lst (ts.map V.int)) ∧ l ≠ p ∧ ts.length ≤ 120 * j ∧ ∀ x ∈ ts, 0 ≤ x ∧ x ≤ 3)
        ⟨l0, [], none, n2, rfl, k1.trans k2, P2, by omega, by omega, k2 _ _ nl0 hl0, nl0, by simp, by simp⟩ ?_ ?_⟩
      · rintro j _ H3 hj ⟨l, ts, y, n3, rfl, k3, P3, n3a, n3b, hl, nl, hlen, hx⟩
        refine ⟨_, rfl, _, rfl, p, c, ns, n3, 4, rfl, P3, by decide, by decide, by omega, fun H4 d4 n4 k4 P4 d4a d4b n4a n4b => ?_⟩
        refine ⟨(show 1 ≤ sizeLine by decide), fun l1 hl1 => ?_⟩
        refine ⟨_, rfl, (show 3 ≤ sizeLine by decide), fun l3 hl3 => ?_⟩
        refine ⟨_, rfl, p, c, ns, n4, 3, rfl, (P4.new hl1).new hl3, by decide, by decide, by omega, fun H5 d5 n5 k5 P5 d5a d5b n5a n5b => ?_⟩
        have e3 : H5 l3 = some (.lst [.int 2, .int 12, .int 120]) := k5 _ _ ((P4.new hl1).ni hl3) upd_same
        have e1 : H5 l1 = some (.lst [.int d4]) := k5 _ _ (P4.ni hl1) (Same.new hl3 _ _ upd_same)
        have el : H5 l = some (.lst (ts.map V.int)) := k5 _ _ nl (Same.new hl3 _ _ (Same.new hl1 _ _ (k4 _ _ nl hl)))
        obtain ⟨v, hv, hv0, hv1⟩ : ∃ v : Int, atI [V.int 2, V.int 12, V.int 120] d5 = some (.int v) ∧ 1 ≤ v ∧ v ≤ 120 := by
          have h : d5 = 0 ∨ d5 = 1 ∨ d5 = 2 := by omega
          rcases h with rfl | rfl | rfl
          all_goals exact ⟨_, rfl, by decide, by decide⟩
        refine ⟨_, _, _, _, rfl, rfl, SqL.of e3, hv, p, c, ns, n5, v, rfl, P5, by omega, by omega, by omega, fun H6 d6 n6 k6 P6 d6a d6b n6a n6b => ?_⟩
        refine ⟨_, _, rfl, rfl, _, _, _, rfl, rfl, k6 _ _ (P4.ni hl1) e1, by omega, by omega, ?_, fun l2 hl2 => ?_⟩
        · show 1 * (1 + d6).toNat ≤ sizeLine
          exact len_size (by omega)
        · have er : (List.replicate (1 + d6).toNat [V.int d4]).flatten = (List.replicate (1 + d6).toNat d4).map V.int := by
            rw [flat_rep1, List.map_replicate]
          have e2 : (upd H6 l2 (.lst (List.replicate (1 + d6).toNat [V.int d4]).flatten)) l2 = some (.lst ((List.replicate (1 + d6).toNat d4).map V.int)) := by
            rw [upd_same, er]
          refine ⟨_, _, _, _, rfl, rfl, Same.new hl2 _ _ (k6 _ _ nl el), e2, ?_, fun l4 hl4 => ?_⟩
          · rw [List.length_map, List.length_map, List.length_replicate]
            exact len_size (by omega)
          · refine ⟨l4, ts ++ List.replicate (1 + d6).toNat d4, _, n6, rfl, ?_, (P6.new hl2).new hl4, by omega, by omega, ?_, (P6.new hl2).ni hl4, ?_, ?_⟩
            · exact (((k3.trans k4).trans ((Kp.new hl1).trans (Kp.new hl3))).trans (k5.trans k6)).trans ((Kp.new hl2).trans (Kp.new hl4))
            · rw [upd_same, List.map_append]
            · rw [List.length_append, List.length_replicate]
              omega
            · intro x hx'
              rcases List.mem_append.mp hx' with h | h
              · exact hx x h
              · have := (List.mem_replicate.mp h).2
                omega
      · rintro _ H3 ⟨l, ts, y, n3, rfl, k3, P3, n3a, n3b, hl, nl, hlen, hx⟩
        refine ⟨_, rfl, _, rfl, _, rfl, l, _, rfl, SqL.of hl, fun b hb => ?_⟩
        refine q _ b (ts.take m) n3 (k3.trans (Kp.new hb)) (P3.new hb) (by omega) (by omega) ?_ (P3.ni hb) ?_ fun x hx' => hx x (List.mem_of_mem_take hx')
        · rw [upd_same, cutTo, List.map_take]
        · rw [List.length_take]
          omega
theorem cutMid (xs : List V) {i j : Nat} (h : i ≤ xs.length) (hj : i ≤ j) : cutV xs (some (i : Int)) (some (j : Int)) = (xs.drop i).take (j - i) := by
  unfold cutV
  rw [HT.sIx_nat, HT.sIx_nat, show min i xs.length = i by omega]
  by_cases h2 : j ≤ xs.length
  · rw [show min j xs.length = j by omega]
  · rw [show min j xs.length = xs.length by omega, List.take_of_length_le (by rw [List.length_drop]; omega), List.take_of_length_le (by rw [List.length_drop]; omega)]
theorem rep_next {x : Int} {m : Nat} {u : List Int} (h : (List.replicate m x ++ u).take (m + 1) = List.replicate (m + 1) x) : ∃ v, u = x :: v := by
  have h2 := congrArg (fun l => l.drop m) h
  rw [List.drop_take, List.drop_left' (by simp), List.drop_replicate, show m + 1 - m = 1 by omega] at h2
  cases u with
  | nil => cases h2
  | cons a v =>
    have : a = x := (List.cons.inj h2).1
    exact ⟨v, by rw [this]⟩
def sp_lpk (K : PySem.W.Frag) : Sp := fun vs H Q _ => ∃ (a : Addr) (ts : List Int), vs = [.ref a] ∧ SqL K H a (ts.map V.int) ∧ ts.length ≤ 400 ∧ (∀ x ∈ ts, 0 ≤ x ∧ x ≤ 3) ∧ ∀ H', Same H H' → Q (.str (pkS ts)) H'
theorem ok_lpk (T : Txt K w mg f fd ob) : FnOk P w K mg base CX0 1 (f 26) (fd 26) ["_law_turns"] (sp_lpk K) := by
  refine T.F_lpk.ok sc_lpk (fun vs H Q E h => ?_) (fun cdv A outer s H vs Q E hr h => ?_)
  · obtain ⟨a, ts, rfl, _⟩ := h
    rfl
  · obtain ⟨a, ts, rfl, hS, hlen, hx, q⟩ := h
    refine ⟨_, (C8.pss_cut (ps_par (i := 1) (j := 2) (by rfl) sc_lpk.nd rfl rfl (by decide) rfl rfl (pa_cons (pe_lst pa_nil) (pa_cons pe_int pa_nil)) (by rfl))
      (C8.pss_cut (ps_while PassesOwn.never (pt_cmpR op_lt (pv 2) (pe_callB call_len_seq (by rfl) T.z_len PySem.boot_len (pa_cons (pv 0) pa_nil)) (nomark _)) (pss_cons (ps_set (i := 3) sc_lpk.nd rfl (Or.inl rfl) pe_int)
      (C8.pss_cut (ps_while PassesOwn.never (pt_cmpR (op_eqD hr.units) (pe_slice sl_list (pv 0) (po_some (pv 2)) (po_some (pe_op op_add (pe_op op_add (pv 2) (pv 3)) pe_int))) (pe_op op_rep (pe_lst (pa_cons (pe_ix ix_list (pv 0) (pv 2) (fun _ _ => rfl)) pa_nil)) (pe_op op_add (pv 3) pe_int)) (nomark _)) (pss_one (ps_set (i := 3) sc_lpk.nd rfl (Or.inl rfl) (pe_op op_add (pv 3) pe_int))))
      (pss_cons (ps_expr (pe_bm PySem.F.plainAttrs_list PySem.F.slot_list_append PySem.F.type_list_append mt_append (pv 1) (pa_cons (pe_op op_add_str (pe_callTy call_str_int (by rfl) T.z_str (by decide +kernel) (pa_cons (pe_ix ix_list (pv 0) (pv 2) (fun _ _ => rfl)) pa_nil)) (pe_ix ix_list (pe_lst (pa_cons (pe_op op_add_str pe_str (pe_callTy call_str_int (by rfl) T.z_str (by decide +kernel) (pa_cons (pv 3) pa_nil))) (pa_cons pe_str pa_nil))) (pe_callTy call_int1 (by rfl) T.z_int (by decide +kernel) (pa_cons (pe_cmpR op_eq (pv 3) pe_int (nomark _)) pa_nil)) (fun _ _ => rfl))) pa_nil)))
      (pss_one (ps_set (i := 2) sc_lpk.nd rfl (Or.inl rfl) (pe_op op_add (pv 2) (pv 3))))))))
      (pss_one (ps_ret (pe_ifExp (pt_cmpR (op_neL0 hr.units) (pv 1) (pe_lst pa_nil) (nomark _)) (pe_join pe_str (pv 1)) pe_str))))), ?_⟩
    refine ⟨fun σ' H' => ∃ R, σ' = [some (.ref a), some (.ref R), some (.int 0), none] ∧ Same H H' ∧ H R = none ∧ H' R = some (.lst []), ?_, ?_⟩
    · exact ⟨Nat.zero_le _, fun R hR => ⟨_, _, rfl, R, rfl, Same.new hR, hR, upd_same⟩⟩
    · rintro _ H1 ⟨R, rfl, s1, hR, hR1⟩
      refine ⟨fun σ' H' => ∃ (v y : Option V), σ' = [some (.ref a), some (.ref R), v, y] ∧ Same H H' ∧ H' R = some (.lst ((runs ts).map fun p => V.str (wordS p))), ?_, ?_⟩
      · refine ⟨fun μ σ' H' => ∃ (k : Nat) (rs : List (Int × Nat)) (y : Option V), μ = ts.length - k ∧ k ≤ ts.length ∧ σ' = [some (.ref a), some (.ref R), some (.int k), y] ∧ Same H H' ∧ H' R = some (.lst (rs.map fun p => V.str (wordS p))) ∧ runs ts = rs ++ runs (ts.drop k),
          ⟨ts.length, 0, [], none, rfl, Nat.zero_le _, rfl, s1, hR1, rfl⟩, ?_⟩
        rintro _ _ H2 ⟨k, rs, y, rfl, hk, rfl, s2, hR2, er⟩
        refine ⟨_, rfl, _, rfl, a, _, rfl, .inl (s2.seq hS), _, _, rfl, rfl, _, rfl, ite2 (fun h1 => ?_) (fun h1 => ?_)⟩
        · have hk2 : k < ts.length := by
            have := of_decide_eq_true h1
            rw [List.length_map] at this
            omega
          obtain ⟨x, u, exu⟩ : ∃ x u, ts.drop k = x :: u := by
            cases e : ts.drop k with
            | nil =>
              have := congrArg List.length e
              rw [List.length_drop, List.length_nil] at this
              omega
            | cons x u => exact ⟨x, u, rfl⟩
          have hxk : ts[k]? = some x := by
            have := congrArg (fun l => l[0]?) exu
            rw [List.getElem?_drop] at this
            exact this
          have hat : atI (ts.map V.int) (k : Int) = some (.int x) := atI_nat (by rw [List.getElem?_map, hxk]; rfl)
          have hx3 := hx x (List.mem_of_getElem? hxk)
          refine ⟨fun σ' H' => ∃ (k' : Nat) (rs' : List (Int × Nat)) (y : Option V), k < k' ∧ k' ≤ ts.length ∧ σ' = [some (.ref a), some (.ref R), some (.int k'), y] ∧ Same H H' ∧ H' R = some (.lst (rs'.map fun p => V.str (wordS p))) ∧ runs ts = rs' ++ runs (ts.drop k'),
            fun σ' H' ⟨k', rs', y, h1, h2, h3, h4, h5, h6⟩ => ⟨ts.length - k', by omega, k', rs', y, rfl, h2, h3, h4, h5, h6⟩, ?_⟩
          refine ⟨fun σ' H' => ∃ (m : Nat) (u' : List Int), 1 ≤ m ∧ ts.drop k = List.replicate m x ++ u' ∧ (∀ y, u'.head? = some y → y ≠ x) ∧ σ' = [some (.ref a), some (.ref R), some (.int k), some (.int m)] ∧ Same H2 H', ?_, ?_⟩
          · refine ⟨fun μ σ' H' => ∃ (m : Nat) (u' : List Int), μ = ts.length - k - m ∧ 1 ≤ m ∧ ts.drop k = List.replicate m x ++ u' ∧ σ' = [some (.ref a), some (.ref R), some (.int k), some (.int m)] ∧ Same H2 H',
              ⟨_, 1, u, rfl, Nat.le_refl _, exu, rfl, fun _ _ z => z⟩, ?_⟩
            rintro _ _ H3 ⟨m, u', rfl, hm, ed, rfl, s3⟩
            have hml : m + u'.length = ts.length - k := by
              have := congrArg List.length ed
              rw [List.length_drop, List.length_append, List.length_replicate] at this
              omega
            have hS3 : SqL K H3 a (ts.map V.int) := s3.seq (s2.seq hS)
            refine ⟨_, rfl, _, rfl, _, rfl, _, rfl, _, rfl, _, _, rfl, rfl, _, _, rfl, rfl, _, rfl, a, _, rfl, hS3, fun b hb => ?_⟩
            have sb : Same H3 (upd H3 b (.lst (cutV (ts.map V.int) (some (k : Int)) (some ((k : Int) + (m : Int) + 1))))) := Same.new hb
            refine ⟨_, rfl, _, rfl, _, _, _, _, rfl, rfl, sb.seq hS3, hat, (show 1 ≤ sizeLine by decide), fun c hc => ?_⟩
            refine ⟨_, rfl, _, _, rfl, rfl, _, _, _, rfl, rfl, upd_same, by omega, by omega, ?_, fun d hd => ?_⟩
            · show 1 * ((m : Int) + 1).toNat ≤ sizeLine
              exact len_size (by omega)
            · have sc : Same _ (upd _ c (.lst [V.int x])) := Same.new hc
              have e1 : cutV (ts.map V.int) (some (k : Int)) (some ((k : Int) + (m : Int) + 1)) = ((ts.drop k).take (m + 1)).map V.int := by
                rw [show (k : Int) + (m : Int) + 1 = ((k + m + 1 : Nat) : Int) by omega, cutMid _ (by rw [List.length_map]; omega) (by omega), ← List.map_drop, ← List.map_take, show k + m + 1 - k = m + 1 by omega]
              have e2 : (List.replicate ((m : Int) + 1).toNat [V.int x]).flatten = (List.replicate (m + 1) x).map V.int := by
                rw [flat_rep1, show ((m : Int) + 1).toNat = m + 1 by omega, List.map_replicate]
              have g1 : (upd (upd (upd H3 b (.lst (cutV (ts.map V.int) (some (k : Int)) (some ((k : Int) + (m : Int) + 1))))) c (.lst [V.int x])) d (.lst (List.replicate ((m : Int) + 1).toNat [V.int x]).flatten)) b = some (.lst (((ts.drop k).take (m + 1)).map V.int)) := by
                rw [← e1]
                exact Same.new hd _ _ (sc _ _ upd_same)
              have g2 : (upd (upd (upd H3 b (.lst (cutV (ts.map V.int) (some (k : Int)) (some ((k : Int) + (m : Int) + 1))))) c (.lst [V.int x])) d (.lst (List.replicate ((m : Int) + 1).toNat [V.int x]).flatten)) d = some (.lst ((List.replicate (m + 1) x).map V.int)) := by
                rw [upd_same, e2]
              refine ⟨_, _, dpL (SqL.of g1), dpL (SqL.of g2), shInts _, shInts _, _, rfl, ?_⟩
              rw [eqvInts]
              have s4 := s3.trans (sb.trans (sc.trans (Same.new (o := .lst (List.replicate ((m : Int) + 1).toNat [V.int x]).flatten) hd)))
              by_cases e : (ts.drop k).take (m + 1) = List.replicate (m + 1) x
              · rw [decide_eq_true e]
                obtain ⟨v', eu⟩ : ∃ v', u' = x :: v' := rep_next (by rw [← ed]; exact e)
                refine iteT ⟨fun σ' H' => ∃ (m' : Nat) (u2 : List Int), m' = m + 1 ∧ ts.drop k = List.replicate m' x ++ u2 ∧ σ' = [some (.ref a), some (.ref R), some (.int k), some (.int m')] ∧ Same H2 H', ?_, ?_⟩
                · rintro σ' H' ⟨m', u2, rfl, h1, h2, h3⟩
                  have : 1 ≤ u'.length := by
                    rw [eu]
                    simp
                  exact ⟨ts.length - k - (m + 1), by omega, m + 1, u2, rfl, by omega, h1, h2, h3⟩
                · refine ⟨_, rfl, _, _, rfl, rfl, m + 1, v', rfl, ?_, rfl, s4⟩
                  rw [ed, eu, List.replicate_succ', List.append_assoc]
                  rfl
              · rw [decide_eq_false e]
                refine iteF ⟨m, u', hm, ed, fun y hy z => ?_, rfl, s4⟩
                subst z
                cases hu : u' with
                | nil =>
                  rw [hu] at hy
                  cases hy
                | cons a0 v' =>
                  rw [hu] at hy
                  have ha0 : a0 = y := Option.some.inj hy
                  apply e
                  rw [ed, hu, ha0, List.replicate_succ', show List.replicate m y ++ y :: v' = (List.replicate m y ++ [y]) ++ v' by simp]
                  exact List.take_left' (by simp)
          · rintro _ H3 ⟨m, u', hm, ed, hne, rfl, s3⟩
            have hml : m + u'.length = ts.length - k := by
              have := congrArg List.length ed
              rw [List.length_drop, List.length_append, List.length_replicate] at this
              omega
            have hS3 : SqL K H3 a (ts.map V.int) := s3.seq (s2.seq hS)
            have hR3 := s3 _ _ hR2
            have edk : ts.drop (k + m) = u' := by
              rw [← List.drop_drop, ed]
              exact List.drop_left' (by simp)
            have er2 : runs ts = (rs ++ [(x, m)]) ++ runs (ts.drop (k + m)) := by
              obtain ⟨m', rfl⟩ : ∃ m', m = m' + 1 := ⟨m - 1, by omega⟩
              rw [er, edk, ed, runs_rep x u' hne m', List.append_assoc]
              rfl
            have hrl : rs.length ≤ 400 := by
              have h1 := alt_len _ _ (alt_runs ts)
              rw [flat_runs] at h1
              have h2 := congrArg List.length er
              rw [List.length_append] at h2
              omega
            obtain ⟨kx, ekx⟩ := Int.eq_ofNat_of_zero_le hx3.1
            have cx : cp (Str.ofString (toString x)) = [48 + x.toNat] := by
              rw [ekx, cp_nat, TL.numL_lt (by omega)]
              rfl
            have cm : cp (Str.ofString (toString (m : Int))) = TL.numL m := cp_nat m
            have lnm : (TL.numL m).length ≤ 4 := TL.numL_len (by decide) (by omega)
            have lx : (Str.ofString (toString x)).length = 1 := by
              rw [cp_len, cx]
              rfl
            have lm : (Str.ofString (toString (m : Int))).length ≤ 4 := by
              rw [cp_len, cm]
              exact lnm
            have ls : ("*" : Str).length = 1 := by decide +kernel
            refine ⟨_, rfl, .inl ⟨rfl, _, SqL.of hR3⟩, _, rfl, _, rfl, _, _, _, _, rfl, rfl, hS3, hat, x, rfl, few (by omega), ?_⟩
            refine ⟨_, rfl, (m : Int), rfl, few (by omega), _, _, rfl, rfl, len_size (by rw [ls]; omega), (show 2 ≤ sizeLine by decide), fun l hl => ?_⟩
            have sl : Same H3 (upd H3 l (.lst [.str (("*" : Str) ++ Str.ofString (toString (m : Int))), .str ""])) := Same.new hl
            refine ⟨_, rfl, rfl, .inr ⟨_, rfl, ?_⟩⟩
            have fin : ∀ z2 : Str, Str.ofString (toString x) ++ z2 = wordS (x, m) → ∃ (k' : Nat) (rs' : List (Int × Nat)) (y : Option V), k < k' ∧ k' ≤ ts.length ∧ [some (V.ref a), some (V.ref R), some (V.int ((k : Int) + (m : Int))), some (V.int m)] = [some (.ref a), some (.ref R), some (.int k'), y] ∧ Same H (upd (upd H3 l (.lst [.str (("*" : Str) ++ Str.ofString (toString (m : Int))), .str ""])) R (.lst ((rs.map fun p => V.str (wordS p)) ++ [V.str (Str.ofString (toString x) ++ z2)]))) ∧ (upd (upd H3 l (.lst [.str (("*" : Str) ++ Str.ofString (toString (m : Int))), .str ""])) R (.lst ((rs.map fun p => V.str (wordS p)) ++ [V.str (Str.ofString (toString x) ++ z2)]))) R = some (.lst (rs'.map fun p => V.str (wordS p))) ∧ runs ts = rs' ++ runs (ts.drop k') := by
              intro z2 ez
              refine ⟨k + m, rs ++ [(x, m)], _, by omega, by omega, by rw [show ((k + m : Nat) : Int) = (k : Int) + (m : Int) by omega], Same.mut ((s2.trans s3).trans sl) hR, ?_, er2⟩
              rw [upd_same, List.map_append, ez]
              rfl
            have hl2 : (rs.map fun p => V.str (wordS p)).length < sizeLine := by
              rw [List.length_map]
              exact Nat.lt_of_le_of_lt hrl (by decide)
            by_cases e1 : m = 1
            · have ha : atI [V.str (("*" : Str) ++ Str.ofString (toString (m : Int))), V.str ""] (if (decide (V.int (m : Int) = V.int 1)) = true then 1 else 0) = some (V.str "") := by
                rw [decide_eq_true (by rw [e1]; rfl)]
                rfl
              refine ⟨_, _, _, _, rfl, rfl, SqL.of upd_same, ha, _, _, rfl, rfl, len_size (by rw [lx]; decide +kernel), R, _, _, rfl, rfl, sl _ _ hR3, hl2, _, rfl, _, rfl, _, _, rfl, rfl, fin _ ?_⟩
              apply cp_ext
              rw [cp_app, cx, cp_wordS]
              unfold wordL
              dsimp only
              rw [if_pos e1]
              rfl
            · have ha : atI [V.str (("*" : Str) ++ Str.ofString (toString (m : Int))), V.str ""] (if (decide (V.int (m : Int) = V.int 1)) = true then 1 else 0) = some (V.str (("*" : Str) ++ Str.ofString (toString (m : Int)))) := by
                rw [decide_eq_false (fun z => e1 (by have := V.int.inj z; omega))]
                rfl
              refine ⟨_, _, _, _, rfl, rfl, SqL.of upd_same, ha, _, _, rfl, rfl, len_size (by rw [lx, cp_len, cp_app, cp_star, cm, List.length_append]; simp; omega), R, _, _, rfl, rfl, sl _ _ hR3, hl2, _, rfl, _, rfl, _, _, rfl, rfl, fin _ ?_⟩
              apply cp_ext
              rw [cp_app, cp_app, cx, cp_star, cm, cp_wordS]
              unfold wordL
              dsimp only
              rw [if_neg e1]
              rfl
        · have hk2 : ts.length ≤ k := by
            have := of_decide_eq_false (Bool.eq_false_iff.mpr h1)
            rw [List.length_map] at this
            omega
          rw [List.drop_of_length_le hk2] at er
          exact ⟨_, _, rfl, s2, by rw [hR2, er]; simp [runs]⟩
      · rintro _ H2 ⟨v, y, rfl, s2, hR2⟩
        refine ⟨_, rfl, Nat.zero_le _, fun e he => ?_⟩
        have se : Same H2 (upd H2 e (.lst [])) := Same.new he
        refine ⟨R, e, _, rfl, rfl, SqL.of (se _ _ hR2), SqL.of upd_same, _, rfl, ?_⟩
        by_cases e0 : ts = []
        · subst e0
          exact iteF (q _ (s2.trans se))
        · have hne : (runs ts).map (fun p => V.str (wordS p)) ≠ [] := fun z => runs_ne e0 (List.map_eq_nil_iff.mp z)
          refine iteB1 (by rw [decide_eq_false hne]; rfl) ?_
          refine ⟨⟨_, rfl⟩, _, rfl, _, R, (runs ts).map wordS, rfl, rfl, .inl (SqL.of (by rw [se _ _ hR2, List.map_map]; rfl)), ?_, ?_⟩
          · have h1 := sum_words (runs ts) fun p hp => by
              have := alt_pos _ _ (alt_runs ts) p hp
              rw [flat_runs] at this
              omega
            have h2 := alt_len _ _ (alt_runs ts)
            rw [flat_runs] at h2
            have h3 : (" " : Str).length = 1 := by decide +kernel
            rw [h3, List.length_map]
            omega
          · have := q _ (s2.trans se)
            unfold pkS at this
            rw [if_neg e0] at this
            exact this
theorem cp_cutTo1 (x : Str) : cp (cutS x none (some 1)) = (cp x).take 1 := by
  unfold cutS
  show ((x.cps.toList.drop (HT.sIx x.length 0 none)).take (HT.sIx x.length x.length (some 1) - HT.sIx x.length 0 none)) = _
  rw [HT.sIx_none, show HT.sIx x.length x.length (some 1) = min 1 x.length from HT.sIx_nat x.length x.length 1, cp_len]
  show ((cp x).drop 0).take (min 1 (cp x).length - 0) = _
  rw [List.drop_zero, Nat.sub_zero]
  cases cp x with
  | nil => rfl
  | cons c r => rw [show min 1 (c :: r).length = 1 by rw [List.length_cons]; omega]
theorem cp_cut2 (x : Str) : cp (cutS x (some 2) none) = (cp x).drop 2 := by
  unfold cutS
  show ((x.cps.toList.drop (HT.sIx x.length 0 (some 2))).take (HT.sIx x.length x.length none - HT.sIx x.length 0 (some 2))) = _
  rw [show HT.sIx x.length 0 (some 2) = min 2 x.length from HT.sIx_nat x.length 0 2, HT.sIx_none, cp_len]
  show ((cp x).drop (min 2 (cp x).length)).take ((cp x).length - min 2 (cp x).length) = _
  by_cases h : 2 ≤ (cp x).length
  · rw [show min 2 (cp x).length = 2 by omega]
    exact List.take_of_length_le (by rw [List.length_drop]; omega)
  · rw [List.drop_of_length_le (by omega), List.drop_of_length_le (by omega), List.take_nil]
def chS (ds : List Nat) : List V := ds.map fun d => V.str ⟨#[d]⟩
theorem inV_codes (c : Nat) : ∀ ds : List Nat, inV (.str ⟨#[c]⟩) (chS ds) = decide (c ∈ ds)
  | [] => rfl
  | d :: ds => by
    have ih := inV_codes c ds
    show (((⟨#[d]⟩ : Str) == ⟨#[c]⟩) || inV (.str ⟨#[c]⟩) (chS ds)) = _
    rw [ih]
    by_cases h : d = c
    · subst h
      rw [beq_self_eq_true, Bool.true_or, decide_eq_true List.mem_cons_self]
    · have e : ((⟨#[d]⟩ : Str) == ⟨#[c]⟩) = false := by
        rw [beq_eq_false_iff_ne]
        intro z
        have := congrArg cp z
        exact h (List.cons.inj this).1
      rw [e, Bool.false_or]
      by_cases h2 : c ∈ ds
      · rw [decide_eq_true h2, decide_eq_true (List.mem_cons_of_mem _ h2)]
      · rw [decide_eq_false h2, decide_eq_false]
        intro z
        rcases List.mem_cons.mp z with z | z
        · exact h z.symm
        · exact h2 z
theorem flat_codes : ∀ ds : List Nat, (chS ds).all flatV = true
  | [] => rfl
  | d :: ds => by
    show (true && (chS ds).all flatV) = true
    rw [flat_codes ds]
    rfl
theorem four_codes : [V.str "0", V.str "1", V.str "2", V.str "3"] = chS [48, 49, 50, 51] := by
  rw [show ("0" : Str) = ⟨#[48]⟩ by decide +kernel, show ("1" : Str) = ⟨#[49]⟩ by decide +kernel, show ("2" : Str) = ⟨#[50]⟩ by decide +kernel, show ("3" : Str) = ⟨#[51]⟩ by decide +kernel]
  rfl
theorem ten_codes : (("0123456789" : Str).cps.toList.map fun c => V.str ⟨#[c]⟩) = chS [48, 49, 50, 51, 52, 53, 54, 55, 56, 57] := by
  rw [show ("0123456789" : Str).cps.toList = [48, 49, 50, 51, 52, 53, 54, 55, 56, 57] by decide +kernel]
  rfl
theorem mem_four (c : Nat) : decide (c ∈ [48, 49, 50, 51]) = decide (48 ≤ c ∧ c ≤ 51) := by
  by_cases h : 48 ≤ c ∧ c ≤ 51
  · rw [decide_eq_true h, decide_eq_true]
    have : c = 48 ∨ c = 49 ∨ c = 50 ∨ c = 51 := by omega
    rcases this with rfl | rfl | rfl | rfl <;> decide
  · rw [decide_eq_false h, decide_eq_false]
    intro z
    simp only [List.mem_cons, List.not_mem_nil, or_false] at z
    omega
def isD (c : Nat) : Bool := decide (48 ≤ c ∧ c ≤ 57)
theorem mem_ten (c : Nat) : decide (c ∈ [48, 49, 50, 51, 52, 53, 54, 55, 56, 57]) = isD c := by
  unfold isD
  by_cases h : 48 ≤ c ∧ c ≤ 57
  · rw [decide_eq_true h, decide_eq_true]
    have : c = 48 ∨ c = 49 ∨ c = 50 ∨ c = 51 ∨ c = 52 ∨ c = 53 ∨ c = 54 ∨ c = 55 ∨ c = 56 ∨ c = 57 := by omega
    rcases this with rfl | rfl | rfl | rfl | rfl | rfl | rfl | rfl | rfl | rfl <;> decide
  · rw [decide_eq_false h, decide_eq_false]
    intro z
    simp only [List.mem_cons, List.not_mem_nil, or_false] at z
    omega
theorem one_eq (c d : Nat) : decide (V.str ⟨#[c]⟩ = V.str ⟨#[d]⟩) = decide (c = d) := by
  by_cases h : c = d
  · rw [h, decide_eq_true rfl, decide_eq_true rfl]
  · rw [decide_eq_false h, decide_eq_false]
    intro z
    exact h (List.cons.inj (congrArg cp (V.str.inj z))).1
def sp_lisright : Sp := fun vs H Q _ => ∃ z : Str, vs = [.str z] ∧ z.length ≤ 40000 ∧ ∀ H', Same H H' → Q (.bl (isRight z)) H'
def bV : Option Int → V
  | none => .non
  | some x => .str ⟨#[48 + x.toNat]⟩
theorem right_no1 {b : Option Int} {n c : Nat} {r : List Nat} {ls : List (List Nat)} (h : ¬ (48 ≤ c ∧ c ≤ 51)) : rightL b n ((c :: r) :: ls) = false := by
  have e : wOk (c :: r) = none := by
    unfold wOk
    dsimp only
    rw [if_neg h]
  show (match wOk (c :: r) with | none => false | some (x, m) => if b = some x then false else rightL (some x) (n + m) ls) = false
  rw [e]
theorem right_no2 {b : Option Int} {n c s : Nat} {g : List Nat} {ls : List (List Nat)} (h : ¬ (s = 42 ∧ (∀ d ∈ g, 48 ≤ d ∧ d ≤ 57) ∧ 1 ≤ g.length ∧ g.length ≤ 3 ∧ g.head? ≠ some 48 ∧ g ≠ [49])) : rightL b n ((c :: s :: g) :: ls) = false := by
  have e : wOk (c :: s :: g) = none := by
    unfold wOk
    dsimp only
    rw [if_neg h]
    split <;> rfl
  show (match wOk (c :: s :: g) with | none => false | some (x, m) => if b = some x then false else rightL (some x) (n + m) ls) = false
  rw [e]
theorem right_same1 {b : Option Int} {n c : Nat} {r : List Nat} {ls : List (List Nat)} (h : 48 ≤ c ∧ c ≤ 51) (hb : b = some ((c : Int) - 48)) : rightL b n ((c :: r) :: ls) = false := by
  show (match wOk (c :: r) with | none => false | some (x, m) => if b = some x then false else rightL (some x) (n + m) ls) = false
  cases e : wOk (c :: r) with
  | none => rfl
  | some p =>
    obtain ⟨x, m⟩ := p
    have hx : x = (c : Int) - 48 := by
      obtain ⟨h1, h2, h3, _⟩ := ok_word e
      unfold wordL at h1
      have := (List.cons.inj h1).1
      omega
    dsimp only
    rw [if_pos (by rw [hb, hx])]
theorem ok_lisright (T : Txt K w mg f fd ob) : FnOk P w K mg base CX0 1 (f 27) (fd 27) ["_law_text"] sp_lisright := by
  refine T.F_lisright.ok sc_lisright (fun vs H Q E h => ?_) (fun cdv A outer s H vs Q E hr h => ?_)
  · obtain ⟨z, rfl, _⟩ := h
    rfl
  · obtain ⟨z, rfl, hz, q⟩ := h
    refine ⟨_, (C8.pss_cut (ps_if (PW.pt (pw_or (pt_cmpR op_eq (pv 0) pe_str (nomark _)) (pw_or1 (pt_not (pt_val (pe_callB call_isi (by rfl) T.z_isinstance (by decide +kernel) (pa_cons (pv 0) (pa_cons (pe_bltn (v := .ty "str") (by rfl) T.z_str (by decide +kernel) rfl) pa_nil)))))))) (pss_one (ps_ret (pe_callB call_isi (by rfl) T.z_isinstance (by decide +kernel) (pa_cons (pv 0) (pa_cons (pe_bltn (v := .ty "str") (by rfl) T.z_str (by decide +kernel) rfl) pa_nil))))) pss_nil)
      (C8.pss_cut (ps_asg (pe_tup (pa_cons pe_int (pa_cons pe_non pa_nil))) (pg_tup (by rfl) (pgs_cons (pg_name (i := 1) sc_lisright.nd rfl (Or.inl rfl)) (pgs_cons (pg_name (i := 2) sc_lisright.nd rfl (Or.inl rfl)) pgs_nil))))
      (pss_cons (ps_for PassesOwn.never rfl (pi_list (pe_split (pv 0) pe_str)) (pg_name (i := 3) sc_lisright.nd rfl (Or.inl rfl)) (C8.pss_cut (ps_if (PW.pt (pw_or (pt_cmpR op_notIn_seq (pe_slice sl_str (pv 3) po_none (po_some pe_int)) (pe_tup (pa_cons pe_str (pa_cons pe_str (pa_cons pe_str (pa_cons pe_str pa_nil))))) (by rfl)) (pw_or1 (pt_cmpR op_eq (pe_slice sl_str (pv 3) po_none (po_some pe_int)) (pv 2) (nomark _))))) (pss_one (ps_ret pe_bl)) pss_nil)
      (C8.pss_cut (ps_set (i := 4) sc_lisright.nd rfl (Or.inl rfl) (pe_slice sl_str (pv 3) (po_some pe_int) po_none))
      (C8.pss_cut (ps_setLc (i := 5) (own := [("_law_mark", 6)]) (g := (gName 6)) (tt := (tTest (tOp (rIn K true) (tVar 6) (tCB rListS (tCons (tC (.str "0123456789")) tNil))))) (te := (tVar 6)) (by rfl) sc_lisright.nd rfl rfl (sw_true rfl rfl rfl (by decide +kernel)) (pi_str (pv 4)) (blkOk_by (own := [("_law_mark", 6)]) (N := N_lisright) (sc := defScope s_lisright) (by decide +kernel)) (fun _ _ _ _ _ => (pg_name (i := 6) sc_lisright.nd rfl (Or.inl rfl))) (fun _ _ _ _ _ => (pts_one (pt_cmpR op_notIn_seq (pv 6) (pe_callTy (call_listS rfl) (by rfl) T.z_list (by decide +kernel) (pa_cons pe_str pa_nil)) (by rfl)))) (fun _ _ _ _ _ => (pv 6)))
      (C8.pss_cut (ps_if (PW.pt (pw_and (pt_cmpR op_ne (pv 3) (pe_slice sl_str (pv 3) po_none (po_some pe_int)) (nomark _)) (pw_and1 (PW.pt (pw_or (pt_cmpR op_ne (pe_ix ix_str (pv 3) pe_int (fun _ _ => rfl)) pe_str (nomark _)) (pw_or1 (pt_cmpR (op_neL0 hr.units) (pv 5) (pe_lst pa_nil) (nomark _)))))))) (pss_one (ps_ret pe_bl)) pss_nil)
      (C8.pss_cut (ps_if (PW.pt (pw_and (pt_cmpR op_ne (pv 3) (pe_slice sl_str (pv 3) po_none (po_some pe_int)) (nomark _)) (pw_and1 (PW.pt (pw_or (pt_not (pt_chain op_le op_le pe_int (pe_callB call_len_str (by rfl) T.z_len PySem.boot_len (pa_cons (pv 4) pa_nil)) pe_int)) (pw_or (pt_cmpR op_eq (pe_ix ix_str (pv 4) pe_int (fun _ _ => rfl)) pe_str (nomark _)) (pw_or1 (pt_cmpR op_eq (pv 4) pe_str (nomark _))))))))) (pss_one (ps_ret pe_bl)) pss_nil)
      (pss_one (ps_par (i := 1) (j := 2) (by rfl) sc_lisright.nd rfl rfl (by decide) rfl rfl (pa_cons (pe_op op_add (pv 1) (pe_ifExp (pt_cmpR op_ne (pv 4) pe_str (nomark _)) (pe_callTy call_int_str (by rfl) T.z_int (by decide +kernel) (pa_cons (pv 4) pa_nil)) pe_int)) (pa_cons (pe_slice sl_str (pv 3) po_none (po_some pe_int)) pa_nil)) (by rfl)))))))))
      (pss_one (ps_ret (pe_cmpR op_le (pv 1) pe_int (nomark _))))))), ?_⟩
    refine ⟨fun σ' H' => σ' = [some (.str z), none, none, none, none, none, none] ∧ H = H' ∧ z ≠ "-", ?_, ?_⟩
    · refine ⟨_, rfl, rfl, _, rfl, ?_⟩
      by_cases e : z = "-"
      · refine iteB1 (decide_eq_true (by rw [e])) ⟨_, rfl, _, _, _, _, true, rfl, .ty _, .base (.str _), kit_ty (by decide +kernel), ?_⟩
        have hr : isRight z = true := by
          unfold isRight
          rw [decide_eq_true e]
          rfl
        have := q _ (fun _ _ z => z)
        rw [hr] at this
        exact this
      · refine iteB0 (decide_eq_false fun g => e (V.str.inj g)) ⟨_, rfl, _, _, _, _, true, rfl, .ty _, .base (.str _), kit_ty (by decide +kernel), _, rfl, iteF ⟨rfl, rfl, e⟩⟩
    · rintro _ _ ⟨rfl, rfl, hnd⟩
      have hq : ∀ b H', rightL none 0 ((Txt.split z " ").map cp) = b → Same H H' → Q (.bl b) H' := by
        intro b H' hb hs
        have := q H' hs
        unfold isRight at this
        rw [decide_eq_false hnd, Bool.false_or, hb] at this
        exact this
      have hsl := split_len z
      refine ⟨fun σ' H' => σ' = [some (.str z), some (.int 0), some .non, none, none, none, none] ∧ Same H H', ?_, ?_⟩
      · exact ⟨(show 2 ≤ sizeLine by decide), fun t0 ht0 => ⟨t0, _, rfl, SqT.of upd_same, rfl, _, _, rfl, _, _, rfl, rfl, rfl, Same.new ht0⟩⟩
      · rintro _ H1 ⟨rfl, s1⟩
        refine ⟨_, rfl, ⟨_, rfl⟩, z, _, rfl, rfl, (by decide +kernel), len_size (by omega), fun L hL => ?_⟩
        have sL : Same H1 (upd H1 L (.lst ((Txt.split z " ").map V.str))) := Same.new hL
        refine ⟨L, rfl, ⟨_, SqL.of upd_same⟩, for_list (xs := (Txt.split z " ").map V.str) (fun i σ' H' => ∃ (tot : Nat) (b : Option Int) (y3 y4 y5 y6 : Option V), σ' = [some (.str z), some (.int tot), some (bV b), y3, y4, y5, y6] ∧ Same H H' ∧ H' L = some (.lst ((Txt.split z " ").map V.str)) ∧ (∀ x, b = some x → 0 ≤ x ∧ x ≤ 3) ∧ rightL none 0 ((Txt.split z " ").map cp) = rightL b tot (((Txt.split z " ").drop i).map cp))
          ⟨0, none, none, none, none, none, rfl, s1.trans sL, upd_same, (fun x h => by cases h), rfl⟩ (fun i σ' H' _ h => ?_) ?_ ?_⟩
        · obtain ⟨_, _, _, _, _, _, _, _, h3, _⟩ := h
          exact SqL.of h3
        · rintro i x _ H2 hx ⟨tot, b, y3, y4, y5, y6, rfl, s2, hL2, hb, er⟩
          obtain ⟨u, hu, rfl⟩ : ∃ u, (Txt.split z " ")[i]? = some u ∧ x = .str u := by
            rw [List.getElem?_map] at hx
            cases e : (Txt.split z " ")[i]? with
            | none =>
              rw [e] at hx
              cases hx
            | some u =>
              rw [e] at hx
              exact ⟨u, rfl, (Option.some.inj hx).symm⟩
          have ed : ((Txt.split z " ").drop i).map cp = cp u :: ((Txt.split z " ").drop (i + 1)).map cp := by
            rw [List.drop_eq_getElem_cons (List.getElem?_eq_some_iff.mp hu).1, (List.getElem?_eq_some_iff.mp hu).2]
            rfl
          rw [ed] at er
          have hul : u.length ≤ 40000 := Nat.le_trans (hsl.2 u (List.mem_of_getElem? hu)) hz
          have hus : u.length ≤ sizeLine := len_size (by omega)
          -- its first sign
          refine ⟨fun σ' H' => σ' = [some (.str z), some (.int tot), some (bV b), some (.str u), y4, y5, y6] ∧ Same H H' ∧ H' L = some (.lst ((Txt.split z " ").map V.str)) ∧ ∃ c r, cp u = c :: r ∧ 48 ≤ c ∧ c ≤ 51 ∧ b ≠ some ((c : Int) - 48), ?_, ?_⟩
          · refine ⟨_, rfl, _, rfl, u, rfl, hus, (show 4 ≤ sizeLine by decide), fun t4 ht4 => ?_⟩
            have s4 : Same H2 (upd H2 t4 (.tup [V.str "0", V.str "1", V.str "2", V.str "3"])) := Same.new ht4
            refine ⟨t4, _, rfl, .inr (SqT.of upd_same), rfl, rfl, _, rfl, ?_⟩
            cases ecu : cp u with
            | nil =>
              have e1 : cutS u none (some 1) = Str.empty := cp_ext (by rw [cp_cutTo1, ecu]; rfl)
              refine iteB1 (by rw [e1]; decide +kernel) (hq _ _ ?_ (s2.trans s4))
              rw [er, ecu]
              rfl
            | cons c r =>
              have e1 : cutS u none (some 1) = ⟨#[c]⟩ := cp_ext (by rw [cp_cutTo1, ecu]; rfl)
              by_cases hc : 48 ≤ c ∧ c ≤ 51
              · refine iteB0 (by rw [e1, four_codes, if_pos rfl, inV_codes, mem_four, decide_eq_true hc]; rfl) ?_
                refine ⟨_, rfl, _, rfl, u, rfl, hus, _, rfl, (by cases b <;> rfl), _, rfl, ?_⟩
                rw [e1]
                by_cases hbc : b = some ((c : Int) - 48)
                · refine iteB1 (decide_eq_true ?_) (hq _ _ ?_ (s2.trans s4))
                  · rw [hbc]
                    show V.str ⟨#[c]⟩ = V.str ⟨#[48 + ((c : Int) - 48).toNat]⟩
                    rw [show 48 + ((c : Int) - 48).toNat = c by omega]
                  · rw [er, ecu]
                    exact right_same1 hc hbc
                · refine iteB0 (decide_eq_false fun g => hbc ?_) ⟨rfl, s2.trans s4, s4 _ _ hL2, c, r, rfl, hc.1, hc.2, hbc⟩
                  cases hbb : b with
                  | none =>
                    rw [hbb] at g
                    cases g
                  | some x =>
                    rw [hbb] at g
                    have hx0 := hb x hbb
                    have := (List.cons.inj (congrArg cp (V.str.inj g))).1
                    exact congrArg some (by omega)
              · refine iteB1 (by rw [e1, four_codes, if_pos rfl, inV_codes, mem_four, decide_eq_false hc]; rfl) (hq _ _ ?_ (s2.trans s4))
                rw [er, ecu]
                exact right_no1 hc
          · rintro _ H3 ⟨rfl, s3, hL3, c, r, ecu, hc1, hc2, hbc⟩
            have e1 : cutS u none (some 1) = ⟨#[c]⟩ := cp_ext (by rw [cp_cutTo1, ecu]; rfl)
            have e2 : cp (cutS u (some 2) none) = r.drop 1 := by
              rw [cp_cut2, ecu]
              rfl
            have hfl : (cutS u (some 2) none).length ≤ 40000 := Nat.le_trans (cutS_length _ _ _) hul
            refine ⟨fun σ' H' => σ' = [some (.str z), some (.int tot), some (bV b), some (.str u), some (.str (cutS u (some 2) none)), y5, y6] ∧ H3 = H', ⟨_, rfl, _, rfl, u, rfl, hus, rfl, rfl⟩, ?_⟩
            rintro _ _ ⟨rfl, rfl⟩
            -- strange signs
            refine ⟨fun σ' H' => ∃ D y6, σ' = [some (.str z), some (.int tot), some (bV b), some (.str u), some (.str (cutS u (some 2) none)), some (.ref D), y6] ∧ Same H3 H' ∧ H' D = some (.lst (chS ((r.drop 1).filter fun d => !isD d))), ?_, ?_⟩
            · refine ⟨_, rfl, _, rfl, fun D hD => lc_it walk_str (fun k H' => Same H3 H' ∧ H' D = some (.lst (chS (((cp (cutS u (some 2) none)).take k).filter fun d => !isD d)))) ⟨Same.new hD, upd_same⟩ (fun _ _ _ _ => trivial) ?_ ?_⟩
              · rintro k x _ H4 hk ⟨s4, hD4⟩ ⟨rfl, d, hd, rfl⟩
                have hd2 : (cp (cutS u (some 2) none))[k]? = some d := by
                  rw [Array.getElem?_toList]
                  exact hd
                have et : (cp (cutS u (some 2) none)).take (k + 1) = (cp (cutS u (some 2) none)).take k ++ [d] := by
                  rw [List.take_add_one, hd2]
                  rfl
                refine ⟨rfl, _, rfl, _, rfl, (by decide +kernel), fun l hl => ⟨l, _, rfl, .inl (SqL.of upd_same), rfl, (by rw [ten_codes]; exact flat_codes _), _, rfl, ?_⟩⟩
                have sl : Same H4 (upd H4 l (.lst (("0123456789" : Str).cps.toList.map fun c => V.str ⟨#[c]⟩))) := Same.new hl
                rw [if_pos rfl, ten_codes, inV_codes, mem_ten, et, List.filter_append]
                rw [ten_codes] at sl
                cases hdd : isD d with
                | true =>
                  refine iteF ⟨s4.trans sl, ?_⟩
                  rw [sl _ _ hD4]
                  simp [hdd]
                | false =>
                  refine iteT ⟨_, rfl, _, sl _ _ hD4, ?_, Same.mut (s4.trans sl) hD, ?_⟩
                  · show (List.map _ _).length < sizeLine
                    rw [List.length_map]
                    have h1 := List.length_filter_le (fun d => !isD d) ((cp (cutS u (some 2) none)).take k)
                    rw [List.length_take] at h1
                    have h2 : (cp (cutS u (some 2) none)).length ≤ 40000 := by
                      rw [← cp_len]
                      exact hfl
                    exact Nat.lt_of_le_of_lt (show _ ≤ 40000 by omega) (by decide)
                  · rw [upd_same]
                    simp [hdd, chS]
              · rintro H4 ⟨s4, hD4⟩
                refine ⟨D, _, rfl, s4, ?_⟩
                rw [hD4, ← e2, List.take_of_length_le (by rw [← cp_len]; exact Nat.le_refl _)]
            · rintro _ H4 ⟨D, y6', rfl, s4, hD⟩
              have hL4 := s4 _ _ hL3
              have ewc : decide (V.str u = V.str (cutS u none (some 1))) = decide (r = []) := by
                rw [e1]
                by_cases hr0 : r = []
                · rw [decide_eq_true hr0, decide_eq_true]
                  exact congrArg V.str (cp_ext (by rw [ecu, hr0]))
                · rw [decide_eq_false hr0, decide_eq_false]
                  intro g
                  have := congrArg cp (V.str.inj g)
                  rw [ecu] at this
                  exact hr0 (List.cons.inj this).2
              -- a star and figures
              refine ⟨fun σ' H' => σ' = [some (.str z), some (.int tot), some (bV b), some (.str u), some (.str (cutS u (some 2) none)), some (.ref D), y6'] ∧ Same H4 H' ∧ (r = [] ∨ ∃ g, r = 42 :: g ∧ ∀ d ∈ g, 48 ≤ d ∧ d ≤ 57), ?_, ?_⟩
              · refine ⟨_, rfl, _, rfl, _, rfl, u, rfl, hus, rfl, _, rfl, ?_⟩
                rw [ewc]
                cases hr0 : r with
                | nil => exact iteF (iteF ⟨rfl, (fun _ _ z => z), .inl rfl⟩)
                | cons s0 g =>
                  have ha1 : atI u.cps.toList 1 = some s0 := atI_nat (j := 1) (by rw [show u.cps.toList = c :: s0 :: g from by rw [← hr0]; exact ecu]; rfl)
                  refine iteB1 rfl ⟨_, rfl, _, _, s0, rfl, rfl, hus, ha1, rfl, _, rfl, ?_⟩
                  have est : decide (V.str ⟨#[s0]⟩ = V.str "*") = decide (s0 = 42) := by
                    rw [show ("*" : Str) = ⟨#[42]⟩ by decide +kernel]
                    exact one_eq _ _
                  rw [est]
                  by_cases hs0 : s0 = 42
                  · refine iteB0 (by rw [decide_eq_true hs0]; rfl) ⟨_, rfl, Nat.zero_le _, fun e he => ?_⟩
                    have se : Same H4 (upd H4 e (.lst [])) := Same.new he
                    refine ⟨D, e, _, rfl, rfl, SqL.of (se _ _ hD), SqL.of upd_same, _, rfl, ?_⟩
                    have eg : r.drop 1 = g := by
                      rw [hr0]
                      rfl
                    rw [eg]
                    by_cases hg : ∀ d ∈ g, 48 ≤ d ∧ d ≤ 57
                    · have e0 : (g.filter fun d => !isD d) = [] := by
                        rw [List.filter_eq_nil_iff]
                        intro d hd
                        rw [show isD d = true from decide_eq_true (hg d hd)]
                        simp
                      rw [e0]
                      exact iteF ⟨rfl, se, .inr ⟨g, by rw [hs0], hg⟩⟩
                    · have e0 : chS (g.filter fun d => !isD d) ≠ [] := by
                        intro h0
                        apply hg
                        have h1 := List.filter_eq_nil_iff.mp (List.map_eq_nil_iff.mp h0)
                        intro d hd
                        have h2 := h1 d hd
                        cases h3 : isD d with
                        | true => exact of_decide_eq_true h3
                        | false =>
                          rw [h3] at h2
                          exact absurd rfl h2
                      refine iteB1 (by rw [decide_eq_false e0]; rfl) (hq _ _ ?_ (s3.trans (s4.trans se)))
                      rw [er, ecu, hr0]
                      exact right_no2 (fun h => hg h.2.1)
                  · refine iteB1 (by rw [decide_eq_false hs0]; rfl) (hq _ _ ?_ (s3.trans s4))
                    rw [er, ecu, hr0]
                    exact right_no2 (fun h => hs0 h.1)
              · rintro _ H5 ⟨rfl, s5, hcase⟩
                have hL5 := s5 _ _ hL4
                have sH5 := s3.trans (s4.trans s5)
                have hfs : (cutS u (some 2) none).length ≤ sizeLine := len_size (by omega)
                refine ⟨fun σ' H' => σ' = [some (.str z), some (.int tot), some (bV b), some (.str u), some (.str (cutS u (some 2) none)), some (.ref D), y6'] ∧ H5 = H' ∧ (r = [] ∨ ∃ g, r = 42 :: g ∧ (∀ d ∈ g, 48 ≤ d ∧ d ≤ 57) ∧ 1 ≤ g.length ∧ g.length ≤ 3 ∧ g.head? ≠ some 48 ∧ g ≠ [49]), ?_, ?_⟩
                · refine ⟨_, rfl, _, rfl, _, rfl, u, rfl, hus, rfl, _, rfl, ?_⟩
                  rw [ewc]
                  rcases hcase with hr0 | ⟨g, hr0, hg⟩
                  · refine iteB0 (by rw [decide_eq_true hr0]; rfl) (iteF ⟨rfl, rfl, .inl hr0⟩)
                  · refine iteB1 (by rw [decide_eq_false (by rw [hr0]; simp)]; rfl) ?_
                    have eg : cp (cutS u (some 2) none) = g := by
                      rw [e2, hr0]
                      rfl
                    have lg : (cutS u (some 2) none).length = g.length := by
                      rw [cp_len, eg]
                    have bad : ∀ H', ¬ (1 ≤ g.length ∧ g.length ≤ 3 ∧ g.head? ≠ some 48 ∧ g ≠ [49]) → Same H H' → Q (.bl false) H' := by
                      intro H' hn hs
                      refine hq _ _ ?_ hs
                      rw [er, ecu, hr0]
                      exact right_no2 (fun h => hn h.2.2)
                    refine ⟨_, rfl, _, rfl, hfs, _, _, rfl, rfl, _, rfl, ite2 (fun h1 => ⟨_, _, rfl, rfl, _, rfl, ?_⟩) (fun h1 => ⟨_, rfl, ?_⟩)⟩
                    · have h1' : 1 ≤ g.length := by
                        have := of_decide_eq_true h1
                        rw [lg] at this
                        omega
                      rw [lg]
                      by_cases h3 : g.length ≤ 3
                      · refine iteB0 (by rw [decide_eq_true (show ((g.length : Nat) : Int) ≤ 3 by omega)]; rfl) ?_
                        obtain ⟨d0, g', hgd⟩ : ∃ d0 g', g = d0 :: g' := by
                          cases hg0 : g with
                          | nil =>
                            rw [hg0] at h1'
                            exact absurd h1' (by decide)
                          | cons d0 g' => exact ⟨d0, g', rfl⟩
                        have ha0 : atI (cutS u (some 2) none).cps.toList 0 = some d0 := atI_nat (j := 0) (by rw [show (cutS u (some 2) none).cps.toList = d0 :: g' from by rw [← hgd]; exact eg]; rfl)
                        refine ⟨_, rfl, _, _, d0, rfl, rfl, hfs, ha0, rfl, _, rfl, ?_⟩
                        have ez : decide (V.str ⟨#[d0]⟩ = V.str "0") = decide (d0 = 48) := by
                          rw [show ("0" : Str) = ⟨#[48]⟩ by decide +kernel]
                          exact one_eq _ _
                        rw [ez]
                        by_cases hd0 : d0 = 48
                        · refine iteB1 (decide_eq_true hd0) (bad _ (fun h => h.2.2.1 ?_) sH5)
                          rw [hgd, hd0]
                          rfl
                        · refine iteB0 (decide_eq_false hd0) ⟨_, rfl, rfl, _, rfl, ?_⟩
                          have eo : decide (V.str (cutS u (some 2) none) = V.str "1") = decide (g = [49]) := by
                            rw [str_eq, eg, show cp ("1" : Str) = [49] by decide +kernel]
                          rw [eo]
                          by_cases hg1 : g = [49]
                          · exact iteB1 (decide_eq_true hg1) (bad _ (fun h => h.2.2.2 hg1) sH5)
                          · refine iteB0 (decide_eq_false hg1) ⟨rfl, rfl, .inr ⟨g, hr0, hg, h1', h3, ?_, hg1⟩⟩
                            rw [hgd]
                            exact fun z => hd0 (Option.some.inj z)
                      · exact iteB1 (by rw [decide_eq_false (show ¬ ((g.length : Nat) : Int) ≤ 3 by omega)]; rfl) (bad _ (fun h => h3 h.2.1) sH5)
                    · have h1' : ¬ 1 ≤ g.length := by
                        intro hh
                        apply h1
                        refine decide_eq_true ?_
                        rw [lg]
                        omega
                      exact iteB1 rfl (bad _ (fun h => h1' h.1) sH5)
                · rintro _ _ ⟨rfl, rfl, hcase⟩
                  have ebV : V.str (cutS u none (some 1)) = bV (some ((c : Int) - 48)) := by
                    rw [e1]
                    show V.str ⟨#[c]⟩ = V.str ⟨#[48 + ((c : Int) - 48).toNat]⟩
                    rw [show 48 + ((c : Int) - 48).toNat = c by omega]
                  have nxt : ∀ m : Nat, wOk (cp u) = some ((c : Int) - 48, m) → rightL none 0 ((Txt.split z " ").map cp) = rightL (some ((c : Int) - 48)) (tot + m) (((Txt.split z " ").drop (i + 1)).map cp) := by
                    intro m hm
                    rw [er]
                    show (match wOk (cp u) with | none => false | some (x, m) => if b = some x then false else rightL (some x) (tot + m) (((Txt.split z " ").drop (i + 1)).map cp)) = _
                    rw [hm]
                    dsimp only
                    rw [if_neg hbc]
                  have hxx : ∀ x, some ((c : Int) - 48) = some x → 0 ≤ x ∧ x ≤ 3 := fun x hx => by
                    have := Option.some.inj hx
                    omega
                  rcases hcase with hr0 | ⟨g, hr0, hg, hg1, hg3, hgh, hg49⟩
                  · have ef : cutS u (some 2) none = "" := cp_ext (by rw [e2, hr0]; rfl)
                    refine ⟨_, rfl, _, rfl, rfl, _, rfl, iteB0 (by rw [ef]; decide +kernel) ⟨_, _, rfl, rfl, _, rfl, _, rfl, u, rfl, hus, _, _, rfl, tot + 1, some ((c : Int) - 48), some (.str u), some (.str (cutS u (some 2) none)), some (.ref D), y6', ?_, sH5, hL5, hxx, ?_⟩⟩
                    · rw [ebV, show ((tot + 1 : Nat) : Int) = (tot : Int) + 1 by omega]
                      rfl
                    · refine nxt 1 ?_
                      rw [ecu, hr0]
                      unfold wOk
                      dsimp only
                      rw [if_pos ⟨hc1, hc2⟩]
                  · have eg : cp (cutS u (some 2) none) = g := by
                      rw [e2, hr0]
                      rfl
                    have hne : cutS u (some 2) none ≠ "" := fun h0 => by
                      have := congrArg cp h0
                      rw [eg] at this
                      rw [this] at hg1
                      exact absurd hg1 (by decide +kernel)
                    have hdg : digL (cp (cutS u (some 2) none)) = true := by
                      rw [eg]
                      unfold digL
                      rw [Bool.and_eq_true, Bool.and_eq_true]
                      refine ⟨⟨?_, ?_⟩, decide_eq_true (by omega)⟩
                      · cases hg0 : g with
                        | nil =>
                          rw [hg0] at hg1
                          exact absurd hg1 (by decide)
                        | cons _ _ => rfl
                      · rw [List.all_eq_true]
                        intro d hd
                        have := hg d hd
                        rw [Bool.and_eq_true]
                        exact ⟨decide_eq_true this.1, decide_eq_true this.2⟩
                    refine ⟨_, rfl, _, rfl, rfl, _, rfl, iteB1 (by rw [decide_eq_false fun g0 => hne (V.str.inj g0)]; rfl) ⟨_, rfl, _, _, rfl, dig_int hdg, ?_, _, _, rfl, rfl, _, rfl, _, rfl, u, rfl, hus, _, _, rfl, tot + NumText.digitsVal g, some ((c : Int) - 48), some (.str u), some (.str (cutS u (some 2) none)), some (.ref D), y6', ?_, sH5, hL5, hxx, ?_⟩⟩
                    · rw [cp_len, eg]
                      omega
                    · rw [ebV, eg, show ((tot + NumText.digitsVal g : Nat) : Int) = (tot : Int) + (NumText.digitsVal g : Int) by omega]
                      rfl
                    · refine nxt _ ?_
                      rw [ecu, hr0]
                      unfold wOk
                      dsimp only
                      rw [if_pos ⟨hc1, hc2⟩, if_pos ⟨rfl, hg, hg1, hg3, hgh, hg49⟩]
        · rintro _ H2 ⟨tot, b, y3, y4, y5, y6, rfl, s2, hL2, hb, er⟩
          rw [List.length_map, List.drop_length] at er
          refine ⟨_, rfl, _, _, rfl, rfl, hq _ _ ?_ s2⟩
          rw [er]
          show decide (tot ≤ 400) = decide ((tot : Int) ≤ 400)
          by_cases h : tot ≤ 400
          · rw [decide_eq_true h, decide_eq_true (show (tot : Int) ≤ 400 by omega)]
          · rw [decide_eq_false h, decide_eq_false (show ¬ (tot : Int) ≤ 400 by omega)]
theorem joinL_sum : ∀ ps : List (List Nat), ps ≠ [] → (TL.joinL [32] ps).length + 1 = (ps.map List.length).sum + ps.length
  | [], h => absurd rfl h
  | [p], _ => by
    show p.length + 1 = p.length + 0 + 1
    omega
  | p :: q :: r, _ => by
    have ih := joinL_sum (q :: r) (by simp)
    show (p ++ ([32] ++ TL.joinL [32] (q :: r))).length + 1 = (p.length + ((q :: r).map List.length).sum) + ((q :: r).length + 1)
    rw [List.length_append, List.length_append, List.length_singleton]
    omega
def sumL (ws : List Str) : Nat := (ws.map fun x => x.length).sum
theorem join_sum {ws : List Str} (h : ws ≠ []) : (Txt.join " " ws).length + 1 = sumL ws + ws.length := by
  have e := joinL_sum (ws.map TL.tl) (by simpa using h)
  rw [cp_len]
  have e2 : cp (Txt.join " " ws) = TL.joinL [32] (ws.map TL.tl) := by
    show TL.tl _ = _
    rw [TL.join_eq, TL.tl_join, show TL.tl (" " : Str) = [32] from cp_blank]
  rw [e2, e, List.map_map, List.length_map]
  rfl
theorem split_ne (z : Str) : Txt.split z " " ≠ [] := by
  intro q
  have h3 := join_split z
  rw [q] at h3
  have : z = "" := h3.symm
  subst this
  exact absurd q (by decide +kernel)
theorem sumL_app (a b : List Str) : sumL (a ++ b) = sumL a + sumL b := by
  unfold sumL
  rw [List.map_append, List.sum_append]
theorem put_len {z w0 : Str} {k j : Nat} (hj : k ≤ j) : sumL ((Txt.split z " ").take k ++ [w0] ++ (Txt.split z " ").drop j) + ((Txt.split z " ").take k ++ [w0] ++ (Txt.split z " ").drop j).length ≤ z.length + w0.length + 2 ∧ (Txt.join " " ((Txt.split z " ").take k ++ [w0] ++ (Txt.split z " ").drop j)).length ≤ z.length + w0.length + 1 := by
  have h0 := join_sum (split_ne z)
  rw [join_split] at h0
  have h1 := join_sum (ws := (Txt.split z " ").take k ++ [w0] ++ (Txt.split z " ").drop j) (by simp)
  have hs : sumL ((Txt.split z " ").take k) + sumL ((Txt.split z " ").drop j) ≤ sumL (Txt.split z " ") := by
    have e : sumL (Txt.split z " ") = sumL ((Txt.split z " ").take k) + sumL ((Txt.split z " ").drop k) := by
      rw [← sumL_app, List.take_append_drop]
    have e2 : sumL ((Txt.split z " ").drop k) = sumL (((Txt.split z " ").drop k).take (j - k)) + sumL ((Txt.split z " ").drop j) := by
      rw [← sumL_app, show (Txt.split z " ").drop j = ((Txt.split z " ").drop k).drop (j - k) by rw [List.drop_drop]; congr 1; omega, List.take_append_drop]
    omega
  have hw : sumL [w0] = w0.length := by
    unfold sumL
    simp
  have hl : ((Txt.split z " ").take k ++ [w0] ++ (Txt.split z " ").drop j).length ≤ (Txt.split z " ").length + 1 := by
    rw [List.length_append, List.length_append, List.length_take, List.length_drop, List.length_singleton]
    omega
  rw [sumL_app, sumL_app, hw] at h1 ⊢
  omega
theorem atS_in {z : Str} {d : Int} (h0 : 0 ≤ d) (h1 : d < (z.length : Int)) : ∃ c, atI z.cps.toList d = some c := by
  obtain ⟨j, rfl⟩ := Int.eq_ofNat_of_zero_le h0
  have hj : j < z.cps.toList.length := by
    have := cp_len z
    show j < (cp z).length
    omega
  exact ⟨z.cps.toList[j], atI_nat (List.getElem?_eq_getElem hj)⟩
theorem atL_in {ws : List Str} {d : Int} (h0 : 0 ≤ d) (h1 : d < (ws.length : Int)) : ∃ o ∈ ws, atI (ws.map V.str) d = some (.str o) := by
  obtain ⟨j, rfl⟩ := Int.eq_ofNat_of_zero_le h0
  have hj : j < ws.length := by omega
  exact ⟨ws[j], List.getElem_mem hj, atI_nat (by rw [List.getElem?_map, List.getElem?_eq_getElem hj]; rfl)⟩
theorem lst_ne (ns : List Int) (bs : List Str) {i : Nat} (h : bs.length = 4 + i) : HO.lst (ns.map V.int) ≠ HO.lst (bs.map V.str) := by
  intro e
  have e2 : ns.map V.int = bs.map V.str := HO.lst.inj e
  cases bs with
  | nil => exact absurd h (by simp; omega)
  | cons b bs =>
    cases ns with
    | nil => cases e2
    | cons n ns => cases (List.cons.inj e2).1
def oddS : List Str := ["0*0", "1*1", "2*02", "3*401", "0*400", "1*12345678901", "4", "4*2", "-", "", "0*", "*2", "0*2*2", "00", "2*2"]
theorem odd_len : ∀ o ∈ oddS, o.length ≤ 13 := by decide +kernel
def sp_lbent : Sp := fun vs H Q _ => ∃ (p c : Addr) (ns : List Int) (n : Int) (z : Str), vs = [.ref p, .str z] ∧ Pen H p c ns n ∧ n < 900000 ∧ z.length ≤ 15000 ∧
  ∀ (H' : Hp) (z' : Str) (n' : Int), Kp p H H' → Pen H' p c ns n' → n ≤ n' → n' ≤ n + 20 → z'.length ≤ 2 * z.length + 40 → Q (.str z') H'
theorem ok_lbent (T : Txt K w mg f fd ob) : FnOk P w K mg base CX0 2 (f 28) (fd 28) ["_law_pen_here", "_law_text"] sp_lbent := by
  have G_ldraw := ok_ldraw (P := P) (w := w) (base := base) T
  refine T.F_lbent.ok sc_lbent (fun vs H Q E h => ?_) (fun cdv A outer s H vs Q E hr h => ?_)
  · obtain ⟨p, c, ns, n, z, rfl, _⟩ := h
    rfl
  · obtain ⟨p, c, ns, n, z, rfl, hP, hn, hz, q⟩ := h
    have hr_ldraw := hr
    have hzs : z.length ≤ sizeLine := len_size (by omega)
    refine ⟨_, (C8.pss_cut (ps_set (i := 2) sc_lbent.nd rfl (Or.inl rfl) (pe_op op_add_str (pe_op op_mulS pe_str pe_int) pe_str))
      (C8.pss_cut (ps_par (i := 3) (j := 4) (by rfl) sc_lbent.nd rfl rfl (by decide) rfl rfl (pa_cons (pe_call G_ldraw hr_ldraw (by rfl) T.m_ldraw T.F_ldraw.kp T.b_ldraw .nil pass0 (pa_cons (pv 0) (pa_cons (pe_op op_add (pe_callB call_len_str (by rfl) T.z_len PySem.boot_len (pa_cons (pv 1) pa_nil)) pe_int) pa_nil))) (pa_cons (pe_ix ix_str (pv 2) (pe_call G_ldraw hr_ldraw (by rfl) T.m_ldraw T.F_ldraw.kp T.b_ldraw .nil pass0 (pa_cons (pv 0) (pa_cons (pe_callB call_len_str (by rfl) T.z_len PySem.boot_len (pa_cons (pv 2) pa_nil)) pa_nil))) (fun _ _ => rfl)) pa_nil)) (by rfl))
      (C8.pss_cut (ps_set (i := 5) sc_lbent.nd rfl (Or.inl rfl) (pe_split (pv 1) pe_str))
      (C8.pss_cut (ps_set (i := 6) sc_lbent.nd rfl (Or.inl rfl) (pe_call G_ldraw hr_ldraw (by rfl) T.m_ldraw T.F_ldraw.kp T.b_ldraw .nil pass0 (pa_cons (pv 0) (pa_cons (pe_callB call_len_seq (by rfl) T.z_len PySem.boot_len (pa_cons (pv 5) pa_nil)) pa_nil))))
      (C8.pss_cut (ps_set (i := 7) sc_lbent.nd rfl (Or.inl rfl) (pe_lst (pa_cons pe_str (pa_cons pe_str (pa_cons pe_str (pa_cons pe_str (pa_cons pe_str (pa_cons pe_str (pa_cons pe_str (pa_cons pe_str (pa_cons pe_str (pa_cons pe_str (pa_cons pe_str (pa_cons pe_str (pa_cons pe_str pa_nil)))))))))))))))
      (C8.pss_cut (ps_set (i := 7) sc_lbent.nd rfl (Or.inl rfl) (pe_op op_cat (pv 7) (pe_lst (pa_cons pe_str (pa_cons pe_str pa_nil)))))
      (C8.pss_cut (ps_set (i := 8) sc_lbent.nd rfl (Or.inl rfl) (pe_lst (pa_cons (pe_op op_add_str (pe_op op_add_str (pe_slice sl_str (pv 1) po_none (po_some (pv 3))) (pv 4)) (pe_slice sl_str (pv 1) (po_some (pv 3)) po_none)) (pa_cons (pe_op op_add_str (pe_op op_add_str (pe_slice sl_str (pv 1) po_none (po_some (pv 3))) (pv 4)) (pe_slice sl_str (pv 1) (po_some (pe_op op_add (pv 3) pe_int)) po_none)) (pa_cons (pe_op op_add_str (pe_slice sl_str (pv 1) po_none (po_some (pv 3))) (pe_slice sl_str (pv 1) (po_some (pe_op op_add (pv 3) pe_int)) po_none)) (pa_cons (pe_slice sl_str (pv 1) po_none (po_some (pv 3))) pa_nil))))))
      (C8.pss_cut (ps_for PassesOwn.never rfl (pi_tup (pe_tup (pa_cons (pe_ix ix_list (pv 5) (pv 6) (fun _ _ => rfl)) (pa_cons (pe_ix ix_list (pv 7) (pe_call G_ldraw hr_ldraw (by rfl) T.m_ldraw T.F_ldraw.kp T.b_ldraw .nil pass0 (pa_cons (pv 0) (pa_cons pe_int pa_nil))) (fun _ _ => rfl)) pa_nil)))) (pg_name (i := 9) sc_lbent.nd rfl (Or.inl rfl)) (pss_one (ps_expr (pe_bm PySem.F.plainAttrs_list PySem.F.slot_list_append PySem.F.type_list_append mt_append (pv 8) (pa_cons (pe_join pe_str (pe_op op_cat (pe_op op_cat (pe_slice sl_list (pv 5) po_none (po_some (pv 6))) (pe_lst (pa_cons (pv 9) pa_nil))) (pe_slice sl_list (pv 5) (po_some (pe_op op_add (pv 6) (pe_call G_ldraw hr_ldraw (by rfl) T.m_ldraw T.F_ldraw.kp T.b_ldraw .nil pass0 (pa_cons (pv 0) (pa_cons pe_int pa_nil))))) po_none))) pa_nil)))))
      (pss_one (ps_ret (pe_ix ix_list (pe_op op_cat (pv 8) (pe_lst (pa_cons (pe_join pe_str (pe_op op_cat (pe_op op_cat (pe_slice sl_list (pv 5) po_none (po_some (pv 6))) (pe_lst (pa_cons (pe_ix ix_list (pv 7) (pe_call G_ldraw hr_ldraw (by rfl) T.m_ldraw T.F_ldraw.kp T.b_ldraw .nil pass0 (pa_cons (pv 0) (pa_cons pe_int pa_nil))) (fun _ _ => rfl)) pa_nil))) (pe_slice sl_list (pv 5) (po_some (pe_op op_add (pv 6) pe_int)) po_none))) (pa_cons (pe_op op_add_str (pv 1) pe_str) pa_nil)))) (pe_call G_ldraw hr_ldraw (by rfl) T.m_ldraw T.F_ldraw.kp T.b_ldraw .nil pass0 (pa_cons (pv 0) (pa_cons pe_int pa_nil))) (fun _ _ => rfl)))))))))))), ?_⟩
    refine ⟨fun σ' H' => ∃ S : Str, σ' = [some (.ref p), some (.str z), some (.str S), none, none, none, none, none, none, none] ∧ H = H' ∧ 0 < S.length ∧ S.length ≤ 1000, ?_, ?_⟩
    · exact ⟨_, 6, rfl, rfl, by decide, by decide, by decide +kernel, by decide +kernel, by decide +kernel, _, _, rfl, rfl, by decide +kernel, _, rfl, rfl, by decide +kernel, by decide +kernel⟩
    · rintro _ _ ⟨S, rfl, rfl, hS0, hS1⟩
      refine ⟨fun σ' H' => ∃ (at_ n' : Int) (g : Str), σ' = [some (.ref p), some (.str z), some (.str S), some (.int at_), some (.str g), none, none, none, none, none] ∧ Kp p H H' ∧ Pen H' p c ns n' ∧ n ≤ n' ∧ n' ≤ n + 2 ∧ 0 ≤ at_ ∧ at_ ≤ z.length ∧ g.length = 1, ?_, ?_⟩
      · refine ⟨_, rfl, _, rfl, z, rfl, hzs, _, _, rfl, rfl, p, c, ns, n, _, rfl, hP, by omega, by omega, by omega, fun H1 d1 n1 k1 P1 d1a d1b n1a n1b => ?_⟩
        refine ⟨_, rfl, _, rfl, _, rfl, S, rfl, len_size (by omega), p, c, ns, n1, _, rfl, P1, by omega, by omega, by omega, fun H2 d2 n2 k2 P2 d2a d2b n2a n2b => ?_⟩
        obtain ⟨g, hg⟩ := atS_in d2a d2b
        exact ⟨_, _, g, rfl, rfl, len_size (by omega), hg, _, _, rfl, d1, n2, _, rfl, k1.trans k2, P2, by omega, by omega, d1a, by omega, rfl⟩
      · rintro _ H1 ⟨at_, n1, g, rfl, k1, P1, n1a, n1b, at0, at1, hg⟩
        have lc : ∀ a b, (cutS z a b).length ≤ z.length := fun a b => cutS_length _ _ _
        have la : ∀ a b : Str, (a ++ b).length = a.length + b.length := fun a b => by rw [cp_len, cp_app, List.length_append, ← cp_len, ← cp_len]
        -- words
        refine ⟨fun σ' H' => ∃ L : Addr, σ' = [some (.ref p), some (.str z), some (.str S), some (.int at_), some (.str g), some (.ref L), none, none, none, none] ∧ Kp p H H' ∧ Pen H' p c ns n1 ∧ H' L = some (.lst ((Txt.split z " ").map V.str)) ∧ L ≠ p, ?_, ?_⟩
        · exact ⟨_, rfl, ⟨_, rfl⟩, z, _, rfl, rfl, (by decide +kernel), len_size (by omega), fun L hL => ⟨L, rfl, k1.trans (Kp.new hL), P1.new hL, upd_same, P1.ni hL⟩⟩
        rintro _ H2 ⟨L, rfl, k2, P2, hL2, nL⟩
        have hwl := (split_len z).1
        have hwn : 0 < (Txt.split z " ").length := List.length_pos_iff.mpr (split_ne z)
        -- which one
        refine ⟨fun σ' H' => ∃ (k : Nat) (n' : Int), σ' = [some (.ref p), some (.str z), some (.str S), some (.int at_), some (.str g), some (.ref L), some (.int k), none, none, none] ∧ Kp p H H' ∧ Pen H' p c ns n' ∧ n ≤ n' ∧ n' ≤ n + 3 ∧ H' L = some (.lst ((Txt.split z " ").map V.str)) ∧ k < (Txt.split z " ").length, ?_, ?_⟩
        · refine ⟨_, rfl, _, rfl, L, _, rfl, .inl (SqL.of hL2), p, c, ns, n1, _, rfl, P2, ?_, ?_, by omega, fun H3 d3 n3 k3 P3 d3a d3b n3a n3b => ?_⟩
          · rw [List.length_map]
            omega
          · rw [List.length_map]
            omega
          · rw [List.length_map] at d3b
            exact ⟨d3.toNat, n3, by rw [show ((d3.toNat : Nat) : Int) = d3 by omega]; rfl, k2.trans k3, P3, by omega, by omega, k3 _ _ nL hL2, by omega⟩
        rintro _ H3 ⟨k, n3, rfl, k3, P3, n3a, n3b, hL3, hk⟩
        -- odd ones
        refine ⟨fun σ' H' => ∃ O : Addr, σ' = [some (.ref p), some (.str z), some (.str S), some (.int at_), some (.str g), some (.ref L), some (.int k), some (.ref O), none, none] ∧ Same H3 H' ∧ H3 O = none ∧ H' O = some (.lst ((oddS.take 13).map V.str)), ?_, ?_⟩
        · exact ⟨(show 13 ≤ sizeLine by decide), fun O hO => ⟨O, rfl, Same.new hO, hO, upd_same⟩⟩
        rintro _ H4 ⟨O1, rfl, s4, nO1, hO1⟩
        refine ⟨fun σ' H' => ∃ O : Addr, σ' = [some (.ref p), some (.str z), some (.str S), some (.int at_), some (.str g), some (.ref L), some (.int k), some (.ref O), none, none] ∧ Same H3 H' ∧ H3 O = none ∧ H' O = some (.lst (oddS.map V.str)), ?_, ?_⟩
        · refine ⟨_, rfl, (show 2 ≤ sizeLine by decide), fun O2 hO2 => ?_⟩
          exact ⟨_, _, _, _, rfl, rfl, Same.new hO2 _ _ hO1, upd_same, (show 15 ≤ sizeLine by decide), fun O3 hO3 => ⟨O3, rfl, s4.trans ((Same.new hO2).trans (Same.new hO3)), s4.free ((Same.new hO2).free hO3), upd_same⟩⟩
        rintro _ H5 ⟨O, rfl, s5, nO, hO⟩
        have P5 := P3.same s5
        have hL5 := s5 _ _ hL3
        have nOp : O ≠ p := P3.ni nO
        -- texts bent by signs
        refine ⟨fun σ' H' => ∃ (B : Addr) (bs : List Str), σ' = [some (.ref p), some (.str z), some (.str S), some (.int at_), some (.str g), some (.ref L), some (.int k), some (.ref O), some (.ref B), none] ∧ Same H5 H' ∧ H5 B = none ∧ H' B = some (.lst (bs.map V.str)) ∧ bs.length = 4 ∧ ∀ b ∈ bs, b.length ≤ 2 * z.length + 40, ?_, ?_⟩
        · refine ⟨_, rfl, _, rfl, _, rfl, z, rfl, hzs, _, rfl, _, _, rfl, rfl, len_size (by have := lc none (some at_); omega), _, rfl, _, rfl, _, rfl, z, rfl, hzs, _, _, rfl, rfl, ?_, ?_⟩
          · rw [la]
            have h1 := lc none (some at_)
            have h2 := lc (some at_) none
            exact len_size (by omega)
          refine ⟨_, rfl, _, rfl, _, rfl, z, rfl, hzs, _, rfl, _, _, rfl, rfl, len_size (by have := lc none (some at_); omega), _, rfl, _, rfl, _, _, rfl, rfl, _, rfl, z, rfl, hzs, _, _, rfl, rfl, ?_, ?_⟩
          · rw [la]
            have h1 := lc none (some at_)
            have h2 := lc (some (at_ + 1)) none
            exact len_size (by omega)
          refine ⟨_, rfl, _, rfl, _, rfl, z, rfl, hzs, _, rfl, _, rfl, _, _, rfl, rfl, _, rfl, z, rfl, hzs, _, _, rfl, rfl, ?_, ?_⟩
          · have h1 := lc none (some at_)
            have h2 := lc (some (at_ + 1)) none
            exact len_size (by omega)
          refine ⟨_, rfl, _, rfl, _, rfl, z, rfl, hzs, (show 4 ≤ sizeLine by decide), fun B hB => ⟨B, [_, _, _, _], rfl, Same.new hB, hB, upd_same, rfl, ?_⟩⟩
          intro b hb
          have h1 := lc none (some at_)
          have h2 := lc (some at_) none
          have h3 := lc (some (at_ + 1)) none
          rcases List.mem_cons.mp hb with rfl | hb
          · rw [la, la]
            omega
          rcases List.mem_cons.mp hb with rfl | hb
          · rw [la, la]
            omega
          rcases List.mem_cons.mp hb with rfl | hb
          · rw [la]
            omega
          rcases List.mem_cons.mp hb with rfl | hb
          · omega
          · cases hb
        rintro _ H6 ⟨B, bs, rfl, s6, nB, hB, hbl, hbs⟩
        have P6 := P5.same s6
        have nBp : B ≠ p := P5.ni nB
        have k6 : Kp p H H6 := k3.trans (Same.kp (s5.trans s6))
        have nBH : H B = none := (k3.trans (Same.kp s5)).free nBp nB
        have nBL : B ≠ L := fun e => by
          rw [e, hL5] at nB
          cases nB
        have nBO : B ≠ O := fun e => by
          rw [e, hO] at nB
          cases nB
        have hL6 := s6 _ _ hL5
        have hO6 := s6 _ _ hO
        have hatk : atI ((Txt.split z " ").map V.str) (k : Int) = some (.str (Txt.split z " ")[k]) := atI_nat (by rw [List.getElem?_map, List.getElem?_eq_getElem hk]; rfl)
        have hwk : (Txt.split z " ")[k].length ≤ z.length := (split_len z).2 _ (List.getElem_mem hk)
        have oddl : (oddS.length : Int) = 15 := rfl
        -- a list of words with one put in
        refine ⟨fun σ' H' => ∃ (bs : List Str) (n' : Int) (y : Option V), σ' = [some (.ref p), some (.str z), some (.str S), some (.int at_), some (.str g), some (.ref L), some (.int k), some (.ref O), some (.ref B), y] ∧ Kp p H H' ∧ Pen H' p c ns n' ∧ n ≤ n' ∧ n' ≤ n + 6 ∧ H' L = some (.lst ((Txt.split z " ").map V.str)) ∧ H' O = some (.lst (oddS.map V.str)) ∧ H' B = some (.lst (bs.map V.str)) ∧ bs.length = 6 ∧ ∀ b ∈ bs, b.length ≤ 2 * z.length + 40, ?_, ?_⟩
        · refine ⟨_, rfl, _, rfl, _, _, _, _, rfl, rfl, SqL.of hL6, hatk, _, rfl, _, rfl, p, c, ns, n3, 15, rfl, P6, by decide, by decide, by omega, fun H7 d7 n7 k7 P7 d7a d7b n7a n7b => ?_⟩
          obtain ⟨o7, ho7, hat7⟩ := atL_in (ws := oddS) d7a (by rw [oddl]; exact d7b)
          have hO7 := k7 _ _ nOp hO6
          have hL7 := k7 _ _ nL hL6
          have hB7 := k7 _ _ nBp hB
          refine ⟨_, _, _, _, rfl, rfl, SqL.of hO7, hat7, (show 2 ≤ sizeLine by decide), fun t ht => ?_⟩
          have st : Same H7 (upd H7 t (.tup [V.str (Txt.split z " ")[k], V.str o7])) := Same.new ht
          have htup : SqT K (upd H7 t (.tup [V.str (Txt.split z " ")[k], V.str o7])) t [V.str (Txt.split z " ")[k], V.str o7] := SqT.of upd_same
          have k8 := (k6.trans k7).trans (Same.kp st)
          have P8 := P7.same st
          refine ⟨t, rfl, ⟨_, htup⟩, for_tup (xs := [V.str (Txt.split z " ")[k], V.str o7]) (fun i σ' H' => ∃ (bs : List Str) (n' : Int) (y : Option V), σ' = [some (.ref p), some (.str z), some (.str S), some (.int at_), some (.str g), some (.ref L), some (.int k), some (.ref O), some (.ref B), y] ∧ Kp p H H' ∧ H' t = some (.tup [V.str (Txt.split z " ")[k], V.str o7]) ∧ Pen H' p c ns n' ∧ n ≤ n' ∧ n' ≤ n + 4 + i ∧ H' L = some (.lst ((Txt.split z " ").map V.str)) ∧ H' O = some (.lst (oddS.map V.str)) ∧ H' B = some (.lst (bs.map V.str)) ∧ bs.length = 4 + i ∧ ∀ b ∈ bs, b.length ≤ 2 * z.length + 40)
            ⟨bs, n7, none, rfl, k8, upd_same, P8, by omega, by omega, st _ _ hL7, st _ _ hO7, st _ _ hB7, hbl, hbs⟩ (fun i σ' H' _ h => ?_) ?_ ?_⟩
          · obtain ⟨_, _, _, _, _, h3, _⟩ := h
            exact SqT.of h3
          · rintro i x _ H9 hx ⟨bs9, n9, y9, rfl, k9, ht9, P9, n9a, n9b, hL9, hO9, hB9, hbl9, hbs9⟩
            obtain ⟨w0, rfl, hw0, hi2⟩ : ∃ w0 : Str, x = .str w0 ∧ w0.length ≤ z.length + 13 ∧ i < 2 := by
              match i, hx with
              | 0, hx => exact ⟨_, (Option.some.inj hx).symm, by omega, by decide⟩
              | 1, hx => exact ⟨_, (Option.some.inj hx).symm, by have := odd_len _ ho7; omega, by decide⟩
              | i + 2, hx => cases hx
            have ntp : t ≠ p := P7.ni ht
            have ntB : t ≠ B := fun e => by
              rw [e, hB7] at ht
              cases ht
            refine ⟨_, rfl, .inl ⟨rfl, _, SqL.of hB9⟩, ⟨_, rfl⟩, ?_⟩
            refine ⟨_, rfl, _, rfl, _, rfl, L, _, rfl, SqL.of hL9, fun l1 h1 => ?_⟩
            have e1 : cutV ((Txt.split z " ").map V.str) none (some (k : Int)) = ((Txt.split z " ").take k).map V.str := by rw [cutTo, List.map_take]
            have s1 : Same H9 (upd H9 l1 (.lst (cutV ((Txt.split z " ").map V.str) none (some (k : Int))))) := Same.new h1
            refine ⟨_, rfl, (show 1 ≤ sizeLine by decide), fun l2 h2 => ?_⟩
            have s2 : Same _ (upd (upd H9 l1 (.lst (cutV ((Txt.split z " ").map V.str) none (some (k : Int))))) l2 (.lst [V.str w0])) := Same.new h2
            refine ⟨_, _, _, _, rfl, rfl, s2 _ _ upd_same, upd_same, ?_, fun l3 h3 => ?_⟩
            · rw [e1, List.length_map, List.length_take]
              exact len_size (by simp; omega)
            have PA := ((P9.new (o := .lst (cutV ((Txt.split z " ").map V.str) none (some (k : Int)))) h1).new (o := .lst [V.str w0]) h2)
            have nl3 : l3 ≠ p := PA.ni h3
            refine ⟨_, rfl, _, rfl, _, rfl, p, c, ns, n9, 2, rfl, PA.new h3, by decide, by decide, by omega, fun H10 d10 n10 k10 P10 d10a d10b n10a n10b => ?_⟩
            have hl3 : H10 l3 = some (.lst (((Txt.split z " ").take k ++ [w0]).map V.str)) := k10 _ _ nl3 (by rw [upd_same, e1, List.map_append]; rfl)
            have sA : Same H9 _ := s1.trans (s2.trans (Same.new (o := .lst (cutV ((Txt.split z " ").map V.str) none (some (k : Int)) ++ [V.str w0])) h3))
            have k10' : Kp p H9 H10 := (Same.kp sA).trans k10
            have hL10 := k10' _ _ nL hL9
            have hO10 := k10' _ _ nOp hO9
            have hB10 := k10' _ _ nBp hB9
            have ht10 := k10' _ _ ntp ht9
            refine ⟨_, _, rfl, rfl, _, rfl, L, _, rfl, SqL.of hL10, fun l4 h4 => ?_⟩
            have e4 : cutV ((Txt.split z " ").map V.str) (some ((k : Int) + d10)) none = ((Txt.split z " ").drop (k + d10.toNat)).map V.str := by
              rw [show (k : Int) + d10 = ((k + d10.toNat : Nat) : Int) by omega, cutFrom _ (by rw [List.length_map]; omega), List.map_drop]
            have s4 : Same H10 (upd H10 l4 (.lst (cutV ((Txt.split z " ").map V.str) (some ((k : Int) + d10)) none))) := Same.new h4
            refine ⟨_, _, _, _, rfl, rfl, s4 _ _ hl3, upd_same, ?_, fun l5 h5 => ?_⟩
            · rw [e4, List.length_map, List.length_map, List.length_append, List.length_take, List.length_drop]
              exact len_size (by simp; omega)
            have pl := put_len (z := z) (w0 := w0) (k := k) (j := k + d10.toNat) (by omega)
            have s5 : Same _ (upd (upd H10 l4 (.lst (cutV ((Txt.split z " ").map V.str) (some ((k : Int) + d10)) none))) l5 (.lst (((Txt.split z " ").take k ++ [w0]).map V.str ++ cutV ((Txt.split z " ").map V.str) (some ((k : Int) + d10)) none))) := Same.new h5
            refine ⟨_, l5, (Txt.split z " ").take k ++ [w0] ++ (Txt.split z " ").drop (k + d10.toNat), rfl, rfl, .inl (SqL.of ?_), ?_, ?_⟩
            · rw [upd_same, e4, List.map_append (l₂ := (Txt.split z " ").drop (k + d10.toNat))]
            · have h3' : (" " : Str).length = 1 := by decide +kernel
              have h4' := pl.1
              unfold sumL at h4'
              rw [h3']
              omega
            have s45 := s4.trans s5
            refine ⟨B, _, _, rfl, rfl, s45 _ _ hB10, ?_, bs9 ++ [Txt.join " " ((Txt.split z " ").take k ++ [w0] ++ (Txt.split z " ").drop (k + d10.toNat))], n10, _, rfl, ?_, ?_, ?_, by omega, by omega, ?_, ?_, ?_, ?_, ?_⟩
            · rw [List.length_map, hbl9]
              exact Nat.lt_of_le_of_lt (show 4 + i ≤ 6 by omega) (by decide)
            · exact Kp.mut ((k9.trans k10').trans (Same.kp s45)) nBH
            · rw [upd_ne ntB]
              exact s45 _ _ ht10
            · have PZ := P10.same s45
              obtain ⟨rr, q1, q2, q3, q4⟩ := PZ
              refine ⟨rr, by rw [upd_ne nBp.symm]; exact q1, ?_, q3, q4⟩
              rw [upd_ne]
              · exact q2
              · intro e
                rw [e] at q2
                have hBz := s45 _ _ hB10
                rw [q2] at hBz
                exact lst_ne ns bs9 hbl9 (Option.some.inj hBz)
            · rw [upd_ne nBL.symm]
              exact s45 _ _ hL10
            · rw [upd_ne nBO.symm]
              exact s45 _ _ hO10
            · rw [upd_same, List.map_append]
              rfl
            · rw [List.length_append, hbl9]
              simp
              omega
            · intro b hb
              rcases List.mem_append.mp hb with hb | hb
              · exact hbs9 b hb
              · rw [List.mem_singleton.mp hb]
                have := pl.2
                omega
          · rintro _ H9 ⟨bs9, n9, y9, rfl, k9, ht9, P9, n9a, n9b, hL9, hO9, hB9, hbl9, hbs9⟩
            exact ⟨bs9, n9, y9, rfl, k9, P9, n9a, (by have h9 : n9 ≤ n + 4 + ((2 : Nat) : Int) := n9b; omega), hL9, hO9, hB9, (by simpa using hbl9), hbs9⟩
        rintro _ H7 ⟨bs7, n7, y7, rfl, k7, P7, n7a, n7b, hL7, hO7, hB7, hbl7, hbs7⟩
        refine ⟨_, rfl, ⟨_, rfl⟩, _, rfl, _, rfl, _, rfl, L, _, rfl, SqL.of hL7, fun l1 h1 => ?_⟩
        have e1 : cutV ((Txt.split z " ").map V.str) none (some (k : Int)) = ((Txt.split z " ").take k).map V.str := by rw [cutTo, List.map_take]
        have nl1 : l1 ≠ p := P7.ni h1
        refine ⟨_, rfl, _, rfl, p, c, ns, n7, 15, rfl, P7.new h1, by decide, by decide, by omega, fun H8 d8 n8 k8 P8 d8a d8b n8a n8b => ?_⟩
        have k8' : Kp p H7 H8 := (Kp.new h1).trans k8
        have hl1 : H8 l1 = some (.lst (((Txt.split z " ").take k).map V.str)) := k8 _ _ nl1 (by rw [upd_same, e1])
        have hL8 := k8' _ _ nL hL7
        have hO8 := k8' _ _ nOp hO7
        have hB8 := k8' _ _ nBp hB7
        obtain ⟨w0, hw0, hat8⟩ := atL_in (ws := oddS) d8a (by rw [oddl]; exact d8b)
        have lw0 := odd_len _ hw0
        refine ⟨_, _, _, _, rfl, rfl, SqL.of hO8, hat8, (show 1 ≤ sizeLine by decide), fun l2 h2 => ?_⟩
        have s2 : Same H8 (upd H8 l2 (.lst [V.str w0])) := Same.new h2
        refine ⟨_, _, _, _, rfl, rfl, s2 _ _ hl1, upd_same, ?_, fun l3 h3 => ?_⟩
        · rw [List.length_map, List.length_take]
          exact len_size (by simp; omega)
        have s3 : Same _ (upd (upd H8 l2 (.lst [V.str w0])) l3 (.lst (((Txt.split z " ").take k).map V.str ++ [V.str w0]))) := Same.new h3
        have s23 := s2.trans s3
        refine ⟨_, rfl, _, rfl, _, _, rfl, rfl, _, rfl, L, _, rfl, SqL.of (s23 _ _ hL8), fun l4 h4 => ?_⟩
        have e4 : cutV ((Txt.split z " ").map V.str) (some ((k : Int) + 1)) none = ((Txt.split z " ").drop (k + 1)).map V.str := by
          rw [show (k : Int) + 1 = ((k + 1 : Nat) : Int) by omega, cutFrom _ (by rw [List.length_map]; omega), List.map_drop]
        have s4 : Same _ (upd _ l4 (.lst (cutV ((Txt.split z " ").map V.str) (some ((k : Int) + 1)) none))) := Same.new h4
        refine ⟨_, _, _, _, rfl, rfl, s4 _ _ upd_same, upd_same, ?_, fun l5 h5 => ?_⟩
        · rw [e4, List.length_append, List.length_map, List.length_map, List.length_take, List.length_drop]
          exact len_size (by simp; omega)
        have pl := put_len (z := z) (w0 := w0) (k := k) (j := k + 1) (by omega)
        have s5 : Same _ (upd _ l5 (.lst ((((Txt.split z " ").take k).map V.str ++ [V.str w0]) ++ cutV ((Txt.split z " ").map V.str) (some ((k : Int) + 1)) none))) := Same.new h5
        have s25 := s23.trans (s4.trans s5)
        refine ⟨_, l5, (Txt.split z " ").take k ++ [w0] ++ (Txt.split z " ").drop (k + 1), rfl, rfl, .inl (SqL.of ?_), ?_, ?_⟩
        · rw [upd_same, e4, List.map_append (l₂ := (Txt.split z " ").drop (k + 1)), List.map_append (l₂ := [w0])]
          rfl
        · have h3' : (" " : Str).length = 1 := by decide +kernel
          have h4' := pl.1
          unfold sumL at h4'
          rw [h3']
          omega
        have hb1 : (" " : Str).length = 1 := by decide +kernel
        refine ⟨_, rfl, _, _, rfl, rfl, len_size (by omega), (show 2 ≤ sizeLine by decide), fun l6 h6 => ?_⟩
        have s6' : Same _ (upd _ l6 (.lst [V.str (Txt.join " " ((Txt.split z " ").take k ++ [w0] ++ (Txt.split z " ").drop (k + 1))), V.str (z ++ " ")])) := Same.new h6
        have s26 := s25.trans s6'
        refine ⟨_, _, _, _, rfl, rfl, s26 _ _ hB8, upd_same, ?_, fun l7 h7 => ?_⟩
        · rw [List.length_map, hbl7]
          exact (show 8 ≤ sizeLine by decide)
        have s7' : Same _ (upd _ l7 (.lst (bs7.map V.str ++ [V.str (Txt.join " " ((Txt.split z " ").take k ++ [w0] ++ (Txt.split z " ").drop (k + 1))), V.str (z ++ " ")]))) := Same.new h7
        have s27 := s26.trans s7'
        have P26 := P8.same s26
        have nl7 : l7 ≠ p := P26.ni h7
        refine ⟨_, rfl, p, c, ns, n8, 8, rfl, P8.same s27, by decide, by decide, by omega, fun H9 d9 n9 k9 P9 d9a d9b n9a n9b => ?_⟩
        obtain ⟨b9, hb9, hat9⟩ := atL_in (ws := bs7 ++ [Txt.join " " ((Txt.split z " ").take k ++ [w0] ++ (Txt.split z " ").drop (k + 1)), z ++ " "]) d9a (by rw [List.length_append, hbl7]; exact d9b)
        have hl9 : H9 l7 = some (.lst ((bs7 ++ [Txt.join " " ((Txt.split z " ").take k ++ [w0] ++ (Txt.split z " ").drop (k + 1)), z ++ " "]).map V.str)) := k9 _ _ nl7 (by rw [upd_same, List.map_append]; rfl)
        refine ⟨_, _, _, _, rfl, rfl, SqL.of hl9, hat9, ?_⟩
        refine q _ b9 n9 (((k7.trans k8').trans (Same.kp s27)).trans k9) P9 (by omega) (by omega) ?_
        rcases List.mem_append.mp hb9 with hb | hb
        · exact hbs7 b9 hb
        · rcases List.mem_cons.mp hb with hb | hb
          · rw [hb]
            have := pl.2
            omega
          · rw [List.mem_singleton.mp hb, la]
            omega
def sp_lrefused : Sp := fun vs H Q _ => ∃ z : Str, vs = [.str z] ∧ z.length ≤ 40000 ∧ uOk z = false ∧ ∀ H', Same H H' → Q (.bl true) H'
theorem ok_lrefused (T : Txt K w mg f fd ob) : FnOk P w K mg base CX0 5 (f 29) (fd 29) ["_law_thing"] sp_lrefused := by
  have G_unpacked := ok_unpacked (P := P) (base := base) T
  have G_lclass := ok_lclass (P := P) (w := w) (base := base) T
  have G_lbase := ok_lbase (P := P) (w := w) (base := base) T
  refine T.F_lrefused.ok sc_lrefused (fun vs H Q E h => ?_) (fun cdv A outer s H vs Q E hr h => ?_)
  · obtain ⟨z, rfl, _⟩ := h
    rfl
  · obtain ⟨z, rfl, hz, hu, q⟩ := h
    have hr_lclass : Room 1 _ := hr.mono (by decide)
    have hr_lbase : Room 1 _ := hr.mono (by decide)
    refine ⟨_, (pss_cons (ps_set (i := 1) sc_lrefused.nd rfl (Or.inl rfl) pe_non)
      (pss_cons (ps_try_trk (i := 2) (tb := fun W => tDrop (tCallS (sp_unpacked (ob 0)) (WE W) (tCons (tVar 0) tNil))) (ts := fun a => tAsg (tVar 2) (gName 1)) (Wout := fun _ _ _ _ => False) rfl rfl sc_lrefused.nd rfl rfl ⟨rfl, by decide, Or.inl T.m_NoText⟩ takes0 (fun W pn xe tk _ => pss_one (ps_expr (by exact (pe_callS G_unpacked hr rfl T.m_unpacked T.F_unpacked.kp T.b_unpacked (fun σ => passAt tk σ) (by exact (pa_cons (pv 0) pa_nil)))))) (fun a oe cls d pn hz hf => pss_one (ps_set (i := 1) sc_lrefused.nd rfl (Or.inl rfl) (pv 2))))
      (pss_one (ps_ret (pe_and (pe_cmpR op_notN (pv 1) pe_non (nomark _)) (pe_and (pe_cmpR op_eq (pe_call G_lclass hr_lclass (by rfl) T.m_lclass T.F_lclass.kp T.b_lclass .nil pass0 (pa_cons (pv 1) pa_nil)) pe_str (nomark _)) (pe_and (pe_cmpR op_eq (pe_call G_lbase hr_lbase (by rfl) T.m_lbase T.F_lbase.kp T.b_lbase .nil pass0 (pa_cons (pv 1) pa_nil)) pe_str (nomark _)) (pe_one (pe_cmpR op_eq (pe_callB SkE.call_repr_int (by rfl) T.z_repr (by decide +kernel) (pa_cons (pe_xfV (pv 1)) pa_nil)) pe_str (nomark _)))))))))), ?_⟩
    refine ⟨_, rfl, z, rfl, hz, fun e => ?_, fun _ H1 d s1 hd => ?_⟩
    · rw [hu] at e
      cases e
    · refine ⟨true, T.XE_NoText, fun _ a φ na hφ => ?_, fun e => by cases e⟩
      have s2 : Same H1 (upd H1 a (.ext φ)) := Same.new na
      have hX : XV (upd H1 a (.ext φ)) a (ob 0) [("nth", .int 0)] := ⟨d, φ, upd_same, hφ, .inl (s2 _ _ hd)⟩
      refine ⟨_, rfl, ?_⟩
      refine ⟨_, rfl, rfl, _, rfl, iteB1 rfl ?_⟩
      refine ⟨_, rfl, a, 0, _, rfl, by decide, hX, fun H2 s3 => ⟨rfl, _, rfl, iteB1 (by decide +kernel) ?_⟩⟩
      refine ⟨_, rfl, a, _, rfl, hX.same s3, fun H3 s4 => ⟨rfl, _, rfl, iteB1 (by decide +kernel) ?_⟩⟩
      refine ⟨_, rfl, a, ob 0, _, _, rfl, hX.same (s3.trans s4), xf_at T (by decide), T.XN_NoText_nth, rfl, 0, rfl, few (by decide), rfl, ?_⟩
      have e0 : decide (V.str (Str.ofString (toString (0 : Int))) = V.str "0") = true := by decide +kernel
      have := q _ ((s1.trans s2).trans (s3.trans s4))
      rw [← e0] at this
      exact this
/-! What the errors are made of. -/
def sixD : List PyData := [.none, .int 7, .str "a", .tuple [.int 0, .int 1], .list [.int 3], .int (-1)]
/-- one of six things, apart from these -/
def ItV (H : Hp) (no : List Addr) (v : V) (d : PyData) : Prop :=
  (v = .non ∧ d = .none) ∨ (v = .int 7 ∧ d = .int 7) ∨ (v = .str "a" ∧ d = .str "a") ∨ (∃ t, v = .ref t ∧ t ∉ no ∧ H t = some (.tup [.int 0, .int 1]) ∧ d = .tuple [.int 0, .int 1]) ∨
    (∃ l, v = .ref l ∧ l ∉ no ∧ H l = some (.lst [.int 3]) ∧ d = .list [.int 3]) ∨ (v = .int (-1) ∧ d = .int (-1))
theorem ItV.imp {H H' : Hp} {no no' : List Addr} {v : V} {d : PyData} (h : ItV H no v d) (k : ∀ a o, a ∉ no → H a = some o → a ∉ no' ∧ H' a = some o) : ItV H' no' v d := by
  rcases h with h | h | h | ⟨t, h1, h2, h3, h4⟩ | ⟨l, h1, h2, h3, h4⟩ | h
  · exact .inl h
  · exact .inr (.inl h)
  · exact .inr (.inr (.inl h))
  · exact .inr (.inr (.inr (.inl ⟨t, h1, (k _ _ h2 h3).1, (k _ _ h2 h3).2, h4⟩)))
  · exact .inr (.inr (.inr (.inr (.inl ⟨l, h1, (k _ _ h2 h3).1, (k _ _ h2 h3).2, h4⟩))))
  · exact .inr (.inr (.inr (.inr (.inr h))))
theorem ItV.same {H H' : Hp} {no : List Addr} {v : V} {d : PyData} (h : ItV H no v d) (s : Same H H') : ItV H' no v d := h.imp fun a o ha ho => ⟨ha, s a o ho⟩
theorem ItV.kp {H H' : Hp} {no : List Addr} {a : Addr} {v : V} {d : PyData} (h : ItV H no v d) (ha : a ∈ no) (k : Kp a H H') : ItV H' no v d := h.imp fun b o hb ho => ⟨hb, k b o (fun e => hb (by rw [e]; exact ha)) ho⟩
theorem ItV.dp {K : PySem.W.Frag} {H : Hp} {p : List Addr} {v : V} {d : PyData} (h : ItV H p v d) : Dp K H v d := by
  rcases h with ⟨rfl, rfl⟩ | ⟨rfl, rfl⟩ | ⟨rfl, rfl⟩ | ⟨t, rfl, _, h3, rfl⟩ | ⟨l, rfl, _, h3, rfl⟩ | ⟨rfl, rfl⟩
  · exact .non
  · exact .int 7
  · exact .str "a"
  · exact .tup (SqT.of h3) (.cons (.int 0) (.cons (.int 1) .nil))
  · exact .lst (SqL.of h3) (.cons (.int 3) .nil)
  · exact .int (-1)
theorem ItV.six {H : Hp} {p : List Addr} {v : V} {d : PyData} (h : ItV H p v d) : d ∈ sixD := by
  rcases h with ⟨_, rfl⟩ | ⟨_, rfl⟩ | ⟨_, rfl⟩ | ⟨t, _, _, _, rfl⟩ | ⟨l, _, _, _, rfl⟩ | ⟨_, rfl⟩ <;> simp [sixD]
def shB (d : PyData) : Bool := d.showable && !d.hasDict && decide (d.depth ≤ 60) && decide (d.shown.length ≤ 1000)
theorem shB_ok {d : PyData} (h : shB d = true) : ShowOk d := by
  unfold shB at h
  rw [Bool.and_eq_true, Bool.and_eq_true, Bool.and_eq_true] at h
  obtain ⟨⟨⟨h1, h2⟩, h3⟩, h4⟩ := h
  exact ⟨h1, by simpa using h2, of_decide_eq_true h3, Nat.le_trans (of_decide_eq_true h4) (by decide)⟩
theorem six1 : (sixD.all fun d => shB (.list [d])) = true := by decide +kernel
theorem six2 : (sixD.all fun d => sixD.all fun e => shB (.list [d, e])) = true := by decide +kernel
theorem six3 : (sixD.all fun d => sixD.all fun e => sixD.all fun g => shB (.list [d, e, g])) = true := by decide +kernel
def DL (H : Hp) : List Addr → List (List Nat) → Prop
  | [], [] => True
  | a :: as, l :: ls => H a = some (.lst (l.map fun (n : Nat) => V.int n)) ∧ DL H as ls
  | _, _ => False
theorem DL.same {H H' : Hp} (s : Same H H') : ∀ {as : List Addr} {ls : List (List Nat)}, DL H as ls → DL H' as ls
  | [], [], _ => trivial
  | a :: as, l :: ls, h => ⟨s _ _ h.1, DL.same s (as := as) (ls := ls) h.2⟩
  | [], _ :: _, h => h.elim
  | _ :: _, [], h => h.elim
theorem DL.at {H : Hp} : ∀ {as : List Addr} {ls : List (List Nat)}, DL H as ls → ∀ {i : Nat}, i < ls.length → ∃ a, as[i]? = some a ∧ H a = some (.lst ((ls.getD i []).map fun (n : Nat) => V.int n))
  | [], [], _, i, hi => absurd hi (Nat.not_lt_zero _)
  | a :: as, l :: ls, h, 0, _ => ⟨a, rfl, h.1⟩
  | a :: as, l :: ls, h, i + 1, hi => DL.at (as := as) (ls := ls) h.2 (Nat.lt_of_succ_lt_succ hi)
  | [], _ :: _, h, _, _ => h.elim
  | _ :: _, [], h, _, _ => h.elim
theorem DL.len {H : Hp} : ∀ {as : List Addr} {ls : List (List Nat)}, DL H as ls → as.length = ls.length
  | [], [], _ => rfl
  | a :: as, l :: ls, h => by rw [List.length_cons, List.length_cons, DL.len (as := as) (ls := ls) h.2]
  | [], _ :: _, h => h.elim
  | _ :: _, [], h => h.elim
theorem DL.kp {H H' : Hp} {p c : Addr} {ns : List Int} {n : Int} (P : Pen H p c ns n) (k : Kp p H H') : ∀ {as : List Addr} {ls : List (List Nat)}, DL H as ls → DL H' as ls
  | [], [], _ => trivial
  | a :: as, l :: ls, h => by
    refine ⟨k _ _ (fun e => ?_) h.1, DL.kp P k (as := as) (ls := ls) h.2⟩
    obtain ⟨r, h1, _⟩ := P
    have h2 := h.1
    rw [e, h1] at h2
    have h3 := HO.lst.inj (Option.some.inj h2)
    cases l with
    | nil => cases h3
    | cons _ _ => cases (List.cons.inj h3).1
  | [], _ :: _, h => h.elim
  | _ :: _, [], h => h.elim
def IVs (H : Hp) (p : List Addr) : List V → List PyData → Prop
  | [], [] => True
  | v :: vs, d :: ds => ItV H p v d ∧ IVs H p vs ds
  | _, _ => False
theorem IVs.app {H : Hp} {p : List Addr} {v : V} {d : PyData} (h : ItV H p v d) : ∀ {vs : List V} {ds : List PyData}, IVs H p vs ds → IVs H p (vs ++ [v]) (ds ++ [d])
  | [], [], _ => ⟨h, trivial⟩
  | a :: vs, b :: ds, g => ⟨g.1, IVs.app h (vs := vs) (ds := ds) g.2⟩
  | [], _ :: _, g => g.elim
  | _ :: _, [], g => g.elim
theorem IVs.imp {H H' : Hp} {p p' : List Addr} (h : ∀ v d, ItV H p v d → ItV H' p' v d) : ∀ {vs : List V} {ds : List PyData}, IVs H p vs ds → IVs H' p' vs ds
  | [], [], _ => trivial
  | a :: vs, b :: ds, g => ⟨h _ _ g.1, IVs.imp h (vs := vs) (ds := ds) g.2⟩
  | [], _ :: _, g => g.elim
  | _ :: _, [], g => g.elim
def clsL : List Str := ["text", "ahead", "row", "ready", "replay", "place", "time", "step", "pair", "thread", "source", "many", "long", "yet"]
theorem cls_split : Txt.split ("text ahead row ready replay place time step pair thread source many long yet" : Str) " " = clsL := by decide +kernel
theorem cls_at : ∀ i, i < 14 → clsL[i]? = some (clsW i) := by
  intro i hi
  match i, hi with
  | 0, _ => rfl
  | 1, _ => rfl
  | 2, _ => rfl
  | 3, _ => rfl
  | 4, _ => rfl
  | 5, _ => rfl
  | 6, _ => rfl
  | 7, _ => rfl
  | 8, _ => rfl
  | 9, _ => rfl
  | 10, _ => rfl
  | 11, _ => rfl
  | 12, _ => rfl
  | 13, _ => rfl
  | n + 14, h => exact absurd h (by omega)
theorem cut_fld (k : Nat) (hk : k < 14) (x y z : V) : cutV [x, y, z] none (some (1 + (if inV (V.int k) [V.int 1, V.int 3, V.int 8] = true then 1 else 0) + (if decide (V.int (k : Int) = V.int 3) = true then 1 else 0))) = fldV k x y z := by
  match k, hk with
  | 0, _ => rfl
  | 1, _ => rfl
  | 2, _ => rfl
  | 3, _ => rfl
  | 4, _ => rfl
  | 5, _ => rfl
  | 6, _ => rfl
  | 7, _ => rfl
  | 8, _ => rfl
  | 9, _ => rfl
  | 10, _ => rfl
  | 11, _ => rfl
  | 12, _ => rfl
  | 13, _ => rfl
  | n + 14, h => exact absurd h (by omega)
def fldD (i : Nat) (x y z : PyData) : List PyData := if i = 3 then [x, y, z] else if i = 1 ∨ i = 8 then [x, y] else [x]
theorem fld_dp {K : PySem.W.Frag} {H : Hp} {l : Addr} {k : Nat} {x y z : V} {dx dy dz : PyData} {no : List Addr} (h : H l = some (.lst (fldV k x y z))) (ix : ItV H no x dx) (iy : ItV H no y dy) (iz : ItV H no z dz) : Dp K H (.ref l) (.list (fldD k dx dy dz)) := by
  refine .lst (SqL.of h) ?_
  unfold fldV fldD
  by_cases h3 : k = 3
  · rw [if_pos h3, if_pos h3]
    exact .cons ix.dp (.cons iy.dp (.cons iz.dp .nil))
  · rw [if_neg h3, if_neg h3]
    by_cases h1 : k = 1 ∨ k = 8
    · rw [if_pos h1, if_pos h1]
      exact .cons ix.dp (.cons iy.dp .nil)
    · rw [if_neg h1, if_neg h1]
      exact .cons ix.dp .nil
theorem fld_show (k : Nat) {dx dy dz : PyData} (hx : dx ∈ sixD) (hy : dy ∈ sixD) (hz : dz ∈ sixD) : ShowOk (.list (fldD k dx dy dz)) := by
  unfold fldD
  by_cases h3 : k = 3
  · rw [if_pos h3]
    exact shB_ok (List.all_eq_true.mp (List.all_eq_true.mp (List.all_eq_true.mp six3 dx hx) dy hy) dz hz)
  · rw [if_neg h3]
    by_cases h1 : k = 1 ∨ k = 8
    · rw [if_pos h1]
      exact shB_ok (List.all_eq_true.mp (List.all_eq_true.mp six2 dx hx) dy hy)
    · rw [if_neg h1]
      exact shB_ok (List.all_eq_true.mp six1 dx hx)
def sp_lmaderight : Sp := fun vs H Q _ => ∃ (p c : Addr) (ns : List Int) (n : Int), vs = [.ref p] ∧ Pen H p c ns n ∧ n < 900000 ∧ ∀ H', Q (.bl true) H'
theorem ok_lmaderight (T : Txt K w mg f fd ob) : FnG P w K mg base CX0 4 (f 34) (fd 34) ["_law_pen_here"] sp_lmaderight := by
  have G_ldraw := ok_ldraw (P := P) (w := w) (base := base) T
  have G_lplaced := ok_lplaced (P := P) (w := w) (base := base) T
  have G_lnamed := ok_lnamed (P := P) (w := w) (base := base) T
  have G_lclass := ok_lclass (P := P) (w := w) (base := base) T
  have G_lbases := ok_lbases (P := P) (w := w) (base := base) T
  have G_lfields := ok_lfields (P := P) (w := w) (base := base) T
  refine Fun.okG T.F_lmaderight sc_lmaderight (fun vs H Q E h => ?_) (fun cdv A outer s H vs Q E hg hr h => ?_)
  · obtain ⟨p, c, ns, n, rfl, _⟩ := h
    rfl
  · obtain ⟨p, c, ns, n, rfl, hP, hn, q⟩ := h
    have hr_lplaced := hr
    have hr_lnamed := hr
    have hr_ldraw : Room 1 _ := hr.mono (by decide)
    have hr_lclass : Room 1 _ := hr.mono (by decide)
    have hr_lbases : Room 1 _ := hr.mono (by decide)
    have hr_lfields : Room 1 _ := hr.mono (by decide)
    have hu64 := hr.units
    refine ⟨_, (C8.pss_cut (ps_set (i := 1) sc_lmaderight.nd rfl (Or.inl rfl) (pe_split pe_str pe_str))
      (C8.pss_cut (ps_set (i := 2) sc_lmaderight.nd rfl (Or.inl rfl) (pe_lst (pa_cons (pe_lst (pa_cons pe_int pa_nil)) (pa_cons (pe_lst (pa_cons pe_int pa_nil)) (pa_cons (pe_lst (pa_cons pe_int pa_nil)) (pa_cons (pe_lst (pa_cons pe_int pa_nil)) (pa_cons (pe_lst (pa_cons pe_int pa_nil)) (pa_cons (pe_lst (pa_cons pe_int (pa_cons pe_int pa_nil))) (pa_cons (pe_lst (pa_cons pe_int (pa_cons pe_int pa_nil))) (pa_cons (pe_lst (pa_cons pe_int (pa_cons pe_int pa_nil))) (pa_cons (pe_lst (pa_cons pe_int (pa_cons pe_int pa_nil))) (pa_cons (pe_lst (pa_cons pe_int pa_nil)) (pa_cons (pe_lst (pa_cons pe_int pa_nil)) (pa_cons (pe_lst (pa_cons pe_int (pa_cons pe_int pa_nil))) (pa_cons (pe_lst (pa_cons pe_int pa_nil)) (pa_cons (pe_lst pa_nil) pa_nil))))))))))))))))
      (C8.pss_cut (ps_asg (pe_lc (own := [("_law_k", 6)]) (g := (gName 6)) (tt := tYes) (te := (tOp (rIxL K) (tLst (tCons (tC .non) (tCons (tC (.int 7)) (tCons (tC (.str "a")) (tCons (tTup (tCons (tC (.int 0)) (tCons (tC (.int 1)) tNil))) (tCons (tLst (tCons (tC (.int 3)) tNil)) (tCons (tUn (rU fun i => .int (-i)) (tC (.int 1))) tNil))))))) (tCall sp_ldraw [] E0 (tCons (tVar 0) (tCons (tC (.int 6)) tNil))))) (by rfl) sc_lmaderight.nd (pi_range1 (by rfl) T.z_range (pa_cons pe_int pa_nil)) (blkOk_by (own := [("_law_k", 6)]) (N := N_lmaderight) (sc := defScope s_lmaderight) (by decide +kernel)) (fun _ _ _ _ _ => (pg_name (i := 6) sc_lmaderight.nd rfl (Or.inl rfl))) (fun _ _ _ _ _ => pts_nil) (fun _ _ _ _ _ => (pe_ix ix_list (pe_lst (pa_cons pe_non (pa_cons pe_int (pa_cons pe_str (pa_cons (pe_tup (pa_cons pe_int (pa_cons pe_int pa_nil))) (pa_cons (pe_lst (pa_cons pe_int pa_nil)) (pa_cons (pe_un un_neg pe_int) pa_nil))))))) (pe_call G_ldraw hr_ldraw (by rfl) T.m_ldraw T.F_ldraw.kp T.b_ldraw .nil pass0 (pa_cons (pv 0) (pa_cons pe_int pa_nil))) (fun _ _ => rfl)))) (pg_lst (by rfl) (pgs_cons (pg_name (i := 3) sc_lmaderight.nd rfl (Or.inl rfl)) (pgs_cons (pg_name (i := 4) sc_lmaderight.nd rfl (Or.inl rfl)) (pgs_cons (pg_name (i := 5) sc_lmaderight.nd rfl (Or.inl rfl)) pgs_nil)))))
      (pss_cons (ps_for PassesOwn.never rfl (pi_tup (pe_tup (pa_cons (pe_call G_lplaced hr_lplaced (by rfl) T.m_lplaced T.F_lplaced.kp T.b_lplaced .nil pass0 (pa_cons (pv 3) (pa_cons (pv 4) (pa_cons (pv 5) pa_nil)))) (pa_cons (pe_call G_lnamed hr_lnamed (by rfl) T.m_lnamed T.F_lnamed.kp T.b_lnamed .nil pass0 (pa_cons (pv 3) (pa_cons (pv 4) (pa_cons (pv 5) pa_nil)))) pa_nil)))) (pg_name (i := 7) sc_lmaderight.nd rfl (Or.inl rfl)) (pss_one (ps_for PassesOwn.never rfl (pi_range1 (by rfl) T.z_range (pa_cons pe_int pa_nil)) (pg_name (i := 6) sc_lmaderight.nd rfl (Or.inl rfl)) (C8.pss_cut (ps_set (i := 8) sc_lmaderight.nd rfl (Or.inl rfl) (pe_slice sl_list (pe_lst (pa_cons (pv 3) (pa_cons (pv 4) (pa_cons (pv 5) pa_nil)))) po_none (po_some (pe_op op_add (pe_op op_add pe_int (pe_callTy call_int1 (by rfl) T.z_int (by decide +kernel) (pa_cons (pe_cmpR op_in_seq (pv 6) (pe_tup (pa_cons pe_int (pa_cons pe_int (pa_cons pe_int pa_nil)))) (by rfl)) pa_nil))) (pe_callTy call_int1 (by rfl) T.z_int (by decide +kernel) (pa_cons (pe_cmpR op_eq (pv 6) pe_int (nomark _)) pa_nil))))))
      (C8.pss_cut (ps_if (PW.pt (pw_or (pt_cmpR op_ne (pe_call G_lclass hr_lclass (by rfl) T.m_lclass T.F_lclass.kp T.b_lclass .nil pass0 (pa_cons (pe_ix ix_list (pv 7) (pv 6) (fun _ _ => rfl)) pa_nil)) (pe_ix ix_list (pv 1) (pv 6) (fun _ _ => rfl)) (nomark _)) (pw_or1 (pt_cmpR (op_neD hr.units) (pe_call G_lbases hr_lbases (by rfl) T.m_lbases T.F_lbases.kp T.b_lbases .nil pass0 (pa_cons (pe_ix ix_list (pv 7) (pv 6) (fun _ _ => rfl)) pa_nil)) (pe_ix ix_list (pv 2) (pv 6) (fun _ _ => rfl)) (nomark _))))) (pss_one (ps_ret pe_bl)) pss_nil)
      (pss_one (ps_if (pt_cmpR op_ne (pe_callB (call_reprD hg hu64) (by rfl) T.z_repr (by decide +kernel) (pa_cons (pe_call G_lfields hr_lfields (by rfl) T.m_lfields T.F_lfields.kp T.b_lfields .nil pass0 (pa_cons (pe_ix ix_list (pv 7) (pv 6) (fun _ _ => rfl)) (pa_cons (pe_ix ix_list (pv 1) (pv 6) (fun _ _ => rfl)) pa_nil))) pa_nil)) (pe_callB (call_reprD hg hu64) (by rfl) T.z_repr (by decide +kernel) (pa_cons (pv 8) pa_nil)) (nomark _)) (pss_one (ps_ret pe_bl)) pss_nil)))))))
      (pss_one (ps_ret pe_bl)))))), ?_⟩
    refine ⟨fun σ' H' => ∃ L : Addr, σ' = [some (.ref p), some (.ref L), none, none, none, none, none, none, none] ∧ Same H H' ∧ H' L = some (.lst (clsL.map V.str)), ?_, ?_⟩
    · refine ⟨⟨_, rfl⟩, _, _, rfl, rfl, (by decide +kernel), (by decide +kernel), fun L hL => ⟨L, rfl, Same.new hL, ?_⟩⟩
      rw [upd_same, cls_split]
    rintro _ H1 ⟨L, rfl, s1, hL1⟩
    refine ⟨fun σ' H' => ∃ (D : Addr) (ds : List Addr), σ' = [some (.ref p), some (.ref L), some (.ref D), none, none, none, none, none, none] ∧ Same H1 H' ∧ H' D = some (.lst (ds.map V.ref)) ∧ DL H' ds basD, ?_, ?_⟩
    · refine ⟨(show 1 ≤ sizeLine by decide), fun d0 h0 => ?_⟩
      have s0 : Same H1 (upd H1 d0 (.lst [V.int 0])) := Same.new h0
      refine ⟨(show 1 ≤ sizeLine by decide), fun d1 h1 => ?_⟩
      have s1 : Same (upd H1 d0 (.lst [V.int 0])) (upd (upd H1 d0 (.lst [V.int 0])) d1 (.lst [V.int 0])) := Same.new h1
      refine ⟨(show 1 ≤ sizeLine by decide), fun d2 h2 => ?_⟩
      have s2 : Same (upd (upd H1 d0 (.lst [V.int 0])) d1 (.lst [V.int 0])) (upd (upd (upd H1 d0 (.lst [V.int 0])) d1 (.lst [V.int 0])) d2 (.lst [V.int 0])) := Same.new h2
      refine ⟨(show 1 ≤ sizeLine by decide), fun d3 h3 => ?_⟩
      have s3 : Same (upd (upd (upd H1 d0 (.lst [V.int 0])) d1 (.lst [V.int 0])) d2 (.lst [V.int 0])) (upd (upd (upd (upd H1 d0 (.lst [V.int 0])) d1 (.lst [V.int 0])) d2 (.lst [V.int 0])) d3 (.lst [V.int 1])) := Same.new h3
      refine ⟨(show 1 ≤ sizeLine by decide), fun d4 h4 => ?_⟩
      have s4 : Same (upd (upd (upd (upd H1 d0 (.lst [V.int 0])) d1 (.lst [V.int 0])) d2 (.lst [V.int 0])) d3 (.lst [V.int 1])) (upd (upd (upd (upd (upd H1 d0 (.lst [V.int 0])) d1 (.lst [V.int 0])) d2 (.lst [V.int 0])) d3 (.lst [V.int 1])) d4 (.lst [V.int 1])) := Same.new h4
      refine ⟨(show 2 ≤ sizeLine by decide), fun d5 h5 => ?_⟩
      have s5 : Same (upd (upd (upd (upd (upd H1 d0 (.lst [V.int 0])) d1 (.lst [V.int 0])) d2 (.lst [V.int 0])) d3 (.lst [V.int 1])) d4 (.lst [V.int 1])) (upd (upd (upd (upd (upd (upd H1 d0 (.lst [V.int 0])) d1 (.lst [V.int 0])) d2 (.lst [V.int 0])) d3 (.lst [V.int 1])) d4 (.lst [V.int 1])) d5 (.lst [V.int 2, V.int 4])) := Same.new h5
      refine ⟨(show 2 ≤ sizeLine by decide), fun d6 h6 => ?_⟩
      have s6 : Same (upd (upd (upd (upd (upd (upd H1 d0 (.lst [V.int 0])) d1 (.lst [V.int 0])) d2 (.lst [V.int 0])) d3 (.lst [V.int 1])) d4 (.lst [V.int 1])) d5 (.lst [V.int 2, V.int 4])) (upd (upd (upd (upd (upd (upd (upd H1 d0 (.lst [V.int 0])) d1 (.lst [V.int 0])) d2 (.lst [V.int 0])) d3 (.lst [V.int 1])) d4 (.lst [V.int 1])) d5 (.lst [V.int 2, V.int 4])) d6 (.lst [V.int 2, V.int 4])) := Same.new h6
      refine ⟨(show 2 ≤ sizeLine by decide), fun d7 h7 => ?_⟩
      have s7 : Same (upd (upd (upd (upd (upd (upd (upd H1 d0 (.lst [V.int 0])) d1 (.lst [V.int 0])) d2 (.lst [V.int 0])) d3 (.lst [V.int 1])) d4 (.lst [V.int 1])) d5 (.lst [V.int 2, V.int 4])) d6 (.lst [V.int 2, V.int 4])) (upd (upd (upd (upd (upd (upd (upd (upd H1 d0 (.lst [V.int 0])) d1 (.lst [V.int 0])) d2 (.lst [V.int 0])) d3 (.lst [V.int 1])) d4 (.lst [V.int 1])) d5 (.lst [V.int 2, V.int 4])) d6 (.lst [V.int 2, V.int 4])) d7 (.lst [V.int 3, V.int 4])) := Same.new h7
      refine ⟨(show 2 ≤ sizeLine by decide), fun d8 h8 => ?_⟩
      have s8 : Same (upd (upd (upd (upd (upd (upd (upd (upd H1 d0 (.lst [V.int 0])) d1 (.lst [V.int 0])) d2 (.lst [V.int 0])) d3 (.lst [V.int 1])) d4 (.lst [V.int 1])) d5 (.lst [V.int 2, V.int 4])) d6 (.lst [V.int 2, V.int 4])) d7 (.lst [V.int 3, V.int 4])) (upd (upd (upd (upd (upd (upd (upd (upd (upd H1 d0 (.lst [V.int 0])) d1 (.lst [V.int 0])) d2 (.lst [V.int 0])) d3 (.lst [V.int 1])) d4 (.lst [V.int 1])) d5 (.lst [V.int 2, V.int 4])) d6 (.lst [V.int 2, V.int 4])) d7 (.lst [V.int 3, V.int 4])) d8 (.lst [V.int 3, V.int 4])) := Same.new h8
      refine ⟨(show 1 ≤ sizeLine by decide), fun d9 h9 => ?_⟩
      have s9 : Same (upd (upd (upd (upd (upd (upd (upd (upd (upd H1 d0 (.lst [V.int 0])) d1 (.lst [V.int 0])) d2 (.lst [V.int 0])) d3 (.lst [V.int 1])) d4 (.lst [V.int 1])) d5 (.lst [V.int 2, V.int 4])) d6 (.lst [V.int 2, V.int 4])) d7 (.lst [V.int 3, V.int 4])) d8 (.lst [V.int 3, V.int 4])) (upd (upd (upd (upd (upd (upd (upd (upd (upd (upd H1 d0 (.lst [V.int 0])) d1 (.lst [V.int 0])) d2 (.lst [V.int 0])) d3 (.lst [V.int 1])) d4 (.lst [V.int 1])) d5 (.lst [V.int 2, V.int 4])) d6 (.lst [V.int 2, V.int 4])) d7 (.lst [V.int 3, V.int 4])) d8 (.lst [V.int 3, V.int 4])) d9 (.lst [V.int 4])) := Same.new h9
      refine ⟨(show 1 ≤ sizeLine by decide), fun d10 h10 => ?_⟩
      have s10 : Same (upd (upd (upd (upd (upd (upd (upd (upd (upd (upd H1 d0 (.lst [V.int 0])) d1 (.lst [V.int 0])) d2 (.lst [V.int 0])) d3 (.lst [V.int 1])) d4 (.lst [V.int 1])) d5 (.lst [V.int 2, V.int 4])) d6 (.lst [V.int 2, V.int 4])) d7 (.lst [V.int 3, V.int 4])) d8 (.lst [V.int 3, V.int 4])) d9 (.lst [V.int 4])) (upd (upd (upd (upd (upd (upd (upd (upd (upd (upd (upd H1 d0 (.lst [V.int 0])) d1 (.lst [V.int 0])) d2 (.lst [V.int 0])) d3 (.lst [V.int 1])) d4 (.lst [V.int 1])) d5 (.lst [V.int 2, V.int 4])) d6 (.lst [V.int 2, V.int 4])) d7 (.lst [V.int 3, V.int 4])) d8 (.lst [V.int 3, V.int 4])) d9 (.lst [V.int 4])) d10 (.lst [V.int 4])) := Same.new h10
      refine ⟨(show 2 ≤ sizeLine by decide), fun d11 h11 => ?_⟩
      have s11 : Same (upd (upd (upd (upd (upd (upd (upd (upd (upd (upd (upd H1 d0 (.lst [V.int 0])) d1 (.lst [V.int 0])) d2 (.lst [V.int 0])) d3 (.lst [V.int 1])) d4 (.lst [V.int 1])) d5 (.lst [V.int 2, V.int 4])) d6 (.lst [V.int 2, V.int 4])) d7 (.lst [V.int 3, V.int 4])) d8 (.lst [V.int 3, V.int 4])) d9 (.lst [V.int 4])) d10 (.lst [V.int 4])) (upd (upd (upd (upd (upd (upd (upd (upd (upd (upd (upd (upd H1 d0 (.lst [V.int 0])) d1 (.lst [V.int 0])) d2 (.lst [V.int 0])) d3 (.lst [V.int 1])) d4 (.lst [V.int 1])) d5 (.lst [V.int 2, V.int 4])) d6 (.lst [V.int 2, V.int 4])) d7 (.lst [V.int 3, V.int 4])) d8 (.lst [V.int 3, V.int 4])) d9 (.lst [V.int 4])) d10 (.lst [V.int 4])) d11 (.lst [V.int 5, V.int 6])) := Same.new h11
      refine ⟨(show 1 ≤ sizeLine by decide), fun d12 h12 => ?_⟩
      have s12 : Same (upd (upd (upd (upd (upd (upd (upd (upd (upd (upd (upd (upd H1 d0 (.lst [V.int 0])) d1 (.lst [V.int 0])) d2 (.lst [V.int 0])) d3 (.lst [V.int 1])) d4 (.lst [V.int 1])) d5 (.lst [V.int 2, V.int 4])) d6 (.lst [V.int 2, V.int 4])) d7 (.lst [V.int 3, V.int 4])) d8 (.lst [V.int 3, V.int 4])) d9 (.lst [V.int 4])) d10 (.lst [V.int 4])) d11 (.lst [V.int 5, V.int 6])) (upd (upd (upd (upd (upd (upd (upd (upd (upd (upd (upd (upd (upd H1 d0 (.lst [V.int 0])) d1 (.lst [V.int 0])) d2 (.lst [V.int 0])) d3 (.lst [V.int 1])) d4 (.lst [V.int 1])) d5 (.lst [V.int 2, V.int 4])) d6 (.lst [V.int 2, V.int 4])) d7 (.lst [V.int 3, V.int 4])) d8 (.lst [V.int 3, V.int 4])) d9 (.lst [V.int 4])) d10 (.lst [V.int 4])) d11 (.lst [V.int 5, V.int 6])) d12 (.lst [V.int 6])) := Same.new h12
      refine ⟨Nat.zero_le _, fun d13 h13 => ?_⟩
      have s13 : Same (upd (upd (upd (upd (upd (upd (upd (upd (upd (upd (upd (upd (upd H1 d0 (.lst [V.int 0])) d1 (.lst [V.int 0])) d2 (.lst [V.int 0])) d3 (.lst [V.int 1])) d4 (.lst [V.int 1])) d5 (.lst [V.int 2, V.int 4])) d6 (.lst [V.int 2, V.int 4])) d7 (.lst [V.int 3, V.int 4])) d8 (.lst [V.int 3, V.int 4])) d9 (.lst [V.int 4])) d10 (.lst [V.int 4])) d11 (.lst [V.int 5, V.int 6])) d12 (.lst [V.int 6])) (upd (upd (upd (upd (upd (upd (upd (upd (upd (upd (upd (upd (upd (upd H1 d0 (.lst [V.int 0])) d1 (.lst [V.int 0])) d2 (.lst [V.int 0])) d3 (.lst [V.int 1])) d4 (.lst [V.int 1])) d5 (.lst [V.int 2, V.int 4])) d6 (.lst [V.int 2, V.int 4])) d7 (.lst [V.int 3, V.int 4])) d8 (.lst [V.int 3, V.int 4])) d9 (.lst [V.int 4])) d10 (.lst [V.int 4])) d11 (.lst [V.int 5, V.int 6])) d12 (.lst [V.int 6])) d13 (.lst [])) := Same.new h13
      have B : DL (upd (upd (upd (upd (upd (upd (upd (upd (upd (upd (upd (upd (upd (upd H1 d0 (.lst [V.int 0])) d1 (.lst [V.int 0])) d2 (.lst [V.int 0])) d3 (.lst [V.int 1])) d4 (.lst [V.int 1])) d5 (.lst [V.int 2, V.int 4])) d6 (.lst [V.int 2, V.int 4])) d7 (.lst [V.int 3, V.int 4])) d8 (.lst [V.int 3, V.int 4])) d9 (.lst [V.int 4])) d10 (.lst [V.int 4])) d11 (.lst [V.int 5, V.int 6])) d12 (.lst [V.int 6])) d13 (.lst [])) [d0, d1, d2, d3, d4, d5, d6, d7, d8, d9, d10, d11, d12, d13] basD := ⟨((((((((((((s1.trans s2).trans s3).trans s4).trans s5).trans s6).trans s7).trans s8).trans s9).trans s10).trans s11).trans s12).trans s13) _ _ upd_same, (((((((((((s2.trans s3).trans s4).trans s5).trans s6).trans s7).trans s8).trans s9).trans s10).trans s11).trans s12).trans s13) _ _ upd_same, ((((((((((s3.trans s4).trans s5).trans s6).trans s7).trans s8).trans s9).trans s10).trans s11).trans s12).trans s13) _ _ upd_same, (((((((((s4.trans s5).trans s6).trans s7).trans s8).trans s9).trans s10).trans s11).trans s12).trans s13) _ _ upd_same, ((((((((s5.trans s6).trans s7).trans s8).trans s9).trans s10).trans s11).trans s12).trans s13) _ _ upd_same, (((((((s6.trans s7).trans s8).trans s9).trans s10).trans s11).trans s12).trans s13) _ _ upd_same, ((((((s7.trans s8).trans s9).trans s10).trans s11).trans s12).trans s13) _ _ upd_same, (((((s8.trans s9).trans s10).trans s11).trans s12).trans s13) _ _ upd_same, ((((s9.trans s10).trans s11).trans s12).trans s13) _ _ upd_same, (((s10.trans s11).trans s12).trans s13) _ _ upd_same, ((s11.trans s12).trans s13) _ _ upd_same, (s12.trans s13) _ _ upd_same, (s13) _ _ upd_same, upd_same, trivial⟩
      have S : Same H1 (upd (upd (upd (upd (upd (upd (upd (upd (upd (upd (upd (upd (upd (upd H1 d0 (.lst [V.int 0])) d1 (.lst [V.int 0])) d2 (.lst [V.int 0])) d3 (.lst [V.int 1])) d4 (.lst [V.int 1])) d5 (.lst [V.int 2, V.int 4])) d6 (.lst [V.int 2, V.int 4])) d7 (.lst [V.int 3, V.int 4])) d8 (.lst [V.int 3, V.int 4])) d9 (.lst [V.int 4])) d10 (.lst [V.int 4])) d11 (.lst [V.int 5, V.int 6])) d12 (.lst [V.int 6])) d13 (.lst [])) := ((((((((((((s0.trans s1).trans s2).trans s3).trans s4).trans s5).trans s6).trans s7).trans s8).trans s9).trans s10).trans s11).trans s12).trans s13
      refine ⟨(show 14 ≤ sizeLine by decide), fun D hD => ⟨D, [d0, d1, d2, d3, d4, d5, d6, d7, d8, d9, d10, d11, d12, d13], rfl, S.trans (Same.new hD), upd_same, B.same (Same.new hD)⟩⟩
    rintro _ H2 ⟨D, ds, rfl, s2, hD2, dl2⟩
    have P2 := (hP.same s1).same s2
    have hL2 := s2 _ _ hL1
    have nLp : L ≠ p := by
      intro e
      obtain ⟨r, h1, _⟩ := P2
      rw [e, h1] at hL2
      have := HO.lst.inj (Option.some.inj hL2)
      exact absurd (congrArg List.length this) (show ¬ (3 = 14) by decide)
    have nDp : D ≠ p := by
      intro e
      obtain ⟨r, h1, _⟩ := P2
      rw [e, h1] at hD2
      have h3 := congrArg List.length (HO.lst.inj (Option.some.inj hD2))
      rw [List.length_map, dl2.len] at h3
      exact absurd h3 (show ¬ (3 = 14) by decide)
    -- three things
    refine ⟨fun σ' H' => ∃ (x y z : V) (dx dy dz : PyData) (y6 : Option V), σ' = [some (.ref p), some (.ref L), some (.ref D), some x, some y, some z, y6, none, none] ∧ H' L = some (.lst (clsL.map V.str)) ∧ H' D = some (.lst (ds.map V.ref)) ∧ DL H' ds basD ∧ ItV H' [] x dx ∧ ItV H' [] y dy ∧ ItV H' [] z dz, ?_, ?_⟩
    · refine ⟨3, rfl, by decide, by decide, fun C hC => lc_range (lo := 0) (n := 3) (fun k H' => ∃ (vs : List V) (dv : List PyData) (n' : Int), Kp p H2 H' ∧ Pen H' p c ns n' ∧ n ≤ n' ∧ n' ≤ n + k ∧ H' C = some (.lst vs) ∧ vs.length = k ∧ IVs H' [p, C] vs dv)
        ⟨[], [], n, Kp.new hC, P2.new hC, by omega, by omega, upd_same, rfl, trivial⟩ ?_ ?_⟩
      · rintro k H3 hk ⟨vs, dv, n3, k3, P3, n3a, n3b, hC3, hvl, iv⟩
        have nCp : C ≠ p := P2.ni hC
        refine ⟨rfl, ?_⟩
        refine ⟨(show 2 ≤ sizeLine by decide), fun t ht => ⟨(show 1 ≤ sizeLine by decide), fun l hl => ?_⟩⟩
        have st : Same H3 (upd H3 t (.tup [.int 0, .int 1])) := Same.new ht
        have sl : Same _ (upd (upd H3 t (.tup [.int 0, .int 1])) l (.lst [.int 3])) := Same.new hl
        refine ⟨1, rfl, (show 6 ≤ sizeLine by decide), fun b hb => ?_⟩
        have sb : Same _ (upd (upd (upd H3 t (.tup [.int 0, .int 1])) l (.lst [.int 3])) b (.lst [.non, .int 7, .str "a", .ref t, .ref l, .int (-1)])) := Same.new hb
        have nt : t ≠ p := P3.ni ht
        have nl : l ≠ p := (P3.new (o := .tup [.int 0, .int 1]) ht).ni hl
        have nb : b ≠ p := ((P3.new (o := .tup [.int 0, .int 1]) ht).new (o := .lst [.int 3]) hl).ni hb
        refine ⟨_, rfl, p, c, ns, n3, 6, rfl, ((P3.new ht).new hl).new hb, by decide, by decide, by omega, fun H4 d4 n4 k4 P4 d4a d4b n4a n4b => ?_⟩
        have s3b := st.trans (sl.trans sb)
        have k34 : Kp p H3 H4 := (Same.kp s3b).trans k4
        have ht4 : H4 t = some (.tup [.int 0, .int 1]) := k4 _ _ nt ((sl.trans sb) _ _ upd_same)
        have hl4 : H4 l = some (.lst [.int 3]) := k4 _ _ nl (sb _ _ upd_same)
        have hb4 : H4 b = some (.lst [.non, .int 7, .str "a", .ref t, .ref l, .int (-1)]) := k4 _ _ nb upd_same
        have hC4 := k34 _ _ nCp hC3
        have ntC : t ≠ C := fun e => by
          rw [e, hC3] at ht
          cases ht
        have nlC : l ≠ C := fun e => by
          rw [e, st _ _ hC3] at hl
          cases hl
        obtain ⟨v, d, hat, hit⟩ : ∃ v d, atI [V.non, V.int 7, V.str "a", V.ref t, V.ref l, V.int (-1)] d4 = some v ∧ ItV H4 [p, C] v d := by
          have nt2 : t ∉ [p, C] := by simp [nt, ntC]
          have nl2 : l ∉ [p, C] := by simp [nl, nlC]
          have h : d4 = 0 ∨ d4 = 1 ∨ d4 = 2 ∨ d4 = 3 ∨ d4 = 4 ∨ d4 = 5 := by omega
          rcases h with rfl | rfl | rfl | rfl | rfl | rfl
          · exact ⟨_, _, rfl, .inl ⟨rfl, rfl⟩⟩
          · exact ⟨_, _, rfl, .inr (.inl ⟨rfl, rfl⟩)⟩
          · exact ⟨_, _, rfl, .inr (.inr (.inl ⟨rfl, rfl⟩))⟩
          · exact ⟨_, _, rfl, .inr (.inr (.inr (.inl ⟨t, rfl, nt2, ht4, rfl⟩)))⟩
          · exact ⟨_, _, rfl, .inr (.inr (.inr (.inr (.inl ⟨l, rfl, nl2, hl4, rfl⟩))))⟩
          · exact ⟨_, _, rfl, .inr (.inr (.inr (.inr (.inr ⟨rfl, rfl⟩))))⟩
        refine ⟨_, _, _, _, rfl, rfl, SqL.of hb4, hat, vs, hC4, by rw [hvl]; exact Nat.lt_of_lt_of_le hk (by decide), vs ++ [v], dv ++ [d], n4, ?_, ?_, by omega, by omega, upd_same, by rw [List.length_append, hvl]; rfl, ?_⟩
        · exact Kp.mut (k3.trans k34) hC
        · obtain ⟨r, q1, q2, q3, q4⟩ := P4
          refine ⟨r, by rw [upd_ne nCp.symm]; exact q1, ?_, q3, q4⟩
          rw [upd_ne]
          · exact q2
          · intro e
            obtain ⟨r2, _, q2', _⟩ := P2
            rw [e, hC] at q2'
            cases q2'
        · have iv4 : IVs H4 [p, C] vs dv := iv.imp fun v d h => h.kp List.mem_cons_self k34
          exact (IVs.app hit iv4).imp fun v d h => h.kp (List.mem_cons_of_mem _ List.mem_cons_self) (Kp.upd _)
      · rintro H3 ⟨vs, dv, n3, k3, P3, n3a, n3b, hC3, hvl, iv⟩
        obtain ⟨x, y, z, rfl⟩ : ∃ x y z, vs = [x, y, z] := by
          match vs, hvl with
          | [x, y, z], _ => exact ⟨x, y, z, rfl⟩
        obtain ⟨dx, dy, dz, rfl⟩ : ∃ dx dy dz, dv = [dx, dy, dz] := by
          match dv, iv with
          | [dx, dy, dz], _ => exact ⟨dx, dy, dz, rfl⟩
          | [], h => exact h.elim
          | [_], h => exact h.2.elim
          | [_, _], h => exact h.2.2.elim
          | _ :: _ :: _ :: _ :: _, h => exact h.2.2.2.elim
        have w0 : ∀ v d, ItV H3 [p, C] v d → ItV H3 [] v d := fun v d h => h.imp fun a o _ ho => ⟨by simp, ho⟩
        exact ⟨C, _, rfl, SqL.of hC3, rfl, _, _, rfl, _, _, rfl, _, _, rfl, rfl, x, y, z, dx, dy, dz, _, rfl, k3 _ _ nLp hL2, k3 _ _ nDp hD2, DL.kp P2 k3 dl2, w0 _ _ iv.1, w0 _ _ iv.2.1, w0 _ _ iv.2.2.1⟩
    rintro _ H3 ⟨x, y, z, dx, dy, dz, y6, rfl, hL3, hD3, dl3, ix, iy, iz⟩
    refine ⟨_, rfl, _, rfl, _, rfl, x, y, z, rfl, fun H4 l4 as4 s4 hl4 la4 xv4 => ?_⟩
    refine ⟨_, rfl, _, rfl, _, rfl, x, y, z, rfl, fun H5 l5 as5 s5 hl5 la5 xv5 => ?_⟩
    refine ⟨(show 2 ≤ sizeLine by decide), fun t ht => ?_⟩
    have st : Same H5 (upd H5 t (.tup [V.ref l4, V.ref l5])) := Same.new ht
    have htp : (upd H5 t (.tup [V.ref l4, V.ref l5])) t = some (.tup [V.ref l4, V.ref l5]) := upd_same
    generalize hH6 : (upd H5 t (.tup [V.ref l4, V.ref l5])) = H6 at st htp
    have s36 := s4.trans (s5.trans st)
    have both : ∀ (i : Nat) (v : V), [V.ref l4, V.ref l5][i]? = some v → ∃ (l : Addr) (as : List Addr), v = .ref l ∧ H6 l = some (.lst (as.map V.ref)) ∧ as.length = 14 ∧ XVs H6 ob x y z 0 as := by
      intro i v hv
      match i, hv with
      | 0, hv => exact ⟨l4, as4, (Option.some.inj hv).symm, (s5.trans st) _ _ hl4, la4, xv4.same (s5.trans st)⟩
      | 1, hv => exact ⟨l5, as5, (Option.some.inj hv).symm, st _ _ hl5, la5, xv5.same st⟩
      | i + 2, hv => cases hv
    refine ⟨t, rfl, ⟨_, SqT.of htp⟩, for_tup (xs := [V.ref l4, V.ref l5]) (fun i σ' H' => ∃ y6 y7 y8 : Option V, σ' = [some (.ref p), some (.ref L), some (.ref D), some x, some y, some z, y6, y7, y8] ∧ Same H6 H')
      ⟨_, _, _, rfl, fun _ _ z => z⟩ (fun i σ' H' _ h => ?_) ?_ ?_⟩
    · obtain ⟨_, _, _, _, h⟩ := h
      exact SqT.of (h _ _ htp)
    · rintro i v _ H7 hv ⟨y6', y7, y8, rfl, s7⟩
      obtain ⟨l, as, rfl, hl6, la, xv6⟩ := both i v hv
      refine ⟨14, rfl, by decide, by decide, for_range (lo := 0) (n := 14) (fun k σ' H' => ∃ y6 y8 : Option V, σ' = [some (.ref p), some (.ref L), some (.ref D), some x, some y, some z, y6, some (.ref l), y8] ∧ Same H6 H')
        ⟨_, _, rfl, s7⟩ ?_ ?_⟩
      · rintro k _ H8 hk ⟨y6'', y8', rfl, s8⟩
        rw [Int.zero_add]
        obtain ⟨e, he⟩ : ∃ e, as[k]? = some e := ⟨as[k], List.getElem?_eq_getElem (by omega)⟩
        have hxe : XV H6 e (ob k) (fldS k x y z) := by
          have := xv6.at he
          rw [Nat.zero_add] at this
          exact this
        have hate : atI (as.map V.ref) (k : Int) = some (.ref e) := atI_nat (by rw [List.getElem?_map, he]; rfl)
        have hatc : atI (clsL.map V.str) (k : Int) = some (.str (clsW k)) := atI_nat (by rw [List.getElem?_map, cls_at k hk]; rfl)
        obtain ⟨dk, hdk, hdk2⟩ := (dl3.same s36).at (i := k) hk
        have hatd : atI (ds.map V.ref) (k : Int) = some (.ref dk) := atI_nat (by rw [List.getElem?_map, hdk]; rfl)
        have hL6 := s36 _ _ hL3
        have hD6 := s36 _ _ hD3
        have ix6 := ix.same s36
        have iy6 := iy.same s36
        have iz6 := iz.same s36
        -- things
        refine ⟨fun σ' H' => ∃ b : Addr, σ' = [some (.ref p), some (.ref L), some (.ref D), some x, some y, some z, some (.int k), some (.ref l), some (.ref b)] ∧ Same H6 H' ∧ H' b = some (.lst (fldV k x y z)), ?_, ?_⟩
        · refine ⟨_, rfl, _, rfl, _, rfl, (show 3 ≤ sizeLine by decide), fun l3 h3 => ?_⟩
          refine ⟨_, rfl, (show 3 ≤ sizeLine by decide), fun t3 ht3 => ?_⟩
          refine ⟨t3, _, rfl, .inr (SqT.of upd_same), rfl, rfl, .inr ⟨_, rfl, _, _, rfl, rfl, ?_⟩⟩
          refine ⟨_, rfl, rfl, .inr ⟨_, rfl, _, _, rfl, rfl, ?_⟩⟩
          refine ⟨_, rfl, l3, _, rfl, SqL.of (Same.new ht3 _ _ upd_same), fun b hb => ⟨b, rfl, ?_, ?_⟩⟩
          · exact (s8.trans (Same.new h3)).trans ((Same.new ht3).trans (Same.new hb))
          · rw [upd_same]
            exact congrArg (fun l => some (HO.lst l)) (cut_fld k hk x y z)
        rintro _ H9 ⟨b, rfl, s9, hb9⟩
        -- classes
        refine ⟨fun σ' H' => σ' = [some (.ref p), some (.ref L), some (.ref D), some x, some y, some z, some (.int k), some (.ref l), some (.ref b)] ∧ Same H9 H', ?_, ?_⟩
        · refine ⟨_, rfl, _, rfl, _, _, _, _, rfl, rfl, SqL.of (s9 _ _ hl6), hate, e, k, _, rfl, hk, hxe.same s9, fun H10 s10 => ?_⟩
          refine ⟨_, rfl, _, rfl, _, _, _, _, rfl, rfl, SqL.of ((s9.trans s10) _ _ hL6), hatc, rfl, _, rfl, iteB0 (by rw [decide_eq_true rfl]; rfl) ?_⟩
          refine ⟨_, rfl, _, rfl, _, _, _, _, rfl, rfl, SqL.of ((s9.trans s10) _ _ hl6), hate, e, k, _, rfl, hk, hxe.same (s9.trans s10), fun H11 lb s11 hlb => ?_⟩
          have s611 := (s9.trans s10).trans s11
          refine ⟨_, rfl, _, rfl, _, _, _, _, rfl, rfl, SqL.of (s611 _ _ hD6), hatd, ?_⟩
          have hdk3 : H11 dk = some (.lst (((basD.getD k []).map fun (n : Nat) => (n : Int)).map V.int)) := by
            rw [s611 _ _ hdk2, List.map_map]
            rfl
          refine ⟨_, _, dpL (SqL.of hlb), dpL (SqL.of hdk3), shInts _, shInts _, _, rfl, ?_⟩
          rw [eqvInts, decide_eq_true rfl]
          exact iteF ⟨rfl, s10.trans s11⟩
        rintro _ H10 ⟨rfl, s10⟩
        have s610 := s9.trans s10
        refine ⟨_, rfl, _, rfl, _, _, _, _, rfl, rfl, SqL.of (s610 _ _ hl6), hate, _, rfl, _, rfl, _, _, _, _, rfl, rfl, SqL.of (s610 _ _ hL6), hatc, e, k, x, y, z, rfl, hk, hxe.same s610, fun H11 lf s11 hlf => ?_⟩
        have s611 := s610.trans s11
        refine ⟨_, _, rfl, fld_dp hlf (ix6.same s611) (iy6.same s611) (iz6.same s611), fld_show k ix6.six iy6.six iz6.six, ?_⟩
        refine ⟨_, rfl, _, _, rfl, fld_dp ((s10.trans s11) _ _ hb9) (ix6.same s611) (iy6.same s611) (iz6.same s611), fld_show k ix6.six iy6.six iz6.six, rfl, _, rfl, ?_⟩
        exact iteB0 (by rw [decide_eq_true rfl]; rfl) ⟨_, _, rfl, s611⟩
      · rintro _ H8 ⟨y6'', y8', rfl, s8⟩
        exact ⟨_, _, _, rfl, s8⟩
    · rintro _ H7 ⟨y6', y7, y8, rfl, s7⟩
      exact q _
--SPLIT
def sp_unpacked0 : Sp := fun vs H Q _ => ∃ z : Str, vs = [.str z] ∧ z.length ≤ 40000 ∧ uOk z = true ∧ ∀ (H' : Hp) (l : Addr), Same H H' → H' l = some (.lst ((tsOf z).map V.int)) → Q (.ref l) H'
theorem ok_unpacked0 (T : Txt K w mg f fd ob) : FnOk P w K mg base CX0 4 (f 20) (fd 20) ["text"] sp_unpacked0 := by
  have G_turnsof := ok_turnsof (P := P) (base := base) T
  have G_packed := ok_packed (P := P) (base := base) T
  obtain ⟨tk1, h_MOST⟩ := T.c_MOST
  obtain ⟨tkN, h_NONE⟩ := T.c_NONE
  refine T.F_unpacked.ok sc_unpacked (fun vs H Q E h => ?_) (fun cdv A outer s H vs Q E hr h => ?_)
  · obtain ⟨z, rfl, _⟩ := h
    rfl
  · obtain ⟨z, rfl, hz, hu1, q1⟩ := h
    have hr_turnsof := hr
    have hr_packed : Room 2 _ := hr.mono (by decide)
    refine ⟨_, (pss_cons (ps_set (i := 1) sc_unpacked.nd rfl (Or.inl rfl) (pe_lst pa_nil))
      (C8.pss_cut (ps_for PassesOwn.never rfl (pi_list (pe_M (pe_ifExp (pt_cmpR op_eq (pv 0) (pe_glob (v := .str "-") (by rfl) h_NONE ⟨_, rfl⟩) (nomark _)) (pe_lst pa_nil) (pe_split (pv 0) pe_str)))) (pg_name (i := 2) sc_unpacked.nd rfl (Or.inl rfl)) (pss_cons (ps_expr (pe_bm PySem.F.plainAttrs_list PySem.F.slot_list_extend PySem.F.type_list_extend mt_extend (pv 1) (pa_cons (pe_call G_turnsof hr_turnsof (by rfl) T.m_turnsof T.F_turnsof.kp T.b_turnsof .nil pass0 (pa_cons (pv 2) pa_nil)) pa_nil)))
      (pss_one (ps_if (pt_cmpR op_gt (pe_callB call_len_seq (by rfl) T.z_len PySem.boot_len (pa_cons (pv 1) pa_nil)) (pe_glob (v := .int 400) (by rfl) h_MOST ⟨_, rfl⟩) (nomark _)) (pss_one ps_never) pss_nil))))
      (pss_cons (ps_if (pt_cmpR op_ne (pe_call G_packed hr_packed (by rfl) T.m_packed T.F_packed.kp T.b_packed .nil pass0 (pa_cons (pv 1) pa_nil)) (pv 0) (nomark _)) (pss_one ps_never) pss_nil)
      (pss_one (ps_ret (pv 1)))))), ?_⟩
    have refuse : uOk z = false → False := fun e => by
      rw [hu1] at e
      cases e
    refine ⟨Nat.zero_le _, fun l hl => ?_⟩
    refine ⟨fun σ' H' => ∃ y : Option V, σ' = [some (.str z), some (.ref l), y] ∧ Same H H' ∧ H' l = some (.lst ((tsOf z).map V.int)) ∧ (tsOf z).length ≤ 400, ?_, ?_⟩
    · obtain ⟨hw1, hw2⟩ : (wsOf z).length ≤ 50000 ∧ ∀ w ∈ wsOf z, w.length ≤ 100000 := by
        unfold wsOf
        split
        · exact ⟨Nat.zero_le _, fun w hw => by cases hw⟩
        · have := split_len z
          exact ⟨by omega, fun w hw => by have := this.2 w hw; omega⟩
      have sl : Same H (upd H l (.lst [])) := Same.new hl
      refine ⟨fun v H' => ∃ b, v = .ref b ∧ Same H H' ∧ H' l = some (.lst []) ∧ b ≠ l ∧ H' b = some (.lst ((wsOf z).map V.str)), ?_, ?_⟩
      · refine ⟨_, rfl, rfl, _, rfl, ?_⟩
        unfold wsOf
        by_cases e : z = "-"
        · refine iteB1 (decide_eq_true (by rw [e])) ⟨Nat.zero_le _, fun b hb => ?_⟩
          have nb : b ≠ l := (ne_of_none upd_same hb).symm
          refine ⟨b, rfl, sl.trans (Same.new hb), (upd_ne nb.symm).trans upd_same, nb, ?_⟩
          rw [upd_same, if_pos e]
          rfl
        · refine iteB0 (decide_eq_false fun g => e (V.str.inj g)) ⟨_, rfl, ⟨_, rfl⟩, z, _, rfl, rfl, (by decide +kernel), len_size (by omega), fun b hb => ?_⟩
          have nb : b ≠ l := (ne_of_none upd_same hb).symm
          refine ⟨b, rfl, sl.trans (Same.new hb), (upd_ne nb.symm).trans upd_same, nb, ?_⟩
          rw [upd_same, if_neg e]
      · rintro _ H1 ⟨b, rfl, s1, hl1, nb, hb⟩
        refine ⟨b, rfl, ⟨_, SqL.of hb⟩, for_list (xs := (wsOf z).map V.str) (fun i σ' H' => ∃ y : Option V, σ' = [some (.str z), some (.ref l), y] ∧ Same H H' ∧ H' b = some (.lst ((wsOf z).map V.str)) ∧ H' l = some (.lst ((((wsOf z).take i).flatMap fun w => tOf (cp w)).map V.int)) ∧ (((wsOf z).take i).flatMap fun w => tOf (cp w)).length ≤ 400)
          ⟨none, rfl, s1, hb, hl1, Nat.zero_le _⟩ (fun i σ' H' _ h => ?_) ?_ ?_⟩
        · obtain ⟨y, _, _, h3, _⟩ := h
          exact SqL.of h3
        · rintro i x _ H2 hx ⟨y, rfl, s2, hb2, hl2, hlen⟩
          obtain ⟨u, hu, rfl⟩ : ∃ u, (wsOf z)[i]? = some u ∧ x = .str u := by
            rw [List.getElem?_map] at hx
            cases e : (wsOf z)[i]? with
            | none =>
              rw [e] at hx
              cases hx
            | some u =>
              rw [e] at hx
              exact ⟨u, rfl, (Option.some.inj hx).symm⟩
          have eT : ((wsOf z).take (i + 1)).flatMap (fun w => tOf (cp w)) = ((wsOf z).take i).flatMap (fun w => tOf (cp w)) ++ tOf (cp u) := by
            rw [List.take_succ, hu, List.flatMap_append]
            simp
          have lt := tOf_len (cp u)
          refine ⟨_, rfl, .inl ⟨rfl, _, SqL.of hl2⟩, _, rfl, u, rfl, hw2 u (List.mem_of_getElem? hu), fun H3 c s3 hc h3 => ?_⟩
          have hl3 := s3 _ _ hl2
          have ncl : c ≠ l := (ne_of_none hl2 hc).symm
          refine ⟨l, c, _, _, rfl, rfl, hl3, h3, ?_, ?_⟩
          · rw [List.length_map, List.length_map]
            exact len_size (by omega)
          refine ⟨_, rfl, l, _, rfl, .inl (SqL.of upd_same), _, _, rfl, rfl, _, rfl, ?_⟩
          have s4 : Same H (upd H3 l (.lst ((((wsOf z).take i).flatMap fun w => tOf (cp w)).map V.int ++ (tOf (cp u)).map V.int))) := Same.mut (s2.trans s3) hl
          by_cases e : (((wsOf z).take i).flatMap fun w => tOf (cp w)).length + (tOf (cp u)).length ≤ 400
          · refine iteB0 (decide_eq_false ?_) ⟨_, rfl, s4, (upd_ne nb).trans (s3 _ _ hb2), ?_, ?_⟩
            · rw [List.length_append, List.length_map, List.length_map]
              omega
            · rw [upd_same, eT, List.map_append]
            · rw [eT, List.length_append]
              exact e
          · refine iteB1 (decide_eq_true ?_) ?_
            · rw [List.length_append, List.length_map, List.length_map]
              omega
            · refine (refuse ?_).elim
              unfold uOk
              rw [decide_eq_false, Bool.false_and]
              intro g
              have hpre : (((wsOf z).take (i + 1)).flatMap fun w => tOf (cp w)).length ≤ (tsOf z).length := by
                unfold tsOf
                conv => rhs; rw [← List.take_append_drop (i + 1) (wsOf z)]
                rw [List.flatMap_append, List.length_append]
                omega
              rw [eT, List.length_append] at hpre
              omega
        · rintro _ H2 ⟨y, rfl, s2, hb2, hl2, hlen⟩
          rw [List.length_map, List.take_length] at hl2 hlen
          exact ⟨y, rfl, s2, hl2, hlen⟩
    · rintro _ H1 ⟨y, rfl, s1, hl1, hlen⟩
      refine ⟨_, rfl, l, tsOf z, rfl, SqL.of hl1, by omega, tsOf_in z, fun H2 s2 => ⟨_, rfl, rfl, _, rfl, ?_⟩⟩
      by_cases e : pkS (tsOf z) = z
      · have hu : uOk z = true := by
          unfold uOk
          rw [decide_eq_true hlen, decide_eq_true e]
          rfl
        refine iteB0 (by rw [e, decide_eq_true rfl]; rfl) ⟨_, rfl, q1 _ l (s1.trans s2) (s2 _ _ hl1)⟩
      · have hu : uOk z = false := by
          unfold uOk
          rw [decide_eq_false e, Bool.and_false]
        refine iteB1 (by rw [decide_eq_false fun g => e (V.str.inj g)]; rfl) ?_
        exact (refuse hu).elim
theorem pk_len {ts : List Int} (h : ts.length ≤ 400) : (pkS ts).length ≤ 2900 := by
  unfold pkS
  split
  · decide +kernel
  · rename_i h0
    have h1 := join_sum (ws := (runs ts).map wordS) (by simpa using runs_ne h0)
    have h2 := sum_words (runs ts) fun p hp => by
      have := alt_pos _ _ (alt_runs ts) p hp
      rw [flat_runs] at this
      omega
    have h3 := alt_len _ _ (alt_runs ts)
    rw [flat_runs] at h3
    unfold sumL at h1
    rw [List.length_map] at h1
    omega
theorem show_turns {ts : List Int} (h : ts.length ≤ 400) (hx : ∀ x ∈ ts, 0 ≤ x ∧ x ≤ 3) : ShowOk (.list (ts.map PyData.int)) := by
  have hs : ∀ d ∈ ts.map PyData.int, Shw d 6 0 := by
    intro d hd
    obtain ⟨x, hx', rfl⟩ := List.mem_map.mp hd
    have := hx x hx'
    exact shw_int (by omega)
  refine (shw_lst hs).ok ?_ (by decide)
  rw [List.length_map]
  omega
def eightS : List Str := ["", " ", "-0", "--", "0 -", "- 0", "4", "0*2 0"]
theorem eight_len : ∀ o ∈ eightS, o.length ≤ 10 := by decide +kernel
theorem ok_law (T : Txt K w mg f fd ob) : FnG P w K mg base CX0 6 (f 35) (fd 35) ["_law_script"] (sp_law K) := by
  have G_lpen := ok_lpen (P := P) (w := w) (base := base) T
  have G_ldraw := ok_ldraw (P := P) (w := w) (base := base) T
  have G_lmany := ok_lmany (P := P) (w := w) (base := base) T
  have G_lpk := ok_lpk (P := P) (w := w) (base := base) T
  have G_packed := ok_packed (P := P) (w := w) (base := base) T
  have G_unpacked := ok_unpacked0 (P := P) (w := w) (base := base) T
  have G_lbent := ok_lbent (P := P) (w := w) (base := base) T
  have G_lisright := ok_lisright (P := P) (w := w) (base := base) T
  have G_lrefused := ok_lrefused (P := P) (w := w) (base := base) T
  have G_lmaderight := ok_lmaderight (P := P) (w := w) (base := base) T
  refine Fun.okG T.F_law sc_law (fun vs H Q E h => ?_) (fun cdv A outer s H vs Q E hg hr h => ?_)
  · obtain ⟨a, ns, rfl, _⟩ := h
    rfl
  · obtain ⟨a, ns, rfl, hS, hlen, q⟩ := h
    have hr_lrefused := hr
    have hr_lmaderight : Room 4 _ := hr.mono (by decide)
    have hr_unpacked : Room 4 _ := hr.mono (by decide)
    have hr_packed : Room 2 _ := hr.mono (by decide)
    have hr_lbent : Room 2 _ := hr.mono (by decide)
    have hr_lmany : Room 2 _ := hr.mono (by decide)
    have hr_lpen : Room 1 _ := hr.mono (by decide)
    have hr_ldraw : Room 1 _ := hr.mono (by decide)
    have hr_lpk : Room 1 _ := hr.mono (by decide)
    have hr_lisright : Room 1 _ := hr.mono (by decide)
    have hu64 := hr.units
    refine ⟨_, (pss_cons (ps_set (i := 1) sc_law.nd rfl (Or.inl rfl) (pe_call G_lpen hr_lpen (by rfl) T.m_lpen T.F_lpen.kp T.b_lpen .nil pass0 (pa_cons (pv 0) pa_nil)))
      (pss_cons (ps_for PassesOwn.never rfl (pi_range1 (by rfl) T.z_range (pa_cons pe_int pa_nil)) (pg_name (i := 2) sc_law.nd rfl (Or.inl rfl)) (pss_cons (ps_set (i := 3) sc_law.nd rfl (Or.inl rfl) (pe_call G_lmany hr_lmany (by rfl) T.m_lmany T.F_lmany.kp T.b_lmany .nil pass0 (pa_cons (pv 1) pa_nil)))
      (C8.pss_cut (ps_par (i := 4) (j := 5) (by rfl) sc_law.nd rfl rfl (by decide) rfl rfl (pa_cons (pe_callTy call_list_of (by rfl) T.z_list (by decide +kernel) (pa_cons (pv 3) pa_nil)) (pa_cons (pe_call G_lpk hr_lpk (by rfl) T.m_lpk T.F_lpk.kp T.b_lpk .nil pass0 (pa_cons (pv 3) pa_nil)) pa_nil)) (by rfl))
      (C8.pss_cut (ps_if (PW.pt (pw_or (pt_cmpR op_ne (pe_call G_packed hr_packed (by rfl) T.m_packed T.F_packed.kp T.b_packed .nil pass0 (pa_cons (pv 4) pa_nil)) (pv 5) (nomark _)) (pw_or (pt_cmpR (op_neD hr.units) (pv 4) (pv 3) (nomark _)) (pw_or1 (pt_cmpR op_ne (pe_callB (call_reprD hg hu64) (by rfl) T.z_repr (by decide +kernel) (pa_cons (pe_call G_unpacked hr_unpacked (by rfl) T.m_unpacked T.F_unpacked.kp T.b_unpacked .nil pass0 (pa_cons (pv 5) pa_nil)) pa_nil)) (pe_callB (call_reprD hg hu64) (by rfl) T.z_repr (by decide +kernel) (pa_cons (pv 3) pa_nil)) (nomark _)))))) (pss_one (ps_ret pe_bl)) pss_nil)
      (C8.pss_cut (ps_set (i := 6) sc_law.nd rfl (Or.inl rfl) (pe_call G_lbent hr_lbent (by rfl) T.m_lbent T.F_lbent.kp T.b_lbent .nil pass0 (pa_cons (pv 1) (pa_cons (pv 5) pa_nil))))
      (C8.pss_cut (ps_set (i := 7) sc_law.nd rfl (Or.inl rfl) (pe_ix ix_list (pe_lst (pa_cons pe_str (pa_cons pe_str (pa_cons pe_str (pa_cons pe_str (pa_cons pe_str (pa_cons pe_str (pa_cons pe_str (pa_cons pe_str pa_nil))))))))) (pe_call G_ldraw hr_ldraw (by rfl) T.m_ldraw T.F_ldraw.kp T.b_ldraw .nil pass0 (pa_cons (pv 1) (pa_cons pe_int pa_nil))) (fun _ _ => rfl)))
      (pss_one (ps_for PassesOwn.never rfl (pi_tup (pe_tup (pa_cons (pv 6) (pa_cons (pe_call G_lbent hr_lbent (by rfl) T.m_lbent T.F_lbent.kp T.b_lbent .nil pass0 (pa_cons (pv 1) (pa_cons (pv 6) pa_nil))) (pa_cons (pv 7) pa_nil))))) (pg_name (i := 8) sc_law.nd rfl (Or.inl rfl)) (pss_one (ps_if (pt_val (pe_call G_lisright hr_lisright (by rfl) T.m_lisright T.F_lisright.kp T.b_lisright .nil pass0 (pa_cons (pv 8) pa_nil))) (pss_one (ps_if (pt_cmpR op_ne (pe_call G_packed hr_packed (by rfl) T.m_packed T.F_packed.kp T.b_packed .nil pass0 (pa_cons (pe_call G_unpacked hr_unpacked (by rfl) T.m_unpacked T.F_unpacked.kp T.b_unpacked .nil pass0 (pa_cons (pv 8) pa_nil)) pa_nil)) (pv 8) (nomark _)) (pss_one (ps_ret pe_bl)) pss_nil)) (pss_one (ps_if (pt_not (pt_val (pe_call G_lrefused hr_lrefused (by rfl) T.m_lrefused T.F_lrefused.kp T.b_lrefused .nil pass0 (pa_cons (pv 8) pa_nil)))) (pss_one (ps_ret pe_bl)) pss_nil))))))))))))
      (pss_one (ps_ret (callG G_lmaderight hg hr_lmaderight (by rfl) T.m_lmaderight T.F_lmaderight.kp T.b_lmaderight .nil pass0 (pa_cons (pv 1) pa_nil)))))), ?_⟩
    refine ⟨_, rfl, a, ns, rfl, hS, hlen, fun H1 p c P1 => ?_⟩
    refine ⟨10, rfl, by decide, by decide, for_range (lo := 0) (n := 10) (fun i σ' H' => ∃ (y2 y3 y4 y5 y6 y7 y8 : Option V) (n : Int), σ' = [some (.ref a), some (.ref p), y2, y3, y4, y5, y6, y7, y8] ∧ Pen H' p c ns n ∧ n ≤ 100 * i)
      ⟨none, none, none, none, none, none, none, 0, rfl, P1, by omega⟩ ?_ ?_⟩
    · rintro i _ H2 hi ⟨y2, y3, y4, y5, y6, y7, y8, n, rfl, P2, hn⟩
      refine ⟨_, rfl, p, c, ns, n, rfl, P2, by omega, fun H3 l ts n3 k3 P3 n3a n3b hl3 nl htl htx => ?_⟩
      have hpl := pk_len htl
      have hshow := show_turns htl htx
      -- handed, text
      refine ⟨fun σ' H' => ∃ g : Addr, σ' = [some (.ref a), some (.ref p), some (.int (0 + (i : Int))), some (.ref l), some (.ref g), some (.str (pkS ts)), y6, y7, y8] ∧ Same H3 H' ∧ H' g = some (.lst (ts.map V.int)), ?_, ?_⟩
      · refine ⟨_, rfl, l, _, rfl, .inl (SqL.of hl3), fun g hg => ?_⟩
        have sg : Same H3 (upd H3 g (.lst (ts.map V.int))) := Same.new hg
        exact ⟨_, rfl, l, ts, rfl, SqL.of (sg _ _ hl3), htl, htx, fun H4 s4 => ⟨_, _, rfl, g, rfl, sg.trans s4, s4 _ _ upd_same⟩⟩
      rintro _ H4 ⟨g, rfl, s4, hg4⟩
      have hl4 := s4 _ _ hl3
      -- packed and read again
      refine ⟨fun σ' H' => σ' = [some (.ref a), some (.ref p), some (.int (0 + (i : Int))), some (.ref l), some (.ref g), some (.str (pkS ts)), y6, y7, y8] ∧ Same H4 H', ?_, ?_⟩
      · refine ⟨_, rfl, g, ts, rfl, SqL.of hg4, by omega, htx, fun H5 s5 => ⟨_, rfl, rfl, _, rfl, iteB0 (by rw [decide_eq_true rfl]; rfl) ?_⟩⟩
        refine ⟨_, rfl, _, rfl, _, _, dpL (SqL.of (s5 _ _ hg4)), dpL (SqL.of (s5 _ _ hl4)), shInts _, shInts _, _, rfl, ?_⟩
        rw [eqvInts, decide_eq_true rfl]
        refine iteF ⟨_, rfl, pkS ts, rfl, by omega, uOk_pk htx htl, fun H6 lu s6 hu => ?_⟩
        rw [ts_pk htx htl] at hu
        refine ⟨_, _, rfl, dpL (SqL.of hu), hshow, _, rfl, _, _, rfl, dpL (SqL.of ((s5.trans s6) _ _ hl4)), hshow, rfl, _, rfl, ?_⟩
        exact iteB0 (by rw [decide_eq_true rfl]; rfl) ⟨rfl, s5.trans s6⟩
      rintro _ H5 ⟨rfl, s5⟩
      have P5 := (P3.same s4).same s5
      -- bent
      refine ⟨fun σ' H' => ∃ (z1 : Str) (n' : Int), σ' = [some (.ref a), some (.ref p), some (.int (0 + (i : Int))), some (.ref l), some (.ref g), some (.str (pkS ts)), some (.str z1), y7, y8] ∧ Pen H' p c ns n' ∧ n' ≤ n3 + 20 ∧ z1.length ≤ 6000, ?_, ?_⟩
      · exact ⟨_, rfl, _, rfl, p, c, ns, n3, pkS ts, rfl, P5, by omega, by omega, fun H6 z1 n6 k6 P6 n6a n6b hz1 => ⟨z1, n6, rfl, P6, n6b, by omega⟩⟩
      rintro _ H6 ⟨z1, n6, rfl, P6, n6b, hz1⟩
      refine ⟨fun σ' H' => ∃ (z3 : Str) (n' : Int), σ' = [some (.ref a), some (.ref p), some (.int (0 + (i : Int))), some (.ref l), some (.ref g), some (.str (pkS ts)), some (.str z1), some (.str z3), y8] ∧ Pen H' p c ns n' ∧ n' ≤ n6 + 1 ∧ z3.length ≤ 10, ?_, ?_⟩
      · refine ⟨(show 8 ≤ sizeLine by decide), fun b hb => ?_⟩
        refine ⟨_, rfl, p, c, ns, n6, 8, rfl, P6.new hb, by decide, by decide, by omega, fun H7 d7 n7 k7 P7 d7a d7b n7a n7b => ?_⟩
        have hb7 : H7 b = some (.lst (eightS.map V.str)) := k7 _ _ (P6.ni hb) upd_same
        obtain ⟨z3, hz3, hat⟩ := atL_in (ws := eightS) d7a d7b
        exact ⟨_, _, _, _, rfl, rfl, SqL.of hb7, hat, z3, n7, rfl, P7, n7b, eight_len _ hz3⟩
      rintro _ H7 ⟨z3, n7, rfl, P7, n7b, hz3⟩
      -- each of three
      refine ⟨_, rfl, _, rfl, _, rfl, p, c, ns, n7, z1, rfl, P7, by omega, by omega, fun H8 z2 n8 k8 P8 n8a n8b hz2 => ?_⟩
      refine ⟨_, rfl, (show 3 ≤ sizeLine by decide), fun t ht => ?_⟩
      have htt : (upd H8 t (.tup [V.str z1, V.str z2, V.str z3])) t = some (.tup [V.str z1, V.str z2, V.str z3]) := upd_same
      refine ⟨t, rfl, ⟨_, SqT.of htt⟩, for_tup (xs := [V.str z1, V.str z2, V.str z3]) (fun j σ' H' => ∃ y8 : Option V, σ' = [some (.ref a), some (.ref p), some (.int (0 + (i : Int))), some (.ref l), some (.ref g), some (.str (pkS ts)), some (.str z1), some (.str z3), y8] ∧ Pen H' p c ns n8 ∧ H' t = some (.tup [V.str z1, V.str z2, V.str z3]))
        ⟨_, rfl, P8.new ht, htt⟩ (fun j σ' H' _ h => ?_) ?_ ?_⟩
      · obtain ⟨_, _, _, h⟩ := h
        exact SqT.of h
      · rintro j v _ H9 hv ⟨y8', rfl, P9, ht9⟩
        obtain ⟨z, rfl, hz⟩ : ∃ z : Str, v = .str z ∧ z.length ≤ 40000 := by
          match j, hv with
          | 0, hv => exact ⟨z1, (Option.some.inj hv).symm, by omega⟩
          | 1, hv => exact ⟨z2, (Option.some.inj hv).symm, by omega⟩
          | 2, hv => exact ⟨z3, (Option.some.inj hv).symm, by omega⟩
          | j + 3, hv => cases hv
        refine ⟨_, rfl, z, rfl, hz, fun H10 s10 => ⟨_, rfl, ?_⟩⟩
        cases hR : isRight z with
        | true =>
          have hu : uOk z = true := by
            rw [← right_same]
            exact hR
          have hu2 := hu
          unfold uOk at hu2
          rw [Bool.and_eq_true] at hu2
          have hu3 := of_decide_eq_true hu2.1
          refine iteT ⟨_, rfl, z, rfl, hz, hu, fun H11 lu s11 hlu => ?_⟩
          refine ⟨lu, tsOf z, rfl, SqL.of hlu, by omega, tsOf_in z, fun H12 s12 => ⟨_, rfl, rfl, _, rfl, ?_⟩⟩
          have s912 := s10.trans (s11.trans s12)
          rw [of_decide_eq_true hu2.2]
          exact iteB0 (by rw [decide_eq_true rfl]; rfl) ⟨_, rfl, P9.same s912, s912 _ _ ht9⟩
        | false =>
          have hu : uOk z = false := by
            rw [← right_same]
            exact hR
          refine iteF ⟨_, rfl, z, rfl, hz, hu, fun H11 s11 => ⟨_, rfl, iteB0 rfl ?_⟩⟩
          exact ⟨_, rfl, P9.same (s10.trans s11), (s10.trans s11) _ _ ht9⟩
      · rintro _ H9 ⟨y8', rfl, P9, ht9⟩
        exact ⟨_, _, _, _, _, _, _, n8, rfl, P9, by omega⟩
    · rintro _ H2 ⟨y2, y3, y4, y5, y6, y7, y8, n, rfl, P2, hn⟩
      exact ⟨_, rfl, p, c, ns, n, rfl, P2, by omega, fun H' => q H'⟩
end
--END
set_option maxHeartbeats 4000000 in
theorem all_mk {l : PySem.W.OpenLaw} {w : World} {K : PySem.W.Frag} {h : Heap} {mg : Str → Option Value} {fa : Addr} (X : K.In h) (G : h.Ns mainGlobals mg) (hfa : mg "law" = some (.ref fa))
    {od0 an0 od1 an1 od2 an2 od3 an3 od4 an4 od5 an5 od6 an6 od7 an7 od8 an8 od9 an9 od10 an10 od11 an11 od12 an12 od13 an13 od14 an14 od15 an15 od16 an16 od17 an17 od18 an18 od19 an19 od20 an20 od21 an21 od22 an22 od23 an23 od24 an24 od25 an25 od26 an26 od27 an27 od28 an28 od29 an29 od30 an30 od31 an31 od32 an32 od33 an33 od34 an34 od35 an35 : Option Addr} {sl0 sl1 sl2 sl3 sl4 sl5 sl6 sl7 sl8 sl9 sl10 sl11 sl12 sl13 sl14 sl15 sl16 sl17 sl18 sl19 sl20 sl21 sl22 sl23 sl24 sl25 sl26 sl27 sl28 sl29 sl30 sl31 sl32 sl33 sl34 sl35 : Array (Option Value)} {oc0 kV0 dc0 pm0 cd0 ct0 oc1 kV1 dc1 pm1 cd1 ct1 oc2 kV2 dc2 pm2 cd2 ct2 oc3 kV3 dc3 pm3 cd3 ct3 oc4 kV4 dc4 pm4 cd4 ct4 oc5 kV5 dc5 pm5 cd5 ct5 oc6 kV6 dc6 pm6 cd6 ct6 oc7 kV7 dc7 pm7 cd7 ct7 oc8 kV8 dc8 pm8 cd8 ct8 oc9 kV9 dc9 pm9 cd9 ct9 oc10 kV10 dc10 pm10 cd10 ct10 oc11 kV11 dc11 pm11 cd11 ct11 oc12 kV12 dc12 pm12 cd12 ct12 oc13 kV13 dc13 pm13 cd13 ct13 oc14 kV14 dc14 pm14 cd14 ct14 oc15 kV15 dc15 pm15 cd15 ct15 oc16 kV16 dc16 pm16 cd16 ct16 oc17 kV17 dc17 pm17 cd17 ct17 oc18 kV18 dc18 pm18 cd18 ct18 oc19 kV19 dc19 pm19 cd19 ct19 oc20 kV20 dc20 pm20 cd20 ct20 oc21 kV21 dc21 pm21 cd21 ct21 oc22 kV22 dc22 pm22 cd22 ct22 oc23 kV23 dc23 pm23 cd23 ct23 oc24 kV24 dc24 pm24 cd24 ct24 oc25 kV25 dc25 pm25 cd25 ct25 oc26 kV26 dc26 pm26 cd26 ct26 oc27 kV27 dc27 pm27 cd27 ct27 oc28 kV28 dc28 pm28 cd28 ct28 oc29 kV29 dc29 pm29 cd29 ct29 oc30 kV30 dc30 pm30 cd30 ct30 oc31 kV31 dc31 pm31 cd31 ct31 oc32 kV32 dc32 pm32 cd32 ct32 oc33 kV33 dc33 pm33 cd33 ct33 oc34 kV34 dc34 pm34 cd34 ct34 oc35 kV35 dc35 pm35 cd35 ct35 : Value} {a0 a1 a2 a3 a4 a5 a6 a7 a8 a9 a10 a11 a12 a13 a14 a15 a16 a17 a18 a19 a20 a21 a22 a23 a24 a25 a26 a27 a28 a29 a30 a31 a32 a33 a34 a35 : Addr} {nm_NoText q_NoText : Str} {N_NoText C_NoText : Addr} {bs_NoText : List Value} {sn_NoText : List Str} {sub_NoText : List Value} {ab_NoText : Bool} {col_NoText : Option Bool} {dd_NoText : Option Addr} {m0_NoText m1_NoText m2_NoText m3_NoText m5_NoText : Option Value} {nm_NotAhead q_NotAhead : Str} {N_NotAhead C_NotAhead : Addr} {bs_NotAhead : List Value} {sn_NotAhead : List Str} {sub_NotAhead : List Value} {ab_NotAhead : Bool} {col_NotAhead : Option Bool} {dd_NotAhead : Option Addr} {m0_NotAhead m1_NotAhead m2_NotAhead m3_NotAhead m5_NotAhead : Option Value} {nm_NoRow q_NoRow : Str} {N_NoRow C_NoRow : Addr} {bs_NoRow : List Value} {sn_NoRow : List Str} {sub_NoRow : List Value} {ab_NoRow : Bool} {col_NoRow : Option Bool} {dd_NoRow : Option Addr} {m0_NoRow m1_NoRow m2_NoRow m3_NoRow m5_NoRow : Option Value} {nm_NotReady q_NotReady : Str} {N_NotReady C_NotReady : Addr} {bs_NotReady : List Value} {sn_NotReady : List Str} {sub_NotReady : List Value} {ab_NotReady : Bool} {col_NotReady : Option Bool} {dd_NotReady : Option Addr} {m0_NotReady m1_NotReady m2_NotReady m3_NotReady m5_NotReady : Option Value} {nm_NoReplay q_NoReplay : Str} {N_NoReplay C_NoReplay : Addr} {bs_NoReplay : List Value} {sn_NoReplay : List Str} {sub_NoReplay : List Value} {ab_NoReplay : Bool} {col_NoReplay : Option Bool} {dd_NoReplay : Option Addr} {m0_NoReplay m1_NoReplay m2_NoReplay m3_NoReplay m5_NoReplay : Option Value} {nm_NoPlace q_NoPlace : Str} {N_NoPlace C_NoPlace : Addr} {bs_NoPlace : List Value} {sn_NoPlace : List Str} {sub_NoPlace : List Value} {ab_NoPlace : Bool} {col_NoPlace : Option Bool} {dd_NoPlace : Option Addr} {m0_NoPlace m1_NoPlace m2_NoPlace m3_NoPlace m5_NoPlace : Option Value} {nm_NoTime q_NoTime : Str} {N_NoTime C_NoTime : Addr} {bs_NoTime : List Value} {sn_NoTime : List Str} {sub_NoTime : List Value} {ab_NoTime : Bool} {col_NoTime : Option Bool} {dd_NoTime : Option Addr} {m0_NoTime m1_NoTime m2_NoTime m3_NoTime m5_NoTime : Option Value} {nm_NoStep q_NoStep : Str} {N_NoStep C_NoStep : Addr} {bs_NoStep : List Value} {sn_NoStep : List Str} {sub_NoStep : List Value} {ab_NoStep : Bool} {col_NoStep : Option Bool} {dd_NoStep : Option Addr} {m0_NoStep m1_NoStep m2_NoStep m3_NoStep m5_NoStep : Option Value} {nm_NoPair q_NoPair : Str} {N_NoPair C_NoPair : Addr} {bs_NoPair : List Value} {sn_NoPair : List Str} {sub_NoPair : List Value} {ab_NoPair : Bool} {col_NoPair : Option Bool} {dd_NoPair : Option Addr} {m0_NoPair m1_NoPair m2_NoPair m3_NoPair m5_NoPair : Option Value} {nm_NoThread q_NoThread : Str} {N_NoThread C_NoThread : Addr} {bs_NoThread : List Value} {sn_NoThread : List Str} {sub_NoThread : List Value} {ab_NoThread : Bool} {col_NoThread : Option Bool} {dd_NoThread : Option Addr} {m0_NoThread m1_NoThread m2_NoThread m3_NoThread m5_NoThread : Option Value} {nm_NoSource q_NoSource : Str} {N_NoSource C_NoSource : Addr} {bs_NoSource : List Value} {sn_NoSource : List Str} {sub_NoSource : List Value} {ab_NoSource : Bool} {col_NoSource : Option Bool} {dd_NoSource : Option Addr} {m0_NoSource m1_NoSource m2_NoSource m3_NoSource m5_NoSource : Option Value} {nm_TooMany q_TooMany : Str} {N_TooMany C_TooMany : Addr} {bs_TooMany : List Value} {sn_TooMany : List Str} {sub_TooMany : List Value} {ab_TooMany : Bool} {col_TooMany : Option Bool} {dd_TooMany : Option Addr} {m0_TooMany m1_TooMany m2_TooMany m3_TooMany m5_TooMany : Option Value} {nm_TooLong q_TooLong : Str} {N_TooLong C_TooLong : Addr} {bs_TooLong : List Value} {sn_TooLong : List Str} {sub_TooLong : List Value} {ab_TooLong : Bool} {col_TooLong : Option Bool} {dd_TooLong : Option Addr} {m0_TooLong m1_TooLong m2_TooLong m3_TooLong m5_TooLong : Option Value} {nm_NotYet q_NotYet : Str} {N_NotYet C_NotYet : Addr} {bs_NotYet : List Value} {sn_NotYet : List Str} {sub_NotYet : List Value} {ab_NotYet : Bool} {col_NotYet : Option Bool} {dd_NotYet : Option Addr} {m0_NotYet m1_NotYet m2_NotYet m3_NotYet m5_NotYet : Option Value} {tk_MOST : Tok} {tk_MOST_THREADS : Tok} {tk_NONE : Tok}
    (eC_NoText : PySem.W.nsIn K mainGlobals "NoText" = some (some (.ref C_NoText)))
    (xL_NoText : K.lookup C_NoText = some (excClassObj nm_NoText q_NoText C_NoText N_NoText bs_NoText [.type "ValueError", .type "Exception", .type "BaseException", .type "object"] true sn_NoText sub_NoText ab_NoText col_NoText dd_NoText m0_NoText m1_NoText m2_NoText m3_NoText m5_NoText "ValueError.__new__"))
    (sa_NoText : PySem.W.findIn K (.ref C_NoText) "__setattr__" = some (some (.builtin "object.__setattr__")))
    (ga_NoText : PySem.W.findIn K (.ref C_NoText) "__getattribute__" = some (some (.builtin "BaseException.__getattribute__")))
    (gg_NoText : PySem.W.findIn K (.ref C_NoText) "__getattr__" = some none)
    (kC_NoText : PySem.W.keepIn K (.ref C_NoText) = true)
    (xC_NoText : PySem.W.subIn K (.ref C_NoText) (.type "BaseException") = some true)
    (tC_NoText : PySem.W.typeIn K (.ref C_NoText) = some (.type "type"))
    (hC_NoText : PySem.W.hasDictIn K C_NoText = true)
    (iC_NoText : PySem.W.isClsIn K C_NoText = true)
    (sC_NoText : PySem.W.subIn K (.ref C_NoText) (.ref C_NoText) = some true)
    (fI_NoText : PySem.W.findIn K (.ref C_NoText) "__init__" = some (some (.ref a0)))
    (tI_NoText : PySem.W.typeIn K (.ref a0) = some (.type "function"))
    (cl_NoText : PySem.W.findIn K (.ref C_NoText) "__class__" = some (some (.builtin "object.__class__")))
    (mr_NoText : PySem.W.mroIn K C_NoText (.type "object") = some true)
    (nf_nth_NoText : PySem.W.findIn K (.ref C_NoText) "nth" = some none)
    (l0 : K.lookup a0 = some ⟨oc0, od0, .func (PySem.W.fnOf "__init__" "NoText.__init__" (defArgs s_iNoText) (defBody s_iNoText) (defScope s_iNoText) .none kV0 dc0 pm0 an0 cd0 ct0), sl0⟩)
    (c0 : PySem.W.codeIn K cd0 "NoText.__init__" = true) (k0 : PySem.W.keepIn K (.ref a0) = true)
    (eC_NotAhead : PySem.W.nsIn K mainGlobals "NotAhead" = some (some (.ref C_NotAhead)))
    (xL_NotAhead : K.lookup C_NotAhead = some (excClassObj nm_NotAhead q_NotAhead C_NotAhead N_NotAhead bs_NotAhead [.type "ValueError", .type "Exception", .type "BaseException", .type "object"] true sn_NotAhead sub_NotAhead ab_NotAhead col_NotAhead dd_NotAhead m0_NotAhead m1_NotAhead m2_NotAhead m3_NotAhead m5_NotAhead "ValueError.__new__"))
    (sa_NotAhead : PySem.W.findIn K (.ref C_NotAhead) "__setattr__" = some (some (.builtin "object.__setattr__")))
    (ga_NotAhead : PySem.W.findIn K (.ref C_NotAhead) "__getattribute__" = some (some (.builtin "BaseException.__getattribute__")))
    (gg_NotAhead : PySem.W.findIn K (.ref C_NotAhead) "__getattr__" = some none)
    (kC_NotAhead : PySem.W.keepIn K (.ref C_NotAhead) = true)
    (xC_NotAhead : PySem.W.subIn K (.ref C_NotAhead) (.type "BaseException") = some true)
    (tC_NotAhead : PySem.W.typeIn K (.ref C_NotAhead) = some (.type "type"))
    (hC_NotAhead : PySem.W.hasDictIn K C_NotAhead = true)
    (iC_NotAhead : PySem.W.isClsIn K C_NotAhead = true)
    (sC_NotAhead : PySem.W.subIn K (.ref C_NotAhead) (.ref C_NotAhead) = some true)
    (fI_NotAhead : PySem.W.findIn K (.ref C_NotAhead) "__init__" = some (some (.ref a1)))
    (tI_NotAhead : PySem.W.typeIn K (.ref a1) = some (.type "function"))
    (cl_NotAhead : PySem.W.findIn K (.ref C_NotAhead) "__class__" = some (some (.builtin "object.__class__")))
    (mr_NotAhead : PySem.W.mroIn K C_NotAhead (.type "object") = some true)
    (nf_one_NotAhead : PySem.W.findIn K (.ref C_NotAhead) "one" = some none)
    (nf_other_NotAhead : PySem.W.findIn K (.ref C_NotAhead) "other" = some none)
    (l1 : K.lookup a1 = some ⟨oc1, od1, .func (PySem.W.fnOf "__init__" "NotAhead.__init__" (defArgs s_iNotAhead) (defBody s_iNotAhead) (defScope s_iNotAhead) .none kV1 dc1 pm1 an1 cd1 ct1), sl1⟩)
    (c1 : PySem.W.codeIn K cd1 "NotAhead.__init__" = true) (k1 : PySem.W.keepIn K (.ref a1) = true)
    (eC_NoRow : PySem.W.nsIn K mainGlobals "NoRow" = some (some (.ref C_NoRow)))
    (xL_NoRow : K.lookup C_NoRow = some (excClassObj nm_NoRow q_NoRow C_NoRow N_NoRow bs_NoRow [.type "ValueError", .type "Exception", .type "BaseException", .type "object"] true sn_NoRow sub_NoRow ab_NoRow col_NoRow dd_NoRow m0_NoRow m1_NoRow m2_NoRow m3_NoRow m5_NoRow "ValueError.__new__"))
    (sa_NoRow : PySem.W.findIn K (.ref C_NoRow) "__setattr__" = some (some (.builtin "object.__setattr__")))
    (ga_NoRow : PySem.W.findIn K (.ref C_NoRow) "__getattribute__" = some (some (.builtin "BaseException.__getattribute__")))
    (gg_NoRow : PySem.W.findIn K (.ref C_NoRow) "__getattr__" = some none)
    (kC_NoRow : PySem.W.keepIn K (.ref C_NoRow) = true)
    (xC_NoRow : PySem.W.subIn K (.ref C_NoRow) (.type "BaseException") = some true)
    (tC_NoRow : PySem.W.typeIn K (.ref C_NoRow) = some (.type "type"))
    (hC_NoRow : PySem.W.hasDictIn K C_NoRow = true)
    (iC_NoRow : PySem.W.isClsIn K C_NoRow = true)
    (sC_NoRow : PySem.W.subIn K (.ref C_NoRow) (.ref C_NoRow) = some true)
    (fI_NoRow : PySem.W.findIn K (.ref C_NoRow) "__init__" = some (some (.ref a2)))
    (tI_NoRow : PySem.W.typeIn K (.ref a2) = some (.type "function"))
    (cl_NoRow : PySem.W.findIn K (.ref C_NoRow) "__class__" = some (some (.builtin "object.__class__")))
    (mr_NoRow : PySem.W.mroIn K C_NoRow (.type "object") = some true)
    (nf_said_NoRow : PySem.W.findIn K (.ref C_NoRow) "said" = some none)
    (l2 : K.lookup a2 = some ⟨oc2, od2, .func (PySem.W.fnOf "__init__" "NoRow.__init__" (defArgs s_iNoRow) (defBody s_iNoRow) (defScope s_iNoRow) .none kV2 dc2 pm2 an2 cd2 ct2), sl2⟩)
    (c2 : PySem.W.codeIn K cd2 "NoRow.__init__" = true) (k2 : PySem.W.keepIn K (.ref a2) = true)
    (eC_NotReady : PySem.W.nsIn K mainGlobals "NotReady" = some (some (.ref C_NotReady)))
    (xL_NotReady : K.lookup C_NotReady = some (excClassObj nm_NotReady q_NotReady C_NotReady N_NotReady bs_NotReady [.type "RuntimeError", .type "Exception", .type "BaseException", .type "object"] true sn_NotReady sub_NotReady ab_NotReady col_NotReady dd_NotReady m0_NotReady m1_NotReady m2_NotReady m3_NotReady m5_NotReady "RuntimeError.__new__"))
    (sa_NotReady : PySem.W.findIn K (.ref C_NotReady) "__setattr__" = some (some (.builtin "object.__setattr__")))
    (ga_NotReady : PySem.W.findIn K (.ref C_NotReady) "__getattribute__" = some (some (.builtin "BaseException.__getattribute__")))
    (gg_NotReady : PySem.W.findIn K (.ref C_NotReady) "__getattr__" = some none)
    (kC_NotReady : PySem.W.keepIn K (.ref C_NotReady) = true)
    (xC_NotReady : PySem.W.subIn K (.ref C_NotReady) (.type "BaseException") = some true)
    (tC_NotReady : PySem.W.typeIn K (.ref C_NotReady) = some (.type "type"))
    (hC_NotReady : PySem.W.hasDictIn K C_NotReady = true)
    (iC_NotReady : PySem.W.isClsIn K C_NotReady = true)
    (sC_NotReady : PySem.W.subIn K (.ref C_NotReady) (.ref C_NotReady) = some true)
    (fI_NotReady : PySem.W.findIn K (.ref C_NotReady) "__init__" = some (some (.ref a3)))
    (tI_NotReady : PySem.W.typeIn K (.ref a3) = some (.type "function"))
    (cl_NotReady : PySem.W.findIn K (.ref C_NotReady) "__class__" = some (some (.builtin "object.__class__")))
    (mr_NotReady : PySem.W.mroIn K C_NotReady (.type "object") = some true)
    (nf_nth_NotReady : PySem.W.findIn K (.ref C_NotReady) "nth" = some none)
    (nf_who_NotReady : PySem.W.findIn K (.ref C_NotReady) "who" = some none)
    (nf_what_NotReady : PySem.W.findIn K (.ref C_NotReady) "what" = some none)
    (l3 : K.lookup a3 = some ⟨oc3, od3, .func (PySem.W.fnOf "__init__" "NotReady.__init__" (defArgs s_iNotReady) (defBody s_iNotReady) (defScope s_iNotReady) .none kV3 dc3 pm3 an3 cd3 ct3), sl3⟩)
    (c3 : PySem.W.codeIn K cd3 "NotReady.__init__" = true) (k3 : PySem.W.keepIn K (.ref a3) = true)
    (eC_NoReplay : PySem.W.nsIn K mainGlobals "NoReplay" = some (some (.ref C_NoReplay)))
    (xL_NoReplay : K.lookup C_NoReplay = some (excClassObj nm_NoReplay q_NoReplay C_NoReplay N_NoReplay bs_NoReplay [.type "RuntimeError", .type "Exception", .type "BaseException", .type "object"] true sn_NoReplay sub_NoReplay ab_NoReplay col_NoReplay dd_NoReplay m0_NoReplay m1_NoReplay m2_NoReplay m3_NoReplay m5_NoReplay "RuntimeError.__new__"))
    (sa_NoReplay : PySem.W.findIn K (.ref C_NoReplay) "__setattr__" = some (some (.builtin "object.__setattr__")))
    (ga_NoReplay : PySem.W.findIn K (.ref C_NoReplay) "__getattribute__" = some (some (.builtin "BaseException.__getattribute__")))
    (gg_NoReplay : PySem.W.findIn K (.ref C_NoReplay) "__getattr__" = some none)
    (kC_NoReplay : PySem.W.keepIn K (.ref C_NoReplay) = true)
    (xC_NoReplay : PySem.W.subIn K (.ref C_NoReplay) (.type "BaseException") = some true)
    (tC_NoReplay : PySem.W.typeIn K (.ref C_NoReplay) = some (.type "type"))
    (hC_NoReplay : PySem.W.hasDictIn K C_NoReplay = true)
    (iC_NoReplay : PySem.W.isClsIn K C_NoReplay = true)
    (sC_NoReplay : PySem.W.subIn K (.ref C_NoReplay) (.ref C_NoReplay) = some true)
    (fI_NoReplay : PySem.W.findIn K (.ref C_NoReplay) "__init__" = some (some (.ref a4)))
    (tI_NoReplay : PySem.W.typeIn K (.ref a4) = some (.type "function"))
    (cl_NoReplay : PySem.W.findIn K (.ref C_NoReplay) "__class__" = some (some (.builtin "object.__class__")))
    (mr_NoReplay : PySem.W.mroIn K C_NoReplay (.type "object") = some true)
    (nf_stopped_NoReplay : PySem.W.findIn K (.ref C_NoReplay) "stopped" = some none)
    (l4 : K.lookup a4 = some ⟨oc4, od4, .func (PySem.W.fnOf "__init__" "NoReplay.__init__" (defArgs s_iNoReplay) (defBody s_iNoReplay) (defScope s_iNoReplay) .none kV4 dc4 pm4 an4 cd4 ct4), sl4⟩)
    (c4 : PySem.W.codeIn K cd4 "NoReplay.__init__" = true) (k4 : PySem.W.keepIn K (.ref a4) = true)
    (eC_NoPlace : PySem.W.nsIn K mainGlobals "NoPlace" = some (some (.ref C_NoPlace)))
    (xL_NoPlace : K.lookup C_NoPlace = some (excClassObj nm_NoPlace q_NoPlace C_NoPlace N_NoPlace bs_NoPlace [.type "IndexError", .type "LookupError", .type "Exception", .type "BaseException", .type "object"] true sn_NoPlace sub_NoPlace ab_NoPlace col_NoPlace dd_NoPlace m0_NoPlace m1_NoPlace m2_NoPlace m3_NoPlace m5_NoPlace "IndexError.__new__"))
    (sa_NoPlace : PySem.W.findIn K (.ref C_NoPlace) "__setattr__" = some (some (.builtin "object.__setattr__")))
    (ga_NoPlace : PySem.W.findIn K (.ref C_NoPlace) "__getattribute__" = some (some (.builtin "BaseException.__getattribute__")))
    (gg_NoPlace : PySem.W.findIn K (.ref C_NoPlace) "__getattr__" = some none)
    (kC_NoPlace : PySem.W.keepIn K (.ref C_NoPlace) = true)
    (xC_NoPlace : PySem.W.subIn K (.ref C_NoPlace) (.type "BaseException") = some true)
    (tC_NoPlace : PySem.W.typeIn K (.ref C_NoPlace) = some (.type "type"))
    (hC_NoPlace : PySem.W.hasDictIn K C_NoPlace = true)
    (iC_NoPlace : PySem.W.isClsIn K C_NoPlace = true)
    (sC_NoPlace : PySem.W.subIn K (.ref C_NoPlace) (.ref C_NoPlace) = some true)
    (fI_NoPlace : PySem.W.findIn K (.ref C_NoPlace) "__init__" = some (some (.ref a5)))
    (tI_NoPlace : PySem.W.typeIn K (.ref a5) = some (.type "function"))
    (cl_NoPlace : PySem.W.findIn K (.ref C_NoPlace) "__class__" = some (some (.builtin "object.__class__")))
    (mr_NoPlace : PySem.W.mroIn K C_NoPlace (.type "object") = some true)
    (nf_asked_NoPlace : PySem.W.findIn K (.ref C_NoPlace) "asked" = some none)
    (l5 : K.lookup a5 = some ⟨oc5, od5, .func (PySem.W.fnOf "__init__" "NoPlace.__init__" (defArgs s_iNoPlace) (defBody s_iNoPlace) (defScope s_iNoPlace) .none kV5 dc5 pm5 an5 cd5 ct5), sl5⟩)
    (c5 : PySem.W.codeIn K cd5 "NoPlace.__init__" = true) (k5 : PySem.W.keepIn K (.ref a5) = true)
    (eC_NoTime : PySem.W.nsIn K mainGlobals "NoTime" = some (some (.ref C_NoTime)))
    (xL_NoTime : K.lookup C_NoTime = some (excClassObj nm_NoTime q_NoTime C_NoTime N_NoTime bs_NoTime [.type "IndexError", .type "LookupError", .type "Exception", .type "BaseException", .type "object"] true sn_NoTime sub_NoTime ab_NoTime col_NoTime dd_NoTime m0_NoTime m1_NoTime m2_NoTime m3_NoTime m5_NoTime "IndexError.__new__"))
    (sa_NoTime : PySem.W.findIn K (.ref C_NoTime) "__setattr__" = some (some (.builtin "object.__setattr__")))
    (ga_NoTime : PySem.W.findIn K (.ref C_NoTime) "__getattribute__" = some (some (.builtin "BaseException.__getattribute__")))
    (gg_NoTime : PySem.W.findIn K (.ref C_NoTime) "__getattr__" = some none)
    (kC_NoTime : PySem.W.keepIn K (.ref C_NoTime) = true)
    (xC_NoTime : PySem.W.subIn K (.ref C_NoTime) (.type "BaseException") = some true)
    (tC_NoTime : PySem.W.typeIn K (.ref C_NoTime) = some (.type "type"))
    (hC_NoTime : PySem.W.hasDictIn K C_NoTime = true)
    (iC_NoTime : PySem.W.isClsIn K C_NoTime = true)
    (sC_NoTime : PySem.W.subIn K (.ref C_NoTime) (.ref C_NoTime) = some true)
    (fI_NoTime : PySem.W.findIn K (.ref C_NoTime) "__init__" = some (some (.ref a6)))
    (tI_NoTime : PySem.W.typeIn K (.ref a6) = some (.type "function"))
    (cl_NoTime : PySem.W.findIn K (.ref C_NoTime) "__class__" = some (some (.builtin "object.__class__")))
    (mr_NoTime : PySem.W.mroIn K C_NoTime (.type "object") = some true)
    (nf_asked_NoTime : PySem.W.findIn K (.ref C_NoTime) "asked" = some none)
    (l6 : K.lookup a6 = some ⟨oc6, od6, .func (PySem.W.fnOf "__init__" "NoTime.__init__" (defArgs s_iNoTime) (defBody s_iNoTime) (defScope s_iNoTime) .none kV6 dc6 pm6 an6 cd6 ct6), sl6⟩)
    (c6 : PySem.W.codeIn K cd6 "NoTime.__init__" = true) (k6 : PySem.W.keepIn K (.ref a6) = true)
    (eC_NoStep : PySem.W.nsIn K mainGlobals "NoStep" = some (some (.ref C_NoStep)))
    (xL_NoStep : K.lookup C_NoStep = some (excClassObj nm_NoStep q_NoStep C_NoStep N_NoStep bs_NoStep [.type "KeyError", .type "LookupError", .type "Exception", .type "BaseException", .type "object"] true sn_NoStep sub_NoStep ab_NoStep col_NoStep dd_NoStep m0_NoStep m1_NoStep m2_NoStep m3_NoStep m5_NoStep "LookupError.__new__"))
    (sa_NoStep : PySem.W.findIn K (.ref C_NoStep) "__setattr__" = some (some (.builtin "object.__setattr__")))
    (ga_NoStep : PySem.W.findIn K (.ref C_NoStep) "__getattribute__" = some (some (.builtin "BaseException.__getattribute__")))
    (gg_NoStep : PySem.W.findIn K (.ref C_NoStep) "__getattr__" = some none)
    (kC_NoStep : PySem.W.keepIn K (.ref C_NoStep) = true)
    (xC_NoStep : PySem.W.subIn K (.ref C_NoStep) (.type "BaseException") = some true)
    (tC_NoStep : PySem.W.typeIn K (.ref C_NoStep) = some (.type "type"))
    (hC_NoStep : PySem.W.hasDictIn K C_NoStep = true)
    (iC_NoStep : PySem.W.isClsIn K C_NoStep = true)
    (sC_NoStep : PySem.W.subIn K (.ref C_NoStep) (.ref C_NoStep) = some true)
    (fI_NoStep : PySem.W.findIn K (.ref C_NoStep) "__init__" = some (some (.ref a7)))
    (tI_NoStep : PySem.W.typeIn K (.ref a7) = some (.type "function"))
    (cl_NoStep : PySem.W.findIn K (.ref C_NoStep) "__class__" = some (some (.builtin "object.__class__")))
    (mr_NoStep : PySem.W.mroIn K C_NoStep (.type "object") = some true)
    (nf_asked_NoStep : PySem.W.findIn K (.ref C_NoStep) "asked" = some none)
    (l7 : K.lookup a7 = some ⟨oc7, od7, .func (PySem.W.fnOf "__init__" "NoStep.__init__" (defArgs s_iNoStep) (defBody s_iNoStep) (defScope s_iNoStep) .none kV7 dc7 pm7 an7 cd7 ct7), sl7⟩)
    (c7 : PySem.W.codeIn K cd7 "NoStep.__init__" = true) (k7 : PySem.W.keepIn K (.ref a7) = true)
    (eC_NoPair : PySem.W.nsIn K mainGlobals "NoPair" = some (some (.ref C_NoPair)))
    (xL_NoPair : K.lookup C_NoPair = some (excClassObj nm_NoPair q_NoPair C_NoPair N_NoPair bs_NoPair [.type "KeyError", .type "LookupError", .type "Exception", .type "BaseException", .type "object"] true sn_NoPair sub_NoPair ab_NoPair col_NoPair dd_NoPair m0_NoPair m1_NoPair m2_NoPair m3_NoPair m5_NoPair "LookupError.__new__"))
    (sa_NoPair : PySem.W.findIn K (.ref C_NoPair) "__setattr__" = some (some (.builtin "object.__setattr__")))
    (ga_NoPair : PySem.W.findIn K (.ref C_NoPair) "__getattribute__" = some (some (.builtin "BaseException.__getattribute__")))
    (gg_NoPair : PySem.W.findIn K (.ref C_NoPair) "__getattr__" = some none)
    (kC_NoPair : PySem.W.keepIn K (.ref C_NoPair) = true)
    (xC_NoPair : PySem.W.subIn K (.ref C_NoPair) (.type "BaseException") = some true)
    (tC_NoPair : PySem.W.typeIn K (.ref C_NoPair) = some (.type "type"))
    (hC_NoPair : PySem.W.hasDictIn K C_NoPair = true)
    (iC_NoPair : PySem.W.isClsIn K C_NoPair = true)
    (sC_NoPair : PySem.W.subIn K (.ref C_NoPair) (.ref C_NoPair) = some true)
    (fI_NoPair : PySem.W.findIn K (.ref C_NoPair) "__init__" = some (some (.ref a8)))
    (tI_NoPair : PySem.W.typeIn K (.ref a8) = some (.type "function"))
    (cl_NoPair : PySem.W.findIn K (.ref C_NoPair) "__class__" = some (some (.builtin "object.__class__")))
    (mr_NoPair : PySem.W.mroIn K C_NoPair (.type "object") = some true)
    (nf_one_NoPair : PySem.W.findIn K (.ref C_NoPair) "one" = some none)
    (nf_other_NoPair : PySem.W.findIn K (.ref C_NoPair) "other" = some none)
    (l8 : K.lookup a8 = some ⟨oc8, od8, .func (PySem.W.fnOf "__init__" "NoPair.__init__" (defArgs s_iNoPair) (defBody s_iNoPair) (defScope s_iNoPair) .none kV8 dc8 pm8 an8 cd8 ct8), sl8⟩)
    (c8 : PySem.W.codeIn K cd8 "NoPair.__init__" = true) (k8 : PySem.W.keepIn K (.ref a8) = true)
    (eC_NoThread : PySem.W.nsIn K mainGlobals "NoThread" = some (some (.ref C_NoThread)))
    (xL_NoThread : K.lookup C_NoThread = some (excClassObj nm_NoThread q_NoThread C_NoThread N_NoThread bs_NoThread [.type "LookupError", .type "Exception", .type "BaseException", .type "object"] true sn_NoThread sub_NoThread ab_NoThread col_NoThread dd_NoThread m0_NoThread m1_NoThread m2_NoThread m3_NoThread m5_NoThread "LookupError.__new__"))
    (sa_NoThread : PySem.W.findIn K (.ref C_NoThread) "__setattr__" = some (some (.builtin "object.__setattr__")))
    (ga_NoThread : PySem.W.findIn K (.ref C_NoThread) "__getattribute__" = some (some (.builtin "BaseException.__getattribute__")))
    (gg_NoThread : PySem.W.findIn K (.ref C_NoThread) "__getattr__" = some none)
    (kC_NoThread : PySem.W.keepIn K (.ref C_NoThread) = true)
    (xC_NoThread : PySem.W.subIn K (.ref C_NoThread) (.type "BaseException") = some true)
    (tC_NoThread : PySem.W.typeIn K (.ref C_NoThread) = some (.type "type"))
    (hC_NoThread : PySem.W.hasDictIn K C_NoThread = true)
    (iC_NoThread : PySem.W.isClsIn K C_NoThread = true)
    (sC_NoThread : PySem.W.subIn K (.ref C_NoThread) (.ref C_NoThread) = some true)
    (fI_NoThread : PySem.W.findIn K (.ref C_NoThread) "__init__" = some (some (.ref a9)))
    (tI_NoThread : PySem.W.typeIn K (.ref a9) = some (.type "function"))
    (cl_NoThread : PySem.W.findIn K (.ref C_NoThread) "__class__" = some (some (.builtin "object.__class__")))
    (mr_NoThread : PySem.W.mroIn K C_NoThread (.type "object") = some true)
    (nf_asked_NoThread : PySem.W.findIn K (.ref C_NoThread) "asked" = some none)
    (l9 : K.lookup a9 = some ⟨oc9, od9, .func (PySem.W.fnOf "__init__" "NoThread.__init__" (defArgs s_iNoThread) (defBody s_iNoThread) (defScope s_iNoThread) .none kV9 dc9 pm9 an9 cd9 ct9), sl9⟩)
    (c9 : PySem.W.codeIn K cd9 "NoThread.__init__" = true) (k9 : PySem.W.keepIn K (.ref a9) = true)
    (eC_NoSource : PySem.W.nsIn K mainGlobals "NoSource" = some (some (.ref C_NoSource)))
    (xL_NoSource : K.lookup C_NoSource = some (excClassObj nm_NoSource q_NoSource C_NoSource N_NoSource bs_NoSource [.type "LookupError", .type "Exception", .type "BaseException", .type "object"] true sn_NoSource sub_NoSource ab_NoSource col_NoSource dd_NoSource m0_NoSource m1_NoSource m2_NoSource m3_NoSource m5_NoSource "LookupError.__new__"))
    (sa_NoSource : PySem.W.findIn K (.ref C_NoSource) "__setattr__" = some (some (.builtin "object.__setattr__")))
    (ga_NoSource : PySem.W.findIn K (.ref C_NoSource) "__getattribute__" = some (some (.builtin "BaseException.__getattribute__")))
    (gg_NoSource : PySem.W.findIn K (.ref C_NoSource) "__getattr__" = some none)
    (kC_NoSource : PySem.W.keepIn K (.ref C_NoSource) = true)
    (xC_NoSource : PySem.W.subIn K (.ref C_NoSource) (.type "BaseException") = some true)
    (tC_NoSource : PySem.W.typeIn K (.ref C_NoSource) = some (.type "type"))
    (hC_NoSource : PySem.W.hasDictIn K C_NoSource = true)
    (iC_NoSource : PySem.W.isClsIn K C_NoSource = true)
    (sC_NoSource : PySem.W.subIn K (.ref C_NoSource) (.ref C_NoSource) = some true)
    (fI_NoSource : PySem.W.findIn K (.ref C_NoSource) "__init__" = some (some (.ref a10)))
    (tI_NoSource : PySem.W.typeIn K (.ref a10) = some (.type "function"))
    (cl_NoSource : PySem.W.findIn K (.ref C_NoSource) "__class__" = some (some (.builtin "object.__class__")))
    (mr_NoSource : PySem.W.mroIn K C_NoSource (.type "object") = some true)
    (nf_asked_NoSource : PySem.W.findIn K (.ref C_NoSource) "asked" = some none)
    (l10 : K.lookup a10 = some ⟨oc10, od10, .func (PySem.W.fnOf "__init__" "NoSource.__init__" (defArgs s_iNoSource) (defBody s_iNoSource) (defScope s_iNoSource) .none kV10 dc10 pm10 an10 cd10 ct10), sl10⟩)
    (c10 : PySem.W.codeIn K cd10 "NoSource.__init__" = true) (k10 : PySem.W.keepIn K (.ref a10) = true)
    (eC_TooMany : PySem.W.nsIn K mainGlobals "TooMany" = some (some (.ref C_TooMany)))
    (xL_TooMany : K.lookup C_TooMany = some (excClassObj nm_TooMany q_TooMany C_TooMany N_TooMany bs_TooMany [.type "OverflowError", .type "ArithmeticError", .type "Exception", .type "BaseException", .type "object"] true sn_TooMany sub_TooMany ab_TooMany col_TooMany dd_TooMany m0_TooMany m1_TooMany m2_TooMany m3_TooMany m5_TooMany "OverflowError.__new__"))
    (sa_TooMany : PySem.W.findIn K (.ref C_TooMany) "__setattr__" = some (some (.builtin "object.__setattr__")))
    (ga_TooMany : PySem.W.findIn K (.ref C_TooMany) "__getattribute__" = some (some (.builtin "BaseException.__getattribute__")))
    (gg_TooMany : PySem.W.findIn K (.ref C_TooMany) "__getattr__" = some none)
    (kC_TooMany : PySem.W.keepIn K (.ref C_TooMany) = true)
    (xC_TooMany : PySem.W.subIn K (.ref C_TooMany) (.type "BaseException") = some true)
    (tC_TooMany : PySem.W.typeIn K (.ref C_TooMany) = some (.type "type"))
    (hC_TooMany : PySem.W.hasDictIn K C_TooMany = true)
    (iC_TooMany : PySem.W.isClsIn K C_TooMany = true)
    (sC_TooMany : PySem.W.subIn K (.ref C_TooMany) (.ref C_TooMany) = some true)
    (fI_TooMany : PySem.W.findIn K (.ref C_TooMany) "__init__" = some (some (.ref a11)))
    (tI_TooMany : PySem.W.typeIn K (.ref a11) = some (.type "function"))
    (cl_TooMany : PySem.W.findIn K (.ref C_TooMany) "__class__" = some (some (.builtin "object.__class__")))
    (mr_TooMany : PySem.W.mroIn K C_TooMany (.type "object") = some true)
    (nf_most_TooMany : PySem.W.findIn K (.ref C_TooMany) "most" = some none)
    (l11 : K.lookup a11 = some ⟨oc11, od11, .func (PySem.W.fnOf "__init__" "TooMany.__init__" (defArgs s_iTooMany) (defBody s_iTooMany) (defScope s_iTooMany) .none kV11 dc11 pm11 an11 cd11 ct11), sl11⟩)
    (c11 : PySem.W.codeIn K cd11 "TooMany.__init__" = true) (k11 : PySem.W.keepIn K (.ref a11) = true)
    (eC_TooLong : PySem.W.nsIn K mainGlobals "TooLong" = some (some (.ref C_TooLong)))
    (xL_TooLong : K.lookup C_TooLong = some (excClassObj nm_TooLong q_TooLong C_TooLong N_TooLong bs_TooLong [.type "ArithmeticError", .type "Exception", .type "BaseException", .type "object"] true sn_TooLong sub_TooLong ab_TooLong col_TooLong dd_TooLong m0_TooLong m1_TooLong m2_TooLong m3_TooLong m5_TooLong "ArithmeticError.__new__"))
    (sa_TooLong : PySem.W.findIn K (.ref C_TooLong) "__setattr__" = some (some (.builtin "object.__setattr__")))
    (ga_TooLong : PySem.W.findIn K (.ref C_TooLong) "__getattribute__" = some (some (.builtin "BaseException.__getattribute__")))
    (gg_TooLong : PySem.W.findIn K (.ref C_TooLong) "__getattr__" = some none)
    (kC_TooLong : PySem.W.keepIn K (.ref C_TooLong) = true)
    (xC_TooLong : PySem.W.subIn K (.ref C_TooLong) (.type "BaseException") = some true)
    (tC_TooLong : PySem.W.typeIn K (.ref C_TooLong) = some (.type "type"))
    (hC_TooLong : PySem.W.hasDictIn K C_TooLong = true)
    (iC_TooLong : PySem.W.isClsIn K C_TooLong = true)
    (sC_TooLong : PySem.W.subIn K (.ref C_TooLong) (.ref C_TooLong) = some true)
    (fI_TooLong : PySem.W.findIn K (.ref C_TooLong) "__init__" = some (some (.ref a12)))
    (tI_TooLong : PySem.W.typeIn K (.ref a12) = some (.type "function"))
    (cl_TooLong : PySem.W.findIn K (.ref C_TooLong) "__class__" = some (some (.builtin "object.__class__")))
    (mr_TooLong : PySem.W.mroIn K C_TooLong (.type "object") = some true)
    (nf_limit_TooLong : PySem.W.findIn K (.ref C_TooLong) "limit" = some none)
    (l12 : K.lookup a12 = some ⟨oc12, od12, .func (PySem.W.fnOf "__init__" "TooLong.__init__" (defArgs s_iTooLong) (defBody s_iTooLong) (defScope s_iTooLong) .none kV12 dc12 pm12 an12 cd12 ct12), sl12⟩)
    (c12 : PySem.W.codeIn K cd12 "TooLong.__init__" = true) (k12 : PySem.W.keepIn K (.ref a12) = true)
    (eC_NotYet : PySem.W.nsIn K mainGlobals "NotYet" = some (some (.ref C_NotYet)))
    (xL_NotYet : K.lookup C_NotYet = some (excClassObj nm_NotYet q_NotYet C_NotYet N_NotYet bs_NotYet [.type "Exception", .type "BaseException", .type "object"] true sn_NotYet sub_NotYet ab_NotYet col_NotYet dd_NotYet m0_NotYet m1_NotYet m2_NotYet m3_NotYet m5_NotYet "Exception.__new__"))
    (sa_NotYet : PySem.W.findIn K (.ref C_NotYet) "__setattr__" = some (some (.builtin "object.__setattr__")))
    (ga_NotYet : PySem.W.findIn K (.ref C_NotYet) "__getattribute__" = some (some (.builtin "BaseException.__getattribute__")))
    (gg_NotYet : PySem.W.findIn K (.ref C_NotYet) "__getattr__" = some none)
    (kC_NotYet : PySem.W.keepIn K (.ref C_NotYet) = true)
    (xC_NotYet : PySem.W.subIn K (.ref C_NotYet) (.type "BaseException") = some true)
    (tC_NotYet : PySem.W.typeIn K (.ref C_NotYet) = some (.type "type"))
    (hC_NotYet : PySem.W.hasDictIn K C_NotYet = true)
    (iC_NotYet : PySem.W.isClsIn K C_NotYet = true)
    (sC_NotYet : PySem.W.subIn K (.ref C_NotYet) (.ref C_NotYet) = some true)
    (fI_NotYet : PySem.W.findIn K (.ref C_NotYet) "__init__" = some (some (.ref a13)))
    (tI_NotYet : PySem.W.typeIn K (.ref a13) = some (.type "function"))
    (cl_NotYet : PySem.W.findIn K (.ref C_NotYet) "__class__" = some (some (.builtin "object.__class__")))
    (mr_NotYet : PySem.W.mroIn K C_NotYet (.type "object") = some true)
    (nf_what_NotYet : PySem.W.findIn K (.ref C_NotYet) "what" = some none)
    (l13 : K.lookup a13 = some ⟨oc13, od13, .func (PySem.W.fnOf "__init__" "NotYet.__init__" (defArgs s_iNotYet) (defBody s_iNotYet) (defScope s_iNotYet) .none kV13 dc13 pm13 an13 cd13 ct13), sl13⟩)
    (c13 : PySem.W.codeIn K cd13 "NotYet.__init__" = true) (k13 : PySem.W.keepIn K (.ref a13) = true)
    (e14 : PySem.W.nsIn K mainGlobals "is_whole" = some (some (.ref a14)))
    (l14 : K.lookup a14 = some ⟨oc14, od14, .func (PySem.W.fnOf "is_whole" "is_whole" (defArgs s_iswhole) (defBody s_iswhole) (defScope s_iswhole) .none kV14 dc14 pm14 an14 cd14 ct14), sl14⟩)
    (c14 : PySem.W.codeIn K cd14 "is_whole" = true) (k14 : PySem.W.keepIn K (.ref a14) = true)
    (e15 : PySem.W.nsIn K mainGlobals "is_below" = some (some (.ref a15)))
    (l15 : K.lookup a15 = some ⟨oc15, od15, .func (PySem.W.fnOf "is_below" "is_below" (defArgs s_isbelow) (defBody s_isbelow) (defScope s_isbelow) .none kV15 dc15 pm15 an15 cd15 ct15), sl15⟩)
    (c15 : PySem.W.codeIn K cd15 "is_below" = true) (k15 : PySem.W.keepIn K (.ref a15) = true)
    (e16 : PySem.W.nsIn K mainGlobals "whole_of" = some (some (.ref a16)))
    (l16 : K.lookup a16 = some ⟨oc16, od16, .func (PySem.W.fnOf "whole_of" "whole_of" (defArgs s_wholeof) (defBody s_wholeof) (defScope s_wholeof) .none kV16 dc16 pm16 an16 cd16 ct16), sl16⟩)
    (c16 : PySem.W.codeIn K cd16 "whole_of" = true) (k16 : PySem.W.keepIn K (.ref a16) = true)
    (e17 : PySem.W.nsIn K mainGlobals "stretches" = some (some (.ref a17)))
    (l17 : K.lookup a17 = some ⟨oc17, od17, .func (PySem.W.fnOf "stretches" "stretches" (defArgs s_stretches) (defBody s_stretches) (defScope s_stretches) .none kV17 dc17 pm17 an17 cd17 ct17), sl17⟩)
    (c17 : PySem.W.codeIn K cd17 "stretches" = true) (k17 : PySem.W.keepIn K (.ref a17) = true)
    (e18 : PySem.W.nsIn K mainGlobals "packed" = some (some (.ref a18)))
    (l18 : K.lookup a18 = some ⟨oc18, od18, .func (PySem.W.fnOf "packed" "packed" (defArgs s_packed) (defBody s_packed) (defScope s_packed) .none kV18 dc18 pm18 an18 cd18 ct18), sl18⟩)
    (c18 : PySem.W.codeIn K cd18 "packed" = true) (k18 : PySem.W.keepIn K (.ref a18) = true)
    (e19 : PySem.W.nsIn K mainGlobals "turns_of" = some (some (.ref a19)))
    (l19 : K.lookup a19 = some ⟨oc19, od19, .func (PySem.W.fnOf "turns_of" "turns_of" (defArgs s_turnsof) (defBody s_turnsof) (defScope s_turnsof) .none kV19 dc19 pm19 an19 cd19 ct19), sl19⟩)
    (c19 : PySem.W.codeIn K cd19 "turns_of" = true) (k19 : PySem.W.keepIn K (.ref a19) = true)
    (e20 : PySem.W.nsIn K mainGlobals "unpacked" = some (some (.ref a20)))
    (l20 : K.lookup a20 = some ⟨oc20, od20, .func (PySem.W.fnOf "unpacked" "unpacked" (defArgs s_unpacked) (defBody s_unpacked) (defScope s_unpacked) .none kV20 dc20 pm20 an20 cd20 ct20), sl20⟩)
    (c20 : PySem.W.codeIn K cd20 "unpacked" = true) (k20 : PySem.W.keepIn K (.ref a20) = true)
    (e21 : PySem.W.nsIn K mainGlobals "_law_pen" = some (some (.ref a21)))
    (l21 : K.lookup a21 = some ⟨oc21, od21, .func (PySem.W.fnOf "_law_pen" "_law_pen" (defArgs s_lpen) (defBody s_lpen) (defScope s_lpen) .none kV21 dc21 pm21 an21 cd21 ct21), sl21⟩)
    (c21 : PySem.W.codeIn K cd21 "_law_pen" = true) (k21 : PySem.W.keepIn K (.ref a21) = true)
    (e22 : PySem.W.nsIn K mainGlobals "_law_draw" = some (some (.ref a22)))
    (l22 : K.lookup a22 = some ⟨oc22, od22, .func (PySem.W.fnOf "_law_draw" "_law_draw" (defArgs s_ldraw) (defBody s_ldraw) (defScope s_ldraw) .none kV22 dc22 pm22 an22 cd22 ct22), sl22⟩)
    (c22 : PySem.W.codeIn K cd22 "_law_draw" = true) (k22 : PySem.W.keepIn K (.ref a22) = true)
    (e23 : PySem.W.nsIn K mainGlobals "_law_class" = some (some (.ref a23)))
    (l23 : K.lookup a23 = some ⟨oc23, od23, .func (PySem.W.fnOf "_law_class" "_law_class" (defArgs s_lclass) (defBody s_lclass) (defScope s_lclass) .none kV23 dc23 pm23 an23 cd23 ct23), sl23⟩)
    (c23 : PySem.W.codeIn K cd23 "_law_class" = true) (k23 : PySem.W.keepIn K (.ref a23) = true)
    (e24 : PySem.W.nsIn K mainGlobals "_law_base" = some (some (.ref a24)))
    (l24 : K.lookup a24 = some ⟨oc24, od24, .func (PySem.W.fnOf "_law_base" "_law_base" (defArgs s_lbase) (defBody s_lbase) (defScope s_lbase) .none kV24 dc24 pm24 an24 cd24 ct24), sl24⟩)
    (c24 : PySem.W.codeIn K cd24 "_law_base" = true) (k24 : PySem.W.keepIn K (.ref a24) = true)
    (e25 : PySem.W.nsIn K mainGlobals "_law_many" = some (some (.ref a25)))
    (l25 : K.lookup a25 = some ⟨oc25, od25, .func (PySem.W.fnOf "_law_many" "_law_many" (defArgs s_lmany) (defBody s_lmany) (defScope s_lmany) .none kV25 dc25 pm25 an25 cd25 ct25), sl25⟩)
    (c25 : PySem.W.codeIn K cd25 "_law_many" = true) (k25 : PySem.W.keepIn K (.ref a25) = true)
    (e26 : PySem.W.nsIn K mainGlobals "_law_packed" = some (some (.ref a26)))
    (l26 : K.lookup a26 = some ⟨oc26, od26, .func (PySem.W.fnOf "_law_packed" "_law_packed" (defArgs s_lpk) (defBody s_lpk) (defScope s_lpk) .none kV26 dc26 pm26 an26 cd26 ct26), sl26⟩)
    (c26 : PySem.W.codeIn K cd26 "_law_packed" = true) (k26 : PySem.W.keepIn K (.ref a26) = true)
    (e27 : PySem.W.nsIn K mainGlobals "_law_is_right" = some (some (.ref a27)))
    (l27 : K.lookup a27 = some ⟨oc27, od27, .func (PySem.W.fnOf "_law_is_right" "_law_is_right" (defArgs s_lisright) (defBody s_lisright) (defScope s_lisright) .none kV27 dc27 pm27 an27 cd27 ct27), sl27⟩)
    (c27 : PySem.W.codeIn K cd27 "_law_is_right" = true) (k27 : PySem.W.keepIn K (.ref a27) = true)
    (e28 : PySem.W.nsIn K mainGlobals "_law_bent" = some (some (.ref a28)))
    (l28 : K.lookup a28 = some ⟨oc28, od28, .func (PySem.W.fnOf "_law_bent" "_law_bent" (defArgs s_lbent) (defBody s_lbent) (defScope s_lbent) .none kV28 dc28 pm28 an28 cd28 ct28), sl28⟩)
    (c28 : PySem.W.codeIn K cd28 "_law_bent" = true) (k28 : PySem.W.keepIn K (.ref a28) = true)
    (e29 : PySem.W.nsIn K mainGlobals "_law_refused" = some (some (.ref a29)))
    (l29 : K.lookup a29 = some ⟨oc29, od29, .func (PySem.W.fnOf "_law_refused" "_law_refused" (defArgs s_lrefused) (defBody s_lrefused) (defScope s_lrefused) .none kV29 dc29 pm29 an29 cd29 ct29), sl29⟩)
    (c29 : PySem.W.codeIn K cd29 "_law_refused" = true) (k29 : PySem.W.keepIn K (.ref a29) = true)
    (e30 : PySem.W.nsIn K mainGlobals "_law_placed" = some (some (.ref a30)))
    (l30 : K.lookup a30 = some ⟨oc30, od30, .func (PySem.W.fnOf "_law_placed" "_law_placed" (defArgs s_lplaced) (defBody s_lplaced) (defScope s_lplaced) .none kV30 dc30 pm30 an30 cd30 ct30), sl30⟩)
    (c30 : PySem.W.codeIn K cd30 "_law_placed" = true) (k30 : PySem.W.keepIn K (.ref a30) = true)
    (e31 : PySem.W.nsIn K mainGlobals "_law_named" = some (some (.ref a31)))
    (l31 : K.lookup a31 = some ⟨oc31, od31, .func (PySem.W.fnOf "_law_named" "_law_named" (defArgs s_lnamed) (defBody s_lnamed) (defScope s_lnamed) .none kV31 dc31 pm31 an31 cd31 ct31), sl31⟩)
    (c31 : PySem.W.codeIn K cd31 "_law_named" = true) (k31 : PySem.W.keepIn K (.ref a31) = true)
    (e32 : PySem.W.nsIn K mainGlobals "_law_fields" = some (some (.ref a32)))
    (l32 : K.lookup a32 = some ⟨oc32, od32, .func (PySem.W.fnOf "_law_fields" "_law_fields" (defArgs s_lfields) (defBody s_lfields) (defScope s_lfields) .none kV32 dc32 pm32 an32 cd32 ct32), sl32⟩)
    (c32 : PySem.W.codeIn K cd32 "_law_fields" = true) (k32 : PySem.W.keepIn K (.ref a32) = true)
    (e33 : PySem.W.nsIn K mainGlobals "_law_bases" = some (some (.ref a33)))
    (l33 : K.lookup a33 = some ⟨oc33, od33, .func (PySem.W.fnOf "_law_bases" "_law_bases" (defArgs s_lbases) (defBody s_lbases) (defScope s_lbases) .none kV33 dc33 pm33 an33 cd33 ct33), sl33⟩)
    (c33 : PySem.W.codeIn K cd33 "_law_bases" = true) (k33 : PySem.W.keepIn K (.ref a33) = true)
    (e34 : PySem.W.nsIn K mainGlobals "_law_made_right" = some (some (.ref a34)))
    (l34 : K.lookup a34 = some ⟨oc34, od34, .func (PySem.W.fnOf "_law_made_right" "_law_made_right" (defArgs s_lmaderight) (defBody s_lmaderight) (defScope s_lmaderight) .none kV34 dc34 pm34 an34 cd34 ct34), sl34⟩)
    (c34 : PySem.W.codeIn K cd34 "_law_made_right" = true) (k34 : PySem.W.keepIn K (.ref a34) = true)
    (e35 : PySem.W.nsIn K mainGlobals "law" = some (some (.ref a35)))
    (l35 : K.lookup a35 = some ⟨oc35, od35, .func (PySem.W.fnOf "law" "law" (defArgs s_law) (defBody s_law) (defScope s_law) .none kV35 dc35 pm35 an35 cd35 ct35), sl35⟩)
    (c35 : PySem.W.codeIn K cd35 "law" = true) (k35 : PySem.W.keepIn K (.ref a35) = true)
    (q_get : PySem.W.specialIn K (.builtin "object.__class__") "__get__" = some (some (.builtin "getset_descriptor.__get__")))
    (q_tks : PySem.W.takesIn K (.builtin "object.__class__") = some true)
    (q_own : ownTab K [C_NoText, C_NotAhead, C_NoRow, C_NotReady, C_NoReplay, C_NoPlace, C_NoTime, C_NoStep, C_NoPair, C_NoThread, C_NoSource, C_TooMany, C_TooLong, C_NotYet] = true)
    (q_bas : basTab K [C_NoText, C_NotAhead, C_NoRow, C_NotReady, C_NoReplay, C_NoPlace, C_NoTime, C_NoStep, C_NoPair, C_NoThread, C_NoSource, C_TooMany, C_TooLong, C_NotYet] = true)
    (c_MOST : PySem.W.nsIn K mainGlobals "MOST" = some (some (.int 400 tk_MOST)))
    (c_MOST_THREADS : PySem.W.nsIn K mainGlobals "MOST_THREADS" = some (some (.int 4 tk_MOST_THREADS)))
    (c_NONE : PySem.W.nsIn K mainGlobals "NONE" = some (some (.str "-" tk_NONE)))
    (z_ArithmeticError : PySem.W.nsIn K mainGlobals "ArithmeticError" = some none)
    (z_IndexError : PySem.W.nsIn K mainGlobals "IndexError" = some none)
    (z_KeyError : PySem.W.nsIn K mainGlobals "KeyError" = some none)
    (z_LookupError : PySem.W.nsIn K mainGlobals "LookupError" = some none)
    (z_OverflowError : PySem.W.nsIn K mainGlobals "OverflowError" = some none)
    (z_RuntimeError : PySem.W.nsIn K mainGlobals "RuntimeError" = some none)
    (z_ValueError : PySem.W.nsIn K mainGlobals "ValueError" = some none)
    (z_abs : PySem.W.nsIn K mainGlobals "abs" = some none)
    (z_bool : PySem.W.nsIn K mainGlobals "bool" = some none)
    (z_int : PySem.W.nsIn K mainGlobals "int" = some none)
    (z_isinstance : PySem.W.nsIn K mainGlobals "isinstance" = some none)
    (z_len : PySem.W.nsIn K mainGlobals "len" = some none)
    (z_list : PySem.W.nsIn K mainGlobals "list" = some none)
    (z_range : PySem.W.nsIn K mainGlobals "range" = some none)
    (z_repr : PySem.W.nsIn K mainGlobals "repr" = some none)
    (z_str : PySem.W.nsIn K mainGlobals "str" = some none)
    : ∃ fd : FuncData, (∀ (s : Shared) (v : Value), BindsTo s fd ⟨[v], []⟩ [("_law_script", v)]) ∧ ∀ base : Heap, K.In base → base.Ns mainGlobals mg → FnG l.prog w K mg base CX0 6 fa fd ["_law_script"] (sp_law K) := by
  have e := hfa.symm.trans (PySem.W.mg_of X G e35)
  cases e
  have F0 := fun_mk (st := s_iNoText) l0 c0 k0
  have b0 := F0.binds (ps := ["self", "nth"]) fun _ _ _ _ _ _ us hl => match us, hl with | [_, _], _ => rfl
  have F1 := fun_mk (st := s_iNotAhead) l1 c1 k1
  have b1 := F1.binds (ps := ["self", "one", "other"]) fun _ _ _ _ _ _ us hl => match us, hl with | [_, _, _], _ => rfl
  have F2 := fun_mk (st := s_iNoRow) l2 c2 k2
  have b2 := F2.binds (ps := ["self", "said"]) fun _ _ _ _ _ _ us hl => match us, hl with | [_, _], _ => rfl
  have F3 := fun_mk (st := s_iNotReady) l3 c3 k3
  have b3 := F3.binds (ps := ["self", "nth", "who", "what"]) fun _ _ _ _ _ _ us hl => match us, hl with | [_, _, _, _], _ => rfl
  have F4 := fun_mk (st := s_iNoReplay) l4 c4 k4
  have b4 := F4.binds (ps := ["self", "stopped"]) fun _ _ _ _ _ _ us hl => match us, hl with | [_, _], _ => rfl
  have F5 := fun_mk (st := s_iNoPlace) l5 c5 k5
  have b5 := F5.binds (ps := ["self", "asked"]) fun _ _ _ _ _ _ us hl => match us, hl with | [_, _], _ => rfl
  have F6 := fun_mk (st := s_iNoTime) l6 c6 k6
  have b6 := F6.binds (ps := ["self", "asked"]) fun _ _ _ _ _ _ us hl => match us, hl with | [_, _], _ => rfl
  have F7 := fun_mk (st := s_iNoStep) l7 c7 k7
  have b7 := F7.binds (ps := ["self", "asked"]) fun _ _ _ _ _ _ us hl => match us, hl with | [_, _], _ => rfl
  have F8 := fun_mk (st := s_iNoPair) l8 c8 k8
  have b8 := F8.binds (ps := ["self", "one", "other"]) fun _ _ _ _ _ _ us hl => match us, hl with | [_, _, _], _ => rfl
  have F9 := fun_mk (st := s_iNoThread) l9 c9 k9
  have b9 := F9.binds (ps := ["self", "asked"]) fun _ _ _ _ _ _ us hl => match us, hl with | [_, _], _ => rfl
  have F10 := fun_mk (st := s_iNoSource) l10 c10 k10
  have b10 := F10.binds (ps := ["self", "asked"]) fun _ _ _ _ _ _ us hl => match us, hl with | [_, _], _ => rfl
  have F11 := fun_mk (st := s_iTooMany) l11 c11 k11
  have b11 := F11.binds (ps := ["self", "most"]) fun _ _ _ _ _ _ us hl => match us, hl with | [_, _], _ => rfl
  have F12 := fun_mk (st := s_iTooLong) l12 c12 k12
  have b12 := F12.binds (ps := ["self", "limit"]) fun _ _ _ _ _ _ us hl => match us, hl with | [_, _], _ => rfl
  have F13 := fun_mk (st := s_iNotYet) l13 c13 k13
  have b13 := F13.binds (ps := ["self", "what"]) fun _ _ _ _ _ _ us hl => match us, hl with | [_, _], _ => rfl
  have F14 := fun_mk (st := s_iswhole) l14 c14 k14
  have b14 := F14.binds (ps := ["thing"]) fun _ _ _ _ _ _ us hl => match us, hl with | [_], _ => rfl
  have F15 := fun_mk (st := s_isbelow) l15 c15 k15
  have b15 := F15.binds (ps := ["thing", "many"]) fun _ _ _ _ _ _ us hl => match us, hl with | [_, _], _ => rfl
  have F16 := fun_mk (st := s_wholeof) l16 c16 k16
  have b16 := F16.binds (ps := ["text"]) fun _ _ _ _ _ _ us hl => match us, hl with | [_], _ => rfl
  have F17 := fun_mk (st := s_stretches) l17 c17 k17
  have b17 := F17.binds (ps := ["turns"]) fun _ _ _ _ _ _ us hl => match us, hl with | [_], _ => rfl
  have F18 := fun_mk (st := s_packed) l18 c18 k18
  have b18 := F18.binds (ps := ["turns"]) fun _ _ _ _ _ _ us hl => match us, hl with | [_], _ => rfl
  have F19 := fun_mk (st := s_turnsof) l19 c19 k19
  have b19 := F19.binds (ps := ["word"]) fun _ _ _ _ _ _ us hl => match us, hl with | [_], _ => rfl
  have F20 := fun_mk (st := s_unpacked) l20 c20 k20
  have b20 := F20.binds (ps := ["text"]) fun _ _ _ _ _ _ us hl => match us, hl with | [_], _ => rfl
  have F21 := fun_mk (st := s_lpen) l21 c21 k21
  have b21 := F21.binds (ps := ["_law_script"]) fun _ _ _ _ _ _ us hl => match us, hl with | [_], _ => rfl
  have F22 := fun_mk (st := s_ldraw) l22 c22 k22
  have b22 := F22.binds (ps := ["_law_pen_here", "_law_many_here"]) fun _ _ _ _ _ _ us hl => match us, hl with | [_, _], _ => rfl
  have F23 := fun_mk (st := s_lclass) l23 c23 k23
  have b23 := F23.binds (ps := ["_law_e"]) fun _ _ _ _ _ _ us hl => match us, hl with | [_], _ => rfl
  have F24 := fun_mk (st := s_lbase) l24 c24 k24
  have b24 := F24.binds (ps := ["_law_e"]) fun _ _ _ _ _ _ us hl => match us, hl with | [_], _ => rfl
  have F25 := fun_mk (st := s_lmany) l25 c25 k25
  have b25 := F25.binds (ps := ["_law_pen_here"]) fun _ _ _ _ _ _ us hl => match us, hl with | [_], _ => rfl
  have F26 := fun_mk (st := s_lpk) l26 c26 k26
  have b26 := F26.binds (ps := ["_law_turns"]) fun _ _ _ _ _ _ us hl => match us, hl with | [_], _ => rfl
  have F27 := fun_mk (st := s_lisright) l27 c27 k27
  have b27 := F27.binds (ps := ["_law_text"]) fun _ _ _ _ _ _ us hl => match us, hl with | [_], _ => rfl
  have F28 := fun_mk (st := s_lbent) l28 c28 k28
  have b28 := F28.binds (ps := ["_law_pen_here", "_law_text"]) fun _ _ _ _ _ _ us hl => match us, hl with | [_, _], _ => rfl
  have F29 := fun_mk (st := s_lrefused) l29 c29 k29
  have b29 := F29.binds (ps := ["_law_thing"]) fun _ _ _ _ _ _ us hl => match us, hl with | [_], _ => rfl
  have F30 := fun_mk (st := s_lplaced) l30 c30 k30
  have b30 := F30.binds (ps := ["_law_it", "_law_more", "_law_last"]) fun _ _ _ _ _ _ us hl => match us, hl with | [_, _, _], _ => rfl
  have F31 := fun_mk (st := s_lnamed) l31 c31 k31
  have b31 := F31.binds (ps := ["_law_it", "_law_more", "_law_last"]) fun _ _ _ _ _ _ us hl => match us, hl with | [_, _, _], _ => rfl
  have F32 := fun_mk (st := s_lfields) l32 c32 k32
  have b32 := F32.binds (ps := ["_law_e", "_law_word"]) fun _ _ _ _ _ _ us hl => match us, hl with | [_, _], _ => rfl
  have F33 := fun_mk (st := s_lbases) l33 c33 k33
  have b33 := F33.binds (ps := ["_law_e"]) fun _ _ _ _ _ _ us hl => match us, hl with | [_], _ => rfl
  have F34 := fun_mk (st := s_lmaderight) l34 c34 k34
  have b34 := F34.binds (ps := ["_law_pen_here"]) fun _ _ _ _ _ _ us hl => match us, hl with | [_], _ => rfl
  have F35 := fun_mk (st := s_law) l35 c35 k35
  have b35 := F35.binds (ps := ["_law_script"]) fun _ _ _ _ _ _ us hl => match us, hl with | [_], _ => rfl
  let f : Nat → Addr := fun i => match i with | 0 => a0 | 1 => a1 | 2 => a2 | 3 => a3 | 4 => a4 | 5 => a5 | 6 => a6 | 7 => a7 | 8 => a8 | 9 => a9 | 10 => a10 | 11 => a11 | 12 => a12 | 13 => a13 | 14 => a14 | 15 => a15 | 16 => a16 | 17 => a17 | 18 => a18 | 19 => a19 | 20 => a20 | 21 => a21 | 22 => a22 | 23 => a23 | 24 => a24 | 25 => a25 | 26 => a26 | 27 => a27 | 28 => a28 | 29 => a29 | 30 => a30 | 31 => a31 | 32 => a32 | 33 => a33 | 34 => a34 | 35 => fa | _ => a0
  let fd : Nat → FuncData := fun i => match i with | 0 => PySem.W.fnOf "__init__" "NoText.__init__" (defArgs s_iNoText) (defBody s_iNoText) (defScope s_iNoText) .none kV0 dc0 pm0 an0 cd0 ct0 | 1 => PySem.W.fnOf "__init__" "NotAhead.__init__" (defArgs s_iNotAhead) (defBody s_iNotAhead) (defScope s_iNotAhead) .none kV1 dc1 pm1 an1 cd1 ct1 | 2 => PySem.W.fnOf "__init__" "NoRow.__init__" (defArgs s_iNoRow) (defBody s_iNoRow) (defScope s_iNoRow) .none kV2 dc2 pm2 an2 cd2 ct2 | 3 => PySem.W.fnOf "__init__" "NotReady.__init__" (defArgs s_iNotReady) (defBody s_iNotReady) (defScope s_iNotReady) .none kV3 dc3 pm3 an3 cd3 ct3 | 4 => PySem.W.fnOf "__init__" "NoReplay.__init__" (defArgs s_iNoReplay) (defBody s_iNoReplay) (defScope s_iNoReplay) .none kV4 dc4 pm4 an4 cd4 ct4 | 5 => PySem.W.fnOf "__init__" "NoPlace.__init__" (defArgs s_iNoPlace) (defBody s_iNoPlace) (defScope s_iNoPlace) .none kV5 dc5 pm5 an5 cd5 ct5 | 6 => PySem.W.fnOf "__init__" "NoTime.__init__" (defArgs s_iNoTime) (defBody s_iNoTime) (defScope s_iNoTime) .none kV6 dc6 pm6 an6 cd6 ct6 | 7 => PySem.W.fnOf "__init__" "NoStep.__init__" (defArgs s_iNoStep) (defBody s_iNoStep) (defScope s_iNoStep) .none kV7 dc7 pm7 an7 cd7 ct7 | 8 => PySem.W.fnOf "__init__" "NoPair.__init__" (defArgs s_iNoPair) (defBody s_iNoPair) (defScope s_iNoPair) .none kV8 dc8 pm8 an8 cd8 ct8 | 9 => PySem.W.fnOf "__init__" "NoThread.__init__" (defArgs s_iNoThread) (defBody s_iNoThread) (defScope s_iNoThread) .none kV9 dc9 pm9 an9 cd9 ct9 | 10 => PySem.W.fnOf "__init__" "NoSource.__init__" (defArgs s_iNoSource) (defBody s_iNoSource) (defScope s_iNoSource) .none kV10 dc10 pm10 an10 cd10 ct10 | 11 => PySem.W.fnOf "__init__" "TooMany.__init__" (defArgs s_iTooMany) (defBody s_iTooMany) (defScope s_iTooMany) .none kV11 dc11 pm11 an11 cd11 ct11 | 12 => PySem.W.fnOf "__init__" "TooLong.__init__" (defArgs s_iTooLong) (defBody s_iTooLong) (defScope s_iTooLong) .none kV12 dc12 pm12 an12 cd12 ct12 | 13 => PySem.W.fnOf "__init__" "NotYet.__init__" (defArgs s_iNotYet) (defBody s_iNotYet) (defScope s_iNotYet) .none kV13 dc13 pm13 an13 cd13 ct13 | 14 => PySem.W.fnOf "is_whole" "is_whole" (defArgs s_iswhole) (defBody s_iswhole) (defScope s_iswhole) .none kV14 dc14 pm14 an14 cd14 ct14 | 15 => PySem.W.fnOf "is_below" "is_below" (defArgs s_isbelow) (defBody s_isbelow) (defScope s_isbelow) .none kV15 dc15 pm15 an15 cd15 ct15 | 16 => PySem.W.fnOf "whole_of" "whole_of" (defArgs s_wholeof) (defBody s_wholeof) (defScope s_wholeof) .none kV16 dc16 pm16 an16 cd16 ct16 | 17 => PySem.W.fnOf "stretches" "stretches" (defArgs s_stretches) (defBody s_stretches) (defScope s_stretches) .none kV17 dc17 pm17 an17 cd17 ct17 | 18 => PySem.W.fnOf "packed" "packed" (defArgs s_packed) (defBody s_packed) (defScope s_packed) .none kV18 dc18 pm18 an18 cd18 ct18 | 19 => PySem.W.fnOf "turns_of" "turns_of" (defArgs s_turnsof) (defBody s_turnsof) (defScope s_turnsof) .none kV19 dc19 pm19 an19 cd19 ct19 | 20 => PySem.W.fnOf "unpacked" "unpacked" (defArgs s_unpacked) (defBody s_unpacked) (defScope s_unpacked) .none kV20 dc20 pm20 an20 cd20 ct20 | 21 => PySem.W.fnOf "_law_pen" "_law_pen" (defArgs s_lpen) (defBody s_lpen) (defScope s_lpen) .none kV21 dc21 pm21 an21 cd21 ct21 | 22 => PySem.W.fnOf "_law_draw" "_law_draw" (defArgs s_ldraw) (defBody s_ldraw) (defScope s_ldraw) .none kV22 dc22 pm22 an22 cd22 ct22 | 23 => PySem.W.fnOf "_law_class" "_law_class" (defArgs s_lclass) (defBody s_lclass) (defScope s_lclass) .none kV23 dc23 pm23 an23 cd23 ct23 | 24 => PySem.W.fnOf "_law_base" "_law_base" (defArgs s_lbase) (defBody s_lbase) (defScope s_lbase) .none kV24 dc24 pm24 an24 cd24 ct24 | 25 => PySem.W.fnOf "_law_many" "_law_many" (defArgs s_lmany) (defBody s_lmany) (defScope s_lmany) .none kV25 dc25 pm25 an25 cd25 ct25 | 26 => PySem.W.fnOf "_law_packed" "_law_packed" (defArgs s_lpk) (defBody s_lpk) (defScope s_lpk) .none kV26 dc26 pm26 an26 cd26 ct26 | 27 => PySem.W.fnOf "_law_is_right" "_law_is_right" (defArgs s_lisright) (defBody s_lisright) (defScope s_lisright) .none kV27 dc27 pm27 an27 cd27 ct27 | 28 => PySem.W.fnOf "_law_bent" "_law_bent" (defArgs s_lbent) (defBody s_lbent) (defScope s_lbent) .none kV28 dc28 pm28 an28 cd28 ct28 | 29 => PySem.W.fnOf "_law_refused" "_law_refused" (defArgs s_lrefused) (defBody s_lrefused) (defScope s_lrefused) .none kV29 dc29 pm29 an29 cd29 ct29 | 30 => PySem.W.fnOf "_law_placed" "_law_placed" (defArgs s_lplaced) (defBody s_lplaced) (defScope s_lplaced) .none kV30 dc30 pm30 an30 cd30 ct30 | 31 => PySem.W.fnOf "_law_named" "_law_named" (defArgs s_lnamed) (defBody s_lnamed) (defScope s_lnamed) .none kV31 dc31 pm31 an31 cd31 ct31 | 32 => PySem.W.fnOf "_law_fields" "_law_fields" (defArgs s_lfields) (defBody s_lfields) (defScope s_lfields) .none kV32 dc32 pm32 an32 cd32 ct32 | 33 => PySem.W.fnOf "_law_bases" "_law_bases" (defArgs s_lbases) (defBody s_lbases) (defScope s_lbases) .none kV33 dc33 pm33 an33 cd33 ct33 | 34 => PySem.W.fnOf "_law_made_right" "_law_made_right" (defArgs s_lmaderight) (defBody s_lmaderight) (defScope s_lmaderight) .none kV34 dc34 pm34 an34 cd34 ct34 | 35 => PySem.W.fnOf "law" "law" (defArgs s_law) (defBody s_law) (defScope s_law) .none kV35 dc35 pm35 an35 cd35 ct35 | _ => PySem.W.fnOf "NoText.__init__" "NoText.__init__" (defArgs s_iNoText) (defBody s_iNoText) (defScope s_iNoText) .none kV0 dc0 pm0 an0 cd0 ct0
  let ob : Nat → Addr := fun i => match i with | 0 => C_NoText | 1 => C_NotAhead | 2 => C_NoRow | 3 => C_NotReady | 4 => C_NoReplay | 5 => C_NoPlace | 6 => C_NoTime | 7 => C_NoStep | 8 => C_NoPair | 9 => C_NoThread | 10 => C_NoSource | 11 => C_TooMany | 12 => C_TooLong | 13 => C_NotYet | _ => C_NoText
  have T : Txt K w mg f fd ob := ⟨F0, PySem.W.mg_of X G eC_NoText, ⟨⟨"ValueError", "ValueError.__new__", _, _, _, nm_NoText, q_NoText, N_NoText, bs_NoText, sn_NoText, sub_NoText, ab_NoText, col_NoText, dd_NoText, m0_NoText, m1_NoText, m2_NoText, m3_NoText, m5_NoText, F.excBase_ValueError, ab_ValueError, xL_NoText⟩, sa_NoText, kC_NoText⟩, ⟨⟨nm_NoText, q_NoText, N_NoText, bs_NoText, _, sn_NoText, sub_NoText, ab_NoText, col_NoText, dd_NoText, m0_NoText, m1_NoText, m2_NoText, m3_NoText, m5_NoText, xL_NoText, by decide +kernel⟩, sa_NoText, xC_NoText, tC_NoText, kC_NoText⟩, exm_self xC_NoText iC_NoText tC_NoText sC_NoText, fI_NoText, tI_NoText, ⟨ga_NoText, gg_NoText, xC_NoText, hC_NoText, cl_NoText, q_get, q_tks, mr_NoText⟩, iC_NoText, nf_nth_NoText, b0, F1, PySem.W.mg_of X G eC_NotAhead, ⟨⟨"ValueError", "ValueError.__new__", _, _, _, nm_NotAhead, q_NotAhead, N_NotAhead, bs_NotAhead, sn_NotAhead, sub_NotAhead, ab_NotAhead, col_NotAhead, dd_NotAhead, m0_NotAhead, m1_NotAhead, m2_NotAhead, m3_NotAhead, m5_NotAhead, F.excBase_ValueError, ab_ValueError, xL_NotAhead⟩, sa_NotAhead, kC_NotAhead⟩, fI_NotAhead, tI_NotAhead, ⟨ga_NotAhead, gg_NotAhead, xC_NotAhead, hC_NotAhead, cl_NotAhead, q_get, q_tks, mr_NotAhead⟩, iC_NotAhead, nf_one_NotAhead, nf_other_NotAhead, b1, F2, PySem.W.mg_of X G eC_NoRow, ⟨⟨"ValueError", "ValueError.__new__", _, _, _, nm_NoRow, q_NoRow, N_NoRow, bs_NoRow, sn_NoRow, sub_NoRow, ab_NoRow, col_NoRow, dd_NoRow, m0_NoRow, m1_NoRow, m2_NoRow, m3_NoRow, m5_NoRow, F.excBase_ValueError, ab_ValueError, xL_NoRow⟩, sa_NoRow, kC_NoRow⟩, fI_NoRow, tI_NoRow, ⟨ga_NoRow, gg_NoRow, xC_NoRow, hC_NoRow, cl_NoRow, q_get, q_tks, mr_NoRow⟩, iC_NoRow, nf_said_NoRow, b2, F3, PySem.W.mg_of X G eC_NotReady, ⟨⟨"RuntimeError", "RuntimeError.__new__", _, _, _, nm_NotReady, q_NotReady, N_NotReady, bs_NotReady, sn_NotReady, sub_NotReady, ab_NotReady, col_NotReady, dd_NotReady, m0_NotReady, m1_NotReady, m2_NotReady, m3_NotReady, m5_NotReady, F.excBase_RuntimeError, ab_RuntimeError, xL_NotReady⟩, sa_NotReady, kC_NotReady⟩, fI_NotReady, tI_NotReady, ⟨ga_NotReady, gg_NotReady, xC_NotReady, hC_NotReady, cl_NotReady, q_get, q_tks, mr_NotReady⟩, iC_NotReady, nf_nth_NotReady, nf_who_NotReady, nf_what_NotReady, b3, F4, PySem.W.mg_of X G eC_NoReplay, ⟨⟨"RuntimeError", "RuntimeError.__new__", _, _, _, nm_NoReplay, q_NoReplay, N_NoReplay, bs_NoReplay, sn_NoReplay, sub_NoReplay, ab_NoReplay, col_NoReplay, dd_NoReplay, m0_NoReplay, m1_NoReplay, m2_NoReplay, m3_NoReplay, m5_NoReplay, F.excBase_RuntimeError, ab_RuntimeError, xL_NoReplay⟩, sa_NoReplay, kC_NoReplay⟩, fI_NoReplay, tI_NoReplay, ⟨ga_NoReplay, gg_NoReplay, xC_NoReplay, hC_NoReplay, cl_NoReplay, q_get, q_tks, mr_NoReplay⟩, iC_NoReplay, nf_stopped_NoReplay, b4, F5, PySem.W.mg_of X G eC_NoPlace, ⟨⟨"IndexError", "IndexError.__new__", _, _, _, nm_NoPlace, q_NoPlace, N_NoPlace, bs_NoPlace, sn_NoPlace, sub_NoPlace, ab_NoPlace, col_NoPlace, dd_NoPlace, m0_NoPlace, m1_NoPlace, m2_NoPlace, m3_NoPlace, m5_NoPlace, F.excBase_IndexError, ab_IndexError, xL_NoPlace⟩, sa_NoPlace, kC_NoPlace⟩, fI_NoPlace, tI_NoPlace, ⟨ga_NoPlace, gg_NoPlace, xC_NoPlace, hC_NoPlace, cl_NoPlace, q_get, q_tks, mr_NoPlace⟩, iC_NoPlace, nf_asked_NoPlace, b5, F6, PySem.W.mg_of X G eC_NoTime, ⟨⟨"IndexError", "IndexError.__new__", _, _, _, nm_NoTime, q_NoTime, N_NoTime, bs_NoTime, sn_NoTime, sub_NoTime, ab_NoTime, col_NoTime, dd_NoTime, m0_NoTime, m1_NoTime, m2_NoTime, m3_NoTime, m5_NoTime, F.excBase_IndexError, ab_IndexError, xL_NoTime⟩, sa_NoTime, kC_NoTime⟩, fI_NoTime, tI_NoTime, ⟨ga_NoTime, gg_NoTime, xC_NoTime, hC_NoTime, cl_NoTime, q_get, q_tks, mr_NoTime⟩, iC_NoTime, nf_asked_NoTime, b6, F7, PySem.W.mg_of X G eC_NoStep, ⟨⟨"LookupError", "LookupError.__new__", _, _, _, nm_NoStep, q_NoStep, N_NoStep, bs_NoStep, sn_NoStep, sub_NoStep, ab_NoStep, col_NoStep, dd_NoStep, m0_NoStep, m1_NoStep, m2_NoStep, m3_NoStep, m5_NoStep, F.excBase_LookupError, ab_KeyError, xL_NoStep⟩, sa_NoStep, kC_NoStep⟩, fI_NoStep, tI_NoStep, ⟨ga_NoStep, gg_NoStep, xC_NoStep, hC_NoStep, cl_NoStep, q_get, q_tks, mr_NoStep⟩, iC_NoStep, nf_asked_NoStep, b7, F8, PySem.W.mg_of X G eC_NoPair, ⟨⟨"LookupError", "LookupError.__new__", _, _, _, nm_NoPair, q_NoPair, N_NoPair, bs_NoPair, sn_NoPair, sub_NoPair, ab_NoPair, col_NoPair, dd_NoPair, m0_NoPair, m1_NoPair, m2_NoPair, m3_NoPair, m5_NoPair, F.excBase_LookupError, ab_KeyError, xL_NoPair⟩, sa_NoPair, kC_NoPair⟩, fI_NoPair, tI_NoPair, ⟨ga_NoPair, gg_NoPair, xC_NoPair, hC_NoPair, cl_NoPair, q_get, q_tks, mr_NoPair⟩, iC_NoPair, nf_one_NoPair, nf_other_NoPair, b8, F9, PySem.W.mg_of X G eC_NoThread, ⟨⟨"LookupError", "LookupError.__new__", _, _, _, nm_NoThread, q_NoThread, N_NoThread, bs_NoThread, sn_NoThread, sub_NoThread, ab_NoThread, col_NoThread, dd_NoThread, m0_NoThread, m1_NoThread, m2_NoThread, m3_NoThread, m5_NoThread, F.excBase_LookupError, ab_LookupError, xL_NoThread⟩, sa_NoThread, kC_NoThread⟩, fI_NoThread, tI_NoThread, ⟨ga_NoThread, gg_NoThread, xC_NoThread, hC_NoThread, cl_NoThread, q_get, q_tks, mr_NoThread⟩, iC_NoThread, nf_asked_NoThread, b9, F10, PySem.W.mg_of X G eC_NoSource, ⟨⟨"LookupError", "LookupError.__new__", _, _, _, nm_NoSource, q_NoSource, N_NoSource, bs_NoSource, sn_NoSource, sub_NoSource, ab_NoSource, col_NoSource, dd_NoSource, m0_NoSource, m1_NoSource, m2_NoSource, m3_NoSource, m5_NoSource, F.excBase_LookupError, ab_LookupError, xL_NoSource⟩, sa_NoSource, kC_NoSource⟩, fI_NoSource, tI_NoSource, ⟨ga_NoSource, gg_NoSource, xC_NoSource, hC_NoSource, cl_NoSource, q_get, q_tks, mr_NoSource⟩, iC_NoSource, nf_asked_NoSource, b10, F11, PySem.W.mg_of X G eC_TooMany, ⟨⟨"OverflowError", "OverflowError.__new__", _, _, _, nm_TooMany, q_TooMany, N_TooMany, bs_TooMany, sn_TooMany, sub_TooMany, ab_TooMany, col_TooMany, dd_TooMany, m0_TooMany, m1_TooMany, m2_TooMany, m3_TooMany, m5_TooMany, F.excBase_OverflowError, ab_OverflowError, xL_TooMany⟩, sa_TooMany, kC_TooMany⟩, fI_TooMany, tI_TooMany, ⟨ga_TooMany, gg_TooMany, xC_TooMany, hC_TooMany, cl_TooMany, q_get, q_tks, mr_TooMany⟩, iC_TooMany, nf_most_TooMany, b11, F12, PySem.W.mg_of X G eC_TooLong, ⟨⟨"ArithmeticError", "ArithmeticError.__new__", _, _, _, nm_TooLong, q_TooLong, N_TooLong, bs_TooLong, sn_TooLong, sub_TooLong, ab_TooLong, col_TooLong, dd_TooLong, m0_TooLong, m1_TooLong, m2_TooLong, m3_TooLong, m5_TooLong, F.excBase_ArithmeticError, ab_ArithmeticError, xL_TooLong⟩, sa_TooLong, kC_TooLong⟩, fI_TooLong, tI_TooLong, ⟨ga_TooLong, gg_TooLong, xC_TooLong, hC_TooLong, cl_TooLong, q_get, q_tks, mr_TooLong⟩, iC_TooLong, nf_limit_TooLong, b12, F13, PySem.W.mg_of X G eC_NotYet, ⟨⟨"Exception", "Exception.__new__", _, _, _, nm_NotYet, q_NotYet, N_NotYet, bs_NotYet, sn_NotYet, sub_NotYet, ab_NotYet, col_NotYet, dd_NotYet, m0_NotYet, m1_NotYet, m2_NotYet, m3_NotYet, m5_NotYet, F.excBase_Exception, ab_Exception, xL_NotYet⟩, sa_NotYet, kC_NotYet⟩, fI_NotYet, tI_NotYet, ⟨ga_NotYet, gg_NotYet, xC_NotYet, hC_NotYet, cl_NotYet, q_get, q_tks, mr_NotYet⟩, iC_NotYet, nf_what_NotYet, b13, F14, PySem.W.mg_of X G e14, b14, F15, PySem.W.mg_of X G e15, b15, F16, PySem.W.mg_of X G e16, b16, F17, PySem.W.mg_of X G e17, b17, F18, PySem.W.mg_of X G e18, b18, F19, PySem.W.mg_of X G e19, b19, F20, PySem.W.mg_of X G e20, b20, F21, PySem.W.mg_of X G e21, b21, F22, PySem.W.mg_of X G e22, b22, F23, PySem.W.mg_of X G e23, b23, F24, PySem.W.mg_of X G e24, b24, F25, PySem.W.mg_of X G e25, b25, F26, PySem.W.mg_of X G e26, b26, F27, PySem.W.mg_of X G e27, b27, F28, PySem.W.mg_of X G e28, b28, F29, PySem.W.mg_of X G e29, b29, F30, PySem.W.mg_of X G e30, b30, F31, PySem.W.mg_of X G e31, b31, F32, PySem.W.mg_of X G e32, b32, F33, PySem.W.mg_of X G e33, b33, F34, PySem.W.mg_of X G e34, b34, F35, PySem.W.mg_of X G e35, b35, q_get, q_tks, q_own, q_bas, ⟨_, PySem.W.mg_of X G c_MOST⟩, ⟨_, PySem.W.mg_of X G c_MOST_THREADS⟩, ⟨_, PySem.W.mg_of X G c_NONE⟩, PySem.W.mg_none_of X G z_ArithmeticError, PySem.W.mg_none_of X G z_IndexError, PySem.W.mg_none_of X G z_KeyError, PySem.W.mg_none_of X G z_LookupError, PySem.W.mg_none_of X G z_OverflowError, PySem.W.mg_none_of X G z_RuntimeError, PySem.W.mg_none_of X G z_ValueError, PySem.W.mg_none_of X G z_abs, PySem.W.mg_none_of X G z_bool, PySem.W.mg_none_of X G z_int, PySem.W.mg_none_of X G z_isinstance, PySem.W.mg_none_of X G z_len, PySem.W.mg_none_of X G z_list, PySem.W.mg_none_of X G z_range, PySem.W.mg_none_of X G z_repr, PySem.W.mg_none_of X G z_str⟩
  exact ⟨fd 35, fun s v => .of_eq rfl, fun base _ _ => ok_law T⟩
end Kw
open PySem PySem.W PyProof.Rows
set_option maxRecDepth 100000 in
set_option maxHeartbeats 0 in
theorem PySem.Challenge.cw_replaytravel_k25_turns_packed_and_read_holds : PySem.Challenge.rw_replaytravel_k25_turns_packed_and_read.Holds := by
  w_on; o_law; k_head; (case hw => w_witness2)
  k_fill
  refine Kw.walkG (l := PySem.Challenge.rw_replaytravel_k25_turns_packed_and_read) (n := 63) (k := 6) (x := "_law_script") (C := fun _ => L2.CX0) (sp := fun w => Kw.sp_law _) rfl (by decide) rfl ⟨rfl, by decide, by decide⟩ (fun w h Y => PySem.W.kIn_of Y) ?F (fun _ _ a ns hl _ hS => ⟨a, ns, rfl, hS, hl, fun _ => rfl⟩) (fun _ _ _ _ _ h => h)
  case F =>
    intro w mg fa h KX G hmg
    refine' Kw.all_mk KX G hmg ?eC_NoText ?xL_NoText ?sa_NoText ?ga_NoText ?gg_NoText ?kC_NoText ?xC_NoText ?tC_NoText ?hC_NoText ?iC_NoText ?sC_NoText ?fI_NoText ?tI_NoText ?cl_NoText ?mr_NoText ?nf_nth_NoText ?l0 ?c0 ?k0 ?eC_NotAhead ?xL_NotAhead ?sa_NotAhead ?ga_NotAhead ?gg_NotAhead ?kC_NotAhead ?xC_NotAhead ?tC_NotAhead ?hC_NotAhead ?iC_NotAhead ?sC_NotAhead ?fI_NotAhead ?tI_NotAhead ?cl_NotAhead ?mr_NotAhead ?nf_one_NotAhead ?nf_other_NotAhead ?l1 ?c1 ?k1 ?eC_NoRow ?xL_NoRow ?sa_NoRow ?ga_NoRow ?gg_NoRow ?kC_NoRow ?xC_NoRow ?tC_NoRow ?hC_NoRow ?iC_NoRow ?sC_NoRow ?fI_NoRow ?tI_NoRow ?cl_NoRow ?mr_NoRow ?nf_said_NoRow ?l2 ?c2 ?k2 ?eC_NotReady ?xL_NotReady ?sa_NotReady ?ga_NotReady ?gg_NotReady ?kC_NotReady ?xC_NotReady ?tC_NotReady ?hC_NotReady ?iC_NotReady ?sC_NotReady ?fI_NotReady ?tI_NotReady ?cl_NotReady ?mr_NotReady ?nf_nth_NotReady ?nf_who_NotReady ?nf_what_NotReady ?l3 ?c3 ?k3 ?eC_NoReplay ?xL_NoReplay ?sa_NoReplay ?ga_NoReplay ?gg_NoReplay ?kC_NoReplay ?xC_NoReplay ?tC_NoReplay ?hC_NoReplay ?iC_NoReplay ?sC_NoReplay ?fI_NoReplay ?tI_NoReplay ?cl_NoReplay ?mr_NoReplay ?nf_stopped_NoReplay ?l4 ?c4 ?k4 ?eC_NoPlace ?xL_NoPlace ?sa_NoPlace ?ga_NoPlace ?gg_NoPlace ?kC_NoPlace ?xC_NoPlace ?tC_NoPlace ?hC_NoPlace ?iC_NoPlace ?sC_NoPlace ?fI_NoPlace ?tI_NoPlace ?cl_NoPlace ?mr_NoPlace ?nf_asked_NoPlace ?l5 ?c5 ?k5 ?eC_NoTime ?xL_NoTime ?sa_NoTime ?ga_NoTime ?gg_NoTime ?kC_NoTime ?xC_NoTime ?tC_NoTime ?hC_NoTime ?iC_NoTime ?sC_NoTime ?fI_NoTime ?tI_NoTime ?cl_NoTime ?mr_NoTime ?nf_asked_NoTime ?l6 ?c6 ?k6 ?eC_NoStep ?xL_NoStep ?sa_NoStep ?ga_NoStep ?gg_NoStep ?kC_NoStep ?xC_NoStep ?tC_NoStep ?hC_NoStep ?iC_NoStep ?sC_NoStep ?fI_NoStep ?tI_NoStep ?cl_NoStep ?mr_NoStep ?nf_asked_NoStep ?l7 ?c7 ?k7 ?eC_NoPair ?xL_NoPair ?sa_NoPair ?ga_NoPair ?gg_NoPair ?kC_NoPair ?xC_NoPair ?tC_NoPair ?hC_NoPair ?iC_NoPair ?sC_NoPair ?fI_NoPair ?tI_NoPair ?cl_NoPair ?mr_NoPair ?nf_one_NoPair ?nf_other_NoPair ?l8 ?c8 ?k8 ?eC_NoThread ?xL_NoThread ?sa_NoThread ?ga_NoThread ?gg_NoThread ?kC_NoThread ?xC_NoThread ?tC_NoThread ?hC_NoThread ?iC_NoThread ?sC_NoThread ?fI_NoThread ?tI_NoThread ?cl_NoThread ?mr_NoThread ?nf_asked_NoThread ?l9 ?c9 ?k9 ?eC_NoSource ?xL_NoSource ?sa_NoSource ?ga_NoSource ?gg_NoSource ?kC_NoSource ?xC_NoSource ?tC_NoSource ?hC_NoSource ?iC_NoSource ?sC_NoSource ?fI_NoSource ?tI_NoSource ?cl_NoSource ?mr_NoSource ?nf_asked_NoSource ?l10 ?c10 ?k10 ?eC_TooMany ?xL_TooMany ?sa_TooMany ?ga_TooMany ?gg_TooMany ?kC_TooMany ?xC_TooMany ?tC_TooMany ?hC_TooMany ?iC_TooMany ?sC_TooMany ?fI_TooMany ?tI_TooMany ?cl_TooMany ?mr_TooMany ?nf_most_TooMany ?l11 ?c11 ?k11 ?eC_TooLong ?xL_TooLong ?sa_TooLong ?ga_TooLong ?gg_TooLong ?kC_TooLong ?xC_TooLong ?tC_TooLong ?hC_TooLong ?iC_TooLong ?sC_TooLong ?fI_TooLong ?tI_TooLong ?cl_TooLong ?mr_TooLong ?nf_limit_TooLong ?l12 ?c12 ?k12 ?eC_NotYet ?xL_NotYet ?sa_NotYet ?ga_NotYet ?gg_NotYet ?kC_NotYet ?xC_NotYet ?tC_NotYet ?hC_NotYet ?iC_NotYet ?sC_NotYet ?fI_NotYet ?tI_NotYet ?cl_NotYet ?mr_NotYet ?nf_what_NotYet ?l13 ?c13 ?k13 ?e14 ?l14 ?c14 ?k14 ?e15 ?l15 ?c15 ?k15 ?e16 ?l16 ?c16 ?k16 ?e17 ?l17 ?c17 ?k17 ?e18 ?l18 ?c18 ?k18 ?e19 ?l19 ?c19 ?k19 ?e20 ?l20 ?c20 ?k20 ?e21 ?l21 ?c21 ?k21 ?e22 ?l22 ?c22 ?k22 ?e23 ?l23 ?c23 ?k23 ?e24 ?l24 ?c24 ?k24 ?e25 ?l25 ?c25 ?k25 ?e26 ?l26 ?c26 ?k26 ?e27 ?l27 ?c27 ?k27 ?e28 ?l28 ?c28 ?k28 ?e29 ?l29 ?c29 ?k29 ?e30 ?l30 ?c30 ?k30 ?e31 ?l31 ?c31 ?k31 ?e32 ?l32 ?c32 ?k32 ?e33 ?l33 ?c33 ?k33 ?e34 ?l34 ?c34 ?k34 ?e35 ?l35 ?c35 ?k35 ?q_get ?q_tks ?q_own ?q_bas ?c_MOST ?c_MOST_THREADS ?c_NONE ?z_ArithmeticError ?z_IndexError ?z_KeyError ?z_LookupError ?z_OverflowError ?z_RuntimeError ?z_ValueError ?z_abs ?z_bool ?z_int ?z_isinstance ?z_len ?z_list ?z_range ?z_repr ?z_str
    (case eC_NoText => k_is)
    (case xL_NoText => k_is)
    (case sa_NoText => k_is)
    (case ga_NoText => k_is)
    (case gg_NoText => k_is)
    (case kC_NoText => k_is)
    (case xC_NoText => k_is)
    (case tC_NoText => k_is)
    (case hC_NoText => k_is)
    (case iC_NoText => k_is)
    (case sC_NoText => first | rfl | k_is)
    (case fI_NoText => k_is)
    (case tI_NoText => k_is)
    (case cl_NoText => k_is)
    (case mr_NoText => k_is)
    (case nf_nth_NoText => k_is)
    (case l0 => k_is)
    (case c0 => k_is)
    (case k0 => k_is)
    (case eC_NotAhead => k_is)
    (case xL_NotAhead => k_is)
    (case sa_NotAhead => k_is)
    (case ga_NotAhead => k_is)
    (case gg_NotAhead => k_is)
    (case kC_NotAhead => k_is)
    (case xC_NotAhead => k_is)
    (case tC_NotAhead => k_is)
    (case hC_NotAhead => k_is)
    (case iC_NotAhead => k_is)
    (case sC_NotAhead => first | rfl | k_is)
    (case fI_NotAhead => k_is)
    (case tI_NotAhead => k_is)
    (case cl_NotAhead => k_is)
    (case mr_NotAhead => k_is)
    (case nf_one_NotAhead => k_is)
    (case nf_other_NotAhead => k_is)
    (case l1 => k_is)
    (case c1 => k_is)
    (case k1 => k_is)
    (case eC_NoRow => k_is)
    (case xL_NoRow => k_is)
    (case sa_NoRow => k_is)
    (case ga_NoRow => k_is)
    (case gg_NoRow => k_is)
    (case kC_NoRow => k_is)
    (case xC_NoRow => k_is)
    (case tC_NoRow => k_is)
    (case hC_NoRow => k_is)
    (case iC_NoRow => k_is)
    (case sC_NoRow => first | rfl | k_is)
    (case fI_NoRow => k_is)
    (case tI_NoRow => k_is)
    (case cl_NoRow => k_is)
    (case mr_NoRow => k_is)
    (case nf_said_NoRow => k_is)
    (case l2 => k_is)
    (case c2 => k_is)
    (case k2 => k_is)
    (case eC_NotReady => k_is)
    (case xL_NotReady => k_is)
    (case sa_NotReady => k_is)
    (case ga_NotReady => k_is)
    (case gg_NotReady => k_is)
    (case kC_NotReady => k_is)
    (case xC_NotReady => k_is)
    (case tC_NotReady => k_is)
    (case hC_NotReady => k_is)
    (case iC_NotReady => k_is)
    (case sC_NotReady => first | rfl | k_is)
    (case fI_NotReady => k_is)
    (case tI_NotReady => k_is)
    (case cl_NotReady => k_is)
    (case mr_NotReady => k_is)
    (case nf_nth_NotReady => k_is)
    (case nf_who_NotReady => k_is)
    (case nf_what_NotReady => k_is)
    (case l3 => k_is)
    (case c3 => k_is)
    (case k3 => k_is)
    (case eC_NoReplay => k_is)
    (case xL_NoReplay => k_is)
    (case sa_NoReplay => k_is)
    (case ga_NoReplay => k_is)
    (case gg_NoReplay => k_is)
    (case kC_NoReplay => k_is)
    (case xC_NoReplay => k_is)
    (case tC_NoReplay => k_is)
    (case hC_NoReplay => k_is)
    (case iC_NoReplay => k_is)
    (case sC_NoReplay => first | rfl | k_is)
    (case fI_NoReplay => k_is)
    (case tI_NoReplay => k_is)
    (case cl_NoReplay => k_is)
    (case mr_NoReplay => k_is)
    (case nf_stopped_NoReplay => k_is)
    (case l4 => k_is)
    (case c4 => k_is)
    (case k4 => k_is)
    (case eC_NoPlace => k_is)
    (case xL_NoPlace => k_is)
    (case sa_NoPlace => k_is)
    (case ga_NoPlace => k_is)
    (case gg_NoPlace => k_is)
    (case kC_NoPlace => k_is)
    (case xC_NoPlace => k_is)
    (case tC_NoPlace => k_is)
    (case hC_NoPlace => k_is)
    (case iC_NoPlace => k_is)
    (case sC_NoPlace => first | rfl | k_is)
    (case fI_NoPlace => k_is)
    (case tI_NoPlace => k_is)
    (case cl_NoPlace => k_is)
    (case mr_NoPlace => k_is)
    (case nf_asked_NoPlace => k_is)
    (case l5 => k_is)
    (case c5 => k_is)
    (case k5 => k_is)
    (case eC_NoTime => k_is)
    (case xL_NoTime => k_is)
    (case sa_NoTime => k_is)
    (case ga_NoTime => k_is)
    (case gg_NoTime => k_is)
    (case kC_NoTime => k_is)
    (case xC_NoTime => k_is)
    (case tC_NoTime => k_is)
    (case hC_NoTime => k_is)
    (case iC_NoTime => k_is)
    (case sC_NoTime => first | rfl | k_is)
    (case fI_NoTime => k_is)
    (case tI_NoTime => k_is)
    (case cl_NoTime => k_is)
    (case mr_NoTime => k_is)
    (case nf_asked_NoTime => k_is)
    (case l6 => k_is)
    (case c6 => k_is)
    (case k6 => k_is)
    (case eC_NoStep => k_is)
    (case xL_NoStep => k_is)
    (case sa_NoStep => k_is)
    (case ga_NoStep => k_is)
    (case gg_NoStep => k_is)
    (case kC_NoStep => k_is)
    (case xC_NoStep => k_is)
    (case tC_NoStep => k_is)
    (case hC_NoStep => k_is)
    (case iC_NoStep => k_is)
    (case sC_NoStep => first | rfl | k_is)
    (case fI_NoStep => k_is)
    (case tI_NoStep => k_is)
    (case cl_NoStep => k_is)
    (case mr_NoStep => k_is)
    (case nf_asked_NoStep => k_is)
    (case l7 => k_is)
    (case c7 => k_is)
    (case k7 => k_is)
    (case eC_NoPair => k_is)
    (case xL_NoPair => k_is)
    (case sa_NoPair => k_is)
    (case ga_NoPair => k_is)
    (case gg_NoPair => k_is)
    (case kC_NoPair => k_is)
    (case xC_NoPair => k_is)
    (case tC_NoPair => k_is)
    (case hC_NoPair => k_is)
    (case iC_NoPair => k_is)
    (case sC_NoPair => first | rfl | k_is)
    (case fI_NoPair => k_is)
    (case tI_NoPair => k_is)
    (case cl_NoPair => k_is)
    (case mr_NoPair => k_is)
    (case nf_one_NoPair => k_is)
    (case nf_other_NoPair => k_is)
    (case l8 => k_is)
    (case c8 => k_is)
    (case k8 => k_is)
    (case eC_NoThread => k_is)
    (case xL_NoThread => k_is)
    (case sa_NoThread => k_is)
    (case ga_NoThread => k_is)
    (case gg_NoThread => k_is)
    (case kC_NoThread => k_is)
    (case xC_NoThread => k_is)
    (case tC_NoThread => k_is)
    (case hC_NoThread => k_is)
    (case iC_NoThread => k_is)
    (case sC_NoThread => first | rfl | k_is)
    (case fI_NoThread => k_is)
    (case tI_NoThread => k_is)
    (case cl_NoThread => k_is)
    (case mr_NoThread => k_is)
    (case nf_asked_NoThread => k_is)
    (case l9 => k_is)
    (case c9 => k_is)
    (case k9 => k_is)
    (case eC_NoSource => k_is)
    (case xL_NoSource => k_is)
    (case sa_NoSource => k_is)
    (case ga_NoSource => k_is)
    (case gg_NoSource => k_is)
    (case kC_NoSource => k_is)
    (case xC_NoSource => k_is)
    (case tC_NoSource => k_is)
    (case hC_NoSource => k_is)
    (case iC_NoSource => k_is)
    (case sC_NoSource => first | rfl | k_is)
    (case fI_NoSource => k_is)
    (case tI_NoSource => k_is)
    (case cl_NoSource => k_is)
    (case mr_NoSource => k_is)
    (case nf_asked_NoSource => k_is)
    (case l10 => k_is)
    (case c10 => k_is)
    (case k10 => k_is)
    (case eC_TooMany => k_is)
    (case xL_TooMany => k_is)
    (case sa_TooMany => k_is)
    (case ga_TooMany => k_is)
    (case gg_TooMany => k_is)
    (case kC_TooMany => k_is)
    (case xC_TooMany => k_is)
    (case tC_TooMany => k_is)
    (case hC_TooMany => k_is)
    (case iC_TooMany => k_is)
    (case sC_TooMany => first | rfl | k_is)
    (case fI_TooMany => k_is)
    (case tI_TooMany => k_is)
    (case cl_TooMany => k_is)
    (case mr_TooMany => k_is)
    (case nf_most_TooMany => k_is)
    (case l11 => k_is)
    (case c11 => k_is)
    (case k11 => k_is)
    (case eC_TooLong => k_is)
    (case xL_TooLong => k_is)
    (case sa_TooLong => k_is)
    (case ga_TooLong => k_is)
    (case gg_TooLong => k_is)
    (case kC_TooLong => k_is)
    (case xC_TooLong => k_is)
    (case tC_TooLong => k_is)
    (case hC_TooLong => k_is)
    (case iC_TooLong => k_is)
    (case sC_TooLong => first | rfl | k_is)
    (case fI_TooLong => k_is)
    (case tI_TooLong => k_is)
    (case cl_TooLong => k_is)
    (case mr_TooLong => k_is)
    (case nf_limit_TooLong => k_is)
    (case l12 => k_is)
    (case c12 => k_is)
    (case k12 => k_is)
    (case eC_NotYet => k_is)
    (case xL_NotYet => k_is)
    (case sa_NotYet => k_is)
    (case ga_NotYet => k_is)
    (case gg_NotYet => k_is)
    (case kC_NotYet => k_is)
    (case xC_NotYet => k_is)
    (case tC_NotYet => k_is)
    (case hC_NotYet => k_is)
    (case iC_NotYet => k_is)
    (case sC_NotYet => first | rfl | k_is)
    (case fI_NotYet => k_is)
    (case tI_NotYet => k_is)
    (case cl_NotYet => k_is)
    (case mr_NotYet => k_is)
    (case nf_what_NotYet => k_is)
    (case l13 => k_is)
    (case c13 => k_is)
    (case k13 => k_is)
    (case e14 => k_is)
    (case l14 => k_is)
    (case c14 => k_is)
    (case k14 => k_is)
    (case e15 => k_is)
    (case l15 => k_is)
    (case c15 => k_is)
    (case k15 => k_is)
    (case e16 => k_is)
    (case l16 => k_is)
    (case c16 => k_is)
    (case k16 => k_is)
    (case e17 => k_is)
    (case l17 => k_is)
    (case c17 => k_is)
    (case k17 => k_is)
    (case e18 => k_is)
    (case l18 => k_is)
    (case c18 => k_is)
    (case k18 => k_is)
    (case e19 => k_is)
    (case l19 => k_is)
    (case c19 => k_is)
    (case k19 => k_is)
    (case e20 => k_is)
    (case l20 => k_is)
    (case c20 => k_is)
    (case k20 => k_is)
    (case e21 => k_is)
    (case l21 => k_is)
    (case c21 => k_is)
    (case k21 => k_is)
    (case e22 => k_is)
    (case l22 => k_is)
    (case c22 => k_is)
    (case k22 => k_is)
    (case e23 => k_is)
    (case l23 => k_is)
    (case c23 => k_is)
    (case k23 => k_is)
    (case e24 => k_is)
    (case l24 => k_is)
    (case c24 => k_is)
    (case k24 => k_is)
    (case e25 => k_is)
    (case l25 => k_is)
    (case c25 => k_is)
    (case k25 => k_is)
    (case e26 => k_is)
    (case l26 => k_is)
    (case c26 => k_is)
    (case k26 => k_is)
    (case e27 => k_is)
    (case l27 => k_is)
    (case c27 => k_is)
    (case k27 => k_is)
    (case e28 => k_is)
    (case l28 => k_is)
    (case c28 => k_is)
    (case k28 => k_is)
    (case e29 => k_is)
    (case l29 => k_is)
    (case c29 => k_is)
    (case k29 => k_is)
    (case e30 => k_is)
    (case l30 => k_is)
    (case c30 => k_is)
    (case k30 => k_is)
    (case e31 => k_is)
    (case l31 => k_is)
    (case c31 => k_is)
    (case k31 => k_is)
    (case e32 => k_is)
    (case l32 => k_is)
    (case c32 => k_is)
    (case k32 => k_is)
    (case e33 => k_is)
    (case l33 => k_is)
    (case c33 => k_is)
    (case k33 => k_is)
    (case e34 => k_is)
    (case l34 => k_is)
    (case c34 => k_is)
    (case k34 => k_is)
    (case e35 => k_is)
    (case l35 => k_is)
    (case c35 => k_is)
    (case k35 => k_is)
    (case q_get => first | k_is | rfl | decide +kernel)
    (case q_tks => first | k_is | rfl | decide +kernel)
    (case q_own => first | k_is | rfl | decide +kernel)
    (case q_bas => first | k_is | rfl | decide +kernel)
    (case c_MOST => k_is)
    (case c_MOST_THREADS => k_is)
    (case c_NONE => k_is)
    (case z_ArithmeticError => k_is)
    (case z_IndexError => k_is)
    (case z_KeyError => k_is)
    (case z_LookupError => k_is)
    (case z_OverflowError => k_is)
    (case z_RuntimeError => k_is)
    (case z_ValueError => k_is)
    (case z_abs => k_is)
    (case z_bool => k_is)
    (case z_int => k_is)
    (case z_isinstance => k_is)
    (case z_len => k_is)
    (case z_list => k_is)
    (case z_range => k_is)
    (case z_repr => k_is)
    (case z_str => k_is)
