import PyProof.Rows.All
import Wide.All
import OpenK.AllK
import Wide.FinOn
import HandS.Base
import HandS.Call
import HandS.List
import HandS.Comp
import HandS.Ends
import HandS.Dict
import HandS.Iter
import HandS.Text
import HandS.Words
import HandS.WordsList
import HandS.WordsDict
import HandS.OwnEq
import HandS.IsInst
import HandS.Style
import HandS.Wide
import HandS.Zip
import HandS.Strs
import HandS.Evl
import HandS.Defaults
import HandS.Exc
import HandS.ExcInit
import HandS.ExcField
import HandS.TryOnly
import HandS.WordsExc
import HandS.CallSlots
import HandS.ExcOwn
import HandS.Property
import HandS.Walk
import KE.KSortedM
import HandS.SetFor
import KE.KMinKey
import KE.DataMinKey
import HandS.SortKw
import HandS.More
import HandS.Deep
import KE.GoesEnum
import KE.GoesEnumKw
import PySem.Challenge.RW_rankpicks_k22_orders_for_ranks
set_option Elab.async false
set_option linter.all false
set_option maxRecDepth 100000
set_option maxHeartbeats 4000000
/-! the own operators of instances: len, in, getitem, ==, !=; methods and properties of one of two classes -/
namespace RkN
open PySem PySem.Spec PyProof.Rows
section
variable {M : Model} {prog : Program} {w : World} {A : Around} {E : Value → Shared → Prop} {s : Shared} {K : PySem.W.Frag} {x y C f : Addr} {ox : Obj} {od : Option Obj}
theorem back {P : Value → Shared → Prop} {z : L2.V} {v : Value} {s' : Shared} (r : L2.RelV z v) (h : P v s') : PySem.W.CmpBack P v s' := by
  cases z with
  | non => cases (show v = Value.none from r); exact h
  | bl b => cases (show v = Value.bool b from r); exact h
  | int i =>
    obtain ⟨t, e⟩ := (show ∃ t, v = Value.int i t from r)
    cases e
    exact h
  | str x =>
    obtain ⟨t, e⟩ := (show ∃ t, v = Value.str x t from r)
    cases e
    exact h
  | byt b =>
    obtain ⟨t, e⟩ := (show ∃ t, v = Value.bytes b t from r)
    cases e
    exact h
  | flt b =>
    obtain ⟨t, e⟩ := (show ∃ t, v = Value.float b t from r)
    cases e
    exact h
  | ref a => cases (show v = Value.ref a from r); exact h
  | ty n => cases (show v = Value.type n from r); exact h
/-- object.__ne__, by the own == -/
theorem objNe {b : Value} {Q : Fin → Shared → Prop} (X : K.In s.heap) (I : PySem.W.InstAt s.heap x ox C od) (hu : A.units < cLine) (hs : PySem.W.findIn K (.ref C) "__eq__" = some (some (.ref f))) (hf : PySem.W.isFn K (.ref f) = true)
    (h : wpAny (model prog w) A (call (.ref f) [.ref x, b]) (fun v s' => ∃ r, v = .bool r ∧ Q (.done (.ret (.bool (!r)))) s') E s) :
    wpAny (model prog w) A (Builtin.«object.__ne__» ⟨[.ref x, b], []⟩) Q E s := by
  unfold Builtin.«object.__ne__»
  repeat (first
    | with_reducible refine wpAny_cRoomFor hu ?_
    | (refine wpAny_bind (m := callSpecialIfBound? (.ref x) (Str.ofString "__eq__") [b])
        (PySem.W.ifBound_K X I hs hf (wpAny_mono h (fun r s' hr => by
          obtain ⟨q, rfl, hq⟩ := hr
          repeat (first | exact hq | exact wpAny_pure hq | exact wpAny_truthy_bool hq | (refine wpAny_bind (m := truthy (.bool _)) (wpAny_truthy_bool ?_)) | wp_step)) fun _ _ e => e)))
    | wp_step)
theorem ifBound_ne {args : List Value} {Q : Option Value → Shared → Prop} (X : K.In s.heap) (I : PySem.W.InstAt s.heap x ox C od) (hs : PySem.W.findIn K (.ref C) "__ne__" = some (some (.builtin "object.__ne__")))
    (h : wpAny M A (call (.builtin "object.__ne__") (.ref x :: args)) (fun v => Q (some v)) E s) : wpAny M A (callSpecialIfBound? (.ref x) "__ne__" args) Q E s := by
  simp only [callSpecialIfBound?, bindSpecialIfBound?]
  refine wpAny_holding (wpAny_bind (wpAny_bind (wpAny_bind (I.type.here ((PySem.W.looks_findIn X hs).here ?_)))))
  refine wpAny_bind (wpAny_askSetting (wpAny_ite ?_))
  have fin : wpAny M A (call (.builtin "object.__ne__") ([.ref x] ++ args) >>= fun v => pure (some v)) Q E s := wpAny_bind (wpAny_mono h (fun v s' h' => wpAny_pure h') fun _ _ h' => h')
  split
  · exact wpAny_bind (wpAny_of_eq (F.cmp_object.ne.bind _) (wpAny_pure (by exact fin)))
  · exact wpAny_tryCatch (wpAny_bind (wpAny_of_eq (F.cmp_object.ne.bind _) (wpAny_pure (by exact fin))))
theorem ne_K {b tb : Value} {Q : Value → Shared → Prop} (X : K.In s.heap) (I : PySem.W.InstAt s.heap x ox C od) (hb : PySem.W.Looks (model prog w) s.heap (typeOf b) tb) (hn : PySem.W.notFirst K C tb = true) (hu : A.units + 1 < cLine)
    (hm : PySem.W.mroIn K C (.type "object") = some true) (hs : PySem.W.findIn K (.ref C) "__eq__" = some (some (.ref f))) (hf : PySem.W.isFn K (.ref f) = true) (hne : PySem.W.findIn K (.ref C) "__ne__" = some (some (.builtin "object.__ne__")))
    (h : wpAny (model prog w) A.in1 (call (.ref f) [.ref x, b]) (fun v s' => ∃ r, v = .bool r ∧ Q (.bool (!r)) s') E s) : wpAny (model prog w) A (richCompare .NotEq (.ref x) b) Q E s := by
  have one : wpAny (model prog w) A (tryCompare (.ref x) "__ne__" b) (fun r s' => ∃ v, r = some v ∧ Q v s') E s := by
    unfold tryCompare
    refine wpAny_bind (ifBound_ne X I hne ?_)
    refine wpAny_call (codeAny_call_builtin F.cmp_object.ne.plain F.cmpEntry_ne (PySem.W.check_slot F.cmpKind_ne F.cmpSplit_ne (I.type.andThen (PySem.W.looks_mroIn X hm)) (F.cmpArgs_ne _ _)
      (objNe (A := A.in1) X I (by show A.units + 1 < cLine; exact hu) hs hf (wpAny_mono h (fun v s' hv => ?_) fun _ _ e => e))))
    obtain ⟨r, rfl, hq⟩ := hv
    first | exact ⟨r, rfl, wpAny_pure ⟨_, rfl, hq⟩⟩ | exact ⟨r, rfl, wpAny_pure (wpAny_pure ⟨_, rfl, hq⟩)⟩ | exact ⟨r, rfl, ⟨_, rfl, hq⟩⟩
  unfold richCompare
  simp only [oneThing_ref]
  refine wpAny_holding (wpAny_bind (wpAny_cRoomFor (Nat.lt_of_succ_lt hu) ?_))
  refine wpAny_bind (I.type.here (wpAny_bind (hb.here ?_)))
  split
  · rename_i q
    have e : PySem.W.subIn K tb (.ref C) = some false := by
      rcases Bool.or_eq_true_iff.mp hn with e | e
      · rw [beq_iff_eq.mp e] at q; simp at q
      · exact beq_iff_eq.mp e
    refine wpAny_bind ((PySem.W.looks_subIn X e).here ?_)
    simp only [Bool.false_eq_true, if_false]
    refine wpAny_bind (wpAny_mono one (fun r s' z => ?_) fun _ _ e => e)
    obtain ⟨v, rfl, hq⟩ := z
    exact wpAny_pure hq
  · refine wpAny_bind (wpAny_pure ?_)
    simp only [Bool.false_eq_true, if_false]
    refine wpAny_bind (wpAny_mono one (fun r s' z => ?_) fun _ _ e => e)
    obtain ⟨v, rfl, hq⟩ := z
    exact wpAny_pure hq
end
end RkN

namespace RkO
open PySem PySem.Spec PyProof.Rows L2
variable {X : Cx} {CX : CXT} {k : Nat} {C f : Addr} {fd : FuncData} {ps : List Str} {sp : Sp} {E : XK}

/-- the own def is run with us -/
theorem run_here {A : Around} {pins : List (Addr × Obj)} {σ : L2.St} {H : Hp} {s : Shared} {Q : VK} {us : List Value} {vs : List V} (F : FnOk X.prog X.w X.K X.mg X.base CX k f fd ps sp) (hr : Room k A) (hfr : A.frames = X.A.frames) (hb : Binds X.K fd ps [])
    (hx : Passes CX X E) (I : Inv X pins σ H s) (r : Vals vs us) (h : sp vs H Q E) : wpAny (model X.prog X.w) A (call (.ref f) us) (EP X pins σ Q) X.xe s := by
  have hl : us.length = ps.length := by rw [← r.length]; exact F.len _ _ _ _ h
  have e0 : Env0 X.prog X.w X.K X.mg X.base A X.stack s H := by
    have e := I.env0
    exact ⟨by rw [hfr]; exact e.frames, e.mod, e.bs, e.bsz, e.funs, e.frf, e.hok, e.bare⟩
  refine wpAny_call (codeAny_mono (F.run A X.stack s H ⟨us, []⟩ us vs Q E hr e0 (by
    have := hb s us I.kIn (by simpa using hl)
    simpa using this) r h) fun r s' hq => ?_)
  cases r with
  | error e => exact hx pins σ H s e s' I hq
  | ok fl =>
    cases fl with
    | ret u => exact I.after hq
    | next => exact False.elim hq
    | brk => exact False.elim hq
    | cont => exact False.elim hq

/-- len(o) -/
def rLenO (C : Addr) (sp : Sp) (E : XK) : List V → Hp → VK → Prop := fun xs H Q => ∃ a dx fs, xs = [V.ref a] ∧ H a = some (.ins C dx fs) ∧ sp [.ref a] H (fun z H' => ∃ i : Int, z = .int i ∧ 0 ≤ i ∧ i < 2 ^ 63 ∧ Q z H') E
theorem call_lenO (hm : Meth X.K C "__len__" f) (F : FnOk X.prog X.w X.K X.mg X.base CX k f fd ps sp) (hr : Room (k + 1) X.A) (hb : Binds X.K fd ps []) (hx : Passes CX X E) : CallR X (.builtin "len") (rLenO C sp E) := by
  intro pins s σ H xs us Q I r h
  obtain ⟨a, dx, fs, rfl, ha, q⟩ := h
  obtain ⟨u, rfl, ru⟩ := r.one
  cases (show u = Value.ref a from ru)
  obtain ⟨mA, O, _⟩ := ins_get I.hok ha
  obtain ⟨od, J, _⟩ := O.look
  obtain ⟨m, hF⟩ := I.fr
  refine PySem.W.len_K hF I.ok.mod.kin J hm.at_ hm.fn (wpAny_mono (run_here (A := X.A.in1) (us := [.ref a]) (vs := [.ref a]) F hr.in1 rfl hb hx I (.cons rfl .nil) q) (fun v s' z => ?_) fun _ _ e => e)
  obtain ⟨z, H', I', rz, i, rfl, h0, h1, q⟩ := z
  obtain ⟨t, rfl⟩ := (show ∃ t, v = Value.int i t from rz)
  exact ⟨⟨h0, h1⟩, .int i, H', I'.tok _, ⟨_, rfl⟩, q⟩

/-- x in o, x not in o -/
def rInO (C : Addr) (neg : Bool) (sp : Sp) (E : XK) : R2 := fun x y H Q => ∃ a dx fs, y = .ref a ∧ H a = some (.ins C dx fs) ∧ sp [.ref a, x] H (fun z H' => ∃ b, z = .bl b ∧ Q (.bl (if neg then !b else b)) H') E
theorem op_inO (hm : Meth X.K C "__contains__" f) (F : FnOk X.prog X.w X.K X.mg X.base CX k f fd ps sp) (hr : Room k X.A) (hb : Binds X.K fd ps []) (hx : Passes CX X E) : OpR X (compareOp .In) (rInO C false sp E) := by
  intro pins s σ H x y v u Q I rx ry h
  obtain ⟨a, dx, fs, rfl, ha, q⟩ := h
  cases (show u = Value.ref a from ry)
  obtain ⟨mA, O, _⟩ := ins_get I.hok ha
  obtain ⟨od, J, _⟩ := O.look
  obtain ⟨m, hF⟩ := I.fr
  refine PySem.W.in_K hF I.ok.mod.kin J hm.at_ hm.fn (wpAny_mono (run_here (us := [.ref a, v]) (vs := [.ref a, x]) F hr rfl hb hx I (.cons rfl (.cons rx .nil)) q) (fun r s' z => ?_) fun _ _ e => e)
  obtain ⟨z, H', I', rz, b, rfl, q⟩ := z
  cases (show r = Value.bool b from rz)
  exact wpAny_truthy_bool ⟨.bl b, H', I', rfl, q⟩
theorem op_notInO (hm : Meth X.K C "__contains__" f) (F : FnOk X.prog X.w X.K X.mg X.base CX k f fd ps sp) (hr : Room k X.A) (hb : Binds X.K fd ps []) (hx : Passes CX X E) : OpR X (compareOp .NotIn) (rInO C true sp E) := by
  intro pins s σ H x y v u Q I rx ry h
  obtain ⟨a, dx, fs, rfl, ha, q⟩ := h
  cases (show u = Value.ref a from ry)
  obtain ⟨mA, O, _⟩ := ins_get I.hok ha
  obtain ⟨od, J, _⟩ := O.look
  obtain ⟨m, hF⟩ := I.fr
  refine PySem.W.notIn_K hF I.ok.mod.kin J hm.at_ hm.fn (wpAny_mono (run_here (us := [.ref a, v]) (vs := [.ref a, x]) F hr rfl hb hx I (.cons rfl (.cons rx .nil)) q) (fun r s' z => ?_) fun _ _ e => e)
  obtain ⟨z, H', I', rz, b, rfl, q⟩ := z
  cases (show r = Value.bool b from rz)
  exact wpAny_truthy_bool ⟨.bl (!b), H', I', rfl, q⟩

/-- o[x] -/
def rIxO (C : Addr) (sp : Sp) (E : XK) : R2 := fun x y H Q => ∃ a dx fs, x = .ref a ∧ H a = some (.ins C dx fs) ∧ sp [.ref a, y] H Q E
theorem ix_own (hq : PySem.W.noSeq X.K C = true) (hm : Meth X.K C "__getitem__" f) (F : FnOk X.prog X.w X.K X.mg X.base CX k f fd ps sp) (hr : Room k X.A) (hb : Binds X.K fd ps []) (hx : Passes CX X E) : OpR X getItem (rIxO C sp E) := by
  intro pins s σ H x y v u Q I rx ry h
  obtain ⟨a, dx, fs, rfl, ha, q⟩ := h
  cases (show v = Value.ref a from rx)
  obtain ⟨mA, O, _⟩ := ins_get I.hok ha
  obtain ⟨od, J, _⟩ := O.look
  obtain ⟨m, hF⟩ := I.fr
  exact PySem.W.getItem_K hF I.ok.mod.kin J hq hm.at_ hm.fn (run_here (us := [.ref a, u]) (vs := [.ref a, y]) F hr rfl hb hx I (.cons rfl (.cons ry .nil)) q)

/-- o == p, o != p, both instances, by o's own == -/
def rEqO (K : PySem.W.Frag) (C : Addr) (neg : Bool) (sp : Sp) (E : XK) : R2 := fun x y H Q => ∃ a dx fs b C' dy gs, x = .ref a ∧ y = .ref b ∧ H a = some (.ins C dx fs) ∧ H b = some (.ins C' dy gs) ∧ PySem.W.notFirst K C (.ref C') = true ∧
  sp [x, y] H (fun z H' => ∃ b, z = .bl b ∧ Q (.bl (if neg then !b else b)) H') E
theorem op_eqO (hm : Meth X.K C "__eq__" f) (F : FnOk X.prog X.w X.K X.mg X.base CX k f fd ps sp) (hr : Room k X.A) (hb : Binds X.K fd ps []) (hx : Passes CX X E) : OpR X (compareOp .Eq) (rEqO X.K C false sp E) := by
  intro pins s σ H x y v u Q I rx ry h
  obtain ⟨a, dx, fs, b, C', dy, gs, rfl, rfl, ha, hb', hn, q⟩ := h
  cases (show v = Value.ref a from rx)
  cases (show u = Value.ref b from ry)
  obtain ⟨mA, O, _⟩ := ins_get I.hok ha
  obtain ⟨od, J, _⟩ := O.look
  obtain ⟨mB, O', _⟩ := ins_get I.hok hb'
  obtain ⟨od', J', _⟩ := O'.look
  obtain ⟨m, hF⟩ := I.fr
  show wpAny _ _ (richCompare .Eq (.ref a) (.ref b)) _ _ _
  refine PySem.W.cmp_K (op := .Eq) (tb := .ref C') hr.units0 hF I.ok.mod.kin J J'.type hn hm.at_ hm.fn ?_
  refine wpAny_mono (run_here (us := [.ref a, .ref b]) (vs := [.ref a, .ref b]) F hr rfl hb hx I (.cons rfl (.cons rfl .nil)) q) (fun w s' z => ?_) fun _ _ x => x
  obtain ⟨z', H', I', rz, r, rfl, qz⟩ := z
  cases (show w = Value.bool r from rz)
  exact ⟨.bl r, H', I', rfl, qz⟩
theorem op_neO (hmo : PySem.W.mroIn X.K C (.type "object") = some true) (hne : PySem.W.findIn X.K (.ref C) "__ne__" = some (some (.builtin "object.__ne__"))) (hm : Meth X.K C "__eq__" f) (F : FnOk X.prog X.w X.K X.mg X.base CX k f fd ps sp) (hr : Room (k + 1) X.A)
    (hb : Binds X.K fd ps []) (hx : Passes CX X E) : OpR X (compareOp .NotEq) (rEqO X.K C true sp E) := by
  intro pins s σ H x y v u Q I rx ry h
  obtain ⟨a, dx, fs, b, C', dy, gs, rfl, rfl, ha, hb', hn, q⟩ := h
  cases (show v = Value.ref a from rx)
  cases (show u = Value.ref b from ry)
  obtain ⟨mA, O, _⟩ := ins_get I.hok ha
  obtain ⟨od, J, _⟩ := O.look
  obtain ⟨mB, O', _⟩ := ins_get I.hok hb'
  obtain ⟨od', J', _⟩ := O'.look
  show wpAny _ _ (richCompare .NotEq (.ref a) (.ref b)) _ _ _
  refine RkN.ne_K I.kIn J J'.type hn (by have := hr.units; omega) hmo hm.at_ hm.fn hne ?_
  refine wpAny_mono (run_here (A := X.A.in1) (us := [.ref a, .ref b]) (vs := [.ref a, .ref b]) F hr.in1 rfl hb hx I (.cons rfl (.cons rfl .nil)) q) (fun w s' z => ?_) fun _ _ x => x
  obtain ⟨z', H', I', rz, r, rfl, qz⟩ := z
  cases (show w = Value.bool r from rz)
  exact ⟨r, rfl, .bl (!r), H', I', rfl, qz⟩

/-- an operator by one of two rules -/
def r2or (r r' : R2) : R2 := fun x y H Q => r x y H Q ∨ r' x y H Q
theorem op_or {g : Value → Value → Sem Value} {r r' : R2} (h : OpR X g r) (h' : OpR X g r') : OpR X g (r2or r r') := fun pins s σ H x y v u Q I rx ry q =>
  q.elim (fun q => h pins s σ H x y v u Q I rx ry q) (fun q => h' pins s σ H x y v u Q I rx ry q)
def rcor (r r' : List V → Hp → VK → Prop) : List V → Hp → VK → Prop := fun xs H Q => r xs H Q ∨ r' xs H Q
theorem call_or {g : Value} {r r' : List V → Hp → VK → Prop} (h : CallR X g r) (h' : CallR X g r') : CallR X g (rcor r r') := fun pins s σ H xs us Q I rx q =>
  q.elim (fun q => h pins s σ H xs us Q I rx q) (fun q => h' pins s σ H xs us Q I rx q)
/-- an expression by one of two rules: which is known from the arguments' reading -/
def teor (t t' : TE) : TE := fun σ H Q => t σ H Q ∨ t' σ H Q
theorem pe_or2 {e : Expr} {t t' : TE} (h : PE X e t) (h' : PE X e t') : PE X e (teor t t') :=
  ⟨fun pins s σ H Q I q => q.elim (fun q => h.run pins s σ H Q I q) (fun q => h'.run pins s σ H Q I q)⟩
end RkO
namespace RkO
open PySem PySem.Spec PyProof.Rows L2
variable {X : Cx} {K : PySem.W.Frag}
/-- within a comprehension's block: the written part by its own name -/
theorem pi_listK {tg e : Expr} {tl : TE} (hK : X.K = K) (h : PE X e tl) : PI X tg e (iList K tl) := by
  subst hK
  exact pi_list h
theorem pe_fldK {o : Expr} {to : TE} {f : Str} {pos : Pos} (hK : X.K = K) (h : PE X (.Attribute o f pos) (tFld X.K to f)) : PE X (.Attribute o f pos) (tFld K to f) := by
  subst hK
  exact h
theorem pe_K {e : Expr} {t : PySem.W.Frag → TE} (hK : X.K = K) (h : PE X e (t X.K)) : PE X e (t K) := by
  subst hK
  exact h
theorem pt_K {e : Expr} {t : PySem.W.Frag → TT} (hK : X.K = K) (h : PT X e (t X.K)) : PT X e (t K) := by
  subst hK
  exact h
end RkO
set_option Elab.async false
set_option linter.all false
set_option maxRecDepth 100000
set_option maxHeartbeats 4000000
namespace Rk
open PySem PySem.Spec PyProof.Rows L2
theorem kit_type {K : PySem.W.Frag} {A : Addr} {b : String} (m : PySem.W.kitMeta b = true) (h : PySem.W.subIn K (.ref A) (.type b) = some false) : PySem.W.kitOne K (.ref A) (.type b) = some false := by
  unfold PySem.W.kitOne
  rw [if_neg (by intro z; cases eq_of_beq z)]
  show (if PySem.W.kitMeta b = true then _ else _) = _
  rw [if_pos m]
  exact h
theorem kit_ref {K : PySem.W.Frag} {A B : Addr} (n : A ≠ B) (c : PySem.W.isClsIn K B = true) (t : PySem.W.typeIn K (.ref B) = some (.type "type")) (h : PySem.W.subIn K (.ref A) (.ref B) = some false) : PySem.W.kitOne K (.ref A) (.ref B) = some false := by
  unfold PySem.W.kitOne
  rw [if_neg (by intro z; exact n (Value.ref.inj (eq_of_beq z)))]
  show (if ((PySem.W.clsIn K B).isSome && PySem.W.typeIn K (.ref B) == some (.type "type")) = true then _ else _) = _
  rw [if_pos (by rw [t]; exact Bool.and_eq_true_iff.mpr ⟨c, beq_self_eq_true _⟩)]
  exact h
theorem exm_self {K : PySem.W.Frag} {S : Addr} (h1 : PySem.W.subIn K (.ref S) (.type "BaseException") = some true) (h2 : PySem.W.isClsIn K S = true) (h3 : PySem.W.typeIn K (.ref S) = some (.type "type")) (h4 : PySem.W.subIn K (.ref S) (.ref S) = some true) : PySem.W.exmOne K (.ref S) (.ref S) = some true := by
  have h2' : (PySem.W.clsIn K S).isSome = true := h2
  show (if (PySem.W.subIn K (.ref S) (.type "BaseException") == some true) = true then (if ((PySem.W.clsIn K S).isSome && PySem.W.typeIn K (.ref S) == some (.type "type")) = true then PySem.W.subIn K (.ref S) (.ref S) else none) else none) = some true
  rw [if_pos (by rw [h1]; rfl), if_pos (by rw [h2', h3]; rfl)]
  exact h4
theorem exm_no {K : PySem.W.Frag} {S D : Addr} (h1 : PySem.W.subIn K (.ref S) (.type "BaseException") = some true) (d1 : PySem.W.subIn K (.ref D) (.type "BaseException") = some true) (h2 : PySem.W.isClsIn K D = true) (h3 : PySem.W.typeIn K (.ref D) = some (.type "type")) (h4 : PySem.W.subIn K (.ref S) (.ref D) = some false) : PySem.W.exmOne K (.ref S) (.ref D) = some false := by
  have h2' : (PySem.W.clsIn K D).isSome = true := h2
  show (if (PySem.W.subIn K (.ref D) (.type "BaseException") == some true) = true then (if ((PySem.W.clsIn K D).isSome && PySem.W.typeIn K (.ref D) == some (.type "type")) = true then PySem.W.subIn K (.ref S) (.ref D) else none) else none) = some false
  rw [if_pos (by rw [d1]; rfl), if_pos (by rw [h2', h3]; rfl)]
  exact h4
theorem kit_bref {K : PySem.W.Frag} {b : String} {B : Addr} (c : PySem.W.isClsIn K B = true) (t : PySem.W.typeIn K (.ref B) = some (.type "type")) (h : PySem.W.subIn K (.type b) (.ref B) = some false) : PySem.W.kitOne K (.type b) (.ref B) = some false := by
  unfold PySem.W.kitOne
  rw [if_neg (by intro z; cases eq_of_beq z)]
  show (if ((PySem.W.clsIn K B).isSome && PySem.W.typeIn K (.ref B) == some (.type "type")) = true then _ else _) = _
  rw [if_pos (by rw [t]; exact Bool.and_eq_true_iff.mpr ⟨c, beq_self_eq_true _⟩)]
  exact h
def top (i : Nat) : Stmt := PySem.Challenge.pw_rankpicks_k22_orders_for_ranks.main.body.getD i (.Pass ⟨0, 0, 0, 0⟩)
abbrev s_is_whole : Stmt := top 2
theorem sc_is_whole : FnScope ["value"] ["value"] (defScope s_is_whole) := ⟨rfl, rfl, rfl, by decide +kernel, rfl, by decide +kernel, by decide +kernel⟩
abbrev s_is_name : Stmt := top 3
theorem sc_is_name : FnScope ["value", "letter"] ["value"] (defScope s_is_name) := ⟨rfl, rfl, rfl, by decide +kernel, rfl, by decide +kernel, by decide +kernel⟩
abbrev s_are_names : Stmt := top 4
theorem sc_are_names : FnScope ["value", "item"] ["value"] (defScope s_are_names) := ⟨rfl, rfl, rfl, by decide +kernel, rfl, by decide +kernel, by decide +kernel⟩
abbrev s_InvalidName_init : Stmt := inClass (top 7) 0
theorem sc_InvalidName_init : FnScope ["self", "value"] ["self", "value"] (defScope s_InvalidName_init) := ⟨rfl, rfl, rfl, by decide +kernel, rfl, by decide +kernel, by decide +kernel⟩
abbrev s_InvalidNumber_init : Stmt := inClass (top 8) 0
theorem sc_InvalidNumber_init : FnScope ["self", "value"] ["self", "value"] (defScope s_InvalidNumber_init) := ⟨rfl, rfl, rfl, by decide +kernel, rfl, by decide +kernel, by decide +kernel⟩
abbrev s_InvalidTree_init : Stmt := inClass (top 9) 0
theorem sc_InvalidTree_init : FnScope ["self", "value"] ["self", "value"] (defScope s_InvalidTree_init) := ⟨rfl, rfl, rfl, by decide +kernel, rfl, by decide +kernel, by decide +kernel⟩
abbrev s_InvalidList_init : Stmt := inClass (top 10) 0
theorem sc_InvalidList_init : FnScope ["self", "value"] ["self", "value"] (defScope s_InvalidList_init) := ⟨rfl, rfl, rfl, by decide +kernel, rfl, by decide +kernel, by decide +kernel⟩
abbrev s_Tree_init : Stmt := inClass (top 12) 0
theorem sc_Tree_init : FnScope ["self"] ["self"] (defScope s_Tree_init) := ⟨rfl, rfl, rfl, by decide +kernel, rfl, by decide +kernel, by decide +kernel⟩
abbrev s_Leaf_init : Stmt := inClass (top 13) 0
theorem sc_Leaf_init : FnScope ["self", "name"] ["self", "name"] (defScope s_Leaf_init) := ⟨rfl, rfl, rfl, by decide +kernel, rfl, by decide +kernel, by decide +kernel⟩
abbrev s_Leaf_name : Stmt := inClass (top 13) 1
theorem sc_Leaf_name : FnScope ["self"] ["self"] (defScope s_Leaf_name) := ⟨rfl, rfl, rfl, by decide +kernel, rfl, by decide +kernel, by decide +kernel⟩
abbrev s_Leaf_width : Stmt := inClass (top 13) 2
theorem sc_Leaf_width : FnScope ["self"] ["self"] (defScope s_Leaf_width) := ⟨rfl, rfl, rfl, by decide +kernel, rfl, by decide +kernel, by decide +kernel⟩
abbrev s_Leaf_len : Stmt := inClass (top 13) 3
theorem sc_Leaf_len : FnScope ["self"] ["self"] (defScope s_Leaf_len) := ⟨rfl, rfl, rfl, by decide +kernel, rfl, by decide +kernel, by decide +kernel⟩
abbrev s_Leaf_contains : Stmt := inClass (top 13) 4
theorem sc_Leaf_contains : FnScope ["self", "name"] ["self", "name"] (defScope s_Leaf_contains) := ⟨rfl, rfl, rfl, by decide +kernel, rfl, by decide +kernel, by decide +kernel⟩
abbrev s_Leaf_eq : Stmt := inClass (top 13) 5
theorem sc_Leaf_eq : FnScope ["self", "other"] ["self", "other"] (defScope s_Leaf_eq) := ⟨rfl, rfl, rfl, by decide +kernel, rfl, by decide +kernel, by decide +kernel⟩
abbrev s_Leaf_names : Stmt := inClass (top 13) 6
theorem sc_Leaf_names : FnScope ["self"] ["self"] (defScope s_Leaf_names) := ⟨rfl, rfl, rfl, by decide +kernel, rfl, by decide +kernel, by decide +kernel⟩
abbrev s_Leaf_passes : Stmt := inClass (top 13) 7
theorem sc_Leaf_passes : FnScope ["self", "names"] ["self", "names"] (defScope s_Leaf_passes) := ⟨rfl, rfl, rfl, by decide +kernel, rfl, by decide +kernel, by decide +kernel⟩
abbrev s_Leaf_nodes : Stmt := inClass (top 13) 8
theorem sc_Leaf_nodes : FnScope ["self"] ["self"] (defScope s_Leaf_nodes) := ⟨rfl, rfl, rfl, by decide +kernel, rfl, by decide +kernel, by decide +kernel⟩
abbrev s_Leaf_mirror : Stmt := inClass (top 13) 9
theorem sc_Leaf_mirror : FnScope ["self"] ["self"] (defScope s_Leaf_mirror) := ⟨rfl, rfl, rfl, by decide +kernel, rfl, by decide +kernel, by decide +kernel⟩
abbrev s_Leaf__low_ends : Stmt := inClass (top 13) 12
theorem sc_Leaf__low_ends : FnScope ["self", "low"] ["self", "low"] (defScope s_Leaf__low_ends) := ⟨rfl, rfl, rfl, by decide +kernel, rfl, by decide +kernel, by decide +kernel⟩
abbrev s_Group_init : Stmt := inClass (top 14) 0
theorem sc_Group_init : FnScope ["self", "ranks", "parts"] ["self", "ranks", "parts"] (defScope s_Group_init) := ⟨rfl, rfl, rfl, by decide +kernel, rfl, by decide +kernel, by decide +kernel⟩
abbrev s_Group_ranks : Stmt := inClass (top 14) 1
theorem sc_Group_ranks : FnScope ["self"] ["self"] (defScope s_Group_ranks) := ⟨rfl, rfl, rfl, by decide +kernel, rfl, by decide +kernel, by decide +kernel⟩
abbrev s_Group_parts : Stmt := inClass (top 14) 2
theorem sc_Group_parts : FnScope ["self"] ["self"] (defScope s_Group_parts) := ⟨rfl, rfl, rfl, by decide +kernel, rfl, by decide +kernel, by decide +kernel⟩
abbrev s_Group_intake : Stmt := inClass (top 14) 3
theorem sc_Group_intake : FnScope ["self"] ["self"] (defScope s_Group_intake) := ⟨rfl, rfl, rfl, by decide +kernel, rfl, by decide +kernel, by decide +kernel⟩
abbrev s_Group_width : Stmt := inClass (top 14) 4
theorem sc_Group_width : FnScope ["self"] ["self"] (defScope s_Group_width) := ⟨rfl, rfl, rfl, by decide +kernel, rfl, by decide +kernel, by decide +kernel⟩
abbrev s_Group_len : Stmt := inClass (top 14) 5
theorem sc_Group_len : FnScope ["self"] ["self"] (defScope s_Group_len) := ⟨rfl, rfl, rfl, by decide +kernel, rfl, by decide +kernel, by decide +kernel⟩
abbrev s_Group_contains : Stmt := inClass (top 14) 6
theorem sc_Group_contains : FnScope ["self", "name"] ["self", "name"] (defScope s_Group_contains) := ⟨rfl, rfl, rfl, by decide +kernel, rfl, by decide +kernel, by decide +kernel⟩
abbrev s_Group_eq : Stmt := inClass (top 14) 7
theorem sc_Group_eq : FnScope ["self", "other"] ["self", "other"] (defScope s_Group_eq) := ⟨rfl, rfl, rfl, by decide +kernel, rfl, by decide +kernel, by decide +kernel⟩
abbrev s_Group_getitem : Stmt := inClass (top 14) 8
theorem sc_Group_getitem : FnScope ["self", "k"] ["self", "k"] (defScope s_Group_getitem) := ⟨rfl, rfl, rfl, by decide +kernel, rfl, by decide +kernel, by decide +kernel⟩
abbrev s_Group_iter : Stmt := inClass (top 14) 9
theorem sc_Group_iter : FnScope ["self"] ["self"] (defScope s_Group_iter) := ⟨rfl, rfl, rfl, by decide +kernel, rfl, by decide +kernel, by decide +kernel⟩
abbrev s_Group_names : Stmt := inClass (top 14) 10
theorem sc_Group_names : FnScope ["self"] ["self"] (defScope s_Group_names) := ⟨rfl, rfl, rfl, by decide +kernel, rfl, by decide +kernel, by decide +kernel⟩
abbrev s_Group_passes : Stmt := inClass (top 14) 11
theorem sc_Group_passes : FnScope ["self", "names"] ["self", "names"] (defScope s_Group_passes) := ⟨rfl, rfl, rfl, by decide +kernel, rfl, by decide +kernel, by decide +kernel⟩
abbrev s_Group_nodes : Stmt := inClass (top 14) 12
theorem sc_Group_nodes : FnScope ["self", "part", "node"] ["self"] (defScope s_Group_nodes) := ⟨rfl, rfl, rfl, by decide +kernel, rfl, by decide +kernel, by decide +kernel⟩
abbrev s_Group_mirror : Stmt := inClass (top 14) 13
theorem sc_Group_mirror : FnScope ["self", "ranks", "rank", "part"] ["self"] (defScope s_Group_mirror) := ⟨rfl, rfl, rfl, by decide +kernel, rfl, by decide +kernel, by decide +kernel⟩
abbrev s_Group__low_ends : Stmt := inClass (top 14) 16
theorem sc_Group__low_ends : FnScope ["self", "low", "taken", "part", "rank"] ["self", "low"] (defScope s_Group__low_ends) := ⟨rfl, rfl, rfl, by decide +kernel, rfl, by decide +kernel, by decide +kernel⟩
abbrev s_is_tree : Stmt := top 15
theorem sc_is_tree : FnScope ["value"] ["value"] (defScope s_is_tree) := ⟨rfl, rfl, rfl, by decide +kernel, rfl, by decide +kernel, by decide +kernel⟩
abbrev s_is_end : Stmt := top 16
theorem sc_is_end : FnScope ["tree", "j"] ["tree", "j"] (defScope s_is_end) := ⟨rfl, rfl, rfl, by decide +kernel, rfl, by decide +kernel, by decide +kernel⟩
abbrev s_check_end : Stmt := top 17
theorem sc_check_end : FnScope ["tree", "j"] ["tree", "j"] (defScope s_check_end) := ⟨rfl, rfl, rfl, by decide +kernel, rfl, by decide +kernel, by decide +kernel⟩
abbrev s_are_parts : Stmt := top 18
theorem sc_are_parts : FnScope ["value", "part"] ["value"] (defScope s_are_parts) := ⟨rfl, rfl, rfl, by decide +kernel, rfl, by decide +kernel, by decide +kernel⟩
abbrev s_are_ranks : Stmt := top 19
theorem sc_are_ranks : FnScope ["value", "intake", "ascending", "rank", "low", "high"] ["value", "intake"] (defScope s_are_ranks) := ⟨rfl, rfl, rfl, by decide +kernel, rfl, by decide +kernel, by decide +kernel⟩
abbrev s_intake_of : Stmt := top 20
theorem sc_intake_of : FnScope ["parts", "part"] ["parts"] (defScope s_intake_of) := ⟨rfl, rfl, rfl, by decide +kernel, rfl, by decide +kernel, by decide +kernel⟩
abbrev s_names_of : Stmt := top 21
theorem sc_names_of : FnScope ["parts", "part", "name"] ["parts"] (defScope s_names_of) := ⟨rfl, rfl, rfl, by decide +kernel, rfl, by decide +kernel, by decide +kernel⟩
abbrev s_are_leaves : Stmt := top 22
theorem sc_are_leaves : FnScope ["tree", "names", "name"] ["tree", "names"] (defScope s_are_leaves) := ⟨rfl, rfl, rfl, by decide +kernel, rfl, by decide +kernel, by decide +kernel⟩
abbrev s_least_rank : Stmt := top 24
theorem sc_least_rank : FnScope ["tree", "j"] ["tree", "j"] (defScope s_least_rank) := ⟨rfl, rfl, rfl, by decide +kernel, rfl, by decide +kernel, by decide +kernel⟩
abbrev s_greatest_rank : Stmt := top 25
theorem sc_greatest_rank : FnScope ["tree", "j", "high"] ["tree", "j"] (defScope s_greatest_rank) := ⟨rfl, rfl, rfl, by decide +kernel, rfl, by decide +kernel, by decide +kernel⟩
abbrev s_low_names : Stmt := top 26
theorem sc_low_names : FnScope ["tree", "j"] ["tree", "j"] (defScope s_low_names) := ⟨rfl, rfl, rfl, by decide +kernel, rfl, by decide +kernel, by decide +kernel⟩
abbrev s_high_names : Stmt := top 27
theorem sc_high_names : FnScope ["tree", "j"] ["tree", "j"] (defScope s_high_names) := ⟨rfl, rfl, rfl, by decide +kernel, rfl, by decide +kernel, by decide +kernel⟩
abbrev s_fewest : Stmt := top 28
theorem sc_fewest : FnScope ["tree", "within", "taken", "lists", "passed", "part", "sums", "rank", "nodes", "node"] ["tree"] (defScope s_fewest) := ⟨rfl, rfl, rfl, by decide +kernel, rfl, by decide +kernel, by decide +kernel⟩
abbrev s_sums_by_place : Stmt := top 29
theorem sc_sums_by_place : FnScope ["one", "other", "found", "at", "item", "beside", "more", "_"] ["one", "other"] (defScope s_sums_by_place) := ⟨rfl, rfl, rfl, by decide +kernel, rfl, by decide +kernel, by decide +kernel⟩
abbrev s_rank_span : Stmt := top 31
theorem sc_rank_span : FnScope ["tree", "j"] ["tree", "j"] (defScope s_rank_span) := ⟨rfl, rfl, rfl, by decide +kernel, rfl, by decide +kernel, by decide +kernel⟩
abbrev s_order_at : Stmt := top 32
theorem sc_order_at : FnScope ["tree", "rank", "j", "low", "high", "enough", "too_few", "first", "name"] ["tree", "rank", "j"] (defScope s_order_at) := ⟨rfl, rfl, rfl, by decide +kernel, rfl, by decide +kernel, by decide +kernel⟩
abbrev s_up_to_turn : Stmt := top 33
theorem sc_up_to_turn : FnScope ["tree", "j", "enough", "too_few", "both", "leaving", "coming", "at", "name"] ["tree", "j", "enough", "too_few"] (defScope s_up_to_turn) := ⟨rfl, rfl, rfl, by decide +kernel, rfl, by decide +kernel, by decide +kernel⟩
abbrev s_law_well : Stmt := top 35
theorem sc_law_well : FnScope ["script", "at", "cell", "great", "left", "right", "poured", "turn"] ["script", "at"] (defScope s_law_well) := ⟨rfl, rfl, rfl, by decide +kernel, rfl, by decide +kernel, by decide +kernel⟩
abbrev s_law_dip : Stmt := top 36
theorem sc_law_dip : FnScope ["well", "many", "digit"] ["well", "many"] (defScope s_law_dip) := ⟨rfl, rfl, rfl, by decide +kernel, rfl, by decide +kernel, by decide +kernel⟩
abbrev s_law_words : Stmt := top 37
theorem sc_law_words : FnScope ["well", "many", "found", "turn", "size", "word", "k"] ["well", "many"] (defScope s_law_words) := ⟨rfl, rfl, rfl, by decide +kernel, rfl, by decide +kernel, by decide +kernel⟩
abbrev s_law_ranks : Stmt := top 38
theorem sc_law_ranks : FnScope ["well", "intake", "way", "one", "others", "rank"] ["well", "intake"] (defScope s_law_ranks) := ⟨rfl, rfl, rfl, by decide +kernel, rfl, by decide +kernel, by decide +kernel⟩
abbrev s_law_width : Stmt := top 39
theorem sc_law_width : FnScope ["tree"] ["tree"] (defScope s_law_width) := ⟨rfl, rfl, rfl, by decide +kernel, rfl, by decide +kernel, by decide +kernel⟩
abbrev s_law_group : Stmt := top 40
theorem sc_law_group : FnScope ["well", "parts", "part"] ["well", "parts"] (defScope s_law_group) := ⟨rfl, rfl, rfl, by decide +kernel, rfl, by decide +kernel, by decide +kernel⟩
abbrev s_law_tree : Stmt := top 41
theorem sc_law_tree : FnScope ["well", "names", "depth", "parts", "rest", "turn", "size", "name"] ["well", "names", "depth"] (defScope s_law_tree) := ⟨rfl, rfl, rfl, by decide +kernel, rfl, by decide +kernel, by decide +kernel⟩
abbrev s_law_made : Stmt := top 44
theorem sc_law_made : FnScope ["tree", "part"] ["tree"] (defScope s_law_made) := ⟨rfl, rfl, rfl, by decide +kernel, rfl, by decide +kernel, by decide +kernel⟩
abbrev s_law_ends : Stmt := top 45
theorem sc_law_ends : FnScope ["tree", "worths", "taken", "part", "rank"] ["tree", "worths"] (defScope s_law_ends) := ⟨rfl, rfl, rfl, by decide +kernel, rfl, by decide +kernel, by decide +kernel⟩
abbrev s_law_right : Stmt := top 48
theorem sc_law_right : FnScope ["made", "tree", "names", "rank", "k", "order", "span", "worths", "name"] ["made", "tree", "names", "rank", "k"] (defScope s_law_right) := ⟨rfl, rfl, rfl, by decide +kernel, rfl, by decide +kernel, by decide +kernel⟩
abbrev s_law : Stmt := top 49
theorem sc_law : FnScope ["script", "well", "names", "tree", "made", "k", "rank"] ["script"] (defScope s_law) := ⟨rfl, rfl, rfl, by decide +kernel, rfl, by decide +kernel, by decide +kernel⟩
structure Txt (K : PySem.W.Frag) (mg : Str → Option Value) where
  m_len : mg "len" = none
  m_int : mg "int" = none
  m_range : mg "range" = none
  m_sum : mg "sum" = none
  m_all : mg "all" = none
  m_isinstance : mg "isinstance" = none
  m_sorted : mg "sorted" = none
  m_list : mg "list" = none
  m_set : mg "set" = none
  m_zip : mg "zip" = none
  m_bool : mg "bool" = none
  m_str : mg "str" = none
  m_min : mg "min" = none
  m_enumerate : mg "enumerate" = none
  m_TypeError : mg "TypeError" = none
  m_ValueError : mg "ValueError" = none
  a_RankError : Addr
  m_RankError : mg "RankError" = some (.ref a_RankError)
  a_InvalidName : Addr
  m_InvalidName : mg "InvalidName" = some (.ref a_InvalidName)
  a_InvalidNumber : Addr
  m_InvalidNumber : mg "InvalidNumber" = some (.ref a_InvalidNumber)
  a_InvalidTree : Addr
  m_InvalidTree : mg "InvalidTree" = some (.ref a_InvalidTree)
  a_InvalidList : Addr
  m_InvalidList : mg "InvalidList" = some (.ref a_InvalidList)
  a_Tree : Addr
  m_Tree : mg "Tree" = some (.ref a_Tree)
  a_Leaf : Addr
  m_Leaf : mg "Leaf" = some (.ref a_Leaf)
  a_Group : Addr
  m_Group : mg "Group" = some (.ref a_Group)
  f_Leaf_init : Addr
  d_Leaf_init : FuncData
  F_Leaf_init : Fun K "__init__" "Leaf.__init__" s_Leaf_init f_Leaf_init d_Leaf_init
  b_Leaf_init : Binds K d_Leaf_init ["self", "name"] []
  M_Leaf_init : Meth K a_Leaf "__init__" f_Leaf_init
  f_Leaf_name : Addr
  d_Leaf_name : FuncData
  p_Leaf_name : Addr
  P_Leaf_name : PropOf K a_Leaf "name" p_Leaf_name f_Leaf_name
  F_Leaf_name : Fun K "name" "Leaf.name" s_Leaf_name f_Leaf_name d_Leaf_name
  b_Leaf_name : Binds K d_Leaf_name ["self"] []
  f_Leaf_width : Addr
  d_Leaf_width : FuncData
  p_Leaf_width : Addr
  P_Leaf_width : PropOf K a_Leaf "width" p_Leaf_width f_Leaf_width
  F_Leaf_width : Fun K "width" "Leaf.width" s_Leaf_width f_Leaf_width d_Leaf_width
  b_Leaf_width : Binds K d_Leaf_width ["self"] []
  f_Leaf_len : Addr
  d_Leaf_len : FuncData
  F_Leaf_len : Fun K "__len__" "Leaf.__len__" s_Leaf_len f_Leaf_len d_Leaf_len
  b_Leaf_len : Binds K d_Leaf_len ["self"] []
  M_Leaf_len : Meth K a_Leaf "__len__" f_Leaf_len
  f_Leaf_contains : Addr
  d_Leaf_contains : FuncData
  F_Leaf_contains : Fun K "__contains__" "Leaf.__contains__" s_Leaf_contains f_Leaf_contains d_Leaf_contains
  b_Leaf_contains : Binds K d_Leaf_contains ["self", "name"] []
  M_Leaf_contains : Meth K a_Leaf "__contains__" f_Leaf_contains
  f_Leaf_eq : Addr
  d_Leaf_eq : FuncData
  F_Leaf_eq : Fun K "__eq__" "Leaf.__eq__" s_Leaf_eq f_Leaf_eq d_Leaf_eq
  b_Leaf_eq : Binds K d_Leaf_eq ["self", "other"] []
  M_Leaf_eq : Meth K a_Leaf "__eq__" f_Leaf_eq
  f_Leaf_names : Addr
  d_Leaf_names : FuncData
  F_Leaf_names : Fun K "names" "Leaf.names" s_Leaf_names f_Leaf_names d_Leaf_names
  b_Leaf_names : Binds K d_Leaf_names ["self"] []
  M_Leaf_names : Meth K a_Leaf "names" f_Leaf_names
  f_Leaf_passes : Addr
  d_Leaf_passes : FuncData
  F_Leaf_passes : Fun K "passes" "Leaf.passes" s_Leaf_passes f_Leaf_passes d_Leaf_passes
  b_Leaf_passes : Binds K d_Leaf_passes ["self", "names"] []
  M_Leaf_passes : Meth K a_Leaf "passes" f_Leaf_passes
  f_Leaf_nodes : Addr
  d_Leaf_nodes : FuncData
  F_Leaf_nodes : Fun K "nodes" "Leaf.nodes" s_Leaf_nodes f_Leaf_nodes d_Leaf_nodes
  b_Leaf_nodes : Binds K d_Leaf_nodes ["self"] []
  M_Leaf_nodes : Meth K a_Leaf "nodes" f_Leaf_nodes
  f_Leaf_mirror : Addr
  d_Leaf_mirror : FuncData
  F_Leaf_mirror : Fun K "mirror" "Leaf.mirror" s_Leaf_mirror f_Leaf_mirror d_Leaf_mirror
  b_Leaf_mirror : Binds K d_Leaf_mirror ["self"] []
  M_Leaf_mirror : Meth K a_Leaf "mirror" f_Leaf_mirror
  f_Leaf__low_ends : Addr
  d_Leaf__low_ends : FuncData
  F_Leaf__low_ends : Fun K "_low_ends" "Leaf._low_ends" s_Leaf__low_ends f_Leaf__low_ends d_Leaf__low_ends
  b_Leaf__low_ends : Binds K d_Leaf__low_ends ["self", "low"] []
  M_Leaf__low_ends : Meth K a_Leaf "_low_ends" f_Leaf__low_ends
  c_Leaf : Cls K a_Leaf
  M_Leaf : Mk K a_Leaf f_Leaf_init
  ca_Leaf : PySem.W.findIn K (.ref a_Leaf) "__class__" = some (some (.builtin "object.__class__"))
  mo_Leaf : PySem.W.mroIn K a_Leaf (.type "object") = some true
  ne_Leaf : PySem.W.findIn K (.ref a_Leaf) "__ne__" = some (some (.builtin "object.__ne__"))
  n_Leaf_name : NoAttr K a_Leaf "_name"
  f_Group_init : Addr
  d_Group_init : FuncData
  F_Group_init : Fun K "__init__" "Group.__init__" s_Group_init f_Group_init d_Group_init
  b_Group_init : Binds K d_Group_init ["self", "ranks", "parts"] []
  M_Group_init : Meth K a_Group "__init__" f_Group_init
  f_Group_ranks : Addr
  d_Group_ranks : FuncData
  p_Group_ranks : Addr
  P_Group_ranks : PropOf K a_Group "ranks" p_Group_ranks f_Group_ranks
  F_Group_ranks : Fun K "ranks" "Group.ranks" s_Group_ranks f_Group_ranks d_Group_ranks
  b_Group_ranks : Binds K d_Group_ranks ["self"] []
  f_Group_parts : Addr
  d_Group_parts : FuncData
  p_Group_parts : Addr
  P_Group_parts : PropOf K a_Group "parts" p_Group_parts f_Group_parts
  F_Group_parts : Fun K "parts" "Group.parts" s_Group_parts f_Group_parts d_Group_parts
  b_Group_parts : Binds K d_Group_parts ["self"] []
  f_Group_intake : Addr
  d_Group_intake : FuncData
  p_Group_intake : Addr
  P_Group_intake : PropOf K a_Group "intake" p_Group_intake f_Group_intake
  F_Group_intake : Fun K "intake" "Group.intake" s_Group_intake f_Group_intake d_Group_intake
  b_Group_intake : Binds K d_Group_intake ["self"] []
  f_Group_width : Addr
  d_Group_width : FuncData
  p_Group_width : Addr
  P_Group_width : PropOf K a_Group "width" p_Group_width f_Group_width
  F_Group_width : Fun K "width" "Group.width" s_Group_width f_Group_width d_Group_width
  b_Group_width : Binds K d_Group_width ["self"] []
  f_Group_len : Addr
  d_Group_len : FuncData
  F_Group_len : Fun K "__len__" "Group.__len__" s_Group_len f_Group_len d_Group_len
  b_Group_len : Binds K d_Group_len ["self"] []
  M_Group_len : Meth K a_Group "__len__" f_Group_len
  f_Group_contains : Addr
  d_Group_contains : FuncData
  F_Group_contains : Fun K "__contains__" "Group.__contains__" s_Group_contains f_Group_contains d_Group_contains
  b_Group_contains : Binds K d_Group_contains ["self", "name"] []
  M_Group_contains : Meth K a_Group "__contains__" f_Group_contains
  f_Group_eq : Addr
  d_Group_eq : FuncData
  F_Group_eq : Fun K "__eq__" "Group.__eq__" s_Group_eq f_Group_eq d_Group_eq
  b_Group_eq : Binds K d_Group_eq ["self", "other"] []
  M_Group_eq : Meth K a_Group "__eq__" f_Group_eq
  f_Group_getitem : Addr
  d_Group_getitem : FuncData
  F_Group_getitem : Fun K "__getitem__" "Group.__getitem__" s_Group_getitem f_Group_getitem d_Group_getitem
  b_Group_getitem : Binds K d_Group_getitem ["self", "k"] []
  M_Group_getitem : Meth K a_Group "__getitem__" f_Group_getitem
  f_Group_iter : Addr
  d_Group_iter : FuncData
  F_Group_iter : Fun K "__iter__" "Group.__iter__" s_Group_iter f_Group_iter d_Group_iter
  b_Group_iter : Binds K d_Group_iter ["self"] []
  M_Group_iter : Meth K a_Group "__iter__" f_Group_iter
  f_Group_names : Addr
  d_Group_names : FuncData
  F_Group_names : Fun K "names" "Group.names" s_Group_names f_Group_names d_Group_names
  b_Group_names : Binds K d_Group_names ["self"] []
  M_Group_names : Meth K a_Group "names" f_Group_names
  f_Group_passes : Addr
  d_Group_passes : FuncData
  F_Group_passes : Fun K "passes" "Group.passes" s_Group_passes f_Group_passes d_Group_passes
  b_Group_passes : Binds K d_Group_passes ["self", "names"] []
  M_Group_passes : Meth K a_Group "passes" f_Group_passes
  f_Group_nodes : Addr
  d_Group_nodes : FuncData
  F_Group_nodes : Fun K "nodes" "Group.nodes" s_Group_nodes f_Group_nodes d_Group_nodes
  b_Group_nodes : Binds K d_Group_nodes ["self"] []
  M_Group_nodes : Meth K a_Group "nodes" f_Group_nodes
  f_Group_mirror : Addr
  d_Group_mirror : FuncData
  F_Group_mirror : Fun K "mirror" "Group.mirror" s_Group_mirror f_Group_mirror d_Group_mirror
  b_Group_mirror : Binds K d_Group_mirror ["self"] []
  M_Group_mirror : Meth K a_Group "mirror" f_Group_mirror
  f_Group__low_ends : Addr
  d_Group__low_ends : FuncData
  F_Group__low_ends : Fun K "_low_ends" "Group._low_ends" s_Group__low_ends f_Group__low_ends d_Group__low_ends
  b_Group__low_ends : Binds K d_Group__low_ends ["self", "low"] []
  M_Group__low_ends : Meth K a_Group "_low_ends" f_Group__low_ends
  c_Group : Cls K a_Group
  M_Group : Mk K a_Group f_Group_init
  ca_Group : PySem.W.findIn K (.ref a_Group) "__class__" = some (some (.builtin "object.__class__"))
  mo_Group : PySem.W.mroIn K a_Group (.type "object") = some true
  ne_Group : PySem.W.findIn K (.ref a_Group) "__ne__" = some (some (.builtin "object.__ne__"))
  n_Group_intake : NoAttr K a_Group "_intake"
  n_Group_names : NoAttr K a_Group "_names"
  n_Group_parts : NoAttr K a_Group "_parts"
  n_Group_ranks : NoAttr K a_Group "_ranks"
  gc : PySem.W.specialIn K (.builtin "object.__class__") "__get__" = some (some (.builtin "getset_descriptor.__get__"))
  tc : PySem.W.takesIn K (.builtin "object.__class__") = some true
  q_Group : PySem.W.noSeq K a_Group = true
  is_Leaf_Group : PySem.W.kitOne K (.ref a_Leaf) (.ref a_Group) = some false
  is_Leaf_list : PySem.W.kitOne K (.ref a_Leaf) (.type "list") = some false
  is_Leaf_int : PySem.W.kitOne K (.ref a_Leaf) (.type "int") = some false
  is_Leaf_bool : PySem.W.kitOne K (.ref a_Leaf) (.type "bool") = some false
  is_Leaf_str : PySem.W.kitOne K (.ref a_Leaf) (.type "str") = some false
  ib_NoneType_Leaf : PySem.W.kitOne K (.type "NoneType") (.ref a_Leaf) = some false
  ib_int_Leaf : PySem.W.kitOne K (.type "int") (.ref a_Leaf) = some false
  ib_bool_Leaf : PySem.W.kitOne K (.type "bool") (.ref a_Leaf) = some false
  ib_str_Leaf : PySem.W.kitOne K (.type "str") (.ref a_Leaf) = some false
  ib_list_Leaf : PySem.W.kitOne K (.type "list") (.ref a_Leaf) = some false
  ib_tuple_Leaf : PySem.W.kitOne K (.type "tuple") (.ref a_Leaf) = some false
  ib_dict_Leaf : PySem.W.kitOne K (.type "dict") (.ref a_Leaf) = some false
  is_Group_Leaf : PySem.W.kitOne K (.ref a_Group) (.ref a_Leaf) = some false
  is_Group_list : PySem.W.kitOne K (.ref a_Group) (.type "list") = some false
  is_Group_int : PySem.W.kitOne K (.ref a_Group) (.type "int") = some false
  is_Group_bool : PySem.W.kitOne K (.ref a_Group) (.type "bool") = some false
  is_Group_str : PySem.W.kitOne K (.ref a_Group) (.type "str") = some false
  ib_NoneType_Group : PySem.W.kitOne K (.type "NoneType") (.ref a_Group) = some false
  ib_int_Group : PySem.W.kitOne K (.type "int") (.ref a_Group) = some false
  ib_bool_Group : PySem.W.kitOne K (.type "bool") (.ref a_Group) = some false
  ib_str_Group : PySem.W.kitOne K (.type "str") (.ref a_Group) = some false
  ib_list_Group : PySem.W.kitOne K (.type "list") (.ref a_Group) = some false
  ib_tuple_Group : PySem.W.kitOne K (.type "tuple") (.ref a_Group) = some false
  ib_dict_Group : PySem.W.kitOne K (.type "dict") (.ref a_Group) = some false
  f_is_whole : Addr
  d_is_whole : FuncData
  m_is_whole : mg "is_whole" = some (.ref f_is_whole)
  F_is_whole : Fun K "is_whole" "is_whole" s_is_whole f_is_whole d_is_whole
  b_is_whole : Binds K d_is_whole ["value"] []
  f_is_name : Addr
  d_is_name : FuncData
  m_is_name : mg "is_name" = some (.ref f_is_name)
  F_is_name : Fun K "is_name" "is_name" s_is_name f_is_name d_is_name
  b_is_name : Binds K d_is_name ["value"] []
  f_are_names : Addr
  d_are_names : FuncData
  m_are_names : mg "are_names" = some (.ref f_are_names)
  F_are_names : Fun K "are_names" "are_names" s_are_names f_are_names d_are_names
  b_are_names : Binds K d_are_names ["value"] []
  f_is_tree : Addr
  d_is_tree : FuncData
  m_is_tree : mg "is_tree" = some (.ref f_is_tree)
  F_is_tree : Fun K "is_tree" "is_tree" s_is_tree f_is_tree d_is_tree
  b_is_tree : Binds K d_is_tree ["value"] []
  f_is_end : Addr
  d_is_end : FuncData
  m_is_end : mg "is_end" = some (.ref f_is_end)
  F_is_end : Fun K "is_end" "is_end" s_is_end f_is_end d_is_end
  b_is_end : Binds K d_is_end ["tree", "j"] []
  f_check_end : Addr
  d_check_end : FuncData
  m_check_end : mg "check_end" = some (.ref f_check_end)
  F_check_end : Fun K "check_end" "check_end" s_check_end f_check_end d_check_end
  b_check_end : Binds K d_check_end ["tree", "j"] []
  f_are_parts : Addr
  d_are_parts : FuncData
  m_are_parts : mg "_are_parts" = some (.ref f_are_parts)
  F_are_parts : Fun K "_are_parts" "_are_parts" s_are_parts f_are_parts d_are_parts
  b_are_parts : Binds K d_are_parts ["value"] []
  f_are_ranks : Addr
  d_are_ranks : FuncData
  m_are_ranks : mg "_are_ranks" = some (.ref f_are_ranks)
  F_are_ranks : Fun K "_are_ranks" "_are_ranks" s_are_ranks f_are_ranks d_are_ranks
  b_are_ranks : Binds K d_are_ranks ["value", "intake"] []
  f_intake_of : Addr
  d_intake_of : FuncData
  m_intake_of : mg "_intake_of" = some (.ref f_intake_of)
  F_intake_of : Fun K "_intake_of" "_intake_of" s_intake_of f_intake_of d_intake_of
  b_intake_of : Binds K d_intake_of ["parts"] []
  f_names_of : Addr
  d_names_of : FuncData
  m_names_of : mg "_names_of" = some (.ref f_names_of)
  F_names_of : Fun K "_names_of" "_names_of" s_names_of f_names_of d_names_of
  b_names_of : Binds K d_names_of ["parts"] []
  f_are_leaves : Addr
  d_are_leaves : FuncData
  m_are_leaves : mg "_are_leaves" = some (.ref f_are_leaves)
  F_are_leaves : Fun K "_are_leaves" "_are_leaves" s_are_leaves f_are_leaves d_are_leaves
  b_are_leaves : Binds K d_are_leaves ["tree", "names"] []
  f_least_rank : Addr
  d_least_rank : FuncData
  m_least_rank : mg "least_rank" = some (.ref f_least_rank)
  F_least_rank : FunD K "least_rank" "least_rank" (defArgs s_least_rank) (defBody s_least_rank) (defScope s_least_rank) [.int 1] [] f_least_rank d_least_rank
  f_greatest_rank : Addr
  d_greatest_rank : FuncData
  m_greatest_rank : mg "greatest_rank" = some (.ref f_greatest_rank)
  F_greatest_rank : FunD K "greatest_rank" "greatest_rank" (defArgs s_greatest_rank) (defBody s_greatest_rank) (defScope s_greatest_rank) [.int 1] [] f_greatest_rank d_greatest_rank
  f_low_names : Addr
  d_low_names : FuncData
  m_low_names : mg "low_names" = some (.ref f_low_names)
  F_low_names : FunD K "low_names" "low_names" (defArgs s_low_names) (defBody s_low_names) (defScope s_low_names) [.int 1] [] f_low_names d_low_names
  f_high_names : Addr
  d_high_names : FuncData
  m_high_names : mg "high_names" = some (.ref f_high_names)
  F_high_names : FunD K "high_names" "high_names" (defArgs s_high_names) (defBody s_high_names) (defScope s_high_names) [.int 1] [] f_high_names d_high_names
  f_fewest : Addr
  d_fewest : FuncData
  m_fewest : mg "_fewest" = some (.ref f_fewest)
  F_fewest : Fun K "_fewest" "_fewest" s_fewest f_fewest d_fewest
  b_fewest : Binds K d_fewest ["tree"] []
  f_sums_by_place : Addr
  d_sums_by_place : FuncData
  m_sums_by_place : mg "_sums_by_place" = some (.ref f_sums_by_place)
  F_sums_by_place : Fun K "_sums_by_place" "_sums_by_place" s_sums_by_place f_sums_by_place d_sums_by_place
  b_sums_by_place : Binds K d_sums_by_place ["one", "other"] []
  f_rank_span : Addr
  d_rank_span : FuncData
  m_rank_span : mg "rank_span" = some (.ref f_rank_span)
  F_rank_span : FunD K "rank_span" "rank_span" (defArgs s_rank_span) (defBody s_rank_span) (defScope s_rank_span) [.int 1] [] f_rank_span d_rank_span
  f_order_at : Addr
  d_order_at : FuncData
  m_order_at : mg "order_at" = some (.ref f_order_at)
  F_order_at : FunD K "order_at" "order_at" (defArgs s_order_at) (defBody s_order_at) (defScope s_order_at) [.int 1] [] f_order_at d_order_at
  f_up_to_turn : Addr
  d_up_to_turn : FuncData
  m_up_to_turn : mg "_up_to_turn" = some (.ref f_up_to_turn)
  F_up_to_turn : Fun K "_up_to_turn" "_up_to_turn" s_up_to_turn f_up_to_turn d_up_to_turn
  b_up_to_turn : Binds K d_up_to_turn ["tree", "j", "enough", "too_few"] []
  f_law_well : Addr
  d_law_well : FuncData
  m_law_well : mg "_law_well" = some (.ref f_law_well)
  F_law_well : Fun K "_law_well" "_law_well" s_law_well f_law_well d_law_well
  b_law_well : Binds K d_law_well ["script", "at"] []
  f_law_dip : Addr
  d_law_dip : FuncData
  m_law_dip : mg "_law_dip" = some (.ref f_law_dip)
  F_law_dip : Fun K "_law_dip" "_law_dip" s_law_dip f_law_dip d_law_dip
  b_law_dip : Binds K d_law_dip ["well", "many"] []
  f_law_words : Addr
  d_law_words : FuncData
  m_law_words : mg "_law_words" = some (.ref f_law_words)
  F_law_words : Fun K "_law_words" "_law_words" s_law_words f_law_words d_law_words
  b_law_words : Binds K d_law_words ["well", "many"] []
  f_law_ranks : Addr
  d_law_ranks : FuncData
  m_law_ranks : mg "_law_ranks" = some (.ref f_law_ranks)
  F_law_ranks : Fun K "_law_ranks" "_law_ranks" s_law_ranks f_law_ranks d_law_ranks
  b_law_ranks : Binds K d_law_ranks ["well", "intake"] []
  f_law_width : Addr
  d_law_width : FuncData
  m_law_width : mg "_law_width" = some (.ref f_law_width)
  F_law_width : Fun K "_law_width" "_law_width" s_law_width f_law_width d_law_width
  b_law_width : Binds K d_law_width ["tree"] []
  f_law_group : Addr
  d_law_group : FuncData
  m_law_group : mg "_law_group" = some (.ref f_law_group)
  F_law_group : Fun K "_law_group" "_law_group" s_law_group f_law_group d_law_group
  b_law_group : Binds K d_law_group ["well", "parts"] []
  f_law_tree : Addr
  d_law_tree : FuncData
  m_law_tree : mg "_law_tree" = some (.ref f_law_tree)
  F_law_tree : Fun K "_law_tree" "_law_tree" s_law_tree f_law_tree d_law_tree
  b_law_tree : Binds K d_law_tree ["well", "names", "depth"] []
  f_law_made : Addr
  d_law_made : FuncData
  m_law_made : mg "_law_made" = some (.ref f_law_made)
  F_law_made : Fun K "_law_made" "_law_made" s_law_made f_law_made d_law_made
  b_law_made : Binds K d_law_made ["tree"] []
  f_law_ends : Addr
  d_law_ends : FuncData
  m_law_ends : mg "_law_ends" = some (.ref f_law_ends)
  F_law_ends : Fun K "_law_ends" "_law_ends" s_law_ends f_law_ends d_law_ends
  b_law_ends : Binds K d_law_ends ["tree", "worths"] []
  f_law_right : Addr
  d_law_right : FuncData
  m_law_right : mg "_law_right" = some (.ref f_law_right)
  F_law_right : Fun K "_law_right" "_law_right" s_law_right f_law_right d_law_right
  b_law_right : Binds K d_law_right ["made", "tree", "names", "rank", "k"] []
  f_law : Addr
  d_law : FuncData
  m_law : mg "law" = some (.ref f_law)
  F_law : Fun K "law" "law" s_law f_law d_law
  b_law : Binds K d_law ["script"] []
section
variable {K : PySem.W.Frag} {h : Heap} {mg : Str → Option Value} {a_RankError a_InvalidName a_InvalidNumber a_InvalidTree a_InvalidList a_Tree a_Leaf a_Group f_Leaf_init f_Leaf_name p_Leaf_name f_Leaf_width p_Leaf_width f_Leaf_len f_Leaf_contains f_Leaf_eq f_Leaf_names f_Leaf_passes f_Leaf_nodes f_Leaf_mirror f_Leaf__low_ends f_Group_init f_Group_ranks p_Group_ranks f_Group_parts p_Group_parts f_Group_intake p_Group_intake f_Group_width p_Group_width f_Group_len f_Group_contains f_Group_eq f_Group_getitem f_Group_iter f_Group_names f_Group_passes f_Group_nodes f_Group_mirror f_Group__low_ends f_is_whole f_is_name f_are_names f_is_tree f_is_end f_check_end f_are_parts f_are_ranks f_intake_of f_names_of f_are_leaves f_least_rank tD_least_rank f_greatest_rank tD_greatest_rank f_low_names tD_low_names f_high_names tD_high_names f_fewest f_sums_by_place f_rank_span tD_rank_span f_order_at tD_order_at f_up_to_turn f_law_well f_law_dip f_law_words f_law_ranks f_law_width f_law_group f_law_tree f_law_made f_law_ends f_law_right f_law : Addr} {kV_Leaf_init dc_Leaf_init pm_Leaf_init cd_Leaf_init ct_Leaf_init oc_Leaf_init kV_Leaf_name dc_Leaf_name pm_Leaf_name cd_Leaf_name ct_Leaf_name oc_Leaf_name kV_Leaf_width dc_Leaf_width pm_Leaf_width cd_Leaf_width ct_Leaf_width oc_Leaf_width kV_Leaf_len dc_Leaf_len pm_Leaf_len cd_Leaf_len ct_Leaf_len oc_Leaf_len kV_Leaf_contains dc_Leaf_contains pm_Leaf_contains cd_Leaf_contains ct_Leaf_contains oc_Leaf_contains kV_Leaf_eq dc_Leaf_eq pm_Leaf_eq cd_Leaf_eq ct_Leaf_eq oc_Leaf_eq kV_Leaf_names dc_Leaf_names pm_Leaf_names cd_Leaf_names ct_Leaf_names oc_Leaf_names kV_Leaf_passes dc_Leaf_passes pm_Leaf_passes cd_Leaf_passes ct_Leaf_passes oc_Leaf_passes kV_Leaf_nodes dc_Leaf_nodes pm_Leaf_nodes cd_Leaf_nodes ct_Leaf_nodes oc_Leaf_nodes kV_Leaf_mirror dc_Leaf_mirror pm_Leaf_mirror cd_Leaf_mirror ct_Leaf_mirror oc_Leaf_mirror kV_Leaf__low_ends dc_Leaf__low_ends pm_Leaf__low_ends cd_Leaf__low_ends ct_Leaf__low_ends oc_Leaf__low_ends kV_Group_init dc_Group_init pm_Group_init cd_Group_init ct_Group_init oc_Group_init kV_Group_ranks dc_Group_ranks pm_Group_ranks cd_Group_ranks ct_Group_ranks oc_Group_ranks kV_Group_parts dc_Group_parts pm_Group_parts cd_Group_parts ct_Group_parts oc_Group_parts kV_Group_intake dc_Group_intake pm_Group_intake cd_Group_intake ct_Group_intake oc_Group_intake kV_Group_width dc_Group_width pm_Group_width cd_Group_width ct_Group_width oc_Group_width kV_Group_len dc_Group_len pm_Group_len cd_Group_len ct_Group_len oc_Group_len kV_Group_contains dc_Group_contains pm_Group_contains cd_Group_contains ct_Group_contains oc_Group_contains kV_Group_eq dc_Group_eq pm_Group_eq cd_Group_eq ct_Group_eq oc_Group_eq kV_Group_getitem dc_Group_getitem pm_Group_getitem cd_Group_getitem ct_Group_getitem oc_Group_getitem kV_Group_iter dc_Group_iter pm_Group_iter cd_Group_iter ct_Group_iter oc_Group_iter kV_Group_names dc_Group_names pm_Group_names cd_Group_names ct_Group_names oc_Group_names kV_Group_passes dc_Group_passes pm_Group_passes cd_Group_passes ct_Group_passes oc_Group_passes kV_Group_nodes dc_Group_nodes pm_Group_nodes cd_Group_nodes ct_Group_nodes oc_Group_nodes kV_Group_mirror dc_Group_mirror pm_Group_mirror cd_Group_mirror ct_Group_mirror oc_Group_mirror kV_Group__low_ends dc_Group__low_ends pm_Group__low_ends cd_Group__low_ends ct_Group__low_ends oc_Group__low_ends kV_is_whole dc_is_whole pm_is_whole cd_is_whole ct_is_whole oc_is_whole kV_is_name dc_is_name pm_is_name cd_is_name ct_is_name oc_is_name kV_are_names dc_are_names pm_are_names cd_are_names ct_are_names oc_are_names kV_is_tree dc_is_tree pm_is_tree cd_is_tree ct_is_tree oc_is_tree kV_is_end dc_is_end pm_is_end cd_is_end ct_is_end oc_is_end kV_check_end dc_check_end pm_check_end cd_check_end ct_check_end oc_check_end kV_are_parts dc_are_parts pm_are_parts cd_are_parts ct_are_parts oc_are_parts kV_are_ranks dc_are_ranks pm_are_ranks cd_are_ranks ct_are_ranks oc_are_ranks kV_intake_of dc_intake_of pm_intake_of cd_intake_of ct_intake_of oc_intake_of kV_names_of dc_names_of pm_names_of cd_names_of ct_names_of oc_names_of kV_are_leaves dc_are_leaves pm_are_leaves cd_are_leaves ct_are_leaves oc_are_leaves kV_least_rank dc_least_rank pm_least_rank cd_least_rank ct_least_rank oc_least_rank oD_least_rank kV_greatest_rank dc_greatest_rank pm_greatest_rank cd_greatest_rank ct_greatest_rank oc_greatest_rank oD_greatest_rank kV_low_names dc_low_names pm_low_names cd_low_names ct_low_names oc_low_names oD_low_names kV_high_names dc_high_names pm_high_names cd_high_names ct_high_names oc_high_names oD_high_names kV_fewest dc_fewest pm_fewest cd_fewest ct_fewest oc_fewest kV_sums_by_place dc_sums_by_place pm_sums_by_place cd_sums_by_place ct_sums_by_place oc_sums_by_place kV_rank_span dc_rank_span pm_rank_span cd_rank_span ct_rank_span oc_rank_span oD_rank_span kV_order_at dc_order_at pm_order_at cd_order_at ct_order_at oc_order_at oD_order_at kV_up_to_turn dc_up_to_turn pm_up_to_turn cd_up_to_turn ct_up_to_turn oc_up_to_turn kV_law_well dc_law_well pm_law_well cd_law_well ct_law_well oc_law_well kV_law_dip dc_law_dip pm_law_dip cd_law_dip ct_law_dip oc_law_dip kV_law_words dc_law_words pm_law_words cd_law_words ct_law_words oc_law_words kV_law_ranks dc_law_ranks pm_law_ranks cd_law_ranks ct_law_ranks oc_law_ranks kV_law_width dc_law_width pm_law_width cd_law_width ct_law_width oc_law_width kV_law_group dc_law_group pm_law_group cd_law_group ct_law_group oc_law_group kV_law_tree dc_law_tree pm_law_tree cd_law_tree ct_law_tree oc_law_tree kV_law_made dc_law_made pm_law_made cd_law_made ct_law_made oc_law_made kV_law_ends dc_law_ends pm_law_ends cd_law_ends ct_law_ends oc_law_ends kV_law_right dc_law_right pm_law_right cd_law_right ct_law_right oc_law_right kV_law dc_law pm_law cd_law ct_law oc_law : Value} {od_Leaf_init an_Leaf_init od_Leaf_name an_Leaf_name od_Leaf_width an_Leaf_width od_Leaf_len an_Leaf_len od_Leaf_contains an_Leaf_contains od_Leaf_eq an_Leaf_eq od_Leaf_names an_Leaf_names od_Leaf_passes an_Leaf_passes od_Leaf_nodes an_Leaf_nodes od_Leaf_mirror an_Leaf_mirror od_Leaf__low_ends an_Leaf__low_ends od_Group_init an_Group_init od_Group_ranks an_Group_ranks od_Group_parts an_Group_parts od_Group_intake an_Group_intake od_Group_width an_Group_width od_Group_len an_Group_len od_Group_contains an_Group_contains od_Group_eq an_Group_eq od_Group_getitem an_Group_getitem od_Group_iter an_Group_iter od_Group_names an_Group_names od_Group_passes an_Group_passes od_Group_nodes an_Group_nodes od_Group_mirror an_Group_mirror od_Group__low_ends an_Group__low_ends od_is_whole an_is_whole od_is_name an_is_name od_are_names an_are_names od_is_tree an_is_tree od_is_end an_is_end od_check_end an_check_end od_are_parts an_are_parts od_are_ranks an_are_ranks od_intake_of an_intake_of od_names_of an_names_of od_are_leaves an_are_leaves od_least_rank an_least_rank eD_least_rank od_greatest_rank an_greatest_rank eD_greatest_rank od_low_names an_low_names eD_low_names od_high_names an_high_names eD_high_names od_fewest an_fewest od_sums_by_place an_sums_by_place od_rank_span an_rank_span eD_rank_span od_order_at an_order_at eD_order_at od_up_to_turn an_up_to_turn od_law_well an_law_well od_law_dip an_law_dip od_law_words an_law_words od_law_ranks an_law_ranks od_law_width an_law_width od_law_group an_law_group od_law_tree an_law_tree od_law_made an_law_made od_law_ends an_law_ends od_law_right an_law_right od_law an_law : Option Addr} {sl_Leaf_init sl_Leaf_name sl_Leaf_width sl_Leaf_len sl_Leaf_contains sl_Leaf_eq sl_Leaf_names sl_Leaf_passes sl_Leaf_nodes sl_Leaf_mirror sl_Leaf__low_ends sl_Group_init sl_Group_ranks sl_Group_parts sl_Group_intake sl_Group_width sl_Group_len sl_Group_contains sl_Group_eq sl_Group_getitem sl_Group_iter sl_Group_names sl_Group_passes sl_Group_nodes sl_Group_mirror sl_Group__low_ends sl_is_whole sl_is_name sl_are_names sl_is_tree sl_is_end sl_check_end sl_are_parts sl_are_ranks sl_intake_of sl_names_of sl_are_leaves sl_least_rank sD_least_rank sl_greatest_rank sD_greatest_rank sl_low_names sD_low_names sl_high_names sD_high_names sl_fewest sl_sums_by_place sl_rank_span sD_rank_span sl_order_at sD_order_at sl_up_to_turn sl_law_well sl_law_dip sl_law_words sl_law_ranks sl_law_width sl_law_group sl_law_tree sl_law_made sl_law_ends sl_law_right sl_law : Array (Option Value)} {r_Leaf_name r_Leaf_width r_Group_ranks r_Group_parts r_Group_intake r_Group_width : List Value} {nD_least_rank nD_greatest_rank nD_low_names nD_high_names nD_rank_span nD_order_at : Nat} {kD0_least_rank kD0_greatest_rank kD0_low_names kD0_high_names kD0_rank_span kD0_order_at : Tok}
def Txt.mk_ (X : K.In h) (G : h.Ns mainGlobals mg)
    (z_len : PySem.W.nsIn K mainGlobals "len" = some none)
    (z_int : PySem.W.nsIn K mainGlobals "int" = some none)
    (z_range : PySem.W.nsIn K mainGlobals "range" = some none)
    (z_sum : PySem.W.nsIn K mainGlobals "sum" = some none)
    (z_all : PySem.W.nsIn K mainGlobals "all" = some none)
    (z_isinstance : PySem.W.nsIn K mainGlobals "isinstance" = some none)
    (z_sorted : PySem.W.nsIn K mainGlobals "sorted" = some none)
    (z_list : PySem.W.nsIn K mainGlobals "list" = some none)
    (z_set : PySem.W.nsIn K mainGlobals "set" = some none)
    (z_zip : PySem.W.nsIn K mainGlobals "zip" = some none)
    (z_bool : PySem.W.nsIn K mainGlobals "bool" = some none)
    (z_str : PySem.W.nsIn K mainGlobals "str" = some none)
    (z_min : PySem.W.nsIn K mainGlobals "min" = some none)
    (z_enumerate : PySem.W.nsIn K mainGlobals "enumerate" = some none)
    (z_TypeError : PySem.W.nsIn K mainGlobals "TypeError" = some none)
    (z_ValueError : PySem.W.nsIn K mainGlobals "ValueError" = some none)
    (g_RankError : PySem.W.nsIn K mainGlobals "RankError" = some (some (.ref a_RankError)))
    (g_InvalidName : PySem.W.nsIn K mainGlobals "InvalidName" = some (some (.ref a_InvalidName)))
    (g_InvalidNumber : PySem.W.nsIn K mainGlobals "InvalidNumber" = some (some (.ref a_InvalidNumber)))
    (g_InvalidTree : PySem.W.nsIn K mainGlobals "InvalidTree" = some (some (.ref a_InvalidTree)))
    (g_InvalidList : PySem.W.nsIn K mainGlobals "InvalidList" = some (some (.ref a_InvalidList)))
    (g_Tree : PySem.W.nsIn K mainGlobals "Tree" = some (some (.ref a_Tree)))
    (g_Leaf : PySem.W.nsIn K mainGlobals "Leaf" = some (some (.ref a_Leaf)))
    (g_Group : PySem.W.nsIn K mainGlobals "Group" = some (some (.ref a_Group)))
    (at_Leaf_init : PySem.W.findIn K (.ref a_Leaf) "__init__" = some (some (.ref f_Leaf_init)))
    (i_Leaf_init : PySem.W.isFn K (.ref f_Leaf_init) = true)
    (l_Leaf_init : K.lookup f_Leaf_init = some ⟨oc_Leaf_init, od_Leaf_init, .func (PySem.W.fnOf "__init__" "Leaf.__init__" (defArgs s_Leaf_init) (defBody s_Leaf_init) (defScope s_Leaf_init) .none kV_Leaf_init dc_Leaf_init pm_Leaf_init an_Leaf_init cd_Leaf_init ct_Leaf_init), sl_Leaf_init⟩)
    (c_Leaf_init : PySem.W.codeIn K cd_Leaf_init "Leaf.__init__" = true)
    (k_Leaf_init : PySem.W.keepIn K (.ref f_Leaf_init) = true)
    (at_Leaf_name : PySem.W.findIn K (.ref a_Leaf) "name" = some (some (.ref p_Leaf_name)))
    (gt_Leaf_name : PySem.W.specialIn K (.ref p_Leaf_name) "__get__" = some (some (.builtin "property.__get__")))
    (tk_Leaf_name : PySem.W.takesIn K (.ref p_Leaf_name) = some true)
    (rc_Leaf_name : PySem.W.recIn K p_Leaf_name "property" = some (.ref f_Leaf_name :: r_Leaf_name))
    (l_Leaf_name : K.lookup f_Leaf_name = some ⟨oc_Leaf_name, od_Leaf_name, .func (PySem.W.fnOf "name" "Leaf.name" (defArgs s_Leaf_name) (defBody s_Leaf_name) (defScope s_Leaf_name) .none kV_Leaf_name dc_Leaf_name pm_Leaf_name an_Leaf_name cd_Leaf_name ct_Leaf_name), sl_Leaf_name⟩)
    (c_Leaf_name : PySem.W.codeIn K cd_Leaf_name "Leaf.name" = true)
    (k_Leaf_name : PySem.W.keepIn K (.ref f_Leaf_name) = true)
    (at_Leaf_width : PySem.W.findIn K (.ref a_Leaf) "width" = some (some (.ref p_Leaf_width)))
    (gt_Leaf_width : PySem.W.specialIn K (.ref p_Leaf_width) "__get__" = some (some (.builtin "property.__get__")))
    (tk_Leaf_width : PySem.W.takesIn K (.ref p_Leaf_width) = some true)
    (rc_Leaf_width : PySem.W.recIn K p_Leaf_width "property" = some (.ref f_Leaf_width :: r_Leaf_width))
    (l_Leaf_width : K.lookup f_Leaf_width = some ⟨oc_Leaf_width, od_Leaf_width, .func (PySem.W.fnOf "width" "Leaf.width" (defArgs s_Leaf_width) (defBody s_Leaf_width) (defScope s_Leaf_width) .none kV_Leaf_width dc_Leaf_width pm_Leaf_width an_Leaf_width cd_Leaf_width ct_Leaf_width), sl_Leaf_width⟩)
    (c_Leaf_width : PySem.W.codeIn K cd_Leaf_width "Leaf.width" = true)
    (k_Leaf_width : PySem.W.keepIn K (.ref f_Leaf_width) = true)
    (at_Leaf_len : PySem.W.findIn K (.ref a_Leaf) "__len__" = some (some (.ref f_Leaf_len)))
    (i_Leaf_len : PySem.W.isFn K (.ref f_Leaf_len) = true)
    (l_Leaf_len : K.lookup f_Leaf_len = some ⟨oc_Leaf_len, od_Leaf_len, .func (PySem.W.fnOf "__len__" "Leaf.__len__" (defArgs s_Leaf_len) (defBody s_Leaf_len) (defScope s_Leaf_len) .none kV_Leaf_len dc_Leaf_len pm_Leaf_len an_Leaf_len cd_Leaf_len ct_Leaf_len), sl_Leaf_len⟩)
    (c_Leaf_len : PySem.W.codeIn K cd_Leaf_len "Leaf.__len__" = true)
    (k_Leaf_len : PySem.W.keepIn K (.ref f_Leaf_len) = true)
    (at_Leaf_contains : PySem.W.findIn K (.ref a_Leaf) "__contains__" = some (some (.ref f_Leaf_contains)))
    (i_Leaf_contains : PySem.W.isFn K (.ref f_Leaf_contains) = true)
    (l_Leaf_contains : K.lookup f_Leaf_contains = some ⟨oc_Leaf_contains, od_Leaf_contains, .func (PySem.W.fnOf "__contains__" "Leaf.__contains__" (defArgs s_Leaf_contains) (defBody s_Leaf_contains) (defScope s_Leaf_contains) .none kV_Leaf_contains dc_Leaf_contains pm_Leaf_contains an_Leaf_contains cd_Leaf_contains ct_Leaf_contains), sl_Leaf_contains⟩)
    (c_Leaf_contains : PySem.W.codeIn K cd_Leaf_contains "Leaf.__contains__" = true)
    (k_Leaf_contains : PySem.W.keepIn K (.ref f_Leaf_contains) = true)
    (at_Leaf_eq : PySem.W.findIn K (.ref a_Leaf) "__eq__" = some (some (.ref f_Leaf_eq)))
    (i_Leaf_eq : PySem.W.isFn K (.ref f_Leaf_eq) = true)
    (l_Leaf_eq : K.lookup f_Leaf_eq = some ⟨oc_Leaf_eq, od_Leaf_eq, .func (PySem.W.fnOf "__eq__" "Leaf.__eq__" (defArgs s_Leaf_eq) (defBody s_Leaf_eq) (defScope s_Leaf_eq) .none kV_Leaf_eq dc_Leaf_eq pm_Leaf_eq an_Leaf_eq cd_Leaf_eq ct_Leaf_eq), sl_Leaf_eq⟩)
    (c_Leaf_eq : PySem.W.codeIn K cd_Leaf_eq "Leaf.__eq__" = true)
    (k_Leaf_eq : PySem.W.keepIn K (.ref f_Leaf_eq) = true)
    (at_Leaf_names : PySem.W.findIn K (.ref a_Leaf) "names" = some (some (.ref f_Leaf_names)))
    (i_Leaf_names : PySem.W.isFn K (.ref f_Leaf_names) = true)
    (l_Leaf_names : K.lookup f_Leaf_names = some ⟨oc_Leaf_names, od_Leaf_names, .func (PySem.W.fnOf "names" "Leaf.names" (defArgs s_Leaf_names) (defBody s_Leaf_names) (defScope s_Leaf_names) .none kV_Leaf_names dc_Leaf_names pm_Leaf_names an_Leaf_names cd_Leaf_names ct_Leaf_names), sl_Leaf_names⟩)
    (c_Leaf_names : PySem.W.codeIn K cd_Leaf_names "Leaf.names" = true)
    (k_Leaf_names : PySem.W.keepIn K (.ref f_Leaf_names) = true)
    (at_Leaf_passes : PySem.W.findIn K (.ref a_Leaf) "passes" = some (some (.ref f_Leaf_passes)))
    (i_Leaf_passes : PySem.W.isFn K (.ref f_Leaf_passes) = true)
    (l_Leaf_passes : K.lookup f_Leaf_passes = some ⟨oc_Leaf_passes, od_Leaf_passes, .func (PySem.W.fnOf "passes" "Leaf.passes" (defArgs s_Leaf_passes) (defBody s_Leaf_passes) (defScope s_Leaf_passes) .none kV_Leaf_passes dc_Leaf_passes pm_Leaf_passes an_Leaf_passes cd_Leaf_passes ct_Leaf_passes), sl_Leaf_passes⟩)
    (c_Leaf_passes : PySem.W.codeIn K cd_Leaf_passes "Leaf.passes" = true)
    (k_Leaf_passes : PySem.W.keepIn K (.ref f_Leaf_passes) = true)
    (at_Leaf_nodes : PySem.W.findIn K (.ref a_Leaf) "nodes" = some (some (.ref f_Leaf_nodes)))
    (i_Leaf_nodes : PySem.W.isFn K (.ref f_Leaf_nodes) = true)
    (l_Leaf_nodes : K.lookup f_Leaf_nodes = some ⟨oc_Leaf_nodes, od_Leaf_nodes, .func (PySem.W.fnOf "nodes" "Leaf.nodes" (defArgs s_Leaf_nodes) (defBody s_Leaf_nodes) (defScope s_Leaf_nodes) .none kV_Leaf_nodes dc_Leaf_nodes pm_Leaf_nodes an_Leaf_nodes cd_Leaf_nodes ct_Leaf_nodes), sl_Leaf_nodes⟩)
    (c_Leaf_nodes : PySem.W.codeIn K cd_Leaf_nodes "Leaf.nodes" = true)
    (k_Leaf_nodes : PySem.W.keepIn K (.ref f_Leaf_nodes) = true)
    (at_Leaf_mirror : PySem.W.findIn K (.ref a_Leaf) "mirror" = some (some (.ref f_Leaf_mirror)))
    (i_Leaf_mirror : PySem.W.isFn K (.ref f_Leaf_mirror) = true)
    (l_Leaf_mirror : K.lookup f_Leaf_mirror = some ⟨oc_Leaf_mirror, od_Leaf_mirror, .func (PySem.W.fnOf "mirror" "Leaf.mirror" (defArgs s_Leaf_mirror) (defBody s_Leaf_mirror) (defScope s_Leaf_mirror) .none kV_Leaf_mirror dc_Leaf_mirror pm_Leaf_mirror an_Leaf_mirror cd_Leaf_mirror ct_Leaf_mirror), sl_Leaf_mirror⟩)
    (c_Leaf_mirror : PySem.W.codeIn K cd_Leaf_mirror "Leaf.mirror" = true)
    (k_Leaf_mirror : PySem.W.keepIn K (.ref f_Leaf_mirror) = true)
    (at_Leaf__low_ends : PySem.W.findIn K (.ref a_Leaf) "_low_ends" = some (some (.ref f_Leaf__low_ends)))
    (i_Leaf__low_ends : PySem.W.isFn K (.ref f_Leaf__low_ends) = true)
    (l_Leaf__low_ends : K.lookup f_Leaf__low_ends = some ⟨oc_Leaf__low_ends, od_Leaf__low_ends, .func (PySem.W.fnOf "_low_ends" "Leaf._low_ends" (defArgs s_Leaf__low_ends) (defBody s_Leaf__low_ends) (defScope s_Leaf__low_ends) .none kV_Leaf__low_ends dc_Leaf__low_ends pm_Leaf__low_ends an_Leaf__low_ends cd_Leaf__low_ends ct_Leaf__low_ends), sl_Leaf__low_ends⟩)
    (c_Leaf__low_ends : PySem.W.codeIn K cd_Leaf__low_ends "Leaf._low_ends" = true)
    (k_Leaf__low_ends : PySem.W.keepIn K (.ref f_Leaf__low_ends) = true)
    (pg_Leaf : PySem.W.plainGet K a_Leaf Str.empty = true)
    (hd_Leaf : PySem.W.hasDictIn K a_Leaf = true)
    (po_Leaf : PySem.W.plainOver K a_Leaf = true)
    (sa_Leaf : PySem.W.findIn K (.ref a_Leaf) "__setattr__" = some (some (.builtin "object.__setattr__")))
    (mk_Leaf : PySem.W.makesIn K a_Leaf = true)
    (kc_Leaf : PySem.W.keepIn K (.ref a_Leaf) = true)
    (ca_Leaf : PySem.W.findIn K (.ref a_Leaf) "__class__" = some (some (.builtin "object.__class__")))
    (mo_Leaf : PySem.W.mroIn K a_Leaf (.type "object") = some true)
    (ne_Leaf : PySem.W.findIn K (.ref a_Leaf) "__ne__" = some (some (.builtin "object.__ne__")))
    (n_Leaf_name : PySem.W.findIn K (.ref a_Leaf) "_name" = some none)
    (at_Group_init : PySem.W.findIn K (.ref a_Group) "__init__" = some (some (.ref f_Group_init)))
    (i_Group_init : PySem.W.isFn K (.ref f_Group_init) = true)
    (l_Group_init : K.lookup f_Group_init = some ⟨oc_Group_init, od_Group_init, .func (PySem.W.fnOf "__init__" "Group.__init__" (defArgs s_Group_init) (defBody s_Group_init) (defScope s_Group_init) .none kV_Group_init dc_Group_init pm_Group_init an_Group_init cd_Group_init ct_Group_init), sl_Group_init⟩)
    (c_Group_init : PySem.W.codeIn K cd_Group_init "Group.__init__" = true)
    (k_Group_init : PySem.W.keepIn K (.ref f_Group_init) = true)
    (at_Group_ranks : PySem.W.findIn K (.ref a_Group) "ranks" = some (some (.ref p_Group_ranks)))
    (gt_Group_ranks : PySem.W.specialIn K (.ref p_Group_ranks) "__get__" = some (some (.builtin "property.__get__")))
    (tk_Group_ranks : PySem.W.takesIn K (.ref p_Group_ranks) = some true)
    (rc_Group_ranks : PySem.W.recIn K p_Group_ranks "property" = some (.ref f_Group_ranks :: r_Group_ranks))
    (l_Group_ranks : K.lookup f_Group_ranks = some ⟨oc_Group_ranks, od_Group_ranks, .func (PySem.W.fnOf "ranks" "Group.ranks" (defArgs s_Group_ranks) (defBody s_Group_ranks) (defScope s_Group_ranks) .none kV_Group_ranks dc_Group_ranks pm_Group_ranks an_Group_ranks cd_Group_ranks ct_Group_ranks), sl_Group_ranks⟩)
    (c_Group_ranks : PySem.W.codeIn K cd_Group_ranks "Group.ranks" = true)
    (k_Group_ranks : PySem.W.keepIn K (.ref f_Group_ranks) = true)
    (at_Group_parts : PySem.W.findIn K (.ref a_Group) "parts" = some (some (.ref p_Group_parts)))
    (gt_Group_parts : PySem.W.specialIn K (.ref p_Group_parts) "__get__" = some (some (.builtin "property.__get__")))
    (tk_Group_parts : PySem.W.takesIn K (.ref p_Group_parts) = some true)
    (rc_Group_parts : PySem.W.recIn K p_Group_parts "property" = some (.ref f_Group_parts :: r_Group_parts))
    (l_Group_parts : K.lookup f_Group_parts = some ⟨oc_Group_parts, od_Group_parts, .func (PySem.W.fnOf "parts" "Group.parts" (defArgs s_Group_parts) (defBody s_Group_parts) (defScope s_Group_parts) .none kV_Group_parts dc_Group_parts pm_Group_parts an_Group_parts cd_Group_parts ct_Group_parts), sl_Group_parts⟩)
    (c_Group_parts : PySem.W.codeIn K cd_Group_parts "Group.parts" = true)
    (k_Group_parts : PySem.W.keepIn K (.ref f_Group_parts) = true)
    (at_Group_intake : PySem.W.findIn K (.ref a_Group) "intake" = some (some (.ref p_Group_intake)))
    (gt_Group_intake : PySem.W.specialIn K (.ref p_Group_intake) "__get__" = some (some (.builtin "property.__get__")))
    (tk_Group_intake : PySem.W.takesIn K (.ref p_Group_intake) = some true)
    (rc_Group_intake : PySem.W.recIn K p_Group_intake "property" = some (.ref f_Group_intake :: r_Group_intake))
    (l_Group_intake : K.lookup f_Group_intake = some ⟨oc_Group_intake, od_Group_intake, .func (PySem.W.fnOf "intake" "Group.intake" (defArgs s_Group_intake) (defBody s_Group_intake) (defScope s_Group_intake) .none kV_Group_intake dc_Group_intake pm_Group_intake an_Group_intake cd_Group_intake ct_Group_intake), sl_Group_intake⟩)
    (c_Group_intake : PySem.W.codeIn K cd_Group_intake "Group.intake" = true)
    (k_Group_intake : PySem.W.keepIn K (.ref f_Group_intake) = true)
    (at_Group_width : PySem.W.findIn K (.ref a_Group) "width" = some (some (.ref p_Group_width)))
    (gt_Group_width : PySem.W.specialIn K (.ref p_Group_width) "__get__" = some (some (.builtin "property.__get__")))
    (tk_Group_width : PySem.W.takesIn K (.ref p_Group_width) = some true)
    (rc_Group_width : PySem.W.recIn K p_Group_width "property" = some (.ref f_Group_width :: r_Group_width))
    (l_Group_width : K.lookup f_Group_width = some ⟨oc_Group_width, od_Group_width, .func (PySem.W.fnOf "width" "Group.width" (defArgs s_Group_width) (defBody s_Group_width) (defScope s_Group_width) .none kV_Group_width dc_Group_width pm_Group_width an_Group_width cd_Group_width ct_Group_width), sl_Group_width⟩)
    (c_Group_width : PySem.W.codeIn K cd_Group_width "Group.width" = true)
    (k_Group_width : PySem.W.keepIn K (.ref f_Group_width) = true)
    (at_Group_len : PySem.W.findIn K (.ref a_Group) "__len__" = some (some (.ref f_Group_len)))
    (i_Group_len : PySem.W.isFn K (.ref f_Group_len) = true)
    (l_Group_len : K.lookup f_Group_len = some ⟨oc_Group_len, od_Group_len, .func (PySem.W.fnOf "__len__" "Group.__len__" (defArgs s_Group_len) (defBody s_Group_len) (defScope s_Group_len) .none kV_Group_len dc_Group_len pm_Group_len an_Group_len cd_Group_len ct_Group_len), sl_Group_len⟩)
    (c_Group_len : PySem.W.codeIn K cd_Group_len "Group.__len__" = true)
    (k_Group_len : PySem.W.keepIn K (.ref f_Group_len) = true)
    (at_Group_contains : PySem.W.findIn K (.ref a_Group) "__contains__" = some (some (.ref f_Group_contains)))
    (i_Group_contains : PySem.W.isFn K (.ref f_Group_contains) = true)
    (l_Group_contains : K.lookup f_Group_contains = some ⟨oc_Group_contains, od_Group_contains, .func (PySem.W.fnOf "__contains__" "Group.__contains__" (defArgs s_Group_contains) (defBody s_Group_contains) (defScope s_Group_contains) .none kV_Group_contains dc_Group_contains pm_Group_contains an_Group_contains cd_Group_contains ct_Group_contains), sl_Group_contains⟩)
    (c_Group_contains : PySem.W.codeIn K cd_Group_contains "Group.__contains__" = true)
    (k_Group_contains : PySem.W.keepIn K (.ref f_Group_contains) = true)
    (at_Group_eq : PySem.W.findIn K (.ref a_Group) "__eq__" = some (some (.ref f_Group_eq)))
    (i_Group_eq : PySem.W.isFn K (.ref f_Group_eq) = true)
    (l_Group_eq : K.lookup f_Group_eq = some ⟨oc_Group_eq, od_Group_eq, .func (PySem.W.fnOf "__eq__" "Group.__eq__" (defArgs s_Group_eq) (defBody s_Group_eq) (defScope s_Group_eq) .none kV_Group_eq dc_Group_eq pm_Group_eq an_Group_eq cd_Group_eq ct_Group_eq), sl_Group_eq⟩)
    (c_Group_eq : PySem.W.codeIn K cd_Group_eq "Group.__eq__" = true)
    (k_Group_eq : PySem.W.keepIn K (.ref f_Group_eq) = true)
    (at_Group_getitem : PySem.W.findIn K (.ref a_Group) "__getitem__" = some (some (.ref f_Group_getitem)))
    (i_Group_getitem : PySem.W.isFn K (.ref f_Group_getitem) = true)
    (l_Group_getitem : K.lookup f_Group_getitem = some ⟨oc_Group_getitem, od_Group_getitem, .func (PySem.W.fnOf "__getitem__" "Group.__getitem__" (defArgs s_Group_getitem) (defBody s_Group_getitem) (defScope s_Group_getitem) .none kV_Group_getitem dc_Group_getitem pm_Group_getitem an_Group_getitem cd_Group_getitem ct_Group_getitem), sl_Group_getitem⟩)
    (c_Group_getitem : PySem.W.codeIn K cd_Group_getitem "Group.__getitem__" = true)
    (k_Group_getitem : PySem.W.keepIn K (.ref f_Group_getitem) = true)
    (at_Group_iter : PySem.W.findIn K (.ref a_Group) "__iter__" = some (some (.ref f_Group_iter)))
    (i_Group_iter : PySem.W.isFn K (.ref f_Group_iter) = true)
    (l_Group_iter : K.lookup f_Group_iter = some ⟨oc_Group_iter, od_Group_iter, .func (PySem.W.fnOf "__iter__" "Group.__iter__" (defArgs s_Group_iter) (defBody s_Group_iter) (defScope s_Group_iter) .none kV_Group_iter dc_Group_iter pm_Group_iter an_Group_iter cd_Group_iter ct_Group_iter), sl_Group_iter⟩)
    (c_Group_iter : PySem.W.codeIn K cd_Group_iter "Group.__iter__" = true)
    (k_Group_iter : PySem.W.keepIn K (.ref f_Group_iter) = true)
    (at_Group_names : PySem.W.findIn K (.ref a_Group) "names" = some (some (.ref f_Group_names)))
    (i_Group_names : PySem.W.isFn K (.ref f_Group_names) = true)
    (l_Group_names : K.lookup f_Group_names = some ⟨oc_Group_names, od_Group_names, .func (PySem.W.fnOf "names" "Group.names" (defArgs s_Group_names) (defBody s_Group_names) (defScope s_Group_names) .none kV_Group_names dc_Group_names pm_Group_names an_Group_names cd_Group_names ct_Group_names), sl_Group_names⟩)
    (c_Group_names : PySem.W.codeIn K cd_Group_names "Group.names" = true)
    (k_Group_names : PySem.W.keepIn K (.ref f_Group_names) = true)
    (at_Group_passes : PySem.W.findIn K (.ref a_Group) "passes" = some (some (.ref f_Group_passes)))
    (i_Group_passes : PySem.W.isFn K (.ref f_Group_passes) = true)
    (l_Group_passes : K.lookup f_Group_passes = some ⟨oc_Group_passes, od_Group_passes, .func (PySem.W.fnOf "passes" "Group.passes" (defArgs s_Group_passes) (defBody s_Group_passes) (defScope s_Group_passes) .none kV_Group_passes dc_Group_passes pm_Group_passes an_Group_passes cd_Group_passes ct_Group_passes), sl_Group_passes⟩)
    (c_Group_passes : PySem.W.codeIn K cd_Group_passes "Group.passes" = true)
    (k_Group_passes : PySem.W.keepIn K (.ref f_Group_passes) = true)
    (at_Group_nodes : PySem.W.findIn K (.ref a_Group) "nodes" = some (some (.ref f_Group_nodes)))
    (i_Group_nodes : PySem.W.isFn K (.ref f_Group_nodes) = true)
    (l_Group_nodes : K.lookup f_Group_nodes = some ⟨oc_Group_nodes, od_Group_nodes, .func (PySem.W.fnOf "nodes" "Group.nodes" (defArgs s_Group_nodes) (defBody s_Group_nodes) (defScope s_Group_nodes) .none kV_Group_nodes dc_Group_nodes pm_Group_nodes an_Group_nodes cd_Group_nodes ct_Group_nodes), sl_Group_nodes⟩)
    (c_Group_nodes : PySem.W.codeIn K cd_Group_nodes "Group.nodes" = true)
    (k_Group_nodes : PySem.W.keepIn K (.ref f_Group_nodes) = true)
    (at_Group_mirror : PySem.W.findIn K (.ref a_Group) "mirror" = some (some (.ref f_Group_mirror)))
    (i_Group_mirror : PySem.W.isFn K (.ref f_Group_mirror) = true)
    (l_Group_mirror : K.lookup f_Group_mirror = some ⟨oc_Group_mirror, od_Group_mirror, .func (PySem.W.fnOf "mirror" "Group.mirror" (defArgs s_Group_mirror) (defBody s_Group_mirror) (defScope s_Group_mirror) .none kV_Group_mirror dc_Group_mirror pm_Group_mirror an_Group_mirror cd_Group_mirror ct_Group_mirror), sl_Group_mirror⟩)
    (c_Group_mirror : PySem.W.codeIn K cd_Group_mirror "Group.mirror" = true)
    (k_Group_mirror : PySem.W.keepIn K (.ref f_Group_mirror) = true)
    (at_Group__low_ends : PySem.W.findIn K (.ref a_Group) "_low_ends" = some (some (.ref f_Group__low_ends)))
    (i_Group__low_ends : PySem.W.isFn K (.ref f_Group__low_ends) = true)
    (l_Group__low_ends : K.lookup f_Group__low_ends = some ⟨oc_Group__low_ends, od_Group__low_ends, .func (PySem.W.fnOf "_low_ends" "Group._low_ends" (defArgs s_Group__low_ends) (defBody s_Group__low_ends) (defScope s_Group__low_ends) .none kV_Group__low_ends dc_Group__low_ends pm_Group__low_ends an_Group__low_ends cd_Group__low_ends ct_Group__low_ends), sl_Group__low_ends⟩)
    (c_Group__low_ends : PySem.W.codeIn K cd_Group__low_ends "Group._low_ends" = true)
    (k_Group__low_ends : PySem.W.keepIn K (.ref f_Group__low_ends) = true)
    (pg_Group : PySem.W.plainGet K a_Group Str.empty = true)
    (hd_Group : PySem.W.hasDictIn K a_Group = true)
    (po_Group : PySem.W.plainOver K a_Group = true)
    (sa_Group : PySem.W.findIn K (.ref a_Group) "__setattr__" = some (some (.builtin "object.__setattr__")))
    (mk_Group : PySem.W.makesIn K a_Group = true)
    (kc_Group : PySem.W.keepIn K (.ref a_Group) = true)
    (ca_Group : PySem.W.findIn K (.ref a_Group) "__class__" = some (some (.builtin "object.__class__")))
    (mo_Group : PySem.W.mroIn K a_Group (.type "object") = some true)
    (ne_Group : PySem.W.findIn K (.ref a_Group) "__ne__" = some (some (.builtin "object.__ne__")))
    (n_Group_intake : PySem.W.findIn K (.ref a_Group) "_intake" = some none)
    (n_Group_names : PySem.W.findIn K (.ref a_Group) "_names" = some none)
    (n_Group_parts : PySem.W.findIn K (.ref a_Group) "_parts" = some none)
    (n_Group_ranks : PySem.W.findIn K (.ref a_Group) "_ranks" = some none)
    (gc : PySem.W.specialIn K (.builtin "object.__class__") "__get__" = some (some (.builtin "getset_descriptor.__get__")))
    (tc : PySem.W.takesIn K (.builtin "object.__class__") = some true)
    (q_Group : PySem.W.noSeq K a_Group = true)
    (ic_Leaf : PySem.W.isClsIn K a_Leaf = true)
    (it_Leaf : PySem.W.typeIn K (.ref a_Leaf) = some (.type "type"))
    (ic_Group : PySem.W.isClsIn K a_Group = true)
    (it_Group : PySem.W.typeIn K (.ref a_Group) = some (.type "type"))
    (dx_Leaf_Group : a_Leaf ≠ a_Group)
    (is_Leaf_Group : PySem.W.subIn K (.ref a_Leaf) (.ref a_Group) = some false)
    (is_Leaf_list : PySem.W.subIn K (.ref a_Leaf) (.type "list") = some false)
    (is_Leaf_int : PySem.W.subIn K (.ref a_Leaf) (.type "int") = some false)
    (is_Leaf_bool : PySem.W.subIn K (.ref a_Leaf) (.type "bool") = some false)
    (is_Leaf_str : PySem.W.subIn K (.ref a_Leaf) (.type "str") = some false)
    (dx_Group_Leaf : a_Group ≠ a_Leaf)
    (is_Group_Leaf : PySem.W.subIn K (.ref a_Group) (.ref a_Leaf) = some false)
    (is_Group_list : PySem.W.subIn K (.ref a_Group) (.type "list") = some false)
    (is_Group_int : PySem.W.subIn K (.ref a_Group) (.type "int") = some false)
    (is_Group_bool : PySem.W.subIn K (.ref a_Group) (.type "bool") = some false)
    (is_Group_str : PySem.W.subIn K (.ref a_Group) (.type "str") = some false)
    (g_is_whole : PySem.W.nsIn K mainGlobals "is_whole" = some (some (.ref f_is_whole)))
    (l_is_whole : K.lookup f_is_whole = some ⟨oc_is_whole, od_is_whole, .func (PySem.W.fnOf "is_whole" "is_whole" (defArgs s_is_whole) (defBody s_is_whole) (defScope s_is_whole) .none kV_is_whole dc_is_whole pm_is_whole an_is_whole cd_is_whole ct_is_whole), sl_is_whole⟩)
    (c_is_whole : PySem.W.codeIn K cd_is_whole "is_whole" = true)
    (k_is_whole : PySem.W.keepIn K (.ref f_is_whole) = true)
    (g_is_name : PySem.W.nsIn K mainGlobals "is_name" = some (some (.ref f_is_name)))
    (l_is_name : K.lookup f_is_name = some ⟨oc_is_name, od_is_name, .func (PySem.W.fnOf "is_name" "is_name" (defArgs s_is_name) (defBody s_is_name) (defScope s_is_name) .none kV_is_name dc_is_name pm_is_name an_is_name cd_is_name ct_is_name), sl_is_name⟩)
    (c_is_name : PySem.W.codeIn K cd_is_name "is_name" = true)
    (k_is_name : PySem.W.keepIn K (.ref f_is_name) = true)
    (g_are_names : PySem.W.nsIn K mainGlobals "are_names" = some (some (.ref f_are_names)))
    (l_are_names : K.lookup f_are_names = some ⟨oc_are_names, od_are_names, .func (PySem.W.fnOf "are_names" "are_names" (defArgs s_are_names) (defBody s_are_names) (defScope s_are_names) .none kV_are_names dc_are_names pm_are_names an_are_names cd_are_names ct_are_names), sl_are_names⟩)
    (c_are_names : PySem.W.codeIn K cd_are_names "are_names" = true)
    (k_are_names : PySem.W.keepIn K (.ref f_are_names) = true)
    (g_is_tree : PySem.W.nsIn K mainGlobals "is_tree" = some (some (.ref f_is_tree)))
    (l_is_tree : K.lookup f_is_tree = some ⟨oc_is_tree, od_is_tree, .func (PySem.W.fnOf "is_tree" "is_tree" (defArgs s_is_tree) (defBody s_is_tree) (defScope s_is_tree) .none kV_is_tree dc_is_tree pm_is_tree an_is_tree cd_is_tree ct_is_tree), sl_is_tree⟩)
    (c_is_tree : PySem.W.codeIn K cd_is_tree "is_tree" = true)
    (k_is_tree : PySem.W.keepIn K (.ref f_is_tree) = true)
    (g_is_end : PySem.W.nsIn K mainGlobals "is_end" = some (some (.ref f_is_end)))
    (l_is_end : K.lookup f_is_end = some ⟨oc_is_end, od_is_end, .func (PySem.W.fnOf "is_end" "is_end" (defArgs s_is_end) (defBody s_is_end) (defScope s_is_end) .none kV_is_end dc_is_end pm_is_end an_is_end cd_is_end ct_is_end), sl_is_end⟩)
    (c_is_end : PySem.W.codeIn K cd_is_end "is_end" = true)
    (k_is_end : PySem.W.keepIn K (.ref f_is_end) = true)
    (g_check_end : PySem.W.nsIn K mainGlobals "check_end" = some (some (.ref f_check_end)))
    (l_check_end : K.lookup f_check_end = some ⟨oc_check_end, od_check_end, .func (PySem.W.fnOf "check_end" "check_end" (defArgs s_check_end) (defBody s_check_end) (defScope s_check_end) .none kV_check_end dc_check_end pm_check_end an_check_end cd_check_end ct_check_end), sl_check_end⟩)
    (c_check_end : PySem.W.codeIn K cd_check_end "check_end" = true)
    (k_check_end : PySem.W.keepIn K (.ref f_check_end) = true)
    (g_are_parts : PySem.W.nsIn K mainGlobals "_are_parts" = some (some (.ref f_are_parts)))
    (l_are_parts : K.lookup f_are_parts = some ⟨oc_are_parts, od_are_parts, .func (PySem.W.fnOf "_are_parts" "_are_parts" (defArgs s_are_parts) (defBody s_are_parts) (defScope s_are_parts) .none kV_are_parts dc_are_parts pm_are_parts an_are_parts cd_are_parts ct_are_parts), sl_are_parts⟩)
    (c_are_parts : PySem.W.codeIn K cd_are_parts "_are_parts" = true)
    (k_are_parts : PySem.W.keepIn K (.ref f_are_parts) = true)
    (g_are_ranks : PySem.W.nsIn K mainGlobals "_are_ranks" = some (some (.ref f_are_ranks)))
    (l_are_ranks : K.lookup f_are_ranks = some ⟨oc_are_ranks, od_are_ranks, .func (PySem.W.fnOf "_are_ranks" "_are_ranks" (defArgs s_are_ranks) (defBody s_are_ranks) (defScope s_are_ranks) .none kV_are_ranks dc_are_ranks pm_are_ranks an_are_ranks cd_are_ranks ct_are_ranks), sl_are_ranks⟩)
    (c_are_ranks : PySem.W.codeIn K cd_are_ranks "_are_ranks" = true)
    (k_are_ranks : PySem.W.keepIn K (.ref f_are_ranks) = true)
    (g_intake_of : PySem.W.nsIn K mainGlobals "_intake_of" = some (some (.ref f_intake_of)))
    (l_intake_of : K.lookup f_intake_of = some ⟨oc_intake_of, od_intake_of, .func (PySem.W.fnOf "_intake_of" "_intake_of" (defArgs s_intake_of) (defBody s_intake_of) (defScope s_intake_of) .none kV_intake_of dc_intake_of pm_intake_of an_intake_of cd_intake_of ct_intake_of), sl_intake_of⟩)
    (c_intake_of : PySem.W.codeIn K cd_intake_of "_intake_of" = true)
    (k_intake_of : PySem.W.keepIn K (.ref f_intake_of) = true)
    (g_names_of : PySem.W.nsIn K mainGlobals "_names_of" = some (some (.ref f_names_of)))
    (l_names_of : K.lookup f_names_of = some ⟨oc_names_of, od_names_of, .func (PySem.W.fnOf "_names_of" "_names_of" (defArgs s_names_of) (defBody s_names_of) (defScope s_names_of) .none kV_names_of dc_names_of pm_names_of an_names_of cd_names_of ct_names_of), sl_names_of⟩)
    (c_names_of : PySem.W.codeIn K cd_names_of "_names_of" = true)
    (k_names_of : PySem.W.keepIn K (.ref f_names_of) = true)
    (g_are_leaves : PySem.W.nsIn K mainGlobals "_are_leaves" = some (some (.ref f_are_leaves)))
    (l_are_leaves : K.lookup f_are_leaves = some ⟨oc_are_leaves, od_are_leaves, .func (PySem.W.fnOf "_are_leaves" "_are_leaves" (defArgs s_are_leaves) (defBody s_are_leaves) (defScope s_are_leaves) .none kV_are_leaves dc_are_leaves pm_are_leaves an_are_leaves cd_are_leaves ct_are_leaves), sl_are_leaves⟩)
    (c_are_leaves : PySem.W.codeIn K cd_are_leaves "_are_leaves" = true)
    (k_are_leaves : PySem.W.keepIn K (.ref f_are_leaves) = true)
    (g_least_rank : PySem.W.nsIn K mainGlobals "least_rank" = some (some (.ref f_least_rank)))
    (l_least_rank : K.lookup f_least_rank = some ⟨oc_least_rank, od_least_rank, .func (PySem.W.fnOf "least_rank" "least_rank" (defArgs s_least_rank) (defBody s_least_rank) (defScope s_least_rank) (.ref tD_least_rank) kV_least_rank dc_least_rank pm_least_rank an_least_rank cd_least_rank ct_least_rank), sl_least_rank⟩)
    (c_least_rank : PySem.W.codeIn K cd_least_rank "least_rank" = true)
    (k_least_rank : PySem.W.keepIn K (.ref f_least_rank) = true)
    (dl_least_rank : K.lookup tD_least_rank = some ⟨oD_least_rank, eD_least_rank, .seq #[(.int 1 kD0_least_rank)] nD_least_rank, sD_least_rank⟩)
    (g_greatest_rank : PySem.W.nsIn K mainGlobals "greatest_rank" = some (some (.ref f_greatest_rank)))
    (l_greatest_rank : K.lookup f_greatest_rank = some ⟨oc_greatest_rank, od_greatest_rank, .func (PySem.W.fnOf "greatest_rank" "greatest_rank" (defArgs s_greatest_rank) (defBody s_greatest_rank) (defScope s_greatest_rank) (.ref tD_greatest_rank) kV_greatest_rank dc_greatest_rank pm_greatest_rank an_greatest_rank cd_greatest_rank ct_greatest_rank), sl_greatest_rank⟩)
    (c_greatest_rank : PySem.W.codeIn K cd_greatest_rank "greatest_rank" = true)
    (k_greatest_rank : PySem.W.keepIn K (.ref f_greatest_rank) = true)
    (dl_greatest_rank : K.lookup tD_greatest_rank = some ⟨oD_greatest_rank, eD_greatest_rank, .seq #[(.int 1 kD0_greatest_rank)] nD_greatest_rank, sD_greatest_rank⟩)
    (g_low_names : PySem.W.nsIn K mainGlobals "low_names" = some (some (.ref f_low_names)))
    (l_low_names : K.lookup f_low_names = some ⟨oc_low_names, od_low_names, .func (PySem.W.fnOf "low_names" "low_names" (defArgs s_low_names) (defBody s_low_names) (defScope s_low_names) (.ref tD_low_names) kV_low_names dc_low_names pm_low_names an_low_names cd_low_names ct_low_names), sl_low_names⟩)
    (c_low_names : PySem.W.codeIn K cd_low_names "low_names" = true)
    (k_low_names : PySem.W.keepIn K (.ref f_low_names) = true)
    (dl_low_names : K.lookup tD_low_names = some ⟨oD_low_names, eD_low_names, .seq #[(.int 1 kD0_low_names)] nD_low_names, sD_low_names⟩)
    (g_high_names : PySem.W.nsIn K mainGlobals "high_names" = some (some (.ref f_high_names)))
    (l_high_names : K.lookup f_high_names = some ⟨oc_high_names, od_high_names, .func (PySem.W.fnOf "high_names" "high_names" (defArgs s_high_names) (defBody s_high_names) (defScope s_high_names) (.ref tD_high_names) kV_high_names dc_high_names pm_high_names an_high_names cd_high_names ct_high_names), sl_high_names⟩)
    (c_high_names : PySem.W.codeIn K cd_high_names "high_names" = true)
    (k_high_names : PySem.W.keepIn K (.ref f_high_names) = true)
    (dl_high_names : K.lookup tD_high_names = some ⟨oD_high_names, eD_high_names, .seq #[(.int 1 kD0_high_names)] nD_high_names, sD_high_names⟩)
    (g_fewest : PySem.W.nsIn K mainGlobals "_fewest" = some (some (.ref f_fewest)))
    (l_fewest : K.lookup f_fewest = some ⟨oc_fewest, od_fewest, .func (PySem.W.fnOf "_fewest" "_fewest" (defArgs s_fewest) (defBody s_fewest) (defScope s_fewest) .none kV_fewest dc_fewest pm_fewest an_fewest cd_fewest ct_fewest), sl_fewest⟩)
    (c_fewest : PySem.W.codeIn K cd_fewest "_fewest" = true)
    (k_fewest : PySem.W.keepIn K (.ref f_fewest) = true)
    (g_sums_by_place : PySem.W.nsIn K mainGlobals "_sums_by_place" = some (some (.ref f_sums_by_place)))
    (l_sums_by_place : K.lookup f_sums_by_place = some ⟨oc_sums_by_place, od_sums_by_place, .func (PySem.W.fnOf "_sums_by_place" "_sums_by_place" (defArgs s_sums_by_place) (defBody s_sums_by_place) (defScope s_sums_by_place) .none kV_sums_by_place dc_sums_by_place pm_sums_by_place an_sums_by_place cd_sums_by_place ct_sums_by_place), sl_sums_by_place⟩)
    (c_sums_by_place : PySem.W.codeIn K cd_sums_by_place "_sums_by_place" = true)
    (k_sums_by_place : PySem.W.keepIn K (.ref f_sums_by_place) = true)
    (g_rank_span : PySem.W.nsIn K mainGlobals "rank_span" = some (some (.ref f_rank_span)))
    (l_rank_span : K.lookup f_rank_span = some ⟨oc_rank_span, od_rank_span, .func (PySem.W.fnOf "rank_span" "rank_span" (defArgs s_rank_span) (defBody s_rank_span) (defScope s_rank_span) (.ref tD_rank_span) kV_rank_span dc_rank_span pm_rank_span an_rank_span cd_rank_span ct_rank_span), sl_rank_span⟩)
    (c_rank_span : PySem.W.codeIn K cd_rank_span "rank_span" = true)
    (k_rank_span : PySem.W.keepIn K (.ref f_rank_span) = true)
    (dl_rank_span : K.lookup tD_rank_span = some ⟨oD_rank_span, eD_rank_span, .seq #[(.int 1 kD0_rank_span)] nD_rank_span, sD_rank_span⟩)
    (g_order_at : PySem.W.nsIn K mainGlobals "order_at" = some (some (.ref f_order_at)))
    (l_order_at : K.lookup f_order_at = some ⟨oc_order_at, od_order_at, .func (PySem.W.fnOf "order_at" "order_at" (defArgs s_order_at) (defBody s_order_at) (defScope s_order_at) (.ref tD_order_at) kV_order_at dc_order_at pm_order_at an_order_at cd_order_at ct_order_at), sl_order_at⟩)
    (c_order_at : PySem.W.codeIn K cd_order_at "order_at" = true)
    (k_order_at : PySem.W.keepIn K (.ref f_order_at) = true)
    (dl_order_at : K.lookup tD_order_at = some ⟨oD_order_at, eD_order_at, .seq #[(.int 1 kD0_order_at)] nD_order_at, sD_order_at⟩)
    (g_up_to_turn : PySem.W.nsIn K mainGlobals "_up_to_turn" = some (some (.ref f_up_to_turn)))
    (l_up_to_turn : K.lookup f_up_to_turn = some ⟨oc_up_to_turn, od_up_to_turn, .func (PySem.W.fnOf "_up_to_turn" "_up_to_turn" (defArgs s_up_to_turn) (defBody s_up_to_turn) (defScope s_up_to_turn) .none kV_up_to_turn dc_up_to_turn pm_up_to_turn an_up_to_turn cd_up_to_turn ct_up_to_turn), sl_up_to_turn⟩)
    (c_up_to_turn : PySem.W.codeIn K cd_up_to_turn "_up_to_turn" = true)
    (k_up_to_turn : PySem.W.keepIn K (.ref f_up_to_turn) = true)
    (g_law_well : PySem.W.nsIn K mainGlobals "_law_well" = some (some (.ref f_law_well)))
    (l_law_well : K.lookup f_law_well = some ⟨oc_law_well, od_law_well, .func (PySem.W.fnOf "_law_well" "_law_well" (defArgs s_law_well) (defBody s_law_well) (defScope s_law_well) .none kV_law_well dc_law_well pm_law_well an_law_well cd_law_well ct_law_well), sl_law_well⟩)
    (c_law_well : PySem.W.codeIn K cd_law_well "_law_well" = true)
    (k_law_well : PySem.W.keepIn K (.ref f_law_well) = true)
    (g_law_dip : PySem.W.nsIn K mainGlobals "_law_dip" = some (some (.ref f_law_dip)))
    (l_law_dip : K.lookup f_law_dip = some ⟨oc_law_dip, od_law_dip, .func (PySem.W.fnOf "_law_dip" "_law_dip" (defArgs s_law_dip) (defBody s_law_dip) (defScope s_law_dip) .none kV_law_dip dc_law_dip pm_law_dip an_law_dip cd_law_dip ct_law_dip), sl_law_dip⟩)
    (c_law_dip : PySem.W.codeIn K cd_law_dip "_law_dip" = true)
    (k_law_dip : PySem.W.keepIn K (.ref f_law_dip) = true)
    (g_law_words : PySem.W.nsIn K mainGlobals "_law_words" = some (some (.ref f_law_words)))
    (l_law_words : K.lookup f_law_words = some ⟨oc_law_words, od_law_words, .func (PySem.W.fnOf "_law_words" "_law_words" (defArgs s_law_words) (defBody s_law_words) (defScope s_law_words) .none kV_law_words dc_law_words pm_law_words an_law_words cd_law_words ct_law_words), sl_law_words⟩)
    (c_law_words : PySem.W.codeIn K cd_law_words "_law_words" = true)
    (k_law_words : PySem.W.keepIn K (.ref f_law_words) = true)
    (g_law_ranks : PySem.W.nsIn K mainGlobals "_law_ranks" = some (some (.ref f_law_ranks)))
    (l_law_ranks : K.lookup f_law_ranks = some ⟨oc_law_ranks, od_law_ranks, .func (PySem.W.fnOf "_law_ranks" "_law_ranks" (defArgs s_law_ranks) (defBody s_law_ranks) (defScope s_law_ranks) .none kV_law_ranks dc_law_ranks pm_law_ranks an_law_ranks cd_law_ranks ct_law_ranks), sl_law_ranks⟩)
    (c_law_ranks : PySem.W.codeIn K cd_law_ranks "_law_ranks" = true)
    (k_law_ranks : PySem.W.keepIn K (.ref f_law_ranks) = true)
    (g_law_width : PySem.W.nsIn K mainGlobals "_law_width" = some (some (.ref f_law_width)))
    (l_law_width : K.lookup f_law_width = some ⟨oc_law_width, od_law_width, .func (PySem.W.fnOf "_law_width" "_law_width" (defArgs s_law_width) (defBody s_law_width) (defScope s_law_width) .none kV_law_width dc_law_width pm_law_width an_law_width cd_law_width ct_law_width), sl_law_width⟩)
    (c_law_width : PySem.W.codeIn K cd_law_width "_law_width" = true)
    (k_law_width : PySem.W.keepIn K (.ref f_law_width) = true)
    (g_law_group : PySem.W.nsIn K mainGlobals "_law_group" = some (some (.ref f_law_group)))
    (l_law_group : K.lookup f_law_group = some ⟨oc_law_group, od_law_group, .func (PySem.W.fnOf "_law_group" "_law_group" (defArgs s_law_group) (defBody s_law_group) (defScope s_law_group) .none kV_law_group dc_law_group pm_law_group an_law_group cd_law_group ct_law_group), sl_law_group⟩)
    (c_law_group : PySem.W.codeIn K cd_law_group "_law_group" = true)
    (k_law_group : PySem.W.keepIn K (.ref f_law_group) = true)
    (g_law_tree : PySem.W.nsIn K mainGlobals "_law_tree" = some (some (.ref f_law_tree)))
    (l_law_tree : K.lookup f_law_tree = some ⟨oc_law_tree, od_law_tree, .func (PySem.W.fnOf "_law_tree" "_law_tree" (defArgs s_law_tree) (defBody s_law_tree) (defScope s_law_tree) .none kV_law_tree dc_law_tree pm_law_tree an_law_tree cd_law_tree ct_law_tree), sl_law_tree⟩)
    (c_law_tree : PySem.W.codeIn K cd_law_tree "_law_tree" = true)
    (k_law_tree : PySem.W.keepIn K (.ref f_law_tree) = true)
    (g_law_made : PySem.W.nsIn K mainGlobals "_law_made" = some (some (.ref f_law_made)))
    (l_law_made : K.lookup f_law_made = some ⟨oc_law_made, od_law_made, .func (PySem.W.fnOf "_law_made" "_law_made" (defArgs s_law_made) (defBody s_law_made) (defScope s_law_made) .none kV_law_made dc_law_made pm_law_made an_law_made cd_law_made ct_law_made), sl_law_made⟩)
    (c_law_made : PySem.W.codeIn K cd_law_made "_law_made" = true)
    (k_law_made : PySem.W.keepIn K (.ref f_law_made) = true)
    (g_law_ends : PySem.W.nsIn K mainGlobals "_law_ends" = some (some (.ref f_law_ends)))
    (l_law_ends : K.lookup f_law_ends = some ⟨oc_law_ends, od_law_ends, .func (PySem.W.fnOf "_law_ends" "_law_ends" (defArgs s_law_ends) (defBody s_law_ends) (defScope s_law_ends) .none kV_law_ends dc_law_ends pm_law_ends an_law_ends cd_law_ends ct_law_ends), sl_law_ends⟩)
    (c_law_ends : PySem.W.codeIn K cd_law_ends "_law_ends" = true)
    (k_law_ends : PySem.W.keepIn K (.ref f_law_ends) = true)
    (g_law_right : PySem.W.nsIn K mainGlobals "_law_right" = some (some (.ref f_law_right)))
    (l_law_right : K.lookup f_law_right = some ⟨oc_law_right, od_law_right, .func (PySem.W.fnOf "_law_right" "_law_right" (defArgs s_law_right) (defBody s_law_right) (defScope s_law_right) .none kV_law_right dc_law_right pm_law_right an_law_right cd_law_right ct_law_right), sl_law_right⟩)
    (c_law_right : PySem.W.codeIn K cd_law_right "_law_right" = true)
    (k_law_right : PySem.W.keepIn K (.ref f_law_right) = true)
    (g_law : PySem.W.nsIn K mainGlobals "law" = some (some (.ref f_law)))
    (l_law : K.lookup f_law = some ⟨oc_law, od_law, .func (PySem.W.fnOf "law" "law" (defArgs s_law) (defBody s_law) (defScope s_law) .none kV_law dc_law pm_law an_law cd_law ct_law), sl_law⟩)
    (c_law : PySem.W.codeIn K cd_law "law" = true)
    (k_law : PySem.W.keepIn K (.ref f_law) = true)
    : Txt K mg where
  m_len := PySem.W.mg_none_of X G z_len
  m_int := PySem.W.mg_none_of X G z_int
  m_range := PySem.W.mg_none_of X G z_range
  m_sum := PySem.W.mg_none_of X G z_sum
  m_all := PySem.W.mg_none_of X G z_all
  m_isinstance := PySem.W.mg_none_of X G z_isinstance
  m_sorted := PySem.W.mg_none_of X G z_sorted
  m_list := PySem.W.mg_none_of X G z_list
  m_set := PySem.W.mg_none_of X G z_set
  m_zip := PySem.W.mg_none_of X G z_zip
  m_bool := PySem.W.mg_none_of X G z_bool
  m_str := PySem.W.mg_none_of X G z_str
  m_min := PySem.W.mg_none_of X G z_min
  m_enumerate := PySem.W.mg_none_of X G z_enumerate
  m_TypeError := PySem.W.mg_none_of X G z_TypeError
  m_ValueError := PySem.W.mg_none_of X G z_ValueError
  a_RankError := a_RankError
  m_RankError := PySem.W.mg_of X G g_RankError
  a_InvalidName := a_InvalidName
  m_InvalidName := PySem.W.mg_of X G g_InvalidName
  a_InvalidNumber := a_InvalidNumber
  m_InvalidNumber := PySem.W.mg_of X G g_InvalidNumber
  a_InvalidTree := a_InvalidTree
  m_InvalidTree := PySem.W.mg_of X G g_InvalidTree
  a_InvalidList := a_InvalidList
  m_InvalidList := PySem.W.mg_of X G g_InvalidList
  a_Tree := a_Tree
  m_Tree := PySem.W.mg_of X G g_Tree
  a_Leaf := a_Leaf
  m_Leaf := PySem.W.mg_of X G g_Leaf
  a_Group := a_Group
  m_Group := PySem.W.mg_of X G g_Group
  f_Leaf_init := f_Leaf_init
  d_Leaf_init := PySem.W.fnOf "__init__" "Leaf.__init__" (defArgs s_Leaf_init) (defBody s_Leaf_init) (defScope s_Leaf_init) .none kV_Leaf_init dc_Leaf_init pm_Leaf_init an_Leaf_init cd_Leaf_init ct_Leaf_init
  F_Leaf_init := fun_mk l_Leaf_init c_Leaf_init k_Leaf_init
  b_Leaf_init := (fun_mk (st := s_Leaf_init) l_Leaf_init c_Leaf_init k_Leaf_init).binds (ps := ["self", "name"]) fun _ _ _ _ _ _ us hl => match us, hl with | [_, _], _ => rfl
  M_Leaf_init := ⟨at_Leaf_init, i_Leaf_init, k_Leaf_init⟩
  f_Leaf_name := f_Leaf_name
  d_Leaf_name := PySem.W.fnOf "name" "Leaf.name" (defArgs s_Leaf_name) (defBody s_Leaf_name) (defScope s_Leaf_name) .none kV_Leaf_name dc_Leaf_name pm_Leaf_name an_Leaf_name cd_Leaf_name ct_Leaf_name
  p_Leaf_name := p_Leaf_name
  P_Leaf_name := ⟨at_Leaf_name, gt_Leaf_name, tk_Leaf_name, ⟨_, rc_Leaf_name⟩⟩
  F_Leaf_name := fun_mk l_Leaf_name c_Leaf_name k_Leaf_name
  b_Leaf_name := (fun_mk (st := s_Leaf_name) l_Leaf_name c_Leaf_name k_Leaf_name).binds (ps := ["self"]) fun _ _ _ _ _ _ us hl => match us, hl with | [_], _ => rfl
  f_Leaf_width := f_Leaf_width
  d_Leaf_width := PySem.W.fnOf "width" "Leaf.width" (defArgs s_Leaf_width) (defBody s_Leaf_width) (defScope s_Leaf_width) .none kV_Leaf_width dc_Leaf_width pm_Leaf_width an_Leaf_width cd_Leaf_width ct_Leaf_width
  p_Leaf_width := p_Leaf_width
  P_Leaf_width := ⟨at_Leaf_width, gt_Leaf_width, tk_Leaf_width, ⟨_, rc_Leaf_width⟩⟩
  F_Leaf_width := fun_mk l_Leaf_width c_Leaf_width k_Leaf_width
  b_Leaf_width := (fun_mk (st := s_Leaf_width) l_Leaf_width c_Leaf_width k_Leaf_width).binds (ps := ["self"]) fun _ _ _ _ _ _ us hl => match us, hl with | [_], _ => rfl
  f_Leaf_len := f_Leaf_len
  d_Leaf_len := PySem.W.fnOf "__len__" "Leaf.__len__" (defArgs s_Leaf_len) (defBody s_Leaf_len) (defScope s_Leaf_len) .none kV_Leaf_len dc_Leaf_len pm_Leaf_len an_Leaf_len cd_Leaf_len ct_Leaf_len
  F_Leaf_len := fun_mk l_Leaf_len c_Leaf_len k_Leaf_len
  b_Leaf_len := (fun_mk (st := s_Leaf_len) l_Leaf_len c_Leaf_len k_Leaf_len).binds (ps := ["self"]) fun _ _ _ _ _ _ us hl => match us, hl with | [_], _ => rfl
  M_Leaf_len := ⟨at_Leaf_len, i_Leaf_len, k_Leaf_len⟩
  f_Leaf_contains := f_Leaf_contains
  d_Leaf_contains := PySem.W.fnOf "__contains__" "Leaf.__contains__" (defArgs s_Leaf_contains) (defBody s_Leaf_contains) (defScope s_Leaf_contains) .none kV_Leaf_contains dc_Leaf_contains pm_Leaf_contains an_Leaf_contains cd_Leaf_contains ct_Leaf_contains
  F_Leaf_contains := fun_mk l_Leaf_contains c_Leaf_contains k_Leaf_contains
  b_Leaf_contains := (fun_mk (st := s_Leaf_contains) l_Leaf_contains c_Leaf_contains k_Leaf_contains).binds (ps := ["self", "name"]) fun _ _ _ _ _ _ us hl => match us, hl with | [_, _], _ => rfl
  M_Leaf_contains := ⟨at_Leaf_contains, i_Leaf_contains, k_Leaf_contains⟩
  f_Leaf_eq := f_Leaf_eq
  d_Leaf_eq := PySem.W.fnOf "__eq__" "Leaf.__eq__" (defArgs s_Leaf_eq) (defBody s_Leaf_eq) (defScope s_Leaf_eq) .none kV_Leaf_eq dc_Leaf_eq pm_Leaf_eq an_Leaf_eq cd_Leaf_eq ct_Leaf_eq
  F_Leaf_eq := fun_mk l_Leaf_eq c_Leaf_eq k_Leaf_eq
  b_Leaf_eq := (fun_mk (st := s_Leaf_eq) l_Leaf_eq c_Leaf_eq k_Leaf_eq).binds (ps := ["self", "other"]) fun _ _ _ _ _ _ us hl => match us, hl with | [_, _], _ => rfl
  M_Leaf_eq := ⟨at_Leaf_eq, i_Leaf_eq, k_Leaf_eq⟩
  f_Leaf_names := f_Leaf_names
  d_Leaf_names := PySem.W.fnOf "names" "Leaf.names" (defArgs s_Leaf_names) (defBody s_Leaf_names) (defScope s_Leaf_names) .none kV_Leaf_names dc_Leaf_names pm_Leaf_names an_Leaf_names cd_Leaf_names ct_Leaf_names
  F_Leaf_names := fun_mk l_Leaf_names c_Leaf_names k_Leaf_names
  b_Leaf_names := (fun_mk (st := s_Leaf_names) l_Leaf_names c_Leaf_names k_Leaf_names).binds (ps := ["self"]) fun _ _ _ _ _ _ us hl => match us, hl with | [_], _ => rfl
  M_Leaf_names := ⟨at_Leaf_names, i_Leaf_names, k_Leaf_names⟩
  f_Leaf_passes := f_Leaf_passes
  d_Leaf_passes := PySem.W.fnOf "passes" "Leaf.passes" (defArgs s_Leaf_passes) (defBody s_Leaf_passes) (defScope s_Leaf_passes) .none kV_Leaf_passes dc_Leaf_passes pm_Leaf_passes an_Leaf_passes cd_Leaf_passes ct_Leaf_passes
  F_Leaf_passes := fun_mk l_Leaf_passes c_Leaf_passes k_Leaf_passes
  b_Leaf_passes := (fun_mk (st := s_Leaf_passes) l_Leaf_passes c_Leaf_passes k_Leaf_passes).binds (ps := ["self", "names"]) fun _ _ _ _ _ _ us hl => match us, hl with | [_, _], _ => rfl
  M_Leaf_passes := ⟨at_Leaf_passes, i_Leaf_passes, k_Leaf_passes⟩
  f_Leaf_nodes := f_Leaf_nodes
  d_Leaf_nodes := PySem.W.fnOf "nodes" "Leaf.nodes" (defArgs s_Leaf_nodes) (defBody s_Leaf_nodes) (defScope s_Leaf_nodes) .none kV_Leaf_nodes dc_Leaf_nodes pm_Leaf_nodes an_Leaf_nodes cd_Leaf_nodes ct_Leaf_nodes
  F_Leaf_nodes := fun_mk l_Leaf_nodes c_Leaf_nodes k_Leaf_nodes
  b_Leaf_nodes := (fun_mk (st := s_Leaf_nodes) l_Leaf_nodes c_Leaf_nodes k_Leaf_nodes).binds (ps := ["self"]) fun _ _ _ _ _ _ us hl => match us, hl with | [_], _ => rfl
  M_Leaf_nodes := ⟨at_Leaf_nodes, i_Leaf_nodes, k_Leaf_nodes⟩
  f_Leaf_mirror := f_Leaf_mirror
  d_Leaf_mirror := PySem.W.fnOf "mirror" "Leaf.mirror" (defArgs s_Leaf_mirror) (defBody s_Leaf_mirror) (defScope s_Leaf_mirror) .none kV_Leaf_mirror dc_Leaf_mirror pm_Leaf_mirror an_Leaf_mirror cd_Leaf_mirror ct_Leaf_mirror
  F_Leaf_mirror := fun_mk l_Leaf_mirror c_Leaf_mirror k_Leaf_mirror
  b_Leaf_mirror := (fun_mk (st := s_Leaf_mirror) l_Leaf_mirror c_Leaf_mirror k_Leaf_mirror).binds (ps := ["self"]) fun _ _ _ _ _ _ us hl => match us, hl with | [_], _ => rfl
  M_Leaf_mirror := ⟨at_Leaf_mirror, i_Leaf_mirror, k_Leaf_mirror⟩
  f_Leaf__low_ends := f_Leaf__low_ends
  d_Leaf__low_ends := PySem.W.fnOf "_low_ends" "Leaf._low_ends" (defArgs s_Leaf__low_ends) (defBody s_Leaf__low_ends) (defScope s_Leaf__low_ends) .none kV_Leaf__low_ends dc_Leaf__low_ends pm_Leaf__low_ends an_Leaf__low_ends cd_Leaf__low_ends ct_Leaf__low_ends
  F_Leaf__low_ends := fun_mk l_Leaf__low_ends c_Leaf__low_ends k_Leaf__low_ends
  b_Leaf__low_ends := (fun_mk (st := s_Leaf__low_ends) l_Leaf__low_ends c_Leaf__low_ends k_Leaf__low_ends).binds (ps := ["self", "low"]) fun _ _ _ _ _ _ us hl => match us, hl with | [_, _], _ => rfl
  M_Leaf__low_ends := ⟨at_Leaf__low_ends, i_Leaf__low_ends, k_Leaf__low_ends⟩
  c_Leaf := ⟨pg_Leaf, hd_Leaf, po_Leaf, sa_Leaf⟩
  M_Leaf := ⟨mk_Leaf, at_Leaf_init, i_Leaf_init, kc_Leaf⟩
  ca_Leaf := ca_Leaf
  mo_Leaf := mo_Leaf
  ne_Leaf := ne_Leaf
  n_Leaf_name := n_Leaf_name
  f_Group_init := f_Group_init
  d_Group_init := PySem.W.fnOf "__init__" "Group.__init__" (defArgs s_Group_init) (defBody s_Group_init) (defScope s_Group_init) .none kV_Group_init dc_Group_init pm_Group_init an_Group_init cd_Group_init ct_Group_init
  F_Group_init := fun_mk l_Group_init c_Group_init k_Group_init
  b_Group_init := (fun_mk (st := s_Group_init) l_Group_init c_Group_init k_Group_init).binds (ps := ["self", "ranks", "parts"]) fun _ _ _ _ _ _ us hl => match us, hl with | [_, _, _], _ => rfl
  M_Group_init := ⟨at_Group_init, i_Group_init, k_Group_init⟩
  f_Group_ranks := f_Group_ranks
  d_Group_ranks := PySem.W.fnOf "ranks" "Group.ranks" (defArgs s_Group_ranks) (defBody s_Group_ranks) (defScope s_Group_ranks) .none kV_Group_ranks dc_Group_ranks pm_Group_ranks an_Group_ranks cd_Group_ranks ct_Group_ranks
  p_Group_ranks := p_Group_ranks
  P_Group_ranks := ⟨at_Group_ranks, gt_Group_ranks, tk_Group_ranks, ⟨_, rc_Group_ranks⟩⟩
  F_Group_ranks := fun_mk l_Group_ranks c_Group_ranks k_Group_ranks
  b_Group_ranks := (fun_mk (st := s_Group_ranks) l_Group_ranks c_Group_ranks k_Group_ranks).binds (ps := ["self"]) fun _ _ _ _ _ _ us hl => match us, hl with | [_], _ => rfl
  f_Group_parts := f_Group_parts
  d_Group_parts := PySem.W.fnOf "parts" "Group.parts" (defArgs s_Group_parts) (defBody s_Group_parts) (defScope s_Group_parts) .none kV_Group_parts dc_Group_parts pm_Group_parts an_Group_parts cd_Group_parts ct_Group_parts
  p_Group_parts := p_Group_parts
  P_Group_parts := ⟨at_Group_parts, gt_Group_parts, tk_Group_parts, ⟨_, rc_Group_parts⟩⟩
  F_Group_parts := fun_mk l_Group_parts c_Group_parts k_Group_parts
  b_Group_parts := (fun_mk (st := s_Group_parts) l_Group_parts c_Group_parts k_Group_parts).binds (ps := ["self"]) fun _ _ _ _ _ _ us hl => match us, hl with | [_], _ => rfl
  f_Group_intake := f_Group_intake
  d_Group_intake := PySem.W.fnOf "intake" "Group.intake" (defArgs s_Group_intake) (defBody s_Group_intake) (defScope s_Group_intake) .none kV_Group_intake dc_Group_intake pm_Group_intake an_Group_intake cd_Group_intake ct_Group_intake
  p_Group_intake := p_Group_intake
  P_Group_intake := ⟨at_Group_intake, gt_Group_intake, tk_Group_intake, ⟨_, rc_Group_intake⟩⟩
  F_Group_intake := fun_mk l_Group_intake c_Group_intake k_Group_intake
  b_Group_intake := (fun_mk (st := s_Group_intake) l_Group_intake c_Group_intake k_Group_intake).binds (ps := ["self"]) fun _ _ _ _ _ _ us hl => match us, hl with | [_], _ => rfl
  f_Group_width := f_Group_width
  d_Group_width := PySem.W.fnOf "width" "Group.width" (defArgs s_Group_width) (defBody s_Group_width) (defScope s_Group_width) .none kV_Group_width dc_Group_width pm_Group_width an_Group_width cd_Group_width ct_Group_width
  p_Group_width := p_Group_width
  P_Group_width := ⟨at_Group_width, gt_Group_width, tk_Group_width, ⟨_, rc_Group_width⟩⟩
  F_Group_width := fun_mk l_Group_width c_Group_width k_Group_width
  b_Group_width := (fun_mk (st := s_Group_width) l_Group_width c_Group_width k_Group_width).binds (ps := ["self"]) fun _ _ _ _ _ _ us hl => match us, hl with | [_], _ => rfl
  f_Group_len := f_Group_len
  d_Group_len := PySem.W.fnOf "__len__" "Group.__len__" (defArgs s_Group_len) (defBody s_Group_len) (defScope s_Group_len) .none kV_Group_len dc_Group_len pm_Group_len an_Group_len cd_Group_len ct_Group_len
  F_Group_len := fun_mk l_Group_len c_Group_len k_Group_len
  b_Group_len := (fun_mk (st := s_Group_len) l_Group_len c_Group_len k_Group_len).binds (ps := ["self"]) fun _ _ _ _ _ _ us hl => match us, hl with | [_], _ => rfl
  M_Group_len := ⟨at_Group_len, i_Group_len, k_Group_len⟩
  f_Group_contains := f_Group_contains
  d_Group_contains := PySem.W.fnOf "__contains__" "Group.__contains__" (defArgs s_Group_contains) (defBody s_Group_contains) (defScope s_Group_contains) .none kV_Group_contains dc_Group_contains pm_Group_contains an_Group_contains cd_Group_contains ct_Group_contains
  F_Group_contains := fun_mk l_Group_contains c_Group_contains k_Group_contains
  b_Group_contains := (fun_mk (st := s_Group_contains) l_Group_contains c_Group_contains k_Group_contains).binds (ps := ["self", "name"]) fun _ _ _ _ _ _ us hl => match us, hl with | [_, _], _ => rfl
  M_Group_contains := ⟨at_Group_contains, i_Group_contains, k_Group_contains⟩
  f_Group_eq := f_Group_eq
  d_Group_eq := PySem.W.fnOf "__eq__" "Group.__eq__" (defArgs s_Group_eq) (defBody s_Group_eq) (defScope s_Group_eq) .none kV_Group_eq dc_Group_eq pm_Group_eq an_Group_eq cd_Group_eq ct_Group_eq
  F_Group_eq := fun_mk l_Group_eq c_Group_eq k_Group_eq
  b_Group_eq := (fun_mk (st := s_Group_eq) l_Group_eq c_Group_eq k_Group_eq).binds (ps := ["self", "other"]) fun _ _ _ _ _ _ us hl => match us, hl with | [_, _], _ => rfl
  M_Group_eq := ⟨at_Group_eq, i_Group_eq, k_Group_eq⟩
  f_Group_getitem := f_Group_getitem
  d_Group_getitem := PySem.W.fnOf "__getitem__" "Group.__getitem__" (defArgs s_Group_getitem) (defBody s_Group_getitem) (defScope s_Group_getitem) .none kV_Group_getitem dc_Group_getitem pm_Group_getitem an_Group_getitem cd_Group_getitem ct_Group_getitem
  F_Group_getitem := fun_mk l_Group_getitem c_Group_getitem k_Group_getitem
  b_Group_getitem := (fun_mk (st := s_Group_getitem) l_Group_getitem c_Group_getitem k_Group_getitem).binds (ps := ["self", "k"]) fun _ _ _ _ _ _ us hl => match us, hl with | [_, _], _ => rfl
  M_Group_getitem := ⟨at_Group_getitem, i_Group_getitem, k_Group_getitem⟩
  f_Group_iter := f_Group_iter
  d_Group_iter := PySem.W.fnOf "__iter__" "Group.__iter__" (defArgs s_Group_iter) (defBody s_Group_iter) (defScope s_Group_iter) .none kV_Group_iter dc_Group_iter pm_Group_iter an_Group_iter cd_Group_iter ct_Group_iter
  F_Group_iter := fun_mk l_Group_iter c_Group_iter k_Group_iter
  b_Group_iter := (fun_mk (st := s_Group_iter) l_Group_iter c_Group_iter k_Group_iter).binds (ps := ["self"]) fun _ _ _ _ _ _ us hl => match us, hl with | [_], _ => rfl
  M_Group_iter := ⟨at_Group_iter, i_Group_iter, k_Group_iter⟩
  f_Group_names := f_Group_names
  d_Group_names := PySem.W.fnOf "names" "Group.names" (defArgs s_Group_names) (defBody s_Group_names) (defScope s_Group_names) .none kV_Group_names dc_Group_names pm_Group_names an_Group_names cd_Group_names ct_Group_names
  F_Group_names := fun_mk l_Group_names c_Group_names k_Group_names
  b_Group_names := (fun_mk (st := s_Group_names) l_Group_names c_Group_names k_Group_names).binds (ps := ["self"]) fun _ _ _ _ _ _ us hl => match us, hl with | [_], _ => rfl
  M_Group_names := ⟨at_Group_names, i_Group_names, k_Group_names⟩
  f_Group_passes := f_Group_passes
  d_Group_passes := PySem.W.fnOf "passes" "Group.passes" (defArgs s_Group_passes) (defBody s_Group_passes) (defScope s_Group_passes) .none kV_Group_passes dc_Group_passes pm_Group_passes an_Group_passes cd_Group_passes ct_Group_passes
  F_Group_passes := fun_mk l_Group_passes c_Group_passes k_Group_passes
  b_Group_passes := (fun_mk (st := s_Group_passes) l_Group_passes c_Group_passes k_Group_passes).binds (ps := ["self", "names"]) fun _ _ _ _ _ _ us hl => match us, hl with | [_, _], _ => rfl
  M_Group_passes := ⟨at_Group_passes, i_Group_passes, k_Group_passes⟩
  f_Group_nodes := f_Group_nodes
  d_Group_nodes := PySem.W.fnOf "nodes" "Group.nodes" (defArgs s_Group_nodes) (defBody s_Group_nodes) (defScope s_Group_nodes) .none kV_Group_nodes dc_Group_nodes pm_Group_nodes an_Group_nodes cd_Group_nodes ct_Group_nodes
  F_Group_nodes := fun_mk l_Group_nodes c_Group_nodes k_Group_nodes
  b_Group_nodes := (fun_mk (st := s_Group_nodes) l_Group_nodes c_Group_nodes k_Group_nodes).binds (ps := ["self"]) fun _ _ _ _ _ _ us hl => match us, hl with | [_], _ => rfl
  M_Group_nodes := ⟨at_Group_nodes, i_Group_nodes, k_Group_nodes⟩
  f_Group_mirror := f_Group_mirror
  d_Group_mirror := PySem.W.fnOf "mirror" "Group.mirror" (defArgs s_Group_mirror) (defBody s_Group_mirror) (defScope s_Group_mirror) .none kV_Group_mirror dc_Group_mirror pm_Group_mirror an_Group_mirror cd_Group_mirror ct_Group_mirror
  F_Group_mirror := fun_mk l_Group_mirror c_Group_mirror k_Group_mirror
  b_Group_mirror := (fun_mk (st := s_Group_mirror) l_Group_mirror c_Group_mirror k_Group_mirror).binds (ps := ["self"]) fun _ _ _ _ _ _ us hl => match us, hl with | [_], _ => rfl
  M_Group_mirror := ⟨at_Group_mirror, i_Group_mirror, k_Group_mirror⟩
  f_Group__low_ends := f_Group__low_ends
  d_Group__low_ends := PySem.W.fnOf "_low_ends" "Group._low_ends" (defArgs s_Group__low_ends) (defBody s_Group__low_ends) (defScope s_Group__low_ends) .none kV_Group__low_ends dc_Group__low_ends pm_Group__low_ends an_Group__low_ends cd_Group__low_ends ct_Group__low_ends
  F_Group__low_ends := fun_mk l_Group__low_ends c_Group__low_ends k_Group__low_ends
  b_Group__low_ends := (fun_mk (st := s_Group__low_ends) l_Group__low_ends c_Group__low_ends k_Group__low_ends).binds (ps := ["self", "low"]) fun _ _ _ _ _ _ us hl => match us, hl with | [_, _], _ => rfl
  M_Group__low_ends := ⟨at_Group__low_ends, i_Group__low_ends, k_Group__low_ends⟩
  c_Group := ⟨pg_Group, hd_Group, po_Group, sa_Group⟩
  M_Group := ⟨mk_Group, at_Group_init, i_Group_init, kc_Group⟩
  ca_Group := ca_Group
  mo_Group := mo_Group
  ne_Group := ne_Group
  n_Group_intake := n_Group_intake
  n_Group_names := n_Group_names
  n_Group_parts := n_Group_parts
  n_Group_ranks := n_Group_ranks
  gc := gc
  tc := tc
  q_Group := q_Group
  is_Leaf_Group := kit_ref dx_Leaf_Group ic_Group it_Group is_Leaf_Group
  is_Leaf_list := kit_type (by decide +kernel) is_Leaf_list
  is_Leaf_int := kit_type (by decide +kernel) is_Leaf_int
  is_Leaf_bool := kit_type (by decide +kernel) is_Leaf_bool
  is_Leaf_str := kit_type (by decide +kernel) is_Leaf_str
  ib_NoneType_Leaf := kit_bref ic_Leaf it_Leaf (by rfl)
  ib_int_Leaf := kit_bref ic_Leaf it_Leaf (by rfl)
  ib_bool_Leaf := kit_bref ic_Leaf it_Leaf (by rfl)
  ib_str_Leaf := kit_bref ic_Leaf it_Leaf (by rfl)
  ib_list_Leaf := kit_bref ic_Leaf it_Leaf (by rfl)
  ib_tuple_Leaf := kit_bref ic_Leaf it_Leaf (by rfl)
  ib_dict_Leaf := kit_bref ic_Leaf it_Leaf (by rfl)
  is_Group_Leaf := kit_ref dx_Group_Leaf ic_Leaf it_Leaf is_Group_Leaf
  is_Group_list := kit_type (by decide +kernel) is_Group_list
  is_Group_int := kit_type (by decide +kernel) is_Group_int
  is_Group_bool := kit_type (by decide +kernel) is_Group_bool
  is_Group_str := kit_type (by decide +kernel) is_Group_str
  ib_NoneType_Group := kit_bref ic_Group it_Group (by rfl)
  ib_int_Group := kit_bref ic_Group it_Group (by rfl)
  ib_bool_Group := kit_bref ic_Group it_Group (by rfl)
  ib_str_Group := kit_bref ic_Group it_Group (by rfl)
  ib_list_Group := kit_bref ic_Group it_Group (by rfl)
  ib_tuple_Group := kit_bref ic_Group it_Group (by rfl)
  ib_dict_Group := kit_bref ic_Group it_Group (by rfl)
  f_is_whole := f_is_whole
  d_is_whole := PySem.W.fnOf "is_whole" "is_whole" (defArgs s_is_whole) (defBody s_is_whole) (defScope s_is_whole) .none kV_is_whole dc_is_whole pm_is_whole an_is_whole cd_is_whole ct_is_whole
  m_is_whole := PySem.W.mg_of X G g_is_whole
  F_is_whole := fun_mk l_is_whole c_is_whole k_is_whole
  b_is_whole := (fun_mk (st := s_is_whole) l_is_whole c_is_whole k_is_whole).binds (ps := ["value"]) fun _ _ _ _ _ _ us hl => match us, hl with | [_], _ => rfl
  f_is_name := f_is_name
  d_is_name := PySem.W.fnOf "is_name" "is_name" (defArgs s_is_name) (defBody s_is_name) (defScope s_is_name) .none kV_is_name dc_is_name pm_is_name an_is_name cd_is_name ct_is_name
  m_is_name := PySem.W.mg_of X G g_is_name
  F_is_name := fun_mk l_is_name c_is_name k_is_name
  b_is_name := (fun_mk (st := s_is_name) l_is_name c_is_name k_is_name).binds (ps := ["value"]) fun _ _ _ _ _ _ us hl => match us, hl with | [_], _ => rfl
  f_are_names := f_are_names
  d_are_names := PySem.W.fnOf "are_names" "are_names" (defArgs s_are_names) (defBody s_are_names) (defScope s_are_names) .none kV_are_names dc_are_names pm_are_names an_are_names cd_are_names ct_are_names
  m_are_names := PySem.W.mg_of X G g_are_names
  F_are_names := fun_mk l_are_names c_are_names k_are_names
  b_are_names := (fun_mk (st := s_are_names) l_are_names c_are_names k_are_names).binds (ps := ["value"]) fun _ _ _ _ _ _ us hl => match us, hl with | [_], _ => rfl
  f_is_tree := f_is_tree
  d_is_tree := PySem.W.fnOf "is_tree" "is_tree" (defArgs s_is_tree) (defBody s_is_tree) (defScope s_is_tree) .none kV_is_tree dc_is_tree pm_is_tree an_is_tree cd_is_tree ct_is_tree
  m_is_tree := PySem.W.mg_of X G g_is_tree
  F_is_tree := fun_mk l_is_tree c_is_tree k_is_tree
  b_is_tree := (fun_mk (st := s_is_tree) l_is_tree c_is_tree k_is_tree).binds (ps := ["value"]) fun _ _ _ _ _ _ us hl => match us, hl with | [_], _ => rfl
  f_is_end := f_is_end
  d_is_end := PySem.W.fnOf "is_end" "is_end" (defArgs s_is_end) (defBody s_is_end) (defScope s_is_end) .none kV_is_end dc_is_end pm_is_end an_is_end cd_is_end ct_is_end
  m_is_end := PySem.W.mg_of X G g_is_end
  F_is_end := fun_mk l_is_end c_is_end k_is_end
  b_is_end := (fun_mk (st := s_is_end) l_is_end c_is_end k_is_end).binds (ps := ["tree", "j"]) fun _ _ _ _ _ _ us hl => match us, hl with | [_, _], _ => rfl
  f_check_end := f_check_end
  d_check_end := PySem.W.fnOf "check_end" "check_end" (defArgs s_check_end) (defBody s_check_end) (defScope s_check_end) .none kV_check_end dc_check_end pm_check_end an_check_end cd_check_end ct_check_end
  m_check_end := PySem.W.mg_of X G g_check_end
  F_check_end := fun_mk l_check_end c_check_end k_check_end
  b_check_end := (fun_mk (st := s_check_end) l_check_end c_check_end k_check_end).binds (ps := ["tree", "j"]) fun _ _ _ _ _ _ us hl => match us, hl with | [_, _], _ => rfl
  f_are_parts := f_are_parts
  d_are_parts := PySem.W.fnOf "_are_parts" "_are_parts" (defArgs s_are_parts) (defBody s_are_parts) (defScope s_are_parts) .none kV_are_parts dc_are_parts pm_are_parts an_are_parts cd_are_parts ct_are_parts
  m_are_parts := PySem.W.mg_of X G g_are_parts
  F_are_parts := fun_mk l_are_parts c_are_parts k_are_parts
  b_are_parts := (fun_mk (st := s_are_parts) l_are_parts c_are_parts k_are_parts).binds (ps := ["value"]) fun _ _ _ _ _ _ us hl => match us, hl with | [_], _ => rfl
  f_are_ranks := f_are_ranks
  d_are_ranks := PySem.W.fnOf "_are_ranks" "_are_ranks" (defArgs s_are_ranks) (defBody s_are_ranks) (defScope s_are_ranks) .none kV_are_ranks dc_are_ranks pm_are_ranks an_are_ranks cd_are_ranks ct_are_ranks
  m_are_ranks := PySem.W.mg_of X G g_are_ranks
  F_are_ranks := fun_mk l_are_ranks c_are_ranks k_are_ranks
  b_are_ranks := (fun_mk (st := s_are_ranks) l_are_ranks c_are_ranks k_are_ranks).binds (ps := ["value", "intake"]) fun _ _ _ _ _ _ us hl => match us, hl with | [_, _], _ => rfl
  f_intake_of := f_intake_of
  d_intake_of := PySem.W.fnOf "_intake_of" "_intake_of" (defArgs s_intake_of) (defBody s_intake_of) (defScope s_intake_of) .none kV_intake_of dc_intake_of pm_intake_of an_intake_of cd_intake_of ct_intake_of
  m_intake_of := PySem.W.mg_of X G g_intake_of
  F_intake_of := fun_mk l_intake_of c_intake_of k_intake_of
  b_intake_of := (fun_mk (st := s_intake_of) l_intake_of c_intake_of k_intake_of).binds (ps := ["parts"]) fun _ _ _ _ _ _ us hl => match us, hl with | [_], _ => rfl
  f_names_of := f_names_of
  d_names_of := PySem.W.fnOf "_names_of" "_names_of" (defArgs s_names_of) (defBody s_names_of) (defScope s_names_of) .none kV_names_of dc_names_of pm_names_of an_names_of cd_names_of ct_names_of
  m_names_of := PySem.W.mg_of X G g_names_of
  F_names_of := fun_mk l_names_of c_names_of k_names_of
  b_names_of := (fun_mk (st := s_names_of) l_names_of c_names_of k_names_of).binds (ps := ["parts"]) fun _ _ _ _ _ _ us hl => match us, hl with | [_], _ => rfl
  f_are_leaves := f_are_leaves
  d_are_leaves := PySem.W.fnOf "_are_leaves" "_are_leaves" (defArgs s_are_leaves) (defBody s_are_leaves) (defScope s_are_leaves) .none kV_are_leaves dc_are_leaves pm_are_leaves an_are_leaves cd_are_leaves ct_are_leaves
  m_are_leaves := PySem.W.mg_of X G g_are_leaves
  F_are_leaves := fun_mk l_are_leaves c_are_leaves k_are_leaves
  b_are_leaves := (fun_mk (st := s_are_leaves) l_are_leaves c_are_leaves k_are_leaves).binds (ps := ["tree", "names"]) fun _ _ _ _ _ _ us hl => match us, hl with | [_, _], _ => rfl
  f_least_rank := f_least_rank
  d_least_rank := PySem.W.fnOf "least_rank" "least_rank" (defArgs s_least_rank) (defBody s_least_rank) (defScope s_least_rank) (.ref tD_least_rank) kV_least_rank dc_least_rank pm_least_rank an_least_rank cd_least_rank ct_least_rank
  m_least_rank := PySem.W.mg_of X G g_least_rank
  F_least_rank := ⟨⟨_, _, _, _, _, _, _, _, _, _, rfl, l_least_rank, c_least_rank, .inr ⟨List.cons_ne_nil _ _, tD_least_rank, _, [(.int 1 kD0_least_rank)], nD_least_rank, rfl, dl_least_rank, rfl, (.cons ⟨_, rfl⟩ .nil)⟩, .inl rfl⟩, k_least_rank⟩
  f_greatest_rank := f_greatest_rank
  d_greatest_rank := PySem.W.fnOf "greatest_rank" "greatest_rank" (defArgs s_greatest_rank) (defBody s_greatest_rank) (defScope s_greatest_rank) (.ref tD_greatest_rank) kV_greatest_rank dc_greatest_rank pm_greatest_rank an_greatest_rank cd_greatest_rank ct_greatest_rank
  m_greatest_rank := PySem.W.mg_of X G g_greatest_rank
  F_greatest_rank := ⟨⟨_, _, _, _, _, _, _, _, _, _, rfl, l_greatest_rank, c_greatest_rank, .inr ⟨List.cons_ne_nil _ _, tD_greatest_rank, _, [(.int 1 kD0_greatest_rank)], nD_greatest_rank, rfl, dl_greatest_rank, rfl, (.cons ⟨_, rfl⟩ .nil)⟩, .inl rfl⟩, k_greatest_rank⟩
  f_low_names := f_low_names
  d_low_names := PySem.W.fnOf "low_names" "low_names" (defArgs s_low_names) (defBody s_low_names) (defScope s_low_names) (.ref tD_low_names) kV_low_names dc_low_names pm_low_names an_low_names cd_low_names ct_low_names
  m_low_names := PySem.W.mg_of X G g_low_names
  F_low_names := ⟨⟨_, _, _, _, _, _, _, _, _, _, rfl, l_low_names, c_low_names, .inr ⟨List.cons_ne_nil _ _, tD_low_names, _, [(.int 1 kD0_low_names)], nD_low_names, rfl, dl_low_names, rfl, (.cons ⟨_, rfl⟩ .nil)⟩, .inl rfl⟩, k_low_names⟩
  f_high_names := f_high_names
  d_high_names := PySem.W.fnOf "high_names" "high_names" (defArgs s_high_names) (defBody s_high_names) (defScope s_high_names) (.ref tD_high_names) kV_high_names dc_high_names pm_high_names an_high_names cd_high_names ct_high_names
  m_high_names := PySem.W.mg_of X G g_high_names
  F_high_names := ⟨⟨_, _, _, _, _, _, _, _, _, _, rfl, l_high_names, c_high_names, .inr ⟨List.cons_ne_nil _ _, tD_high_names, _, [(.int 1 kD0_high_names)], nD_high_names, rfl, dl_high_names, rfl, (.cons ⟨_, rfl⟩ .nil)⟩, .inl rfl⟩, k_high_names⟩
  f_fewest := f_fewest
  d_fewest := PySem.W.fnOf "_fewest" "_fewest" (defArgs s_fewest) (defBody s_fewest) (defScope s_fewest) .none kV_fewest dc_fewest pm_fewest an_fewest cd_fewest ct_fewest
  m_fewest := PySem.W.mg_of X G g_fewest
  F_fewest := fun_mk l_fewest c_fewest k_fewest
  b_fewest := (fun_mk (st := s_fewest) l_fewest c_fewest k_fewest).binds (ps := ["tree"]) fun _ _ _ _ _ _ us hl => match us, hl with | [_], _ => rfl
  f_sums_by_place := f_sums_by_place
  d_sums_by_place := PySem.W.fnOf "_sums_by_place" "_sums_by_place" (defArgs s_sums_by_place) (defBody s_sums_by_place) (defScope s_sums_by_place) .none kV_sums_by_place dc_sums_by_place pm_sums_by_place an_sums_by_place cd_sums_by_place ct_sums_by_place
  m_sums_by_place := PySem.W.mg_of X G g_sums_by_place
  F_sums_by_place := fun_mk l_sums_by_place c_sums_by_place k_sums_by_place
  b_sums_by_place := (fun_mk (st := s_sums_by_place) l_sums_by_place c_sums_by_place k_sums_by_place).binds (ps := ["one", "other"]) fun _ _ _ _ _ _ us hl => match us, hl with | [_, _], _ => rfl
  f_rank_span := f_rank_span
  d_rank_span := PySem.W.fnOf "rank_span" "rank_span" (defArgs s_rank_span) (defBody s_rank_span) (defScope s_rank_span) (.ref tD_rank_span) kV_rank_span dc_rank_span pm_rank_span an_rank_span cd_rank_span ct_rank_span
  m_rank_span := PySem.W.mg_of X G g_rank_span
  F_rank_span := ⟨⟨_, _, _, _, _, _, _, _, _, _, rfl, l_rank_span, c_rank_span, .inr ⟨List.cons_ne_nil _ _, tD_rank_span, _, [(.int 1 kD0_rank_span)], nD_rank_span, rfl, dl_rank_span, rfl, (.cons ⟨_, rfl⟩ .nil)⟩, .inl rfl⟩, k_rank_span⟩
  f_order_at := f_order_at
  d_order_at := PySem.W.fnOf "order_at" "order_at" (defArgs s_order_at) (defBody s_order_at) (defScope s_order_at) (.ref tD_order_at) kV_order_at dc_order_at pm_order_at an_order_at cd_order_at ct_order_at
  m_order_at := PySem.W.mg_of X G g_order_at
  F_order_at := ⟨⟨_, _, _, _, _, _, _, _, _, _, rfl, l_order_at, c_order_at, .inr ⟨List.cons_ne_nil _ _, tD_order_at, _, [(.int 1 kD0_order_at)], nD_order_at, rfl, dl_order_at, rfl, (.cons ⟨_, rfl⟩ .nil)⟩, .inl rfl⟩, k_order_at⟩
  f_up_to_turn := f_up_to_turn
  d_up_to_turn := PySem.W.fnOf "_up_to_turn" "_up_to_turn" (defArgs s_up_to_turn) (defBody s_up_to_turn) (defScope s_up_to_turn) .none kV_up_to_turn dc_up_to_turn pm_up_to_turn an_up_to_turn cd_up_to_turn ct_up_to_turn
  m_up_to_turn := PySem.W.mg_of X G g_up_to_turn
  F_up_to_turn := fun_mk l_up_to_turn c_up_to_turn k_up_to_turn
  b_up_to_turn := (fun_mk (st := s_up_to_turn) l_up_to_turn c_up_to_turn k_up_to_turn).binds (ps := ["tree", "j", "enough", "too_few"]) fun _ _ _ _ _ _ us hl => match us, hl with | [_, _, _, _], _ => rfl
  f_law_well := f_law_well
  d_law_well := PySem.W.fnOf "_law_well" "_law_well" (defArgs s_law_well) (defBody s_law_well) (defScope s_law_well) .none kV_law_well dc_law_well pm_law_well an_law_well cd_law_well ct_law_well
  m_law_well := PySem.W.mg_of X G g_law_well
  F_law_well := fun_mk l_law_well c_law_well k_law_well
  b_law_well := (fun_mk (st := s_law_well) l_law_well c_law_well k_law_well).binds (ps := ["script", "at"]) fun _ _ _ _ _ _ us hl => match us, hl with | [_, _], _ => rfl
  f_law_dip := f_law_dip
  d_law_dip := PySem.W.fnOf "_law_dip" "_law_dip" (defArgs s_law_dip) (defBody s_law_dip) (defScope s_law_dip) .none kV_law_dip dc_law_dip pm_law_dip an_law_dip cd_law_dip ct_law_dip
  m_law_dip := PySem.W.mg_of X G g_law_dip
  F_law_dip := fun_mk l_law_dip c_law_dip k_law_dip
  b_law_dip := (fun_mk (st := s_law_dip) l_law_dip c_law_dip k_law_dip).binds (ps := ["well", "many"]) fun _ _ _ _ _ _ us hl => match us, hl with | [_, _], _ => rfl
  f_law_words := f_law_words
  d_law_words := PySem.W.fnOf "_law_words" "_law_words" (defArgs s_law_words) (defBody s_law_words) (defScope s_law_words) .none kV_law_words dc_law_words pm_law_words an_law_words cd_law_words ct_law_words
  m_law_words := PySem.W.mg_of X G g_law_words
  F_law_words := fun_mk l_law_words c_law_words k_law_words
  b_law_words := (fun_mk (st := s_law_words) l_law_words c_law_words k_law_words).binds (ps := ["well", "many"]) fun _ _ _ _ _ _ us hl => match us, hl with | [_, _], _ => rfl
  f_law_ranks := f_law_ranks
  d_law_ranks := PySem.W.fnOf "_law_ranks" "_law_ranks" (defArgs s_law_ranks) (defBody s_law_ranks) (defScope s_law_ranks) .none kV_law_ranks dc_law_ranks pm_law_ranks an_law_ranks cd_law_ranks ct_law_ranks
  m_law_ranks := PySem.W.mg_of X G g_law_ranks
  F_law_ranks := fun_mk l_law_ranks c_law_ranks k_law_ranks
  b_law_ranks := (fun_mk (st := s_law_ranks) l_law_ranks c_law_ranks k_law_ranks).binds (ps := ["well", "intake"]) fun _ _ _ _ _ _ us hl => match us, hl with | [_, _], _ => rfl
  f_law_width := f_law_width
  d_law_width := PySem.W.fnOf "_law_width" "_law_width" (defArgs s_law_width) (defBody s_law_width) (defScope s_law_width) .none kV_law_width dc_law_width pm_law_width an_law_width cd_law_width ct_law_width
  m_law_width := PySem.W.mg_of X G g_law_width
  F_law_width := fun_mk l_law_width c_law_width k_law_width
  b_law_width := (fun_mk (st := s_law_width) l_law_width c_law_width k_law_width).binds (ps := ["tree"]) fun _ _ _ _ _ _ us hl => match us, hl with | [_], _ => rfl
  f_law_group := f_law_group
  d_law_group := PySem.W.fnOf "_law_group" "_law_group" (defArgs s_law_group) (defBody s_law_group) (defScope s_law_group) .none kV_law_group dc_law_group pm_law_group an_law_group cd_law_group ct_law_group
  m_law_group := PySem.W.mg_of X G g_law_group
  F_law_group := fun_mk l_law_group c_law_group k_law_group
  b_law_group := (fun_mk (st := s_law_group) l_law_group c_law_group k_law_group).binds (ps := ["well", "parts"]) fun _ _ _ _ _ _ us hl => match us, hl with | [_, _], _ => rfl
  f_law_tree := f_law_tree
  d_law_tree := PySem.W.fnOf "_law_tree" "_law_tree" (defArgs s_law_tree) (defBody s_law_tree) (defScope s_law_tree) .none kV_law_tree dc_law_tree pm_law_tree an_law_tree cd_law_tree ct_law_tree
  m_law_tree := PySem.W.mg_of X G g_law_tree
  F_law_tree := fun_mk l_law_tree c_law_tree k_law_tree
  b_law_tree := (fun_mk (st := s_law_tree) l_law_tree c_law_tree k_law_tree).binds (ps := ["well", "names", "depth"]) fun _ _ _ _ _ _ us hl => match us, hl with | [_, _, _], _ => rfl
  f_law_made := f_law_made
  d_law_made := PySem.W.fnOf "_law_made" "_law_made" (defArgs s_law_made) (defBody s_law_made) (defScope s_law_made) .none kV_law_made dc_law_made pm_law_made an_law_made cd_law_made ct_law_made
  m_law_made := PySem.W.mg_of X G g_law_made
  F_law_made := fun_mk l_law_made c_law_made k_law_made
  b_law_made := (fun_mk (st := s_law_made) l_law_made c_law_made k_law_made).binds (ps := ["tree"]) fun _ _ _ _ _ _ us hl => match us, hl with | [_], _ => rfl
  f_law_ends := f_law_ends
  d_law_ends := PySem.W.fnOf "_law_ends" "_law_ends" (defArgs s_law_ends) (defBody s_law_ends) (defScope s_law_ends) .none kV_law_ends dc_law_ends pm_law_ends an_law_ends cd_law_ends ct_law_ends
  m_law_ends := PySem.W.mg_of X G g_law_ends
  F_law_ends := fun_mk l_law_ends c_law_ends k_law_ends
  b_law_ends := (fun_mk (st := s_law_ends) l_law_ends c_law_ends k_law_ends).binds (ps := ["tree", "worths"]) fun _ _ _ _ _ _ us hl => match us, hl with | [_, _], _ => rfl
  f_law_right := f_law_right
  d_law_right := PySem.W.fnOf "_law_right" "_law_right" (defArgs s_law_right) (defBody s_law_right) (defScope s_law_right) .none kV_law_right dc_law_right pm_law_right an_law_right cd_law_right ct_law_right
  m_law_right := PySem.W.mg_of X G g_law_right
  F_law_right := fun_mk l_law_right c_law_right k_law_right
  b_law_right := (fun_mk (st := s_law_right) l_law_right c_law_right k_law_right).binds (ps := ["made", "tree", "names", "rank", "k"]) fun _ _ _ _ _ _ us hl => match us, hl with | [_, _, _, _, _], _ => rfl
  f_law := f_law
  d_law := PySem.W.fnOf "law" "law" (defArgs s_law) (defBody s_law) (defScope s_law) .none kV_law dc_law pm_law an_law cd_law ct_law
  m_law := PySem.W.mg_of X G g_law
  F_law := fun_mk l_law c_law k_law
  b_law := (fun_mk (st := s_law) l_law c_law k_law).binds (ps := ["script"]) fun _ _ _ _ _ _ us hl => match us, hl with | [_], _ => rfl
end
end Rk
set_option Elab.async false
set_option linter.all false
set_option maxRecDepth 100000
set_option maxHeartbeats 4000000
namespace Rk
open PySem PySem.Spec PyProof.Rows L2 RkO
theorem same_new {H : Hp} {p : Addr} (h : H p = none) (o : HO) : Same H (upd H p o) := fun b u q => by rw [upd_ne (ne_of_none q h)]; exact q
/-- all but the object at a is as it was -/
def But (a : Addr) (H H' : Hp) : Prop := ∀ b o, b ≠ a → H b = some o → H' b = some o
section
variable {P : Program} {w : World} {K : PySem.W.Frag} {mg : Str → Option Value} {base : Heap}
/-! ### _law_well: a new list of one number that is not below 0 -/
def spWell (K : PySem.W.Frag) : Sp := fun vs H Q _ => ∃ (a : Addr) (ns : List Int) (k : Int), vs = [.ref a, .int k] ∧ SqL K H a (ns.map V.int) ∧ ns.length ≤ 63 ∧ 0 ≤ k ∧ k ≤ 1000 ∧
  ∀ (p : Addr) (n : Int), 0 ≤ n → H p = none → Q (.ref p) (upd H p (.lst [.int n]))
theorem ok_law_well (T : Txt K mg) : FnOk P w K mg base CX0 1 T.f_law_well T.d_law_well ["script", "at"] (spWell K) := by
  refine T.F_law_well.ok sc_law_well (fun vs H Q E h => ?_) (fun cdv A outer s H vs Q E hr h => ?_)
  · obtain ⟨a, ns, k, rfl, _⟩ := h
    rfl
  obtain ⟨a, ns, k, rfl, hS, h63, h0, h1, q⟩ := h
  refine ⟨_, (pss_cons (ps_set (i := 2) sc_law_well.nd rfl (Or.inl rfl) (pe_op op_add (pe_op op_mul pe_int (pv 1)) pe_int))
  (Evl.pss_cut (ps_if (pt_cmpR op_lt (pv 1) (pe_callB call_len_seq (by rfl) T.m_len PySem.boot_len (pa_cons (pv 0) pa_nil)) (nomark _)) (pss_one (ps_set (i := 2) sc_law_well.nd rfl (Or.inl rfl) (pe_ix ix_list (pv 0) (pv 1) (fun _ _ => rfl)))) pss_nil)
  (pss_cons (ps_if (pt_cmpR op_ge (pv 2) (pe_op op_pow pe_int pe_int) (nomark _)) (pss_cons (ps_set (i := 3) sc_law_well.nd rfl (Or.inl rfl) (pe_op op_mulW (pe_op op_mulW (pe_op op_mulW (pe_op op_pow pe_int pe_int) (pe_op op_pow pe_int pe_int)) (pe_op op_pow pe_int pe_int)) (pe_op op_pow pe_int pe_int)))
    (pss_one (ps_ret (pe_lst (pa_cons (pe_op op_mod (pe_callTy call_int1 (by rfl) T.m_int (by decide +kernel) (pa_cons (pe_op op_sub (pv 2) (pe_op op_pow pe_int pe_int)) pa_nil)) (pe_op op_mulW (pv 3) (pv 3))) pa_nil))))) pss_nil)
  (pss_cons (ps_par (i := 4) (j := 5) rfl sc_law_well.nd rfl rfl (by decide) rfl rfl (pa_cons (pe_op op_mod (pe_callTy call_int1 (by rfl) T.m_int (by decide +kernel) (pa_cons (pv 2) pa_nil)) pe_int) (pa_cons (pe_op op_mod (pe_callTy call_int1 (by rfl) T.m_int (by decide +kernel) (pa_cons (pe_op op_add (pv 2) (pe_op op_mul pe_int (pv 1))) pa_nil)) pe_int) pa_nil)) (by rfl))
  (pss_cons (ps_set (i := 6) sc_law_well.nd rfl (Or.inl rfl) pe_int)
  (pss_cons (ps_for PassesOwn.never rfl (pi_range1 rfl T.m_range (pa_cons pe_int pa_nil)) (pg_name (i := 7) sc_law_well.nd rfl (.inl rfl))
    (pss_cons (ps_set (i := 4) sc_law_well.nd rfl (Or.inl rfl) (pe_op op_mod (pe_callTy call_int1 (by rfl) T.m_int (by decide +kernel) (pa_cons (pe_op op_add (pe_op op_add (pe_op op_add (pe_op op_mul (pv 4) pe_int) (pe_op op_mul (pv 7) (pv 7))) (pe_op op_mul pe_int (pv 1))) pe_int) pa_nil)) pe_int))
    (pss_cons (ps_set (i := 5) sc_law_well.nd rfl (Or.inl rfl) (pe_op op_mod (pe_callTy call_int1 (by rfl) T.m_int (by decide +kernel) (pa_cons (pe_op op_add (pe_op op_add (pe_op op_mul (pv 5) (pv 5)) (pe_op op_mul pe_int (pv 7))) pe_int) pa_nil)) pe_int))
    (pss_one (ps_set (i := 6) sc_law_well.nd rfl (Or.inl rfl) (pe_op op_add (pe_op op_mul (pv 6) pe_int) (pe_op op_mod (pe_callTy call_int1 (by rfl) T.m_int (by decide +kernel) (pa_cons (pe_op op_add (pe_op op_mul (pv 4) (pv 5)) (pv 7)) pa_nil)) pe_int)))))))
  (pss_one (ps_ret (pe_lst (pa_cons (pv 6) pa_nil)))))))))), ?_⟩
  have hl : (ns.map V.int).length = ns.length := List.length_map _
  have sm : ∀ x : Int, -1000000 ≤ x → x ≤ 1000000 → CMul x x := fun x h1 h2 => .inl ⟨by omega, by omega⟩
  refine ⟨_, rfl, _, _, rfl, rfl, .inl ⟨by decide, by decide⟩, _, _, rfl, rfl, ?_⟩
  refine ⟨fun σ' H' => H' = H ∧ ∃ c : Int, σ' = [some (.ref a), some (.int k), some (.int c), none, none, none, none, none], ?_, ?_⟩
  · refine ⟨_, rfl, _, rfl, a, _, rfl, .inl hS, _, _, rfl, rfl, _, rfl, ite2 (fun c => ?_) (fun c => ?_)⟩
    · have c' : k < (((ns.map V.int).length : Nat) : Int) := of_decide_eq_true c
      rw [hl] at c'
      have hk : k.toNat < ns.length := by omega
      have ek : k = ((k.toNat : Nat) : Int) := by omega
      have g : atI (ns.map V.int) k = some (.int ns[k.toNat]) := at_of ek (by rw [List.getElem?_map, List.getElem?_eq_getElem hk] <;> rfl)
      refine ⟨_, rfl, _, rfl, a, _, _, _, rfl, rfl, hS, g, rfl, _, rfl⟩
    · exact ⟨rfl, _, rfl⟩
  rintro σ' H' ⟨eH, c, rfl⟩
  subst eH
  refine ⟨_, rfl, _, _, rfl, rfl, ⟨by decide, by decide, by decide⟩, _, _, rfl, rfl, _, rfl, ite2 (fun hc => ?_) (fun hc => ?_)⟩
  · -- a great cell
    have cp : ∀ i : Int, -100 ≤ i → i ≤ 100 → ∀ j : Int, 0 ≤ j → j ≤ 1000 → CPow i j := fun i h1 h2 j h3 h4 => ⟨by omega, by omega, by omega⟩
    have p60 : CPow 10 60 := cp _ (by decide) (by decide) _ (by decide) (by decide)
    refine ⟨_, _, rfl, rfl, p60, _, _, rfl, rfl, p60, _, _, rfl, rfl, by unfold CMulW; decide +kernel, _, _, rfl, rfl, p60, _, _, rfl, rfl, by unfold CMulW; decide +kernel, _, _, rfl, rfl, p60, _, _, rfl, rfl, by unfold CMulW; decide +kernel, ?_⟩
    refine ⟨_, rfl, _, _, rfl, rfl, cp _ (by decide) (by decide) _ (by decide) (by decide), _, _, rfl, rfl, .inl ⟨_, rfl, _, rfl, _, rfl, _, _, rfl, rfl, by unfold CMulW; decide +kernel, _, _, rfl, rfl, (by show (0 : Int) < _; decide +kernel), (by show 1 ≤ sizeLine; decide), fun p hp => ?_⟩⟩
    exact q p _ (Int.emod_nonneg _ (by decide +kernel)) hp
  · refine ⟨_, rfl, .inl ⟨_, rfl, _, _, rfl, rfl, (by show (0 : Int) < _; decide), _, rfl, _, rfl, _, _, rfl, rfl, .inl ⟨by decide, by decide⟩, _, _, rfl, rfl, .inl ⟨_, rfl, _, _, rfl, rfl, (by show (0 : Int) < _; decide), _, _, rfl, ?_⟩⟩⟩
    refine ⟨_, rfl, by decide, by decide, for_range (lo := 0) (n := 44) (fun i σ H2 => H2 = H' ∧ ∃ (l r p : Int) (t : Option V), σ = [some (.ref a), some (.int k), some (.int c), none, some (.int l), some (.int r), some (.int p), t] ∧ 0 ≤ l ∧ l < 2147483563 ∧ 0 ≤ r ∧ r < 2147483399 ∧ 0 ≤ p)
      ⟨rfl, _, _, _, none, rfl, Int.emod_nonneg _ (by decide), Int.emod_lt_of_pos _ (by decide), Int.emod_nonneg _ (by decide), Int.emod_lt_of_pos _ (by decide), by decide⟩ ?_ ?_⟩
    · rintro i σ H2 hi ⟨rfl, l, r, p, t, rfl, l0, l1, r0, r1, p0⟩
      refine ⟨_, rfl, _, _, rfl, rfl, .inl ⟨by omega, by omega⟩, _, rfl, _, rfl, _, _, rfl, rfl, .inl ⟨by omega, by omega⟩, _, _, rfl, rfl, _, rfl, _, _, rfl, rfl, .inl ⟨by decide, by decide⟩, _, _, rfl, rfl, _, _, rfl, rfl, .inl ⟨_, rfl, _, _, rfl, rfl, (by show (0 : Int) < _; decide), ?_⟩⟩
      refine ⟨_, rfl, _, rfl, _, _, rfl, rfl, .inl ⟨by omega, by omega⟩, _, rfl, _, _, rfl, rfl, .inl ⟨by decide, by decide⟩, _, _, rfl, rfl, _, _, rfl, rfl, .inl ⟨_, rfl, _, _, rfl, rfl, (by show (0 : Int) < _; decide), ?_⟩⟩
      have l0' := Int.emod_nonneg (l * 40014 + (0 + (i : Int)) * (0 + (i : Int)) + 12211 * k + 1) (show (2147483563 : Int) ≠ 0 by decide)
      have l1' := Int.emod_lt_of_pos (l * 40014 + (0 + (i : Int)) * (0 + (i : Int)) + 12211 * k + 1) (show (0 : Int) < 2147483563 by decide)
      have r0' := Int.emod_nonneg (r * r + 40692 * (0 + (i : Int)) + 3791) (show (2147483399 : Int) ≠ 0 by decide)
      have r1' := Int.emod_lt_of_pos (r * r + 40692 * (0 + (i : Int)) + 3791) (show (0 : Int) < 2147483399 by decide)
      refine ⟨_, rfl, _, _, rfl, rfl, .inr ⟨by decide, by decide⟩, _, rfl, _, rfl, _, _, rfl, rfl, .inl ⟨by omega, by omega⟩, _, rfl, _, _, rfl, rfl, .inl ⟨_, rfl, _, _, rfl, rfl, (by show (0 : Int) < _; decide), _, _, rfl, rfl, ?_⟩⟩
      exact ⟨rfl, _, _, _, _, rfl, l0', l1', r0', r1', Int.add_nonneg (Int.mul_nonneg p0 (by decide)) (Int.emod_nonneg _ (by decide))⟩
    · rintro σ H2 ⟨rfl, l, r, p, t, rfl, _, _, _, _, p0⟩
      exact ⟨_, rfl, (by show 1 ≤ sizeLine; decide), fun z hz => q z p p0 hz⟩
/-! ### _law_dip: a digit, and the well's number is another one, not below 0 -/
def spDip (K : PySem.W.Frag) : Sp := fun vs H Q _ => ∃ (a : Addr) (n m : Int), vs = [.ref a, .int m] ∧ H a = some (.lst [.int n]) ∧ 0 ≤ n ∧ 0 < m ∧ m ≤ 10 ^ 40 ∧
  ∀ (d n' : Int), 0 ≤ d → d < m → 0 ≤ n' → Q (.int d) (upd H a (.lst [.int n']))
theorem ok_law_dip (T : Txt K mg) : FnOk P w K mg base CX0 1 T.f_law_dip T.d_law_dip ["well", "many"] (spDip K) := by
  refine T.F_law_dip.ok sc_law_dip (fun vs H Q E h => ?_) (fun cdv A outer s H vs Q E hr h => ?_)
  · obtain ⟨a, n, m, rfl, _⟩ := h
    rfl
  obtain ⟨a, n, m, rfl, ha, h0, hm, hm2, q⟩ := h
  refine ⟨_, (pss_cons (ps_set (i := 2) sc_law_dip.nd rfl (Or.inl rfl) (pe_op op_mod (pe_callTy call_int1 (by rfl) T.m_int (by decide +kernel) (pa_cons (pe_ix ix_list (pv 0) pe_int (fun _ _ => rfl)) pa_nil)) (pv 1)))
  (pss_cons (ps_asg (pe_op op_fdivW (pe_ix ix_list (pv 0) pe_int (fun _ _ => rfl)) (pv 1)) (pg_sub (pv 0) pe_int set_list))
  (pss_one (ps_ret (pv 2))))), ?_⟩
  have at0 : ∀ {x : Int}, atI [V.int x] 0 = some (.int x) := fun {x} => atI_nat (j := 0) rfl
  refine ⟨_, rfl, _, _, _, _, rfl, rfl, SqL.of ha, at0, .inl ⟨_, rfl, _, rfl, _, _, rfl, rfl, hm, ?_⟩⟩
  refine ⟨_, rfl, _, _, _, _, rfl, rfl, SqL.of ha, at0, _, rfl, _, _, rfl, rfl, wide_div (b := 200) hm (by omega) (by decide) (by decide), ?_⟩
  refine ⟨_, rfl, _, _, _, _, rfl, rfl, ha, rfl, _, rfl, ?_⟩
  exact q _ _ (Int.emod_nonneg _ (by omega)) (Int.emod_lt_of_pos _ hm) (Int.ediv_nonneg h0 (by omega))
end
end Rk
set_option Elab.async false
set_option linter.all false
set_option maxRecDepth 100000
set_option maxHeartbeats 4000000
namespace Rk
open PySem PySem.Spec PyProof.Rows L2 RkO
open Evl (Ev EvT EvA EvL EvU EvO Ex RC RCL SpV SpL)
section
variable {K : PySem.W.Frag} {σ : L2.St} {H H' : Hp} {ta tb te tx : TE} {t u : TT} {x y z v : V} {r : R2}
/-- a comprehension over a text, no test -/
theorem el_lcS {s : Str} {tl : TE} {j : Nat} {vs : List Nat} (f : Nat → V) (h : Ev tl σ H (.str s)) (hz : s.length ≤ 40000) (hw : ∀ x, wipe ((wipe σ vs).set j (some x)) vs = wipe σ vs)
    (he : ∀ (i : Nat) (c : Nat) H1, Ex H H1 → s.cps[i]? = some c → Ev te ((wipe σ vs).set j (some (.str ⟨#[c]⟩))) H1 (f c)) :
    EvL (tLc (iStr tl) (gName j) tYes te vs) σ H (s.cps.toList.map f) := fun H0 e Q q => h H0 e _ fun H1 e1 => ⟨s, rfl, fun Dl hD =>
  lc_it walk_str (fun i H' => H1 Dl = none ∧ Ex H1 H' ∧ H' Dl = some (.lst ((s.cps.toList.take i).map f))) ⟨hD, Ex.new hD, upd_same⟩ (fun _ _ _ _ => trivial) (fun i x H' H'' hi p y => by
    obtain ⟨rfl, c, hc, rfl⟩ := y
    obtain ⟨p1, p2, p3⟩ := p
    refine ⟨hw _, ?_⟩
    refine he i c H1 (e.trans e1) hc H'' p2 _ fun H4 e4 => ⟨_, e4 _ _ p3, ?_, p1, Ex.mut (p2.trans e4) p1, ?_⟩
    · rw [List.length_map, List.length_take]
      exact Evl.sz_lt (by have : s.length = s.cps.size := rfl; omega)
    · rw [upd_same]
      have g : s.cps.toList[i]? = some c := by rw [Array.getElem?_toList]; exact hc
      rw [List.take_add_one, g, List.map_append]
      rfl) (fun H' p => q Dl H' (Evl.fresh_back e1 p.1) (e1.trans p.2.1) (by
    have := p.2.2
    rwa [show s.cps.size = s.cps.toList.length from rfl, List.take_length] at this))⟩
theorem ev_chain {r r' : R2} {tc : TE} {x y z : V} {b c : Bool} (ha : Ev ta σ H x) (hb : Ev tb σ H y) (hr : Evl.RV r x y H (.bl b)) (hc : b = true → Ev tc σ H z) (hr' : b = true → Evl.RV r' y z H (.bl c)) :
    Ev (tChain r r' ta tb tc) σ H (.bl (b && c)) := fun H1 e Q q => ha H1 e _ fun H2 e2 => hb H2 (e.trans e2) _ fun H3 e3 => hr H3 ((e.trans e2).trans e3) _ fun H4 e4 => ⟨b, rfl, by
  cases b with
  | true =>
    refine iteT (hc rfl H4 (((e.trans e2).trans e3).trans e4) _ fun H5 e5 => hr' rfl H5 ((((e.trans e2).trans e3).trans e4).trans e5) Q fun H6 e6 => q H6 ((((e2.trans e3).trans e4).trans e5).trans e6))
  | false => exact iteF (q H4 ((e2.trans e3).trans e4))⟩
theorem rv_le_str {a b : Str} : Evl.RV (fun x y H Q => ∃ i j, x = .str i ∧ y = .str j ∧ Q (.bl (!decide (j.cps.toList < i.cps.toList))) H) (.str a) (.str b) H (.bl (!decide (b.cps.toList < a.cps.toList))) := fun H1 _ _ q => ⟨a, b, rfl, rfl, q H1 (Ex.refl H1)⟩
theorem rc_all {xs : List Bool} {a : Addr} (h : SqL K H a (xs.map V.bl)) : RC (rAll K) [.ref a] H (.bl (xs.all id)) := fun H1 e Q q => ⟨a, xs, rfl, Evl.ex_l e h, q H1 (Ex.refl H1)⟩
/-- all of a new list -/
theorem ev_allN {xs : List Bool} (h : EvL te σ H (xs.map V.bl)) : Ev (tCB (rAll K) (tCons te tNil)) σ H (.bl (xs.all id)) := fun H1 e Q q =>
  h H1 e _ fun p H2 _ e2 h2 => ⟨p, xs, rfl, SqL.of h2, q H2 e2⟩
end
theorem ifN {p A B : Prop} [Decidable p] (h1 : ¬ p → A) (h2 : p → B) : if (!decide p) = true then A else B := by
  by_cases h : p
  · rw [decide_eq_true h]
    exact iteF (h2 h)
  · rw [decide_eq_false h]
    exact iteT (h1 h)
theorem ifD {p A B : Prop} [Decidable p] (h1 : p → A) (h2 : ¬ p → B) : if decide p = true then A else B := by
  by_cases h : p
  · rw [decide_eq_true h]
    exact iteT (h1 h)
  · rw [decide_eq_false h]
    exact iteF (h2 h)
theorem ifB {b : Bool} {A B : Prop} (h1 : b = true → A) (h2 : b = false → B) : if b = true then A else B := by
  cases b with
  | true => exact iteT (h1 rfl)
  | false => exact iteF (h2 rfl)
theorem nxt {D : Ends} {σ : L2.St} {H : Hp} (h : D.nx σ H) : tNext D σ H := h
/-! ### is_name -/
def nameOk (x : Str) : Bool := decide (1 ≤ x.length) && decide (x.length ≤ 8) && x.cps.toList.all fun c => decide (97 ≤ c) && decide (c ≤ 122)
theorem lt1 (c d : Nat) : ([c] < [d]) ↔ c < d := by
  constructor
  · intro h
    cases h with
    | rel h => exact h
    | cons h => exact absurd h (by simp)
  · exact fun h => List.Lex.rel h
section
variable {P : Program} {w : World} {K : PySem.W.Frag} {mg : Str → Option Value} {base : Heap}
def spIsName (K : PySem.W.Frag) : Sp := fun vs H Q _ => ∃ v, vs = [v] ∧ ((∃ x, v = .str x ∧ x.length ≤ 40000 ∧ ∀ H', Same H H' → Q (.bl (nameOk x)) H') ∨
  ∃ t, TyX K H v t ∧ PySem.W.kitOne K t (.type "str") = some false ∧ Q (.bl false) H)
theorem ok_is_name (T : Txt K mg) : FnOk P w K mg base CX0 1 T.f_is_name T.d_is_name ["value"] (spIsName K) := by
  refine T.F_is_name.ok sc_is_name (fun vs H Q E h => ?_) (fun cdv A outer s H vs Q E hr h => ?_)
  · obtain ⟨v, rfl, _⟩ := h
    rfl
  obtain ⟨v, rfl, h⟩ := h
  refine ⟨_, (pss_cons (ps_if (PW.pt (pw_or (pt_not (pt_val (pe_callB call_isi (by rfl) T.m_isinstance (by decide +kernel) (pa_cons (pv 0) (pa_cons (pe_bltn (v := .ty "str") (by rfl) T.m_str (by decide +kernel) rfl) pa_nil))))) (pw_or1 (pt_not (pt_chain op_le op_le pe_int (pe_callB call_len_str (by rfl) T.m_len PySem.boot_len (pa_cons (pv 0) pa_nil)) pe_int))))) (pss_one (ps_ret pe_bl)) pss_nil)
  (pss_one (ps_ret (pe_callB (cr_all rfl) (by rfl) T.m_all (by decide +kernel) (pa_cons (pe_lc (own := [("letter", 1)]) rfl sc_is_name.nd  (pi_str (pv 0)) (blkOk_by (own := [("letter", 1)]) (N := ["value", "letter"]) (sc := defScope s_is_name) (by decide +kernel)) (fun _ _ _ _ _ => (pg_name (i := 1) sc_is_name.nd rfl (.inl rfl))) (fun _ _ _ _ _ => pts_nil) (fun _ _ _ _ _ => (pe_chain op_le_str op_le_str pe_str (pv 1) pe_str))) pa_nil))))), ?_⟩
  rcases h with ⟨x, rfl, hx, q⟩ | ⟨t, ty, ht, q⟩
  · refine ⟨_, rfl, _, _, _, _, _, rfl, .ty "str", .base (.str x), (show PySem.W.kitOne _ (.type "str") (.type "str") = some true by rfl), _, rfl, ?_⟩
    refine iteF ?_
    refine ⟨_, rfl, x, rfl, Nat.le_trans hx (by decide), _, _, rfl, rfl, _, rfl, ?_⟩
    have fin : ∀ (b : Bool), b = nameOk x → ∀ H', Same H H' → Q (.bl b) H' := fun b e => by rw [e]; exact q
    refine ite2 (fun c1 => ?_) (fun c1 => ?_)
    · refine ⟨_, _, rfl, rfl, _, rfl, ?_⟩
      refine ifN (fun c2 => ?_) (fun c2 => ?_)
      · refine fin _ ?_ H (Same.refl H)
        unfold nameOk
        have c2' : ¬ x.length ≤ 8 := by omega
        rw [decide_eq_false c2', Bool.and_false, Bool.false_and]
      · have c2' : x.length ≤ 8 := by omega
        refine nxt ?_
        dsimp only
        refine Evl.s_ret (ev_allN (xs := x.cps.toList.map fun c => (decide (97 ≤ c) && decide (c ≤ 122))) (by
            rw [List.map_map]
            refine el_lcS (fun c => V.bl (decide (97 ≤ c) && decide (c ≤ 122))) (Evl.ev_var rfl) hx ?_ (fun i c H1 e hc => ?_)
            · exact fun x => rfl
            refine Evl.ev_is (ev_chain Evl.ev_c (Evl.ev_var rfl) rv_le_str (fun _ => Evl.ev_c) (fun _ => rv_le_str)) ?_
            show V.bl (!decide ([c] < [97]) && !decide ([122] < [c])) = _
            rw [show decide (([c] : List Nat) < [97]) = decide (c < 97) from decide_eq_decide.mpr (lt1 c 97), show decide (([122] : List Nat) < [c]) = decide (122 < c) from decide_eq_decide.mpr (lt1 122 c)]
            congr 1
            by_cases h1 : 97 ≤ c <;> by_cases h2 : c ≤ 122 <;> simp [h1, h2] <;> omega)) fun H1 e1 => fin _ ?_ H1 e1
        unfold nameOk
        have c1' : 1 ≤ x.length := by have := of_decide_eq_true c1; omega
        rw [decide_eq_true c1', decide_eq_true c2', List.all_map]
        rfl
    · refine ⟨_, rfl, ?_⟩
      refine iteT (fin _ ?_ H (Same.refl H))
      unfold nameOk
      have c1' : ¬ 1 ≤ x.length := fun z => c1 (decide_eq_true (by omega))
      rw [decide_eq_false c1', Bool.false_and, Bool.false_and]
  · refine ⟨_, rfl, _, _, _, _, _, rfl, .ty "str", ty, ht, _, rfl, ?_⟩
    refine iteT ?_
    exact iteT q
end
end Rk
set_option Elab.async false
set_option linter.all false
set_option maxRecDepth 100000
set_option maxHeartbeats 4000000
/-! what a def does not look at, it leaves: some lists and dicts may be hidden from it -/
namespace RkO
open PySem PySem.Spec PyProof.Rows L2
/-- H without what M names -/
def hid (M : Addr → Bool) (H : Hp) : Hp := fun b => if M b = true then none else H b
/-- H' with what M names as in H -/
def put (M : Addr → Bool) (H H' : Hp) : Hp := fun b => if M b = true then H b else H' b
theorem hid_t {M : Addr → Bool} {H : Hp} {b : Addr} (h : M b = true) : hid M H b = none := if_pos h
theorem hid_f {M : Addr → Bool} {H : Hp} {b : Addr} (h : M b = false) : hid M H b = H b := if_neg (by rw [h]; decide)
theorem put_t {M : Addr → Bool} {H H' : Hp} {b : Addr} (h : M b = true) : put M H H' b = H b := if_pos h
theorem put_f {M : Addr → Bool} {H H' : Hp} {b : Addr} (h : M b = false) : put M H H' b = H' b := if_neg (by rw [h]; decide)
def Hides (M : Addr → Bool) (H : Hp) : Prop := ∀ b, M b = true → (∃ xs, H b = some (.lst xs)) ∨ ∃ kvs, H b = some (.dK kvs)
def spF (sp : Sp) : Sp := fun vs H Q E => ∃ M : Addr → Bool, Hides M H ∧ sp vs (hid M H) (fun v H' => (∀ b, M b = true → H' b = none) → Q v (put M H H')) E
theorem FnOk.frame {P : Program} {w : World} {K : PySem.W.Frag} {mg : Str → Option Value} {base : Heap} {k : Nat} {f : Addr} {fd : FuncData} {ps : List Str} {sp : Sp} (F : FnOk P w K mg base CX0 k f fd ps sp) : FnOk P w K mg base CX0 k f fd ps (spF sp) := by
  refine ⟨fun vs H Q E h => ?_, fun A outer s H args us vs Q E hr he hb hv h => ?_⟩
  · obtain ⟨M, _, h⟩ := h
    exact F.len _ _ _ _ h
  obtain ⟨M, hM, h⟩ := h
  have nM : ∀ {b : Addr} {o : HO}, H b = some o → (∀ xs, o ≠ .lst xs) → (∀ kvs, o ≠ .dK kvs) → M b = false := fun {b o} e n1 n2 => by
    cases hb : M b with
    | false => rfl
    | true =>
      rcases hM b hb with ⟨xs, z⟩ | ⟨kvs, z⟩
      · rw [z] at e
        exact absurd (Option.some.inj e).symm (n1 xs)
      · rw [z] at e
        exact absurd (Option.some.inj e).symm (n2 kvs)
  have sub : ∀ {b : Addr} {o : HO}, H b = some o → (∀ xs, o ≠ .lst xs) → (∀ kvs, o ≠ .dK kvs) → hid M H b = some o := fun {b o} e n1 n2 => (hid_f (nM e n1 n2)).trans e
  have non : ∀ {b : Addr}, H b = none → hid M H b = none := fun {b} e => by
    cases hb : M b with
    | true => exact hid_t hb
    | false => exact (hid_f hb).trans e
  have he2 : Env0 P w K mg base A outer s (hid M H) := ⟨he.frames, he.mod, fun b o q => ⟨(he.bs b o q).1, non (he.bs b o q).2⟩, he.bsz, he.funs, fun b q => non (he.frf b q), fun b o q => by
    have hb : M b = false := by
      cases hb : M b with
      | false => rfl
      | true =>
        rw [hid_t hb] at q
        cases q
    rw [hid_f hb] at q
    exact (he.hok b o q).stay (fun _ _ _ z => z) (fun c z => sub z nofun nofun) fun c xs z => sub z nofun nofun, he.bare⟩
  refine codeAny_mono (F.run A outer s (hid M H) args us vs _ E hr he2 hb hv h) fun r s' q => ?_
  cases r with
  | error e => exact q
  | ok fl =>
    cases fl with
    | next => exact q
    | brk => exact q
    | cont => exact q
    | ret u =>
      obtain ⟨v, H', hos, hbr, un, hok, rv, q⟩ := q
      have gone : ∀ b, M b = true → H' b = none := fun b hb => by
        have ⟨o, ho⟩ : ∃ o, s.heap.get? b = some o := by
          rcases hM b hb with ⟨xs, z⟩ | ⟨kvs, z⟩
          · obtain ⟨_, its, n, _, e⟩ := he.hok b _ z
            exact ⟨_, e⟩
          · obtain ⟨_, _, vs, _, o, es, ep, e, _⟩ := he.hok b _ z
            exact ⟨_, e⟩
        exact un.free b o ho (hid_t hb) (by simp)
      have nofr : ∀ b, M b = true → b ∉ frs outer := fun b hb z => by
        have e := he.frf b z
        rcases hM b hb with ⟨xs, y⟩ | ⟨kvs, y⟩ <;> (rw [e] at y; cases y)
      have kept : ∀ b o, M b = true → s.heap.get? b = some o → s'.heap.get? b = some o := fun b o hb ho => un.keep b o ho (hid_t hb) (nofr b hb) (by simp)
      have at_ : ∀ {b : Addr} {o : HO}, H' b = some o → put M H H' b = some o := fun {b o} e => by
        cases hb : M b with
        | true =>
          rw [gone b hb] at e
          cases e
        | false => exact (put_f hb).trans e
      refine ⟨v, put M H H', hos, hbr, ⟨fun b o z n hf hx => un.keep b o z (non n) hf hx, fun b o z n hf hx => un.slot b o z (non n) hf hx, fun b o z n hx => ?_, fun b o z hx => un.there b o z hx, fun b xs z => at_ (un.tups b xs (sub z nofun nofun)), fun b o u z => at_ (un.frzs b o u (sub z nofun nofun)), fun b ps z => ?_⟩, fun b o z => ?_, rv, q gone⟩
      · have hb : M b = false := by
          cases hb : M b with
          | false => rfl
          | true => rcases hM b hb with ⟨xs, y⟩ | ⟨kvs, y⟩ <;> (rw [n] at y; cases y)
        rw [put_f hb]
        exact un.free b o z (non n) hx
      · obtain ⟨more, e⟩ := un.tbls b ps (sub z nofun nofun)
        exact ⟨more, at_ e⟩
      · cases hb : M b with
        | true =>
          rw [put_t hb] at z
          rcases hM b hb with ⟨xs, y⟩ | ⟨kvs, y⟩
          · have e0 : o = .lst xs := Option.some.inj (z.symm.trans y)
            subst e0
            obtain ⟨zl, its, n, r, e⟩ := he.hok b _ y
            exact ⟨zl, its, n, r, kept b _ hb e⟩
          · have e0 : o = .dK kvs := Option.some.inj (z.symm.trans y)
            subst e0
            obtain ⟨zl, ne, vs, r, ob, es, ep, e, c⟩ := he.hok b _ y
            exact ⟨zl, ne, vs, r, ob, es, ep, kept b _ hb e, c⟩
        | false =>
          rw [put_f hb] at z
          exact (hok b o z).stay (fun _ _ _ y => y) (fun c y => at_ y) fun c xs y => at_ y
end RkO
set_option Elab.async false
set_option linter.all false
set_option maxRecDepth 100000
set_option maxHeartbeats 4000000
/-! the trees, as plain data; how they stand in a heap -/
namespace Rk
open PySem L2 RkO
inductive Tr where
  | leaf (x : Str)
  | grp (rs : List Int) (ps : List Tr)
mutual
def Tr.names : Tr → List Str
  | .leaf x => [x]
  | .grp _ ps => namesL ps
def namesL : List Tr → List Str
  | [] => []
  | p :: ps => p.names ++ namesL ps
end
def Tr.width : Tr → Nat
  | .leaf _ => 1
  | .grp rs _ => rs.length
def intakeL : List Tr → Nat
  | [] => 0
  | p :: ps => p.width + intakeL ps
mutual
def Tr.depth : Tr → Nat
  | .leaf _ => 0
  | .grp _ ps => depthL ps + 1
def depthL : List Tr → Nat
  | [] => 0
  | p :: ps => max p.depth (depthL ps)
end
def Asc (rs : List Int) : Prop := rs.Pairwise (· < ·)
/-- a tree that the classes let by -/
inductive Ok : Tr → Prop where
  | leaf {x : Str} : nameOk x = true → Ok (.leaf x)
  | grp {rs : List Int} {ps : List Tr} : (∀ t ∈ ps, Ok t) → ps ≠ [] → (namesL ps).Nodup → rs ≠ [] → Asc rs → (∀ r ∈ rs, 1 ≤ r ∧ r ≤ (intakeL ps : Int)) → Ok (.grp rs ps)
def gf (lr lp : Addr) (it : Int) (ln : Addr) : List (Str × V) := putF "_names" (.ref ln) (putF "_intake" (.int it) (putF "_parts" (.ref lp) (putF "_ranks" (.ref lr) [])))
def lf (x : Str) : List (Str × V) := putF "_name" (.str x) []
inductive TAt (cL cG : Addr) (H : Hp) : V → Tr → Prop where
  | leaf {p dx : Addr} {x : Str} : H p = some (.ins cL dx (lf x)) → TAt cL cG H (.ref p) (.leaf x)
  | grp {p dx lr lp ln : Addr} {rs : List Int} {ps : List Tr} {vs : List V} : H p = some (.ins cG dx (gf lr lp (intakeL ps : Int) ln)) → H lr = some (.lst (rs.map V.int)) → H lp = some (.lst vs) → H ln = some (.lst ((namesL ps).map V.str)) →
      vs.length = ps.length → (∀ (i : Nat) v t, vs[i]? = some v → ps[i]? = some t → TAt cL cG H v t) → TAt cL cG H (.ref p) (.grp rs ps)
theorem TAt.mono {cL cG : Addr} {H H' : Hp} {v : V} {t : Tr} (h : TAt cL cG H v t) (e : Same H H') : TAt cL cG H' v t := by
  induction h with
  | leaf h => exact .leaf (e _ _ h)
  | grp h1 h2 h3 h4 hl _ ih => exact .grp (e _ _ h1) (e _ _ h2) (e _ _ h3) (e _ _ h4) hl ih
/-- a list of values that are trees -/
def FAt (cL cG : Addr) (H : Hp) (vs : List V) (ts : List Tr) : Prop := vs.length = ts.length ∧ ∀ (i : Nat) v t, vs[i]? = some v → ts[i]? = some t → TAt cL cG H v t
theorem FAt.mono {cL cG : Addr} {H H' : Hp} {vs : List V} {ts : List Tr} (h : FAt cL cG H vs ts) (e : Same H H') : FAt cL cG H' vs ts := ⟨h.1, fun i v t a b => (h.2 i v t a b).mono e⟩
theorem FAt.nil {cL cG : Addr} {H : Hp} : FAt cL cG H [] [] := ⟨rfl, fun i v t a _ => by simp at a⟩
theorem FAt.snoc {cL cG : Addr} {H : Hp} {vs : List V} {ts : List Tr} {v : V} {t : Tr} (h : FAt cL cG H vs ts) (q : TAt cL cG H v t) : FAt cL cG H (vs ++ [v]) (ts ++ [t]) := by
  refine ⟨by simp [h.1], fun i u s a b => ?_⟩
  by_cases hi : i < vs.length
  · rw [List.getElem?_append_left hi] at a
    rw [List.getElem?_append_left (by rw [← h.1]; exact hi)] at b
    exact h.2 i u s a b
  · rw [List.getElem?_append_right (by omega)] at a
    rw [List.getElem?_append_right (by rw [← h.1]; omega)] at b
    have e : i - vs.length = 0 := by
      have := (List.getElem?_eq_some_iff.mp a).1
      simp at this
      exact this
    rw [e] at a
    rw [← h.1, e] at b
    simp at a b
    subst a
    subst b
    exact q
/-! lookups -/
theorem k_pi : ¬ (("_parts" : Str) = "_intake") := by decide +kernel
theorem k_pn : ¬ (("_parts" : Str) = "_names") := by decide +kernel
theorem k_ri : ¬ (("_ranks" : Str) = "_intake") := by decide +kernel
theorem k_rn : ¬ (("_ranks" : Str) = "_names") := by decide +kernel
theorem k_rp : ¬ (("_ranks" : Str) = "_parts") := by decide +kernel
theorem k_in : ¬ (("_intake" : Str) = "_names") := by decide +kernel
theorem gf_names {lr lp ln : Addr} {it : Int} : (gf lr lp it ln).lookup ("_names" : Str) = some (.ref ln) := by
  unfold gf
  rw [lookup_putF, if_pos rfl]
theorem gf_intake {lr lp ln : Addr} {it : Int} : (gf lr lp it ln).lookup ("_intake" : Str) = some (.int it) := by
  unfold gf
  rw [lookup_putF, if_neg k_in, lookup_putF, if_pos rfl]
theorem gf_parts {lr lp ln : Addr} {it : Int} : (gf lr lp it ln).lookup ("_parts" : Str) = some (.ref lp) := by
  unfold gf
  rw [lookup_putF, if_neg k_pn, lookup_putF, if_neg k_pi, lookup_putF, if_pos rfl]
theorem gf_ranks {lr lp ln : Addr} {it : Int} : (gf lr lp it ln).lookup ("_ranks" : Str) = some (.ref lr) := by
  unfold gf
  rw [lookup_putF, if_neg k_rn, lookup_putF, if_neg k_ri, lookup_putF, if_neg k_rp, lookup_putF, if_pos rfl]
theorem gf_no {lr lp ln : Addr} {it : Int} {m : Str} (h1 : ¬ m = "_names") (h2 : ¬ m = "_intake") (h3 : ¬ m = "_parts") (h4 : ¬ m = "_ranks") : (gf lr lp it ln).lookup m = none := by
  unfold gf
  rw [lookup_putF, if_neg h1, lookup_putF, if_neg h2, lookup_putF, if_neg h3, lookup_putF, if_neg h4]
  all_goals rfl
theorem lf_name {x : Str} : (lf x).lookup ("_name" : Str) = some (.str x) := by
  unfold lf
  rw [lookup_putF, if_pos rfl]
theorem lf_no {x m : Str} (h1 : ¬ m = "_name") : (lf x).lookup m = none := by
  unfold lf
  rw [lookup_putF, if_neg h1]
  all_goals rfl
/-! the mathematics -/
theorem namesL_append : ∀ (a b : List Tr), namesL (a ++ b) = namesL a ++ namesL b
  | [], b => rfl
  | p :: a, b => by
    show p.names ++ namesL (a ++ b) = p.names ++ namesL a ++ namesL b
    rw [namesL_append a b, List.append_assoc]
theorem intakeL_append : ∀ (a b : List Tr), intakeL (a ++ b) = intakeL a + intakeL b
  | [], b => by
    show intakeL b = 0 + intakeL b
    omega
  | p :: a, b => by
    show p.width + intakeL (a ++ b) = p.width + intakeL a + intakeL b
    rw [intakeL_append a b]
    omega
theorem depth_mem : ∀ {ps : List Tr} {t : Tr}, t ∈ ps → t.depth ≤ depthL ps
  | [], t, h => by simp at h
  | p :: ps, t, h => by
    show t.depth ≤ max p.depth (depthL ps)
    rcases List.mem_cons.mp h with rfl | h
    · omega
    · have := depth_mem h
      omega
end Rk
namespace Rk
open PySem L2 RkO
mutual
def Tr.low (s : List Str) : Tr → Nat
  | .leaf x => if x ∈ s then 1 else 0
  | .grp rs ps => (rs.filter fun r => decide (r ≤ (lowL s ps : Int))).length
def lowL (s : List Str) : List Tr → Nat
  | [] => 0
  | p :: ps => p.low s + lowL s ps
end
def knd : Tr → Bool
  | .leaf _ => true
  | .grp _ _ => false
theorem lowL_sum (s : List Str) : ∀ ps : List Tr, (lowL s ps : Int) = (ps.map fun t => ((t.low s : Nat) : Int)).sum
  | [] => rfl
  | p :: ps => by
    show ((p.low s + lowL s ps : Nat) : Int) = ((p.low s : Nat) : Int) + (ps.map fun t => ((t.low s : Nat) : Int)).sum
    rw [← lowL_sum s ps]
    omega
theorem intakeL_sum : ∀ ps : List Tr, (intakeL ps : Int) = (ps.map fun t => ((t.width : Nat) : Int)).sum
  | [] => rfl
  | p :: ps => by
    show ((p.width + intakeL ps : Nat) : Int) = ((p.width : Nat) : Int) + (ps.map fun t => ((t.width : Nat) : Int)).sum
    rw [← intakeL_sum ps]
    omega
theorem namesL_flat : ∀ ps : List Tr, namesL ps = (ps.map Tr.names).flatten
  | [] => rfl
  | p :: ps => by
    show p.names ++ namesL ps = p.names ++ (ps.map Tr.names).flatten
    rw [namesL_flat ps]
theorem inV_str (x : Str) (xs : List Str) : inV (.str x) (xs.map V.str) = decide (x ∈ xs) := by
  unfold inV
  rw [List.any_map]
  show (xs.any fun y => y == x) = _
  rw [Bool.eq_iff_iff, List.any_eq_true, decide_eq_true_iff]
  exact ⟨fun ⟨y, h, e⟩ => by rw [← eq_of_beq e]; exact h, fun h => ⟨x, h, by simp⟩⟩
theorem flat_strs (xs : List Str) : (xs.map V.str).all flatV = true := by
  rw [List.all_map, List.all_eq_true]
  intro x _
  rfl
/-- the items of a forest -/
theorem FAt.mem {cL cG : Addr} {H : Hp} {vs : List V} {ts : List Tr} (h : FAt cL cG H vs ts) {i : Nat} {v : V} (e : vs[i]? = some v) : ∃ t, ts[i]? = some t ∧ TAt cL cG H v t := by
  have hi := (List.getElem?_eq_some_iff.mp e).1
  have hi2 : i < ts.length := by rw [← h.1]; exact hi
  exact ⟨ts[i], List.getElem?_eq_getElem hi2, h.2 i v _ e (List.getElem?_eq_getElem hi2)⟩
end Rk
namespace Rk
open PySem L2 RkO
theorem nameOk_len {x : Str} (h : nameOk x = true) : x.length ≤ 8 := by
  unfold nameOk at h
  rw [Bool.and_eq_true, Bool.and_eq_true] at h
  exact of_decide_eq_true h.1.2
theorem mem_namesL {x : Str} : ∀ {ps : List Tr}, x ∈ namesL ps → ∃ t ∈ ps, x ∈ t.names
  | [], h => by
    have h : x ∈ ([] : List Str) := h
    simp at h
  | p :: ps, h => by
    have h : x ∈ p.names ++ namesL ps := h
    rcases List.mem_append.mp h with h | h
    · exact ⟨p, List.mem_cons_self .., h⟩
    · obtain ⟨t, ht, hx⟩ := mem_namesL h
      exact ⟨t, List.mem_cons_of_mem _ ht, hx⟩
theorem Ok.names_ok {t : Tr} (h : Ok t) : ∀ x ∈ t.names, nameOk x = true := by
  induction h with
  | leaf h =>
    intro x hx
    rw [List.mem_singleton.mp (show x ∈ [_] from hx)]
    exact h
  | grp _ _ _ _ _ _ ih =>
    intro x hx
    obtain ⟨t, ht, hx⟩ := mem_namesL (show x ∈ namesL _ from hx)
    exact ih t ht x hx
theorem Ok.one {t : Tr} (h : Ok t) : 1 ≤ t.names.length := by
  induction h with
  | leaf _ => exact Nat.le_refl _
  | @grp rs ps _ hne _ _ _ _ ih =>
    cases ps with
    | nil => exact absurd rfl hne
    | cons p ps =>
      have := ih p (List.mem_cons_self ..)
      show 1 ≤ (p.names ++ namesL ps).length
      rw [List.length_append]
      omega
theorem parts_le : ∀ {ps : List Tr}, (∀ t ∈ ps, Ok t) → ps.length ≤ (namesL ps).length
  | [], _ => Nat.le_refl _
  | p :: ps, h => by
    have h1 := (h p (List.mem_cons_self ..)).one
    have h2 := parts_le (ps := ps) fun t ht => h t (List.mem_cons_of_mem _ ht)
    show ps.length + 1 ≤ (p.names ++ namesL ps).length
    rw [List.length_append]
    omega
/-- ascending numbers between 1 and m are no more than m -/
theorem asc_len : ∀ {rs : List Int} {lo m : Int}, Asc rs → (∀ r ∈ rs, lo ≤ r ∧ r ≤ m) → lo ≤ m + 1 → (rs.length : Int) ≤ m + 1 - lo
  | [], lo, m, _, _, h => by
    show (0 : Int) ≤ _
    omega
  | r :: rs, lo, m, ha, hb, h => by
    have h1 := hb r (List.mem_cons_self ..)
    obtain ⟨a1, a2⟩ := List.pairwise_cons.mp ha
    have := asc_len (rs := rs) (lo := r + 1) (m := m) a2 (fun z hz => ⟨by have := a1 z hz; omega, (hb z (List.mem_cons_of_mem _ hz)).2⟩) (by omega)
    rw [List.length_cons]
    omega
theorem Ok.width_le {t : Tr} (h : Ok t) : t.width ≤ t.names.length := by
  induction h with
  | leaf _ => exact Nat.le_refl _
  | @grp rs ps _ _ _ _ ha hb ih =>
    have key : ∀ qs : List Tr, (∀ t ∈ qs, t.width ≤ t.names.length) → intakeL qs ≤ (namesL qs).length := by
      intro qs
      induction qs with
      | nil => exact fun _ => Nat.le_refl _
      | cons q qs ihq =>
        intro hq
        have h1 := hq q (List.mem_cons_self ..)
        have h2 := ihq fun t ht => hq t (List.mem_cons_of_mem _ ht)
        show q.width + intakeL qs ≤ (q.names ++ namesL qs).length
        rw [List.length_append]
        omega
    have h1 := key ps ih
    have h2 := asc_len (lo := 1) (m := (intakeL ps : Int)) ha hb (by omega)
    show rs.length ≤ (namesL ps).length
    omega
theorem FAt.zip {cL cG : Addr} {H : Hp} {vs : List V} {ts : List Tr} (h : FAt cL cG H vs ts) : vs = (vs.zip ts).map Prod.fst ∧ ts = (vs.zip ts).map Prod.snd ∧ ∀ p ∈ vs.zip ts, TAt cL cG H p.1 p.2 := by
  refine ⟨?_, ?_, fun p hp => ?_⟩
  · rw [List.map_fst_zip (by rw [h.1]; exact Nat.le_refl _)]
  · rw [List.map_snd_zip (by rw [h.1]; exact Nat.le_refl _)]
  · obtain ⟨i, hi⟩ := List.mem_iff_getElem?.mp hp
    rw [List.getElem?_zip_eq_some] at hi
    exact h.2 i _ _ hi.1 hi.2
end Rk
set_option Elab.async false
set_option linter.all false
set_option maxRecDepth 100000
set_option maxHeartbeats 6400000
/-! set(xs) of a list of keys (texts, ints), of any small length; len of it -/
namespace RkT
open PySem PySem.Spec PyProof.Rows
section
variable {κ : Type} [DecidableEq κ] [BEq κ] [LawfulBEq κ]
/-- how many different ones stand among the first i -/
def diffs (x : Nat → κ) : Nat → Nat
  | 0 => 0
  | i + 1 => if ((List.range i).any fun j => x j == x i) then diffs x i else diffs x i + 1
theorem diffs_le (x : Nat → κ) : ∀ i, diffs x i ≤ i
  | 0 => Nat.le_refl _
  | i + 1 => by
    have := diffs_le x i
    unfold diffs
    split <;> omega
theorem diffs_all (x : Nat → κ) : ∀ i, diffs x i = i → ∀ a b, a < b → b < i → x a ≠ x b
  | 0, _, _, _, _, h => by omega
  | i + 1, e, a, b, hab, hb => by
    have l := diffs_le x i
    unfold diffs at e
    split at e
    · omega
    · rename_i no
      by_cases hbi : b < i
      · exact diffs_all x i (by omega) a b hab hbi
      · have eb : b = i := by omega
        subst eb
        intro z
        exact no (List.any_eq_true.mpr ⟨a, List.mem_range.mpr hab, by simp [z]⟩)
theorem diffs_full (x : Nat → κ) : ∀ i, (∀ a b, a < b → b < i → x a ≠ x b) → diffs x i = i
  | 0, _ => rfl
  | i + 1, h => by
    have ih := diffs_full x i fun a b hab hb => h a b hab (by omega)
    unfold diffs
    rw [if_neg, ih]
    intro z
    obtain ⟨j, hj, e⟩ := List.any_eq_true.mp z
    exact h j i (List.mem_range.mp hj) (Nat.lt_succ_self _) (eq_of_beq e)
variable {prog : Program} {w : World} {knd : KeyKind prog w κ}
def mem (x : Nat → κ) (i : Nat) : κ → Bool := fun k => (List.range i).any fun j => x j == k
def e0 (led : Bool) : Obj := { cls := .type "set", dict := none, data := .set #[] 0 (.fresh 0 0 led) }
variable {A : Around}
/-- the loop that fills the set -/
theorem fills {R : Result → Shared → Prop} {I : Addr} {fp wr : List Addr} {G : Array GenState → Array GenState → Prop} {n : Nat} {Py : Nat → Value → Prop} {St : Nat → Shared → Prop}
    (W : WalksS prog w A.in1 I fp wr G n Py St) (S : Addr) (out : S ∉ fp) (x : Nat → κ) (small : n + 1 < scanBound) (val : ∀ i v, Py i v → knd.is (x i) v = true ∧ v.scannable = true) :
    ∀ (m i : Nat) (s : Shared), n - i = m → i ≤ n → St i s → s.heap.SetOf knd S (mem x i) (diffs x i) →
      (∀ s', Moved (S :: wr) G s s' → s'.heap.SetOf knd S (mem x n) (diffs x n) → R (.ok (.ret .none)) s') → codeAny (model prog w) A (.builtin "set.update.loop" ⟨[.ref S, .ref I], []⟩) R s := by
  have outw : S ∉ wr := fun h => out (W.sub _ h)
  have up : ∀ b ∈ wr, b ∈ S :: wr := fun b hb => .tail _ hb
  intro m
  induction m with
  | zero =>
    intro i s hm hi hst hS hR
    obtain rfl : i = n := by omega
    refine codeAny_builtin F.entry_set_update_loop ?_
    rw [Around.under_plainId F.plain_set_update_loop _]
    show wpAny (model prog w) A.in1 (pyNext (.ref I) >>= _) _ _ s
    refine wpAny_bind (W.done s _ _ hst fun s' mv => ?_)
    show wpAny (model prog w) A.in1 (ret Value.none) _ _ s'
    refine wpAny_pure (hR s' (mv.mono up) ?_)
    obtain ⟨o, es, ep, t, ho, more⟩ := hS
    exact ⟨o, es, ep, t, mv.heap S o outw ho, more⟩
  | succ m ih =>
    intro i s hm hi hst hS hR
    have hlt : i < n := by omega
    refine codeAny_builtin F.entry_set_update_loop ?_
    rw [Around.under_plainId F.plain_set_update_loop _]
    show wpAny (model prog w) A.in1 (pyNext (.ref I) >>= _) _ _ s
    refine wpAny_bind (W.item i s _ _ hlt hst fun v s' pv st' mv => ?_)
    obtain ⟨hk, hsc⟩ := val i v pv
    have there : s'.heap.SetOf knd S (mem x i) (diffs x i) := by
      obtain ⟨o, es, ep, t, ho, more⟩ := hS
      exact ⟨o, es, ep, t, mv.heap S o outw ho, more⟩
    show wpAny (model prog w) A.in1 (holding [v] (setAdd S v) >>= _) _ _ s'
    refine wpAny_bind (wpAny_holding ?_)
    unfold setAdd
    refine wpAny_holding (wpAny_bind (knd.pyHash (k := x i) hk ?_))
    have room := diffs_le x i
    refine wpAny_setAddHashed_of (knd := knd) (s := { s' with toks := s'.toks + 1 }) hk hsc there (by omega) fun h' sb now => ?_
    have next : h'.SetOf knd S (mem x (i + 1)) (diffs x (i + 1)) := by
      refine SetOf_congr now (fun k => ?_) (by show (if mem x i (x i) = true then _ else _) = _; rfl)
      show (mem x i k || decide (k = x i)) = mem x (i + 1) k
      unfold mem
      rw [List.range_succ, List.any_append, List.any_cons, List.any_nil, Bool.or_false]
      congr 1
      by_cases e : k = x i
      · subst e; simp
      · rw [decide_eq_false e]
        exact (beq_eq_false_iff_ne.mpr fun z => e z.symm).symm
    have off : ∀ b ∈ fp, b ≠ S := fun b hb z => out (z ▸ hb)
    refine wpAny_pure ⟨plainId_quiet F.plain_set_update_loop _, ih (i + 1) _ (by omega) hlt (W.frame _ s' _ _ st' (Nat.le_succ _) fun b hb o e => (sb.2 b (off b hb)).trans e) next fun s'' mv' done => ?_⟩
    refine hR s'' (Moved.trans W.gtrans ((mv.mono up).then_heap (Nat.le_succ _) fun b o hb e => ?_) mv') done
    exact (sb.2 b fun z => hb (z ▸ List.mem_cons_self)).trans e
/-- set(l), l a list of n keys -/
theorem make {E : Value → Shared → Prop} {s : Shared} {l : Addr} {items : Array Value} {x : Nat → κ} {Q : Value → Shared → Prop} (calm : A.handled = none) (hl : s.heap.IsList l items) (small : items.size + 1 < scanBound)
    (val : ∀ (i : Nat) (v : Value), items[i]? = some v → knd.is (x i) v = true ∧ v.scannable = true) (fresh0 : ∀ led, (e0 led).SetObjOf knd (fun _ => false) 0)
    (h : ∀ (h' : Heap) (tk : Nat), h'.SetOf knd s.heap.objs.size (mem x items.size) (diffs x items.size) → (∀ b o, b < s.heap.objs.size → s.heap.get? b = some o → h'.get? b = some o) → Q (.ref s.heap.objs.size) { s with heap := h', toks := tk }) :
    wpAny (model prog w) A (call (.type "set") [.ref l]) Q E s := by
  have ⟨cc, tl, bases⟩ := PySem.F.called_set.mro
  have q1 := PySem.F.called_set.made
  have q2 := PySem.F.called_set.sub
  have q3 := PySem.F.called_set.notType
  have q4 := PySem.F.called_set.canCreate
  have q5 := PySem.F.typeCall_set_1 (.ref l)
  refine wpAny_call (codeAny_of_tree ?_)
  show wpAny (model prog w) _ (callAny (.type "set") _) _ _ s
  refine wpAny_pure ⟨Code.quiet_builtin _ (by decide +kernel), codeAny_builtin PySem.F.entry_type_call (by
    rw [Around.under_plain (weight_type_call_type "set" [.ref l] []) rfl]
    repeat (any_goals (first | assumption | wp_step))
    refine codeAny_mono (code_set_new_1 (.ref l) (E := E) (Q₁ := fun a s₁ => ∃ led : Bool, a = .ref s.heap.objs.size ∧ s₁ = { s with heap := s.heap.push (e0 led) }) fun led => ⟨led, rfl, rfl⟩) fun r s₁ hr => ?_
    rcases r with e | fl
    · exact hr
    obtain ⟨v0, rfl⟩ : ∃ v0, fl = .ret v0 := by
      cases fl with
      | ret v => exact ⟨v, rfl⟩
      | _ => exact hr.elim
    obtain ⟨led, rfl, rfl⟩ := hr
    have at0 : (s.heap.push (e0 led)).get? s.heap.objs.size = some (e0 led) := Heap.get?_push_size _ rfl
    have ty : Shared.TypeIs { s with heap := s.heap.push (e0 led) } (.ref s.heap.objs.size) "set" := ⟨_, at0, rfl⟩
    have i1 := PySem.F.called_set.init.lookup
    have i2 := PySem.F.called_set.init.bind (.ref s.heap.objs.size)
    repeat (any_goals (first | assumption | wp_step))
    refine codeAny_mono (codeAny_call_builtin (R := wants (fun r s₂ => r = .none ∧ ∃ h' tk, s₂ = { s with heap := h', toks := tk } ∧ h'.SetOf knd s.heap.objs.size (mem x items.size) (diffs x items.size) ∧ ∀ b o, b < s.heap.objs.size → s.heap.get? b = some o → h'.get? b = some o) E)
      PySem.F.called_set.init.plain PySem.F.entry_set_init (check_set_init_1 ty ?_)) fun r₂ s₂ hr₂ => ?_
    · obtain ⟨⟨oc, od, odt, osl⟩, hol, hcl, nl, hdl⟩ := hl
      simp only at hcl hdl
      subst hcl hdl
      have at1 : (s.heap.push (e0 led)).get? l = some ⟨.type "list", od, .seq items nl, osl⟩ := Heap.get?_push_of_some _ hol
      have t1 := PySem.F.sub_list_set
      have t2 := PySem.F.sub_list_frozenset
      have t3 : (Value.type "list" == Value.type "dict") = false := by decide
      have isl : (s.heap.push (e0 led)).IsList l items := ⟨_, at1, rfl, nl, rfl⟩
      unfold Builtin.«set.__init__» noKeywords Builtin.Frozenset.updateFrom
      generalize hPI : pyIter = PI
      wp_walk
      subst hPI
      refine wpAny_pyIter_list isl (wpAny_bind (wpAny_runValue ?_))
      have l0 : l < s.heap.objs.size := Heap.lt_size hol
      have sz : (s.heap.push (e0 led)).objs.size = s.heap.objs.size + 1 := Heap.size_push ..
      have l1 : l ≠ (s.heap.push (e0 led)).objs.size := by rw [sz]; exact Nat.ne_of_lt (Nat.lt_succ_of_lt l0)
      have out : s.heap.objs.size ∉ [(s.heap.push (e0 led)).objs.size, l] := by
        rw [sz]
        simp only [List.mem_cons, List.not_mem_nil, or_false, not_or]
        exact ⟨Nat.ne_of_lt (Nat.lt_succ_self _), Nat.ne_of_gt l0⟩
      refine fills ((Walks.list (by simp [calm]) _ l l1 items).toS) s.heap.objs.size out x small val (items.size - 0) 0 _ (by omega) (Nat.zero_le _) ⟨⟨_, Heap.get?_push_size _ rfl, rfl, rfl⟩, isl.push _⟩ ?start ?fin
      case start =>
        refine SetOf_congr ((fresh0 led).setOf (Heap.get?_push_of_some _ at0) (by unfold scanBound; omega)) (fun _ => rfl) rfl
      case fin =>
        rintro ⟨h', g', d', tk', os'⟩ mv full
        obtain rfl : g' = s.gens := mv.gens
        obtain rfl : d' = s.drawn := mv.drawn
        obtain rfl : os' = s.os := mv.os
        show wpAny _ _ _ _ _ _
        refine wpAny_pure ?_
        show wpAny _ _ (ret Value.none) _ _ _
        refine wpAny_pure ⟨rfl, h', tk', rfl, full, fun b o hb e => mv.heap b o ?_ (Heap.get?_push_of_some _ (Heap.get?_push_of_some _ e))⟩
        rw [sz]
        simp only [List.mem_cons, List.not_mem_nil, or_false, not_or]
        exact ⟨Nat.ne_of_lt hb, Nat.ne_of_lt (Nat.lt_succ_of_lt hb)⟩
    · rcases r₂ with e | fl₂
      · exact hr₂
      obtain ⟨v0, rfl⟩ : ∃ v0, fl₂ = .ret v0 := by
        cases fl₂ with
        | ret v => exact ⟨v, rfl⟩
        | _ => exact hr₂.elim
      obtain ⟨rfl, h', tk, rfl, full, kept⟩ := hr₂
      repeat (any_goals (first | assumption | wp_step))
      exact h _ _ full kept)⟩
end
end RkT

namespace RkO
open PySem PySem.Spec PyProof.Rows L2
variable {X : Cx}
/-- len(set(xs)), xs a list of texts -/
def tLenSetS (K : PySem.W.Frag) (ta : TE) : TE := fun σ H Q => ta σ H fun x H1 => ∃ (l : Addr) (xs : List Str), x = .ref l ∧ SqL K H1 l (xs.map V.str) ∧ xs.length ≤ 1000 ∧ Q (.int (RkT.diffs (fun i => xs.getD i Str.empty) xs.length : Nat)) H1
theorem pe_lenSetS {a : Expr} {ta : TE} {p p2 q pos : Pos} (hc : X.calm = true) (hg : Gl X "len") (hm : X.mg "len" = none) (hg2 : Gl X "set") (hm2 : X.mg "set" = none) (ha : PE X a ta)
    (na : starEach [a] X.env = (false, eval a X.env) :: starEach [] X.env := by rfl) : PE X (.Call (.Name "len" p) [.Call (.Name "set" p2) [a] [] q] [] pos) (tLenSetS X.K ta) := by
  refine ⟨fun pins s σ H Q I h => Call_ (ld_blt I hg hm boot_len ?_)⟩
  refine callWith_builtin1 (args_cons (Call_ (ld_blt I hg2 hm2 boot_set ?_)) rfl) rfl rfl
  refine callWith_type1 (args_cons (thn (ha.run pins s σ H _ I h) fun v s1 ⟨x, H1, I1, r1, q1⟩ => args_nil ?_) na) na rfl
  obtain ⟨l, xs, rfl, hq, small, q1⟩ := q1
  cases r1
  obtain ⟨its, r, pl, hz⟩ := I1.list hq
  have hl : its.toArray.size = xs.length := by rw [List.size_toArray, ← r.length, List.length_map]
  refine RkT.make (knd := PySem.strKind X.prog X.w) (x := fun i => xs.getD i Str.empty) (I1.ok.hd hc) pl.isList (by rw [hl]; unfold scanBound; omega) (fun i v hv => ?_) (fun led => setObjOf_fresh (knd := PySem.strKind X.prog X.w) led) fun h' tk full kept => ?_
  · have hv' : its[i]? = some v := by rw [← hv, List.getElem?_toArray]
    obtain ⟨t, e⟩ := SS.strs_at (strsAre_of r) i v hv'
    subst e
    exact ⟨strKind_is _ _ _ _, rfl⟩
  · refine args_nil ?_
    rw [hl] at full
    obtain ⟨o, es, ep, t, ho, hex, hd, _, _, _, hf, hn⟩ := full
    have I2 : Inv X pins σ H1 { s1 with heap := h', toks := tk } := I1.kept fun b o e => kept b o (Heap.lt_size e) e
    have le := RkT.diffs_le (fun i => xs.getD i Str.empty) xs.length
    exact call_len_set ho hex hd hf (by rw [hn]; omega) ⟨.int _, H1, I2.tok _, ⟨_, by rw [hn]⟩, q1⟩
end RkO
set_option Elab.async false
set_option linter.all false
set_option maxRecDepth 100000
set_option maxHeartbeats 4000000
namespace Rk
open PySem PySem.Spec PyProof.Rows L2 RkO
open Evl (Ev EvT EvA EvL EvU EvO Ex RC RCL SpV SpL)
section
variable {K : PySem.W.Frag} {σ : L2.St} {H H' : Hp} {ta tb te tx : TE} {t u : TT} {x y z v : V} {r : R2}
/-- a comprehension over a list of known items, no test: the i-th gives f of the i-th -/
theorem el_lcM {α : Type} {a : Addr} {xs : List α} {g f : α → V} {tl : TE} {j : Nat} {vs : List Nat} (h : Ev tl σ H (.ref a)) (hx : SqL K H a (xs.map g)) (hz : xs.length ≤ 40000) (hw : ∀ x, wipe ((wipe σ vs).set j (some x)) vs = wipe σ vs)
    (he : ∀ (x : α) H1, Ex H H1 → x ∈ xs → Ev te ((wipe σ vs).set j (some (g x))) H1 (f x)) : EvL (tLc (iList K tl) (gName j) tYes te vs) σ H (xs.map f) := fun H0 e Q q => h H0 e _ fun H1 e1 => ⟨a, rfl, ⟨_, Evl.ex_l (e.trans e1) hx⟩, fun Dl hD =>
  lc_list (xs := xs.map g) (fun i H' => H1 Dl = none ∧ Ex H1 H' ∧ H' Dl = some (.lst ((xs.take i).map f))) ⟨hD, Ex.new hD, upd_same⟩ (fun i H' _ p => Evl.ex_l ((e.trans e1).trans p.2.1) hx) (fun i y H' hi p => by
    obtain ⟨p1, p2, p3⟩ := p
    rw [List.getElem?_map] at hi
    obtain ⟨x, hxi, rfl⟩ := Option.map_eq_some_iff.mp hi
    refine ⟨hw _, ?_⟩
    refine he x H1 (e.trans e1) (List.mem_of_getElem? hxi) H' p2 _ fun H4 e4 => ⟨_, e4 _ _ p3, ?_, p1, Ex.mut (p2.trans e4) p1, ?_⟩
    · rw [List.length_map, List.length_take]
      exact Evl.sz_lt (by omega)
    · rw [upd_same, List.take_add_one, hxi, List.map_append]
      rfl) (fun H' p => q Dl H' (Evl.fresh_back e1 p.1) (e1.trans p.2.1) (by
    have := p.2.2
    rwa [List.length_map, List.take_length] at this))⟩
end
theorem diffs_nodup (xs : List Str) : decide (V.int ((RkT.diffs (fun i => xs.getD i Str.empty) xs.length : Nat) : Int) = V.int ((xs.length : Nat) : Int)) = decide xs.Nodup := by
  refine decide_eq_decide.mpr ⟨fun h => ?_, fun h => ?_⟩
  · have e : RkT.diffs (fun i => xs.getD i Str.empty) xs.length = xs.length := by
      have := V.int.inj h
      omega
    refine List.pairwise_iff_getElem.mpr fun i j hi hj hij z => ?_
    refine RkT.diffs_all _ _ e i j hij hj ?_
    show xs.getD i Str.empty = xs.getD j Str.empty
    rw [List.getD_eq_getElem?_getD, List.getD_eq_getElem?_getD, List.getElem?_eq_getElem hi, List.getElem?_eq_getElem hj, z]
  · rw [RkT.diffs_full]
    intro a b hab hb z
    have z : xs.getD a Str.empty = xs.getD b Str.empty := z
    rw [List.getD_eq_getElem?_getD, List.getD_eq_getElem?_getD, List.getElem?_eq_getElem hb, List.getElem?_eq_getElem (Nat.lt_trans hab hb)] at z
    exact List.pairwise_iff_getElem.mp h a b (Nat.lt_trans hab hb) hb hab z
section
variable {P : Program} {w : World} {K : PySem.W.Frag} {mg : Str → Option Value} {base : Heap}
/-! ### is_whole -/
def spIsWhole (K : PySem.W.Frag) : Sp := fun vs H Q _ => ∃ v t b c, vs = [v] ∧ TyX K H v t ∧ PySem.W.kitOne K t (.type "int") = some b ∧ (b = true → PySem.W.kitOne K t (.type "bool") = some c) ∧ Q (.bl (b && !c)) H
theorem ok_is_whole (T : Txt K mg) : FnOk P w K mg base CX0 1 T.f_is_whole T.d_is_whole ["value"] (spIsWhole K) := by
  refine T.F_is_whole.ok sc_is_whole (fun vs H Q E h => ?_) (fun cdv A outer s H vs Q E hr h => ?_)
  · obtain ⟨v, t, b, c, rfl, _⟩ := h
    rfl
  obtain ⟨v, t, b, c, rfl, ty, hb, hc, q⟩ := h
  refine ⟨_, (pss_one (ps_ret (pe_and (pe_callB call_isi (by rfl) T.m_isinstance (by decide +kernel) (pa_cons (pv 0) (pa_cons (pe_bltn (v := .ty "int") (by rfl) T.m_int (by decide +kernel) rfl) pa_nil))) (pe_one (pe_not (pe_callB call_isi (by rfl) T.m_isinstance (by decide +kernel) (pa_cons (pv 0) (pa_cons (pe_bltn (v := .ty "bool") (by rfl) T.m_bool (by decide +kernel) rfl) pa_nil)))))))), ?_⟩
  refine ⟨_, rfl, _, _, _, _, _, rfl, .ty "int", ty, hb, b, rfl, ?_⟩
  cases b with
  | false => exact iteF q
  | true => exact iteT ⟨_, rfl, _, _, _, _, _, rfl, .ty "bool", ty, hc rfl, c, rfl, q⟩
/-! ### are_names, of a list of texts -/
def spAreNames (K : PySem.W.Frag) : Sp := fun vs H Q _ => ∃ (a : Addr) (xs : List Str), vs = [.ref a] ∧ SqL K H a (xs.map V.str) ∧ TyX K H (.ref a) (.type "list") ∧ xs.length ≤ 1000 ∧ (∀ x ∈ xs, x.length ≤ 40000) ∧ ∀ H', Same H H' → Q (.bl (xs.all nameOk && decide xs.Nodup)) H'
theorem ok_are_names (T : Txt K mg) : FnOk P w K mg base CX0 2 T.f_are_names T.d_are_names ["value"] (spAreNames K) := by
  have G_is_name : FnOk P w K mg base CX0 1 T.f_is_name T.d_is_name ["value"] (spIsName K) := ok_is_name T
  refine T.F_are_names.ok sc_are_names (fun vs H Q E h => ?_) (fun cdv A outer s H vs Q E hr h => ?_)
  · obtain ⟨a, xs, rfl, _⟩ := h
    rfl
  obtain ⟨a, xs, rfl, hS, ty, hl, hx, q⟩ := h
  refine ⟨_, (pss_cons (ps_if (PW.pt (pw_or (pt_not (pt_val (pe_callB call_isi (by rfl) T.m_isinstance (by decide +kernel) (pa_cons (pv 0) (pa_cons (pe_bltn (v := .ty "list") (by rfl) T.m_list (by decide +kernel) rfl) pa_nil))))) (pw_or1 (pt_not (pt_val (pe_callB (cr_all rfl) (by rfl) T.m_all (by decide +kernel) (pa_cons (pe_lc (own := [("item", 1)]) rfl sc_are_names.nd  (pi_list (pv 0)) (blkOk_by (own := [("item", 1)]) (N := ["value", "item"]) (sc := defScope s_are_names) (by decide +kernel)) (fun _ _ _ _ _ => (pg_name (i := 1) sc_are_names.nd rfl (.inl rfl))) (fun _ _ _ _ _ => pts_nil) (fun _ _ _ _ _ => (pe_call G_is_name (hr.mono (by decide)) rfl T.m_is_name T.F_is_name.kp T.b_is_name .nil pass0 (pa_cons (pv 1) pa_nil)))) pa_nil))))))) (pss_one (ps_ret pe_bl)) pss_nil)
  (pss_one (ps_ret (pe_cmpR op_eq (pe_lenSetS rfl (by rfl) T.m_len (by rfl) T.m_set (pv 0)) (pe_callB call_len_seq (by rfl) T.m_len PySem.boot_len (pa_cons (pv 0) pa_nil)) (nomark _))))), ?_⟩
  refine ⟨_, rfl, _, _, _, _, _, rfl, .ty "list", ty, (show PySem.W.kitOne _ (.type "list") (.type "list") = some true by rfl), _, rfl, ?_⟩
  refine iteF ?_
  have all : EvT (tNot (tTest (tCB (rAll K) (tCons (tLc (iList K (tVar 0)) (gName 1) tYes (tCall (spIsName K) [] E0 (tCons (tVar 1) tNil)) [1]) tNil)))) [some (.ref a), none] H (!((xs.map nameOk).all id)) := by
    refine Evl.et_not (Evl.et_test (ev_allN ?_))
    rw [List.map_map]
    refine el_lcM (g := V.str) (Evl.ev_var rfl) hS (by omega) (fun x => rfl) fun x H1 e hm => ?_
    exact Evl.ev_call (Evl.ea_cons (Evl.ev_var rfl) Evl.ea_nil) fun H2 e2 Q q E => ⟨_, rfl, .inl ⟨x, rfl, hx x hm, q⟩⟩
  refine all H (Ex.refl H) _ fun H1 e1 => ?_
  dsimp only
  have ea : (xs.map nameOk).all id = xs.all nameOk := by rw [List.all_map]; rfl
  rw [ea]
  cases hb : xs.all nameOk with
  | false =>
    refine iteT ?_
    have := q H1 e1
    rw [hb] at this
    exact this
  | true =>
    refine iteF ?_
    refine ⟨_, rfl, a, xs, rfl, Evl.ex_l e1 hS, hl, _, rfl, a, _, rfl, .inl (Evl.ex_l e1 hS), rfl, ?_⟩
    have := q H1 e1
    rw [hb] at this
    rw [List.length_map]
    rw [diffs_nodup]
    exact this
end
end Rk
set_option Elab.async false
set_option linter.all false
set_option maxRecDepth 100000
set_option maxHeartbeats 4000000
namespace Rk
open PySem PySem.Spec PyProof.Rows L2 RkO
open Evl (Ev EvT EvA EvL EvU EvO Ex RC RCL SpV SpL)
theorem ifNot {b : Bool} {A B : Prop} (h : b = true) (q : B) : if (!b) = true then A else B := by
  subst h
  exact iteF q
section
variable {P : Program} {w : World} {K : PySem.W.Frag} {mg : Str → Option Value} {base : Heap}
/-! ### Leaf.__init__ -/
def spLeafInit (cL : Addr) : Sp := fun vs H Q _ => ∃ (p dx : Addr) (x : Str), vs = [.ref p, .str x] ∧ H p = some (.ins cL dx []) ∧ nameOk x = true ∧ x.length ≤ 40000 ∧
  ∀ H', (∀ b o, b ≠ p → H b = some o → H' b = some o) → H' p = some (.ins cL dx (lf x)) → Q .non H'
theorem ok_Leaf_init (T : Txt K mg) : FnOk P w K mg base CX0 2 T.f_Leaf_init T.d_Leaf_init ["self", "name"] (spLeafInit T.a_Leaf) := by
  have G_is_name : FnOk P w K mg base CX0 1 T.f_is_name T.d_is_name ["value"] (spIsName K) := ok_is_name T
  refine T.F_Leaf_init.ok sc_Leaf_init (fun vs H Q E h => ?_) (fun cdv A outer s H vs Q E hr h => ?_)
  · obtain ⟨p, dx, x, rfl, _⟩ := h
    rfl
  obtain ⟨p, dx, x, rfl, hp, hok, hx, q⟩ := h
  refine ⟨_, (pss_cons (ps_if (pt_not (pt_val (pe_call G_is_name (hr.mono (by decide)) rfl T.m_is_name T.F_is_name.kp T.b_is_name .nil pass0 (pa_cons (pv 1) pa_nil)))) (pss_one ps_never) pss_nil)
  (pss_one (ps_fld (pv 0) (pv 1) rfl))), ?_⟩
  refine ⟨_, rfl, _, rfl, .inl ⟨x, rfl, hx, fun H1 e1 => ⟨_, rfl, ?_⟩⟩⟩
  refine ifNot hok ?_
  refine ⟨_, rfl, _, rfl, p, _, dx, _, rfl, e1 _ _ hp, T.c_Leaf, T.n_Leaf_name, (by show 0 < 1000; decide), q _ (fun b o hb e => ?_) upd_same⟩
  rw [upd_ne hb]
  exact e1 _ _ e
/-! ### width -/
def spWidth (cL cG : Addr) (k : Bool) : Sp := fun vs H Q _ => ∃ v t, vs = [v] ∧ knd t = k ∧ TAt cL cG H v t ∧ Q (.int (t.width : Nat)) H
theorem ok_Leaf_width (T : Txt K mg) : FnOk P w K mg base CX0 1 T.f_Leaf_width T.d_Leaf_width ["self"] (spWidth T.a_Leaf T.a_Group true) := by
  refine T.F_Leaf_width.ok sc_Leaf_width (fun vs H Q E h => ?_) (fun cdv A outer s H vs Q E hr h => ?_)
  · obtain ⟨v, t, rfl, _⟩ := h
    rfl
  obtain ⟨v, t, rfl, hk, ht, q⟩ := h
  refine ⟨_, (pss_one (ps_ret pe_int)), ?_⟩
  cases ht with
  | leaf h => exact q
  | grp _ _ _ _ _ _ => cases hk
theorem ok_Group_width (T : Txt K mg) : FnOk P w K mg base CX0 1 T.f_Group_width T.d_Group_width ["self"] (spWidth T.a_Leaf T.a_Group false) := by
  refine T.F_Group_width.ok sc_Group_width (fun vs H Q E h => ?_) (fun cdv A outer s H vs Q E hr h => ?_)
  · obtain ⟨v, t, rfl, _⟩ := h
    rfl
  obtain ⟨v, t, rfl, hk, ht, q⟩ := h
  refine ⟨_, (pss_one (ps_ret (pe_callB call_len_seq (by rfl) T.m_len PySem.boot_len (pa_cons (pe_fld (pv 0) rfl) pa_nil)))), ?_⟩
  cases ht with
  | leaf _ => cases hk
  | @grp p dx lr lp ln rs ps vs h1 h2 h3 h4 hl hf =>
    refine ⟨_, rfl, p, _, dx, _, _, rfl, h1, T.c_Group, T.n_Group_ranks, gf_ranks, lr, _, rfl, .inl (SqL.of h2), ?_⟩
    rw [List.length_map]
    exact q
/-! ### names() -/
def spNames (cL cG : Addr) (k : Bool) : Sp := fun vs H Q _ => ∃ v t, vs = [v] ∧ knd t = k ∧ TAt cL cG H v t ∧ ∀ p H', H p = none → Same H H' → H' p = some (.lst (t.names.map V.str)) → Q (.ref p) H'
theorem ok_Leaf_names (T : Txt K mg) : FnOk P w K mg base CX0 1 T.f_Leaf_names T.d_Leaf_names ["self"] (spNames T.a_Leaf T.a_Group true) := by
  refine T.F_Leaf_names.ok sc_Leaf_names (fun vs H Q E h => ?_) (fun cdv A outer s H vs Q E hr h => ?_)
  · obtain ⟨v, t, rfl, _⟩ := h
    rfl
  obtain ⟨v, t, rfl, hk, ht, q⟩ := h
  refine ⟨_, (pss_one (ps_ret (pe_lst (pa_cons (pe_fld (pv 0) rfl) pa_nil)))), ?_⟩
  cases ht with
  | @leaf p dx x h => exact ⟨_, rfl, p, _, dx, _, _, rfl, h, T.c_Leaf, T.n_Leaf_name, lf_name, (by show 1 ≤ sizeLine; decide), fun z hz => q z _ hz (same_new hz _) upd_same⟩
  | grp _ _ _ _ _ _ => cases hk
theorem ok_Group_names (T : Txt K mg) : FnOk P w K mg base CX0 1 T.f_Group_names T.d_Group_names ["self"] (spNames T.a_Leaf T.a_Group false) := by
  refine T.F_Group_names.ok sc_Group_names (fun vs H Q E h => ?_) (fun cdv A outer s H vs Q E hr h => ?_)
  · obtain ⟨v, t, rfl, _⟩ := h
    rfl
  obtain ⟨v, t, rfl, hk, ht, q⟩ := h
  refine ⟨_, (pss_one (ps_ret (pe_callTy call_list_of (by rfl) T.m_list (by decide +kernel) (pa_cons (pe_fld (pv 0) rfl) pa_nil)))), ?_⟩
  cases ht with
  | leaf _ => cases hk
  | @grp p dx lr lp ln rs ps vs h1 h2 h3 h4 hl hf =>
    exact ⟨_, rfl, p, _, dx, _, _, rfl, h1, T.c_Group, T.n_Group_names, gf_names, ln, _, rfl, .inl (SqL.of h4), fun z hz => q z _ hz (same_new hz _) upd_same⟩
/-! ### name in tree, name a text -/
def spHas (cL cG : Addr) (k : Bool) : Sp := fun vs H Q _ => ∃ v t x, vs = [v, .str x] ∧ knd t = k ∧ TAt cL cG H v t ∧ Q (.bl (decide (x ∈ t.names))) H
theorem ok_Leaf_contains (T : Txt K mg) : FnOk P w K mg base CX0 1 T.f_Leaf_contains T.d_Leaf_contains ["self", "name"] (spHas T.a_Leaf T.a_Group true) := by
  refine T.F_Leaf_contains.ok sc_Leaf_contains (fun vs H Q E h => ?_) (fun cdv A outer s H vs Q E hr h => ?_)
  · obtain ⟨v, t, x, rfl, _⟩ := h
    rfl
  obtain ⟨v, t, y, rfl, hk, ht, q⟩ := h
  refine ⟨_, (pss_one (ps_ret (pe_cmpR op_eq (pv 1) (pe_fld (pv 0) rfl) (nomark _)))), ?_⟩
  cases ht with
  | @leaf p dx x h =>
    refine ⟨_, rfl, _, rfl, p, _, dx, _, _, rfl, h, T.c_Leaf, T.n_Leaf_name, lf_name, rfl, ?_⟩
    have e : decide (V.str y = V.str x) = decide (y ∈ (Tr.leaf x).names) := decide_eq_decide.mpr ⟨fun z => by rw [V.str.inj z]; exact List.mem_singleton.mpr rfl, fun z => by rw [List.mem_singleton.mp z]⟩
    rw [e]
    exact q
  | grp _ _ _ _ _ _ => cases hk
theorem ok_Group_contains (T : Txt K mg) : FnOk P w K mg base CX0 1 T.f_Group_contains T.d_Group_contains ["self", "name"] (spHas T.a_Leaf T.a_Group false) := by
  refine T.F_Group_contains.ok sc_Group_contains (fun vs H Q E h => ?_) (fun cdv A outer s H vs Q E hr h => ?_)
  · obtain ⟨v, t, x, rfl, _⟩ := h
    rfl
  obtain ⟨v, t, y, rfl, hk, ht, q⟩ := h
  refine ⟨_, (pss_one (ps_ret (pe_cmpR op_in_seq (pv 1) (pe_fld (pv 0) rfl) (by rfl)))), ?_⟩
  cases ht with
  | leaf _ => cases hk
  | @grp p dx lr lp ln rs ps vs h1 h2 h3 h4 hl hf =>
    refine ⟨_, rfl, _, rfl, p, _, dx, _, _, rfl, h1, T.c_Group, T.n_Group_names, gf_names, ln, _, rfl, .inl (SqL.of h4), rfl, flat_strs _, ?_⟩
    rw [inV_str]
    exact q
/-! ### both kinds at once -/
variable {X : Cx}
theorem pe_width {T : Txt K mg} {e : Expr} {te : TE} {pos : Pos} (hK : X.K = K) (hx : PE X e te) (g1 : FnOk X.prog X.w X.K X.mg X.base CX0 1 T.f_Leaf_width T.d_Leaf_width ["self"] (spWidth T.a_Leaf T.a_Group true)) (g2 : FnOk X.prog X.w X.K X.mg X.base CX0 1 T.f_Group_width T.d_Group_width ["self"] (spWidth T.a_Leaf T.a_Group false))
    (hr : Room 2 X.A) (hab : attributeBase e "width" X.env (eval e X.env) = eval e X.env) : PE X (.Attribute e "width" pos) (teor (tProp T.a_Leaf (spWidth T.a_Leaf T.a_Group true) [] E0 te) (tProp T.a_Group (spWidth T.a_Leaf T.a_Group false) [] E0 te)) := by
  subst hK
  exact pe_or2 (pe_prop hx T.c_Leaf T.P_Leaf_width g1 hr T.b_Leaf_width .nil pass0 hab) (pe_prop hx T.c_Group T.P_Group_width g2 hr T.b_Group_width .nil pass0 hab)
end
theorem rd_width {cL cG : Addr} {σ : L2.St} {H : Hp} {te : TE} {v : V} {t : Tr} (h : Ev te σ H v) (ht : TAt cL cG H v t) : Ev (teor (tProp cL (spWidth cL cG true) [] E0 te) (tProp cG (spWidth cL cG false) [] E0 te)) σ H (.int (t.width : Nat)) := fun H1 e1 Q q => by
  cases ht with
  | @leaf p dx x h0 => exact .inl (h H1 e1 _ fun H2 e2 => ⟨p, dx, _, rfl, e2 _ _ (e1 _ _ h0), _, .leaf x, rfl, rfl, .leaf (e2 _ _ (e1 _ _ h0)), q H2 e2⟩)
  | @grp p dx lr lp ln rs ps vs h1 h2 h3 h4 hl hf =>
    have w : TAt cL cG H (.ref p) (.grp rs ps) := .grp h1 h2 h3 h4 hl hf
    exact .inr (h H1 e1 _ fun H2 e2 => ⟨p, dx, _, rfl, e2 _ _ (e1 _ _ h1), _, .grp rs ps, rfl, rfl, (w.mono e1).mono e2, q H2 e2⟩)
end Rk
set_option Elab.async false
set_option linter.all false
set_option maxRecDepth 100000
set_option maxHeartbeats 4000000
namespace Rk
open PySem PySem.Spec PyProof.Rows L2 RkO
open Evl (Ev EvT EvA EvL EvU EvO Ex RC RCL SpV SpL)
section
variable {K : PySem.W.Frag} {σ : L2.St} {H H' : Hp} {ta tb te tx : TE} {t u : TT} {x y z v : V} {r : R2}
theorem ev_sumN {ns : List Int} (h : EvL te σ H (ns.map V.int)) : Ev (tCB (rSum K) (tCons te tNil)) σ H (.int ns.sum) := fun H1 e Q q =>
  h H1 e _ fun p H2 _ e2 h2 => ⟨p, ns, rfl, SqL.of h2, q H2 e2⟩
/-- [y for x in xs for y in e(x)], each e(x) a new list -/
theorem el_lc2 {α : Type} {a : Addr} {xs : List α} {g : α → V} {f : α → List V} {tl ti : TE} {j j1 : Nat} {vs vs1 : List Nat} (h : Ev tl σ H (.ref a)) (hx : SqL K H a (xs.map g)) (hz : ∀ i, ((xs.take i).map f).flatten.length ≤ 40000)
    (hw : ∀ x, wipe ((wipe σ vs).set j (some x)) vs = wipe σ vs) (hw1 : ∀ x y, wipe ((wipe ((wipe σ vs).set j (some x)) vs1).set j1 (some y)) vs1 = wipe ((wipe σ vs).set j (some x)) vs1)
    (hj : ∀ x y, ((wipe ((wipe σ vs).set j (some x)) vs1).set j1 (some y))[j1]? = some (some y)) (he : ∀ (x : α) H1, Ex H H1 → x ∈ xs → EvL ti ((wipe σ vs).set j (some (g x))) H1 (f x)) :
    EvL (tLc2 (iList K tl) (gName j) tYes (iList K ti) (gName j1) tYes (tVar j1) vs vs1) σ H (xs.map f).flatten := fun H0 e Q q => h H0 e _ fun H1 e1 => ⟨a, rfl, ⟨_, Evl.ex_l (e.trans e1) hx⟩, fun Dl hD => by
  refine ⟨fun i m H' => m = xs.length - i ∧ i ≤ xs.length ∧ H1 Dl = none ∧ Ex H1 H' ∧ H' Dl = some (.lst ((xs.take i).map f).flatten), ⟨_, rfl, Nat.zero_le _, hD, Ex.new hD, upd_same⟩, ?_⟩
  rintro i m H' ⟨rfl, hi, p1, p2, p3⟩
  have hq : SqL K H' a (xs.map g) := Evl.ex_l ((e.trans e1).trans p2) hx
  by_cases hlt : i < xs.length
  · refine .inr ⟨⟨_, g xs[i], hq, by rw [List.getElem?_map, List.getElem?_eq_getElem hlt]; rfl⟩, fun H' => i + 1 ≤ xs.length ∧ Ex H1 H' ∧ H' Dl = some (.lst ((xs.take (i + 1)).map f).flatten), fun H2 p => ⟨xs.length - (i + 1), by omega, rfl, p.1, p1, p.2.1, p.2.2⟩, fun x H2 y => ?_⟩
    obtain ⟨rfl, y⟩ := y
    have ex : x = g xs[i] := by
      have := y _ hq
      rw [List.getElem?_map, List.getElem?_eq_getElem hlt] at this
      exact (Option.some.inj this).symm
    subst ex
    refine ⟨hw _, ?_⟩
    simp only [tYes, ↓reduceIte]
    refine he xs[i] H1 (e.trans e1) (List.getElem_mem hlt) H2 p2 _ fun b H4 nb e4 hb => ⟨b, rfl, ⟨_, SqL.of hb⟩, ?_⟩
    have nbD : b ≠ Dl := fun z => by rw [z, p3] at nb; cases nb
    have hpre : (xs.take (i + 1)).map f = (xs.take i).map f ++ [f xs[i]] := by rw [List.take_add_one, List.getElem?_eq_getElem hlt, List.map_append]; rfl
    have hlen := hz (i + 1)
    rw [hpre, List.flatten_append, List.length_append] at hlen
    have hfl : [f xs[i]].flatten = f xs[i] := by simp
    rw [hfl] at hlen
    refine ⟨fun k m H' => m = (f xs[i]).length - k ∧ k ≤ (f xs[i]).length ∧ Ex H1 H' ∧ H' b = some (.lst (f xs[i])) ∧ H' Dl = some (.lst (((xs.take i).map f).flatten ++ (f xs[i]).take k)), ⟨_, rfl, Nat.zero_le _, p2.trans e4, hb, by rw [List.take_zero, List.append_nil]; exact e4 _ _ p3⟩, ?_⟩
    rintro k m H5 ⟨rfl, hk, q2, qb, q3⟩
    by_cases hkl : k < (f xs[i]).length
    · refine .inr ⟨⟨_, (f xs[i])[k], SqL.of qb, by simp [hkl]⟩, fun H' => k + 1 ≤ (f xs[i]).length ∧ Ex H1 H' ∧ H' b = some (.lst (f xs[i])) ∧ H' Dl = some (.lst (((xs.take i).map f).flatten ++ (f xs[i]).take (k + 1))), fun H' p => ⟨_, by omega, rfl, p.1, p.2.1, p.2.2.1, p.2.2.2⟩, fun y H6 z => ?_⟩
      obtain ⟨rfl, z⟩ := z
      have ey : (f xs[i])[k]? = some y := z _ (SqL.of qb)
      refine ⟨hw1 _ _, ?_⟩
      simp only [tYes, ↓reduceIte]
      refine ⟨y, hj _ _, _, q3, ?_, hkl, Ex.mut q2 p1, ?_, ?_⟩
      · rw [List.length_append, List.length_take]
        exact Evl.sz_lt (by omega)
      · rw [upd_ne nbD]
        exact qb
      · rw [upd_same, List.take_add_one, ey, List.append_assoc]
        rfl
    · have ek : k = (f xs[i]).length := by omega
      subst ek
      refine .inl ⟨⟨_, SqL.of qb, Nat.le_refl _⟩, hlt, q2, ?_⟩
      rw [q3, List.take_length, hpre, List.flatten_append, hfl]
  · have ei : i = xs.length := by omega
    subst ei
    refine .inl ⟨⟨_, hq, by rw [List.length_map]; exact Nat.le_refl _⟩, q Dl H' (Evl.fresh_back e1 p1) (e1.trans p2) ?_⟩
    rw [p3, List.take_length]⟩
end
section
variable {P : Program} {w : World} {K : PySem.W.Frag} {mg : Str → Option Value} {base : Heap}
/-! ### _intake_of -/
def spIntake (K : PySem.W.Frag) (cL cG : Addr) : Sp := fun vs H Q _ => ∃ (a : Addr) (us : List V) (ts : List Tr), vs = [.ref a] ∧ SqL K H a us ∧ FAt cL cG H us ts ∧ ts.length ≤ 40000 ∧ ∀ H', Same H H' → Q (.int (intakeL ts : Nat)) H'
theorem ok_intake_of (T : Txt K mg) : FnOk P w K mg base CX0 3 T.f_intake_of T.d_intake_of ["parts"] (spIntake K T.a_Leaf T.a_Group) := by
  refine T.F_intake_of.ok sc_intake_of (fun vs H Q E h => ?_) (fun cdv A outer s H vs Q E hr h => ?_)
  · obtain ⟨a, us, ts, rfl, _⟩ := h
    rfl
  obtain ⟨a, us, ts, rfl, hS, hF, hl, q⟩ := h
  refine ⟨_, (pss_one (ps_ret (pe_callB (cr_sum rfl) (by rfl) T.m_sum (by decide +kernel) (pa_cons (pe_lc (own := [("part", 1)]) rfl sc_intake_of.nd  (pi_list (pv 0)) (blkOk_by (own := [("part", 1)]) (N := ["parts", "part"]) (sc := defScope s_intake_of) (by decide +kernel)) (fun _ _ _ _ _ => (pg_name (i := 1) sc_intake_of.nd rfl (.inl rfl))) (fun _ _ _ _ _ => pts_nil) (fun _ _ _ _ _ => (pe_width (T := T) rfl (pv 1) (ok_Leaf_width T) (ok_Group_width T) (hr.mono (by decide)) rfl))) pa_nil)))), ?_⟩
  obtain ⟨e1, e2, hz⟩ := hF.zip
  refine Evl.s_ret (v := .int (intakeL ts : Nat)) ?_ fun H1 e => q H1 e
  have es : ((us.zip ts).map fun p => ((p.2.width : Nat) : Int)).sum = (intakeL ts : Nat) := by
    rw [intakeL_sum, ← show ((us.zip ts).map Prod.snd).map (fun t => ((t.width : Nat) : Int)) = (us.zip ts).map fun p => ((p.2.width : Nat) : Int) by rw [List.map_map]; rfl, ← e2]
  rw [← es]
  refine ev_sumN ?_
  rw [List.map_map]
  refine el_lcM (xs := us.zip ts) (g := Prod.fst) (Evl.ev_var rfl) (by rw [← e1]; exact hS) (by rw [List.length_zip]; omega) (fun x => rfl) fun p H1 ex hp => ?_
  exact rd_width (Evl.ev_var rfl) ((hz p hp).mono ex)
end
end Rk
set_option Elab.async false
set_option linter.all false
set_option maxRecDepth 100000
set_option maxHeartbeats 4000000
namespace Rk
open PySem PySem.Spec PyProof.Rows L2 RkO
open Evl (Ev EvT EvA EvL EvU EvO Ex RC RCL SpV SpL)
section
variable {K : PySem.W.Frag} {mg : Str → Option Value} {X : Cx}
theorem pe_names {T : Txt K mg} {e : Expr} {te : TE} {pos apos : Pos} {pl : Sem Bool} (hK : X.K = K) (hx : PE X e te) (g1 : FnOk X.prog X.w X.K X.mg X.base CX0 1 T.f_Leaf_names T.d_Leaf_names ["self"] (spNames T.a_Leaf T.a_Group true)) (g2 : FnOk X.prog X.w X.K X.mg X.base CX0 1 T.f_Group_names T.d_Group_names ["self"] (spNames T.a_Leaf T.a_Group false))
    (hr : Room 1 X.A) (ht : eval (.Call (.Attribute e "names" apos) [] [] pos) X.env = (do
      let ov ← eval e X.env
      standAt apos.atName
      let (f, first) ← holding [ov] (getMethod ov "names" pl)
      callWith pos f first (backTo pos (starEach [] X.env)) (backToKw pos (keywordEach [] X.env))) := by rfl) :
    PE X (.Call (.Attribute e "names" apos) [] [] pos) (teor (tMeth T.a_Leaf "names" (spNames T.a_Leaf T.a_Group true) [] E0 te tNil) (tMeth T.a_Group "names" (spNames T.a_Leaf T.a_Group false) [] E0 te tNil)) := by
  subst hK
  exact pe_or2 (pe_meth0 hx T.c_Leaf T.M_Leaf_names g1 hr T.b_Leaf_names .nil pass0 ht) (pe_meth0 hx T.c_Group T.M_Group_names g2 hr T.b_Group_names .nil pass0 ht)
theorem rd_names {cL cG : Addr} {σ : L2.St} {H : Hp} {te : TE} {v : V} {t : Tr} (h : Ev te σ H v) (ht : TAt cL cG H v t) :
    EvL (teor (tMeth cL "names" (spNames cL cG true) [] E0 te tNil) (tMeth cG "names" (spNames cL cG false) [] E0 te tNil)) σ H (t.names.map V.str) := fun H1 e1 Q q => by
  cases ht with
  | @leaf p dx x h0 => exact .inl (h H1 e1 _ fun H2 e2 => ⟨p, dx, _, rfl, e2 _ _ (e1 _ _ h0), lf_no (by decide +kernel), _, .leaf x, rfl, rfl, .leaf (e2 _ _ (e1 _ _ h0)), fun z H' hz e3 h3 => q z H' (Evl.fresh_back e2 hz) (e2.trans e3) h3⟩)
  | @grp p dx lr lp ln rs ps vs h1 h2 h3 h4 hl hf =>
    have w : TAt cL cG H (.ref p) (.grp rs ps) := .grp h1 h2 h3 h4 hl hf
    exact .inr (h H1 e1 _ fun H2 e2 => ⟨p, dx, _, rfl, e2 _ _ (e1 _ _ h1), gf_no (by decide +kernel) (by decide +kernel) (by decide +kernel) (by decide +kernel), _, .grp rs ps, rfl, rfl, (w.mono e1).mono e2, fun z H' hz e3 h3 => q z H' (Evl.fresh_back e2 hz) (e2.trans e3) h3⟩)
end
section
variable {P : Program} {w : World} {K : PySem.W.Frag} {mg : Str → Option Value} {base : Heap}
/-! ### _names_of -/
def spNamesOf (K : PySem.W.Frag) (cL cG : Addr) : Sp := fun vs H Q _ => ∃ (a : Addr) (us : List V) (ts : List Tr), vs = [.ref a] ∧ SqL K H a us ∧ FAt cL cG H us ts ∧ (namesL ts).length ≤ 40000 ∧ ∀ p H', H p = none → Same H H' → H' p = some (.lst ((namesL ts).map V.str)) → Q (.ref p) H'
theorem ok_names_of (T : Txt K mg) : FnOk P w K mg base CX0 2 T.f_names_of T.d_names_of ["parts"] (spNamesOf K T.a_Leaf T.a_Group) := by
  refine T.F_names_of.ok sc_names_of (fun vs H Q E h => ?_) (fun cdv A outer s H vs Q E hr h => ?_)
  · obtain ⟨a, us, ts, rfl, _⟩ := h
    rfl
  obtain ⟨a, us, ts, rfl, hS, hF, hl, q⟩ := h
  refine ⟨_, (pss_one (ps_ret (by refine' pe_lc2 (own := [("part", 1), ("name", 2)]) (vs1 := [2]) rfl sc_names_of.nd  (pi_list (pv 0)) (blkOk_by (own := [("part", 1), ("name", 2)]) (N := ["parts", "part", "name"]) (sc := defScope s_names_of) (by decide +kernel)) (by decide) (fun _ _ _ _ _ => (pg_name (i := 1) sc_names_of.nd rfl (.inl rfl))) (fun _ _ _ _ _ => pts_nil) ?i1 ?g1 ?t1 ?e1; (case i1 => exact (fun _ _ _ _ _ => (pi_listK (K := K) rfl (pe_names (T := T) rfl (pv 1) (ok_Leaf_names T) (ok_Group_names T) (hr.mono (by decide)))))); (case g1 => exact (fun _ _ _ _ _ => (pg_name (i := 2) sc_names_of.nd rfl (.inl rfl)))); (case t1 => exact (fun _ _ _ _ _ => pts_nil)); (case e1 => exact (fun _ _ _ _ _ => (pv 2)))))), ?_⟩
  obtain ⟨e1, e2, hz⟩ := hF.zip
  have ef : ∀ l : List (V × Tr), (l.map fun p => p.2.names.map V.str).flatten = (namesL (l.map Prod.snd)).map V.str := fun l => by
    rw [namesL_flat, List.map_map, List.map_flatten, List.map_map]
    rfl
  refine Evl.s_retL (xs := ((us.zip ts).map fun p => p.2.names.map V.str).flatten) ?_ fun p H1 np e h => q p H1 np e (by rw [h, ef, ← e2])
  refine el_lc2 (xs := us.zip ts) (g := Prod.fst) (Evl.ev_var rfl) (by rw [← e1]; exact hS) (fun i => ?_) (fun x => rfl) (fun x y => rfl) (fun x y => rfl) fun p H1 ex hp => ?_
  · rw [ef, List.length_map]
    refine Nat.le_trans ?_ hl
    have : (namesL (((us.zip ts).take i).map Prod.snd)).length ≤ (namesL ((us.zip ts).map Prod.snd)).length := by
      conv => rhs; rw [← List.take_append_drop i (us.zip ts), List.map_append, namesL_append, List.length_append]
      omega
    rwa [← e2] at this
  · exact rd_names (Evl.ev_var rfl) ((hz p hp).mono ex)
/-! ### is_tree, of a tree -/
theorem ty_tree (T : Txt K mg) {H : Hp} {v : V} {t : Tr} (h : TAt T.a_Leaf T.a_Group H v t) : ∃ c, TyX K H v (.ref c) ∧ ((c = T.a_Leaf ∧ knd t = true) ∨ (c = T.a_Group ∧ knd t = false)) := by
  cases h with
  | leaf h => exact ⟨_, .base (.ins h T.c_Leaf T.ca_Leaf T.gc T.tc T.mo_Leaf), .inl ⟨rfl, rfl⟩⟩
  | grp h _ _ _ _ _ => exact ⟨_, .base (.ins h T.c_Group T.ca_Group T.gc T.tc T.mo_Group), .inr ⟨rfl, rfl⟩⟩
theorem kit_self {K : PySem.W.Frag} {c : Addr} : PySem.W.kitOne K (.ref c) (.ref c) = some true := by
  unfold PySem.W.kitOne
  rw [if_pos (beq_self_eq_true _)]
def spIsTree (cL cG : Addr) : Sp := fun vs H Q _ => ∃ v t, vs = [v] ∧ TAt cL cG H v t ∧ ∀ H', Same H H' → Q (.bl true) H'
theorem ok_is_tree (T : Txt K mg) : FnOk P w K mg base CX0 1 T.f_is_tree T.d_is_tree ["value"] (spIsTree T.a_Leaf T.a_Group) := by
  refine T.F_is_tree.ok sc_is_tree (fun vs H Q E h => ?_) (fun cdv A outer s H vs Q E hr h => ?_)
  · obtain ⟨v, t, rfl, _⟩ := h
    rfl
  obtain ⟨v, t, rfl, ht, q⟩ := h
  refine ⟨_, (pss_one (ps_ret (pe_callB call_isiT (by rfl) T.m_isinstance (by decide +kernel) (pa_cons (pv 0) (pa_cons (pe_tup (pa_cons (pe_glob (v := .ref T.a_Leaf) rfl T.m_Leaf rfl) (pa_cons (pe_glob (v := .ref T.a_Group) rfl T.m_Group rfl) pa_nil))) pa_nil))))), ?_⟩
  refine ⟨_, rfl, (by show 2 ≤ sizeLine; decide), fun z hz => ?_⟩
  have e := same_new hz (.tup [.ref T.a_Leaf, .ref T.a_Group])
  obtain ⟨c, ty, hc⟩ := ty_tree T (ht.mono e)
  refine ⟨_, z, [.ref T.a_Leaf, .ref T.a_Group], _, _, _, rfl, upd_same, .cons (.own _) (.cons (.own _) .nil), ty, ?_, q _ e⟩
  rcases hc with ⟨rfl, _⟩ | ⟨rfl, _⟩
  · exact kitAny_cons kit_self (fun z => by cases z) fun _ => rfl
  · exact kitAny_cons T.is_Group_Leaf (fun _ => kitAny_cons kit_self (fun z => by cases z) fun _ => rfl) (fun z => by cases z)
end
end Rk
set_option Elab.async false
set_option linter.all false
set_option maxRecDepth 100000
set_option maxHeartbeats 4000000
namespace RkO
open PySem PySem.Spec PyProof.Rows L2
variable {X : Cx} {K : PySem.W.Frag}
theorem pg_K {tg : Expr} {g : PySem.W.Frag → TG} (hK : X.K = K) (h : PG X tg (g X.K)) : PG X tg (g K) := by
  subst hK
  exact h
end RkO
set_option Elab.async false
set_option linter.all false
set_option maxRecDepth 100000
set_option maxHeartbeats 4000000
namespace Rk
open PySem PySem.Spec PyProof.Rows L2 RkO
open Evl (Ev EvT EvA EvL EvU EvO Ex RC RCL SpV SpL)
section
variable {K : PySem.W.Frag} {σ : L2.St} {H H' : Hp} {ta tb te tx : TE} {t u : TT} {x y z v : V} {r : R2}
theorem ev_andB {a b : Bool} (h1 : Ev ta σ H (.bl a)) (h2 : a = true → Ev tb σ H (.bl b)) : Ev (tAndV ta tb) σ H (.bl (a && b)) := Evl.ev_andV h1 h2
theorem all_true {α : Type} (xs : List α) : (xs.map fun _ => true).all id = true := by
  rw [List.all_map]
  exact List.all_eq_true.mpr fun _ _ => rfl
end
section
variable {P : Program} {w : World} {K : PySem.W.Frag} {mg : Str → Option Value} {base : Heap}
/-! ### _are_parts, of trees -/
def spAreParts (K : PySem.W.Frag) (cL cG : Addr) : Sp := fun vs H Q _ => ∃ (a : Addr) (us : List V) (ts : List Tr), vs = [.ref a] ∧ SqL K H a us ∧ TyX K H (.ref a) (.type "list") ∧ FAt cL cG H us ts ∧ ts ≠ [] ∧ (∀ t ∈ ts, Ok t) ∧ (namesL ts).length ≤ 1000 ∧ ∀ H', Same H H' → Q (.bl (decide (namesL ts).Nodup)) H'
theorem ok_are_parts (T : Txt K mg) : FnOk P w K mg base CX0 3 T.f_are_parts T.d_are_parts ["value"] (spAreParts K T.a_Leaf T.a_Group) := by
  refine T.F_are_parts.ok sc_are_parts (fun vs H Q E h => ?_) (fun cdv A outer s H vs Q E hr h => ?_)
  · obtain ⟨a, us, ts, rfl, _⟩ := h
    rfl
  obtain ⟨a, us, ts, rfl, hS, ty, hF, hne, hok, hl, q⟩ := h
  refine ⟨_, (pss_cons (ps_if (PW.pt (pw_or (pt_not (pt_val (pe_callB call_isi (by rfl) T.m_isinstance (by decide +kernel) (pa_cons (pv 0) (pa_cons (pe_bltn (v := .ty "list") (by rfl) T.m_list (by decide +kernel) rfl) pa_nil))))) (pw_or1 (pt_cmpR op_eq (pe_callB call_len_seq (by rfl) T.m_len PySem.boot_len (pa_cons (pv 0) pa_nil)) pe_int (nomark _))))) (pss_one (ps_ret pe_bl)) pss_nil)
  (pss_one (ps_ret (pe_and (pe_callB (cr_all rfl) (by rfl) T.m_all (by decide +kernel) (pa_cons (pe_lc (own := [("part", 1)]) rfl sc_are_parts.nd  (pi_list (pv 0)) (blkOk_by (own := [("part", 1)]) (N := ["value", "part"]) (sc := defScope s_are_parts) (by decide +kernel)) (fun _ _ _ _ _ => (pg_name (i := 1) sc_are_parts.nd rfl (.inl rfl))) (fun _ _ _ _ _ => pts_nil) (fun _ _ _ _ _ => (pe_call (ok_is_tree T) (hr.mono (by decide)) rfl T.m_is_tree T.F_is_tree.kp T.b_is_tree .nil pass0 (pa_cons (pv 1) pa_nil)))) pa_nil)) (pe_one (pe_call (ok_are_names T) (hr.mono (by decide)) rfl T.m_are_names T.F_are_names.kp T.b_are_names .nil pass0 (pa_cons (pe_call (ok_names_of T) (hr.mono (by decide)) rfl T.m_names_of T.F_names_of.kp T.b_names_of .nil pass0 (pa_cons (pv 0) pa_nil)) pa_nil))))))), ?_⟩
  obtain ⟨e1, e2, hz⟩ := hF.zip
  have hpl := parts_le hok
  refine ⟨_, rfl, _, _, _, _, _, rfl, .ty "list", ty, (show PySem.W.kitOne _ (.type "list") (.type "list") = some true by rfl), _, rfl, ?_⟩
  refine iteF ?_
  refine ⟨_, rfl, a, _, rfl, .inl hS, rfl, _, rfl, ?_⟩
  refine ifD (fun c => ?_) (fun c => ?_)
  · have c' : ((us.length : Nat) : Int) = 0 := V.int.inj c
    have : ts.length = 0 := by rw [← hF.1]; omega
    exact absurd (List.length_eq_zero_iff.mp this) hne
  refine nxt ?_
  dsimp only
  have nok : ∀ x ∈ namesL ts, nameOk x = true := fun x hx => by
    obtain ⟨t, ht, hx⟩ := mem_namesL hx
    exact (hok t ht).names_ok x hx
  refine Evl.s_ret (v := .bl (decide (namesL ts).Nodup)) ?_ fun H1 e => q H1 e
  refine Evl.ev_is (ev_andB (a := true) (b := decide (namesL ts).Nodup) ?_ fun _ => ?_) rfl
  · refine Evl.ev_is (ev_allN (xs := (us.zip ts).map fun _ => true) ?_) (congrArg V.bl (all_true _))
    rw [List.map_map]
    refine el_lcM (xs := us.zip ts) (g := Prod.fst) (Evl.ev_var rfl) (by rw [← e1]; exact hS) (by rw [List.length_zip]; omega) (fun x => rfl) fun p H1 ex hp => ?_
    exact Evl.ev_call (Evl.ea_cons (Evl.ev_var rfl) Evl.ea_nil) fun H2 e2 Q q E => ⟨_, _, rfl, ((hz p hp).mono ex).mono e2, q⟩
  · intro H1 ex Q' q'
    refine ⟨_, rfl, a, us, ts, rfl, Evl.ex_l ex hS, hF.mono ex, by omega, fun p H2 np e2 hp => ?_⟩
    refine ⟨p, namesL ts, rfl, SqL.of hp, .base (.lst hp), hl, fun x hx => by have := nameOk_len (nok x hx); omega, fun H3 e3 => ?_⟩
    rw [List.all_eq_true.mpr nok, Bool.true_and]
    exact q' H3 (e2.trans e3)
/-! ### _are_ranks, of right ones -/
theorem asc_pairs {rs : List Int} (h : Asc rs) {i : Nat} {x y : Int} (hx : rs[i]? = some x) (hy : (rs.drop 1)[i]? = some y) : x < y := by
  rw [List.getElem?_drop] at hy
  obtain ⟨h1, e1⟩ := List.getElem?_eq_some_iff.mp hx
  obtain ⟨h2, e2⟩ := List.getElem?_eq_some_iff.mp hy
  rw [← e1, ← e2]
  exact List.pairwise_iff_getElem.mp h i (1 + i) h1 h2 (by omega)
def spAreRanks (K : PySem.W.Frag) : Sp := fun vs H Q _ => ∃ (a : Addr) (rs : List Int) (m : Int), vs = [.ref a, .int m] ∧ SqL K H a (rs.map V.int) ∧ TyX K H (.ref a) (.type "list") ∧ rs ≠ [] ∧ rs.length ≤ 1000 ∧ Asc rs ∧ (∀ r ∈ rs, 1 ≤ r ∧ r ≤ m) ∧ ∀ H', Same H H' → Q (.bl true) H'
theorem cut1 (xs : List V) : cutV xs (some 1) none = xs.drop 1 := by
  unfold cutV
  rw [show HT.sIx xs.length 0 (some 1) = min 1 xs.length from HT.sIx_nat xs.length 0 1, HT.sIx_none]
  cases xs with
  | nil => rfl
  | cons x r =>
    rw [show min 1 (x :: r).length = 1 by rw [List.length_cons]; omega]
    show List.take ((x :: r).length - 1) r = r
    rw [List.length_cons, Nat.add_sub_cancel, List.take_length]
theorem ok_are_ranks (T : Txt K mg) : FnOk P w K mg base CX0 2 T.f_are_ranks T.d_are_ranks ["value", "intake"] (spAreRanks K) := by
  refine T.F_are_ranks.ok sc_are_ranks (fun vs H Q E h => ?_) (fun cdv A outer s H vs Q E hr h => ?_)
  · obtain ⟨a, rs, m, rfl, _⟩ := h
    rfl
  obtain ⟨a, rs, m, rfl, hS, ty, hne, hl, ha, hb, q⟩ := h
  refine ⟨_, (pss_cons (ps_if (PW.pt (pw_or (pt_not (pt_val (pe_callB call_isi (by rfl) T.m_isinstance (by decide +kernel) (pa_cons (pv 0) (pa_cons (pe_bltn (v := .ty "list") (by rfl) T.m_list (by decide +kernel) rfl) pa_nil))))) (pw_or (pt_cmpR op_eq (pe_callB call_len_seq (by rfl) T.m_len PySem.boot_len (pa_cons (pv 0) pa_nil)) pe_int (nomark _)) (pw_or1 (pt_not (pt_val (pe_callB (cr_all rfl) (by rfl) T.m_all (by decide +kernel) (pa_cons (pe_lc (own := [("rank", 3)]) rfl sc_are_ranks.nd  (pi_list (pv 0)) (blkOk_by (own := [("rank", 3)]) (N := ["value", "intake", "ascending", "rank", "low", "high"]) (sc := defScope s_are_ranks) (by decide +kernel)) (fun _ _ _ _ _ => (pg_name (i := 3) sc_are_ranks.nd rfl (.inl rfl))) (fun _ _ _ _ _ => pts_nil) (fun _ _ _ _ _ => (pe_call (ok_is_whole T) (hr.mono (by decide)) rfl T.m_is_whole T.F_is_whole.kp T.b_is_whole .nil pass0 (pa_cons (pv 3) pa_nil)))) pa_nil)))))))) (pss_one (ps_ret pe_bl)) pss_nil)
  (pss_cons (ps_set (i := 2) sc_are_ranks.nd rfl (Or.inl rfl) (pe_callB (cr_all rfl) (by rfl) T.m_all (by decide +kernel) (pa_cons (pe_lc (own := [("low", 4), ("high", 5)]) rfl sc_are_ranks.nd  (pi_zip (by rfl) T.m_zip (pa_cons (pv 0) (pa_cons (pe_slice sl_list (pv 0) (po_some pe_int) po_none) pa_nil))) (blkOk_by (own := [("low", 4), ("high", 5)]) (N := ["value", "intake", "ascending", "rank", "low", "high"]) (sc := defScope s_are_ranks) (by decide +kernel)) (fun _ _ _ _ _ => (by exact (pg_K (K := K) (g := fun K => gTup K 2 (gCons (gName 4) (gCons (gName 5) gNil))) rfl (by exact (pg_tup rfl (pgs_cons (pg_name (i := 4) sc_are_ranks.nd rfl (.inl rfl)) (pgs_cons (pg_name (i := 5) sc_are_ranks.nd rfl (.inl rfl)) pgs_nil))))))) (fun _ _ _ _ _ => pts_nil) (fun _ _ _ _ _ => (pe_cmpR op_lt (pv 4) (pv 5) (nomark _)))) pa_nil)))
  (pss_one (ps_ret (pe_and (pv 2) (pe_and (pe_cmpR op_le pe_int (pe_ix ix_list (pv 0) pe_int (fun _ _ => rfl)) (nomark _)) (pe_one (pe_cmpR op_le (pe_ix ix_list (pv 0) (pe_un un_neg pe_int) (fun _ _ => rfl)) (pv 1) (nomark _))))))))), ?_⟩
  refine ⟨_, rfl, _, _, _, _, _, rfl, .ty "list", ty, (show PySem.W.kitOne _ (.type "list") (.type "list") = some true by rfl), _, rfl, ?_⟩
  refine iteF ?_
  refine ⟨_, rfl, a, _, rfl, .inl hS, rfl, _, rfl, ?_⟩
  refine ifD (fun c => ?_) (fun c => ?_)
  · have c' : (((rs.map V.int).length : Nat) : Int) = 0 := V.int.inj c
    rw [List.length_map] at c'
    exact absurd (List.length_eq_zero_iff.mp (by omega)) hne
  have whole : ∀ H1, Ex H H1 → ∀ Q' : V → Hp → Prop, (∀ H2, Ex H1 H2 → Q' (.bl true) H2) → tCB (rAll K) (tCons (tLc (iList K (tVar 0)) (gName 3) tYes (tCall (spIsWhole K) [] E0 (tCons (tVar 3) tNil)) [3]) tNil) [some (.ref a), some (.int m), none, none, none, none] H1 Q' := by
    refine Evl.ev_is (ev_allN (xs := rs.map fun _ => true) ?_) (congrArg V.bl (all_true _))
    rw [List.map_map]
    refine el_lcM (xs := rs) (g := V.int) (Evl.ev_var rfl) hS (by omega) (fun x => rfl) fun r H1 ex hp => ?_
    exact Evl.ev_call (Evl.ea_cons (Evl.ev_var rfl) Evl.ea_nil) fun H2 e2 Q q E => ⟨_, _, true, false, rfl, .base (.int r), (show PySem.W.kitOne _ (.type "int") (.type "int") = some true by rfl), fun _ => kit_ty (by decide +kernel), q H2 (Ex.refl H2)⟩
  refine whole H (Ex.refl H) _ fun H1 e1 => ⟨_, rfl, ?_⟩
  refine iteF ?_
  refine nxt ?_
  dsimp only
  -- ascending
  have hS1 : SqL K H1 a (rs.map V.int) := Evl.ex_l e1 hS
  refine ⟨_, rfl, _, rfl, _, rfl, a, _, rfl, hS1, fun c nc => ?_⟩
  have e2 : Ex H1 (upd H1 c (.lst (cutV (rs.map V.int) (some 1) none))) := Ex.new nc
  have hc : SqL K (upd H1 c (.lst (cutV (rs.map V.int) (some 1) none))) c ((rs.drop 1).map V.int) := SqL.of (by rw [upd_same, cut1, List.map_drop])
  generalize upd H1 c (.lst (cutV (rs.map V.int) (some 1) none)) = H2 at e2 hc ⊢
  refine ⟨a, c, _, _, rfl, Evl.ex_l e2 hS1, hc, fun Dl hD => ?_⟩
  refine lc_it (walk_zip rfl) (fun i H' => H2 Dl = none ∧ Ex H2 H' ∧ H' Dl = some (.lst ((List.range i).map fun _ => V.bl true))) ⟨hD, Ex.new hD, upd_same⟩ (fun i H' _ p => ⟨Evl.ex_l (e2.trans p.2.1) hS1, Evl.ex_l p.2.1 hc⟩) (fun i x H' H'' hi p y => ?_) (fun H' p => ?_)
  · obtain ⟨p1, p2, p3⟩ := p
    obtain ⟨Tt, x1, x2, rfl, nT, rfl, g1, g2⟩ := y
    dsimp only at g1 g2
    rw [List.getElem?_map] at g1 g2
    obtain ⟨r1, hr1, rfl⟩ := Option.map_eq_some_iff.mp g1
    obtain ⟨r2, hr2, rfl⟩ := Option.map_eq_some_iff.mp g2
    have lt : r1 < r2 := asc_pairs ha hr1 hr2
    have neT : Dl ≠ Tt := ne_of_none p3 nT
    refine ⟨Tt, _, rfl, SqT.of upd_same, rfl, _, _, rfl, _, _, rfl, rfl, rfl, ?_⟩
    refine ⟨_, rfl, _, rfl, _, _, rfl, rfl, _, by rw [upd_ne neT]; exact p3, ?_, p1, Ex.mut (p2.trans (Ex.new nT)) p1, ?_⟩
    · rw [List.length_map, List.length_range]
      rw [List.length_map] at hi
      exact Evl.sz_lt (by omega)
    · rw [upd_same, List.range_succ, List.map_append]
      dsimp only
      rw [decide_eq_true lt]
      rfl
  · obtain ⟨p1, p2, p3⟩ := p
    refine ⟨Dl, (List.range (min (rs.map V.int).length ((rs.drop 1).map V.int).length)).map (fun _ => true), rfl, SqL.of (by rw [p3, List.map_map]; rfl), ?_⟩
    rw [all_true]
    refine ⟨_, rfl, _, rfl, iteT ?_⟩
    have hS3 : SqL K H' a (rs.map V.int) := Evl.ex_l (e2.trans p2) hS1
    have same : Same H H' := fun b o z => p2 b o (e2 b o (e1 b o z))
    cases rs with
    | nil => exact absurd rfl hne
    | cons r0 rest =>
      refine ⟨_, rfl, a, _, 0, _, rfl, rfl, hS3, atI_nat (j := 0) rfl, _, _, rfl, rfl, _, rfl, ?_⟩
      rw [decide_eq_true (hb r0 (List.mem_cons_self ..)).1]
      refine iteT ?_
      have hz : ((r0 :: rest).map V.int) = ((r0 :: rest).dropLast.map V.int) ++ [.int ((r0 :: rest).getLast (List.cons_ne_nil _ _))] := by
        rw [← List.map_singleton, ← List.map_append, List.dropLast_concat_getLast]
      have gl : atI ((r0 :: rest).map V.int) (-1) = some (.int ((r0 :: rest).getLast (List.cons_ne_nil _ _))) := by
        rw [hz]
        exact atI_last _ _
      refine ⟨_, rfl, _, rfl, a, _, -1, _, rfl, rfl, hS3, gl, _, rfl, _, _, rfl, rfl, ?_⟩
      show Q (V.bl (decide ((r0 :: rest).getLast (List.cons_ne_nil _ _) ≤ m))) H'
      rw [decide_eq_true (hb _ (List.getLast_mem (List.cons_ne_nil _ _))).2]
      exact q H' same
/-! ### Group.__init__, of right parts -/
/-- all but the object at p is as it was (p an instance that is being made) -/
def Bp (p : Addr) (H H' : Hp) : Prop := ∀ b o, b ≠ p → H b = some o → H' b = some o
theorem Bp.of {p : Addr} {H H' : Hp} (e : Same H H') : Bp p H H' := fun b o _ h => e b o h
theorem Bp.trans {p : Addr} {H H1 H2 : Hp} (a : Bp p H H1) (b : Bp p H1 H2) : Bp p H H2 := fun c o n h => b c o n (a c o n h)
theorem Bp.upd {p : Addr} {H : Hp} {o : HO} : Bp p H (L2.upd H p o) := fun c u n h => by rw [upd_ne n]; exact h
theorem Bp.sq {K : PySem.W.Frag} {p C dx a : Addr} {fs : List (Str × V)} {H H' : Hp} {xs : List V} (e : Bp p H H') (hp : H p = some (.ins C dx fs)) (h : SqL K H a xs) : SqL K H' a xs := by
  rcases h with (h | ⟨o, h⟩) | h
  · exact .inl (.inl (e a _ (fun z => by rw [z, hp] at h; cases h) h))
  · exact .inl (.inr ⟨o, e a _ (fun z => by rw [z, hp] at h; cases h) h⟩)
  · exact .inr h
theorem ty_list {K : PySem.W.Frag} {H : Hp} {a : Addr} {xs : List V} (h : SqL K H a xs) : TyX K H (.ref a) (.type "list") := by
  rcases h with (h | ⟨o, h⟩) | ⟨o, its, n, h, c, _⟩
  · exact .base (.lst h)
  · exact .base (.frz h)
  · exact .kList h c
theorem lf_ne {x : Str} (h : lf x = []) : False := by
  have q := lf_name (x := x)
  rw [h] at q
  cases q
theorem gf_ne {lr lp ln : Addr} {it : Int} (h : gf lr lp it ln = []) : False := by
  have q := gf_names (lr := lr) (lp := lp) (ln := ln) (it := it)
  rw [h] at q
  cases q
theorem TAt.off {cL cG p C dx : Addr} {H H' : Hp} {v : V} {t : Tr} (h : TAt cL cG H v t) (hp : H p = some (.ins C dx [])) (e : Bp p H H') : TAt cL cG H' v t := by
  have ne : ∀ {a : Addr} {o : HO}, H a = some o → o ≠ .ins C dx [] → a ≠ p := fun {a o} h n z => by
    rw [z, hp] at h
    exact n (Option.some.inj h).symm
  induction h with
  | leaf h => exact .leaf (e _ _ (ne h fun z => lf_ne (HO.ins.inj z).2.2) h)
  | grp h1 h2 h3 h4 hl _ ih => exact .grp (e _ _ (ne h1 fun z => gf_ne (HO.ins.inj z).2.2) h1) (e _ _ (ne h2 nofun) h2) (e _ _ (ne h3 nofun) h3) (e _ _ (ne h4 nofun) h4) hl ih
def spGroupInit (K : PySem.W.Frag) (cL cG : Addr) : Sp := fun vs H Q _ => ∃ (p dx lr lp : Addr) (rs : List Int) (us : List V) (ts : List Tr), vs = [.ref p, .ref lr, .ref lp] ∧ H p = some (.ins cG dx []) ∧ SqL K H lr (rs.map V.int) ∧ TyX K H (.ref lr) (.type "list") ∧ SqL K H lp us ∧ TyX K H (.ref lp) (.type "list") ∧ FAt cL cG H us ts ∧
  Ok (.grp rs ts) ∧ (namesL ts).length ≤ 1000 ∧ ∀ H', (∀ b o, b ≠ p → H b = some o → H' b = some o) → TAt cL cG H' (.ref p) (.grp rs ts) → Q .non H'
theorem ok_Group_init (T : Txt K mg) : FnOk P w K mg base CX0 4 T.f_Group_init T.d_Group_init ["self", "ranks", "parts"] (spGroupInit K T.a_Leaf T.a_Group) := by
  refine T.F_Group_init.ok sc_Group_init (fun vs H Q E h => ?_) (fun cdv A outer s H vs Q E hr h => ?_)
  · obtain ⟨p, dx, lr, lp, rs, us, ts, rfl, _⟩ := h
    rfl
  obtain ⟨p, dx, lr, lp, rs, us, ts, rfl, hp, hR, tyR, hP, tyP, hF, hok, hl, q⟩ := h
  refine ⟨_, (pss_cons (ps_if (PW.pt (pw_or (pt_not (pt_val (pe_call (ok_are_parts T) (hr.mono (by decide)) rfl T.m_are_parts T.F_are_parts.kp T.b_are_parts .nil pass0 (pa_cons (pv 2) pa_nil)))) (pw_or1 (pt_not (pt_val (pe_call (ok_are_ranks T) (hr.mono (by decide)) rfl T.m_are_ranks T.F_are_ranks.kp T.b_are_ranks .nil pass0 (pa_cons (pv 1) (pa_cons (pe_call (ok_intake_of T) (hr.mono (by decide)) rfl T.m_intake_of T.F_intake_of.kp T.b_intake_of .nil pass0 (pa_cons (pv 2) pa_nil)) pa_nil)))))))) (pss_one ps_never) pss_nil)
  (pss_cons (ps_fld (pv 0) (pe_callTy call_list_of (by rfl) T.m_list (by decide +kernel) (pa_cons (pv 1) pa_nil)) rfl)
  (pss_cons (ps_fld (pv 0) (pe_callTy call_list_of (by rfl) T.m_list (by decide +kernel) (pa_cons (pv 2) pa_nil)) rfl)
  (pss_cons (ps_fld (pv 0) (pe_call (ok_intake_of T) (hr.mono (by decide)) rfl T.m_intake_of T.F_intake_of.kp T.b_intake_of .nil pass0 (pa_cons (pv 2) pa_nil)) rfl)
  (pss_one (ps_fld (pv 0) (pe_call (ok_names_of T) (hr.mono (by decide)) rfl T.m_names_of T.F_names_of.kp T.b_names_of .nil pass0 (pa_cons (pv 2) pa_nil)) rfl)))))), ?_⟩
  obtain ⟨oks, hne, hnd, hrne, hasc, hb⟩ : (∀ t ∈ ts, Ok t) ∧ ts ≠ [] ∧ (namesL ts).Nodup ∧ rs ≠ [] ∧ Asc rs ∧ ∀ r ∈ rs, 1 ≤ r ∧ r ≤ (intakeL ts : Int) := by
    cases hok with
    | grp h1 h2 h3 h4 h5 h6 => exact ⟨h1, h2, h3, h4, h5, h6⟩
  have hpl := parts_le oks
  have hrl : rs.length ≤ 1000 := by
    have := hok.width_le
    exact Nat.le_trans this hl
  refine ⟨_, rfl, lp, us, ts, rfl, hP, tyP, hF, hne, oks, hl, fun H1 e1 => ⟨_, rfl, ?_⟩⟩
  refine ifNot (decide_eq_true hnd) ?_
  have f1 : FAt T.a_Leaf T.a_Group H1 us ts := hF.mono e1
  have tyR' : ∀ {H' : Hp}, Same H H' → TyX K H' (.ref lr) (.type "list") := fun {H'} e => ty_list (Evl.ex_l e hR)
  refine ⟨_, rfl, _, rfl, lp, us, ts, rfl, Evl.ex_l e1 hP, f1, by omega, fun H2 e2 => ?_⟩
  refine ⟨lr, rs, _, rfl, Evl.ex_l e2 (Evl.ex_l e1 hR), tyR' (e1.trans e2), hrne, hrl, hasc, hb, fun H3 e3 => ⟨_, rfl, ?_⟩⟩
  refine iteF ?_
  refine nxt ?_
  dsimp only
  have s3 : Same H H3 := (e1.trans e2).trans e3
  -- self._ranks
  refine ⟨_, rfl, lr, _, rfl, .inl (Evl.ex_l s3 hR), fun l1 n1 => ⟨_, rfl, p, _, dx, _, rfl, same_new n1 _ _ _ (s3 _ _ hp), T.c_Group, T.n_Group_ranks, (by show 0 < 1000; decide), ?_⟩⟩
  have b4 : Bp p H (upd (upd H3 l1 (.lst (rs.map V.int))) p (.ins T.a_Group dx (putF "_ranks" (.ref l1) []))) := (Bp.of (s3.trans (same_new n1 _))).trans Bp.upd
  have p4 : (upd (upd H3 l1 (.lst (rs.map V.int))) p (.ins T.a_Group dx (putF "_ranks" (.ref l1) []))) p = some (.ins T.a_Group dx (putF "_ranks" (.ref l1) [])) := upd_same
  have n1p : l1 ≠ p := fun z => by rw [z, s3 _ _ hp] at n1; cases n1
  have l4 : (upd (upd H3 l1 (.lst (rs.map V.int))) p (.ins T.a_Group dx (putF "_ranks" (.ref l1) []))) l1 = some (.lst (rs.map V.int)) := by rw [upd_ne n1p, upd_same]
  generalize upd (upd H3 l1 (.lst (rs.map V.int))) p (.ins T.a_Group dx (putF "_ranks" (.ref l1) [])) = H4 at b4 p4 l4 ⊢
  -- self._parts
  refine ⟨_, rfl, lp, _, rfl, .inl (b4.sq hp hP), fun l2 n2 => ⟨_, rfl, p, _, dx, _, rfl, same_new n2 _ _ _ p4, T.c_Group, T.n_Group_parts, (by show 1 < 1000; decide), ?_⟩⟩
  have n2p : l2 ≠ p := fun z => by rw [z, p4] at n2; cases n2
  have b5 : Bp p H4 (upd (upd H4 l2 (.lst us)) p (.ins T.a_Group dx (putF "_parts" (.ref l2) (putF "_ranks" (.ref l1) [])))) := (Bp.of (same_new n2 _)).trans Bp.upd
  have p5 : (upd (upd H4 l2 (.lst us)) p (.ins T.a_Group dx (putF "_parts" (.ref l2) (putF "_ranks" (.ref l1) [])))) p = some (.ins T.a_Group dx (putF "_parts" (.ref l2) (putF "_ranks" (.ref l1) []))) := upd_same
  have l5 : (upd (upd H4 l2 (.lst us)) p (.ins T.a_Group dx (putF "_parts" (.ref l2) (putF "_ranks" (.ref l1) [])))) l2 = some (.lst us) := by rw [upd_ne n2p, upd_same]
  generalize upd (upd H4 l2 (.lst us)) p (.ins T.a_Group dx (putF "_parts" (.ref l2) (putF "_ranks" (.ref l1) []))) = H5 at b5 p5 l5 ⊢
  have b5' := b4.trans b5
  have l15 := b5 _ _ n1p l4
  have fOf : ∀ {H' : Hp}, Bp p H H' → FAt T.a_Leaf T.a_Group H' us ts := fun {H'} e => ⟨hF.1, fun i v t h1 h2 => (hF.2 i v t h1 h2).off hp e⟩
  -- self._intake
  refine ⟨_, rfl, lp, us, ts, rfl, b5'.sq hp hP, fOf b5', by omega, fun H6 e6 => ⟨_, rfl, p, _, dx, _, rfl, e6 _ _ p5, T.c_Group, T.n_Group_intake, (by show 2 < 1000; decide), ?_⟩⟩
  have b7 : Bp p H5 (upd H6 p (.ins T.a_Group dx (putF "_intake" (.int (intakeL ts : Nat)) (putF "_parts" (.ref l2) (putF "_ranks" (.ref l1) []))))) := (Bp.of e6).trans Bp.upd
  have p7 : (upd H6 p (.ins T.a_Group dx (putF "_intake" (.int (intakeL ts : Nat)) (putF "_parts" (.ref l2) (putF "_ranks" (.ref l1) []))))) p = some (.ins T.a_Group dx (putF "_intake" (.int (intakeL ts : Nat)) (putF "_parts" (.ref l2) (putF "_ranks" (.ref l1) [])))) := upd_same
  generalize upd H6 p (.ins T.a_Group dx (putF "_intake" (.int (intakeL ts : Nat)) (putF "_parts" (.ref l2) (putF "_ranks" (.ref l1) [])))) = H7 at b7 p7 ⊢
  have b7' := b5'.trans b7
  -- self._names
  refine ⟨_, rfl, lp, us, ts, rfl, b7'.sq hp hP, fOf b7', by omega, fun ln H8 n8 e8 h8 => ⟨_, rfl, p, _, dx, _, rfl, e8 _ _ p7, T.c_Group, T.n_Group_names, (by show 3 < 1000; decide), ?_⟩⟩
  have b9 : Bp p H7 (upd H8 p (.ins T.a_Group dx (gf l1 l2 (intakeL ts : Nat) ln))) := (Bp.of e8).trans Bp.upd
  have lnp : ln ≠ p := fun z => by rw [z, p7] at n8; cases n8
  refine q _ (b7'.trans b9) (.grp (dx := dx) (lr := l1) (lp := l2) (ln := ln) (vs := us) upd_same (b9 _ _ n1p (b7 _ _ n1p l15)) (b9 _ _ n2p (b7 _ _ n2p l5)) ?_ hF.1 (fOf (b7'.trans b9)).2)
  rw [upd_ne lnp]
  exact h8
end
end Rk
set_option Elab.async false
set_option linter.all false
set_option maxRecDepth 100000
set_option maxHeartbeats 4000000
namespace Rk
open PySem PySem.Spec PyProof.Rows L2 RkO
open Evl (Ev EvT EvA EvL EvU EvO Ex RC RCL SpV SpL)
section
variable {K : PySem.W.Frag} {σ : L2.St} {H H' : Hp} {ta tb te tx : TE} {t u : TT} {x y z v : V} {r : R2}
/-- a comprehension over a list of known items, with a test -/
theorem el_lcF {α : Type} {a : Addr} {xs : List α} {g f : α → V} {p : α → Bool} {tl : TE} {tt : TT} {j : Nat} {vs : List Nat} (h : Ev tl σ H (.ref a)) (hx : SqL K H a (xs.map g)) (hz : xs.length ≤ 40000) (hw : ∀ x, wipe ((wipe σ vs).set j (some x)) vs = wipe σ vs)
    (ht : ∀ (x : α) H1, Ex H H1 → x ∈ xs → EvT tt ((wipe σ vs).set j (some (g x))) H1 (p x)) (he : ∀ (x : α) H1, Ex H H1 → x ∈ xs → p x = true → Ev te ((wipe σ vs).set j (some (g x))) H1 (f x)) :
    EvL (tLc (iList K tl) (gName j) tt te vs) σ H ((xs.filter p).map f) := fun H0 e Q q => h H0 e _ fun H1 e1 => ⟨a, rfl, ⟨_, Evl.ex_l (e.trans e1) hx⟩, fun Dl hD =>
  lc_list (xs := xs.map g) (fun i H' => H1 Dl = none ∧ Ex H1 H' ∧ H' Dl = some (.lst (((xs.take i).filter p).map f))) ⟨hD, Ex.new hD, upd_same⟩ (fun i H' _ p => Evl.ex_l ((e.trans e1).trans p.2.1) hx) (fun i y H' hi q0 => by
    obtain ⟨p1, p2, p3⟩ := q0
    rw [List.getElem?_map] at hi
    obtain ⟨x, hxi, rfl⟩ := Option.map_eq_some_iff.mp hi
    have hm := List.mem_of_getElem? hxi
    refine ⟨hw _, ?_⟩
    refine ht x H1 (e.trans e1) hm H' p2 _ fun H3 e3 => ?_
    have tk : xs.take (i + 1) = xs.take i ++ [x] := by rw [List.take_add_one, hxi]; rfl
    refine ifB (fun hb => ?_) (fun hb => ?_)
    · refine he x H1 (e.trans e1) hm hb H3 (p2.trans e3) _ fun H4 e4 => ⟨_, e4 _ _ (e3 _ _ p3), ?_, p1, Ex.mut ((p2.trans e3).trans e4) p1, ?_⟩
      · rw [List.length_map]
        have := List.length_filter_le p (xs.take i)
        rw [List.length_take] at this
        exact Evl.sz_lt (by omega)
      · rw [upd_same, tk, List.filter_append, List.map_append, List.filter_cons, if_pos hb]
        rfl
    · refine ⟨p1, p2.trans e3, ?_⟩
      rw [tk, List.filter_append, List.filter_cons, if_neg (by rw [hb]; decide)]
      show H3 Dl = some (.lst (((xs.take i).filter p ++ []).map f))
      rw [List.append_nil]
      exact e3 _ _ p3) (fun H' q0 => q Dl H' (Evl.fresh_back e1 q0.1) (e1.trans q0.2.1) (by
    have := q0.2.2
    rwa [List.length_map, List.take_length] at this))⟩
/-- a method of a tree, whichever class it is of -/
theorem rd_meth {cL cG : Addr} {m : Str} {sp : Bool → Sp} {ta : TA} {vs : List V} {t : Tr} (h1 : ¬ m = "_name") (h2 : ¬ m = "_names") (h3 : ¬ m = "_intake") (h4 : ¬ m = "_parts") (h5 : ¬ m = "_ranks")
    (h : Ev te σ H v) (ht : TAt cL cG H v t) (ha : EvA ta σ H vs) (hs : SpV (sp (knd t)) (v :: vs) H z) : Ev (teor (tMeth cL m (sp true) [] E0 te ta) (tMeth cG m (sp false) [] E0 te ta)) σ H z := fun H1 e1 Q q => by
  cases ht with
  | @leaf p dx x h0 => exact .inl (h H1 e1 _ fun H2 e2 => ⟨p, dx, _, rfl, e2 _ _ (e1 _ _ h0), lf_no h1, ha H2 (e1.trans e2) _ fun H3 e3 => by
      rw [List.append_nil]
      exact hs H3 ((e1.trans e2).trans e3) Q (fun H4 e4 => q H4 ((e2.trans e3).trans e4)) E0⟩)
  | @grp p dx lr lp ln rs ps vs' g1 g2 g3 g4 hl hf => exact .inr (h H1 e1 _ fun H2 e2 => ⟨p, dx, _, rfl, e2 _ _ (e1 _ _ g1), gf_no h2 h3 h4 h5, ha H2 (e1.trans e2) _ fun H3 e3 => by
      rw [List.append_nil]
      exact hs H3 ((e1.trans e2).trans e3) Q (fun H4 e4 => q H4 ((e2.trans e3).trans e4)) E0⟩)
/-- name in tree, whichever class it is of -/
theorem rv_has {cL cG : Addr} {x : Str} {t : Tr} (ht : TAt cL cG H v t) : Evl.RV (r2or (rInO cL false (spHas cL cG true) E0) (rInO cG false (spHas cL cG false) E0)) (.str x) v H (.bl (decide (x ∈ t.names))) := fun H1 e1 Q q => by
  have w := ht.mono e1
  cases ht with
  | @leaf p dx y h0 => exact .inl ⟨p, dx, _, rfl, e1 _ _ h0, _, .leaf y, x, rfl, rfl, w, _, rfl, q H1 (Ex.refl H1)⟩
  | @grp p dx lr lp ln rs ps vs' g1 g2 g3 g4 hl hf => exact .inr ⟨p, dx, _, rfl, e1 _ _ g1, _, .grp rs ps, x, rfl, rfl, w, _, rfl, q H1 (Ex.refl H1)⟩
end
/-- nothing is promised -/
theorem fn_no {P : Program} {w : World} {K : PySem.W.Frag} {mg : Str → Option Value} {base : Heap} {CX : CXT} {k : Nat} {f : Addr} {fd : FuncData} {ps : List Str} {sp : Sp} (no : ∀ vs H Q E, ¬ sp vs H Q E) : FnOk P w K mg base CX k f fd ps sp :=
  ⟨fun vs H Q E h => absurd h (no vs H Q E), fun A outer s H args us vs Q E _ _ _ _ h => absurd h (no vs H Q E)⟩
section
variable {P : Program} {w : World} {K : PySem.W.Frag} {mg : Str → Option Value} {base : Heap}
/-! ### _are_leaves, of a tree and texts -/
def spAreLeaves (K : PySem.W.Frag) (cL cG : Addr) : Sp := fun vs H Q _ => ∃ (v : V) (t : Tr) (a : Addr) (xs : List Str), vs = [v, .ref a] ∧ TAt cL cG H v t ∧ SqL K H a (xs.map V.str) ∧ xs.length ≤ 1000 ∧ (∀ x ∈ xs, x.length ≤ 40000) ∧ ∀ H', Same H H' → Q (.bl ((xs.all nameOk && decide xs.Nodup) && xs.all fun x => decide (x ∈ t.names))) H'
theorem ok_are_leaves (T : Txt K mg) : FnOk P w K mg base CX0 3 T.f_are_leaves T.d_are_leaves ["tree", "names"] (spAreLeaves K T.a_Leaf T.a_Group) := by
  refine T.F_are_leaves.ok sc_are_leaves (fun vs H Q E h => ?_) (fun cdv A outer s H vs Q E hr h => ?_)
  · obtain ⟨v, t, a, xs, rfl, _⟩ := h
    rfl
  obtain ⟨v, t, a, xs, rfl, ht, hS, hl, hx, q⟩ := h
  refine ⟨_, (pss_one (ps_ret (pe_and (pe_call (ok_are_names T) (hr.mono (by decide)) rfl T.m_are_names T.F_are_names.kp T.b_are_names .nil pass0 (pa_cons (pv 1) pa_nil)) (pe_one (pe_callB (cr_all rfl) (by rfl) T.m_all (by decide +kernel) (pa_cons (pe_lc (own := [("name", 2)]) rfl sc_are_leaves.nd  (pi_list (pv 1)) (blkOk_by (own := [("name", 2)]) (N := ["tree", "names", "name"]) (sc := defScope s_are_leaves) (by decide +kernel)) (fun _ _ _ _ _ => (pg_name (i := 2) sc_are_leaves.nd rfl (.inl rfl))) (fun _ _ _ _ _ => pts_nil) (fun _ _ _ _ _ => (by exact (pe_cmpR (op_or (op_inO T.M_Leaf_contains (ok_Leaf_contains T) (hr.mono (by decide)) T.b_Leaf_contains pass0) (op_inO T.M_Group_contains (ok_Group_contains T) (hr.mono (by decide)) T.b_Group_contains pass0)) (pv 2) (pv 0) (by rfl))))) pa_nil)))))), ?_⟩
  refine Evl.s_ret (v := .bl ((xs.all nameOk && decide xs.Nodup) && xs.all fun x => decide (x ∈ t.names))) ?_ fun H1 e => q H1 e
  refine ev_andB ?_ fun _ => ?_
  · exact Evl.ev_call (Evl.ea_cons (Evl.ev_var rfl) Evl.ea_nil) fun H2 e2 Q q E => ⟨a, xs, rfl, Evl.ex_l e2 hS, ty_list (Evl.ex_l e2 hS), hl, hx, q⟩
  · refine Evl.ev_is (ev_allN (xs := xs.map fun x => decide (x ∈ t.names)) ?_) (by rw [List.all_map]; rfl)
    rw [List.map_map]
    refine el_lcM (xs := xs) (g := V.str) (Evl.ev_var rfl) hS (by omega) (fun x => rfl) fun x H1 ex hp => ?_
    exact Evl.ev_op (Evl.ev_var rfl) (Evl.ev_var rfl) (rv_has (ht.mono ex))
/-! ### _low_ends -/
def spLow (K : PySem.W.Frag) (cL cG : Addr) (n : Nat) (k : Bool) : Sp := fun vs H Q _ => ∃ (v : V) (t : Tr) (a : Addr) (xs : List Str), vs = [v, .ref a] ∧ knd t = k ∧ t.depth ≤ n ∧ TAt cL cG H v t ∧ Ok t ∧ t.names.length ≤ 1000 ∧ SqL K H a (xs.map V.str) ∧ ∀ H', Same H H' → Q (.int (t.low xs : Nat)) H'
theorem ok_Leaf_low (T : Txt K mg) (n : Nat) : FnOk P w K mg base CX0 1 T.f_Leaf__low_ends T.d_Leaf__low_ends ["self", "low"] (spLow K T.a_Leaf T.a_Group n true) := by
  refine T.F_Leaf__low_ends.ok sc_Leaf__low_ends (fun vs H Q E h => ?_) (fun cdv A outer s H vs Q E hr h => ?_)
  · obtain ⟨v, t, a, xs, rfl, _⟩ := h
    rfl
  obtain ⟨v, t, a, xs, rfl, hk, hd, ht, hok, hl, hS, q⟩ := h
  refine ⟨_, (pss_one (ps_ret (pe_ifExp (pt_cmpR op_in_seq (pe_fld (pv 0) rfl) (pv 1) (by rfl)) pe_int pe_int))), ?_⟩
  cases ht with
  | @leaf p dx x h =>
    refine ⟨_, rfl, p, _, dx, _, _, rfl, h, T.c_Leaf, T.n_Leaf_name, lf_name, _, rfl, a, _, rfl, .inl hS, rfl, flat_strs _, _, rfl, ?_⟩
    have := q H (Same.refl H)
    rw [show (Tr.leaf x).low xs = if x ∈ xs then 1 else 0 from rfl] at this
    show if inV (.str x) (xs.map V.str) = true then _ else _
    rw [inV_str]
    refine ifD (fun c => ?_) (fun c => ?_)
    · rw [if_pos c] at this
      exact this
    · rw [if_neg c] at this
      exact this
  | grp _ _ _ _ _ _ => cases hk
theorem ok_Group_low (T : Txt K mg) : ∀ n : Nat, FnOk P w K mg base CX0 (n + 1) T.f_Group__low_ends T.d_Group__low_ends ["self", "low"] (spLow K T.a_Leaf T.a_Group n false)
  | 0 => fn_no fun vs H Q E h => by
    obtain ⟨v, t, a, xs, _, hk, hd, _⟩ := h
    cases t with
    | leaf x => cases hk
    | grp rs ps => exact absurd (show depthL ps + 1 ≤ 0 from hd) (by omega)
  | n + 1 => by
    have GL : FnOk P w K mg base CX0 1 T.f_Leaf__low_ends T.d_Leaf__low_ends ["self", "low"] (spLow K T.a_Leaf T.a_Group n true) := ok_Leaf_low T n
    have GG : FnOk P w K mg base CX0 (n + 1) T.f_Group__low_ends T.d_Group__low_ends ["self", "low"] (spLow K T.a_Leaf T.a_Group n false) := ok_Group_low T n
    refine T.F_Group__low_ends.ok sc_Group__low_ends (fun vs H Q E h => ?_) (fun cdv A outer s H vs Q E hr h => ?_)
    · obtain ⟨v, t, a, xs, rfl, _⟩ := h
      rfl
    obtain ⟨v, t, a, xs, rfl, hk, hd, ht, hok, hl, hS, q⟩ := h
    refine ⟨_, (pss_cons (ps_set (i := 2) sc_Group__low_ends.nd rfl (Or.inr rfl) (pe_callB (cr_sum rfl) (by rfl) T.m_sum (by decide +kernel) (pa_cons (pe_lc (own := [("part", 3)]) rfl sc_Group__low_ends.nd  (pi_list (pe_fld (pv 0) rfl)) (blkOk_by (own := [("part", 3)]) (N := ["self", "low", "taken", "part", "rank"]) (sc := defScope s_Group__low_ends) (by decide +kernel)) (fun _ _ _ _ _ => (pg_name (i := 3) sc_Group__low_ends.nd rfl (.inl rfl))) (fun _ _ _ _ _ => pts_nil) (fun _ _ _ _ _ => (by exact (pe_or2 (pe_meth (pv 3) T.c_Leaf T.M_Leaf__low_ends GL (hr.mono (by omega)) T.b_Leaf__low_ends .nil pass0 (pa_cons (pv 1) pa_nil)) (pe_meth (pv 3) T.c_Group T.M_Group__low_ends GG hr T.b_Group__low_ends .nil pass0 (pa_cons (pv 1) pa_nil)))))) pa_nil)))
  (pss_one (ps_ret (pe_callB call_len_seq (by rfl) T.m_len PySem.boot_len (pa_cons (pe_lc (own := [("rank", 4)]) rfl sc_Group__low_ends.nd  (pi_list (pe_fld (pv 0) rfl)) (blkOk_by (own := [("rank", 4)]) (N := ["self", "low", "taken", "part", "rank"]) (sc := defScope s_Group__low_ends) (by decide +kernel)) (fun _ _ _ _ _ => (pg_name (i := 4) sc_Group__low_ends.nd rfl (.inl rfl))) (fun _ _ _ _ _ => (pts_one (pt_cmpR op_le (pv 4) (pv 2) (nomark _)))) (fun _ _ _ _ _ => (pv 4))) pa_nil))))), ?_⟩
    cases ht with
    | leaf _ => cases hk
    | @grp p dx lr lp ln rs ps vs' g1 g2 g3 g4 hvl hf =>
      have hF : FAt T.a_Leaf T.a_Group H vs' ps := ⟨hvl, hf⟩
      obtain ⟨e1, e2, hz⟩ := hF.zip
      obtain ⟨oks, hasc, hb⟩ : (∀ t ∈ ps, Ok t) ∧ Asc rs ∧ ∀ r ∈ rs, 1 ≤ r ∧ r ≤ (intakeL ps : Int) := by
        cases hok with
        | grp h1 _ _ _ h5 h6 => exact ⟨h1, h5, h6⟩
      have hd : depthL ps + 1 ≤ n + 1 := hd
      have hl : (namesL ps).length ≤ 1000 := hl
      have hrl : rs.length ≤ 1000 := Nat.le_trans hok.width_le hl
      have hpl := parts_le oks
      have sub : ∀ t ∈ ps, t.names.length ≤ 1000 := fun t ht => by
        have h2 : (t.names).length ≤ (namesL ps).length := by
          obtain ⟨a, b, rfl⟩ := List.append_of_mem ht
          rw [namesL_append, List.length_append]
          show t.names.length ≤ (namesL a).length + (t.names ++ namesL b).length
          rw [List.length_append]
          omega
        omega
      have fld : ∀ (σ : L2.St) (f : Str) (val : V) (H1 : Hp), σ[0]? = some (some (.ref p)) → Ex H H1 → NoAttr K T.a_Group f → (gf lr lp (intakeL ps : Int) ln).lookup f = some val → Ev (tFld K (tVar 0) f) σ H1 val := fun σ f val H1 h0 e hn hlk H2 e3 Q q => ⟨_, h0, p, _, dx, _, _, rfl, e3 _ _ (e _ _ g1), T.c_Group, hn, hlk, q H2 (Ex.refl H2)⟩
      have es : ((vs'.zip ps).map fun p => ((p.2.low xs : Nat) : Int)).sum = (lowL xs ps : Nat) := by
        rw [lowL_sum, ← show ((vs'.zip ps).map Prod.snd).map (fun t => ((t.low xs : Nat) : Int)) = (vs'.zip ps).map fun p => ((p.2.low xs : Nat) : Int) by rw [List.map_map]; rfl, ← e2]
      refine Evl.q_asg (v := .int (lowL xs ps : Nat)) ?_ fun H1 ex1 => ?_
      · rw [← es]
        refine ev_sumN ?_
        rw [List.map_map]
        refine el_lcM (xs := vs'.zip ps) (g := Prod.fst) (fld _ _ _ H rfl (Ex.refl H) T.n_Group_parts gf_parts) (by rw [← e1]; exact SqL.of g3) (by rw [List.length_zip]; omega) (fun x => rfl) fun pp H1 ex hp => ?_
        have hmem : pp.2 ∈ ps := by
          rw [e2]
          exact List.mem_map.mpr ⟨pp, hp, rfl⟩
        have hdp := depth_mem hmem
        exact rd_meth (sp := spLow K T.a_Leaf T.a_Group n) (by decide +kernel) (by decide +kernel) (by decide +kernel) (by decide +kernel) (by decide +kernel) (Evl.ev_var rfl) ((hz pp hp).mono ex) (Evl.ea_cons (Evl.ev_var rfl) Evl.ea_nil)
          fun H2 e3 Q q E => ⟨_, pp.2, a, xs, rfl, rfl, by omega, ((hz pp hp).mono ex).mono e3, oks _ hmem, sub _ hmem, Evl.ex_l e3 (Evl.ex_l ex hS), q⟩
      · refine Evl.s_ret (v := .int ((rs.filter fun r => decide (r ≤ (lowL xs ps : Int))).length : Nat)) ?_ fun H2 ex2 => q H2 (ex1.trans ex2)
        refine Evl.ev_is (Evl.ev_lenN (xs := (rs.filter fun r => decide (r ≤ (lowL xs ps : Int))).map V.int) ?_) (by rw [List.length_map])
        refine el_lcF (xs := rs) (g := V.int) (f := V.int) (p := fun r => decide (r ≤ (lowL xs ps : Int))) (fld _ _ _ H1 rfl ex1 T.n_Group_ranks gf_ranks) (Evl.ex_l ex1 (SqL.of g2)) (by omega) (fun x => rfl) (fun r H2 e hm => ?_) (fun r H2 e hm hp => Evl.ev_var rfl)
        exact Evl.et_test (Evl.ev_op (Evl.ev_var rfl) (Evl.ev_var rfl) Evl.rv_I0)
/-! ### passes, of right names -/
def spPasses (K : PySem.W.Frag) (cL cG : Addr) (n : Nat) (k : Bool) : Sp := fun vs H Q _ => ∃ (v : V) (t : Tr) (a : Addr) (xs : List Str), vs = [v, .ref a] ∧ knd t = k ∧ t.depth ≤ n ∧ TAt cL cG H v t ∧ Ok t ∧ t.names.length ≤ 1000 ∧ SqL K H a (xs.map V.str) ∧ xs.Nodup ∧ (∀ x ∈ xs, x ∈ t.names) ∧ ∀ H', Same H H' → Q (.int (t.low xs : Nat)) H'
theorem nodup_len {α : Type} [DecidableEq α] : ∀ {xs ys : List α}, xs.Nodup → (∀ x ∈ xs, x ∈ ys) → xs.length ≤ ys.length
  | [], _, _, _ => Nat.zero_le _
  | x :: xs, ys, h, hm => by
    obtain ⟨h1, h2⟩ := List.nodup_cons.mp h
    have hx := hm x (List.mem_cons_self ..)
    have := nodup_len (xs := xs) (ys := ys.erase x) h2 fun y hy => (List.mem_erase_of_ne (fun z => h1 (by rw [← z]; exact hy))).mpr (hm y (List.mem_cons_of_mem _ hy))
    rw [List.length_erase_of_mem hx] at this
    have : 1 ≤ ys.length := List.length_pos_of_mem hx
    rw [List.length_cons]
    omega
theorem ok_Leaf_passes (T : Txt K mg) (n : Nat) : FnOk P w K mg base CX0 (n + 4) T.f_Leaf_passes T.d_Leaf_passes ["self", "names"] (spPasses K T.a_Leaf T.a_Group n true) := by
  refine T.F_Leaf_passes.ok sc_Leaf_passes (fun vs H Q E h => ?_) (fun cdv A outer s H vs Q E hr h => ?_)
  · obtain ⟨v, t, a, xs, rfl, _⟩ := h
    rfl
  obtain ⟨v, t, a, xs, rfl, hk, hd, ht, hok, hl, hS, hnd, hin, q⟩ := h
  refine ⟨_, (pss_cons (ps_if (pt_not (pt_val (pe_call (ok_are_leaves T) (hr.mono (by omega)) rfl T.m_are_leaves T.F_are_leaves.kp T.b_are_leaves .nil pass0 (pa_cons (pv 0) (pa_cons (pv 1) pa_nil))))) (pss_one ps_never) pss_nil)
  (pss_one (ps_ret (pe_meth (pv 0) T.c_Leaf T.M_Leaf__low_ends (ok_Leaf_low T 0) (hr.mono (by omega)) T.b_Leaf__low_ends .nil pass0 (pa_cons (pv 1) pa_nil))))), ?_⟩
  have nok := hok.names_ok
  have hxl : xs.length ≤ 1000 := Nat.le_trans (nodup_len hnd hin) hl
  refine ⟨_, rfl, _, rfl, v, t, a, xs, rfl, ht, hS, hxl, fun x hx => by have := nameOk_len (nok x (hin x hx)); omega, fun H1 e1 => ⟨_, rfl, ?_⟩⟩
  refine ifNot (by rw [List.all_eq_true.mpr fun x hx => nok x (hin x hx), decide_eq_true hnd, List.all_eq_true.mpr fun x hx => decide_eq_true (hin x hx)]; rfl) ?_
  refine nxt ?_
  dsimp only
  have w := ht.mono e1
  cases ht with
  | @leaf p dx x h => exact ⟨_, rfl, p, dx, _, rfl, e1 _ _ h, lf_no (by decide +kernel), _, rfl, _, .leaf x, a, xs, rfl, rfl, Nat.zero_le _, w, hok, hl, Evl.ex_l e1 hS, fun H2 e2 => q H2 (e1.trans e2)⟩
  | grp _ _ _ _ _ _ => cases hk
theorem ok_Group_passes (T : Txt K mg) (n : Nat) : FnOk P w K mg base CX0 (n + 4) T.f_Group_passes T.d_Group_passes ["self", "names"] (spPasses K T.a_Leaf T.a_Group n false) := by
  refine T.F_Group_passes.ok sc_Group_passes (fun vs H Q E h => ?_) (fun cdv A outer s H vs Q E hr h => ?_)
  · obtain ⟨v, t, a, xs, rfl, _⟩ := h
    rfl
  obtain ⟨v, t, a, xs, rfl, hk, hd, ht, hok, hl, hS, hnd, hin, q⟩ := h
  refine ⟨_, (pss_cons (ps_if (pt_not (pt_val (pe_call (ok_are_leaves T) (hr.mono (by omega)) rfl T.m_are_leaves T.F_are_leaves.kp T.b_are_leaves .nil pass0 (pa_cons (pv 0) (pa_cons (pv 1) pa_nil))))) (pss_one ps_never) pss_nil)
  (pss_one (ps_ret (pe_meth (pv 0) T.c_Group T.M_Group__low_ends (ok_Group_low T n) (hr.mono (by omega)) T.b_Group__low_ends .nil pass0 (pa_cons (pv 1) pa_nil))))), ?_⟩
  have nok := hok.names_ok
  have hxl : xs.length ≤ 1000 := Nat.le_trans (nodup_len hnd hin) hl
  refine ⟨_, rfl, _, rfl, v, t, a, xs, rfl, ht, hS, hxl, fun x hx => by have := nameOk_len (nok x (hin x hx)); omega, fun H1 e1 => ⟨_, rfl, ?_⟩⟩
  refine ifNot (by rw [List.all_eq_true.mpr fun x hx => nok x (hin x hx), decide_eq_true hnd, List.all_eq_true.mpr fun x hx => decide_eq_true (hin x hx)]; rfl) ?_
  refine nxt ?_
  dsimp only
  have w := ht.mono e1
  cases ht with
  | leaf _ => cases hk
  | @grp p dx lr lp ln rs ps vs' g1 g2 g3 g4 hvl hf => exact ⟨_, rfl, p, dx, _, rfl, e1 _ _ g1, gf_no (by decide +kernel) (by decide +kernel) (by decide +kernel) (by decide +kernel), _, rfl, _, .grp rs ps, a, xs, rfl, rfl, hd, w, hok, hl, Evl.ex_l e1 hS, fun H2 e2 => q H2 (e1.trans e2)⟩
end
end Rk
set_option Elab.async false
set_option linter.all false
set_option maxRecDepth 100000
set_option maxHeartbeats 4000000
namespace Rk
open PySem PySem.Spec PyProof.Rows L2 RkO
open Evl (Ev EvT EvA EvL EvU EvO Ex RC RCL SpV SpL)
mutual
def Tr.mirror : Tr → Tr
  | .leaf x => .leaf x
  | .grp rs ps => .grp ((rs.map fun r => (intakeL ps : Int) + 1 - r).reverse) (mirrorL ps)
def mirrorL : List Tr → List Tr
  | [] => []
  | p :: ps => p.mirror :: mirrorL ps
end
theorem mirrorL_map : ∀ ps : List Tr, mirrorL ps = ps.map Tr.mirror
  | [] => rfl
  | p :: ps => by
    show p.mirror :: mirrorL ps = p.mirror :: ps.map Tr.mirror
    rw [mirrorL_map ps]
theorem mirror_width (t : Tr) : t.mirror.width = t.width := by
  cases t with
  | leaf x => rfl
  | grp rs ps =>
    show ((rs.map fun r => (intakeL ps : Int) + 1 - r).reverse).length = rs.length
    rw [List.length_reverse, List.length_map]
theorem mirror_intake : ∀ ps : List Tr, intakeL (mirrorL ps) = intakeL ps
  | [] => rfl
  | p :: ps => by
    show p.mirror.width + intakeL (mirrorL ps) = p.width + intakeL ps
    rw [mirror_intake ps, mirror_width]
mutual
theorem mirror_names : ∀ t : Tr, t.mirror.names = t.names
  | .leaf _ => rfl
  | .grp _ ps => mirror_namesL ps
theorem mirror_namesL : ∀ ps : List Tr, namesL (mirrorL ps) = namesL ps
  | [] => rfl
  | p :: ps => by
    show p.mirror.names ++ namesL (mirrorL ps) = p.names ++ namesL ps
    rw [mirror_names p, mirror_namesL ps]
end
mutual
theorem mirror_depth : ∀ t : Tr, t.mirror.depth = t.depth
  | .leaf _ => rfl
  | .grp _ ps => by
    show depthL (mirrorL ps) + 1 = depthL ps + 1
    rw [mirror_depthL ps]
theorem mirror_depthL : ∀ ps : List Tr, depthL (mirrorL ps) = depthL ps
  | [] => rfl
  | p :: ps => by
    show max p.mirror.depth (depthL (mirrorL ps)) = max p.depth (depthL ps)
    rw [mirror_depth p, mirror_depthL ps]
end
theorem asc_turn {rs : List Int} (m : Int) (h : Asc rs) : Asc ((rs.map fun r => m + 1 - r).reverse) := by
  unfold Asc
  rw [List.pairwise_reverse, List.pairwise_map]
  exact h.imp fun {a b} hab => by omega
theorem Ok.mirror {t : Tr} (h : Ok t) : Ok t.mirror := by
  induction h with
  | leaf h => exact .leaf h
  | @grp rs ps _ hne hnd hrne ha hb ih =>
    refine .grp (ps := mirrorL ps) (fun t ht => ?_) ?_ ?_ ?_ (asc_turn _ ha) (fun r hr => ?_)
    · rw [mirrorL_map] at ht
      obtain ⟨s, hs, rfl⟩ := List.mem_map.mp ht
      exact ih s hs
    · rw [mirrorL_map]
      exact fun z => hne (List.map_eq_nil_iff.mp z)
    · rw [mirror_namesL]
      exact hnd
    · exact fun z => hrne (List.map_eq_nil_iff.mp (List.reverse_eq_nil_iff.mp z))
    · rw [mirror_intake]
      obtain ⟨s, hs, rfl⟩ := List.mem_map.mp (List.mem_reverse.mp hr)
      have := hb s hs
      omega
mutual
theorem mirror_back : ∀ t : Tr, t.mirror.mirror = t
  | .leaf _ => rfl
  | .grp rs ps => by
    show Tr.grp (((rs.map fun r => (intakeL ps : Int) + 1 - r).reverse.map fun r => (intakeL (mirrorL ps) : Int) + 1 - r).reverse) (mirrorL (mirrorL ps)) = Tr.grp rs ps
    rw [mirror_backL ps, mirror_intake, List.map_reverse, List.reverse_reverse, List.map_map]
    congr 1
    conv => rhs; rw [← List.map_id rs]
    refine List.map_congr_left fun r _ => ?_
    show (intakeL ps : Int) + 1 - ((intakeL ps : Int) + 1 - r) = r
    omega
theorem mirror_backL : ∀ ps : List Tr, mirrorL (mirrorL ps) = ps
  | [] => rfl
  | p :: ps => by
    show p.mirror.mirror :: mirrorL (mirrorL ps) = p :: ps
    rw [mirror_back p, mirror_backL ps]
end
/-- low ends of the mirror and of the tree, of a set and of the rest -/
theorem turn_count (m l : Int) : ∀ rs : List Int, ((rs.map fun r => m + 1 - r).filter fun r => decide (r ≤ m - l)).length + (rs.filter fun r => decide (r ≤ l)).length = rs.length
  | [] => rfl
  | r :: rs => by
    have ih := turn_count m l rs
    rw [List.map_cons, List.filter_cons, List.filter_cons]
    by_cases h : r ≤ l
    · rw [if_neg (by rw [decide_eq_false (by omega)]; decide), if_pos (decide_eq_true h), List.length_cons, List.length_cons]
      omega
    · rw [if_pos (decide_eq_true (by omega)), if_neg (by rw [decide_eq_false h]; decide), List.length_cons, List.length_cons]
      omega
theorem low_le : ∀ (s : List Str) (t : Tr), t.low s ≤ t.width
  | s, .leaf x => by
    show (if x ∈ s then 1 else 0) ≤ 1
    split <;> omega
  | s, .grp rs ps => List.length_filter_le _ _
mutual
theorem low_turn : ∀ (s r : List Str) (t : Tr), (∀ x ∈ t.names, x ∈ r ↔ x ∉ s) → t.mirror.low s + t.low r = t.width
  | s, r, .leaf x, h => by
    have := h x (List.mem_singleton.mpr rfl)
    show (if x ∈ s then 1 else 0) + (if x ∈ r then 1 else 0) = 1
    by_cases c : x ∈ s
    · rw [if_pos c, if_neg (fun z => this.mp z c)]
    · rw [if_neg c, if_pos (this.mpr c)]
  | s, r, .grp rs ps, h => by
    have ih := low_turnL s r ps h
    show (((rs.map fun r => (intakeL ps : Int) + 1 - r).reverse).filter fun q => decide (q ≤ (lowL s (mirrorL ps) : Int))).length + (rs.filter fun q => decide (q ≤ (lowL r ps : Int))).length = rs.length
    have e : (lowL s (mirrorL ps) : Int) = (intakeL ps : Int) - (lowL r ps : Int) := by omega
    rw [List.filter_reverse, List.length_reverse, e]
    exact turn_count _ _ rs
theorem low_turnL : ∀ (s r : List Str) (ps : List Tr), (∀ x ∈ namesL ps, x ∈ r ↔ x ∉ s) → lowL s (mirrorL ps) + lowL r ps = intakeL ps
  | _, _, [], _ => rfl
  | s, r, p :: ps, h => by
    have h1 := low_turn s r p fun x hx => h x (List.mem_append_left _ hx)
    have h2 := low_turnL s r ps fun x hx => h x (List.mem_append_right _ hx)
    show (p.mirror.low s + lowL s (mirrorL ps)) + (p.low r + lowL r ps) = p.width + intakeL ps
    omega
end
/-! a new tree: how its making is read -/
section
variable {K : PySem.W.Frag}
/-- a new leaf stands -/
theorem mk_leaf {cL cG p dx : Addr} {H H' : Hp} {x : Str} (np : H p = none) (nd : H dx = none) (k : ∀ b o, b ≠ p → (upd (upd H dx (.own p)) p (.ins cL dx [])) b = some o → H' b = some o) (hp : H' p = some (.ins cL dx (lf x))) : Same H H' ∧ TAt cL cG H' (.ref p) (.leaf x) :=
  ⟨fun b o h => k b o (ne_of_none h np) (by rw [upd_ne (ne_of_none h np), upd_ne (ne_of_none h nd)]; exact h), .leaf hp⟩
theorem mk_same {p dx cG : Addr} {H H' : Hp} (np : H p = none) (nd : H dx = none) (k : ∀ b o, b ≠ p → (upd (upd H dx (.own p)) p (.ins cG dx [])) b = some o → H' b = some o) : Same H H' :=
  fun b o h => k b o (ne_of_none h np) (by rw [upd_ne (ne_of_none h np), upd_ne (ne_of_none h nd)]; exact h)
theorem made_same {p dx cG : Addr} {H : Hp} (np : H p = none) (nd : H dx = none) : Same H (upd (upd H dx (.own p)) p (.ins cG dx [])) := fun b o h => by
  rw [upd_ne (ne_of_none h np), upd_ne (ne_of_none h nd)]
  exact h
end
section
variable {P : Program} {w : World} {K : PySem.W.Frag} {mg : Str → Option Value} {base : Heap}
/-! ### mirror() -/
def spMirror (K : PySem.W.Frag) (cL cG : Addr) (n : Nat) (k : Bool) : Sp := fun vs H Q _ => ∃ (v : V) (t : Tr), vs = [v] ∧ knd t = k ∧ t.depth ≤ n ∧ TAt cL cG H v t ∧ Ok t ∧ t.names.length ≤ 60 ∧ ∀ v' H', Same H H' → TAt cL cG H' v' t.mirror → Q v' H'
theorem ok_Leaf_mirror (T : Txt K mg) (n : Nat) : FnOk P w K mg base CX0 1 T.f_Leaf_mirror T.d_Leaf_mirror ["self"] (spMirror K T.a_Leaf T.a_Group n true) := by
  refine T.F_Leaf_mirror.ok sc_Leaf_mirror (fun vs H Q E h => ?_) (fun cdv A outer s H vs Q E hr h => ?_)
  · obtain ⟨v, t, rfl, _⟩ := h
    rfl
  obtain ⟨v, t, rfl, hk, hd, ht, hok, hl, q⟩ := h
  refine ⟨_, (pss_one (ps_ret (pv 0))), ?_⟩
  cases t with
  | leaf x => exact ⟨_, rfl, q v H (Same.refl H) ht⟩
  | grp _ _ => cases hk
/-- hiding one address -/
def one (a : Addr) : Addr → Bool := fun b => decide (b = a)
theorem hid_one {a b : Addr} {H : Hp} (h : b ≠ a) : hid (one a) H b = H b := hid_f (decide_eq_false h)
theorem hid_at {a : Addr} {H : Hp} : hid (one a) H a = none := hid_t (decide_eq_true rfl)
theorem hid_le {M : Addr → Bool} {H : Hp} : Same (hid M H) H := fun b o z => by
  cases hb : M b with
  | true => rw [hid_t hb] at z; cases z
  | false => rwa [hid_f hb] at z
theorem hid_same {M : Addr → Bool} {H H' : Hp} (e : Same H H') (n : ∀ b, M b = true → H b = none) : Same H (hid M H') := fun b o z => by
  cases hb : M b with
  | true => rw [n b hb] at z; cases z
  | false => rw [hid_f hb]; exact e b o z
theorem hid_back {a : Addr} {H H' : Hp} {o : HO} (n : H' a = none) : hid (one a) (upd (put (one a) H H') a o) = H' := by
  funext b
  by_cases hb : b = a
  · rw [hb, hid_at, n]
  · rw [hid_one hb, upd_ne hb, put_f (decide_eq_false hb)]
theorem rd_meth0F {cL cG : Addr} {σ : L2.St} {H : Hp} {m : Str} {sp : Bool → Sp} {M : Addr → Bool} {i : Nat} {v : V} {t : Tr} {Q : VK} (h1 : ¬ m = "_name") (h2 : ¬ m = "_names") (h3 : ¬ m = "_intake") (h4 : ¬ m = "_parts") (h5 : ¬ m = "_ranks")
    (h0 : σ[i]? = some (some v)) (ht : TAt cL cG (hid M H) v t) (hM : Hides M H) (hs : sp (knd t) [v] (hid M H) (fun v' H' => (∀ b, M b = true → H' b = none) → Q v' (put M H H')) E0) :
    teor (tMeth cL m (spF (sp true)) [] E0 (tVar i) tNil) (tMeth cG m (spF (sp false)) [] E0 (tVar i) tNil) σ H Q := by
  cases ht with
  | @leaf p dx x g => exact .inl ⟨_, h0, p, dx, _, rfl, hid_le _ _ g, lf_no h1, M, hM, hs⟩
  | @grp p dx lr lp ln rs ps vs' g1 g2 g3 g4 hl hf => exact .inr ⟨_, h0, p, dx, _, rfl, hid_le _ _ g1, gf_no h2 h3 h4 h5, M, hM, hs⟩
/-- a comprehension that makes trees out of trees -/
theorem tl_trees {cL cG : Addr} {σ : L2.St} {H : Hp} {tl te : TE} {a : Addr} {us : List V} {ts : List Tr} {f : Tr → Tr} {j : Nat} {vs : List Nat} (h : Ev tl σ H (.ref a)) (hx : SqL K H a us) (hF : FAt cL cG H us ts) (hz : ts.length ≤ 40000) (hw : ∀ x, wipe ((wipe σ vs).set j (some x)) vs = wipe σ vs)
    (he : ∀ v t M H1 (Q : VK), Hides M H1 → t ∈ ts → Same H (hid M H1) → TAt cL cG (hid M H1) v t → (∀ v' H', Same (hid M H1) H' → (∀ b, M b = true → H' b = none) → TAt cL cG H' v' (f t) → Q v' (put M H1 H')) → te ((wipe σ vs).set j (some v)) H1 Q)
    {Q : VK} (q : ∀ p us' H', H p = none → Same H H' → H' p = some (.lst us') → FAt cL cG H' us' (ts.map f) → Q (.ref p) H') : tLc (iList K tl) (gName j) tYes te vs σ H Q := h H (Ex.refl H) _ fun H1 e1 => ⟨a, rfl, ⟨_, Evl.ex_l e1 hx⟩, fun Dl hD =>
  lc_list (xs := us) (fun i H' => Ex H1 H' ∧ ∃ us', us'.length = i ∧ H' Dl = some (.lst us') ∧ FAt cL cG (hid (one Dl) H') us' ((ts.take i).map f)) ⟨Ex.new hD, [], rfl, upd_same, .nil⟩ (fun i H' _ p => Evl.ex_l (e1.trans p.1) hx) (fun i y H' hi p => by
    obtain ⟨p2, us', pl, p3, p4⟩ := p
    obtain ⟨t, hti, ht⟩ := hF.mem hi
    have hm := List.mem_of_getElem? hti
    refine ⟨hw _, ?_⟩
    have noD : ∀ b, one Dl b = true → H b = none := fun b hb => by
      rw [of_decide_eq_true hb]
      exact Evl.fresh_back e1 hD
    have up : Same H (hid (one Dl) H') := hid_same (fun b o z => p2 b o (e1 b o z)) noD
    have hlt := (List.getElem?_eq_some_iff.mp hti).1
    refine he y t (one Dl) H' _ (fun b hb => .inl ⟨us', by rw [of_decide_eq_true hb]; exact p3⟩) hm up (ht.mono up) fun v' H'' s2 gone w => ⟨us', (put_t (decide_eq_true rfl)).trans p3, Evl.sz_lt (by omega), ?_, us' ++ [v'], by rw [List.length_append, pl]; rfl, upd_same, ?_⟩
    · intro b o z
      have nb : b ≠ Dl := ne_of_none z hD
      rw [upd_ne nb, put_f (decide_eq_false nb)]
      exact s2 b o (by rw [hid_one nb]; exact p2 b o z)
    · rw [hid_back (gone Dl (decide_eq_true rfl)), List.take_add_one, hti, List.map_append]
      exact (p4.mono s2).snoc w) (fun H' p => by
    obtain ⟨p2, us', pl, p3, p4⟩ := p
    rw [hF.1, List.take_length] at p4
    exact q Dl us' H' (Evl.fresh_back e1 hD) (fun b o z => p2 b o (e1 b o z)) p3 (p4.mono hid_le))⟩
theorem seq_asg_cb1 {r : List V → Hp → VK → Prop} {te : TE} {i : Nat} {u : TS} {D : Ends} {σ : L2.St} {H : Hp} (h : te σ H (fun x H1 => r [x] H1 fun y H2 => u D (σ.set i (some y)) H2)) : tSeq (tAsg (tCB r (tCons te tNil)) (gName i)) u D σ H := h
theorem ok_Group_mirror (T : Txt K mg) : ∀ n : Nat, FnOk P w K mg base CX0 (n + 7) T.f_Group_mirror T.d_Group_mirror ["self"] (spMirror K T.a_Leaf T.a_Group n false)
  | 0 => fn_no fun vs H Q E h => by
    obtain ⟨v, t, _, hk, hd, _⟩ := h
    cases t with
    | leaf x => cases hk
    | grp rs ps => exact absurd (show depthL ps + 1 ≤ 0 from hd) (by omega)
  | n + 1 => by
    have GL := RkO.FnOk.frame (ok_Leaf_mirror (P := P) (w := w) (base := base) T n)
    have GG := RkO.FnOk.frame (ok_Group_mirror T n)
    have G_Group_init : FnOk P w K mg base CX0 4 T.f_Group_init T.d_Group_init ["self", "ranks", "parts"] (spGroupInit K T.a_Leaf T.a_Group) := ok_Group_init T
    refine T.F_Group_mirror.ok sc_Group_mirror (fun vs H Q E h => ?_) (fun cdv A outer s H vs Q E hr h => ?_)
    · obtain ⟨v, t, rfl, _⟩ := h
      rfl
    obtain ⟨v, t, rfl, hk, hd, ht, hok, hl, q⟩ := h
    refine ⟨_, (pss_cons (ps_set (i := 1) sc_Group_mirror.nd rfl (Or.inl rfl) (pe_callB cr_sorted (by rfl) T.m_sorted (by decide +kernel) (pa_cons (pe_lc (own := [("rank", 2)]) rfl sc_Group_mirror.nd  (pi_list (pe_fld (pv 0) rfl)) (blkOk_by (own := [("rank", 2)]) (N := ["self", "ranks", "rank", "part"]) (sc := defScope s_Group_mirror) (by decide +kernel)) (fun _ _ _ _ _ => (pg_name (i := 2) sc_Group_mirror.nd rfl (.inl rfl))) (fun _ _ _ _ _ => pts_nil) (fun _ _ _ _ _ => (pe_op op_sub (pe_op op_add (pe_K (t := fun K => tFld K (tVar 0) "_intake") (K := K) rfl (pe_fld (pv 0) rfl)) pe_int) (pv 2)))) pa_nil)))
  (pss_one (ps_ret (pe_make T.M_Group G_Group_init (hr.mono (by omega)) rfl T.m_Group T.b_Group_init .nil pass0 (pa_cons (pv 1) (pa_cons (pe_lc (own := [("part", 3)]) rfl sc_Group_mirror.nd  (pi_list (pe_fld (pv 0) rfl)) (blkOk_by (own := [("part", 3)]) (N := ["self", "ranks", "rank", "part"]) (sc := defScope s_Group_mirror) (by decide +kernel)) (fun _ _ _ _ _ => (pg_name (i := 3) sc_Group_mirror.nd rfl (.inl rfl))) (fun _ _ _ _ _ => pts_nil) (fun _ _ _ _ _ => (by exact (pe_or2 (pe_meth0 (pv 3) T.c_Leaf T.M_Leaf_mirror GL (hr.mono (by omega)) T.b_Leaf_mirror .nil pass0) (pe_meth0 (pv 3) T.c_Group T.M_Group_mirror GG (hr.mono (by omega)) T.b_Group_mirror .nil pass0))))) pa_nil)))))), ?_⟩
    cases ht with
    | leaf _ => cases hk
    | @grp p dx lr lp ln rs ps vs' g1 g2 g3 g4 hvl hf =>
      have hF : FAt T.a_Leaf T.a_Group H vs' ps := ⟨hvl, hf⟩
      obtain ⟨oks, hasc, hb⟩ : (∀ t ∈ ps, Ok t) ∧ Asc rs ∧ ∀ r ∈ rs, 1 ≤ r ∧ r ≤ (intakeL ps : Int) := by
        cases hok with
        | grp h1 _ _ _ h5 h6 => exact ⟨h1, h5, h6⟩
      have hd : depthL ps + 1 ≤ n + 1 := hd
      have hl : (namesL ps).length ≤ 60 := hl
      have hrl : rs.length ≤ 60 := Nat.le_trans hok.width_le hl
      have hpl := parts_le oks
      have fld : ∀ (σ : L2.St) (f : Str) (val : V) (H1 : Hp), σ[0]? = some (some (.ref p)) → Ex H H1 → NoAttr K T.a_Group f → (gf lr lp (intakeL ps : Int) ln).lookup f = some val → Ev (tFld K (tVar 0) f) σ H1 val := fun σ f val H1 h0 e hn hlk H2 e3 Q q => ⟨_, h0, p, _, dx, _, _, rfl, e3 _ _ (e _ _ g1), T.c_Group, hn, hlk, q H2 (Ex.refl H2)⟩
      have lcv : EvL (tLc (iList K (tFld K (tVar 0) "_ranks")) (gName 2) tYes (tOp (rI0 fun i j => .int (i - j)) (tOp (rI0 fun i j => .int (i + j)) (tFld K (tVar 0) "_intake") (tC (.int 1))) (tVar 2)) [2]) [some (.ref p), none, none, none] H ((rs.map fun r => (intakeL ps : Int) + 1 - r).map V.int) := by
        rw [List.map_map]
        refine el_lcM (xs := rs) (g := V.int) (fld _ _ _ H rfl (Ex.refl H) T.n_Group_ranks gf_ranks) (SqL.of g2) (by omega) (fun x => rfl) fun r H1 e hm => ?_
        exact Evl.ev_op (Evl.ev_op (fld _ _ _ H1 rfl e T.n_Group_intake gf_intake) Evl.ev_c Evl.rv_I0) (Evl.ev_var rfl) Evl.rv_I0
      refine seq_asg_cb1 <| lcv H (Ex.refl H) _ fun z1 H1 nz1 e1 hz1 => ⟨z1, _, rfl, SqL.of hz1, by rw [List.length_map]; omega, fun ns' z2 perm up nz2 => ?_⟩
      have ens : ns' = ((rs.map fun r => (intakeL ps : Int) + 1 - r).reverse) := PySem.W.ksm_same (perm.trans (List.reverse_perm _).symm) up ((asc_turn (intakeL ps : Int) hasc).imp fun h => Int.le_of_lt h)
      subst ens
      have s2 : Same H (upd H1 z2 (.lst (((rs.map fun r => (intakeL ps : Int) + 1 - r).reverse).map V.int))) := Same.trans e1 (same_new nz2 _)
      have h2 : (upd H1 z2 (.lst (((rs.map fun r => (intakeL ps : Int) + 1 - r).reverse).map V.int))) z2 = some (.lst (((rs.map fun r => (intakeL ps : Int) + 1 - r).reverse).map V.int)) := upd_same
      generalize upd H1 z2 (.lst (((rs.map fun r => (intakeL ps : Int) + 1 - r).reverse).map V.int)) = H2 at s2 h2 ⊢
      refine ⟨_, rfl, ?_⟩
      refine tl_trees (f := Tr.mirror) (fld _ _ _ H2 rfl s2 T.n_Group_parts gf_parts) (SqL.of (s2 _ _ g3)) (hF.mono s2) (by omega) (fun x => rfl) (fun v t M H3 Q hM hm s3 ht q => ?_) (fun z3 us' H3 nz3 s3 hz3 hF3 => ?_)
      · have hdp := depth_mem hm
        refine rd_meth0F (sp := spMirror K T.a_Leaf T.a_Group n) (by decide +kernel) (by decide +kernel) (by decide +kernel) (by decide +kernel) (by decide +kernel) rfl ht hM ⟨v, t, rfl, rfl, by omega, ht, oks t hm, ?_, fun v' H' s' w gone => q v' H' s' gone w⟩
        have : t.names.length ≤ (namesL ps).length := by
          obtain ⟨a, b, rfl⟩ := List.append_of_mem hm
          rw [namesL_append, List.length_append]
          show t.names.length ≤ (namesL a).length + (t.names ++ namesL b).length
          rw [List.length_append]
          omega
        omega
      · intro x dy nx ndy ne
        have ms := made_same (cG := T.a_Group) nx ndy
        rw [← mirrorL_map] at hF3
        refine ⟨x, dy, z2, z3, _, us', mirrorL ps, rfl, upd_same, SqL.of (ms _ _ (s3 _ _ h2)), ty_list (SqL.of (K := K) (ms _ _ (s3 _ _ h2))), SqL.of (ms _ _ hz3), ty_list (SqL.of (K := K) (ms _ _ hz3)), hF3.mono ms, hok.mirror, by rw [mirror_namesL]; omega, fun H' k w => ⟨rfl, q _ H' ?_ w⟩⟩
        exact (s2.trans s3).trans (mk_same nx ndy k)
end
end Rk
set_option Elab.async false
set_option linter.all false
set_option maxRecDepth 100000
set_option maxHeartbeats 4000000
namespace Rk
open PySem PySem.Spec PyProof.Rows L2 RkO
open Evl (Ev EvT EvA EvL EvU EvO Ex RC RCL SpV SpL)
/-- two values that are the same tree -/
def DTr (cL cG : Addr) (n : Nat) : Eqv := fun x y H => ∃ t, Tr.depth t ≤ n ∧ TAt cL cG H x t ∧ TAt cL cG H y t
theorem mon_tree {cL cG : Addr} {n : Nat} : Mon (DTr cL cG n) := fun x y H H' e ⟨t, hd, h1, h2⟩ => ⟨t, hd, h1.mono e, h2.mono e⟩
def RTr (cL cG : Addr) (n : Nat) (k : Bool) : Addr → Addr → Hp → Prop := fun a b H => ∃ t, Tr.depth t ≤ n ∧ knd t = k ∧ TAt cL cG H (.ref a) t ∧ TAt cL cG H (.ref b) t
theorem eqG_tree {K : PySem.W.Frag} {mg : Str → Option Value} {X : Cx} {T : Txt K mg} {n m : Nat} (hK : X.K = K) (GL : FnOk X.prog X.w X.K X.mg X.base CX0 (m + 1) T.f_Leaf_eq T.d_Leaf_eq ["self", "other"] (spEq (RTr T.a_Leaf T.a_Group n true)))
    (GG : FnOk X.prog X.w X.K X.mg X.base CX0 (m + 1) T.f_Group_eq T.d_Group_eq ["self", "other"] (spEq (RTr T.a_Leaf T.a_Group n false))) : EqG X (m + 1) (DTr T.a_Leaf T.a_Group n) := by
  subst hK
  have h1 := eqG_ins (C := T.a_Leaf) (E := E0) GL T.M_Leaf_eq.at_ T.M_Leaf_eq.fn T.b_Leaf_eq pass0
  have h2 := eqG_ins (C := T.a_Group) (E := E0) GG T.M_Group_eq.at_ T.M_Group_eq.fn T.b_Group_eq pass0
  refine (h1.or h2).imp fun x y H ⟨t, hd, w1, w2⟩ => ?_
  cases w1 with
  | @leaf p dx z g =>
    cases w2 with
    | @leaf p2 dx2 _ g2 => exact .inl ⟨p, p2, dx, dx2, _, _, rfl, rfl, g, g2, .leaf z, hd, rfl, .leaf g, .leaf g2⟩
  | @grp p dx lr lp ln rs ps vs g1 g2 g3 g4 hl hf =>
    cases w2 with
    | @grp p2 dx2 lr2 lp2 ln2 _ _ vs2 k1 k2 k3 k4 kl kf => exact .inr ⟨p, p2, dx, dx2, _, _, rfl, rfl, g1, k1, .grp rs ps, hd, rfl, .grp g1 g2 g3 g4 hl hf, .grp k1 k2 k3 k4 kl kf⟩
theorem dp_ints {K : PySem.W.Frag} {H : Hp} : ∀ rs : List Int, DpAll K H (rs.map V.int) (rs.map PyData.int)
  | [] => .nil
  | r :: rs => .cons (.int r) (dp_ints rs)
theorem canLay_ints : ∀ rs : List Int, PyData.canLayAll0 (rs.map PyData.int) = true
  | [] => rfl
  | r :: rs => by
    show (PyData.canLay0 (.int r) && PyData.canLayAll0 (rs.map PyData.int)) = true
    rw [canLay_ints rs]
    rfl
theorem depth_ints : ∀ rs : List Int, PyData.depthAll (rs.map PyData.int) = 0
  | [] => rfl
  | r :: rs => by
    show max (PyData.depth (.int r)) (PyData.depthAll (rs.map PyData.int)) = 0
    rw [depth_ints rs]
    rfl
theorem shaped_ints (rs : List Int) : SeqAt.shaped (.list (rs.map PyData.int)) = true := by
  show (PyData.canLayAll0 (rs.map PyData.int) && decide (PyData.depthAll (rs.map PyData.int) + 1 ≤ 64)) = true
  rw [canLay_ints, depth_ints]
  rfl
section
variable {P : Program} {w : World} {K : PySem.W.Frag} {mg : Str → Option Value} {base : Heap}
theorem ok_Leaf_eq (T : Txt K mg) (n : Nat) : FnOk P w K mg base CX0 1 T.f_Leaf_eq T.d_Leaf_eq ["self", "other"] (spEq (RTr T.a_Leaf T.a_Group n true)) := by
  refine T.F_Leaf_eq.ok sc_Leaf_eq (fun vs H Q E h => ?_) (fun cdv A outer s H vs Q E hr h => ?_)
  · obtain ⟨a, b, rfl, _⟩ := h
    rfl
  obtain ⟨a, b, rfl, ⟨t, hd, hk, w1, w2⟩, q⟩ := h
  refine ⟨_, (pss_one (ps_ret (pe_and (pe_callB call_isi (by rfl) T.m_isinstance (by decide +kernel) (pa_cons (pv 1) (pa_cons (pe_glob (v := .ref T.a_Leaf) rfl T.m_Leaf rfl) pa_nil))) (pe_one (pe_cmpR op_eq (pe_fld (pv 0) rfl) (pe_fld (pv 1) rfl) (nomark _)))))), ?_⟩
  cases t with
  | grp _ _ => cases hk
  | leaf z =>
    cases w1 with
    | @leaf _ dx _ g =>
      cases w2 with
      | @leaf _ dx2 _ g2 =>
        refine ⟨_, rfl, _, _, _, _, _, rfl, .own _, .base (.ins g2 T.c_Leaf T.ca_Leaf T.gc T.tc T.mo_Leaf), kit_self, _, rfl, iteT ?_⟩
        refine ⟨_, rfl, a, _, dx, _, _, rfl, g, T.c_Leaf, T.n_Leaf_name, lf_name, _, rfl, b, _, dx2, _, _, rfl, g2, T.c_Leaf, T.n_Leaf_name, lf_name, rfl, ?_⟩
        rw [decide_eq_true rfl]
        exact q H (fun _ _ h => h)
theorem ok_Group_eq (T : Txt K mg) : ∀ n : Nat, FnOk P w K mg base CX0 (2 * n + 1) T.f_Group_eq T.d_Group_eq ["self", "other"] (spEq (RTr T.a_Leaf T.a_Group n false))
  | 0 => fn_no fun vs H Q E h => by
    obtain ⟨a, b, _, ⟨t, hd, hk, _⟩, _⟩ := h
    cases t with
    | leaf x => cases hk
    | grp rs ps => exact absurd (show depthL ps + 1 ≤ 0 from hd) (by omega)
  | n + 1 => by
    have GL : FnOk P w K mg base CX0 (2 * n + 1) T.f_Leaf_eq T.d_Leaf_eq ["self", "other"] (spEq (RTr T.a_Leaf T.a_Group n true)) := (ok_Leaf_eq T n).mono (by omega)
    have GG : FnOk P w K mg base CX0 (2 * n + 1) T.f_Group_eq T.d_Group_eq ["self", "other"] (spEq (RTr T.a_Leaf T.a_Group n false)) := ok_Group_eq T n
    refine T.F_Group_eq.ok sc_Group_eq (fun vs H Q E h => ?_) (fun cdv A outer s H vs Q E hr h => ?_)
    · obtain ⟨a, b, rfl, _⟩ := h
      rfl
    obtain ⟨a, b, rfl, ⟨t, hd, hk, w1, w2⟩, q⟩ := h
    refine ⟨_, (pss_one (ps_ret (pe_and (pe_callB call_isi (by rfl) T.m_isinstance (by decide +kernel) (pa_cons (pv 1) (pa_cons (pe_glob (v := .ref T.a_Group) rfl T.m_Group rfl) pa_nil))) (pe_and (pe_cmpR (op_eqD hr.units) (pe_fld (pv 0) rfl) (pe_fld (pv 1) rfl) (nomark _)) (pe_one (pe_cmpR (op_eqG (rcG_list (mon_tree (n := n)) (eqG_tree (T := T) rfl GL GG)) (hr.mono (by omega))) (pe_fld (pv 0) rfl) (pe_fld (pv 1) rfl) (nomark _))))))), ?_⟩
    cases t with
    | leaf _ => cases hk
    | grp rs ps =>
      have hd : depthL ps + 1 ≤ n + 1 := hd
      cases w1 with
      | @grp _ dx lr lp ln _ _ vs g1 g2 g3 g4 hl hf =>
        cases w2 with
        | @grp _ dx2 lr2 lp2 ln2 _ _ vs2 k1 k2 k3 k4 kl kf =>
          refine ⟨_, rfl, _, _, _, _, _, rfl, .own _, .base (.ins k1 T.c_Group T.ca_Group T.gc T.tc T.mo_Group), kit_self, _, rfl, iteT ?_⟩
          refine ⟨_, rfl, a, _, dx, _, _, rfl, g1, T.c_Group, T.n_Group_ranks, gf_ranks, _, rfl, b, _, dx2, _, _, rfl, k1, T.c_Group, T.n_Group_ranks, gf_ranks, _, _, .lst (SqL.of g2) (dp_ints rs), .lst (SqL.of k2) (dp_ints rs), shaped_ints rs, shaped_ints rs, _, rfl, ?_⟩
          rw [show PyData.eqv (.list (rs.map PyData.int)) (.list (rs.map PyData.int)) = true from SeqAt.eqv_refl _ (canLay_ints rs)]
          refine iteT ?_
          refine ⟨_, rfl, a, _, dx, _, _, rfl, g1, T.c_Group, T.n_Group_parts, gf_parts, _, rfl, b, _, dx2, _, _, rfl, k1, T.c_Group, T.n_Group_parts, gf_parts, ⟨lp, lp2, vs, vs2, rfl, rfl, g3, k3, by rw [hl, kl], fun i x y hx hy => ?_⟩, fun H' e => q H' e⟩
          have hi := (List.getElem?_eq_some_iff.mp hx).1
          have hi2 : i < ps.length := by rw [← hl]; exact hi
          have ht := List.getElem?_eq_getElem hi2
          have := depth_mem (List.getElem_mem hi2)
          exact ⟨ps[i], by omega, hf i x _ hx ht, kf i y _ hy ht⟩
end
end Rk
set_option Elab.async false
set_option linter.all false
set_option maxRecDepth 100000
set_option maxHeartbeats 4000000
namespace Rk
open PySem PySem.Spec PyProof.Rows L2 RkO
open Evl (Ev EvT EvA EvL EvU EvO Ex RC RCL SpV SpL)
/-- the well at a has gone on, all else stands -/
def Wl (a : Addr) (H H' : Hp) : Prop := (∃ n : Int, 0 ≤ n ∧ H' a = some (.lst [.int n])) ∧ ∀ b o, b ≠ a → H b = some o → H' b = some o
theorem Wl.refl {a : Addr} {H : Hp} {n : Int} (h : H a = some (.lst [.int n])) (h0 : 0 ≤ n) : Wl a H H := ⟨⟨n, h0, h⟩, fun _ _ _ h => h⟩
theorem Wl.trans {a : Addr} {H H1 H2 : Hp} (x : Wl a H H1) (y : Wl a H1 H2) : Wl a H H2 := ⟨y.1, fun b o n h => y.2 b o n (x.2 b o n h)⟩
theorem Wl.same {a : Addr} {H H1 H2 : Hp} (x : Wl a H H1) (y : Same H1 H2) : Wl a H H2 := ⟨x.1.elim fun n h => ⟨n, h.1, y _ _ h.2⟩, fun b o n h => y _ _ (x.2 b o n h)⟩
theorem Wl.dip {a : Addr} {H H1 : Hp} {n : Int} (x : Wl a H H1) (h0 : 0 ≤ n) : Wl a H (upd H1 a (.lst [.int n])) := ⟨⟨n, h0, upd_same⟩, fun b o nb h => by rw [upd_ne nb]; exact x.2 b o nb h⟩
theorem Wl.mut {a b : Addr} {H H1 : Hp} {o : HO} (x : Wl a H H1) (nb : b ≠ a) (h : H b = none) : Wl a H (upd H1 b o) := by
  refine ⟨x.1.elim fun n h => ⟨n, h.1, by rw [upd_ne nb.symm]; exact h.2⟩, fun c u nc hc => ?_⟩
  rw [upd_ne (ne_of_none hc h)]
  exact x.2 c u nc hc
theorem Wl.ne {a b : Addr} {H H1 : Hp} (x : Wl a H H1) (n : H1 b = none) : b ≠ a := fun z => by
  obtain ⟨k, _, h⟩ := x.1
  rw [z, h] at n
  cases n
theorem Wl.fresh {a b : Addr} {H H1 : Hp} (x : Wl a H H1) (n : H1 b = none) : H b = none := by
  cases h : H b with
  | none => rfl
  | some o =>
    rw [x.2 b o (x.ne n) h] at n
    cases n
theorem Wl.sq {K : PySem.W.Frag} {a b : Addr} {H H1 : Hp} {xs : List V} (x : Wl a H H1) (nb : b ≠ a) (h : SqL K H b xs) : SqL K H1 b xs := by
  rcases h with (h | ⟨o, h⟩) | h
  · exact .inl (.inl (x.2 _ _ nb h))
  · exact .inl (.inr ⟨o, x.2 _ _ nb h⟩)
  · exact .inr h
def letters (cs : List Nat) : Prop := ∀ c ∈ cs, 97 ≤ c ∧ c ≤ 122
theorem name_of {x : Str} (h1 : 1 ≤ x.length) (h2 : x.length ≤ 8) (h : letters x.cps.toList) : nameOk x = true := by
  unfold nameOk
  rw [decide_eq_true h1, decide_eq_true h2, Bool.true_and, Bool.true_and, List.all_eq_true]
  intro c hc
  have := h c hc
  rw [decide_eq_true this.1, decide_eq_true this.2]
  rfl
theorem name_letters {x : Str} (h : nameOk x = true) : 1 ≤ x.length ∧ x.length ≤ 8 ∧ letters x.cps.toList := by
  unfold nameOk at h
  rw [Bool.and_eq_true, Bool.and_eq_true] at h
  refine ⟨of_decide_eq_true h.1.1, of_decide_eq_true h.1.2, fun c hc => ?_⟩
  have := List.all_eq_true.mp h.2 c hc
  rw [Bool.and_eq_true] at this
  exact ⟨of_decide_eq_true this.1, of_decide_eq_true this.2⟩
theorem abc_at (d : Int) (h0 : 0 ≤ d) (h1 : d < 26) : ∃ c, atI (("abcdefghijklmnopqrstuvwxyz" : Str)).cps.toList d = some c ∧ 97 ≤ c ∧ c ≤ 122 := by
  obtain ⟨j, rfl⟩ : ∃ j : Nat, d = j := ⟨d.toNat, by omega⟩
  have key : ∀ j : _root_.Fin 26, ∃ c, ((("abcdefghijklmnopqrstuvwxyz" : Str)).cps.toList)[j.1]? = some c ∧ 97 ≤ c ∧ c ≤ 122 := fun j => by
    refine ⟨97 + j.1, ?_, by omega, by omega⟩
    revert j
    decide +kernel
  obtain ⟨c, hc, h⟩ := key ⟨j, by omega⟩
  exact ⟨c, atI_nat hc, h⟩
theorem six_at (d : Int) (h0 : 0 ≤ d) (h1 : d < 6) : ∃ s : Int, atI [V.int 1, V.int 1, V.int 1, V.int 2, V.int 3, V.int 8] d = some (.int s) ∧ 1 ≤ s ∧ s ≤ 8 := by
  obtain ⟨j, rfl⟩ : ∃ j : Nat, d = j := ⟨d.toNat, by omega⟩
  have : j = 0 ∨ j = 1 ∨ j = 2 ∨ j = 3 ∨ j = 4 ∨ j = 5 := by omega
  rcases this with rfl | rfl | rfl | rfl | rfl | rfl
  · exact ⟨1, atI_nat rfl, by decide, by decide⟩
  · exact ⟨1, atI_nat rfl, by decide, by decide⟩
  · exact ⟨1, atI_nat rfl, by decide, by decide⟩
  · exact ⟨2, atI_nat rfl, by decide, by decide⟩
  · exact ⟨3, atI_nat rfl, by decide, by decide⟩
  · exact ⟨8, atI_nat rfl, by decide, by decide⟩
theorem joinL_ones : ∀ cs : List Nat, TL.joinL [] (cs.map fun c => [c]) = cs
  | [] => rfl
  | [c] => rfl
  | c :: d :: r => by
    show [c] ++ [] ++ TL.joinL [] ((d :: r).map fun c => [c]) = _
    rw [joinL_ones (d :: r)]
    rfl
theorem join_ones (cs : List Nat) : (Txt.join (Str.ofString "") (cs.map fun c => (⟨#[c]⟩ : Str))).cps.toList = cs := by
  have h := TL.tl_join (Str.ofString "") (cs.map fun c => (⟨#[c]⟩ : Str))
  rw [← TL.join_eq, List.map_map] at h
  exact h.trans (joinL_ones cs)
theorem cut8 (z : Str) : (cutS z none (some 8)).cps.toList = z.cps.toList.take 8 := by
  show ((z.cps.toList.drop (HT.sIx z.length 0 none)).take (HT.sIx z.length z.length (some 8) - HT.sIx z.length 0 none)) = _
  rw [HT.sIx_none, show HT.sIx z.length z.length (some 8) = min 8 z.length from HT.sIx_nat z.length z.length 8, List.drop_zero, Nat.sub_zero]
  have : z.length = z.cps.toList.length := rfl
  rw [this, List.take_eq_take_iff]
  omega


theorem Wl.r {a : Addr} {H H1 : Hp} (x : Wl a H H1) : Wl a H1 H1 := by
  obtain ⟨⟨n, h0, h⟩, _⟩ := x
  exact Wl.refl h h0

/-- how far a comprehension whose turns draw from the well has come -/
def Cl (a D : Addr) (H1 : Hp) (I : Nat → List V → Prop) (i : Nat) : Hp → Prop := fun H' => (H1 D = none ∧ D ≠ a) ∧ ∃ acc, H' D = some (.lst acc) ∧ acc.length ≤ i ∧ I i acc ∧ Wl a H1 H'
section
variable {K : PySem.W.Frag} {σ σ2 : L2.St} {H H' : Hp} {te tl : TE} {t : TT} {Q : VK} {a : Addr}
def TurnW (a : Addr) (H : Hp) (I : Nat → List V → Prop) (t : TT) (te : TE) (i : Nat) (σ2 : L2.St) : Prop := ∀ H' acc, Wl a H H' → I i acc → ∀ (Y : VK) (N : Hp → Prop), (∀ y H'', Wl a H' H'' → I (i + 1) (acc ++ [y]) → Y y H'') → (∀ H'', Wl a H' H'' → I (i + 1) acc → N H'') →
  t σ2 H' fun b H3 => if b = true then te σ2 H3 Y else N H3
theorem cl_turn {D : Addr} {H1 : Hp} {I : Nat → List V → Prop} {i : Nat} {H' : Hp} (p : Cl a D H1 I i H') (hi : i < 40000) (h : TurnW a H1 I t te i σ2) :
    t σ2 H' fun b H3 => if b = true then te σ2 H3 fun y H4 => ∃ acc, H4 D = some (.lst acc) ∧ acc.length < sizeLine ∧ Cl a D H1 I (i + 1) (upd H4 D (.lst (acc ++ [y]))) else Cl a D H1 I (i + 1) H3 := by
  obtain ⟨⟨nD, na⟩, acc, hD, hl, hI, hw⟩ := p
  refine h H' acc hw hI _ _ (fun y H4 w4 I4 => ⟨acc, w4.2 _ _ na hD, Evl.sz_lt (by omega), ⟨nD, na⟩, acc ++ [y], upd_same, by rw [List.length_append]; exact Nat.succ_le_succ hl, I4, (hw.trans w4).mut na nD⟩) (fun H3 w3 I3 => ⟨⟨nD, na⟩, acc, w3.2 _ _ na hD, Nat.le_succ_of_le hl, I3, hw.trans w3⟩)
theorem cl_start {D : Addr} {I : Nat → List V → Prop} (w : Wl a H H) (hD : H D = none) (i0 : I 0 []) : Cl a D H I 0 (upd H D (.lst [])) := ⟨⟨hD, w.ne hD⟩, [], upd_same, Nat.le_refl _, i0, w.mut (w.ne hD) hD⟩
theorem lc_w1 {ta : TA} {j : Nat} {vs : List Nat} {n : Int} (I : Nat → List V → Prop) (h : ∀ R : List V → Hp → Prop, R [.int n] H → ta σ H R) (hn : 0 ≤ n ∧ n ≤ 40000) (hw : ∀ x, wipe ((wipe σ vs).set j (some x)) vs = wipe σ vs) (w : Wl a H H) (i0 : I 0 [])
    (hs : ∀ i : Nat, (i : Int) < n → TurnW a H I t te i ((wipe σ vs).set j (some (.int (i : Int))))) (q : ∀ D H' acc, H D = none → D ≠ a → H' D = some (.lst acc) → (acc.length : Int) ≤ n → I n.toNat acc → Wl a H H' → Q (.ref D) H') : tLc (iRng1 ta) (gName j) t te vs σ H Q :=
  h _ ⟨n, rfl, by omega, by omega, fun D hD => lc_range (lo := 0) (n := n.toNat) (Cl a D H I) (cl_start w hD i0) (fun i H' hi p => by
    have e0 : (0 : Int) + (i : Int) = (i : Int) := Int.zero_add _
    show wipe ((wipe σ vs).set j (some (.int ((0 : Int) + (i : Int))))) vs = wipe σ vs ∧ t ((wipe σ vs).set j (some (.int ((0 : Int) + (i : Int))))) H' fun b H3 => if b = true then te ((wipe σ vs).set j (some (.int ((0 : Int) + (i : Int))))) H3 fun y H4 => ∃ acc, H4 D = some (.lst acc) ∧ acc.length < sizeLine ∧ Cl a D H I (i + 1) (upd H4 D (.lst (acc ++ [y]))) else Cl a D H I (i + 1) H3
    rw [e0]
    exact ⟨hw _, cl_turn p (by omega) (hs i (by omega))⟩) (fun H' p => by
      obtain ⟨⟨nD, na⟩, acc, hD, hl, hI, hw⟩ := p
      exact q D H' acc nD na hD (by omega) hI hw)⟩
theorem lc_w2 {ta : TA} {j : Nat} {vs : List Nat} {lo n : Int} (I : Nat → List V → Prop) (h : ∀ R : List V → Hp → Prop, R [.int lo, .int n] H → ta σ H R) (hn : 0 ≤ lo ∧ lo ≤ 40000 ∧ 0 ≤ n ∧ n ≤ 40000) (hw : ∀ x, wipe ((wipe σ vs).set j (some x)) vs = wipe σ vs) (w : Wl a H H) (i0 : I 0 [])
    (hs : ∀ i : Nat, lo + (i : Int) < n → TurnW a H I t te i ((wipe σ vs).set j (some (.int (lo + (i : Int)))))) (q : ∀ D H' acc, H D = none → D ≠ a → H' D = some (.lst acc) → acc.length ≤ (n - lo).toNat → I (n - lo).toNat acc → Wl a H H' → Q (.ref D) H') : tLc (iRng2 ta) (gName j) t te vs σ H Q :=
  h _ ⟨lo, n, rfl, ⟨by omega, by omega, by omega, by omega⟩, fun D hD => lc_range (lo := lo) (n := (n - lo).toNat) (Cl a D H I) (cl_start w hD i0) (fun i H' hi p => ⟨hw _, cl_turn p (by omega) (hs i (by omega))⟩) (fun H' p => by
      obtain ⟨⟨nD, na⟩, acc, hD, hl, hI, hw⟩ := p
      exact q D H' acc nD na hD hl hI hw)⟩
theorem lc_wL {tl : TE} {j : Nat} {vs : List Nat} {xs : List V} {b : Addr} (I : Nat → List V → Prop) (h : ∀ R : VK, R (.ref b) H → tl σ H R) (nb : b ≠ a) (hx : SqL K H b xs) (hz : xs.length ≤ 40000) (hw : ∀ x, wipe ((wipe σ vs).set j (some x)) vs = wipe σ vs) (w : Wl a H H) (i0 : I 0 [])
    (hs : ∀ i x, xs[i]? = some x → TurnW a H I t te i ((wipe σ vs).set j (some x))) (q : ∀ D H' acc, H D = none → D ≠ a → H' D = some (.lst acc) → acc.length ≤ xs.length → I xs.length acc → Wl a H H' → Q (.ref D) H') : tLc (iList K tl) (gName j) t te vs σ H Q :=
  h _ ⟨b, rfl, ⟨xs, hx⟩, fun D hD => lc_list (xs := xs) (Cl a D H I) (cl_start w hD i0) (fun i H' _ p => by
      obtain ⟨⟨nD, na⟩, acc, hD, hl, hI, hw⟩ := p
      exact hw.sq nb hx) (fun i x H' hi p => ⟨hw _, cl_turn p (by have := (List.getElem?_eq_some_iff.mp hi).1; omega) (hs i x hi)⟩) (fun H' p => by
      obtain ⟨⟨nD, na⟩, acc, hD, hl, hI, hw⟩ := p
      exact q D H' acc nD na hD hl hI hw)⟩
end

section
variable {K : PySem.W.Frag} {σ : L2.St} {H : Hp} {tm : TE} {Q : VK} {a : Addr}
/-- a number drawn from the well -/
theorem call_dip {i : Nat} {m : Int} (hσ : σ[i]? = some (some (.ref a))) (w : Wl a H H) (ht : ∀ R : VK, R (.int m) H → tm σ H R) (hm : 0 < m ∧ m ≤ 10 ^ 40) (q : ∀ d H2, 0 ≤ d → d < m → Wl a H H2 → Q (.int d) H2) : tCall (spDip K) [] E0 (tCons (tVar i) (tCons tm tNil)) σ H Q := by
  obtain ⟨n, h0, h⟩ := w.1
  exact ⟨_, hσ, ht _ ⟨a, n, m, rfl, h, h0, hm.1, hm.2, fun d n' hd hd2 hn' => q d _ hd hd2 (w.dip hn')⟩⟩
end
theorem str_ofList {x : Str} {cs : List Nat} (h : x.cps.toList = cs) : x.length = cs.length := by
  rw [← h]
  rfl
theorem sq_asg {te : TE} {i : Nat} {u : TS} {D : Ends} {σ : L2.St} {H : Hp} (h : te σ H fun x H1 => u D (σ.set i (some x)) H1) : tSeq (tAsg te (gName i)) u D σ H := h
theorem un_asg {te : TE} {i : Nat} {D : Ends} {σ : L2.St} {H : Hp} (h : te σ H fun x H1 => D.nx (σ.set i (some x)) H1) : tAsg te (gName i) D σ H := h
theorem un_op {r : R2} {ta tb : TE} {σ : L2.St} {H : Hp} {Q : VK} (h : ta σ H fun x H1 => tb σ H1 fun y H2 => r x y H2 Q) : tOp r ta tb σ H Q := h
theorem un_m1 {r : V → List V → Hp → VK → Prop} {te : TE} {y : Str} {σ : L2.St} {H : Hp} {Q : VK} (h : te σ H fun x H1 => r (.str y) [x] H1 Q) : tM1 r (tC (.str y)) te σ H Q := ⟨⟨y, rfl⟩, h⟩
theorem dp_strs {K : PySem.W.Frag} {H : Hp} : ∀ xs : List Str, DpAll K H (xs.map V.str) (xs.map PyData.str)
  | [] => .nil
  | x :: xs => .cons (.str x) (dp_strs xs)
theorem strOk_name {x : Str} (h : nameOk x = true) : PyData.strOk x = true := by
  unfold PyData.strOk
  rw [← Array.all_toList, List.all_eq_true]
  intro c hc
  have := (name_letters h).2.2 c hc
  exact decide_eq_true (by omega)
theorem canLay_strs : ∀ xs : List Str, (∀ x ∈ xs, nameOk x = true) → PyData.canLayAll0 (xs.map PyData.str) = true
  | [], _ => rfl
  | x :: xs, h => by
    show (PyData.strOk x && PyData.canLayAll0 (xs.map PyData.str)) = true
    rw [strOk_name (h x List.mem_cons_self), canLay_strs xs fun y hy => h y (List.mem_cons_of_mem _ hy)]
    rfl
theorem depth_strs : ∀ xs : List Str, PyData.depthAll (xs.map PyData.str) = 0
  | [] => rfl
  | x :: xs => by
    show max (PyData.depth (.str x)) (PyData.depthAll (xs.map PyData.str)) = 0
    rw [depth_strs xs]
    rfl
theorem shaped_strs {xs : List Str} (h : ∀ x ∈ xs, nameOk x = true) : SeqAt.shaped (.list (xs.map PyData.str)) = true := by
  show (PyData.canLayAll0 (xs.map PyData.str) && decide (PyData.depthAll (xs.map PyData.str) + 1 ≤ 64)) = true
  rw [canLay_strs xs h, depth_strs]
  rfl
theorem eqv_strs_nil (xs : List Str) : PyData.eqv (.list (xs.map PyData.str)) (.list []) = decide (xs = []) := by
  cases xs with
  | nil => rfl
  | cons x xs => rfl
theorem flat_name (xs : List Str) : (xs.map V.str).all flatV = true := by
  induction xs with
  | nil => rfl
  | cons x xs ih => exact ih
theorem ones_sum : ∀ cs : List Nat, (List.map (fun x : Str => x.length) (cs.map fun c => (⟨#[c]⟩ : Str))).sum = cs.length
  | [] => rfl
  | c :: cs => by
    show 1 + (List.map (fun x : Str => x.length) (cs.map fun c => (⟨#[c]⟩ : Str))).sum = cs.length + 1
    rw [ones_sum cs]
    omega
theorem un_test {te : TE} {σ : L2.St} {H : Hp} {Q : Bool → Hp → Prop} (h : te σ H fun x H1 => ∃ k, x = .bl k ∧ Q k H1) : tTest te σ H Q := h
theorem un_yes {te : TE} {σ : L2.St} {H : Hp} {Y : VK} {N : Hp → Prop} (h : te σ H Y) : tYes σ H fun b H1 => if b = true then te σ H1 Y else N H1 := by
  show if true = true then te σ H Y else N H
  rw [if_pos rfl]
  exact h
theorem un_and {t u : TT} {σ : L2.St} {H : Hp} {Q : Bool → Hp → Prop} (h : t σ H fun c H1 => if c = true then u σ H1 Q else Q false H1) : tAnd t u σ H Q := h
theorem un_ifS {c : TT} {t u : TS} {D : Ends} {σ : L2.St} {H : Hp} (h : c σ H fun b H1 => if b = true then t D σ H1 else u D σ H1) : tIfS c t u D σ H := h
theorem app_list (x y : Str) : (x ++ y).cps.toList = x.cps.toList ++ y.cps.toList := TL.tl_append x y
theorem cut_name {x y : Str} (hx : nameOk x = true) (hy : nameOk y = true) : nameOk (cutS (x ++ y) none (some 8)) = true := by
  obtain ⟨x1, x2, x3⟩ := name_letters hx
  obtain ⟨y1, y2, y3⟩ := name_letters hy
  have e := cut8 (x ++ y)
  rw [app_list] at e
  have l := str_ofList e
  rw [List.length_take, List.length_append] at l
  have lx : x.length = x.cps.toList.length := rfl
  have ly : y.length = y.cps.toList.length := rfl
  refine name_of (by omega) (by omega) fun c hc => ?_
  rw [e] at hc
  rcases List.mem_append.mp (List.mem_of_mem_take hc) with h | h
  · exact x3 c h
  · exact y3 c h
def spWords (a : Addr) : Sp := fun vs H Q _ => ∃ many : Int, vs = [.ref a, .int many] ∧ (0 ≤ many ∧ many ≤ 40) ∧ Wl a H H ∧ ∀ (xs : List Str) l H', xs.Nodup → (∀ x ∈ xs, nameOk x = true) → (xs.length : Int) ≤ many → (1 ≤ many → xs ≠ []) → H l = none → l ≠ a → H' l = some (.lst (xs.map .str)) → Wl a H H' → Q (.ref l) H'
section
variable {P : Program} {w : World} {K : PySem.W.Frag} {mg : Str → Option Value} {base : Heap}
theorem ok_law_words (T : Txt K mg) (a : Addr) : FnOk P w K mg base CX0 2 T.f_law_words T.d_law_words ["well", "many"] (spWords a) := by
  have G_law_dip := ok_law_dip (P := P) (w := w) (base := base) T
  refine T.F_law_words.ok sc_law_words (fun vs H Q E h => ?_) (fun cdv A outer s H vs Q E hr h => ?_)
  · obtain ⟨many, rfl, _⟩ := h
    rfl
  obtain ⟨many, rfl, hm, hw, q⟩ := h
  refine ⟨_, (pss_cons (ps_set (i := 2) sc_law_words.nd rfl (Or.inl rfl) (pe_lst pa_nil))
  (pss_cons (ps_for PassesOwn.never rfl (pi_range1 rfl T.m_range (pa_cons (pv 1) pa_nil)) (pg_name (i := 3) sc_law_words.nd rfl (.inl rfl))
    (pss_cons (ps_set (i := 4) sc_law_words.nd rfl (Or.inl rfl) (pe_ix ix_list (pe_lst (pa_cons pe_int (pa_cons pe_int (pa_cons pe_int (pa_cons pe_int (pa_cons pe_int (pa_cons pe_int pa_nil))))))) (pe_call G_law_dip (hr.mono (by omega)) rfl T.m_law_dip T.F_law_dip.kp T.b_law_dip .nil pass0 (pa_cons (pv 0) (pa_cons pe_int pa_nil))) (fun _ _ => rfl)))
    (pss_cons (ps_set (i := 5) sc_law_words.nd rfl (Or.inl rfl) (pe_join pe_str (pe_lc (own := [("k", 6)]) rfl sc_law_words.nd  (pi_range1 rfl T.m_range (pa_cons (pv 4) pa_nil)) (blkOk_by (own := [("k", 6)]) (N := ["well", "many", "found", "turn", "size", "word", "k"]) (sc := defScope s_law_words) (by decide +kernel)) (fun _ _ _ _ _ => (pg_name (i := 6) sc_law_words.nd rfl (.inl rfl))) (fun _ _ _ _ _ => pts_nil) (fun _ _ _ _ _ => (pe_ix ix_str pe_str (pe_call G_law_dip (hr.mono (by omega)) rfl T.m_law_dip T.F_law_dip.kp T.b_law_dip .nil pass0 (pa_cons (pv 0) (pa_cons pe_int pa_nil))) (fun _ _ => rfl))))))
    (Evl.pss_cut (ps_if (PW.pt (pw_and (pt_cmpR (op_neD hr.units) (pv 2) (pe_lst pa_nil) (nomark _)) (pw_and1 (pt_cmpR op_eq (pe_call G_law_dip (hr.mono (by omega)) rfl T.m_law_dip T.F_law_dip.kp T.b_law_dip .nil pass0 (pa_cons (pv 0) (pa_cons pe_int pa_nil))) pe_int (nomark _))))) (pss_one (ps_set (i := 5) sc_law_words.nd rfl (Or.inl rfl) (pe_slice sl_str (pe_op op_add_str (pe_ix ix_list (pv 2) (pe_un un_neg pe_int) (fun _ _ => rfl)) (pv 5)) po_none (po_some pe_int)))) pss_nil)
    (pss_one (ps_if (pt_cmpR op_notIn_seq (pv 5) (pv 2) (by rfl)) (pss_one (ps_expr (pe_bm PySem.F.plainAttrs_list PySem.F.slot_list_append PySem.F.type_list_append mt_append (pv 2) (pa_cons (pv 5) pa_nil)))) pss_nil))))))
  (pss_one (ps_ret (pv 2))))), ?_⟩
  refine Evl.q_asgL (Evl.el_lst Evl.ea_nil (by decide)) fun f H1 nf e1 h1 => ?_
  have w1 : Wl a H H1 := hw.same e1
  have fa : f ≠ a := hw.ne nf
  refine Evl.q_forR1 (n := many) (Evl.ea_cons (Evl.ev_var rfl) Evl.ea_nil) (by omega) (fun i σ' H' => ∃ (xs : List Str) (t s w : Option V), σ' = [some (.ref a), some (.int many), some (.ref f), t, s, w, none] ∧ H' f = some (.lst (xs.map .str)) ∧ xs.Nodup ∧ (∀ x ∈ xs, nameOk x = true) ∧ xs.length ≤ i ∧ (1 ≤ i → xs ≠ []) ∧ Wl a H H') (fun H2 e2 => ⟨[], none, none, none, rfl, e2 _ _ h1, List.nodup_nil, (fun x h => absurd h List.not_mem_nil), Nat.le_refl _, (fun h => absurd h (by decide)), w1.same e2⟩) (fun i σ' H' hi p => ?_) (fun σ' H' p => ?_)
  rotate_left
  · obtain ⟨xs, t, s, wd, rfl, hf, nd, hn, hl, hne, hW⟩ := p
    exact ⟨_, rfl, q xs f H' nd hn (by omega) (fun h => hne (by omega)) nf fa hf hW⟩
  obtain ⟨xs, t, s, wd, rfl, hf, nd, hn, hl, hne, hW⟩ := p
  dsimp only [List.set]
  -- size
  refine sq_asg <| un_op <| Evl.el_lst (vs := [V.int 1, V.int 1, V.int 1, V.int 2, V.int 3, V.int 8]) (Evl.ea_cons (Evl.ev_c) (Evl.ea_cons Evl.ev_c (Evl.ea_cons Evl.ev_c (Evl.ea_cons Evl.ev_c (Evl.ea_cons Evl.ev_c (Evl.ea_cons Evl.ev_c Evl.ea_nil)))))) (by decide) H' (Ex.refl _) _ fun l6 H2 n6 e2 h6 => ?_
  have w2 := hW.same e2
  refine call_dip (a := a) rfl w2.r (fun R r => r) (by decide) fun d H3 d0 d6 w3 => ?_
  obtain ⟨sz, hsz, s1, s8⟩ := six_at d d0 d6
  have f3 : H3 f = some (.lst (xs.map .str)) := w3.2 _ _ fa (e2 _ _ hf)
  have W3 := w2.trans w3
  refine ⟨l6, _, d, .int sz, rfl, rfl, SqL.of (w3.2 _ _ (hW.ne n6) h6), hsz, ?_⟩
  dsimp only [List.set]
  -- word
  refine sq_asg <| un_m1 ?_
  refine lc_w1 (a := a) (n := sz) (fun i acc => ∃ cs : List Nat, acc = (cs.map fun c => (⟨#[c]⟩ : Str)).map V.str ∧ letters cs ∧ cs.length = i) (fun R r => ⟨_, rfl, r⟩) (by omega) (fun x => rfl) W3.r ⟨[], rfl, fun c h => absurd h List.not_mem_nil, rfl⟩ (fun k hk H4 acc w4 hI Y N y n => ?_) fun D H4 acc nD na hD _ hI w4 => ?_
  · obtain ⟨cs, rfl, hc, hlen⟩ := hI
    refine un_yes <| un_op ?_
    refine call_dip (a := a) rfl w4.r (fun R r => r) (by decide) fun d H5 d0 d6 w5 => ?_
    obtain ⟨c, hat, c1, c2⟩ := abc_at d d0 d6
    refine ⟨_, d, c, rfl, rfl, Evl.sz_lt (by decide), hat, y _ _ w5 ⟨cs ++ [c], by rw [List.map_append, List.map_append]; rfl, fun z hz => ?_, by rw [List.length_append, hlen]; rfl⟩⟩
    rcases List.mem_append.mp hz with h | h
    · exact hc z h
    · rw [List.mem_singleton.mp h]
      exact ⟨c1, c2⟩
  obtain ⟨cs, rfl, hc, hlen⟩ := hI
  refine ⟨_, D, _, rfl, rfl, .inl (SqL.of hD), ?_, ?_⟩
  · rw [ones_sum]
    have : (Str.ofString "").length = 0 := rfl
    rw [this]
    omega
  dsimp only [List.set]
  have hcs := join_ones cs
  generalize Txt.join (Str.ofString "") (cs.map fun c => (⟨#[c]⟩ : Str)) = wd0 at hcs ⊢
  have hwd : nameOk wd0 = true := name_of (by rw [str_ofList hcs]; omega) (by rw [str_ofList hcs]; omega) (by rw [hcs]; exact hc)
  have f4 : H4 f = some (.lst (xs.map .str)) := w4.2 _ _ fa f3
  have W4 := W3.trans w4
  refine Evl.q_cut (M := fun σ' H' => ∃ wd1, nameOk wd1 = true ∧ σ' = [some (.ref a), some (.int many), some (.ref f), some (.int i), some (.int sz), some (.str wd1), none] ∧ H' f = some (.lst (xs.map .str)) ∧ Wl a H H') ?_ ?_
  · refine un_ifS <| un_and <| un_test ⟨_, rfl, ?_⟩
    refine Evl.el_lst (vs := []) Evl.ea_nil (by decide) H4 (Ex.refl _) _ fun l7 H5 n7 e5 h7 => ?_
    have f5 := e5 _ _ f4
    have W5 := W4.same e5
    refine ⟨_, _, .lst (SqL.of f5) (dp_strs xs), .lst (SqL.of h7) .nil, shaped_strs hn, rfl, _, rfl, ?_⟩
    rw [eqv_strs_nil]
    refine ifN (fun hne' => ?_) (fun _ => iteF (nxt ⟨wd0, hwd, rfl, f5, W5⟩))
    refine un_test <| un_op ?_
    refine call_dip (a := a) rfl W5.r (fun R r => r) (by decide) fun d H6 d0 d6 w6 => ?_
    have f6 := w6.2 _ _ fa f5
    have W6 := W5.trans w6
    refine ⟨rfl, _, rfl, ?_⟩
    refine ifD (fun _ => ?_) (fun _ => nxt ⟨wd0, hwd, rfl, f6, W6⟩)
    rcases List.eq_nil_or_concat xs with h | ⟨ys, y, ey⟩
    · exact absurd h hne'
    rw [List.concat_eq_append] at ey
    subst ey
    have hy : nameOk y = true := hn y (by simp)
    refine un_asg ?_
    refine ⟨_, rfl, _, rfl, f, _, _, _, rfl, rfl, SqL.of f6, ?_, _, rfl, y, wd0, rfl, rfl, ?_, ?_⟩
    · rw [List.map_append]
      exact atI_last _ _
    · have := (name_letters hy).2.1
      have := (name_letters hwd).2.1
      exact Nat.le_of_lt <| Evl.sz_lt (by omega)
    refine ⟨_, rfl, _, rfl, ?_, ⟨_, cut_name hy hwd, rfl, f6, W6⟩⟩
    have := (name_letters hy).2.1
    have := (name_letters hwd).2.1
    show (y ++ wd0).length ≤ sizeLine
    rw [str_ofList (app_list y wd0), List.length_append]
    exact Nat.le_of_lt <| Evl.sz_lt (by show y.length + wd0.length < _; omega)
  rintro σ' H5 ⟨wd1, hwd1, rfl, f5, W5⟩
  refine un_ifS <| un_test ⟨_, rfl, _, rfl, f, _, rfl, .inl (SqL.of f5), rfl, flat_name xs, _, rfl, ?_⟩
  rw [inV_str]
  refine ifN (fun hni => ?_) (fun hin => nxt ⟨xs, _, _, _, rfl, f5, nd, hn, by omega, fun _ h => ?_, W5⟩)
  · refine ⟨_, rfl, .inl ⟨rfl, _, Evl.sq_of f5⟩, _, rfl, f, _, _, rfl, rfl, f5, ?_, ⟨xs ++ [wd1], _, _, _, rfl, ?_, ?_, ?_, ?_, ?_, W5.mut fa nf⟩⟩
    · rw [List.length_map]
      exact Evl.sz_lt (by omega)
    · rw [List.map_append]
      exact upd_same
    · refine List.nodup_append.mpr ⟨nd, List.nodup_cons.mpr ⟨List.not_mem_nil, List.nodup_nil⟩, fun u hu v hv z => ?_⟩
      rw [List.mem_singleton.mp hv] at z
      exact hni (z ▸ hu)
    · intro u hu
      rcases List.mem_append.mp hu with h | h
      · exact hn u h
      · rw [List.mem_singleton.mp h]
        exact hwd1
    · rw [List.length_append]
      exact Nat.succ_le_succ hl
    · intro _ z
      exact absurd z (by simp)
  · rw [h] at hin
    exact absurd hin List.not_mem_nil
end
end Rk
/-! sorted(set(xs)), xs a list of ints. -/
set_option Elab.async false
set_option linter.all false
set_option maxRecDepth 100000
set_option maxHeartbeats 4000000
namespace RkT
open PySem PySem.Spec PyProof PyProof.Rows L2
def ledOf (w : World) : Bool := !w.params.followText "set-order"
section
variable {prog : Program} {w : World} {A : Around}
/-- set(l), l a list of ints -/
theorem makeI {E : Value → Shared → Prop} {s : Shared} {l : Addr} {items : Array Value} {ns : List Int} {Q : Value → Shared → Prop} (calm : A.handled = none) (hl : s.heap.IsList l items) (small : ns.length + 1 < scanBound) (hints : IntsAre items.toList ns)
    (h : ∀ (h' : Heap) (tk n : Nat), SetR w h' s.heap.objs.size (fun j => decide (j ∈ ns)) n → n ≤ ns.length → (∀ b o, b < s.heap.objs.size → s.heap.get? b = some o → h'.get? b = some o) → Q (.ref s.heap.objs.size) { s with heap := h', toks := tk }) :
    wpAny (model prog w) A (call (.type "set") [.ref l]) Q E s := by
  have size : items.size = ns.length := by
    have := hints.length
    rwa [Array.length_toList] at this
  have ⟨cc, tl, bases⟩ := PySem.F.called_set.mro
  have q1 := PySem.F.called_set.made
  have q2 := PySem.F.called_set.sub
  have q3 := PySem.F.called_set.notType
  have q4 := PySem.F.called_set.canCreate
  have q5 := PySem.F.typeCall_set_1 (.ref l)
  refine wpAny_call (codeAny_of_tree ?_)
  show wpAny (model prog w) _ (callAny (.type "set") _) _ _ s
  refine wpAny_pure ⟨Code.quiet_builtin _ (by decide +kernel), codeAny_builtin PySem.F.entry_type_call (by
    rw [Around.under_plain (weight_type_call_type "set" [.ref l] []) rfl]
    repeat (any_goals (first | assumption | wp_step))
    refine codeAny_mono (code_set_led1 (.ref l) (E := E) (Q₁ := fun a s₁ => a = .ref s.heap.objs.size ∧ s₁ = { s with heap := s.heap.push (e0 (ledOf w)) }) ⟨rfl, rfl⟩) fun r s₁ hr => ?_
    rcases r with e | fl
    · exact hr
    obtain ⟨v0, rfl⟩ : ∃ v0, fl = .ret v0 := by
      cases fl with
      | ret v => exact ⟨v, rfl⟩
      | _ => exact hr.elim
    obtain ⟨rfl, rfl⟩ := hr
    have at0 : (s.heap.push (e0 (ledOf w))).get? s.heap.objs.size = some (e0 (ledOf w)) := Heap.get?_push_size _ rfl
    have ty : Shared.TypeIs { s with heap := s.heap.push (e0 (ledOf w)) } (.ref s.heap.objs.size) "set" := ⟨_, at0, rfl⟩
    have i1 := PySem.F.called_set.init.lookup
    have i2 := PySem.F.called_set.init.bind (.ref s.heap.objs.size)
    repeat (any_goals (first | assumption | wp_step))
    refine codeAny_mono (codeAny_call_builtin (R := wants (fun r s₂ => r = .none ∧ ∃ h' tk n, s₂ = { s with heap := h', toks := tk } ∧ SetR w h' s.heap.objs.size (fun j => decide (j ∈ ns)) n ∧ n ≤ ns.length ∧ ∀ b o, b < s.heap.objs.size → s.heap.get? b = some o → h'.get? b = some o) E)
      PySem.F.called_set.init.plain PySem.F.entry_set_init (check_set_init_1 ty ?_)) fun r₂ s₂ hr₂ => ?_
    · obtain ⟨⟨oc, od, odt, osl⟩, hol, hcl, nl, hdl⟩ := hl
      simp only at hcl hdl
      subst hcl hdl
      have at1 : (s.heap.push (e0 (ledOf w))).get? l = some ⟨.type "list", od, .seq items nl, osl⟩ := Heap.get?_push_of_some _ hol
      have t1 := PySem.F.sub_list_set
      have t2 := PySem.F.sub_list_frozenset
      have t3 : (Value.type "list" == Value.type "dict") = false := by decide
      have isl : (s.heap.push (e0 (ledOf w))).IsList l items := ⟨_, at1, rfl, nl, rfl⟩
      unfold Builtin.«set.__init__» noKeywords Builtin.Frozenset.updateFrom
      generalize hPI : pyIter = PI
      wp_walk
      subst hPI
      refine wpAny_pyIter_list isl (wpAny_bind (wpAny_runValue ?_))
      have l0 : l < s.heap.objs.size := Heap.lt_size hol
      have sz : (s.heap.push (e0 (ledOf w))).objs.size = s.heap.objs.size + 1 := Heap.size_push ..
      have l1 : l ≠ (s.heap.push (e0 (ledOf w))).objs.size := by rw [sz]; exact Nat.ne_of_lt (Nat.lt_succ_of_lt l0)
      have out : s.heap.objs.size ∉ [(s.heap.push (e0 (ledOf w))).objs.size, l] := by
        rw [sz]
        simp only [List.mem_cons, List.not_mem_nil, or_false, not_or]
        exact ⟨Nat.ne_of_lt (Nat.lt_succ_self _), Nat.ne_of_gt l0⟩
      refine set_update_ints ((Walks.list (by simp [calm]) _ l l1 items).toS) s.heap.objs.size out ns size small (fun i v hv => ?val) (items.size - 0) 0 _ (by omega) (Nat.zero_le _) ⟨⟨_, Heap.get?_push_size _ rfl, rfl, rfl⟩, isl.push _⟩ ?start ?fin
      case val =>
        have hi : i < ns.length := size ▸ (Array.getElem?_eq_some_iff.mp hv).1
        obtain ⟨t, e⟩ := IntsAre.int_at hints i v ((Array.getElem?_toList ..).trans hv)
        refine ⟨ns[i], t, List.getElem?_eq_getElem hi, e.trans ?_⟩
        rw [List.getD_eq_getElem?_getD, List.getElem?_eq_getElem hi]
        rfl
      case start =>
        exact ⟨0, Nat.le_refl 0, setR_new_at (Heap.get?_push_of_some _ at0)⟩
      case fin =>
        rintro ⟨h', g', d', tk', os'⟩ n mv le full
        obtain rfl : g' = s.gens := mv.gens
        obtain rfl : d' = s.drawn := mv.drawn
        obtain rfl : os' = s.os := mv.os
        show wpAny _ _ _ _ _ _
        refine wpAny_pure ?_
        show wpAny _ _ (ret Value.none) _ _ _
        refine wpAny_pure ⟨rfl, h', tk', n, rfl, full, size ▸ le, fun b o hb e => mv.heap b o ?_ (Heap.get?_push_of_some _ (Heap.get?_push_of_some _ e))⟩
        rw [sz]
        simp only [List.mem_cons, List.not_mem_nil, or_false, not_or]
        exact ⟨Nat.ne_of_lt hb, Nat.ne_of_lt (Nat.lt_succ_of_lt hb)⟩
    · rcases r₂ with e | fl₂
      · exact hr₂
      obtain ⟨v0, rfl⟩ : ∃ v0, fl₂ = .ret v0 := by
        cases fl₂ with
        | ret v => exact ⟨v, rfl⟩
        | _ => exact hr₂.elim
      obtain ⟨rfl, h', tk, n, rfl, full, le, kept⟩ := hr₂
      repeat (any_goals (first | assumption | wp_step))
      exact h _ _ _ full le kept)⟩
end
end RkT
set_option Elab.async false
set_option linter.all false
set_option maxRecDepth 100000
set_option maxHeartbeats 4000000
namespace RkO
open PySem PySem.Spec PyProof.Rows L2
variable {X : Cx}
/-- set(xs), xs a list of ints -/
def tSetI (X : Cx) (ta : TE) : TE := fun σ H Q => ta σ H fun x H1 => ∃ (l : Addr) (ns : List Int), x = .ref l ∧ SqL X.K H1 l (ns.map V.int) ∧ ns.length ≤ 1000 ∧ ∀ p n, H1 p = none → n ≤ ns.length → Q (.ref p) (upd H1 p (SetO X.w p (fun j => decide (j ∈ ns)) n))
theorem pe_setI {a : Expr} {ta : TE} {p q : Pos} (hc : X.calm = true) (hg : Gl X "set") (hm : X.mg "set" = none) (ha : PE X a ta)
    (na : starEach [a] X.env = (false, eval a X.env) :: starEach [] X.env := by rfl) : PE X (.Call (.Name "set" p) [a] [] q) (tSetI X ta) := by
  refine ⟨fun pins s σ H Q I h => Call_ (ld_blt I hg hm boot_set ?_)⟩
  refine callWith_type1 (args_cons (thn (ha.run pins s σ H _ I h) fun v s1 ⟨x, H1, I1, r1, q1⟩ => args_nil ?_) na) na rfl
  obtain ⟨l, ns, rfl, hq, small, q1⟩ := q1
  cases r1
  obtain ⟨its, r, pl, hz⟩ := I1.list hq
  refine RkT.makeI (I1.ok.hd hc) pl.isList (ns := ns) (by unfold scanBound; omega) (by simpa using RZ.intsAre_vals r) fun h' tk n full le kept => ?_
  exact ⟨.ref _, upd H1 s1.heap.objs.size (SetO X.w s1.heap.objs.size (fun j => decide (j ∈ ns)) n), I1.laid (fun b u e => kept b u (Heap.lt_size e) e) (Nat.le_refl _) (setO_new full), rfl, q1 _ n (I1.hok.fresh (Nat.le_refl _)) le⟩
end RkO
set_option Elab.async false
set_option linter.all false
set_option maxRecDepth 100000
set_option maxHeartbeats 4000000
namespace Rk
open PySem PySem.Spec PyProof.Rows L2 RkO
open Evl (Ev EvT EvA EvL EvU EvO Ex RC RCL SpV SpL)
theorem cut5 (rs : List Int) : ∃ cs : List Int, cutV (rs.map V.int) none (some 5) = cs.map V.int ∧ (∀ r ∈ cs, r ∈ rs) ∧ cs.length ≤ 5 := by
  refine ⟨(rs.drop 0).take (min 5 rs.length), ?_, fun r hr => ?_, ?_⟩
  · unfold cutV
    rw [HT.sIx_none, show HT.sIx (rs.map V.int).length (rs.map V.int).length (some 5) = min 5 (rs.map V.int).length from HT.sIx_nat _ _ 5, List.length_map, Nat.sub_zero, List.map_take, List.map_drop]
  · rw [List.drop_zero] at hr
    exact List.mem_of_mem_take hr
  · rw [List.length_take]
    omega
theorem un_setI {X : Cx} {ta : TE} {σ : L2.St} {H : Hp} {Q : VK} (h : ta σ H fun x H1 => ∃ (l : Addr) (ns : List Int), x = .ref l ∧ SqL X.K H1 l (ns.map V.int) ∧ ns.length ≤ 1000 ∧ ∀ p n, H1 p = none → n ≤ ns.length → Q (.ref p) (upd H1 p (SetO X.w p (fun j => decide (j ∈ ns)) n))) : tSetI X ta σ H Q := h
theorem un_seq {t u : TS} {D : Ends} {σ : L2.St} {H : Hp} (h : t { D with nx := u D } σ H) : tSeq t u D σ H := h
theorem un_ret {te : TE} {D : Ends} {σ : L2.St} {H : Hp} (h : te σ H fun v H1 => D.rt v H1) : tRet te D σ H := h
theorem un_cb1 {r : List V → Hp → VK → Prop} {te : TE} {σ : L2.St} {H : Hp} {Q : VK} (h : te σ H fun x H1 => r [x] H1 Q) : tCB r (tCons te tNil) σ H Q := h
section
variable {P : Program} {w : World} {K : PySem.W.Frag} {mg : Str → Option Value} {base : Heap}
def spRanks (a : Addr) : Sp := fun vs H Q _ => ∃ m : Int, vs = [.ref a, .int m] ∧ (1 ≤ m ∧ m ≤ 300) ∧ Wl a H H ∧ ∀ (rs : List Int) l H', Asc rs → rs ≠ [] → (∀ r ∈ rs, 1 ≤ r ∧ r ≤ m) → H l = none → l ≠ a → H' l = some (.lst (rs.map .int)) → Wl a H H' → Q (.ref l) H'
theorem ok_law_ranks (T : Txt K mg) (a : Addr) : FnOk P w K mg base CX0 2 T.f_law_ranks T.d_law_ranks ["well", "intake"] (spRanks a) := by
  have G_law_dip := ok_law_dip (P := P) (w := w) (base := base) T
  refine T.F_law_ranks.ok sc_law_ranks (fun vs H Q E h => ?_) (fun cdv A outer s H vs Q E hr h => ?_)
  · obtain ⟨m, rfl, _⟩ := h
    rfl
  obtain ⟨m, rfl, hm, hw, q⟩ := h
  refine ⟨_, (pss_cons (ps_set (i := 2) sc_law_ranks.nd rfl (Or.inl rfl) (pe_call G_law_dip (hr.mono (by omega)) rfl T.m_law_dip T.F_law_dip.kp T.b_law_dip .nil pass0 (pa_cons (pv 0) (pa_cons pe_int pa_nil))))
  (pss_cons (ps_if (pt_cmpR op_eq (pv 2) pe_int (nomark _)) (pss_one (ps_ret (pe_lst (pa_cons (pe_op op_fdivW (pe_op op_add (pv 1) pe_int) pe_int) pa_nil)))) pss_nil)
  (pss_cons (ps_set (i := 3) sc_law_ranks.nd rfl (Or.inl rfl) (pe_op op_add pe_int (pe_call G_law_dip (hr.mono (by omega)) rfl T.m_law_dip T.F_law_dip.kp T.b_law_dip .nil pass0 (pa_cons (pv 0) (pa_cons (pv 1) pa_nil)))))
  (pss_cons (ps_if (pt_cmpR op_eq (pv 2) pe_int (nomark _)) (pss_one (ps_ret (pe_lst (pa_cons (pv 3) pa_nil)))) pss_nil)
  (pss_cons (ps_setLc (i := 4) (own := [("rank", 5)]) rfl sc_law_ranks.nd rfl rfl (sw_true rfl rfl rfl (by decide +kernel))  (pi_range2 rfl T.m_range (pa_cons pe_int (pa_cons (pe_op op_add (pv 1) pe_int) pa_nil))) (blkOk_by (own := [("rank", 5)]) (N := ["well", "intake", "way", "one", "others", "rank"]) (sc := defScope s_law_ranks) (by decide +kernel)) (fun _ _ _ _ _ => (pg_name (i := 5) sc_law_ranks.nd rfl (.inl rfl))) (fun _ _ _ _ _ => (pts_one (pt_cmpR op_eq (pe_call G_law_dip (hr.mono (by omega)) rfl T.m_law_dip T.F_law_dip.kp T.b_law_dip .nil pass0 (pa_cons (pv 0) (pa_cons pe_int pa_nil))) pe_int (nomark _)))) (fun _ _ _ _ _ => (pv 5)))
  (pss_one (ps_ret (pe_callB (cr_sortedSet rfl) (by rfl) T.m_sorted (by decide +kernel) (pa_cons (pe_setI rfl (by rfl) T.m_set (pe_op op_cat (pe_lst (pa_cons (pv 3) pa_nil)) (pe_slice sl_list (pv 4) po_none (po_some pe_int)))) pa_nil))))))))), ?_⟩
  refine sq_asg ?_
  refine call_dip (a := a) rfl hw (fun R r => r) (by decide) fun way H1 d0 d6 w1 => ?_
  dsimp only [List.set, L2.start]
  have big : ∀ {x : Int}, x ≤ 300 → x ≤ 10 ^ 40 := fun h => Int.le_trans h (by decide)
  have one_ret : ∀ {H1 H2 : Hp} {l : Addr} {r : Int} {te : TE}, Wl a H H1 → Ex H1 H2 → H1 l = none → H2 l = some (.lst [.int r]) → 1 ≤ r → r ≤ m → Q (.ref l) H2 := fun w1 e n h h1 h2 => q [_] _ _ (List.pairwise_singleton _ _) (List.cons_ne_nil _ _) (fun x hx => by rw [List.mem_singleton.mp hx]; exact ⟨h1, h2⟩) (w1.fresh n) (w1.ne n) h (w1.same e)
  refine un_seq <| un_ifS <| un_test ⟨_, rfl, rfl, _, rfl, ?_⟩
  refine ifD (fun _ => ?_) (fun _ => nxt ?_)
  · refine Evl.s_retL (xs := [.int ((m + 1) / 2)]) (Evl.el_lst (Evl.ea_cons ?_ Evl.ea_nil) (Nat.le_of_ble_eq_true rfl)) fun l H2 nl e2 h2 => one_ret (te := tC .non) w1 e2 nl h2 (by omega) (by omega)
    intro H3 e3 Q3 q3
    exact ⟨_, rfl, _, _, rfl, rfl, _, _, rfl, rfl, ⟨by decide, by decide +kernel⟩, q3 _ (Ex.refl _)⟩
  dsimp only
  refine sq_asg <| un_op ?_
  refine call_dip (a := a) rfl w1.r (fun R r => ⟨_, rfl, r⟩) ⟨by omega, big (by omega)⟩ fun one H2 o0 o6 w2 => ⟨_, _, rfl, rfl, ?_⟩
  have W2 := w1.trans w2
  dsimp only [List.set, L2.start]
  refine un_seq <| un_ifS <| un_test ⟨_, rfl, rfl, _, rfl, ?_⟩
  refine ifD (fun _ => ?_) (fun _ => nxt ?_)
  · exact Evl.s_retL (xs := [.int (1 + one)]) (Evl.el_lst (Evl.ea_cons (Evl.ev_var rfl) Evl.ea_nil) (Nat.le_of_ble_eq_true rfl)) fun l H2 nl e2 h2 => one_ret (te := tC .non) W2 e2 nl h2 (by omega) (by omega)
  dsimp only
  refine sq_asg ?_
  refine lc_w2 (a := a) (lo := 1) (n := m + 1) (fun i acc => ∃ rs : List Int, acc = rs.map V.int ∧ ∀ r ∈ rs, 1 ≤ r ∧ r ≤ m) (fun R r => ⟨_, rfl, _, _, rfl, rfl, r⟩) (by omega) (fun x => rfl) W2.r ⟨[], rfl, fun c h => absurd h List.not_mem_nil⟩ (fun k hk H4 acc w4 hI Y N y n => ?_) fun D H4 acc nD na hD _ hI w4 => ?_
  · obtain ⟨rs, rfl, hrs⟩ := hI
    refine un_test <| un_op ?_
    refine call_dip (a := a) rfl w4.r (fun R r => r) (by decide) fun d H5 d0 d6 w5 => ⟨rfl, _, rfl, ?_⟩
    refine ifD (fun _ => ⟨_, rfl, y _ _ w5 ⟨rs ++ [1 + (k : Int)], by rw [List.map_append]; rfl, fun r hr => ?_⟩⟩) (fun _ => n _ w5 ⟨rs, rfl, hrs⟩)
    rcases List.mem_append.mp hr with h | h
    · exact hrs r h
    · rw [List.mem_singleton.mp h]
      omega
  obtain ⟨rs, rfl, hrs⟩ := hI
  have W4 := W2.trans w4
  refine un_ret <| un_cb1 ?_
  refine un_setI <| un_op ?_
  refine Evl.el_lst (vs := [.int (1 + one)]) (Evl.ea_cons (by exact Evl.ev_var rfl) Evl.ea_nil) (Nat.le_of_ble_eq_true rfl) H4 (Ex.refl _) _ fun l5 H5 n5 e5 h5 => ?_
  refine ⟨_, rfl, _, rfl, D, _, rfl, SqL.of (e5 _ _ hD), fun l6 n6 => ?_⟩
  have W5 := W4.same e5
  obtain ⟨cs, ec, hcs, lcs⟩ := cut5 rs
  rw [ec]
  have s6 := same_new n6 (.lst (cs.map V.int))
  have h6 : (upd H5 l6 (.lst (cs.map V.int))) l6 = some (.lst (cs.map V.int)) := upd_same
  generalize upd H5 l6 (.lst (cs.map V.int)) = H6 at s6 h6 ⊢
  have W6 := W5.same s6
  refine ⟨l5, l6, _, _, rfl, rfl, s6 _ _ h5, h6, Evl.sz_of (by rw [List.length_map]; show 1 + cs.length ≤ _; omega), fun l7 n7 => ?_⟩
  have s7 := same_new n7 (.lst ([V.int (1 + one)] ++ cs.map V.int))
  have h7 : (upd H6 l7 (.lst ([V.int (1 + one)] ++ cs.map V.int))) l7 = some (.lst (((1 + one) :: cs).map V.int)) := upd_same
  generalize upd H6 l7 (.lst ([V.int (1 + one)] ++ cs.map V.int)) = H7 at s7 h7 ⊢
  have W7 := W6.same s7
  refine ⟨l7, (1 + one) :: cs, rfl, SqL.of h7, by rw [List.length_cons]; omega, fun p n n8 ln => ⟨p, _, n, rfl, upd_same, ?_, fun ns z up mem len n9 => ?_⟩⟩
  · rw [List.length_cons] at ln
    omega
  have s8 := same_new n8 (SetO w p (fun j => decide (j ∈ (1 + one) :: cs)) n)
  have W8 := W7.same s8
  have s9 := same_new n9 (.lst (ns.map V.int))
  refine q ns z _ up (fun e => ?_) (fun r hr => ?_) (W8.fresh n9) (W8.ne n9) upd_same (W8.same s9)
  · have := (mem (1 + one)).mpr (decide_eq_true List.mem_cons_self)
    rw [e] at this
    cases this
  · have := of_decide_eq_true ((mem r).mp hr)
    rcases List.mem_cons.mp this with h | h
    · omega
    · exact hrs r (hcs r h)
end
end Rk
set_option Elab.async false
set_option linter.all false
set_option maxRecDepth 100000
set_option maxHeartbeats 4000000
namespace Rk
open PySem PySem.Spec PyProof.Rows L2 RkO
open Evl (Ev EvT EvA EvL EvU EvO Ex RC RCL SpV SpL)
/-- the law's own trees, as tuples -/
inductive LAt (H : Hp) : V → Tr → Prop where
  | leaf {p : Addr} {x : Str} : H p = some (.tup [.str "leaf", .str x]) → LAt H (.ref p) (.leaf x)
  | grp {p lr lp : Addr} {rs : List Int} {ps : List Tr} {vs : List V} : H p = some (.tup [.str "group", .ref lr, .ref lp]) → H lr = some (.lst (rs.map V.int)) → H lp = some (.lst vs) →
      vs.length = ps.length → (∀ (i : Nat) v t, vs[i]? = some v → ps[i]? = some t → LAt H v t) → LAt H (.ref p) (.grp rs ps)
theorem LAt.mono {H H' : Hp} {v : V} {t : Tr} (h : LAt H v t) (e : Same H H') : LAt H' v t := by
  induction h with
  | leaf h => exact .leaf (e _ _ h)
  | grp h1 h2 h3 hl _ ih => exact .grp (e _ _ h1) (e _ _ h2) (e _ _ h3) hl ih
def LF (H : Hp) (vs : List V) (ts : List Tr) : Prop := vs.length = ts.length ∧ ∀ (i : Nat) v t, vs[i]? = some v → ts[i]? = some t → LAt H v t
theorem LF.mono {H H' : Hp} {vs : List V} {ts : List Tr} (h : LF H vs ts) (e : Same H H') : LF H' vs ts := ⟨h.1, fun i v t a b => (h.2 i v t a b).mono e⟩
theorem LF.nil {H : Hp} : LF H [] [] := ⟨rfl, fun i v t a _ => by simp at a⟩
theorem LF.app {H : Hp} {vs us : List V} {ts ss : List Tr} (h : LF H vs ts) (g : LF H us ss) : LF H (vs ++ us) (ts ++ ss) := by
  refine ⟨by rw [List.length_append, List.length_append, h.1, g.1], fun i u s a b => ?_⟩
  have h1 := h.1
  by_cases hi : i < vs.length
  · rw [List.getElem?_append_left hi] at a
    rw [List.getElem?_append_left (by omega)] at b
    exact h.2 i u s a b
  · rw [List.getElem?_append_right (by omega)] at a
    rw [List.getElem?_append_right (by omega), ← h1] at b
    exact g.2 _ u s a b
theorem LF.one {H : Hp} {v : V} {t : Tr} (h : LAt H v t) : LF H [v] [t] := by
  refine ⟨rfl, fun i u s a b => ?_⟩
  cases i with
  | zero =>
    cases a
    cases b
    exact h
  | succ i => cases a
theorem un_tup {t : TA} {σ : L2.St} {H : Hp} {Q : VK} (h : t σ H fun xs H1 => xs.length ≤ sizeLine ∧ ∀ p, H1 p = none → Q (.ref p) (upd H1 p (.tup xs))) : tTup t σ H Q := h
theorem un_cons {te : TE} {tr : TA} {σ : L2.St} {H : Hp} {Q : List V → Hp → Prop} (h : te σ H fun x H1 => tr σ H1 fun xs H2 => Q (x :: xs) H2) : tCons te tr σ H Q := h
theorem un_c {v : V} {σ : L2.St} {H : Hp} {Q : VK} (h : Q v H) : tC v σ H Q := h
theorem call_ranks {σ : L2.St} {H : Hp} {tm : TE} {Q : VK} {a : Addr} {i : Nat} {m : Int} (hσ : σ[i]? = some (some (.ref a))) (w : Wl a H H) (ht : Ev tm σ H (.int m)) (hm : 1 ≤ m ∧ m ≤ 300)
    (q : ∀ (rs : List Int) l H', Asc rs → rs ≠ [] → (∀ r ∈ rs, 1 ≤ r ∧ r ≤ m) → H l = none → l ≠ a → H' l = some (.lst (rs.map .int)) → Wl a H H' → Q (.ref l) H') : tCall (spRanks a) [] E0 (tCons (tVar i) (tCons tm tNil)) σ H Q :=
  ⟨_, hσ, ht H (Ex.refl H) _ fun H1 e => ⟨m, rfl, hm, (w.same e).r, fun rs l H' h1 h2 h3 n la h4 w' => q rs l H' h1 h2 h3 (Evl.fresh_back e n) la h4 ((w.same e).trans w')⟩⟩
theorem intake_le : ∀ {ps : List Tr}, (∀ t ∈ ps, Ok t) → intakeL ps ≤ (namesL ps).length
  | [], _ => Nat.le_refl _
  | p :: ps, h => by
    show p.width + intakeL ps ≤ (p.names ++ namesL ps).length
    have h1 := (h p List.mem_cons_self).width_le
    have h2 := intake_le fun t ht => h t (List.mem_cons_of_mem _ ht)
    rw [List.length_append]
    omega
theorem Ok.wide {t : Tr} (h : Ok t) : 1 ≤ t.width := by
  cases h with
  | leaf _ => exact Nat.le_refl _
  | @grp rs ps _ _ _ hne _ _ =>
    show 1 ≤ rs.length
    exact List.length_pos_iff.mpr hne
theorem intake_pos {ps : List Tr} (h : ∀ t ∈ ps, Ok t) (ne : ps ≠ []) : 1 ≤ intakeL ps := by
  cases ps with
  | nil => exact absurd rfl ne
  | cons p ps =>
    show 1 ≤ p.width + intakeL ps
    have := (h p List.mem_cons_self).wide
    omega
theorem LF.zip {H : Hp} {vs : List V} {ts : List Tr} (h : LF H vs ts) : vs = (vs.zip ts).map Prod.fst ∧ ts = (vs.zip ts).map Prod.snd ∧ ∀ p ∈ vs.zip ts, LAt H p.1 p.2 := by
  refine ⟨?_, ?_, fun p hp => ?_⟩
  · rw [List.map_fst_zip (by rw [h.1]; exact Nat.le_refl _)]
  · rw [List.map_snd_zip (by rw [h.1]; exact Nat.le_refl _)]
  · obtain ⟨i, hi⟩ := List.mem_iff_getElem?.mp hp
    obtain ⟨g1, g2⟩ := List.getElem?_zip_eq_some.mp hi
    exact h.2 i _ _ g1 g2
section
variable {P : Program} {w : World} {K : PySem.W.Frag} {mg : Str → Option Value} {base : Heap}
def spLWidth (K : PySem.W.Frag) : Sp := fun vs H Q _ => ∃ v t, vs = [v] ∧ LAt H v t ∧ Q (.int (t.width : Nat)) H
theorem ok_law_width (T : Txt K mg) : FnOk P w K mg base CX0 1 T.f_law_width T.d_law_width ["tree"] (spLWidth K) := by
  refine T.F_law_width.ok sc_law_width (fun vs H Q E h => ?_) (fun cdv A outer s H vs Q E hr h => ?_)
  · obtain ⟨v, t, rfl, _⟩ := h
    rfl
  obtain ⟨v, t, rfl, ht, q⟩ := h
  refine ⟨_, (pss_cons (ps_if (pt_cmpR op_eq (pe_ix ix_tup (pv 0) pe_int (fun _ _ => rfl)) pe_str (nomark _)) (pss_one (ps_ret pe_int)) pss_nil)
  (pss_one (ps_ret (pe_callB call_len_seq (by rfl) T.m_len PySem.boot_len (pa_cons (pe_ix ix_tup (pv 0) pe_int (fun _ _ => rfl)) pa_nil))))), ?_⟩
  cases ht with
  | leaf h =>
    refine un_seq <| un_ifS <| un_test ⟨_, rfl, _, _, _, _, rfl, rfl, Evl.st_of h, atI_nat (j := 0) rfl, rfl, _, rfl, ?_⟩
    rw [decide_eq_true rfl]
    exact iteT q
  | @grp p lr lp rs ps us h1 h2 h3 hl hf =>
    refine un_seq <| un_ifS <| un_test ⟨_, rfl, _, _, _, _, rfl, rfl, Evl.st_of h1, atI_nat (j := 0) rfl, rfl, _, rfl, ?_⟩
    rw [decide_eq_false (by decide +kernel)]
    refine iteF (nxt ?_)
    refine ⟨_, rfl, _, _, _, _, rfl, rfl, Evl.st_of h1, atI_nat (j := 1) rfl, _, _, rfl, .inl (SqL.of h2), ?_⟩
    rw [List.length_map]
    exact q
/-- a group of the law's own; what M names is not told of -/
def spLGroup (a : Addr) : Sp := fun vs H Q _ => ∃ (lp : Addr) (us : List V) (ps : List Tr) (M : Addr → Bool), vs = [.ref a, .ref lp] ∧ Wl a H H ∧ H lp = some (.lst us) ∧ M lp = false ∧ M a = true ∧ (∀ b, M b = true → H b ≠ none) ∧ LF (hid M H) us ps ∧ (∀ t ∈ ps, Ok t) ∧ (namesL ps).Nodup ∧ ps ≠ [] ∧ (namesL ps).length ≤ 300 ∧
  ∀ p H' rs, Wl a H H' → Ok (.grp rs ps) → LAt (hid M H') (.ref p) (.grp rs ps) → Q (.ref p) H'
theorem ok_law_group (T : Txt K mg) (a : Addr) : FnOk P w K mg base CX0 3 T.f_law_group T.d_law_group ["well", "parts"] (spLGroup a) := by
  have G_law_ranks := ok_law_ranks (P := P) (w := w) (base := base) T a
  have G_law_width := ok_law_width (P := P) (w := w) (base := base) T
  refine T.F_law_group.ok sc_law_group (fun vs H Q E h => ?_) (fun cdv A outer s H vs Q E hr h => ?_)
  · obtain ⟨lp, us, ps, M, rfl, _⟩ := h
    rfl
  obtain ⟨lp, us, ps, M, rfl, hw, hp, hM, hMa, hMs, hF, hok, nd, ne, hlen, q⟩ := h
  refine ⟨_, (pss_one (ps_ret (pe_tup (pa_cons pe_str (pa_cons (pe_call G_law_ranks (hr.mono (by omega)) rfl T.m_law_ranks T.F_law_ranks.kp T.b_law_ranks .nil pass0 (pa_cons (pv 0) (pa_cons (pe_callB (cr_sum rfl) (by rfl) T.m_sum (by decide +kernel) (pa_cons (pe_lc (own := [("part", 2)]) rfl sc_law_group.nd  (pi_list (pv 1)) (blkOk_by (own := [("part", 2)]) (N := ["well", "parts", "part"]) (sc := defScope s_law_group) (by decide +kernel)) (fun _ _ _ _ _ => (pg_name (i := 2) sc_law_group.nd rfl (.inl rfl))) (fun _ _ _ _ _ => pts_nil) (fun _ _ _ _ _ => (pe_call G_law_width (hr.mono (by omega)) rfl T.m_law_width T.F_law_width.kp T.b_law_width .nil pass0 (pa_cons (pv 2) pa_nil)))) pa_nil)) pa_nil))) (pa_cons (pv 1) pa_nil)))))), ?_⟩
  obtain ⟨e1, e2, hz⟩ := hF.zip
  have es : ((us.zip ps).map fun p => ((p.2.width : Nat) : Int)).sum = (intakeL ps : Nat) := by
    rw [intakeL_sum, ← show ((us.zip ps).map Prod.snd).map (fun t => ((t.width : Nat) : Int)) = (us.zip ps).map fun p => ((p.2.width : Nat) : Int) by rw [List.map_map]; rfl, ← e2]
  have le := intake_le hok
  have lps := parts_le hok
  have hi := intake_pos hok ne
  refine un_ret <| un_tup <| un_cons <| un_c <| un_cons <| call_ranks (m := (intakeL ps : Nat)) rfl hw ?_ (by omega) fun rs lr H1 hasc hne hb nlr lra hlr w1 => ?_
  · rw [← es]
    refine ev_sumN ?_
    rw [List.map_map]
    refine el_lcM (xs := us.zip ps) (g := Prod.fst) (Evl.ev_var rfl) (by rw [← e1]; exact SqL.of hp) (by rw [List.length_zip]; omega) (fun x => rfl) fun p H1 ex hp => ?_
    intro H2 e2 Q2 q2
    exact ⟨_, rfl, _, _, rfl, ((hz p hp).mono hid_le).mono (ex.trans e2), q2 _ (Ex.refl _)⟩
  refine ⟨_, rfl, Evl.sz_of (Nat.le_of_ble_eq_true rfl), fun p np => ?_⟩
  have lpa : lp ≠ a := fun z => by rw [z, hMa] at hM; cases hM
  have nM : ∀ b, H b = none → M b = false := fun b hb => by
    cases h : M b with
    | false => rfl
    | true => exact absurd hb (hMs b h)
  have s1 : Same (hid M H) (hid M H1) := fun b o z => by
    cases h : M b with
    | true =>
      rw [hid_t h] at z
      cases z
    | false =>
      rw [hid_f h] at z ⊢
      exact w1.2 b o (fun e => by rw [e, hMa] at h; cases h) z
  have s2 : Same H1 (upd H1 p (.tup [.str "group", .ref lr, .ref lp])) := same_new np _
  refine q p _ rs (w1.same s2) (.grp hok ne nd hne hasc hb) ?_
  have np0 := w1.fresh np
  have s3 : Same (hid M H1) (hid M (upd H1 p (.tup [.str "group", .ref lr, .ref lp]))) := fun b o z => by
    cases h : M b with
    | true =>
      rw [hid_t h] at z
      cases z
    | false =>
      rw [hid_f h] at z ⊢
      exact s2 b o z
  refine .grp (lr := lr) (lp := lp) (vs := us) ?_ ?_ ?_ hF.1 ((hF.mono s1).mono s3).2
  · rw [hid_f (nM p np0)]
    exact upd_same
  · rw [hid_f (nM lr nlr)]
    exact s2 _ _ hlr
  · rw [hid_f hM]
    exact s2 _ _ (w1.2 _ _ lpa hp)
end
end Rk
set_option Elab.async false
set_option linter.all false
set_option maxRecDepth 100000
set_option maxHeartbeats 4000000
namespace Rk
open PySem PySem.Spec PyProof.Rows L2 RkO
open Evl (Ev EvT EvA EvL EvU EvO Ex RC RCL SpV SpL)
theorem hid_sub {M N : Addr → Bool} {H : Hp} (h : ∀ b, M b = true → N b = true) : Same (hid N H) (hid M H) := fun b o z => by
  cases hn : N b with
  | true =>
    rw [hid_t hn] at z
    cases z
  | false =>
    rw [hid_f hn] at z
    cases hm : M b with
    | true =>
      rw [h b hm] at hn
      cases hn
    | false =>
      rw [hid_f hm]
      exact z
theorem hid_step {M : Addr → Bool} {H H' : Hp} (h : ∀ b o, M b = false → H b = some o → H' b = some o) : Same (hid M H) (hid M H') := fun b o z => by
  cases hm : M b with
  | true =>
    rw [hid_t hm] at z
    cases z
  | false =>
    rw [hid_f hm] at z ⊢
    exact h b o hm z
theorem hid_wl {M : Addr → Bool} {a : Addr} {H H' : Hp} (ha : M a = true) (w : Wl a H H') : Same (hid M H) (hid M H') := hid_step fun b o hb z => w.2 b o (fun e => by rw [e, ha] at hb; cases hb) z
theorem hid_upd {M : Addr → Bool} {H : Hp} {b : Addr} {o : HO} (h : M b = true) : hid M (upd H b o) = hid M H := by
  funext c
  cases hc : M c with
  | true => rw [hid_t hc, hid_t hc]
  | false =>
    rw [hid_f hc, hid_f hc, upd_ne]
    intro e
    rw [e, h] at hc
    cases hc
/-- all that stands in H -/
def sm (H : Hp) : Addr → Bool := fun b => (H b).isSome
theorem sm_t {H : Hp} {b : Addr} {o : HO} (h : H b = some o) : sm H b = true := by
  show (H b).isSome = true
  rw [h]
  rfl
theorem sm_f {H : Hp} {b : Addr} (h : H b = none) : sm H b = false := by
  show (H b).isSome = false
  rw [h]
  rfl
theorem sm_get {H : Hp} {b : Addr} (h : sm H b = true) : ∃ o, H b = some o := Option.isSome_iff_exists.mp h
/-- and D with it -/
def md (H : Hp) (D : Addr) : Addr → Bool := fun b => sm H b || decide (b = D)
theorem md_D {H : Hp} {D : Addr} : md H D D = true := by
  show (sm H D || decide (D = D)) = true
  rw [decide_eq_true rfl, Bool.or_true]
theorem md_t {H : Hp} {D b : Addr} (h : sm H b = true) : md H D b = true := by
  show (sm H b || decide (b = D)) = true
  rw [h, Bool.true_or]
theorem md_f {H : Hp} {D b : Addr} (h : H b = none) (n : b ≠ D) : md H D b = false := by
  show (sm H b || decide (b = D)) = false
  rw [sm_f h, decide_eq_false n]
  rfl
theorem md_get {H : Hp} {D b : Addr} (h : md H D b = true) : (∃ o, H b = some o) ∨ b = D := by
  rcases Bool.or_eq_true_iff.mp h with h | h
  · exact .inl (sm_get h)
  · exact .inr (of_decide_eq_true h)
section
variable {K : PySem.W.Frag} {σ : L2.St} {H : Hp} {tl : TE} {Q : VK}
/-- [("leaf", name) for name in xs] -/
theorem lc_leaves {ln : Addr} {xs : List Str} {j : Nat} {vs : List Nat} (h : Ev tl σ H (.ref ln)) (hx : SqL K H ln (xs.map V.str)) (hz : xs.length ≤ 40000) (hw : ∀ x, wipe ((wipe σ vs).set j (some x)) vs = wipe σ vs) (hj : ∀ x, ((wipe σ vs).set j (some x))[j]? = some (some x))
    (q : ∀ D us H', H D = none → Same H H' → H' D = some (.lst us) → LF (hid (md H D) H') us (xs.map Tr.leaf) → Q (.ref D) H') : tLc (iList K tl) (gName j) tYes (tTup (tCons (tC (.str "leaf")) (tCons (tVar j) tNil))) vs σ H Q := h H (Ex.refl H) _ fun H1 e1 => ⟨ln, rfl, ⟨_, Evl.ex_l e1 hx⟩, fun Dl hD => by
  have nD := Evl.fresh_back e1 hD
  refine lc_list (xs := xs.map V.str) (fun i H' => Ex H1 H' ∧ ∃ us, us.length = i ∧ H' Dl = some (.lst us) ∧ LF (hid (md H Dl) H') us ((xs.take i).map Tr.leaf)) ⟨Ex.new hD, [], rfl, upd_same, .nil⟩ (fun i H' _ p => Evl.ex_l (e1.trans p.1) hx) (fun i y H' hi p => ?_) (fun H' p => ?_)
  · obtain ⟨p2, us, pl, p3, p4⟩ := p
    rw [List.getElem?_map] at hi
    obtain ⟨x, hxi, rfl⟩ := Option.map_eq_some_iff.mp hi
    have hlt := (List.getElem?_eq_some_iff.mp hxi).1
    refine ⟨hw _, ?_⟩
    refine un_yes <| un_tup ⟨_, hj _, Evl.sz_of (Nat.le_of_ble_eq_true rfl), fun p np => ?_⟩
    have npD : p ≠ Dl := fun z => by rw [z, p3] at np; cases np
    have n0 : H p = none := Evl.fresh_back (e1.trans p2) np
    have mp : md H Dl p = false := md_f n0 npD
    refine ⟨us, by rw [upd_ne npD.symm]; exact p3, Evl.sz_lt (by omega), ?_, us ++ [.ref p], by rw [List.length_append, pl]; rfl, upd_same, ?_⟩
    · intro b o z
      have nb : b ≠ Dl := ne_of_none z hD
      rw [upd_ne nb, upd_ne (ne_of_none (p2 b o z) np)]
      exact p2 b o z
    · rw [hid_upd md_D, List.take_add_one, hxi, List.map_append]
      refine (p4.mono (hid_step fun b o hb z => by rw [upd_ne (ne_of_none z np)]; exact z)).app (.one (.leaf ?_))
      rw [hid_f mp]
      exact upd_same
  · obtain ⟨p2, us, pl, p3, p4⟩ := p
    rw [List.length_map, List.take_length] at p4
    exact q Dl us H' nD (fun b o z => p2 b o (e1 b o z)) p3 p4⟩
end
theorem un_forR {ta : TA} {g : TG} {tu : TS} {D : Ends} {σ : L2.St} {H : Hp} (h : ta σ H fun vs H1 => ∃ j : Int, vs = [.int j] ∧ -(2 ^ 62) ≤ j ∧ j < 2 ^ 62 ∧ tFor (fun _ H R => R (Itr 0 j.toNat) H) g tu D σ H1) : tFor (iRng1 ta) g tu D σ H := h
theorem for_it {j : Nat} {n : Int} {tu : TS} {D : Ends} {σ : L2.St} {H : Hp} (hn : 0 ≤ n) (Pv : Nat → L2.St → Hp → Prop) (h0 : Pv 0 σ H)
    (hs : ∀ (i : Nat) σ' H', (i : Int) < n → Pv i σ' H' → tu { D with nx := Pv (i + 1), ct := Pv (i + 1), bk := D.nx } (σ'.set j (some (.int (i : Int)))) H') (hd : ∀ σ' H', Pv n.toNat σ' H' → D.nx σ' H') : tFor (fun _ H R => R (Itr 0 n.toNat) H) (gName j) tu D σ H :=
  for_range (lo := 0) (n := n.toNat) Pv h0 (fun i σ' H' hi p => by
    have e0 : (0 : Int) + (i : Int) = (i : Int) := Int.zero_add _
    show tu { D with nx := Pv (i + 1), ct := Pv (i + 1), bk := D.nx } (σ'.set j (some (.int ((0 : Int) + (i : Int))))) H'
    rw [e0]
    exact hs i σ' H' (by omega) p) hd
/-- a tree of the law's own, drawn over the names -/
def spTree (a : Addr) (n : Nat) : Sp := fun vs H Q _ => ∃ (ln : Addr) (xs : List Str) (d : Nat), vs = [.ref a, .ref ln, .int (d : Int)] ∧ d < n ∧ d ≤ 10 ∧ Wl a H H ∧ ln ≠ a ∧ H ln = some (.lst (xs.map V.str)) ∧ xs.Nodup ∧ (∀ x ∈ xs, nameOk x = true) ∧ xs ≠ [] ∧ xs.length ≤ 40 ∧
  ∀ v t H', Ok t → t.names = xs → t.depth ≤ d + 1 → Wl a H H' → LAt (hid (sm H) H') v t → Q v H'
theorem sm_wl {a : Addr} {H H1 : Hp} (w : Wl a H H1) {b : Addr} (h : sm H b = true) : sm H1 b = true := by
  by_cases hb : b = a
  · subst hb
    obtain ⟨n, _, g⟩ := w.1
    exact sm_t g
  · obtain ⟨o, ho⟩ := sm_get h
    exact sm_t (w.2 _ _ hb ho)
theorem un_or {t u : TT} {σ : L2.St} {H : Hp} {Q : Bool → Hp → Prop} (h : t σ H fun c H1 => if c = true then Q true H1 else u σ H1 Q) : tOr t u σ H Q := h
theorem seq_if {c : TT} {tu tv : TS} {D : Ends} {σ : L2.St} {H : Hp} {Mid : Hp → Prop} (h : (∀ H1, Mid H1 → tNext { D with nx := tv D } σ H1) → c σ H fun b H1 => if b = true then tu { D with nx := tv D } σ H1 else tNext { D with nx := tv D } σ H1) (h2 : ∀ H1, Mid H1 → tv D σ H1) : tSeq (tIfS c tu tNext) tv D σ H := h h2
theorem ret_leaf {K : PySem.W.Frag} {D : Ends} {σ : L2.St} {H : Hp} {ln : Addr} {x : Str} (h : σ[1]? = some (some (.ref ln))) (hl : H ln = some (.lst [.str x])) (k : ∀ p, H p = none → D.rt (.ref p) (upd H p (.tup [.str "leaf", .str x]))) :
    tRet (tTup (tCons (tC (.str "leaf")) (tCons (tOp (rIxL K) (tVar 1) (tC (.int 0))) tNil))) D σ H :=
  ⟨_, h, ln, _, 0, _, rfl, rfl, SqL.of hl, atI_nat (j := 0) rfl, Evl.sz_of (Nat.le_of_ble_eq_true rfl), k⟩
theorem leaves_names : ∀ xs : List Str, namesL (xs.map Tr.leaf) = xs
  | [] => rfl
  | x :: xs => by
    show [x] ++ namesL (xs.map Tr.leaf) = x :: xs
    rw [leaves_names xs]
    rfl
theorem leaves_depth : ∀ xs : List Str, depthL (xs.map Tr.leaf) = 0
  | [] => rfl
  | x :: xs => by
    show max 0 (depthL (xs.map Tr.leaf)) = 0
    rw [leaves_depth xs]
    rfl
theorem depthL_append : ∀ a b : List Tr, depthL (a ++ b) = max (depthL a) (depthL b)
  | [], b => by
    show depthL b = max 0 (depthL b)
    omega
  | p :: a, b => by
    show max p.depth (depthL (a ++ b)) = max (max p.depth (depthL a)) (depthL b)
    rw [depthL_append a b]
    omega
theorem cut_to (ys : List Str) (k : Nat) : cutV (ys.map V.str) none (some (k : Int)) = (ys.take k).map V.str := by
  unfold cutV
  rw [HT.sIx_none, HT.sIx_nat, List.length_map, Nat.sub_zero, List.drop_zero, ← List.map_take]
  congr 1
  rw [List.take_eq_take_iff]
  omega
theorem cut_from (ys : List Str) (k : Nat) : cutV (ys.map V.str) (some (k : Int)) none = (ys.drop k).map V.str := by
  unfold cutV
  rw [HT.sIx_none, HT.sIx_nat, List.length_map, ← List.map_drop, ← List.map_take]
  congr 1
  by_cases h : k ≤ ys.length
  · rw [Nat.min_eq_left h, List.take_of_length_le]
    rw [List.length_drop]
    exact Nat.le_refl _
  · rw [List.drop_of_length_le (by omega), List.drop_of_length_le (by omega)]
    exact List.take_nil
section
variable {P : Program} {w : World} {K : PySem.W.Frag} {mg : Str → Option Value} {base : Heap}
theorem ok_law_tree (T : Txt K mg) (a : Addr) : ∀ n : Nat, FnOk P w K mg base CX0 (n + 4) T.f_law_tree T.d_law_tree ["well", "names", "depth"] (spTree a n)
  | 0 => fn_no fun vs H Q E h => by
    obtain ⟨_, _, d, _, hd, _⟩ := h
    exact absurd hd (Nat.not_lt_zero d)
  | n + 1 => by
    have G_law_dip := ok_law_dip (P := P) (w := w) (base := base) T
    have G_law_group := ok_law_group (P := P) (w := w) (base := base) T a
    have G_law_tree : FnOk P w K mg base CX0 (n + 4) T.f_law_tree T.d_law_tree ["well", "names", "depth"] (spTree a n) := ok_law_tree T a n
    refine T.F_law_tree.ok sc_law_tree (fun vs H Q E h => ?_) (fun cdv A outer s H vs Q E hr h => ?_)
    · obtain ⟨_, _, d, rfl, _⟩ := h
      rfl
    obtain ⟨ln, xs, d, rfl, hd, hd10, hw, hla, hln, nd, hn, hne, hlen, q⟩ := h
    refine ⟨_, (pss_cons (ps_if (PW.pt (pw_and (pt_cmpR op_eq (pe_callB call_len_seq (by rfl) T.m_len PySem.boot_len (pa_cons (pv 1) pa_nil)) pe_int (nomark _)) (pw_and1 (PW.pt (pw_or (pt_cmpR op_eq (pv 2) pe_int (nomark _)) (pw_or1 (pt_cmpR op_gt (pe_call G_law_dip (hr.mono (by omega)) rfl T.m_law_dip T.F_law_dip.kp T.b_law_dip .nil pass0 (pa_cons (pv 0) (pa_cons pe_int pa_nil))) pe_int (nomark _)))))))) (pss_one (ps_ret (pe_tup (pa_cons pe_str (pa_cons (pe_ix ix_list (pv 1) pe_int (fun _ _ => rfl)) pa_nil))))) pss_nil)
  (pss_cons (ps_if (pt_cmpR op_eq (pv 2) pe_int (nomark _)) (pss_one (ps_ret (pe_call G_law_group (hr.mono (by omega)) rfl T.m_law_group T.F_law_group.kp T.b_law_group .nil pass0 (pa_cons (pv 0) (pa_cons (pe_lc (own := [("name", 7)]) rfl sc_law_tree.nd  (pi_list (pv 1)) (blkOk_by (own := [("name", 7)]) (N := ["well", "names", "depth", "parts", "rest", "turn", "size", "name"]) (sc := defScope s_law_tree) (by decide +kernel)) (fun _ _ _ _ _ => (pg_name (i := 7) sc_law_tree.nd rfl (.inl rfl))) (fun _ _ _ _ _ => pts_nil) (fun _ _ _ _ _ => (pe_tup (pa_cons pe_str (pa_cons (pv 7) pa_nil))))) pa_nil))))) pss_nil)
  (pss_cons (ps_set (i := 3) sc_law_tree.nd rfl (Or.inl rfl) (pe_lst pa_nil))
  (pss_cons (ps_set (i := 4) sc_law_tree.nd rfl (Or.inl rfl) (pv 1))
  (pss_cons (ps_for PassesOwn.never rfl (pi_range1 rfl T.m_range (pa_cons (pe_op op_add pe_int (pe_call G_law_dip (hr.mono (by omega)) rfl T.m_law_dip T.F_law_dip.kp T.b_law_dip .nil pass0 (pa_cons (pv 0) (pa_cons pe_int pa_nil)))) pa_nil)) (pg_name (i := 5) sc_law_tree.nd rfl (.inl rfl))
    (pss_one (ps_if (pt_cmpR (op_neD hr.units) (pv 4) (pe_lst pa_nil) (nomark _)) (pss_cons (ps_set (i := 6) sc_law_tree.nd rfl (Or.inl rfl) (pe_op op_add pe_int (pe_call G_law_dip (hr.mono (by omega)) rfl T.m_law_dip T.F_law_dip.kp T.b_law_dip .nil pass0 (pa_cons (pv 0) (pa_cons (pe_callB call_len_seq (by rfl) T.m_len PySem.boot_len (pa_cons (pv 4) pa_nil)) pa_nil)))))
      (pss_cons (ps_expr (pe_bm PySem.F.plainAttrs_list PySem.F.slot_list_append PySem.F.type_list_append mt_append (pv 3) (pa_cons (pe_call G_law_tree (hr.mono (by omega)) rfl T.m_law_tree T.F_law_tree.kp T.b_law_tree .nil pass0 (pa_cons (pv 0) (pa_cons (pe_slice sl_list (pv 4) po_none (po_some (pv 6))) (pa_cons (pe_op op_sub (pv 2) pe_int) pa_nil)))) pa_nil)))
      (pss_one (ps_set (i := 4) sc_law_tree.nd rfl (Or.inl rfl) (pe_slice sl_list (pv 4) (po_some (pv 6)) po_none))))) pss_nil)))
  (pss_one (ps_ret (pe_call G_law_group (hr.mono (by omega)) rfl T.m_law_group T.F_law_group.kp T.b_law_group .nil pass0 (pa_cons (pv 0) (pa_cons (pe_op op_cat (pv 3) (pe_lc (own := [("name", 7)]) rfl sc_law_tree.nd  (pi_list (pv 4)) (blkOk_by (own := [("name", 7)]) (N := ["well", "names", "depth", "parts", "rest", "turn", "size", "name"]) (sc := defScope s_law_tree) (by decide +kernel)) (fun _ _ _ _ _ => (pg_name (i := 7) sc_law_tree.nd rfl (.inl rfl))) (fun _ _ _ _ _ => pts_nil) (fun _ _ _ _ _ => (pe_tup (pa_cons pe_str (pa_cons (pv 7) pa_nil)))))) pa_nil)))))))))), ?_⟩
    have hsm : ∀ {H1 : Hp}, Wl a H H1 → ∀ b, sm H b = true → sm H1 b = true := fun w1 b hb => sm_wl w1 hb
    have hma : sm H a = true := hw.1.elim fun n h => sm_t h.2
    have hlen1 : 1 ≤ xs.length := List.length_pos_iff.mpr hne
    have leaf : ∀ (x : Str) H1 p, xs = [x] → Wl a H H1 → H1 p = none → Q (.ref p) (upd H1 p (.tup [.str "leaf", .str x])) := fun x H1 p ex w1 np => by
      refine q _ (.leaf x) _ (.leaf (hn x (by rw [ex]; exact List.mem_cons_self))) ex.symm (Nat.zero_le _) (w1.same (same_new np _)) (.leaf ?_)
      rw [hid_f (sm_f (w1.fresh np))]
      exact upd_same
    refine seq_if (Mid := fun H1 => Wl a H H1) (fun rest => ?_) (fun H1 w1 => ?_)
    · refine un_and <| un_test ⟨_, rfl, ln, _, rfl, .inl (SqL.of hln), rfl, _, rfl, ?_⟩
      refine ifD (fun e1 => ?_) (fun _ => iteF (rest H hw))
      have e1 : xs.length = 1 := by
        have := V.int.inj e1
        rw [List.length_map] at this
        omega
      obtain ⟨x, ex⟩ := List.length_eq_one_iff.mp e1
      have hx : ∀ {H1 : Hp}, Wl a H H1 → H1 ln = some (.lst [.str x]) := fun w1 => by
        have := w1.2 _ _ hla hln
        rw [ex] at this
        exact this
      refine un_or <| un_test ⟨_, rfl, rfl, _, rfl, ?_⟩
      refine ifD (fun _ => iteT (ret_leaf (ln := ln) rfl (hx hw) fun p np => leaf x H p ex hw np)) (fun _ => ?_)
      refine un_test <| un_op <| call_dip (a := a) rfl hw (fun R r => r) (by decide) fun dd H1 _ _ w1 => ⟨_, _, rfl, rfl, _, rfl, ?_⟩
      exact ifD (fun _ => ret_leaf (ln := ln) rfl (hx w1) fun p np => leaf x H1 p ex w1 np) (fun _ => rest H1 w1)
    dsimp only
    have hln1 := w1.2 _ _ hla hln
    refine seq_if (Mid := fun H2 => H2 = H1 ∧ d ≠ 0) (fun rest => ?_) (fun H2 hH2 => ?_)
    · refine un_test ⟨_, rfl, rfl, _, rfl, ?_⟩
      refine ifD (fun _ => ?_) (fun e => rest H1 ⟨rfl, fun z => e (by rw [z]; rfl)⟩)
      refine un_ret ⟨_, rfl, un_cons <| lc_leaves (Evl.ev_var rfl) (SqL.of hln1) (by omega) (fun x => rfl) (fun x => rfl) fun D us H2 nD s2 hD hF => ?_⟩
      have W2 := w1.same s2
      refine ⟨D, us, _, sm H, rfl, W2.r, hD, sm_f (w1.fresh nD), hma, fun b hb e => ?_, hF.mono (hid_sub fun b hb => md_t (hsm w1 b hb)), fun t ht => ?_, ?_, ?_, ?_, fun p H3 rs w3 hok hl => ?_⟩
      · obtain ⟨o, ho⟩ := sm_get (hsm W2 b hb)
        rw [ho] at e
        cases e
      · obtain ⟨x, hx, rfl⟩ := List.mem_map.mp ht
        exact .leaf (hn x hx)
      · rw [leaves_names]
        exact nd
      · exact fun z => hne (List.map_eq_nil_iff.mp z)
      · rw [leaves_names]
        omega
      · refine q _ _ _ hok (leaves_names xs) ?_ (W2.trans w3) hl
        show depthL (xs.map Tr.leaf) + 1 ≤ d + 1
        rw [leaves_depth]
        omega
    obtain ⟨rfl, hd0⟩ := hH2
    refine Evl.q_asgL (Evl.el_lst Evl.ea_nil (by decide)) fun f H3 nf e3 h3 => ?_
    have nf0 := w1.fresh nf
    have fa := w1.ne nf
    have lnf : ln ≠ f := ne_of_none hln nf0
    have w3 := w1.same e3
    refine sq_asg ⟨_, rfl, ?_⟩
    refine un_seq <| un_forR <| un_cons <| un_op <| un_c <| call_dip (a := a) rfl w3.r (fun R r => r) (by decide) fun dd H4 d0 d4 w4 => ⟨_, _, rfl, rfl, _, rfl, by omega, by omega, ?_⟩
    have W4 := w3.trans w4
    refine for_it (by omega) (fun i σ' H' => ∃ (us : List V) (ts : List Tr) (lr : Addr) (ys : List Str) (tt ss : Option V), σ' = [some (.ref a), some (.ref ln), some (.int d), some (.ref f), some (.ref lr), tt, ss, none] ∧ H' f = some (.lst us) ∧ LF (hid (md H f) H') us ts ∧ (∀ t ∈ ts, Ok t) ∧ depthL ts ≤ d ∧ lr ≠ a ∧ lr ≠ f ∧ H' lr = some (.lst (ys.map V.str)) ∧ namesL ts ++ ys = xs ∧ us.length ≤ i ∧ Wl a H H')
      ⟨[], [], ln, xs, none, none, rfl, w4.2 _ _ fa h3, .nil, fun t h => absurd h List.not_mem_nil, Nat.zero_le _, hla, lnf, W4.2 _ _ hla hln, rfl, Nat.le_refl _, W4⟩ (fun i σ' H5 hi p => ?_) (fun σ' H5 p => ?_)
    · obtain ⟨us, ts, lr, ys, tt, ss, rfl, hf, hF, hok, hdp, la, lf, hr', hxs, hul, W5⟩ := p
      have hy : ∀ y ∈ ys, nameOk y = true := fun y h => hn y (by rw [← hxs]; exact List.mem_append_right _ h)
      have nfH : H f = none := nf0
      refine un_ifS <| un_test ⟨_, rfl, ?_⟩
      refine Evl.el_lst (vs := []) Evl.ea_nil (by decide) H5 (Ex.refl _) _ fun l6 H6 n6 e6 h6 => ?_
      have W6 := W5.same e6
      refine ⟨_, _, .lst (SqL.of (e6 _ _ hr')) (dp_strs ys), .lst (SqL.of h6) .nil, shaped_strs hy, rfl, _, rfl, ?_⟩
      rw [eqv_strs_nil]
      have hF6 := hF.mono (hid_step (M := md H f) fun b o _ z => e6 b o z)
      refine ifN (fun hne' => ?_) (fun _ => nxt ⟨us, ts, lr, ys, _, _, rfl, e6 _ _ hf, hF6, hok, hdp, la, lf, e6 _ _ hr', hxs, by omega, W6⟩)
      have hyl : 1 ≤ ys.length := List.length_pos_iff.mpr hne'
      have hys : ys.length ≤ 40 := by
        have := congrArg List.length hxs
        rw [List.length_append] at this
        omega
      refine sq_asg <| un_op <| un_c <| call_dip (a := a) (m := ((ys.map V.str).length : Nat)) rfl W6.r (fun R r => ⟨_, rfl, lr, _, rfl, .inl (SqL.of (e6 _ _ hr')), r⟩) ⟨by rw [List.length_map]; omega, Int.le_trans (b := 40) (by rw [List.length_map]; omega) (by decide)⟩ fun dd H7 d0 d1 w7 => ⟨_, _, rfl, rfl, ?_⟩
      rw [List.length_map] at d1
      obtain ⟨k, hk⟩ : ∃ k : Nat, 1 + dd = (k : Int) := ⟨(1 + dd).toNat, by omega⟩
      dsimp only [List.set]
      rw [hk]
      have W7 := W6.trans w7
      have hf7 := w7.2 _ _ fa (e6 _ _ hf)
      have hr7 := w7.2 _ _ la (e6 _ _ hr')
      have hF7 := hF6.mono (hid_wl (M := md H f) (md_t hma) w7)
      refine un_seq ⟨_, rfl, .inl ⟨rfl, us, Evl.sq_of hf7⟩, ?_⟩
      refine un_cons ⟨_, rfl, un_cons ⟨_, rfl, _, rfl, _, rfl, lr, _, rfl, SqL.of hr7, fun l8 n8 => un_cons ⟨_, rfl, _, _, rfl, rfl, ?_⟩⟩⟩
      rw [cut_to]
      have s8 := same_new n8 (.lst ((ys.take k).map V.str))
      have h8 : (upd H7 l8 (.lst ((ys.take k).map V.str))) l8 = some (.lst ((ys.take k).map V.str)) := upd_same
      generalize upd H7 l8 (.lst ((ys.take k).map V.str)) = H8 at s8 h8 ⊢
      have W8 := W7.same s8
      have lk : (ys.take k).length = k := by
        rw [List.length_take]
        omega
      have ndy : ys.Nodup := by
        rw [← hxs] at nd
        exact (List.nodup_append.mp nd).2.1
      refine ⟨l8, ys.take k, d - 1, by rw [Int.ofNat_sub (by omega)]; rfl, by omega, by omega, W8.r, W7.ne n8, h8, ndy.sublist (List.take_sublist k ys), fun y h => hy y (List.mem_of_mem_take h), fun z => by rw [z] at lk; have : (0 : Nat) = k := lk; omega, by omega, fun v t H9 okt nt dt w9 hlt => ?_⟩
      have hf9 := w9.2 _ _ fa (s8 _ _ hf7)
      have hr9 := w9.2 _ _ la (s8 _ _ hr7)
      have W9 := W8.trans w9
      refine ⟨f, us, v, rfl, rfl, hf9, Evl.sz_lt (by omega), ?_⟩
      have hF9 := ((hF7.mono (hid_step (M := md H f) fun b o _ z => s8 b o z)).mono (hid_wl (M := md H f) (md_t hma) w9)).app (.one (hlt.mono (hid_sub (M := md H f) fun b hb => ?_)))
      · dsimp only
        refine un_asg ?_
        refine ⟨_, rfl, _, rfl, _, rfl, lr, _, rfl, SqL.of ((upd_ne lf).trans hr9), fun l10 n10 => ?_⟩
        rw [cut_from]
        have nl10 : l10 ≠ f := fun z => by rw [z, upd_same] at n10; cases n10
        have n10' : H9 l10 = none := by rw [← n10, upd_ne nl10]
        refine ⟨us ++ [v], ts ++ [t], l10, ys.drop k, _, _, rfl, by rw [upd_ne nl10.symm]; exact upd_same, ?_, fun u hu => ?_, ?_, W9.ne n10', nl10, upd_same, ?_, by rw [List.length_append]; exact Nat.succ_le_succ hul, (W9.mut fa nf0).mut (W9.ne n10') (W9.fresh n10')⟩
        · refine hF9.mono (hid_step fun b o hb z => ?_)
          have nb : b ≠ f := fun e => by rw [e, md_D] at hb; cases hb
          rw [upd_ne (ne_of_none z n10'), upd_ne nb]
          exact z
        · rcases List.mem_append.mp hu with h | h
          · exact hok u h
          · rw [List.mem_singleton.mp h]
            exact okt
        · rw [depthL_append]
          have : depthL [t] = t.depth := Nat.max_eq_left (Nat.zero_le _)
          omega
        · rw [namesL_append, show namesL [t] = t.names from List.append_nil _, nt, List.append_assoc, List.take_append_drop]
          exact hxs
      · rcases md_get hb with ⟨o, ho⟩ | rfl
        · exact sm_wl W8 (sm_t ho)
        · exact sm_t (s8 _ _ hf7)
    obtain ⟨us, ts, lr, ys, tt, ss, rfl, hf, hF, hok, hdp, la, lf, hr', hxs, hul, W5⟩ := p
    have hy : ∀ y ∈ ys, nameOk y = true := fun y h => hn y (by rw [← hxs]; exact List.mem_append_right _ h)
    have hys : (namesL ts).length + ys.length = xs.length := by
      have := congrArg List.length hxs
      rw [List.length_append] at this
      exact this
    have htl := parts_le hok
    dsimp only
    refine un_ret ?_
    refine ⟨_, rfl, un_cons <| un_op ⟨_, rfl, lc_leaves (Evl.ev_var rfl) (SqL.of hr') (by omega) (fun x => rfl) (fun x => rfl) fun D us2 H6 nD s6 hD hF2 => ?_⟩⟩
    refine ⟨f, D, us, us2, rfl, rfl, s6 _ _ hf, hD, Evl.sz_of ?_, fun lq nq => ?_⟩
    · rw [hF.1, hF2.1, List.length_map]
      omega
    have W6 := W5.same s6
    have s7 := same_new nq (.lst (us ++ us2))
    have h7 : (upd H6 lq (.lst (us ++ us2))) lq = some (.lst (us ++ us2)) := upd_same
    generalize upd H6 lq (.lst (us ++ us2)) = H7 at s7 h7 ⊢
    have W7 := W6.same s7
    have nq0 := W6.fresh nq
    have enames : namesL (ts ++ ys.map Tr.leaf) = xs := by rw [namesL_append, leaves_names, hxs]
    refine ⟨lq, us ++ us2, ts ++ ys.map Tr.leaf, md H f, rfl, W7.r, h7, md_f nq0 (fun z => by rw [z, s6 _ _ hf] at nq; cases nq), md_t hma, fun b hb e => ?_, ?_, fun t ht => ?_, ?_, ?_, ?_, fun p H8 rs w8 hok8 hl8 => ?_⟩
    · rcases md_get hb with ⟨o, ho⟩ | rfl
      · obtain ⟨o, ho⟩ := sm_get (sm_wl W7 (sm_t ho))
        rw [ho] at e
        cases e
      · rw [s7 _ _ (s6 _ _ hf)] at e
        cases e
    · refine ((hF.mono (hid_step fun b o _ z => s6 b o z)).app (hF2.mono (hid_sub fun b hb => ?_))).mono (hid_step fun b o _ z => s7 b o z)
      rcases md_get hb with ⟨o, ho⟩ | rfl
      · exact md_t (sm_wl W5 (sm_t ho))
      · exact md_t (sm_t hf)
    · rcases List.mem_append.mp ht with h | h
      · exact hok t h
      · obtain ⟨x, hx, rfl⟩ := List.mem_map.mp h
        exact .leaf (hy x hx)
    · rw [enames]
      exact nd
    · intro z
      rw [z] at enames
      exact hne enames.symm
    · rw [enames]
      omega
    · refine q _ _ _ hok8 enames ?_ (W7.trans w8) (hl8.mono (hid_sub fun b hb => md_t hb))
      show depthL (ts ++ ys.map Tr.leaf) + 1 ≤ d + 1
      rw [depthL_append, leaves_depth]
      omega
end
end Rk
set_option Elab.async false
set_option linter.all false
set_option maxRecDepth 100000
set_option maxHeartbeats 4000000
namespace Rk
open PySem PySem.Spec PyProof.Rows L2 RkO
open Evl (Ev EvT EvA EvL EvU EvO Ex RC RCL SpV SpL)
/-- a list of values that stand in R to trees -/
def GF (R : Hp → V → Tr → Prop) (H : Hp) (vs : List V) (ts : List Tr) : Prop := vs.length = ts.length ∧ ∀ (i : Nat) v t, vs[i]? = some v → ts[i]? = some t → R H v t
def MonR (R : Hp → V → Tr → Prop) : Prop := ∀ H H' v t, R H v t → Same H H' → R H' v t
theorem GF.mono {R : Hp → V → Tr → Prop} (m : MonR R) {H H' : Hp} {vs : List V} {ts : List Tr} (h : GF R H vs ts) (e : Same H H') : GF R H' vs ts := ⟨h.1, fun i v t a b => m _ _ _ _ (h.2 i v t a b) e⟩
theorem GF.nil {R : Hp → V → Tr → Prop} {H : Hp} : GF R H [] [] := ⟨rfl, fun i v t a _ => by simp at a⟩
theorem GF.snoc {R : Hp → V → Tr → Prop} {H : Hp} {vs : List V} {ts : List Tr} {v : V} {t : Tr} (h : GF R H vs ts) (g : R H v t) : GF R H (vs ++ [v]) (ts ++ [t]) := by
  have h1 := h.1
  refine ⟨by rw [List.length_append, List.length_append, h1]; rfl, fun i u s a b => ?_⟩
  by_cases hi : i < vs.length
  · rw [List.getElem?_append_left hi] at a
    rw [List.getElem?_append_left (by omega)] at b
    exact h.2 i u s a b
  · rw [List.getElem?_append_right (by omega)] at a
    rw [List.getElem?_append_right (by omega), ← h1] at b
    revert a b
    cases i - vs.length with
    | zero =>
      intro a b
      cases a
      cases b
      exact g
    | succ k =>
      intro a
      cases a
theorem GF.mem {R : Hp → V → Tr → Prop} {H : Hp} {vs : List V} {ts : List Tr} (h : GF R H vs ts) {i : Nat} {v : V} (e : vs[i]? = some v) : ∃ t, ts[i]? = some t ∧ R H v t := by
  have hi := (List.getElem?_eq_some_iff.mp e).1
  have hi2 : i < ts.length := by rw [← h.1]; exact hi
  exact ⟨ts[i], List.getElem?_eq_getElem hi2, h.2 i v _ e (List.getElem?_eq_getElem hi2)⟩
theorem lat_mon : MonR LAt := fun _ _ _ _ h e => h.mono e
theorem tat_mon {cL cG : Addr} : MonR (TAt cL cG) := fun _ _ _ _ h e => h.mono e
theorem names_part {ps : List Tr} {t : Tr} (hm : t ∈ ps) : t.names.length ≤ (namesL ps).length := by
  obtain ⟨a, b, rfl⟩ := List.append_of_mem hm
  rw [namesL_append, List.length_append]
  show t.names.length ≤ (namesL a).length + (t.names ++ namesL b).length
  rw [List.length_append]
  omega
/-- a comprehension that makes trees out of trees -/
theorem tl_gen {K : PySem.W.Frag} {A B : Hp → V → Tr → Prop} (mA : MonR A) (mB : MonR B) {σ : L2.St} {H : Hp} {tl te : TE} {a : Addr} {us : List V} {ts : List Tr} {f : Tr → Tr} {j : Nat} {vs : List Nat} (h : Ev tl σ H (.ref a)) (hx : SqL K H a us) (hF : GF A H us ts) (hz : ts.length ≤ 40000) (hw : ∀ x, wipe ((wipe σ vs).set j (some x)) vs = wipe σ vs)
    (he : ∀ v t M H1 (Q : VK), Hides M H1 → t ∈ ts → Same H (hid M H1) → A (hid M H1) v t → (∀ v' H', Same (hid M H1) H' → (∀ b, M b = true → H' b = none) → B H' v' (f t) → Q v' (put M H1 H')) → te ((wipe σ vs).set j (some v)) H1 Q)
    {Q : VK} (q : ∀ p us' H', H p = none → Same H H' → H' p = some (.lst us') → GF B (hid (one p) H') us' (ts.map f) → Q (.ref p) H') : tLc (iList K tl) (gName j) tYes te vs σ H Q := h H (Ex.refl H) _ fun H1 e1 => ⟨a, rfl, ⟨_, Evl.ex_l e1 hx⟩, fun Dl hD =>
  lc_list (xs := us) (fun i H' => Ex H1 H' ∧ ∃ us', us'.length = i ∧ H' Dl = some (.lst us') ∧ GF B (hid (one Dl) H') us' ((ts.take i).map f)) ⟨Ex.new hD, [], rfl, upd_same, .nil⟩ (fun i H' _ p => Evl.ex_l (e1.trans p.1) hx) (fun i y H' hi p => by
    obtain ⟨p2, us', pl, p3, p4⟩ := p
    obtain ⟨t, hti, ht⟩ := hF.mem hi
    have nD : H Dl = none := Evl.fresh_back e1 hD
    have up : Same H (hid (one Dl) H') := hid_same (fun b o z => p2 b o (e1 b o z)) fun b hb => by
      rw [of_decide_eq_true hb]
      exact nD
    have hlt := (List.getElem?_eq_some_iff.mp hti).1
    refine ⟨hw _, he y t (one Dl) H' _ (fun b hb => .inl ⟨us', by rw [of_decide_eq_true hb]; exact p3⟩) (List.mem_of_getElem? hti) up (mA _ _ _ _ ht up) fun v' H'' s2 gone w => ⟨us', (put_t (decide_eq_true rfl)).trans p3, Evl.sz_lt (by omega), ?_, us' ++ [v'], by rw [List.length_append, pl]; rfl, upd_same, ?_⟩⟩
    · intro b o z
      have nb : b ≠ Dl := ne_of_none z hD
      rw [upd_ne nb, put_f (decide_eq_false nb)]
      exact s2 b o (by rw [hid_one nb]; exact p2 b o z)
    · rw [hid_back (gone Dl (decide_eq_true rfl)), List.take_add_one, hti, List.map_append]
      exact (p4.mono mB s2).snoc w) (fun H' p => by
    obtain ⟨p2, us', pl, p3, p4⟩ := p
    rw [hF.1, List.take_length] at p4
    exact q Dl us' H' (Evl.fresh_back e1 hD) (fun b o z => p2 b o (e1 b o z)) p3 p4)⟩
section
variable {K : PySem.W.Frag} {σ : L2.St} {H : Hp} {te : TE}
/-- over a new list -/
theorem el_lcMN {α : Type} {xs : List α} {g f : α → V} {tl : TE} {j : Nat} {vs : List Nat} (h : EvL tl σ H (xs.map g)) (hz : xs.length ≤ 40000) (hw : ∀ x, wipe ((wipe σ vs).set j (some x)) vs = wipe σ vs)
    (he : ∀ (x : α) H1, Ex H H1 → x ∈ xs → Ev te ((wipe σ vs).set j (some (g x))) H1 (f x)) : EvL (tLc (iList K tl) (gName j) tYes te vs) σ H (xs.map f) := fun H0 e Q q => h H0 e _ fun a H1 na e1 ha => ⟨a, rfl, ⟨_, SqL.of ha⟩, fun Dl hD =>
  lc_list (xs := xs.map g) (fun i H' => H1 Dl = none ∧ Ex H1 H' ∧ H' Dl = some (.lst ((xs.take i).map f))) ⟨hD, Ex.new hD, upd_same⟩ (fun i H' _ p => SqL.of (p.2.1 _ _ ha)) (fun i y H' hi p => by
    obtain ⟨p1, p2, p3⟩ := p
    rw [List.getElem?_map] at hi
    obtain ⟨x, hxi, rfl⟩ := Option.map_eq_some_iff.mp hi
    refine ⟨hw _, ?_⟩
    refine he x H1 (e.trans e1) (List.mem_of_getElem? hxi) H' p2 _ fun H4 e4 => ⟨_, e4 _ _ p3, ?_, p1, Ex.mut (p2.trans e4) p1, ?_⟩
    · rw [List.length_map, List.length_take]
      exact Evl.sz_lt (by omega)
    · rw [upd_same, List.take_add_one, hxi, List.map_append]
      rfl) (fun H' p => q Dl H' (Evl.fresh_back e1 p.1) (e1.trans p.2.1) (by
    have := p.2.2
    rwa [List.length_map, List.take_length] at this))⟩
end
section
variable {P : Program} {w : World} {K : PySem.W.Frag} {mg : Str → Option Value} {base : Heap}
/-! ### _law_made -/
def spMade (cL cG : Addr) (n : Nat) : Sp := fun vs H Q _ => ∃ (v : V) (t : Tr), vs = [v] ∧ t.depth < n ∧ LAt H v t ∧ Ok t ∧ t.names.length ≤ 60 ∧ ∀ v' H', Same H H' → TAt cL cG H' v' t → Q v' H'
theorem ok_law_made (T : Txt K mg) : ∀ n : Nat, FnOk P w K mg base CX0 (n + 5) T.f_law_made T.d_law_made ["tree"] (spMade T.a_Leaf T.a_Group n)
  | 0 => fn_no fun vs H Q E h => by
    obtain ⟨_, t, _, hd, _⟩ := h
    exact absurd hd (Nat.not_lt_zero _)
  | n + 1 => by
    have G_Leaf_init := ok_Leaf_init (P := P) (w := w) (base := base) T
    have G_Group_init : FnOk P w K mg base CX0 4 T.f_Group_init T.d_Group_init ["self", "ranks", "parts"] (spGroupInit K T.a_Leaf T.a_Group) := ok_Group_init T
    have G_law_made := RkO.FnOk.frame (ok_law_made T n)
    refine T.F_law_made.ok sc_law_made (fun vs H Q E h => ?_) (fun cdv A outer s H vs Q E hr h => ?_)
    · obtain ⟨v, t, rfl, _⟩ := h
      rfl
    obtain ⟨v, t, rfl, hd, ht, hok, hl, q⟩ := h
    refine ⟨_, (pss_cons (ps_if (pt_cmpR op_eq (pe_ix ix_tup (pv 0) pe_int (fun _ _ => rfl)) pe_str (nomark _)) (pss_one (ps_ret (pe_make T.M_Leaf G_Leaf_init (hr.mono (by omega)) rfl T.m_Leaf T.b_Leaf_init .nil pass0 (pa_cons (pe_ix ix_tup (pv 0) pe_int (fun _ _ => rfl)) pa_nil)))) pss_nil)
  (pss_one (ps_ret (pe_make T.M_Group G_Group_init (hr.mono (by omega)) rfl T.m_Group T.b_Group_init .nil pass0 (pa_cons (pe_callTy call_list_of (by rfl) T.m_list (by decide +kernel) (pa_cons (pe_ix ix_tup (pv 0) pe_int (fun _ _ => rfl)) pa_nil)) (pa_cons (pe_lc (own := [("part", 1)]) rfl sc_law_made.nd  (pi_list (pe_ix ix_tup (pv 0) pe_int (fun _ _ => rfl))) (blkOk_by (own := [("part", 1)]) (N := ["tree", "part"]) (sc := defScope s_law_made) (by decide +kernel)) (fun _ _ _ _ _ => (pg_name (i := 1) sc_law_made.nd rfl (.inl rfl))) (fun _ _ _ _ _ => pts_nil) (fun _ _ _ _ _ => (pe_call G_law_made (hr.mono (by omega)) rfl T.m_law_made T.F_law_made.kp T.b_law_made .nil pass0 (pa_cons (pv 1) pa_nil)))) pa_nil)))))), ?_⟩
    cases ht with
    | @leaf p x h =>
      have hx : nameOk x = true := by
        cases hok
        assumption
      refine un_seq <| un_ifS <| un_test ⟨_, rfl, _, _, _, _, rfl, rfl, Evl.st_of h, atI_nat (j := 0) rfl, rfl, _, rfl, ?_⟩
      rw [decide_eq_true rfl]
      refine iteT (un_ret ?_)
      refine ⟨_, rfl, _, _, _, _, rfl, rfl, Evl.st_of h, atI_nat (j := 1) rfl, ?_⟩
      intro y dy ny ndy ne
      have := (name_letters hx).2.1
      refine ⟨y, dy, x, rfl, upd_same, hx, by omega, fun H' k hp => ⟨rfl, ?_⟩⟩
      have g := mk_leaf (cG := T.a_Group) ny ndy k hp
      exact q _ H' g.1 g.2
    | @grp p lr lp rs ps us h1 h2 h3 hvl hf =>
      have hF : GF LAt H us ps := ⟨hvl, hf⟩
      have oks : ∀ t ∈ ps, Ok t := by
        cases hok with
        | grp h1 _ _ _ h5 h6 => exact h1
      have hd : depthL ps + 1 < n + 1 := hd
      have hl : (namesL ps).length ≤ 60 := hl
      have hpl := parts_le oks
      refine un_seq <| un_ifS <| un_test ⟨_, rfl, _, _, _, _, rfl, rfl, Evl.st_of h1, atI_nat (j := 0) rfl, rfl, _, rfl, ?_⟩
      rw [decide_eq_false (by decide +kernel)]
      refine iteF (nxt ?_)
      dsimp only
      refine un_ret ?_
      refine ⟨_, rfl, _, _, _, _, rfl, rfl, Evl.st_of h1, atI_nat (j := 1) rfl, _, _, rfl, .inl (SqL.of h2), fun l2 n2 => ?_⟩
      have s2 : Same H (upd H l2 (.lst (rs.map V.int))) := same_new n2 _
      have hl2 : (upd H l2 (.lst (rs.map V.int))) l2 = some (.lst (rs.map V.int)) := upd_same
      generalize upd H l2 (.lst (rs.map V.int)) = H2 at s2 hl2 ⊢
      refine un_cons <| tl_gen (f := id) lat_mon tat_mon (A := LAt) (B := TAt T.a_Leaf T.a_Group) ?_ (SqL.of (s2 _ _ h3)) (hF.mono lat_mon s2) (by omega) (fun x => rfl) (fun v t M H3 Q hM hm s3 ht q => ?_) (fun z3 us' H3 nz3 s3 hz3 hF3 => ?_)
      · exact fun H3 e3 Q3 q3 => ⟨_, rfl, _, _, _, _, rfl, rfl, Evl.st_of (e3 _ _ (s2 _ _ h1)), atI_nat (j := 2) rfl, q3 _ (Ex.refl _)⟩
      · have hdp := depth_mem hm
        refine ⟨_, rfl, M, hM, v, t, rfl, by omega, ht, oks t hm, Nat.le_trans (names_part hm) hl, fun v' H' s' w gone => q v' H' s' gone w⟩
      · intro x dy nx ndy ne
        have ms := made_same (cG := T.a_Group) nx ndy
        rw [List.map_id] at hF3
        have hF4 : FAt T.a_Leaf T.a_Group H3 us' ps := hF3.mono tat_mon hid_le
        refine ⟨x, dy, l2, z3, _, us', ps, rfl, upd_same, SqL.of (ms _ _ (s3 _ _ hl2)), ty_list (SqL.of (K := K) (ms _ _ (s3 _ _ hl2))), SqL.of (ms _ _ hz3), ty_list (SqL.of (K := K) (ms _ _ hz3)), hF4.mono ms, hok, by omega, fun H' k w => ⟨rfl, q _ H' ?_ w⟩⟩
        exact (s2.trans s3).trans (mk_same nx ndy k)
end
end Rk
set_option Elab.async false
set_option linter.all false
set_option maxRecDepth 100000
set_option maxHeartbeats 4000000
namespace Rk
open PySem PySem.Spec PyProof.Rows L2 RkO
open Evl (Ev EvT EvA EvL EvU EvO Ex RC RCL SpV SpL)
section
variable {P : Program} {w : World} {K : PySem.W.Frag} {mg : Str → Option Value} {base : Heap}
def spPName (cL cG : Addr) : Sp := fun vs H Q _ => ∃ (v : V) (x : Str), vs = [v] ∧ TAt cL cG H v (.leaf x) ∧ Q (.str x) H
theorem ok_Leaf_name (T : Txt K mg) : FnOk P w K mg base CX0 1 T.f_Leaf_name T.d_Leaf_name ["self"] (spPName T.a_Leaf T.a_Group) := by
  refine T.F_Leaf_name.ok sc_Leaf_name (fun vs H Q E h => ?_) (fun cdv A outer s H vs Q E hr h => ?_)
  · obtain ⟨_, _, rfl, _⟩ := h
    rfl
  obtain ⟨v, x, rfl, ht, q⟩ := h
  refine ⟨_, (pss_one (ps_ret (pe_fld (pv 0) rfl))), ?_⟩
  cases ht with
  | @leaf p dx x h => exact ⟨_, rfl, p, _, dx, _, _, rfl, h, T.c_Leaf, T.n_Leaf_name, lf_name, q⟩
def spPParts (cL cG : Addr) : Sp := fun vs H Q _ => ∃ (v : V) (rs : List Int) (ps : List Tr), vs = [v] ∧ TAt cL cG H v (.grp rs ps) ∧ ps.length ≤ 1000 ∧ ∀ us z H', H z = none → Same H H' → H' z = some (.lst us) → FAt cL cG H us ps → Q (.ref z) H'
theorem ok_Group_parts (T : Txt K mg) : FnOk P w K mg base CX0 1 T.f_Group_parts T.d_Group_parts ["self"] (spPParts T.a_Leaf T.a_Group) := by
  refine T.F_Group_parts.ok sc_Group_parts (fun vs H Q E h => ?_) (fun cdv A outer s H vs Q E hr h => ?_)
  · obtain ⟨_, _, _, rfl, _⟩ := h
    rfl
  obtain ⟨v, rs, ps, rfl, ht, hz, q⟩ := h
  refine ⟨_, (pss_one (ps_ret (pe_callTy call_list_of (by rfl) T.m_list (by decide +kernel) (pa_cons (pe_fld (pv 0) rfl) pa_nil)))), ?_⟩
  cases ht with
  | @grp p dx lr lp ln rs ps us h1 h2 h3 h4 hl hf => exact ⟨_, rfl, p, _, dx, _, _, rfl, h1, T.c_Group, T.n_Group_parts, gf_parts, _, _, rfl, .inl (SqL.of h3), fun z nz => q us z _ nz (same_new nz _) upd_same ⟨hl, hf⟩⟩
def spPRanks (cL cG : Addr) : Sp := fun vs H Q _ => ∃ (v : V) (rs : List Int) (ps : List Tr), vs = [v] ∧ TAt cL cG H v (.grp rs ps) ∧ ∀ z H', H z = none → Same H H' → H' z = some (.lst (rs.map V.int)) → Q (.ref z) H'
theorem ok_Group_ranks (T : Txt K mg) : FnOk P w K mg base CX0 1 T.f_Group_ranks T.d_Group_ranks ["self"] (spPRanks T.a_Leaf T.a_Group) := by
  refine T.F_Group_ranks.ok sc_Group_ranks (fun vs H Q E h => ?_) (fun cdv A outer s H vs Q E hr h => ?_)
  · obtain ⟨_, _, _, rfl, _⟩ := h
    rfl
  obtain ⟨v, rs, ps, rfl, ht, q⟩ := h
  refine ⟨_, (pss_one (ps_ret (pe_callTy call_list_of (by rfl) T.m_list (by decide +kernel) (pa_cons (pe_fld (pv 0) rfl) pa_nil)))), ?_⟩
  cases ht with
  | @grp p dx lr lp ln rs ps us h1 h2 h3 h4 hl hf => exact ⟨_, rfl, p, _, dx, _, _, rfl, h1, T.c_Group, T.n_Group_ranks, gf_ranks, _, _, rfl, .inl (SqL.of h2), fun z nz => q z _ nz (same_new nz _) upd_same⟩
end
end Rk
set_option Elab.async false
set_option linter.all false
set_option maxRecDepth 100000
set_option maxHeartbeats 4000000
/-! what an expression leaves, said by a relation of a value to a heap; some lists may be hidden meanwhile -/
namespace Rx
open PySem PySem.Spec PyProof.Rows L2 RkO
open Evl (Ev EvT EvA EvL EvU EvO Ex)
abbrev Rel := Hp → V → Prop
def MonV (R : Rel) : Prop := ∀ (H H' : Hp) (v : V), R H v → Ex H H' → R H' v
def RV (u : V) : Rel := fun _ v => v = u
theorem mon_RV {u : V} : MonV (RV u) := fun _ _ _ h _ => h
def AllR : List Rel → Hp → List V → Prop
  | [], _, xs => xs = []
  | R :: Rs, H, xs => ∃ x r, xs = x :: r ∧ R H x ∧ AllR Rs H r
def MonA (Rs : List Rel) : Prop := ∀ R ∈ Rs, MonV R
theorem AllR.mono : ∀ {Rs : List Rel} {H H' : Hp} {xs : List V}, MonA Rs → AllR Rs H xs → Ex H H' → AllR Rs H' xs
  | [], _, _, _, _, h, _ => h
  | R :: Rs, H, H', xs, m, h, e => by
    obtain ⟨x, r, rfl, h1, h2⟩ := h
    exact ⟨x, r, rfl, m R (List.mem_cons_self ..) _ _ _ h1 e, AllR.mono (fun S hS => m S (List.mem_cons_of_mem _ hS)) h2 e⟩
theorem AllR.len : ∀ {Rs : List Rel} {H : Hp} {xs : List V}, AllR Rs H xs → xs.length = Rs.length
  | [], _, _, h => by rw [show _ = [] from h]; rfl
  | R :: Rs, H, xs, h => by
    obtain ⟨x, r, rfl, _, h2⟩ := h
    rw [List.length_cons, List.length_cons, AllR.len h2]
theorem AllR.get : ∀ {Rs : List Rel} {H : Hp} {xs : List V}, AllR Rs H xs → ∀ {i : Nat} {R : Rel}, Rs[i]? = some R → ∃ x, xs[i]? = some x ∧ R H x
  | [], _, _, h, i, R, e => by simp at e
  | S :: Rs, H, xs, h, 0, R, e => by
    obtain ⟨x, r, rfl, h1, h2⟩ := h
    cases e
    exact ⟨x, rfl, h1⟩
  | S :: Rs, H, xs, h, i + 1, R, e => by
    obtain ⟨x, r, rfl, h1, h2⟩ := h
    exact AllR.get h2 (i := i) e
theorem AllR.app : ∀ {Rs Ss : List Rel} {H : Hp} {xs ys : List V}, AllR Rs H xs → AllR Ss H ys → AllR (Rs ++ Ss) H (xs ++ ys)
  | [], Ss, H, xs, ys, h, g => by
    rw [show xs = [] from h]
    exact g
  | R :: Rs, Ss, H, xs, ys, h, g => by
    obtain ⟨x, r, rfl, h1, h2⟩ := h
    exact ⟨x, r ++ ys, rfl, h1, AllR.app h2 g⟩
theorem AllR.one {R : Rel} {H : Hp} {x : V} (h : R H x) : AllR [R] H [x] := ⟨x, [], rfl, h, rfl⟩
theorem MonA.nil : MonA [] := fun _ h => by simp at h
theorem MonA.cons {R : Rel} {Rs : List Rel} (h : MonV R) (g : MonA Rs) : MonA (R :: Rs) := fun S hS => by
  rcases List.mem_cons.mp hS with rfl | hS
  · exact h
  · exact g S hS
theorem MonA.app {Rs Ss : List Rel} (h : MonA Rs) (g : MonA Ss) : MonA (Rs ++ Ss) := fun S hS => by
  rcases List.mem_append.mp hS with hS | hS
  · exact h S hS
  · exact g S hS
theorem MonA.map {α : Type} {f : α → Rel} {as : List α} (h : ∀ a ∈ as, MonV (f a)) : MonA (as.map f) := fun S hS => by
  obtain ⟨a, ha, rfl⟩ := List.mem_map.mp hS
  exact h a ha
/-- a list, a tuple of such -/
def RL (Rs : List Rel) : Rel := fun H v => ∃ a xs, v = .ref a ∧ H a = some (.lst xs) ∧ AllR Rs H xs
def RT (Rs : List Rel) : Rel := fun H v => ∃ a xs, v = .ref a ∧ H a = some (.tup xs) ∧ AllR Rs H xs
theorem mon_RL {Rs : List Rel} (m : MonA Rs) : MonV (RL Rs) := fun _ _ _ ⟨a, xs, e, h, g⟩ s => ⟨a, xs, e, s _ _ h, g.mono m s⟩
theorem mon_RT {Rs : List Rel} (m : MonA Rs) : MonV (RT Rs) := fun _ _ _ ⟨a, xs, e, h, g⟩ s => ⟨a, xs, e, s _ _ h, g.mono m s⟩
theorem RL.of_vals {vs : List V} {H : Hp} {a : Addr} (h : H a = some (.lst vs)) : RL (vs.map RV) H (.ref a) := by
  refine ⟨a, vs, rfl, h, ?_⟩
  clear h
  induction vs with
  | nil => rfl
  | cons v vs ih => exact ⟨v, vs, rfl, rfl, ih⟩
theorem AllR.vals {vs : List V} : ∀ {H : Hp} {xs : List V}, AllR (vs.map RV) H xs → xs = vs := by
  induction vs with
  | nil =>
    intro H xs h
    exact h
  | cons v vs ih =>
    intro H xs h
    obtain ⟨x, r, rfl, h1, h2⟩ := h
    rw [show x = v from h1, ih h2]
/-! ### plain data -/
mutual
def dR : PyData → Rel
  | .none => fun _ v => v = .non
  | .bool b => fun _ v => v = .bl b
  | .int i => fun _ v => v = .int i
  | .str s => fun _ v => v = .str s
  | .list ds => fun H v => ∃ a xs, v = .ref a ∧ H a = some (.lst xs) ∧ dRs ds H xs
  | .tuple ds => fun H v => ∃ a xs, v = .ref a ∧ H a = some (.tup xs) ∧ dRs ds H xs
  | .dict _ => fun _ _ => False
def dRs : List PyData → Hp → List V → Prop
  | [] => fun _ xs => xs = []
  | d :: ds => fun H xs => ∃ x r, xs = x :: r ∧ dR d H x ∧ dRs ds H r
end
theorem dRs_all : ∀ (ds : List PyData) (H : Hp) (xs : List V), dRs ds H xs = AllR (ds.map dR) H xs
  | [], _, _ => rfl
  | d :: ds, H, xs => by
    show (∃ x r, xs = x :: r ∧ dR d H x ∧ dRs ds H r) = ∃ x r, xs = x :: r ∧ dR d H x ∧ AllR (ds.map dR) H r
    simp only [dRs_all ds]
theorem dR_list (ds : List PyData) : dR (.list ds) = RL (ds.map dR) := by
  funext H v
  show (∃ a xs, v = .ref a ∧ H a = some (.lst xs) ∧ dRs ds H xs) = _
  simp only [dRs_all]
  rfl
theorem dR_tup (ds : List PyData) : dR (.tuple ds) = RT (ds.map dR) := by
  funext H v
  show (∃ a xs, v = .ref a ∧ H a = some (.tup xs) ∧ dRs ds H xs) = _
  simp only [dRs_all]
  rfl
mutual
theorem mon_dR : ∀ (d : PyData) {H H' : Hp} {v : V}, dR d H v → Ex H H' → dR d H' v
  | .none, _, _, _, h, _ => h
  | .bool b, _, _, _, h, _ => h
  | .int i, _, _, _, h, _ => h
  | .str s, _, _, _, h, _ => h
  | .list ds, _, _, _, h, e => by
    obtain ⟨a, xs, rfl, h1, h2⟩ := h
    exact ⟨a, xs, rfl, e _ _ h1, mon_dRs ds h2 e⟩
  | .tuple ds, _, _, _, h, e => by
    obtain ⟨a, xs, rfl, h1, h2⟩ := h
    exact ⟨a, xs, rfl, e _ _ h1, mon_dRs ds h2 e⟩
  | .dict _, _, _, _, h, _ => h
theorem mon_dRs : ∀ (ds : List PyData) {H H' : Hp} {xs : List V}, dRs ds H xs → Ex H H' → dRs ds H' xs
  | [], _, _, _, h, _ => h
  | d :: ds, _, _, _, h, e => by
    obtain ⟨x, r, rfl, h1, h2⟩ := h
    exact ⟨x, r, rfl, mon_dR d h1 e, mon_dRs ds h2 e⟩
end
theorem monD (d : PyData) : MonV (dR d) := fun _ _ _ h e => mon_dR d h e
mutual
theorem dp_of {K : PySem.W.Frag} : ∀ (d : PyData) {H : Hp} {v : V}, dR d H v → Dp K H v d
  | .none, _, _, h => by rw [show _ = _ from h]; exact .non
  | .bool b, _, _, h => by rw [show _ = _ from h]; exact .bl b
  | .int i, _, _, h => by rw [show _ = _ from h]; exact .int i
  | .str s, _, _, h => by rw [show _ = _ from h]; exact .str s
  | .list ds, _, _, h => by
    obtain ⟨a, xs, rfl, h1, h2⟩ := h
    exact .lst (SqL.of h1) (dps_of ds h2)
  | .tuple ds, _, _, h => by
    obtain ⟨a, xs, rfl, h1, h2⟩ := h
    exact .tup (SqT.of h1) (dps_of ds h2)
  | .dict _, _, _, h => False.elim h
theorem dps_of {K : PySem.W.Frag} : ∀ (ds : List PyData) {H : Hp} {xs : List V}, dRs ds H xs → DpAll K H xs ds
  | [], _, _, h => by rw [show _ = [] from h]; exact .nil
  | d :: ds, _, _, h => by
    obtain ⟨x, r, rfl, h1, h2⟩ := h
    exact .cons (dp_of d h1) (dps_of ds h2)
end
/-! ### what evaluates to what -/
theorem hid_le {M : Addr → Bool} {H : Hp} : Ex (hid M H) H := fun b o z => by
  cases hb : M b with
  | true => rw [hid_t hb] at z; cases z
  | false => rw [hid_f hb] at z; exact z
theorem hid_ex {M : Addr → Bool} {H H' : Hp} (e : Ex H H') : Ex (hid M H) (hid M H') := fun b o z => by
  cases hb : M b with
  | true => rw [hid_t hb] at z; cases z
  | false => rw [hid_f hb] at z; rw [hid_f hb]; exact e b o z
theorem _root_.RkO.Hides.ex {M : Addr → Bool} {H H' : Hp} (h : Hides M H) (e : Ex H H') : Hides M H' := fun b hb => (h b hb).elim (fun ⟨xs, z⟩ => .inl ⟨xs, e _ _ z⟩) fun ⟨kvs, z⟩ => .inr ⟨kvs, e _ _ z⟩
theorem _root_.RkO.Hides.some {M : Addr → Bool} {H : Hp} (h : Hides M H) {b : Addr} (n : H b = none) : M b = false := by
  cases hb : M b with
  | false => rfl
  | true => rcases h b hb with ⟨_, z⟩ | ⟨_, z⟩ <;> (rw [n] at z; cases z)
def no : Addr → Bool := fun _ => false
theorem hides_no {H : Hp} : Hides no H := fun _ h => by cases h
theorem hid_no {H : Hp} : hid no H = H := by
  funext b
  exact hid_f rfl
def EvX (te : TE) (σ : L2.St) (H : Hp) (R : Rel) : Prop := ∀ (M : Addr → Bool) H1, Hides M H1 → Ex H (hid M H1) → ∀ Q : VK, (∀ v H2, Ex H1 H2 → R (hid M H2) v → Q v H2) → te σ H1 Q
def EvXs (ta : TA) (σ : L2.St) (H : Hp) (Rs : List Rel) : Prop := ∀ (M : Addr → Bool) H1, Hides M H1 → Ex H (hid M H1) → ∀ Q : List V → Hp → Prop, (∀ vs H2, Ex H1 H2 → AllR Rs (hid M H2) vs → Q vs H2) → ta σ H1 Q
section
variable {K : PySem.W.Frag} {σ : L2.St} {H H' : Hp} {ta tb te tl ti tx : TE} {t tt : TT} {as : TA} {x y z v : V} {r : R2} {R S : Rel} {Rs Ss : List Rel}
theorem EvX.mono (e : Ex H H') (h : EvX te σ H R) : EvX te σ H' R := fun M H1 hm e1 Q q => h M H1 hm (e.trans e1) Q q
theorem EvX.imp (h : EvX te σ H R) (f : ∀ H1 v, Ex H H1 → R H1 v → S H1 v) : EvX te σ H S := fun M H1 hm e1 Q q => h M H1 hm e1 Q fun v H2 e2 r => q v H2 e2 (f _ _ (e1.trans (hid_ex e2)) r)
theorem EvX.run (h : EvX te σ H R) {Q : VK} (q : ∀ v H2, Ex H H2 → R H2 v → Q v H2) : te σ H Q := h no H hides_no (by rw [hid_no]; exact Ex.refl H) Q fun v H2 e r => q v H2 e (by rw [hid_no] at r; exact r)
theorem x_ev (h : Ev te σ H v) (m : MonV R) (r : R H v) : EvX te σ H R := fun M H1 hm e1 Q q => h H1 (e1.trans hid_le) Q fun H2 e2 => q v H2 e2 (m _ _ _ r (e1.trans (hid_ex e2)))
theorem x_evV (h : Ev te σ H v) : EvX te σ H (RV v) := x_ev h mon_RV rfl
theorem ev_x (h : EvX te σ H (RV v)) : Ev te σ H v := fun H1 e Q q => h no H1 hides_no (by rw [hid_no]; exact e) Q fun v' H2 e2 r => by
  rw [show v' = v from r]
  exact q H2 e2
theorem x_var {i : Nat} (h : σ[i]? = some (some v)) (m : MonV R) (r : R H v) : EvX (tVar i) σ H R := x_ev (Evl.ev_var h) m r
theorem x_nil : EvXs tNil σ H [] := fun M H1 _ _ Q q => q [] H1 (Ex.refl H1) rfl
theorem x_cons {tr : TA} (m : MonV R) (h : EvX te σ H R) (g : EvXs tr σ H Rs) : EvXs (tCons te tr) σ H (R :: Rs) := fun M H1 hm e1 Q q => h M H1 hm e1 _ fun v H2 e2 r => g M H2 (hm.ex e2) (e1.trans (hid_ex e2)) _ fun vs H3 e3 rs => q _ H3 (e2.trans e3) ⟨v, vs, rfl, m _ _ _ r (hid_ex e3), rs⟩
theorem x_args {vs : List V} (h : EvA as σ H vs) : EvXs as σ H (vs.map RV) := fun M H1 hm e1 Q q => h H1 (e1.trans hid_le) Q fun H2 e2 => q vs H2 e2 (by
  clear h q
  induction vs with
  | nil => rfl
  | cons v vs ih => exact ⟨v, vs, rfl, rfl, ih⟩)
theorem hid_upd {M : Addr → Bool} {H : Hp} {p : Addr} {o : HO} (h : M p = false) : hid M (upd H p o) = upd (hid M H) p o := by
  funext b
  by_cases hb : b = p
  · subst hb
    rw [hid_f h, upd_same, upd_same]
  · rw [upd_ne hb]
    cases hm : M b with
    | true => rw [hid_t hm, hid_t hm]
    | false => rw [hid_f hm, hid_f hm, upd_ne hb]
theorem hid_upd_t {M : Addr → Bool} {H : Hp} {p : Addr} {o : HO} (h : M p = true) : hid M (upd H p o) = hid M H := by
  funext b
  cases hm : M b with
  | true => rw [hid_t hm, hid_t hm]
  | false =>
    rw [hid_f hm, hid_f hm, upd_ne]
    intro z
    rw [z, h] at hm
    cases hm
theorem x_lst (m : MonA Rs) (h : EvXs as σ H Rs) (hz : Rs.length ≤ 100000) : EvX (tLst as) σ H (RL Rs) := fun M H1 hm e1 Q q => h M H1 hm e1 _ fun vs H2 e2 rs => ⟨Evl.sz_of (by rw [rs.len]; exact hz), fun p np => by
  have mp := (hm.ex e2).some np
  have e3 : Ex (hid M H2) (hid M (upd H2 p (.lst vs))) := hid_ex (Ex.new np)
  exact q _ _ (e2.trans (Ex.new np)) ⟨p, vs, rfl, by rw [hid_f mp, upd_same], rs.mono m e3⟩⟩
theorem x_tup (m : MonA Rs) (h : EvXs as σ H Rs) (hz : Rs.length ≤ 100000) : EvX (tTup as) σ H (RT Rs) := fun M H1 hm e1 Q q => h M H1 hm e1 _ fun vs H2 e2 rs => ⟨Evl.sz_of (by rw [rs.len]; exact hz), fun p np => by
  have mp := (hm.ex e2).some np
  have e3 : Ex (hid M H2) (hid M (upd H2 p (.tup vs))) := hid_ex (Ex.new np)
  exact q _ _ (e2.trans (Ex.new np)) ⟨p, vs, rfl, by rw [hid_f mp, upd_same], rs.mono m e3⟩⟩
theorem x_ixL {i : Int} {k : Nat} (h : EvX te σ H (RL Rs)) (hi : ∀ H1, Ex H H1 → Ev ti σ H1 (.int i)) (ek : i = (k : Int)) (hk : Rs[k]? = some R) (m : MonA Rs) : EvX (tOp (rIxL K) te ti) σ H R := fun M H1 hm e1 Q q => h M H1 hm e1 _ fun v H2 e2 r => by
  obtain ⟨a, xs, rfl, ha, hx⟩ := r
  refine hi H2 ((e1.trans hid_le).trans e2) H2 (Ex.refl _) _ fun H3 e3 => ?_
  have ha2 : H3 a = some (.lst xs) := e3 _ _ (hid_le _ _ ha)
  have hx3 := hx.mono m (hid_ex e3)
  obtain ⟨w, hw, rw'⟩ := hx3.get hk
  exact ⟨a, xs, i, w, rfl, rfl, SqL.of ha2, by rw [ek]; exact atI_nat hw, q w H3 (e2.trans e3) rw'⟩
theorem x_ixT {i : Int} {k : Nat} (h : EvX te σ H (RT Rs)) (hi : ∀ H1, Ex H H1 → Ev ti σ H1 (.int i)) (ek : i = (k : Int)) (hk : Rs[k]? = some R) (m : MonA Rs) : EvX (tOp (rIxT K) te ti) σ H R := fun M H1 hm e1 Q q => h M H1 hm e1 _ fun v H2 e2 r => by
  obtain ⟨a, xs, rfl, ha, hx⟩ := r
  refine hi H2 ((e1.trans hid_le).trans e2) H2 (Ex.refl _) _ fun H3 e3 => ?_
  have ha2 : H3 a = some (.tup xs) := e3 _ _ (hid_le _ _ ha)
  have hx3 := hx.mono m (hid_ex e3)
  obtain ⟨w, hw, rw'⟩ := hx3.get hk
  exact ⟨a, xs, i, w, rfl, rfl, SqT.of ha2, by rw [ek]; exact atI_nat hw, q w H3 (e2.trans e3) rw'⟩
theorem x_cat (mR : MonA Rs) (mS : MonA Ss) (h : EvX ta σ H (RL Rs)) (g : EvX tb σ H (RL Ss)) (hz : Rs.length + Ss.length ≤ 100000) : EvX (tOp rCat ta tb) σ H (RL (Rs ++ Ss)) := fun M H1 hm e1 Q q => h M H1 hm e1 _ fun v H2 e2 r => g M H2 (hm.ex e2) (e1.trans (hid_ex e2)) _ fun u H3 e3 s => by
  obtain ⟨a, xs, rfl, ha, hx⟩ := r
  obtain ⟨b, ys, rfl, hb, hy⟩ := s
  refine ⟨a, b, xs, ys, rfl, rfl, e3 _ _ (hid_le _ _ ha), hid_le _ _ hb, Evl.sz_of (by rw [hx.len, hy.len]; exact hz), fun p np => ?_⟩
  have mp := ((hm.ex e2).ex e3).some np
  have e4 : Ex (hid M H3) (hid M (upd H3 p (.lst (xs ++ ys)))) := hid_ex (Ex.new np)
  exact q _ _ ((e2.trans e3).trans (Ex.new np)) ⟨p, _, rfl, by rw [hid_f mp, upd_same], (hx.mono mR ((hid_ex e3).trans e4)).app (hy.mono mS e4)⟩
theorem x_lenL (h : EvX te σ H (RL Rs)) : Ev (tCB (Evl.rLenS K) (tCons te tNil)) σ H (.int (Rs.length : Int)) := fun H1 e Q q => h no H1 hides_no (by rw [hid_no]; exact e) _ fun v H2 e2 r => by
  obtain ⟨a, xs, rfl, ha, hx⟩ := r
  rw [hid_no] at ha
  refine ⟨a, xs, rfl, .inl (SqL.of ha), ?_⟩
  rw [hx.len]
  exact q H2 e2
theorem x_if {b : Bool} (h : EvT t σ H b) (h1 : b = true → EvX ta σ H R) (h2 : b = false → EvX tb σ H R) : EvX (tIf t ta tb) σ H R := fun M H1 hm e1 Q q => h H1 (e1.trans hid_le) _ fun H2 e2 => by
  cases b with
  | true => exact h1 rfl M H2 (hm.ex e2) (e1.trans (hid_ex e2)) Q fun v H3 e3 r => q v H3 (e2.trans e3) r
  | false => exact h2 rfl M H2 (hm.ex e2) (e1.trans (hid_ex e2)) Q fun v H3 e3 r => q v H3 (e2.trans e3) r
/-- a call by a promise -/
def SpX (sp : Sp) (vs : List V) (H : Hp) (R : Rel) : Prop := ∀ H1, Ex H H1 → ∀ Q : VK, (∀ v H2, Ex H1 H2 → R H2 v → Q v H2) → ∀ E : XK, sp vs H1 Q E
theorem spF_x {sp : Sp} {vs : List V} {M : Addr → Bool} {E : XK} {Q : VK} (m : MonV R) (h : SpX sp vs H R) (hm : Hides M H') (e : Ex H (hid M H')) (q : ∀ v H2, Ex H' H2 → R (hid M H2) v → Q v H2) : spF sp vs H' Q E := by
  refine ⟨M, hm, h (hid M H') e _ (fun v H2 e2 r => ?_) E⟩
  intro gone
  refine q v (put M H' H2) (fun b o z => ?_) (m _ _ _ r fun b o z => ?_)
  · cases hb : M b with
    | true => rw [put_t hb]; exact z
    | false =>
      rw [put_f hb]
      exact e2 b o (by rw [hid_f hb]; exact z)
  · cases hb : M b with
    | true => rw [gone b hb] at z; cases z
    | false => rw [hid_f hb, put_f hb]; exact z
theorem x_callA {sp : Sp} {vs dvs : List V} {E : XK} (m : MonV R) (h : EvA as σ H vs) (hs : SpX sp (vs ++ dvs) H R) : EvX (tCall (spF sp) dvs E as) σ H R := fun M H1 hm e1 Q q => h H1 (e1.trans hid_le) _ fun H2 e2 => by
  refine spF_x (R := R) m hs (hm.ex e2) (e1.trans (hid_ex e2)) fun v H3 e3 r => ?_
  exact q v H3 (e2.trans e3) r
theorem x_callX {sp : Sp} {dvs : List V} {E : XK} (m : MonV R) (h : EvXs as σ H Rs) (hs : ∀ vs H1, Ex H H1 → AllR Rs H1 vs → SpX sp (vs ++ dvs) H1 R) : EvX (tCall (spF sp) dvs E as) σ H R := fun M H1 hm e1 Q q => h M H1 hm e1 _ fun vs H2 e2 rs => by
  refine spF_x (R := R) m (hs vs (hid M H2) (e1.trans (hid_ex e2)) rs) (hm.ex e2) (Ex.refl _) fun v H3 e3 r => ?_
  exact q v H3 (e2.trans e3) r
/-- a comprehension over any target: items by Ra, those with p, by Rb; Gd: what the target leaves -/
theorem x_lcG {α : Type} {Ra Rb : α → Rel} {p : α → Bool} {xs : List α} {g : TG} {vs : List Nat} (Gd : α → L2.St → Hp → Prop) (mA : ∀ a ∈ xs, MonV (Ra a)) (mB : ∀ a ∈ xs, MonV (Rb a)) (h : EvX tl σ H (RL (xs.map Ra))) (hz : xs.length ≤ 40000) (hw : ∀ a σ' H1, Gd a σ' H1 → wipe σ' vs = wipe σ vs)
    (hg : ∀ a ∈ xs, ∀ v H0 H1, Ex H H0 → Ra a H0 v → Ex H0 H1 → ∀ Q' : L2.St → Hp → Prop, (∀ σ', Gd a σ' H0 → Q' σ' H1) → g v (wipe σ vs) H1 Q')
    (ht : ∀ a ∈ xs, ∀ σ' H1, Ex H H1 → Gd a σ' H1 → EvT tt σ' H1 (p a)) (he : ∀ a ∈ xs, p a = true → ∀ σ' H1, Ex H H1 → Gd a σ' H1 → EvX te σ' H1 (Rb a)) :
    EvX (tLc (iList K tl) g tt te vs) σ H (RL ((xs.filter p).map Rb)) := fun M H0 hm e0 Q q => h M H0 hm e0 _ fun v H1 e1 r => by
  obtain ⟨a, us, rfl, ha, hx⟩ := r
  have ha1 : H1 a = some (.lst us) := hid_le _ _ ha
  have hul : us.length = xs.length := by rw [hx.len, List.length_map]
  refine ⟨a, rfl, ⟨_, SqL.of ha1⟩, fun Dl hD => ?_⟩
  have mD := (hm.ex e1).some hD
  refine lc_list (xs := us) (fun i H' => Ex H1 H' ∧ ∃ us', us'.length ≤ i ∧ H' Dl = some (.lst us') ∧ AllR (((xs.take i).filter p).map Rb) (hid (fun b => M b || decide (b = Dl)) H') us') ⟨Ex.new hD, [], Nat.le_refl _, upd_same, rfl⟩ (fun i H' _ p => SqL.of (p.1 _ _ ha1)) (fun i y H' hi p0 => ?_) (fun H' p0 => ?_)
  · obtain ⟨p2, us', pl, p3, p4⟩ := p0
    have hlt : i < xs.length := by rw [← hul]; exact (List.getElem?_eq_some_iff.mp hi).1
    have hai : xs[i]? = some xs[i] := List.getElem?_eq_getElem hlt
    have hmem : xs[i] ∈ xs := List.getElem_mem hlt
    obtain ⟨y', hy', ry⟩ := hx.get (i := i) (R := Ra xs[i]) (by rw [List.getElem?_map, hai]; rfl)
    rw [hi] at hy'
    cases hy'
    have hM1 : Hides (fun b => M b || decide (b = Dl)) H' := fun b hb => by
      rcases Bool.or_eq_true_iff.mp hb with hb | hb
      · exact (hm.ex (e1.trans p2)) b hb
      · rw [of_decide_eq_true hb]
        exact .inl ⟨_, p3⟩
    have up : Ex (hid M H1) (hid (fun b => M b || decide (b = Dl)) H') := fun b o z => by
      have hb : M b = false := by
        cases hb : M b with
        | false => rfl
        | true => rw [hid_t hb] at z; cases z
      rw [hid_f hb] at z
      have nb : b ≠ Dl := ne_of_none z hD
      rw [hid_f (show (M b || decide (b = Dl)) = false by rw [hb, decide_eq_false nb]; rfl)]
      exact p2 b o z
    have exH : Ex H (hid (fun b => M b || decide (b = Dl)) H') := (e0.trans (hid_ex e1)).trans up
    have ry1 := mA _ hmem _ _ _ ry up
    refine hg _ hmem y _ H' exH ry1 hid_le _ fun σ' gd => ⟨hw _ _ _ gd, ht _ hmem σ' _ exH gd H' hid_le _ fun H3 e3 => ?_⟩
    have tk : xs.take (i + 1) = xs.take i ++ [xs[i]] := by rw [List.take_add_one, hai]; rfl
    have p4' := p4
    cases hp : p xs[i] with
    | true =>
      refine he _ hmem hp σ' _ exH gd _ H3 (hM1.ex e3) (hid_ex e3) _ fun v' H4 e4 rv => ⟨us', e4 _ _ (e3 _ _ p3), Evl.sz_lt (by omega), (p2.trans (e3.trans e4)).mut hD, us' ++ [v'], by rw [List.length_append]; exact Nat.succ_le_succ pl, upd_same, ?_⟩
      rw [hid_upd_t (by simp), tk, List.filter_append, List.map_append, List.filter_cons, if_pos hp]
      refine AllR.app (p4.mono (MonA.map fun a ha => mB a (List.mem_of_mem_take ((List.mem_filter.mp ha).1))) (hid_ex (e3.trans e4))) (AllR.one rv)
    | false =>
      refine ⟨p2.trans e3, us', Nat.le_succ_of_le pl, e3 _ _ p3, ?_⟩
      rw [tk, List.filter_append, List.filter_cons, if_neg (by rw [hp]; decide), List.filter_nil, List.append_nil]
      exact p4.mono (MonA.map fun a ha => mB a (List.mem_of_mem_take ((List.mem_filter.mp ha).1))) (hid_ex e3)
  · obtain ⟨p2, us', pl, p3, p4⟩ := p0
    rw [hul, List.take_length] at p4
    refine q _ H' (e1.trans p2) ⟨Dl, us', rfl, by rw [hid_f mD]; exact p3, p4.mono (MonA.map fun a ha => mB a ((List.mem_filter.mp ha).1)) fun b o z => ?_⟩
    have hb : (M b || decide (b = Dl)) = false := by
      cases hb : (M b || decide (b = Dl)) with
      | false => rfl
      | true => rw [hid_t hb] at z; cases z
    rw [hid_f hb] at z
    rw [hid_f (Bool.or_eq_false_iff.mp hb).1]
    exact z
/-- .. over one name -/
theorem x_lc {α : Type} {Ra Rb : α → Rel} {p : α → Bool} {xs : List α} {j : Nat} {vs : List Nat} (mA : ∀ a ∈ xs, MonV (Ra a)) (mB : ∀ a ∈ xs, MonV (Rb a)) (h : EvX tl σ H (RL (xs.map Ra))) (hz : xs.length ≤ 40000) (hw : ∀ x, wipe ((wipe σ vs).set j (some x)) vs = wipe σ vs)
    (ht : ∀ a ∈ xs, ∀ v H1, Ex H H1 → Ra a H1 v → EvT tt ((wipe σ vs).set j (some v)) H1 (p a)) (he : ∀ a ∈ xs, p a = true → ∀ v H1, Ex H H1 → Ra a H1 v → EvX te ((wipe σ vs).set j (some v)) H1 (Rb a)) :
    EvX (tLc (iList K tl) (gName j) tt te vs) σ H (RL ((xs.filter p).map Rb)) :=
  x_lcG (fun a σ' H1 => ∃ v, σ' = (wipe σ vs).set j (some v) ∧ Ra a H1 v) mA mB h hz (fun a σ' H1 ⟨v, e, _⟩ => by rw [e]; exact hw v) (fun a _ v H0 H1 _ r _ Q' q => q _ ⟨v, rfl, r⟩) (fun a ha σ' H1 e ⟨v, ev, r⟩ => by rw [ev]; exact ht a ha v H1 e r) (fun a ha hp σ' H1 e ⟨v, ev, r⟩ => by rw [ev]; exact he a ha hp v H1 e r)
/-- .. over two names, the items tuples -/
theorem x_lcT {α : Type} {R1 R2 Rb : α → Rel} {p : α → Bool} {xs : List α} {j1 j2 : Nat} {vs : List Nat} (m1 : ∀ a ∈ xs, MonV (R1 a)) (m2 : ∀ a ∈ xs, MonV (R2 a)) (mB : ∀ a ∈ xs, MonV (Rb a)) (h : EvX tl σ H (RL (xs.map fun a => RT [R1 a, R2 a]))) (hz : xs.length ≤ 40000)
    (hw : ∀ x y, wipe (((wipe σ vs).set j1 (some x)).set j2 (some y)) vs = wipe σ vs)
    (ht : ∀ a ∈ xs, ∀ v1 v2 H1, Ex H H1 → R1 a H1 v1 → R2 a H1 v2 → EvT tt (((wipe σ vs).set j1 (some v1)).set j2 (some v2)) H1 (p a)) (he : ∀ a ∈ xs, p a = true → ∀ v1 v2 H1, Ex H H1 → R1 a H1 v1 → R2 a H1 v2 → EvX te (((wipe σ vs).set j1 (some v1)).set j2 (some v2)) H1 (Rb a)) :
    EvX (tLc (iList K tl) (gTup K 2 (gCons (gName j1) (gCons (gName j2) gNil))) tt te vs) σ H (RL ((xs.filter p).map Rb)) :=
  x_lcG (fun a σ' H1 => ∃ v1 v2, σ' = ((wipe σ vs).set j1 (some v1)).set j2 (some v2) ∧ R1 a H1 v1 ∧ R2 a H1 v2) (fun a ha => mon_RT (MonA.cons (m1 a ha) (MonA.cons (m2 a ha) MonA.nil))) mB h hz (fun a σ' H1 ⟨v1, v2, e, _⟩ => by rw [e]; exact hw v1 v2)
    (fun a _ v H0 H1 _ r e Q' q => by
      obtain ⟨b, xs, rfl, hb, x1, r1, rfl, h1, x2, r2, rfl, h2, rfl⟩ := r
      exact ⟨b, _, rfl, SqT.of (e _ _ hb), rfl, _, _, rfl, _, _, rfl, rfl, q _ ⟨_, _, rfl, h1, h2⟩⟩)
    (fun a ha σ' H1 e ⟨v1, v2, ev, r1, r2⟩ => by rw [ev]; exact ht a ha v1 v2 H1 e r1 r2) (fun a ha hp σ' H1 e ⟨v1, v2, ev, r1, r2⟩ => by rw [ev]; exact he a ha hp v1 v2 H1 e r1 r2)
/-- .. without a test -/
theorem x_lcM {α : Type} {Ra Rb : α → Rel} {xs : List α} {j : Nat} {vs : List Nat} (mA : ∀ a ∈ xs, MonV (Ra a)) (mB : ∀ a ∈ xs, MonV (Rb a)) (h : EvX tl σ H (RL (xs.map Ra))) (hz : xs.length ≤ 40000) (hw : ∀ x, wipe ((wipe σ vs).set j (some x)) vs = wipe σ vs)
    (he : ∀ a ∈ xs, ∀ v H1, Ex H H1 → Ra a H1 v → EvX te ((wipe σ vs).set j (some v)) H1 (Rb a)) :
    EvX (tLc (iList K tl) (gName j) tYes te vs) σ H (RL (xs.map Rb)) := by
  have := x_lc (K := K) (tt := tYes) (p := fun _ => true) mA mB h hz hw (fun a _ v H1 _ _ H2 _ Q q => q H2 (Ex.refl _)) (fun a ha _ v H1 e r => he a ha v H1 e r)
  rwa [List.filter_eq_self.mpr (fun _ _ => rfl)] at this
end
theorem un_var {v : V} {i : Nat} {σ : L2.St} {H : Hp} {Q : VK} (h0 : σ[i]? = some (some v)) (h : Q v H) : tVar i σ H Q := ⟨v, h0, h⟩
theorem un_call1 {sp : Sp} {te : TE} {σ : L2.St} {H : Hp} {Q : VK} (h : te σ H fun x H1 => sp [x] H1 Q E0) : tCall sp [] E0 (tCons te tNil) σ H Q := h
theorem un_drop {te : TE} {D : Ends} {σ : L2.St} {H : Hp} (h : te σ H fun _ H1 => D.nx σ H1) : tDrop te D σ H := h
theorem un_par {i j : Nat} {ta : TA} {D : Ends} {σ : L2.St} {H : Hp} (h : ta σ H fun vs H1 => ∃ v w, vs = [v, w] ∧ D.nx ((σ.set i (some v)).set j (some w)) H1) : tPar i j ta D σ H := h
/-- a for over enumerate(xs), two names -/
theorem for_enum {K : PySem.W.Frag} {ta : TA} {i j : Nat} {tb : TS} {D : Ends} {σ : L2.St} {H : Hp} {a : Addr} {xs : List V} (h : EvA ta σ H [.ref a]) (hx : H a = some (.lst xs)) (Pv : Nat → L2.St → Hp → Prop) (h0 : ∀ H1, Ex H H1 → Pv 0 σ H1) (hG : ∀ k σ' H', k ≤ xs.length → Pv k σ' H' → H' a = some (.lst xs))
    (hs : ∀ k x σ' H' T, k < xs.length → Pv k σ' H' → xs[k]? = some x → H' T = none → tb { D with nx := Pv (k + 1), ct := Pv (k + 1), bk := D.nx } ((σ'.set i (some (.int (k : Int)))).set j (some x)) (upd H' T (.tup [.int (k : Int), x])))
    (hd : ∀ σ' H', Pv xs.length σ' H' → D.nx σ' H') : tFor (iEnum K ta) (gTup K 2 (gCons (gName i) (gCons (gName j) gNil))) tb D σ H := h H (Ex.refl _) _ fun H1 e1 => ⟨a, xs, rfl, SqL.of (e1 _ _ hx), L2.for_it walk_enum Pv (h0 H1 e1) (fun k σ' H' hk p => SqL.of (hG k σ' H' hk p)) (fun k v σ' H' H'' hk p y => by
    obtain ⟨T, x, y, rfl, nT, rfl, h1, h2⟩ := y
    have h1 : some (V.int (k : Nat)) = some x := h1
    cases h1
    exact ⟨T, _, rfl, SqT.of upd_same, rfl, _, _, rfl, _, _, rfl, rfl, hs k y σ' H' T hk p h2 nT⟩) hd⟩
theorem AllR.split {Rs Ss : List Rel} : ∀ {H : Hp} {xs : List V}, AllR (Rs ++ Ss) H xs → ∃ ys zs, xs = ys ++ zs ∧ AllR Rs H ys ∧ AllR Ss H zs := by
  induction Rs with
  | nil =>
    intro H xs h
    exact ⟨[], xs, rfl, rfl, h⟩
  | cons R Rs ih =>
    intro H xs h
    obtain ⟨x, r, rfl, h1, h2⟩ := h
    obtain ⟨ys, zs, rfl, h3, h4⟩ := ih h2
    exact ⟨x :: ys, zs, rfl, ⟨x, ys, rfl, h1, h3⟩, h4⟩
theorem AllR.take {Rs : List Rel} {H : Hp} : ∀ {xs : List V} (k : Nat), AllR Rs H xs → AllR (Rs.take k) H (xs.take k) := by
  induction Rs with
  | nil =>
    intro xs k h
    rw [show xs = [] from h]
    simp
    rfl
  | cons R Rs ih =>
    intro xs k h
    obtain ⟨x, r, rfl, h1, h2⟩ := h
    cases k with
    | zero => rfl
    | succ k => exact ⟨x, r.take k, rfl, h1, ih k h2⟩
theorem x_prop {C a dx : Addr} {fs : List (Str × V)} {sp : Sp} {E : XK} {te : TE} {σ : L2.St} {H : Hp} {R : Rel} (m : MonV R) (h : Ev te σ H (.ref a)) (ha : H a = some (.ins C dx fs)) (hs : SpX sp [.ref a] H R) : EvX (tProp C (spF sp) [] E te) σ H R := fun M H1 hm e1 Q q => h H1 (e1.trans hid_le) _ fun H2 e2 => by
  refine ⟨a, dx, fs, rfl, e2 _ _ (hid_le _ _ (e1 _ _ ha)), ?_⟩
  refine spF_x (R := R) m hs (hm.ex e2) (e1.trans (hid_ex e2)) fun v H3 e3 r => ?_
  exact q v H3 (e2.trans e3) r
/-- [y for x in xs for y in e(x)] -/
theorem x_lc2 {K : PySem.W.Frag} {σ : L2.St} {H : Hp} {tl ti : TE} {α : Type} {Ra : α → Rel} {f : α → List Rel} {xs : List α} {j j1 : Nat} {vs vs1 : List Nat} (mA : ∀ a ∈ xs, MonV (Ra a)) (mF : ∀ a ∈ xs, MonA (f a)) (h : EvX tl σ H (RL (xs.map Ra))) (hz : ∀ i, ((xs.take i).map f).flatten.length ≤ 40000)
    (hw : ∀ x, wipe ((wipe σ vs).set j (some x)) vs = wipe σ vs) (hw1 : ∀ x y, wipe ((wipe ((wipe σ vs).set j (some x)) vs1).set j1 (some y)) vs1 = wipe ((wipe σ vs).set j (some x)) vs1)
    (hj : ∀ x y, ((wipe ((wipe σ vs).set j (some x)) vs1).set j1 (some y))[j1]? = some (some y)) (he : ∀ a ∈ xs, ∀ v H1, Ex H H1 → Ra a H1 v → EvX ti ((wipe σ vs).set j (some v)) H1 (RL (f a))) :
    EvX (tLc2 (iList K tl) (gName j) tYes (iList K ti) (gName j1) tYes (tVar j1) vs vs1) σ H (RL ((xs.map f).flatten)) := fun M H0 hm e0 Q q => h M H0 hm e0 _ fun v H1 e1 r => by
  obtain ⟨a, us, rfl, ha, hx⟩ := r
  have ha1 : H1 a = some (.lst us) := hid_le _ _ ha
  have hul : us.length = xs.length := by rw [hx.len, List.length_map]
  refine ⟨a, rfl, ⟨_, SqL.of ha1⟩, fun Dl hD => ?_⟩
  have mD := (hm.ex e1).some hD
  have mfl : ∀ i, MonA (((xs.take i).map f).flatten) := fun i R hR => by
    obtain ⟨l, hl, hR⟩ := List.mem_flatten.mp hR
    obtain ⟨x, hx, rfl⟩ := List.mem_map.mp hl
    exact mF x (List.mem_of_mem_take hx) R hR
  have msk : ∀ H', Ex H1 H' → (∃ us', H' Dl = some (.lst us')) → Hides (fun b => M b || decide (b = Dl)) H' := fun H' p2 p3 b hb => by
    rcases Bool.or_eq_true_iff.mp hb with hb | hb
    · exact (hm.ex (e1.trans p2)) b hb
    · rw [of_decide_eq_true hb]
      exact .inl p3
  have ups : ∀ H', Ex H1 H' → Ex (hid M H1) (hid (fun b => M b || decide (b = Dl)) H') := fun H' p2 b o z => by
    have hb : M b = false := by
      cases hb : M b with
      | false => rfl
      | true => rw [hid_t hb] at z; cases z
    rw [hid_f hb] at z
    have nb : b ≠ Dl := ne_of_none z hD
    rw [hid_f (show (M b || decide (b = Dl)) = false by rw [hb, decide_eq_false nb]; rfl)]
    exact p2 b o z
  refine ⟨fun i m H' => m = xs.length - i ∧ i ≤ xs.length ∧ Ex H1 H' ∧ ∃ us', H' Dl = some (.lst us') ∧ AllR (((xs.take i).map f).flatten) (hid (fun b => M b || decide (b = Dl)) H') us', ⟨_, rfl, Nat.zero_le _, Ex.new hD, [], upd_same, rfl⟩, ?_⟩
  rintro i m H' ⟨rfl, hi, p2, us', p3, p4⟩
  have hq : SqL K H' a us := SqL.of (p2 _ _ ha1)
  by_cases hlt : i < xs.length
  · have hai : xs[i]? = some xs[i] := List.getElem?_eq_getElem hlt
    have hmem : xs[i] ∈ xs := List.getElem_mem hlt
    obtain ⟨y, hy, ry⟩ := hx.get (i := i) (R := Ra xs[i]) (by rw [List.getElem?_map, hai]; rfl)
    refine .inr ⟨⟨_, y, hq, hy⟩, fun H' => i + 1 ≤ xs.length ∧ Ex H1 H' ∧ ∃ us', H' Dl = some (.lst us') ∧ AllR (((xs.take (i + 1)).map f).flatten) (hid (fun b => M b || decide (b = Dl)) H') us', fun H2 p => ⟨xs.length - (i + 1), by omega, rfl, p.1, p.2.1, p.2.2⟩, fun x H2 y2 => ?_⟩
    obtain ⟨rfl, y2⟩ := y2
    have ex : x = y := by
      have := y2 _ hq
      rw [hy] at this
      exact (Option.some.inj this).symm
    subst ex
    refine ⟨hw _, ?_⟩
    simp only [tYes, ↓reduceIte]
    have exH : Ex H (hid (fun b => M b || decide (b = Dl)) H2) := (e0.trans (hid_ex e1)).trans (ups H2 p2)
    refine he _ hmem x _ exH (mA _ hmem _ _ _ ry (ups H2 p2)) _ H2 (msk H2 p2 ⟨_, p3⟩) (Ex.refl _) _ fun v4 H4 e4 r4 => ?_
    obtain ⟨b, ys, rfl, hb, hys⟩ := r4
    have hb4 : H4 b = some (.lst ys) := hid_le _ _ hb
    have nbD : b ≠ Dl := fun z => by
      rw [hid_t (show (M b || decide (b = Dl)) = true by rw [z]; simp)] at hb
      cases hb
    have hpre : (xs.take (i + 1)).map f = (xs.take i).map f ++ [f xs[i]] := by rw [List.take_add_one, hai, List.map_append]; rfl
    have hfl : [f xs[i]].flatten = f xs[i] := by simp
    have hlen := hz (i + 1)
    rw [hpre, List.flatten_append, List.length_append, hfl] at hlen
    have hyl : ys.length = (f xs[i]).length := hys.len
    refine ⟨b, rfl, ⟨_, SqL.of hb4⟩, ?_⟩
    have p5 := p4.mono (mfl i) (hid_ex e4)
    refine ⟨fun k m H' => m = ys.length - k ∧ k ≤ ys.length ∧ hid (fun b => M b || decide (b = Dl)) H' = hid (fun b => M b || decide (b = Dl)) H4 ∧ Ex H1 H' ∧ H' b = some (.lst ys) ∧ ∃ us', H' Dl = some (.lst us') ∧ AllR (((xs.take i).map f).flatten ++ (f xs[i]).take k) (hid (fun b => M b || decide (b = Dl)) H4) us', ⟨_, rfl, Nat.zero_le _, rfl, p2.trans e4, hb4, us', e4 _ _ p3, by rw [List.take_zero, List.append_nil]; exact p5⟩, ?_⟩
    rintro k m H5 ⟨rfl, hk, qe, q2, qb, us5, q3, q4⟩
    by_cases hkl : k < ys.length
    · refine .inr ⟨⟨_, ys[k], SqL.of qb, by simp [hkl]⟩, fun H' => k + 1 ≤ ys.length ∧ hid (fun b => M b || decide (b = Dl)) H' = hid (fun b => M b || decide (b = Dl)) H4 ∧ Ex H1 H' ∧ H' b = some (.lst ys) ∧ ∃ us', H' Dl = some (.lst us') ∧ AllR (((xs.take i).map f).flatten ++ (f xs[i]).take (k + 1)) (hid (fun b => M b || decide (b = Dl)) H4) us', fun H' p => ⟨_, by omega, rfl, p.1, p.2.1, p.2.2.1, p.2.2.2.1, p.2.2.2.2⟩, fun y H6 z => ?_⟩
      obtain ⟨rfl, z⟩ := z
      have ey : ys[k]? = some y := z _ (SqL.of qb)
      refine ⟨hw1 _ _, ?_⟩
      simp only [tYes, ↓reduceIte]
      have hfk : (f xs[i])[k]? = some ((f xs[i])[k]'(by omega)) := List.getElem?_eq_getElem (by omega)
      obtain ⟨y', ey', ry'⟩ := hys.get hfk
      rw [ey] at ey'
      cases ey'
      have ul : us5.length = (((xs.take i).map f).flatten ++ (f xs[i]).take k).length := q4.len
      refine ⟨y, hj _ _, _, q3, ?_, hkl, ?_, q2.mut hD, ?_, _, upd_same, ?_⟩
      · rw [ul, List.length_append, List.length_take]
        exact Evl.sz_lt (by omega)
      · rw [hid_upd_t (by simp)]
        exact qe
      · rw [upd_ne nbD]
        exact qb
      · rw [List.take_add_one, hfk, ← List.append_assoc]
        exact q4.app (AllR.one ry')
    · have ek : k = ys.length := by omega
      subst ek
      refine .inl ⟨⟨_, SqL.of qb, Nat.le_refl _⟩, hlt, q2, us5, q3, ?_⟩
      rw [hyl, List.take_length] at q4
      rw [qe, hpre, List.flatten_append, hfl]
      exact q4
  · have ei : i = xs.length := by omega
    subst ei
    rw [List.take_length] at p4
    refine .inl ⟨⟨_, hq, by rw [hul]; exact Nat.le_refl _⟩, q _ H' (e1.trans p2) ⟨Dl, us', rfl, by rw [hid_f mD]; exact p3, p4.mono (by have := mfl xs.length; rwa [List.take_length] at this) fun b o z => ?_⟩⟩
    have hb : (M b || decide (b = Dl)) = false := by
      cases hb : (M b || decide (b = Dl)) with
      | false => rfl
      | true => rw [hid_t hb] at z; cases z
    rw [hid_f hb] at z
    rw [hid_f (Bool.or_eq_false_iff.mp hb).1]
    exact z
/-- two operands, each known by a relation -/
theorem ev_op2 {ta tb : TE} {σ : L2.St} {H : Hp} {R S : Rel} {r : R2} {z : V} (mR : MonV R) (ha : EvX ta σ H R) (hb : EvX tb σ H S) (hr : ∀ x y H1, Ex H H1 → R H1 x → S H1 y → Evl.RV r x y H1 z) : Ev (tOp r ta tb) σ H z := fun H1 e Q q =>
  (ha.mono e).run fun x H2 e2 rx => (hb.mono (e.trans e2)).run fun y H3 e3 ry => hr x y H3 ((e.trans e2).trans e3) (mR _ _ _ rx e3) ry H3 (Ex.refl _) Q fun H4 e4 => q H4 ((e2.trans e3).trans e4)
theorem rv_neD {K : PySem.W.Frag} {x y : V} {H : Hp} {d e : PyData} (hx : dR d H x) (hy : dR e H y) (sd : SeqAt.shaped d = true) (se : SeqAt.shaped e = true) : Evl.RV (rNeD K) x y H (.bl (!PyData.eqv d e)) := fun H1 e1 _ q => ⟨d, e, dp_of d (mon_dR d hx e1), dp_of e (mon_dR e hy e1), sd, se, q H1 (Ex.refl H1)⟩
theorem rv_eqD {K : PySem.W.Frag} {x y : V} {H : Hp} {d e : PyData} (hx : dR d H x) (hy : dR e H y) (sd : SeqAt.shaped d = true) (se : SeqAt.shaped e = true) : Evl.RV (rEqD K) x y H (.bl (PyData.eqv d e)) := fun H1 e1 _ q => ⟨d, e, dp_of d (mon_dR d hx e1), dp_of e (mon_dR e hy e1), sd, se, q H1 (Ex.refl H1)⟩
theorem RL_map {α : Type} {f : α → V} {xs : List α} {H : Hp} {v : V} (h : RL (xs.map fun x => RV (f x)) H v) : ∃ a, v = .ref a ∧ H a = some (.lst (xs.map f)) := by
  obtain ⟨a, ys, rfl, h1, h2⟩ := h
  have e : (xs.map fun x => RV (f x)) = (xs.map f).map RV := by rw [List.map_map]; rfl
  rw [e] at h2
  exact ⟨a, rfl, by rw [h1, h2.vals]⟩
theorem RL_mk {α : Type} {f : α → V} {xs : List α} {H : Hp} {a : Addr} (h : H a = some (.lst (xs.map f))) : RL (xs.map fun x => RV (f x)) H (.ref a) := by
  have := RL.of_vals h
  rwa [List.map_map] at this
theorem dR_ints {ns : List Int} {H : Hp} {a : Addr} (h : H a = some (.lst (ns.map V.int))) : dR (.list (ns.map PyData.int)) H (.ref a) := by
  rw [dR_list, List.map_map]
  exact RL_mk h
theorem dR_strs {ns : List Str} {H : Hp} {a : Addr} (h : H a = some (.lst (ns.map V.str))) : dR (.list (ns.map PyData.str)) H (.ref a) := by
  rw [dR_list, List.map_map]
  exact RL_mk h
/-- a call's result, where what is left matters no more -/
theorem x_ls {ta : TA} {σ : L2.St} {H : Hp} {vs : List V} (h : EvA ta σ H vs) (hl : vs.length ≤ 100000) : EvX (tLst ta) σ H (RL (vs.map RV)) := x_lst (MonA.map fun _ _ => mon_RV) (x_args h) (by rw [List.length_map]; exact hl)
/-! within a comprehension: the written part by its own name -/
section
variable {X : Cx} {K : PySem.W.Frag}
theorem callR_K {f : Value} {r : PySem.W.Frag → List V → Hp → VK → Prop} (hK : X.K = K) (h : CallR X f (r X.K)) : CallR X f (r K) := by
  subst hK
  exact h
theorem opR_K {g : Value → Value → Sem Value} {r : PySem.W.Frag → R2} (hK : X.K = K) (h : OpR X g (r X.K)) : OpR X g (r K) := by
  subst hK
  exact h
theorem ixR_K {r : PySem.W.Frag → R2} (hK : X.K = K) (h : IxR X (r X.K)) : IxR X (r K) := by
  subst hK
  exact h
theorem slR_K {r : PySem.W.Frag → V → Option Int → Option Int → Hp → VK → Prop} (hK : X.K = K) (h : SlR X (r X.K)) : SlR X (r K) := by
  subst hK
  exact h
theorem unR_K {f : Value → Sem Value} {r : PySem.W.Frag → V → Hp → VK → Prop} (hK : X.K = K) (h : UnR X f (r X.K)) : UnR X f (r K) := by
  subst hK
  exact h
end
end Rx
set_option Elab.async false
set_option linter.all false
set_option maxRecDepth 100000
set_option maxHeartbeats 4000000
/-! min(xs, key=len), xs a list of lists -/
namespace RkM
open PySem PyProof.Rows
section
variable {prog : Program} {w : World} {A : Around} {E : Value → Shared → Prop} {s : Shared}
theorem min_len {l : Addr} {its : List Value} {kf : Nat → Nat} {Q : Value → Shared → Prop} (hh : A.handled = none) (hl : s.heap.IsList l its.toArray) (hne : 0 < its.length)
    (hi : ∀ i v, its[i]? = some v → ∃ b ys, v = .ref b ∧ s.heap.IsList b ys ∧ ys.size = kf i ∧ (ys.size : Int) < 2 ^ 63)
    (h : ∀ v h' tk, its[argBest (fun i j => decide (((kf i : Nat) : Int) < ((kf j : Nat) : Int))) (its.length - 1)]? = some v → (∀ b o, s.heap.get? b = some o → h'.get? b = some o) → Q v { s with heap := h', toks := tk }) :
    wpAny (model prog w) A (call (.builtin "min") [.ref l] [(Str.ofString "key", .builtin "len")]) Q E s := by
  refine call_min_walkKB (wpAny_pyIter_list hl ?_)
  obtain ⟨ol, hol, hoc, n0, hod⟩ := id hl
  have hll : l < s.heap.objs.size := Heap.lt_size hol
  have hlI : l ≠ s.heap.objs.size := Nat.ne_of_lt hll
  have W := (Walks.list (prog := prog) (w := w) (A := A.in1) hh s.heap.objs.size l hlI its.toArray).toS
  have hs2 : (s.heap.push { cls := .type "list_iterator", data := .fields #[.ref l, .int 0 0] }).objs.size = s.heap.objs.size + 1 := size_push' ..
  have J0 : ∀ b o, s.heap.get? b = some o → (s.heap.push { cls := .type "list_iterator", data := .fields #[.ref l, .int 0 0] }).get? b = some o := fun b o e => Heap.get?_push_of_some _ e
  have hsz : its.toArray.size = its.length := List.size_toArray ..
  refine ⟨s.heap.objs.size, _, _, _, _, _, _, fun s' => ∃ h' tk, s' = { s with heap := h', toks := tk } ∧ ∀ b o, s.heap.get? b = some o → h'.get? b = some o, fun i k _ => ∃ t, k = .int ((kf i : Nat) : Int) t, fun i j => decide (((kf i : Nat) : Int) < ((kf j : Nat) : Int)), rfl, W,
    ⟨⟨_, Heap.get?_push_size _ rfl, rfl, rfl⟩, ⟨ol, J0 _ _ hol, hoc, n0, hod⟩⟩, ?_, by rw [hsz]; exact hne, ?_, ⟨_, s.toks, rfl, J0⟩, ?_⟩
  · intro b hb
    rw [hs2]
    simp at hb
    rcases hb with rfl | rfl
    · exact Nat.lt_succ_self _
    · exact Nat.lt_succ_of_lt hll
  · refine ⟨?_, fun i k s1 s2 hv _ => hv, ?_, ?_⟩
    · rintro s1 s2 ⟨h1, t1, rfl, k1⟩ mv
      obtain ⟨hp2, g2, d2, t2, o2⟩ := s2
      have e1 := mv.gens
      have e2 := mv.drawn
      have e3 := mv.os
      dsimp only at e1 e2 e3
      subst e1
      subst e2
      subst e3
      refine ⟨hp2, t2, rfl, fun b o e => mv.heap b o ?_ (k1 b o e)⟩
      intro hb
      have hlt : b < s.heap.objs.size := Heap.lt_size e
      rcases List.mem_cons.mp hb with hb | hb
      · rw [hs2] at hb
        exact absurd hlt (by rw [hb]; exact Nat.not_lt.mpr (Nat.le_succ _))
      · rw [List.mem_singleton.mp hb] at hlt
        exact absurd hlt (Nat.lt_irrefl _)
    · rintro i v s1 o Q1 E1 hin hP ⟨h1, t1, rfl, k1⟩ hst hS hq
      have hv : its[i]? = some v := by simpa using hP
      obtain ⟨b, ys, rfl, hb, hy, hy63⟩ := hi i v hv
      obtain ⟨ob, hob, hbc, nb, hbd⟩ := id hb
      refine PySem.Calls.call_len_list (items := ys) ⟨ob, k1 _ _ hob, hbc, nb, hbd⟩ hy63 ?_
      exact hq _ _ ⟨h1, _, rfl, k1⟩ hst hS ⟨_, by rw [hy]⟩ fun j k' z => z
    · intro i j ki kj s1 Q1 E1 _ hi1 hj1 hq
      obtain ⟨t, rfl⟩ := hi1
      obtain ⟨u, rfl⟩ := hj1
      exact CmpOf.ints_lt (prog := prog) (w := w) (A := A.in1) (P := fun i v => ∃ t, v = .int ((kf i : Nat) : Int) t) (fun i => ((kf i : Nat) : Int)) (fun i v h => h) i j _ _ _ _ _ ⟨t, rfl⟩ ⟨u, rfl⟩ hq
  · rintro v s' hP ⟨h', tk, rfl, k'⟩
    refine h v h' tk ?_ k'
    rw [hsz] at hP
    simpa using hP
end
end RkM
namespace L2
open PySem PySem.Spec PyProof.Rows
section
variable {X : Cx}
/-- the place of the first of the least -/
def atMin (ks : List Nat) : Nat := argBest (fun i j => decide (((ks.getD i 0 : Nat) : Int) < ((ks.getD j 0 : Nat) : Int))) (ks.length - 1)
/-- as: the lists' places, xss their items -/
def tMinLen (K : PySem.W.Frag) (ta : TA) : TE := fun σ H Q => ta σ H fun vs H1 => ∃ (a : Addr) (bs : List Addr) (ks : List Nat), vs = [.ref a] ∧ SqL K H1 a (bs.map V.ref) ∧ bs ≠ [] ∧ ks.length = bs.length ∧ (∀ i b, bs[i]? = some b → ∃ ys, SqL K H1 b ys ∧ ys.length = ks.getD i 0) ∧ Q (.ref (bs.getD (atMin ks) 0)) H1
theorem vals_refs : ∀ {bs : List Addr} {its : List Value}, Vals (bs.map V.ref) its → its = bs.map Value.ref
  | [], _, .nil => rfl
  | b :: bs, _, .cons r rs => by
    rw [show (b :: bs).map Value.ref = Value.ref b :: bs.map Value.ref from rfl, ← vals_refs rs]
    cases (show _ = Value.ref b from r)
    rfl
theorem atMin_lt {ks : List Nat} (h : ks ≠ []) : atMin ks < ks.length := by
  have h1 := (argBest_lt (fun i => ((ks.getD i 0 : Nat) : Int)) (ks.length - 1)).1
  have h2 : 0 < ks.length := List.length_pos_iff.mpr h
  show argBest _ _ < _
  omega
theorem atMin_le {ks : List Nat} {j : Nat} (hj : j < ks.length) : ks.getD (atMin ks) 0 ≤ ks.getD j 0 := by
  have h2 := (argBest_lt (fun i => ((ks.getD i 0 : Nat) : Int)) (ks.length - 1)).2 j (by omega)
  have h3 : ((ks.getD (atMin ks) 0 : Nat) : Int) ≤ ((ks.getD j 0 : Nat) : Int) := h2
  omega
theorem pe_minLen {e : Expr} {ta : TA} {p p2 p3 pos : Pos} (hc : X.calm = true) (hg : Gl X "min") (hm : X.mg "min" = none) (hg2 : Gl X "len") (hm2 : X.mg "len" = none) (ha : PA X (e :: []) ta)
    (he1 : backTo pos (starEach (e :: []) X.env) = (false, eval e X.env) :: backTo pos (starEach [] X.env) := by rfl) (hpl : (backTo pos (starEach (e :: []) X.env)).any (·.1) = false := by rfl)
    (hall : (backToKw pos (keywordEach [⟨some "key", .Name "len" p2, p3⟩] X.env)).all (·.1.isSome) = true := by rfl) (hnone : (backToKw pos (keywordEach [⟨some "key", .Name "len" p2, p3⟩] X.env)).any (·.1.isNone) = false := by rfl) :
    PE X (.Call (.Name "min" p) [e] [⟨some "key", .Name "len" p2, p3⟩] pos) (tMinLen X.K ta) := by
  refine ⟨fun pins s σ H Q I h => ?_⟩
  refine wpAny_Call_Name_kw (ld_blt I hg hm (by decide +kernel : bootBuiltins "min" = some (.builtin "min")) ?_ (by decide) (by decide))
  refine PyProof.Rows.callWith_kw (thn (ha.run pos pins _ σ H _ I h) fun us s1 ⟨vs, H1, I1, r1, q1⟩ => ?_) he1 hpl hall hnone
  refine wpAny_evalAll_cons (wpAny_bind (ld_blt I1 hg2 hm2 PySem.boot_len ?_ (by decide) (by decide)))
  refine wpAny_bind (wpAny_standAt (wpAny_pure ?_))
  refine wpAny_evalAll_nil ?_
  obtain ⟨a, bs, ks, rfl, hs, hne, hkl, hk, q⟩ := q1
  obtain ⟨its, rv, hl, hz⟩ := I1.list hs
  rw [Vals.ref1 r1]
  have ei := vals_refs rv
  subst ei
  have hn := line63
  have hs63 : sizeLine = 16777216 := sizeLine_eq
  have hlen : (bs.map Value.ref).length = bs.length := List.length_map _
  refine RkM.min_len (kf := fun i => ks.getD i 0) (I1.ok.hd hc) hl.isList (by rw [hlen]; exact List.length_pos_iff.mpr hne) (fun i v hi => ?_) fun v h' tk hv hkp => ?_
  · rw [List.getElem?_map] at hi
    obtain ⟨b, hb, rfl⟩ := Option.map_eq_some_iff.mp hi
    obtain ⟨ys, hy, hyl⟩ := hk i b hb
    obtain ⟨its2, rv2, hl2, hz2⟩ := I1.list hy
    refine ⟨b, _, rfl, hl2.isList, ?_, ?_⟩
    · rw [List.size_toArray, ← rv2.length, hyl]
    · rw [List.size_toArray]
      have e2 := rv2.length
      have e3 := hyl
      omega
  · have e : argBest (fun i j => decide (((ks.getD i 0 : Nat) : Int) < ((ks.getD j 0 : Nat) : Int))) ((bs.map Value.ref).length - 1) = atMin ks := by rw [hlen, ← hkl]; rfl
    have hv2 : (bs.map Value.ref)[atMin ks]? = some v := by rw [← e]; exact hv
    rw [List.getElem?_map] at hv2
    obtain ⟨b, hb, rfl⟩ := Option.map_eq_some_iff.mp hv2
    refine ⟨.ref b, H1, I1.kept hkp, rfl, ?_⟩
    rw [List.getD_eq_getElem?_getD, hb] at q
    exact q
end
end L2
set_option Elab.async false
set_option linter.all false
set_option maxRecDepth 100000
set_option maxHeartbeats 4000000
/-! the mathematics of counts: the fewest leaves that make so many ends low -/
namespace Rk
open PySem L2 RkO
section
variable {α : Type} (op : α → α → α)
def sums1 (a : α) (i : Nat) : List α → Nat → List (List α) → List (List α)
  | [], _, F => F
  | b :: bs, k, F => sums1 a i bs (k + 1) (F.modify (i + k) (· ++ [op a b]))
def sums (B : List α) : List α → Nat → List (List α) → List (List α)
  | [], _, F => F
  | a :: as, i, F => sums B as (i + 1) (sums1 op a i B 0 F)
def sumsBy (A B : List α) : List (List α) := sums op B A 0 (List.replicate (A.length + B.length - 1) [])
theorem sums1_len (a : α) (i : Nat) : ∀ (B : List α) (k : Nat) (F : List (List α)), (sums1 op a i B k F).length = F.length
  | [], _, _ => rfl
  | b :: bs, k, F => by
    show (sums1 op a i bs (k + 1) _).length = _
    rw [sums1_len a i bs]
    exact List.length_modify _ _ _
theorem sums_len (B : List α) : ∀ (A : List α) (i : Nat) (F : List (List α)), (sums op B A i F).length = F.length
  | [], _, _ => rfl
  | a :: as, i, F => by
    show (sums op B as (i + 1) _).length = _
    rw [sums_len B as, sums1_len]
theorem sumsBy_len (A B : List α) : (sumsBy op A B).length = A.length + B.length - 1 := by
  unfold sumsBy
  rw [sums_len, List.length_replicate]
theorem mod_mem {F : List (List α)} {p q : Nat} {x y : α} {L : List α} (h : (F.modify p (· ++ [y]))[q]? = some L) : x ∈ L ↔ (∃ M, F[q]? = some M ∧ x ∈ M) ∨ (p = q ∧ x = y) := by
  rw [List.getElem?_modify] at h
  obtain ⟨M, hM, e⟩ := Option.map_eq_some_iff.mp h
  by_cases hpq : p = q
  · rw [if_pos hpq] at e
    subst e
    rw [List.mem_append, List.mem_singleton]
    exact ⟨fun z => z.elim (fun z => .inl ⟨M, hM, z⟩) (fun z => .inr ⟨hpq, z⟩), fun z => z.elim (fun ⟨N, hN, z⟩ => by
      rw [hM] at hN
      cases hN
      exact .inl z) (fun z => .inr z.2)⟩
  · rw [if_neg hpq] at e
    cases e
    exact ⟨fun z => .inl ⟨_, hM, z⟩, fun z => z.elim (fun ⟨N, hN, z⟩ => by
      rw [hM] at hN
      cases hN
      exact z) (fun z => absurd z.1 hpq)⟩
theorem some_of_len {F G : List (List α)} {q : Nat} {L : List α} (h : G[q]? = some L) (e : G.length = F.length) : ∃ M, F[q]? = some M := by
  have := (List.getElem?_eq_some_iff.mp h).1
  exact ⟨_, List.getElem?_eq_getElem (by omega)⟩
theorem sums1_mem (a : α) (i : Nat) : ∀ (B : List α) (k : Nat) (F : List (List α)) (q : Nat) (L : List α) (x : α), (sums1 op a i B k F)[q]? = some L → (x ∈ L ↔ (∃ M, F[q]? = some M ∧ x ∈ M) ∨ ∃ j b, B[j]? = some b ∧ i + k + j = q ∧ x = op a b)
  | [], k, F, q, L, x, h => by
    have h : F[q]? = some L := h
    exact ⟨fun z => .inl ⟨L, h, z⟩, fun z => z.elim (fun ⟨M, hM, z⟩ => by
      rw [h] at hM
      cases hM
      exact z) (fun ⟨j, b, z, _⟩ => by simp at z)⟩
  | b :: bs, k, F, q, L, x, h => by
    have h : (sums1 op a i bs (k + 1) (F.modify (i + k) (· ++ [op a b])))[q]? = some L := h
    rw [sums1_mem a i bs (k + 1) _ q L x h]
    constructor
    · rintro (⟨M, hM, z⟩ | ⟨j, c, hj, e, rfl⟩)
      · rcases (mod_mem hM).mp z with z | ⟨z1, z2⟩
        · exact .inl z
        · exact .inr ⟨0, b, rfl, z1, z2⟩
      · exact .inr ⟨j + 1, c, hj, by omega, rfl⟩
    · rintro (⟨M, hM, z⟩ | ⟨j, c, hj, e, rfl⟩)
      · obtain ⟨N, hN⟩ := some_of_len (F := F.modify (i + k) (· ++ [op a b])) h (sums1_len op a i bs _ _)
        exact .inl ⟨N, hN, (mod_mem hN).mpr (.inl ⟨M, hM, z⟩)⟩
      · cases j with
        | zero =>
          cases hj
          obtain ⟨N, hN⟩ := some_of_len (F := F.modify (i + k) (· ++ [op a b])) h (sums1_len op a i bs _ _)
          exact .inl ⟨N, hN, (mod_mem hN).mpr (.inr ⟨e, rfl⟩)⟩
        | succ j => exact .inr ⟨j, c, hj, by omega, rfl⟩
theorem sums_mem (B : List α) : ∀ (A : List α) (i : Nat) (F : List (List α)) (q : Nat) (L : List α) (x : α), (sums op B A i F)[q]? = some L → (x ∈ L ↔ (∃ M, F[q]? = some M ∧ x ∈ M) ∨ ∃ m a j b, A[m]? = some a ∧ B[j]? = some b ∧ i + m + j = q ∧ x = op a b)
  | [], i, F, q, L, x, h => by
    have h : F[q]? = some L := h
    exact ⟨fun z => .inl ⟨L, h, z⟩, fun z => z.elim (fun ⟨M, hM, z⟩ => by
      rw [h] at hM
      cases hM
      exact z) (fun ⟨m, a, j, b, z, _⟩ => by simp at z)⟩
  | a :: as, i, F, q, L, x, h => by
    have h : (sums op B as (i + 1) (sums1 op a i B 0 F))[q]? = some L := h
    rw [sums_mem B as (i + 1) _ q L x h]
    constructor
    · rintro (⟨M, hM, z⟩ | ⟨m, c, j, b, h1, h2, e, rfl⟩)
      · rcases (sums1_mem op a i B 0 F q M x hM).mp z with z | ⟨j, b, h2, e, rfl⟩
        · exact .inl z
        · exact .inr ⟨0, a, j, b, rfl, h2, by omega, rfl⟩
      · exact .inr ⟨m + 1, c, j, b, h1, h2, by omega, rfl⟩
    · obtain ⟨N, hN⟩ := some_of_len (F := sums1 op a i B 0 F) h (sums_len op B as _ _)
      rintro (z | ⟨m, c, j, b, h1, h2, e, rfl⟩)
      · exact .inl ⟨N, hN, (sums1_mem op a i B 0 F q N x hN).mpr (.inl z)⟩
      · cases m with
        | zero =>
          cases h1
          exact .inl ⟨N, hN, (sums1_mem op a i B 0 F q N _ hN).mpr (.inr ⟨j, b, h2, by omega, rfl⟩)⟩
        | succ m => exact .inr ⟨m, c, j, b, h1, h2, by omega, rfl⟩
theorem sumsBy_mem {A B : List α} {q : Nat} {L : List α} {x : α} (h : (sumsBy op A B)[q]? = some L) : x ∈ L ↔ ∃ m a j b, A[m]? = some a ∧ B[j]? = some b ∧ m + j = q ∧ x = op a b := by
  unfold sumsBy at h
  rw [sums_mem op B A 0 _ q L x h]
  constructor
  · rintro (⟨M, hM, z⟩ | ⟨m, a, j, b, h1, h2, e, rfl⟩)
    · rw [List.getElem?_replicate] at hM
      split at hM
      · cases hM
        simp at z
      · cases hM
    · exact ⟨m, a, j, b, h1, h2, by omega, rfl⟩
  · rintro ⟨m, a, j, b, h1, h2, e, rfl⟩
    exact .inr ⟨m, a, j, b, h1, h2, by omega, rfl⟩
end
/-- the first of the shortest -/
def minLen (L : List (List Str)) : List Str := L.getD (atMin (L.map List.length)) []
theorem minLen_mem {L : List (List Str)} (h : L ≠ []) : minLen L ∈ L := by
  have h1 := atMin_lt (ks := L.map List.length) (by intro z; exact h (List.map_eq_nil_iff.mp z))
  rw [List.length_map] at h1
  unfold minLen
  rw [List.getD_eq_getElem?_getD, List.getElem?_eq_getElem h1]
  exact List.getElem_mem h1
theorem minLen_le {L : List (List Str)} {x : List Str} (h : x ∈ L) : (minLen L).length ≤ x.length := by
  obtain ⟨j, hj, rfl⟩ := List.mem_iff_getElem.mp h
  have h1 := atMin_lt (ks := L.map List.length) (by intro z; rw [List.map_eq_nil_iff] at z; subst z; simp at hj)
  have h2 := atMin_le (ks := L.map List.length) (j := j) (by rw [List.length_map]; exact hj)
  rw [List.length_map] at h1
  unfold minLen
  rw [List.getD_eq_getElem?_getD, List.getElem?_eq_getElem h1]
  rw [List.getD_eq_getElem?_getD, List.getD_eq_getElem?_getD, List.getElem?_map, List.getElem?_map, List.getElem?_eq_getElem h1, List.getElem?_eq_getElem hj] at h2
  exact h2
abbrev Tab := List (List Str)
mutual
def Tr.few : Tr → Tab
  | .leaf x => [[], [x]]
  | .grp rs ps => (fewL ps [[]]).getD 0 [] :: rs.map fun r => (fewL ps [[]]).getD r.toNat []
def fewL : List Tr → Tab → Tab
  | [], T => T
  | p :: ps, T => fewL ps ((sumsBy (· ++ ·) T p.few).map minLen)
end
mutual
def Tr.fews : Tr → List Tab
  | .leaf x => [[[], [x]]]
  | .grp rs ps => ((fewL ps [[]]).getD 0 [] :: rs.map fun r => (fewL ps [[]]).getD r.toNat []) :: fewsL ps
def fewsL : List Tr → List Tab
  | [] => []
  | p :: ps => p.fews ++ fewsL ps
end
theorem fews_head (t : Tr) : t.fews[0]? = some t.few := by
  cases t with
  | leaf x => simp [Tr.fews, Tr.few]
  | grp rs ps => simp [Tr.fews, Tr.few]
theorem few_len (t : Tr) : t.few.length = t.width + 1 := by
  cases t with
  | leaf x => rfl
  | grp rs ps => simp [Tr.few, Tr.width]
theorem fewL_len : ∀ (ps : List Tr) (T : Tab), 1 ≤ T.length → (fewL ps T).length = T.length + intakeL ps
  | [], T, _ => by simp [fewL, intakeL]
  | p :: ps, T, h => by
    have e : ((sumsBy (· ++ ·) T p.few).map minLen).length = T.length + p.width := by
      rw [List.length_map, sumsBy_len, few_len]
      omega
    show (fewL ps ((sumsBy (· ++ ·) T p.few).map minLen)).length = T.length + (p.width + intakeL ps)
    rw [fewL_len ps _ (by rw [e]; omega), e]
    omega
/-- T tells for each number of low ends the fewest names of nm -/
structure Good (T : Tab) (lw : List Str → Nat) (nm : List Str) : Prop where
  sub : ∀ (j : Nat) (S : List Str), T[j]? = some S → ∀ x ∈ S, x ∈ nm
  nd : ∀ (j : Nat) (S : List Str), T[j]? = some S → S.Nodup
  lo : ∀ (j : Nat) (S : List Str), T[j]? = some S → ∀ s : List Str, (∀ x ∈ S, x ∈ s) → j ≤ lw s
  best : ∀ (j : Nat) (S : List Str), T[j]? = some S → ∀ s : List Str, j ≤ lw s → S.length ≤ (nm.filter fun x => decide (x ∈ s)).length
  top : ∀ s, lw s < T.length
theorem Good.join {A B : Tab} {la lb : List Str → Nat} {na nb : List Str} (g : Good A la na) (h : Good B lb nb) (dj : ∀ x ∈ na, x ∉ nb) : Good ((sumsBy (· ++ ·) A B).map minLen) (fun s => la s + lb s) (na ++ nb) := by
  have pick : ∀ (q : Nat) (S : List Str), ((sumsBy (· ++ ·) A B).map minLen)[q]? = some S → ∃ L, (sumsBy (· ++ ·) A B)[q]? = some L ∧ S = minLen L ∧ S ∈ L := fun q S e => by
    rw [List.getElem?_map] at e
    obtain ⟨L, hL, rfl⟩ := Option.map_eq_some_iff.mp e
    refine ⟨L, hL, rfl, minLen_mem fun z => ?_⟩
    have hq := (List.getElem?_eq_some_iff.mp hL).1
    rw [sumsBy_len] at hq
    have ha := g.top []
    have hb := h.top []
    have h1 : min q (A.length - 1) < A.length := by omega
    have h2 : q - min q (A.length - 1) < B.length := by omega
    have := (sumsBy_mem (· ++ ·) (x := A[min q (A.length - 1)] ++ B[q - min q (A.length - 1)]) hL).mpr ⟨_, _, _, _, List.getElem?_eq_getElem h1, List.getElem?_eq_getElem h2, by omega, rfl⟩
    rw [z] at this
    simp at this
  refine ⟨fun q S e x hx => ?_, fun q S e => ?_, fun q S e s hs => ?_, fun q S e s hs => ?_, fun s => ?_⟩
  · obtain ⟨L, hL, _, hm⟩ := pick q S e
    obtain ⟨m, a, j, b, h1, h2, _, rfl⟩ := (sumsBy_mem _ hL).mp hm
    rcases List.mem_append.mp hx with hx | hx
    · exact List.mem_append_left _ (g.sub _ _ h1 x hx)
    · exact List.mem_append_right _ (h.sub _ _ h2 x hx)
  · obtain ⟨L, hL, _, hm⟩ := pick q S e
    obtain ⟨m, a, j, b, h1, h2, _, rfl⟩ := (sumsBy_mem _ hL).mp hm
    refine List.nodup_append.mpr ⟨g.nd _ _ h1, h.nd _ _ h2, fun x hx y hy z => ?_⟩
    subst z
    exact dj x (g.sub _ _ h1 x hx) (h.sub _ _ h2 x hy)
  · obtain ⟨L, hL, _, hm⟩ := pick q S e
    obtain ⟨m, a, j, b, h1, h2, e2, rfl⟩ := (sumsBy_mem _ hL).mp hm
    have l1 := g.lo _ _ h1 s fun x hx => hs x (List.mem_append_left _ hx)
    have l2 := h.lo _ _ h2 s fun x hx => hs x (List.mem_append_right _ hx)
    show q ≤ la s + lb s
    omega
  · obtain ⟨L, hL, rfl, _⟩ := pick q S e
    have hs : q ≤ la s + lb s := hs
    have ta := g.top s
    have tb := h.top s
    have h1 : min q (la s) < A.length := by omega
    have h2 : q - min q (la s) < B.length := by omega
    have hm := (sumsBy_mem (· ++ ·) (x := A[min q (la s)] ++ B[q - min q (la s)]) hL).mpr ⟨_, _, _, _, List.getElem?_eq_getElem h1, List.getElem?_eq_getElem h2, by omega, rfl⟩
    have l := minLen_le hm
    rw [List.length_append] at l
    have b1 := g.best _ _ (List.getElem?_eq_getElem h1) s (by omega)
    have b2 := h.best _ _ (List.getElem?_eq_getElem h2) s (by omega)
    rw [List.filter_append, List.length_append]
    omega
  · rw [List.length_map, sumsBy_len]
    have ta := g.top s
    have tb := h.top s
    show la s + lb s < _
    omega
theorem count_ge {l : Int} : ∀ {rs : List Int}, Asc rs → ∀ {j : Nat} {r : Int}, rs[j]? = some r → (j + 1 ≤ (rs.filter fun q => decide (q ≤ l)).length ↔ r ≤ l)
  | [], _, j, r, h => by simp at h
  | q :: rs, ha, 0, r, h => by
    have h : q = r := Option.some.inj h
    subst h
    constructor
    · intro z
      by_cases c : q ≤ l
      · exact c
      · have e : (rs.filter fun q => decide (q ≤ l)) = [] := List.filter_eq_nil_iff.mpr fun y hy z => c (by
          have := List.rel_of_pairwise_cons ha hy
          have := of_decide_eq_true z
          omega)
        rw [List.filter_cons, if_neg (by rw [decide_eq_false c]; decide), e] at z
        simp at z
    · intro c
      rw [List.filter_cons, if_pos (decide_eq_true c), List.length_cons]
      omega
  | q :: rs, ha, j + 1, r, h => by
    have h : rs[j]? = some r := h
    have ih := count_ge (l := l) (List.Pairwise.of_cons ha) h
    have hq := List.rel_of_pairwise_cons ha (List.mem_of_getElem? h)
    by_cases c : q ≤ l
    · rw [List.filter_cons, if_pos (decide_eq_true c), List.length_cons]
      omega
    · have e : (rs.filter fun q => decide (q ≤ l)) = [] := List.filter_eq_nil_iff.mpr fun y hy z => c (by
        have := List.rel_of_pairwise_cons ha hy
        have := of_decide_eq_true z
        omega)
      rw [List.filter_cons, if_neg (by rw [decide_eq_false c]; decide), e]
      constructor
      · intro z
        simp at z
      · intro z
        omega
theorem good_nil : Good [[]] (fun _ => 0) [] := by
  refine ⟨fun j S e => ?_, fun j S e => ?_, fun j S e s _ => ?_, fun j S e s _ => ?_, fun s => by simp⟩ <;> cases j with
  | zero =>
    have e : [] = S := Option.some.inj e
    subst e
    first | (intro x hx; simp at hx; done) | exact List.nodup_nil | exact Nat.zero_le _
  | succ j => simp at e
mutual
theorem good_few : ∀ {t : Tr}, Ok t → Good t.few (fun s => t.low s) t.names
  | .leaf x, _ => by
    refine ⟨fun j S e => ?_, fun j S e => ?_, fun j S e s hs => ?_, fun j S e s hs => ?_, fun s => ?_⟩
    · match j, e with
      | 0, e =>
        have e : [] = S := Option.some.inj e
        subst e
        intro y hy
        simp at hy
      | 1, e =>
        have e : [x] = S := Option.some.inj e
        subst e
        exact fun y hy => hy
      | j + 2, e => simp [Tr.few] at e
    · match j, e with
      | 0, e =>
        have e : [] = S := Option.some.inj e
        subst e
        exact List.nodup_nil
      | 1, e =>
        have e : [x] = S := Option.some.inj e
        subst e
        simp
      | j + 2, e => simp [Tr.few] at e
    · match j, e with
      | 0, e => exact Nat.zero_le _
      | 1, e =>
        have e : [x] = S := Option.some.inj e
        subst e
        show 1 ≤ if x ∈ s then 1 else 0
        rw [if_pos (hs x (List.mem_singleton.mpr rfl))]
        exact Nat.le_refl _
      | j + 2, e => simp [Tr.few] at e
    · match j, e with
      | 0, e =>
        have e : [] = S := Option.some.inj e
        subst e
        exact Nat.zero_le _
      | 1, e =>
        have e : [x] = S := Option.some.inj e
        subst e
        have hs : 1 ≤ if x ∈ s then 1 else 0 := hs
        by_cases c : x ∈ s
        · show 1 ≤ ([x].filter _).length
          rw [List.filter_cons, if_pos (decide_eq_true c)]
          exact Nat.succ_le_succ (Nat.zero_le _)
        · rw [if_neg c] at hs
          omega
      | j + 2, e => simp [Tr.few] at e
    · show (if x ∈ s then 1 else 0) < 2
      split <;> omega
  | .grp rs ps, h => by
    have hasc : Asc rs := by cases h with | grp _ _ _ _ h5 _ => exact h5
    have hb : ∀ r ∈ rs, 1 ≤ r ∧ r ≤ (intakeL ps : Int) := by cases h with | grp _ _ _ _ _ h6 => exact h6
    have g : Good (fewL ps [[]]) (fun s => 0 + lowL s ps) ([] ++ namesL ps) := by
      cases h with
      | grp oks _ ndn _ _ _ => exact good_fewL oks good_nil (fun x hx => by simp at hx) ndn
    rw [List.nil_append] at g
    have gl : (fewL ps [[]]).length = 1 + intakeL ps := fewL_len ps [[]] (Nat.le_refl _)
    have at_ : ∀ r ∈ rs, (fewL ps [[]])[r.toNat]? = some ((fewL ps [[]]).getD r.toNat []) := fun r hr => by
      have := hb r hr
      rw [List.getD_eq_getElem?_getD, List.getElem?_eq_getElem (by rw [gl]; omega)]
      rfl
    have at0 : (fewL ps [[]])[0]? = some ((fewL ps [[]]).getD 0 []) := by
      rw [List.getD_eq_getElem?_getD, List.getElem?_eq_getElem (by rw [gl]; omega)]
      rfl
    have cs : ∀ (j : Nat) (S : List Str), (Tr.grp rs ps).few[j]? = some S → (j = 0 ∧ (fewL ps [[]])[0]? = some S) ∨ ∃ i r, j = i + 1 ∧ rs[i]? = some r ∧ (fewL ps [[]])[r.toNat]? = some S := fun j S e => by
      cases j with
      | zero =>
        have e : (fewL ps [[]]).getD 0 [] = S := Option.some.inj e
        exact .inl ⟨rfl, by rw [← e]; exact at0⟩
      | succ i =>
        have e : (rs.map fun r => (fewL ps [[]]).getD r.toNat [])[i]? = some S := e
        rw [List.getElem?_map] at e
        obtain ⟨r, hr, e⟩ := Option.map_eq_some_iff.mp e
        exact .inr ⟨i, r, rfl, hr, by rw [← e]; exact at_ r (List.mem_of_getElem? hr)⟩
    refine ⟨fun j S e => ?_, fun j S e => ?_, fun j S e s hs => ?_, fun j S e s hs => ?_, fun s => ?_⟩
    · rcases cs j S e with ⟨_, e⟩ | ⟨i, r, _, _, e⟩ <;> exact g.sub _ _ e
    · rcases cs j S e with ⟨_, e⟩ | ⟨i, r, _, _, e⟩ <;> exact g.nd _ _ e
    · rcases cs j S e with ⟨rfl, _⟩ | ⟨i, r, rfl, hr, e0⟩
      · exact Nat.zero_le _
      · have := g.lo _ _ e0 s hs
        have hb2 := hb r (List.mem_of_getElem? hr)
        exact (count_ge hasc hr).mpr (by omega)
    · rcases cs j S e with ⟨rfl, e0⟩ | ⟨i, r, rfl, hr, e0⟩
      · exact g.best _ _ e0 s (Nat.zero_le _)
      · have := (count_ge hasc hr).mp (show i + 1 ≤ (rs.filter fun q => decide (q ≤ (lowL s ps : Int))).length from hs)
        exact g.best _ _ e0 s (by show r.toNat ≤ 0 + lowL s ps; omega)
    · show (rs.filter _).length < _
      rw [few_len]
      have := List.length_filter_le (fun q => decide (q ≤ (lowL s ps : Int))) rs
      show _ < rs.length + 1
      omega
theorem good_fewL : ∀ {ps : List Tr} {T : Tab} {lw : List Str → Nat} {nm : List Str}, (∀ t ∈ ps, Ok t) → Good T lw nm → (∀ x ∈ nm, x ∉ namesL ps) → (namesL ps).Nodup → Good (fewL ps T) (fun s => lw s + lowL s ps) (nm ++ namesL ps)
  | [], T, lw, nm, _, g, _, _ => by
    rw [show nm ++ namesL [] = nm from List.append_nil _]
    exact g
  | p :: ps, T, lw, nm, oks, g, dj, nd => by
    have nd : (p.names ++ namesL ps).Nodup := nd
    obtain ⟨nd1, nd2, nd3⟩ := List.nodup_append.mp nd
    have g1 := g.join (good_few (oks p (List.mem_cons_self ..))) fun x hx z => dj x hx (List.mem_append_left _ z)
    have g2 := good_fewL (fun t ht => oks t (List.mem_cons_of_mem _ ht)) g1 (fun x hx z => by
      rcases List.mem_append.mp hx with hx | hx
      · exact dj x hx (List.mem_append_right _ z)
      · exact nd3 x hx x z rfl) nd2
    have e1 : (fun s => lw s + p.low s + lowL s ps) = fun s => lw s + lowL s (p :: ps) := by
      funext s
      show lw s + p.low s + lowL s ps = lw s + (p.low s + lowL s ps)
      omega
    have e2 : nm ++ p.names ++ namesL ps = nm ++ namesL (p :: ps) := by
      rw [List.append_assoc]
      rfl
    rw [← e1, ← e2]
    exact g2
end

def setsOf : List Str → List (List Str) → List (List Str)
  | [], F => F
  | x :: xs, F => setsOf xs (F ++ F.map (· ++ [x]))
theorem mem_sets : ∀ (xs : List Str) (F : List (List Str)) (s : List Str), s ∈ setsOf xs F ↔ ∃ u ∈ F, ∃ v : List Str, List.Sublist v xs ∧ s = u ++ v
  | [], F, s => ⟨fun h => ⟨s, h, [], List.nil_sublist _, (List.append_nil _).symm⟩, fun ⟨u, hu, v, hv, e⟩ => by
    rw [List.sublist_nil.mp hv, List.append_nil] at e
    rw [e]
    exact hu⟩
  | x :: xs, F, s => by
    show s ∈ setsOf xs (F ++ F.map (· ++ [x])) ↔ _
    rw [mem_sets xs]
    constructor
    · rintro ⟨u, hu, v, hv, rfl⟩
      rcases List.mem_append.mp hu with hu | hu
      · exact ⟨u, hu, v, List.Sublist.cons _ hv, rfl⟩
      · obtain ⟨u0, hu0, rfl⟩ := List.mem_map.mp hu
        exact ⟨u0, hu0, x :: v, List.Sublist.cons_cons _ hv, by simp⟩
    · rintro ⟨u, hu, v, hv, rfl⟩
      cases hv with
      | cons _ h => exact ⟨u, List.mem_append_left _ hu, v, h, rfl⟩
      | @cons_cons v' _ _ h => exact ⟨u ++ [x], List.mem_append_right _ (List.mem_map.mpr ⟨u, hu, rfl⟩), v', h, by simp⟩
theorem mem_sets1 {xs s : List Str} : s ∈ setsOf xs [[]] ↔ List.Sublist s xs := by
  rw [mem_sets]
  constructor
  · rintro ⟨u, hu, v, hv, rfl⟩
    rw [List.mem_singleton.mp hu]
    exact hv
  · intro h
    exact ⟨[], List.mem_singleton.mpr rfl, s, h, rfl⟩
theorem sets_len : ∀ (xs : List Str) (F : List (List Str)), (setsOf xs F).length = F.length * 2 ^ xs.length
  | [], F => by simp [setsOf]
  | x :: xs, F => by
    show (setsOf xs (F ++ F.map (· ++ [x]))).length = _
    rw [sets_len xs, List.length_append, List.length_map, List.length_cons, Nat.pow_succ]
    have : (F.length + F.length) * 2 ^ xs.length = F.length * (2 ^ xs.length * 2) := by
      rw [← Nat.two_mul, Nat.mul_assoc, Nat.mul_left_comm, Nat.mul_comm 2]
    exact this
theorem filt_self {xs s : List Str} (nd : xs.Nodup) (h : List.Sublist s xs) : (xs.filter fun x => decide (x ∈ s)) = s := by
  induction h with
  | slnil => rfl
  | @cons s xs x h ih =>
    have nx : x ∉ s := fun z => (List.nodup_cons.mp nd).1 (h.subset z)
    rw [List.filter_cons, if_neg (by rw [decide_eq_false nx]; decide)]
    exact ih (List.nodup_cons.mp nd).2
  | @cons_cons s xs x h ih =>
    have nx := (List.nodup_cons.mp nd).1
    rw [List.filter_cons, if_pos (by simp)]
    refine congrArg (List.cons x) ?_
    refine Eq.trans (List.filter_congr fun y hy => ?_) (ih (List.nodup_cons.mp nd).2)
    refine decide_eq_decide.mpr ⟨fun z => ?_, fun z => List.mem_cons_of_mem _ z⟩
    rcases List.mem_cons.mp z with z | z
    · exact absurd (by rw [← z]; exact hy) nx
    · exact z
theorem filt_len {xs S : List Str} (nd : xs.Nodup) (ns : S.Nodup) (h : ∀ x ∈ S, x ∈ xs) : (xs.filter fun x => decide (x ∈ S)).length = S.length := by
  refine List.Perm.length_eq ((List.perm_ext_iff_of_nodup (nd.filter _) ns).mpr fun x => ?_)
  rw [List.mem_filter, decide_eq_true_iff]
  exact ⟨fun z => z.2, fun z => ⟨h x z, z⟩⟩
def Tr.lr (t : Tr) (k : Nat) : Nat := (t.few.getD k []).length
theorem few_at {t : Tr} {k : Nat} (h : k ≤ t.width) : t.few[k]? = some (t.few.getD k []) := by
  rw [List.getD_eq_getElem?_getD, List.getElem?_eq_getElem (by rw [few_len]; omega)]
  rfl
theorem least_ex {t : Tr} (h : Ok t) (nd : t.names.Nodup) {k : Nat} (hk : k ≤ t.width) : ∃ s, s ∈ setsOf t.names [[]] ∧ k ≤ t.low s ∧ s.length = t.lr k := by
  have g := good_few h
  have e := few_at hk
  refine ⟨t.names.filter fun x => decide (x ∈ t.few.getD k []), mem_sets1.mpr List.filter_sublist, g.lo _ _ e _ fun x hx => List.mem_filter.mpr ⟨g.sub _ _ e x hx, decide_eq_true hx⟩, ?_⟩
  exact filt_len nd (g.nd _ _ e) (g.sub _ _ e)
theorem least_le {t : Tr} (h : Ok t) (nd : t.names.Nodup) {k : Nat} (hk : k ≤ t.width) {s : List Str} (hs : s ∈ setsOf t.names [[]]) (hl : k ≤ t.low s) : t.lr k ≤ s.length := by
  have g := good_few h
  have := g.best _ _ (few_at hk) s hl
  rw [filt_self nd (mem_sets1.mp hs)] at this
  exact this
theorem compl_len (xs s : List Str) : (xs.filter fun x => decide (x ∈ s)).length + (xs.filter fun x => decide (x ∉ s)).length = xs.length := by
  induction xs with
  | nil => rfl
  | cons x xs ih =>
    rw [List.filter_cons, List.filter_cons]
    by_cases c : x ∈ s
    · rw [if_pos (decide_eq_true c), if_neg (by simpa using c), List.length_cons, List.length_cons]
      omega
    · rw [if_neg (by simpa using c), if_pos (decide_eq_true c), List.length_cons, List.length_cons]
      omega
theorem great_le {t : Tr} (h : Ok t) (nd : t.names.Nodup) {k : Nat} (h1 : 1 ≤ k) (hk : k ≤ t.width) {s : List Str} (hs : s ∈ setsOf t.names [[]]) (hl : t.low s < k) : s.length + t.mirror.lr (t.width + 1 - k) ≤ t.names.length := by
  have g := good_few h.mirror
  have e := few_at (t := t.mirror) (k := t.width + 1 - k) (by rw [mirror_width]; omega)
  have tu := low_turn (t.names.filter fun x => decide (x ∉ s)) s t fun x hx => by
    rw [List.mem_filter, decide_eq_true_iff]
    exact ⟨fun z y => y.2 z, fun z => Classical.byContradiction fun y => z ⟨hx, y⟩⟩
  have b := g.best _ _ e (t.names.filter fun x => decide (x ∉ s)) (by show _ ≤ t.mirror.low _; omega)
  rw [mirror_names] at b
  have c := compl_len t.names s
  rw [filt_self nd (mem_sets1.mp hs)] at c
  have d : (t.names.filter fun x => decide (x ∈ t.names.filter fun y => decide (y ∉ s))).length = (t.names.filter fun x => decide (x ∉ s)).length := by
    rw [filt_self nd List.filter_sublist]
  rw [d] at b
  show s.length + (t.mirror.few.getD (t.width + 1 - k) []).length ≤ _
  omega
theorem great_ex {t : Tr} (h : Ok t) (nd : t.names.Nodup) {k : Nat} (h1 : 1 ≤ k) (hk : k ≤ t.width) : ∃ s, s ∈ setsOf t.names [[]] ∧ t.low s < k ∧ s.length + t.mirror.lr (t.width + 1 - k) = t.names.length := by
  have g := good_few h.mirror
  have e := few_at (t := t.mirror) (k := t.width + 1 - k) (by rw [mirror_width]; omega)
  have hsub := g.sub _ _ e
  have hnd := g.nd _ _ e
  rw [mirror_names] at hsub
  refine ⟨t.names.filter fun x => decide (x ∉ t.mirror.few.getD (t.width + 1 - k) []), mem_sets1.mpr List.filter_sublist, ?_, ?_⟩
  · have lo := g.lo _ _ e (t.mirror.few.getD (t.width + 1 - k) []) fun x hx => hx
    have tu := low_turn (t.mirror.few.getD (t.width + 1 - k) []) (t.names.filter fun x => decide (x ∉ t.mirror.few.getD (t.width + 1 - k) [])) t fun x hx => by
      rw [List.mem_filter, decide_eq_true_iff]
      exact ⟨fun z => z.2, fun z => ⟨hx, z⟩⟩
    have lo : t.width + 1 - k ≤ t.mirror.low (t.mirror.few.getD (t.width + 1 - k) []) := lo
    omega
  · have c := compl_len t.names (t.mirror.few.getD (t.width + 1 - k) [])
    rw [filt_len nd hnd hsub] at c
    show _ + (t.mirror.few.getD (t.width + 1 - k) []).length = _
    omega
end Rk
set_option Elab.async false
set_option linter.all false
set_option maxRecDepth 100000
set_option maxHeartbeats 4000000
namespace Rk
open PySem PySem.Spec PyProof.Rows L2 RkO Rx
open Evl (Ev EvT EvA EvL EvU EvO Ex RC RCL SpV SpL)
section
variable {P : Program} {w : World} {K : PySem.W.Frag} {mg : Str → Option Value} {base : Heap}
theorem int_whole {K : PySem.W.Frag} {H : Hp} {j : Int} {Q : VK} {E : XK} (q : Q (.bl true) H) : spIsWhole K [.int j] H Q E := ⟨_, _, true, false, rfl, .base (.int j), (show PySem.W.kitOne _ (.type "int") (.type "int") = some true by rfl), fun _ => kit_ty (by decide +kernel), q⟩
def spIsEnd (cL cG : Addr) : Sp := fun vs H Q _ => ∃ (v : V) (t : Tr) (j : Int), vs = [v, .int j] ∧ TAt cL cG H v t ∧ ∀ H', Same H H' → Q (.bl (decide (1 ≤ j) && decide (j ≤ (t.width : Int)))) H'
theorem ok_is_end (T : Txt K mg) : FnOk P w K mg base CX0 3 T.f_is_end T.d_is_end ["tree", "j"] (spIsEnd T.a_Leaf T.a_Group) := by
  refine T.F_is_end.ok sc_is_end (fun vs H Q E h => ?_) (fun cdv A outer s H vs Q E hr h => ?_)
  · obtain ⟨_, _, _, rfl, _⟩ := h
    rfl
  obtain ⟨v, t, j, rfl, ht, q⟩ := h
  refine ⟨_, (pss_one (ps_ret (pe_and (pe_call (ok_is_whole T) (hr.mono (by decide)) rfl T.m_is_whole T.F_is_whole.kp T.b_is_whole .nil pass0 (pa_cons (pv 1) pa_nil)) (pe_one (pe_chain op_le op_le pe_int (pv 1) (pe_width (T := T) rfl (pv 0) (ok_Leaf_width T) (ok_Group_width T) (hr.mono (by decide)) rfl)))))), ?_⟩
  refine Evl.s_ret (v := .bl (decide (1 ≤ j) && decide (j ≤ (t.width : Int)))) ?_ fun H1 e1 => q H1 e1
  refine Evl.ev_is (ev_andB (a := true) (Evl.ev_call (Evl.ea_cons (Evl.ev_var rfl) Evl.ea_nil) fun H2 e2 Q q E => int_whole (q H2 (Ex.refl H2))) fun _ => ev_chain (b := decide (1 ≤ j)) (c := decide (j ≤ (t.width : Int))) Evl.ev_c (Evl.ev_var rfl) Evl.rv_I0 (fun _ => rd_width (Evl.ev_var rfl) ht) (fun _ => Evl.rv_I0)) ?_
  simp
def spCheckEnd (cL cG : Addr) : Sp := fun vs H Q _ => ∃ (v : V) (t : Tr) (j : Int), vs = [v, .int j] ∧ TAt cL cG H v t ∧ 1 ≤ j ∧ j ≤ (t.width : Int) ∧ ∀ H', Same H H' → Q .non H'
theorem ok_check_end (T : Txt K mg) : FnOk P w K mg base CX0 4 T.f_check_end T.d_check_end ["tree", "j"] (spCheckEnd T.a_Leaf T.a_Group) := by
  refine T.F_check_end.ok sc_check_end (fun vs H Q E h => ?_) (fun cdv A outer s H vs Q E hr h => ?_)
  · obtain ⟨_, _, _, rfl, _⟩ := h
    rfl
  obtain ⟨v, t, j, rfl, ht, h1, h2, q⟩ := h
  refine ⟨_, (pss_cons (ps_if (pt_not (pt_val (pe_call (ok_is_tree T) (hr.mono (by decide)) rfl T.m_is_tree T.F_is_tree.kp T.b_is_tree .nil pass0 (pa_cons (pv 0) pa_nil)))) (pss_one ps_never) pss_nil)
  (pss_one (ps_if (pt_not (pt_val (pe_call (ok_is_end T) (hr.mono (by decide)) rfl T.m_is_end T.F_is_end.kp T.b_is_end .nil pass0 (pa_cons (pv 0) (pa_cons (pv 1) pa_nil))))) (pss_one ps_never) pss_nil))), ?_⟩
  refine un_seq <| un_ifS ⟨_, rfl, _, t, rfl, ht, fun H1 e1 => ⟨_, rfl, iteF (nxt ?_)⟩⟩
  dsimp only
  refine un_ifS ⟨_, rfl, _, rfl, _, t, j, rfl, ht.mono e1, fun H2 e2 => ⟨_, rfl, ?_⟩⟩
  rw [decide_eq_true h1, decide_eq_true h2]
  exact iteF (q H2 (e1.trans e2))
end
end Rk
set_option Elab.async false
set_option linter.all false
set_option maxRecDepth 100000
set_option maxHeartbeats 4000000
namespace Rk
open PySem PySem.Spec PyProof.Rows L2 RkO Rx
open Evl (Ev EvT EvA EvL EvU EvO Ex RC RCL SpV SpL)
theorem sums1_snoc {α : Type} (op : α → α → α) (a b : α) (i : Nat) : ∀ (B : List α) (k : Nat) (F : List (List α)), sums1 op a i (B ++ [b]) k F = (sums1 op a i B k F).modify (i + k + B.length) (· ++ [op a b])
  | [], k, F => rfl
  | c :: bs, k, F => by
    show sums1 op a i (bs ++ [b]) (k + 1) _ = _
    rw [sums1_snoc op a b i bs (k + 1)]
    show _ = (sums1 op a i bs (k + 1) _).modify _ _
    rw [show i + (k + 1) + bs.length = i + k + (c :: bs).length by rw [List.length_cons]; omega]
theorem sums_snoc {α : Type} (op : α → α → α) (a : α) (B : List α) : ∀ (A : List α) (i : Nat) (F : List (List α)), sums op B (A ++ [a]) i F = sums1 op a (i + A.length) B 0 (sums op B A i F)
  | [], i, F => rfl
  | c :: as, i, F => by
    show sums op B (as ++ [a]) (i + 1) _ = _
    rw [sums_snoc op a B as (i + 1)]
    show _ = sums1 op a (i + (c :: as).length) B 0 (sums op B as (i + 1) _)
    rw [show i + 1 + as.length = i + (c :: as).length by rw [List.length_cons]; omega]
def RS (s : List Str) : Rel := fun H v => ∃ a, v = .ref a ∧ H a = some (.lst (s.map V.str))
theorem mon_RS {s : List Str} : MonV (RS s) := fun _ _ _ ⟨a, e, h⟩ x => ⟨a, e, x _ _ h⟩
def RTab (T : Tab) : Rel := RL (T.map RS)
theorem mons_RS {T : Tab} : MonA (T.map RS) := MonA.map fun _ _ => mon_RS
theorem mon_RTab {T : Tab} : MonV (RTab T) := mon_RL mons_RS
theorem mons_RTab {Ts : List Tab} : MonA (Ts.map RTab) := MonA.map fun _ _ => mon_RTab
section
variable {K : PySem.W.Frag} {σ : L2.St} {H : Hp}
/-- [[] for _ in range(n)] -/
theorem lc_news {ta : TA} {j n : Nat} {vs : List Nat} {Q : VK} (h : EvA ta σ H [.int (n : Int)]) (hn : n ≤ 40000) (hw : ∀ x, wipe ((wipe σ vs).set j (some x)) vs = wipe σ vs)
    (q : ∀ (f : Addr) (fs : List Addr) H', Ex H H' → H f = none → fs.length = n → fs.Nodup → (∀ b ∈ fs, H b = none ∧ b ≠ f ∧ H' b = some (.lst [])) → H' f = some (.lst (fs.map V.ref)) → Q (.ref f) H') :
    tLc (iRng1 ta) (gName j) tYes (tLst tNil) vs σ H Q := h H (Ex.refl _) _ fun H1 e1 => ⟨_, rfl, by omega, by omega, fun D hD => lc_range (lo := 0) (n := ((n : Int)).toNat) (fun i H' => Ex H1 H' ∧ ∃ fs : List Addr, fs.length = i ∧ fs.Nodup ∧ (∀ b ∈ fs, H1 b = none ∧ b ≠ D ∧ H' b = some (.lst [])) ∧ H' D = some (.lst (fs.map V.ref)))
    ⟨Ex.new hD, [], rfl, List.nodup_nil, fun b hb => by simp at hb, upd_same⟩ (fun i H' hi p => by
      obtain ⟨p1, fs, p2, p3, p4, p5⟩ := p
      refine ⟨hw _, ?_⟩
      simp only [tYes, ↓reduceIte]
      refine ⟨(by show 0 ≤ sizeLine; decide), fun b nb => ⟨_, by rw [upd_ne (ne_of_none p5 nb)]; exact p5, Evl.sz_lt (by rw [List.length_map, p2]; omega), ?_, fs ++ [b], by rw [List.length_append, p2]; rfl, ?_, ?_, by rw [upd_same, List.map_append]; rfl⟩⟩
      · exact (p1.trans (Ex.new nb)).mut hD
      · refine List.nodup_append.mpr ⟨p3, by simp, fun x hx y hy z => ?_⟩
        rw [List.mem_singleton.mp hy] at z
        have := (p4 x hx).2.2
        rw [z, nb] at this
        cases this
      · intro c hc
        rcases List.mem_append.mp hc with hc | hc
        · obtain ⟨c1, c2, c3⟩ := p4 c hc
          exact ⟨c1, c2, by rw [upd_ne c2, upd_ne (ne_of_none c3 nb)]; exact c3⟩
        · rw [List.mem_singleton.mp hc]
          have nd : b ≠ D := fun z => by rw [z, p5] at nb; cases nb
          exact ⟨Evl.fresh_back p1 nb, nd, by rw [upd_ne nd, upd_same]⟩) (fun H' p => by
      obtain ⟨p1, fs, p2, p3, p4, p5⟩ := p
      exact q D fs H' (e1.trans p1) (Evl.fresh_back e1 hD) (by omega) p3 (fun b hb => ⟨Evl.fresh_back e1 (p4 b hb).1, (p4 b hb).2⟩) p5)⟩
end
/-- the lists at fs hold F -/
def Holds {α : Type} (R : α → Rel) (fs : List Addr) (F : List (List α)) (m : Nat) (H : Hp) : Prop := ∀ (q : Nat) (b : Addr) (L : List α), fs[q]? = some b → F[q]? = some L → ∃ us, H b = some (.lst us) ∧ us.length ≤ m ∧ AllR (L.map R) (hid (fun b => decide (b ∈ fs)) H) us
theorem Holds.add {α : Type} {R : α → Rel} (mR : ∀ a, MonV (R a)) {fs : List Addr} {F : List (List α)} {m q : Nat} {H H1 : Hp} {b p : Addr} {us : List V} {x : α} (h : Holds R fs F m H) (nd : fs.Nodup) (e : Ex H H1) (hb : fs[q]? = some b) (hu : H b = some (.lst us))
    (rx : R x (hid (fun b => decide (b ∈ fs)) H1) (.ref p)) : Holds R fs (F.modify q (· ++ [x])) (m + 1) (upd H1 b (.lst (us ++ [.ref p]))) := by
  have hm : (fun c => decide (c ∈ fs)) b = true := decide_eq_true (List.mem_of_getElem? hb)
  intro q' b' L' hb' hL'
  rw [hid_upd_t hm]
  rw [List.getElem?_modify] at hL'
  obtain ⟨L, hL, eL⟩ := Option.map_eq_some_iff.mp hL'
  obtain ⟨us', hu', hl, ha⟩ := h q' b' L hb' hL
  have ha1 := ha.mono (MonA.map fun a _ => mR a) (hid_ex e)
  by_cases hq : q = q'
  · subst hq
    rw [hb] at hb'
    cases hb'
    rw [hu] at hu'
    cases hu'
    rw [if_pos rfl] at eL
    subst eL
    refine ⟨_, upd_same, by rw [List.length_append]; exact Nat.succ_le_succ hl, ?_⟩
    rw [List.map_append]
    exact ha1.app (AllR.one rx)
  · rw [if_neg hq] at eL
    cases eL
    have nb : b' ≠ b := fun z => by
      subst z
      obtain ⟨h1, e1⟩ := List.getElem?_eq_some_iff.mp hb
      obtain ⟨h2, e2⟩ := List.getElem?_eq_some_iff.mp hb'
      exact hq ((List.getElem_inj nd).mp (e1.trans e2.symm))
    exact ⟨us', by rw [upd_ne nb]; exact e _ _ hu', Nat.le_succ_of_le hl, ha1⟩
theorem Holds.same {α : Type} {R : α → Rel} (mR : ∀ a, MonV (R a)) {fs : List Addr} {F : List (List α)} {m : Nat} {H H1 : Hp} (h : Holds R fs F m H) (e : Ex H H1) : Holds R fs F m H1 := fun q b L hb hL => by
  obtain ⟨us, hu, hl, ha⟩ := h q b L hb hL
  exact ⟨us, e _ _ hu, hl, ha.mono (MonA.map fun a _ => mR a) (hid_ex e)⟩
theorem Holds.list {α : Type} {R : α → Rel} (mR : ∀ a, MonV (R a)) {m : Nat} {H : Hp} : ∀ {fs : List Addr} {F : List (List α)}, fs.length = F.length → Holds R fs F m H → AllR (F.map fun (L : List α) => RL (L.map R)) H (fs.map V.ref) := by
  intro fs F hl h
  suffices ∀ (gs : List Addr) (G : List (List α)), gs.length = G.length → (∀ (q : Nat) (b : Addr) (L : List α), gs[q]? = some b → G[q]? = some L → RL (L.map R) H (.ref b)) → AllR (G.map fun (L : List α) => RL (L.map R)) H (gs.map V.ref) from
    this fs F hl fun q b L hb hL => by
      obtain ⟨us, hu, _, ha⟩ := h q b L hb hL
      exact ⟨b, us, rfl, hu, ha.mono (MonA.map fun a _ => mR a) Rx.hid_le⟩
  intro gs
  induction gs with
  | nil =>
    intro G hl _
    cases G with
    | nil => rfl
    | cons _ _ => cases hl
  | cons g gs ih =>
    intro G hl h
    cases G with
    | nil => cases hl
    | cons L G => exact ⟨_, _, rfl, h 0 g L rfl rfl, ih G (Nat.succ.inj hl) fun q b L hb hL => h (q + 1) b L hb hL⟩
section
variable {P : Program} {w : World} {K : PySem.W.Frag} {mg : Str → Option Value} {base : Heap}
def spSums : Sp := fun vs H Q _ => ∃ (v u : V) (A B : Tab), vs = [v, u] ∧ RTab A H v ∧ RTab B H u ∧ 1 ≤ A.length ∧ A.length ≤ 200 ∧ B.length ≤ 200 ∧ (∀ s ∈ A, s.length ≤ 1000) ∧ (∀ s ∈ B, s.length ≤ 1000) ∧ ∀ v' H', Same H H' → RL ((sumsBy (· ++ ·) A B).map RTab) H' v' → Q v' H'
theorem ok_sums_by_place (T : Txt K mg) : FnOk P w K mg base CX0 1 T.f_sums_by_place T.d_sums_by_place ["one", "other"] spSums := by
  refine T.F_sums_by_place.ok sc_sums_by_place (fun vs H Q E h => ?_) (fun cdv A outer s H vs Q E hr h => ?_)
  · obtain ⟨_, _, _, _, rfl, _⟩ := h
    rfl
  obtain ⟨v, u, A, B, rfl, hA, hB, a1, a2, b2, sA, sB, q⟩ := h
  refine ⟨_, (pss_cons (ps_setLc (i := 2) (own := [("_", 7)]) rfl sc_sums_by_place.nd rfl rfl (sw_true rfl rfl rfl (by decide +kernel))  (pi_range1 rfl T.m_range (pa_cons (pe_op op_sub (pe_op op_add (pe_callB call_len_seq (by rfl) T.m_len PySem.boot_len (pa_cons (pv 0) pa_nil)) (pe_callB call_len_seq (by rfl) T.m_len PySem.boot_len (pa_cons (pv 1) pa_nil))) pe_int) pa_nil)) (blkOk_by (own := [("_", 7)]) (N := ["one", "other", "found", "at", "item", "beside", "more", "_"]) (sc := defScope s_sums_by_place) (by decide +kernel)) (fun _ _ _ _ _ => (pg_name (i := 7) sc_sums_by_place.nd rfl (.inl rfl))) (fun _ _ _ _ _ => pts_nil) (fun _ _ _ _ _ => (pe_lst pa_nil)))
  (pss_cons (ps_for PassesOwn.never rfl (pi_enum rfl T.m_enumerate (pa_cons (pv 0) pa_nil)) (pg_tup rfl (pgs_cons (pg_name (i := 3) sc_sums_by_place.nd rfl (.inl rfl)) (pgs_cons (pg_name (i := 4) sc_sums_by_place.nd rfl (.inl rfl)) pgs_nil)))
    (pss_one (ps_for PassesOwn.never rfl (pi_enum rfl T.m_enumerate (pa_cons (pv 1) pa_nil)) (pg_tup rfl (pgs_cons (pg_name (i := 5) sc_sums_by_place.nd rfl (.inl rfl)) (pgs_cons (pg_name (i := 6) sc_sums_by_place.nd rfl (.inl rfl)) pgs_nil)))
      (pss_one (ps_expr (pe_bm PySem.F.plainAttrs_list PySem.F.slot_list_append PySem.F.type_list_append mt_append (pe_ix ix_list (pv 2) (pe_op op_add (pv 3) (pv 5)) (fun _ _ => rfl)) (pa_cons (pe_op op_cat (pv 4) (pv 6)) pa_nil)))))))
  (pss_one (ps_ret (pv 2))))), ?_⟩
  obtain ⟨a, as, rfl, ha, hAs⟩ := hA
  obtain ⟨b, bs, rfl, hb, hBs⟩ := hB
  have lA : as.length = A.length := by rw [hAs.len, List.length_map]
  have lB : bs.length = B.length := by rw [hBs.len, List.length_map]
  refine un_seq <| lc_news (n := A.length + B.length - 1) ?_ (by omega) (fun x => rfl) fun f fs H1 e1 nf hl nd hfs hf => ?_
  · refine Evl.ea_cons (Evl.ev_is (Evl.ev_op (Evl.ev_op (Evl.ev_len (Evl.ev_var rfl) (SqL.of ha)) (Evl.ev_len (Evl.ev_var rfl) (SqL.of hb)) Evl.rv_I0) Evl.ev_c Evl.rv_I0) ?_) Evl.ea_nil
    rw [lA, lB]
    refine congrArg V.int ?_
    omega
  have hff : f ∉ fs := fun z => (hfs f z).2.1 rfl
  have base : ∀ H', Ex H H' → ∀ b ∈ fs, H b = none := fun H' _ b hb => (hfs b hb).1
  refine un_seq <| for_enum (Evl.ea_cons (Evl.ev_var rfl) Evl.ea_nil) (e1 _ _ ha) (fun i σ' H' => ∃ x1 x2 x3 x4, σ' = [some (.ref a), some (.ref b), some (.ref f), x1, x2, x3, x4, none] ∧ Ex H H' ∧ H' f = some (.lst (fs.map V.ref)) ∧ Holds RS fs (sums (· ++ ·) B (A.take i) 0 (List.replicate (A.length + B.length - 1) [])) (i * B.length) H') (fun H2 e2 => ⟨_, _, _, _, rfl, e1.trans e2, e2 _ _ hf, fun q b' L hb' hL => ?_⟩) (fun i σ' H' hi p => p.elim fun x1 p => p.elim fun x2 p => p.elim fun x3 p => p.elim fun x4 p => p.2.1 _ _ ha) (fun i x σ' H' t1 hi p hx nt => ?_) (fun σ' H' p => ?_)
  · have hL : (List.replicate (A.length + B.length - 1) ([] : List (List Str)))[q]? = some L := hL
    rw [List.getElem?_replicate] at hL
    split at hL
    · cases hL
      exact ⟨[], e2 _ _ (hfs b' (List.mem_of_getElem? hb')).2.2, Nat.zero_le _, rfl⟩
    · cases hL
  · obtain ⟨x1, x2, x3, x4, rfl, eH, hf', hH⟩ := p
    have hiA : i < A.length := by omega
    have eT := Ex.new (o := .tup [.int (i : Int), x]) nt
    refine for_enum (xs := bs) (Evl.ea_cons (Evl.ev_var rfl) Evl.ea_nil) ((eH.trans eT) _ _ hb) (fun k σ' H'' => ∃ x3 x4, σ' = [some (.ref a), some (.ref b), some (.ref f), some (.int (i : Int)), some x, x3, x4, none] ∧ Ex H H'' ∧ H'' f = some (.lst (fs.map V.ref)) ∧ Holds RS fs (sums1 (· ++ ·) A[i] i (B.take k) 0 (sums (· ++ ·) B (A.take i) 0 (List.replicate (A.length + B.length - 1) []))) (i * B.length + k) H'') (fun H2 e2 => ⟨_, _, rfl, (eH.trans eT).trans e2, (eT.trans e2) _ _ hf', hH.same (fun a => mon_RS) (eT.trans e2)⟩) (fun k σ' H'' hk p => p.elim fun x3 p => p.elim fun x4 p => p.2.1 _ _ hb) (fun k y σ' H'' t2 hk p hy nt2 => ?_) (fun σ' H'' p => ?_)
    · obtain ⟨x3, x4, rfl, eH2, hf2, hH2⟩ := p
      have hkB : k < B.length := by omega
      have eT2 := Ex.new (o := .tup [.int (k : Int), y]) nt2
      have hS2 := hH2.same (fun a => mon_RS) eT2
      have e3 := eH2.trans eT2
      have hq : i + k < fs.length := by omega
      obtain ⟨x', hx', ⟨ai, rfl, hai⟩⟩ := hAs.get (i := i) (R := RS A[i]) (by rw [List.getElem?_map, List.getElem?_eq_getElem hiA]; rfl)
      rw [hx] at hx'
      cases hx'
      obtain ⟨y', hy', ⟨bk, rfl, hbk⟩⟩ := hBs.get (i := k) (R := RS B[k]) (by rw [List.getElem?_map, List.getElem?_eq_getElem hkB]; rfl)
      rw [hy] at hy'
      cases hy'
      have hFl : (sums1 (· ++ ·) A[i] i (B.take k) 0 (sums (· ++ ·) B (A.take i) 0 (List.replicate (A.length + B.length - 1) []))).length = A.length + B.length - 1 := by rw [sums1_len, sums_len, List.length_replicate]
      have hb1 : fs[i + k]? = some fs[i + k] := List.getElem?_eq_getElem hq
      obtain ⟨us, hu, hul, hal⟩ := hS2 (i + k) fs[i + k] _ hb1 (List.getElem?_eq_getElem (by rw [hFl]; omega))
      refine un_drop ?_
      refine ⟨_, rfl, _, rfl, _, rfl, _, _, rfl, rfl, f, _, _, V.ref fs[i + k], rfl, rfl, SqL.of (eT2 _ _ hf2), ?_, .inl ⟨rfl, _, SqL.of hu⟩, _, rfl, _, rfl, ai, bk, _, _, rfl, rfl, e3 _ _ hai, e3 _ _ hbk, ?_, fun p np => ⟨_, us, _, rfl, rfl, ?_, ?_, ?_⟩⟩
      · rw [show (i : Int) + (k : Int) = ((i + k : Nat) : Int) by omega]
        exact atI_nat (by rw [List.getElem?_map, hb1]; rfl)
      · rw [List.length_map, List.length_map]
        have h1 := sA A[i] (List.getElem_mem hiA)
        have h2 := sB B[k] (List.getElem_mem hkB)
        exact Evl.sz_of (by omega)
      · rw [upd_ne (ne_of_none hu np)]
        exact hu
      · have h1 : i * B.length ≤ 200 * 200 := Nat.mul_le_mul (by omega) b2
        exact Evl.sz_lt (by omega)
      · have hin : fs[i + k] ∈ fs := List.getElem_mem hq
        have eP := Ex.new (o := .lst (A[i].map V.str ++ B[k].map V.str)) np
        have tk : B.take (k + 1) = B.take k ++ [B[k]] := by rw [List.take_add_one, List.getElem?_eq_getElem hkB]; rfl
        have pfs : p ∉ fs := fun z => by
          obtain ⟨m, hm1, hm2⟩ := List.mem_iff_getElem.mp z
          obtain ⟨us2, hu2, _, _⟩ := hS2 m p _ (by rw [← hm2]; exact List.getElem?_eq_getElem hm1) (List.getElem?_eq_getElem (by rw [hFl]; omega))
          rw [hu2] at np
          cases np
        refine ⟨_, _, rfl, (e3.trans eP).mut (hfs _ hin).1, ?_, ?_⟩
        · rw [upd_ne (fun z => hff (by rw [z]; exact hin))]
          exact (eT2.trans eP) _ _ hf2
        · rw [tk, sums1_snoc, show i + 0 + (B.take k).length = i + k by rw [List.length_take]; omega]
          refine hS2.add (fun a => mon_RS) nd eP hb1 hu ⟨p, rfl, ?_⟩
          rw [hid_f (decide_eq_false pfs), upd_same, List.map_append]
    · obtain ⟨x3, x4, rfl, eH2, hf2, hH2⟩ := p
      refine ⟨_, _, _, _, rfl, eH2, hf2, ?_⟩
      have tk : A.take (i + 1) = A.take i ++ [A[i]] := by rw [List.take_add_one, List.getElem?_eq_getElem hiA]; rfl
      rw [tk, sums_snoc, show 0 + (A.take i).length = i by rw [List.length_take]; omega, Nat.succ_mul]
      rw [lB, List.take_length] at hH2
      exact hH2
  · obtain ⟨x1, x2, x3, x4, rfl, eH, hf', hH⟩ := p
    rw [lA, List.take_length] at hH
    refine un_ret (un_var rfl (q _ H' eH ⟨f, _, rfl, hf', ?_⟩))
    exact hH.list (fun a => mon_RS) (by rw [hl]; exact (sumsBy_len (· ++ ·) A B).symm)
end
end Rk
set_option Elab.async false
set_option linter.all false
set_option maxRecDepth 100000
set_option maxHeartbeats 4000000
/-! the ends of a tree, the leaves' worths given: how many are at most a bound -/
namespace Rk
open PySem
/-- sorted by insertion: any list of ints has one sorted form -/
def insI (x : Int) : List Int → List Int
  | [] => [x]
  | y :: ys => if x ≤ y then x :: y :: ys else y :: insI x ys
def sortI : List Int → List Int
  | [] => []
  | x :: xs => insI x (sortI xs)
theorem insI_perm (x : Int) : ∀ ys, (insI x ys).Perm (x :: ys)
  | [] => List.Perm.refl _
  | y :: ys => by
    unfold insI
    by_cases h : x ≤ y
    · rw [if_pos h]
    · rw [if_neg h]
      exact ((insI_perm x ys).cons y).trans (List.Perm.swap x y ys)
theorem insI_up (x : Int) : ∀ ys, ys.Pairwise (· ≤ ·) → (insI x ys).Pairwise (· ≤ ·)
  | [], _ => List.pairwise_singleton _ _
  | y :: ys, h => by
    unfold insI
    obtain ⟨h1, h2⟩ := List.pairwise_cons.mp h
    by_cases c : x ≤ y
    · rw [if_pos c]
      refine List.pairwise_cons.mpr ⟨fun z hz => ?_, h⟩
      rcases List.mem_cons.mp hz with rfl | hz
      · exact c
      · exact Int.le_trans c (h1 z hz)
    · rw [if_neg c]
      refine List.pairwise_cons.mpr ⟨fun z hz => ?_, insI_up x ys h2⟩
      rcases List.mem_cons.mp ((insI_perm x ys).mem_iff.mp hz) with rfl | hz
      · omega
      · exact h1 z hz
theorem sortI_perm : ∀ xs, (sortI xs).Perm xs
  | [] => List.Perm.refl _
  | x :: xs => (insI_perm x (sortI xs)).trans ((sortI_perm xs).cons x)
theorem sortI_up : ∀ xs, (sortI xs).Pairwise (· ≤ ·)
  | [] => List.Pairwise.nil
  | x :: xs => insI_up x _ (sortI_up xs)
/-- in a sorted list the r-th is at most b just if r at least are -/
theorem rank_le (b : Int) : ∀ (xs : List Int), xs.Pairwise (· ≤ ·) → ∀ i, i < xs.length → (xs.getD i 0 ≤ b ↔ i + 1 ≤ (xs.filter fun x => decide (x ≤ b)).length)
  | [], _, i, hi => absurd hi (Nat.not_lt_zero _)
  | x :: xs, h, i, hi => by
    obtain ⟨h1, h2⟩ := List.pairwise_cons.mp h
    by_cases c : x ≤ b
    · rw [List.filter_cons_of_pos (by simpa using c)]
      cases i with
      | zero => exact ⟨fun _ => by simp, fun _ => c⟩
      | succ i =>
        have := rank_le b xs h2 i (Nat.lt_of_succ_lt_succ hi)
        rw [List.length_cons]
        show xs.getD i 0 ≤ b ↔ _
        rw [this]
        omega
    · rw [List.filter_cons_of_neg (by simpa using c)]
      have none : (xs.filter fun x => decide (x ≤ b)) = [] := List.filter_eq_nil_iff.mpr fun y hy => by
        have := h1 y hy
        simp
        omega
      rw [none]
      refine ⟨fun z => ?_, fun z => absurd z (by simp)⟩
      cases i with
      | zero => exact absurd z c
      | succ i =>
        have hlt := Nat.lt_of_succ_lt_succ hi
        have z : xs.getD i 0 ≤ b := z
        have := h1 (xs.getD i 0) (by rw [List.getD_eq_getElem?_getD, List.getElem?_eq_getElem hlt]; exact List.getElem_mem hlt)
        omega
variable (wf : Str → Int)
mutual
/-- the ends of a tree -/
def Tr.ends : Tr → List Int
  | .leaf x => [wf x]
  | .grp rs ps => rs.map fun r => (sortI (endsL ps)).getD (r - 1).toNat 0
def endsL : List Tr → List Int
  | [] => []
  | p :: ps => p.ends ++ endsL ps
end
mutual
/-- the ends of each node -/
def Tr.outs : Tr → List (List Int)
  | .leaf x => [[wf x]]
  | .grp rs ps => (Tr.grp rs ps).ends wf :: outsL ps
def outsL : List Tr → List (List Int)
  | [] => []
  | p :: ps => p.outs ++ outsL ps
end
mutual
def Tr.nodes : Tr → List Tr
  | .leaf x => [.leaf x]
  | .grp rs ps => .grp rs ps :: nodesL ps
def nodesL : List Tr → List Tr
  | [] => []
  | p :: ps => p.nodes ++ nodesL ps
end
mutual
theorem outs_nodes : ∀ t : Tr, t.outs wf = t.nodes.map (Tr.ends wf)
  | .leaf x => rfl
  | .grp rs ps => by
    show (Tr.grp rs ps).ends wf :: outsL wf ps = (Tr.grp rs ps).ends wf :: (nodesL ps).map (Tr.ends wf)
    rw [outs_nodesL ps]
theorem outs_nodesL : ∀ ps : List Tr, outsL wf ps = (nodesL ps).map (Tr.ends wf)
  | [] => rfl
  | p :: ps => by
    show p.outs wf ++ outsL wf ps = (p.nodes ++ nodesL ps).map (Tr.ends wf)
    rw [outs_nodes p, outs_nodesL ps, List.map_append]
end
theorem ends_len (t : Tr) : (t.ends wf).length = t.width := by
  cases t with
  | leaf x => rfl
  | grp rs ps =>
    show (rs.map _).length = rs.length
    rw [List.length_map]
theorem endsL_len : ∀ ps : List Tr, (endsL wf ps).length = intakeL ps
  | [] => rfl
  | p :: ps => by
    show (p.ends wf ++ endsL wf ps).length = p.width + intakeL ps
    rw [List.length_append, ends_len, endsL_len ps]
mutual
theorem ok_nodes : ∀ {t : Tr}, Ok t → ∀ u ∈ t.nodes, Ok u ∧ (∀ x ∈ u.names, x ∈ t.names) ∧ u.names.length ≤ t.names.length ∧ u.depth ≤ t.depth
  | .leaf x, h, u, hu => by
    rw [List.mem_singleton.mp hu]
    exact ⟨h, fun _ z => z, Nat.le_refl _, Nat.le_refl _⟩
  | .grp rs ps, h, u, hu => by
    rcases List.mem_cons.mp hu with rfl | hu
    · exact ⟨h, fun _ z => z, Nat.le_refl _, Nat.le_refl _⟩
    · cases h with
      | grp h1 h2 h3 h4 h5 h6 =>
        obtain ⟨a, b, c, d⟩ := ok_nodesL h1 u hu
        exact ⟨a, b, c, Nat.le_succ_of_le d⟩
theorem ok_nodesL : ∀ {ps : List Tr}, (∀ t ∈ ps, Ok t) → ∀ u ∈ nodesL ps, Ok u ∧ (∀ x ∈ u.names, x ∈ namesL ps) ∧ u.names.length ≤ (namesL ps).length ∧ u.depth ≤ depthL ps
  | [], _, u, hu => absurd hu List.not_mem_nil
  | p :: ps, h, u, hu => by
    have e : (namesL (p :: ps)).length = p.names.length + (namesL ps).length := List.length_append
    have ed : depthL (p :: ps) = max p.depth (depthL ps) := rfl
    rcases List.mem_append.mp hu with hu | hu
    · obtain ⟨a, b, c, d⟩ := ok_nodes (h p List.mem_cons_self) u hu
      exact ⟨a, fun x z => List.mem_append_left _ (b x z), by omega, by omega⟩
    · obtain ⟨a, b, c, d⟩ := ok_nodesL (fun t ht => h t (List.mem_cons_of_mem _ ht)) u hu
      exact ⟨a, fun x z => List.mem_append_right _ (b x z), by omega, by omega⟩
end
/-- the ends ascend -/
theorem ends_up {t : Tr} (h : Ok t) : (t.ends wf).Pairwise (· ≤ ·) := by
  cases h with
  | leaf _ => exact List.pairwise_singleton _ _
  | @grp rs ps h1 h2 h3 h4 h5 h6 =>
    show (rs.map fun r => (sortI (endsL wf ps)).getD (r - 1).toNat 0).Pairwise (· ≤ ·)
    have len : (sortI (endsL wf ps)).length = intakeL ps := by rw [(sortI_perm _).length_eq, endsL_len]
    rw [List.pairwise_map]
    refine (List.pairwise_iff_forall_sublist.mpr fun {a b} hs => ?_)
    have hab : a < b := List.pairwise_iff_forall_sublist.mp h5 hs
    have ha := h6 a (hs.subset List.mem_cons_self)
    have hb := h6 b (hs.subset (List.mem_cons_of_mem _ List.mem_cons_self))
    have lt : (a - 1).toNat < (b - 1).toNat := by omega
    have lb : (b - 1).toNat < (sortI (endsL wf ps)).length := by omega
    rw [List.getD_eq_getElem?_getD, List.getD_eq_getElem?_getD, List.getElem?_eq_getElem (Nat.lt_trans lt lb), List.getElem?_eq_getElem lb]
    exact List.pairwise_iff_getElem.mp (sortI_up _) _ _ (Nat.lt_trans lt lb) lb lt
mutual
/-- so many ends are at most b as the leaves whose worths are let be low -/
theorem ends_low (b : Int) (s : List Str) : ∀ {t : Tr}, Ok t → (∀ x ∈ t.names, x ∈ s ↔ wf x ≤ b) → ((t.ends wf).filter fun x => decide (x ≤ b)).length = t.low s
  | .leaf x, _, h => by
    have hx := h x (List.mem_singleton.mpr rfl)
    show (([wf x] : List Int).filter fun x => decide (x ≤ b)).length = if x ∈ s then 1 else 0
    by_cases c : wf x ≤ b
    · rw [if_pos (hx.mpr c), List.filter_cons_of_pos (by simpa using c)]
      rfl
    · rw [if_neg (fun z => c (hx.mp z)), List.filter_cons_of_neg (by simpa using c)]
      rfl
  | .grp rs ps, hok, h => by
    cases hok with
    | grp h1 h2 h3 h4 h5 h6 =>
      have key := ends_lowL b s h1 h
      have len : (sortI (endsL wf ps)).length = intakeL ps := by rw [(sortI_perm _).length_eq, endsL_len]
      have cnt : ((sortI (endsL wf ps)).filter fun x => decide (x ≤ b)).length = lowL s ps := by rw [((sortI_perm (endsL wf ps)).filter _).length_eq, key]
      show ((rs.map fun r => (sortI (endsL wf ps)).getD (r - 1).toNat 0).filter fun x => decide (x ≤ b)).length = (rs.filter fun r => decide (r ≤ (lowL s ps : Int))).length
      rw [List.filter_map, List.length_map]
      refine congrArg List.length (List.filter_congr fun r hr => decide_eq_decide.mpr ?_)
      have hr := h6 r hr
      show (sortI (endsL wf ps)).getD (r - 1).toNat 0 ≤ b ↔ r ≤ (lowL s ps : Int)
      rw [rank_le b _ (sortI_up _) _ (by omega), cnt]
      omega
theorem ends_lowL (b : Int) (s : List Str) : ∀ {ps : List Tr}, (∀ t ∈ ps, Ok t) → (∀ x ∈ namesL ps, x ∈ s ↔ wf x ≤ b) → ((endsL wf ps).filter fun x => decide (x ≤ b)).length = lowL s ps
  | [], _, _ => rfl
  | p :: ps, hok, h => by
    show ((p.ends wf ++ endsL wf ps).filter fun x => decide (x ≤ b)).length = p.low s + lowL s ps
    rw [List.filter_append, List.length_append, ends_low b s (hok p List.mem_cons_self) fun x hx => h x (List.mem_append_left _ hx), ends_lowL b s (fun t ht => hok t (List.mem_cons_of_mem _ ht)) fun x hx => h x (List.mem_append_right _ hx)]
end
mutual
theorem nodes_len : ∀ {t : Tr}, Ok t → t.nodes.length ≤ t.names.length * (t.depth + 1)
  | .leaf x, _ => Nat.le_refl _
  | .grp rs ps, h => by
    have h1 := h.one
    cases h with
    | grp oks _ _ _ _ _ =>
      have h2 := nodes_lenL (d := depthL ps) oks fun t ht => depth_mem ht
      show (nodesL ps).length + 1 ≤ (namesL ps).length * (depthL ps + 1 + 1)
      have h1 : 1 ≤ (namesL ps).length := h1
      rw [Nat.mul_succ]
      omega
theorem nodes_lenL {d : Nat} : ∀ {ps : List Tr}, (∀ t ∈ ps, Ok t) → (∀ t ∈ ps, t.depth ≤ d) → (nodesL ps).length ≤ (namesL ps).length * (d + 1)
  | [], _, _ => Nat.zero_le _
  | p :: ps, h, hd => by
    show (p.nodes ++ nodesL ps).length ≤ (p.names ++ namesL ps).length * (d + 1)
    rw [List.length_append, List.length_append, Nat.add_mul]
    have h1 := nodes_len (h p List.mem_cons_self)
    have h2 := nodes_lenL (d := d) (fun t ht => h t (List.mem_cons_of_mem _ ht)) fun t ht => hd t (List.mem_cons_of_mem _ ht)
    have h3 : p.names.length * (p.depth + 1) ≤ p.names.length * (d + 1) := Nat.mul_le_mul_left _ (Nat.succ_le_succ (hd p List.mem_cons_self))
    omega
end
theorem nodes_part {ps : List Tr} {t : Tr} (hm : t ∈ ps) : t.nodes.length ≤ (nodesL ps).length := by
  obtain ⟨a, b, rfl⟩ := List.append_of_mem hm
  have app : ∀ (x y : List Tr), nodesL (x ++ y) = nodesL x ++ nodesL y := fun x y => by
    induction x with
    | nil => rfl
    | cons p x ih =>
      show p.nodes ++ nodesL (x ++ y) = p.nodes ++ nodesL x ++ nodesL y
      rw [ih, List.append_assoc]
  rw [app, List.length_append]
  show t.nodes.length ≤ (nodesL a).length + (t.nodes ++ nodesL b).length
  rw [List.length_append]
  omega
end Rk
set_option Elab.async false
set_option linter.all false
set_option maxRecDepth 100000
set_option maxHeartbeats 4000000
namespace Rk
open PySem PySem.Spec PyProof.Rows L2 RkO Rx
open Evl (Ev EvT EvA EvL EvU EvO Ex RC RCL SpV SpL)
theorem fewL_snoc (p : Tr) : ∀ (ps : List Tr) (T : Tab), fewL (ps ++ [p]) T = (sumsBy (· ++ ·) (fewL ps T) p.few).map minLen
  | [], T => rfl
  | q :: ps, T => fewL_snoc p ps _
mutual
theorem fews_len : ∀ t : Tr, t.fews.length = t.nodes.length
  | .leaf x => rfl
  | .grp rs ps => by
    show (fewsL ps).length + 1 = (nodesL ps).length + 1
    rw [fewsL_len ps]
theorem fewsL_len : ∀ ps : List Tr, (fewsL ps).length = (nodesL ps).length
  | [] => rfl
  | p :: ps => by
    show (p.fews ++ fewsL ps).length = (p.nodes ++ nodesL ps).length
    rw [List.length_append, List.length_append, fews_len p, fewsL_len ps]
end
theorem fewsL_flat : ∀ ps : List Tr, fewsL ps = (ps.map Tr.fews).flatten
  | [] => rfl
  | p :: ps => by
    show p.fews ++ fewsL ps = p.fews ++ (ps.map Tr.fews).flatten
    rw [fewsL_flat ps]
/-- trees, as relations -/
def RTe (cL cG : Addr) (t : Tr) : Rel := fun H v => TAt cL cG H v t
theorem mon_RTe {cL cG : Addr} {t : Tr} : MonV (RTe cL cG t) := fun _ _ _ h e => h.mono e
theorem FAt.all {cL cG : Addr} {H : Hp} : ∀ {vs : List V} {ts : List Tr}, FAt cL cG H vs ts → AllR (ts.map (RTe cL cG)) H vs
  | vs, [], h => by
    have := h.1
    cases vs with
    | nil => rfl
    | cons _ _ => cases this
  | vs, t :: ts, h => by
    have h1 := h.1
    cases vs with
    | nil => cases h1
    | cons v vs => exact ⟨v, vs, rfl, h.2 0 v t rfl rfl, FAt.all ⟨Nat.succ.inj h1, fun i u s a b => h.2 (i + 1) u s a b⟩⟩
theorem sp_parts {cL cG : Addr} {H : Hp} {v : V} {rs : List Int} {ps : List Tr} (h : TAt cL cG H v (.grp rs ps)) (hz : ps.length ≤ 1000) : SpX (spPParts cL cG) [v] H (RL (ps.map (RTe cL cG))) := fun H1 e Q q E =>
  ⟨v, rs, ps, rfl, h.mono e, hz, fun us z H' _ s hz hF => q _ H' s ⟨z, us, rfl, hz, (hF.mono s).all⟩⟩
theorem RL.ofV {α : Type} {f : α → V} {xs : List α} {H : Hp} {a : Addr} (h : H a = some (.lst (xs.map f))) : RL (xs.map fun x => RV (f x)) H (.ref a) := by
  have := RL.of_vals h
  rwa [List.map_map] at this
theorem sp_ranks {cL cG : Addr} {H : Hp} {v : V} {rs : List Int} {ps : List Tr} (h : TAt cL cG H v (.grp rs ps)) : SpX (spPRanks cL cG) [v] H (RL (rs.map fun r => RV (.int r))) := fun H1 e Q q E =>
  ⟨v, rs, ps, rfl, h.mono e, fun z H' _ s hz => q _ H' s (RL.ofV hz)⟩
section
variable {K : PySem.W.Frag} {σ : L2.St} {H : Hp} {te : TE} {v : V}
theorem RS.of {s : List Str} {H : Hp} {v : V} (h : RL (s.map fun x => RV (.str x)) H v) : RS s H v := by
  obtain ⟨a, xs, rfl, h1, h2⟩ := h
  have e : (s.map fun x => RV (V.str x)) = (s.map V.str).map RV := by rw [List.map_map]; rfl
  rw [e] at h2
  exact ⟨a, rfl, by rw [h1, h2.vals]⟩
theorem min_all {L : List (List Str)} {H : Hp} {us : List V} (h : AllR (L.map RS) H us) : ∃ bs : List Addr, us = bs.map V.ref ∧ bs.length = L.length ∧ ∀ (i : Nat) b s, bs[i]? = some b → L[i]? = some s → H b = some (.lst (s.map V.str)) := by
  induction L generalizing us with
  | nil => exact ⟨[], h, rfl, fun i b s hb => by simp at hb⟩
  | cons s L ih =>
    obtain ⟨x, r, rfl, ⟨a, rfl, ha⟩, h2⟩ := h
    obtain ⟨bs, rfl, hl, hb⟩ := ih h2
    refine ⟨a :: bs, rfl, congrArg Nat.succ hl, fun i b s' h1 h2 => ?_⟩
    cases i with
    | zero =>
      cases h1
      cases h2
      exact ha
    | succ i => exact hb i b s' h1 h2
/-- min(x, key=len) -/
theorem x_min {L : List (List Str)} (h : Ev te σ H v) (r : RTab L H v) (ne : L ≠ []) : EvX (tMinLen K (tCons te tNil)) σ H (RS (minLen L)) := fun M H1 hm e1 Q q => h H1 (e1.trans Rx.hid_le) _ fun H2 e2 => by
  obtain ⟨a, us, rfl, ha, hx⟩ := r
  obtain ⟨bs, rfl, hl, hb⟩ := min_all hx
  have e := (e1.trans Rx.hid_le).trans e2
  have hlt := atMin_lt (ks := L.map List.length) (by intro z; exact ne (List.map_eq_nil_iff.mp z))
  rw [List.length_map] at hlt
  refine ⟨a, bs, L.map List.length, rfl, SqL.of (e _ _ ha), ?_, by rw [List.length_map, hl], fun i b hi => ?_, ?_⟩
  · intro z
    rw [z] at hl
    exact ne (List.length_eq_zero_iff.mp hl.symm)
  · have hi2 : i < L.length := by rw [← hl]; exact (List.getElem?_eq_some_iff.mp hi).1
    refine ⟨_, SqL.of (e _ _ (hb i b _ hi (List.getElem?_eq_getElem hi2))), ?_⟩
    rw [List.length_map, List.getD_eq_getElem?_getD, List.getElem?_map, List.getElem?_eq_getElem hi2]
    rfl
  · have hb1 : bs[atMin (L.map List.length)]? = some bs[atMin (L.map List.length)] := List.getElem?_eq_getElem (by omega)
    refine q _ H2 e2 ?_
    rw [List.getD_eq_getElem?_getD, hb1]
    refine ⟨_, rfl, (hid_ex e2) _ _ (e1 _ _ ?_)⟩
    refine (hb _ _ _ hb1 (List.getElem?_eq_getElem hlt)).trans ?_
    unfold minLen
    rw [List.getD_eq_getElem?_getD, List.getElem?_eq_getElem hlt]
    rfl
end
section
variable {P : Program} {w : World} {K : PySem.W.Frag} {mg : Str → Option Value} {base : Heap}
def spFewest (cL cG : Addr) (n : Nat) : Sp := fun vs H Q _ => ∃ (v : V) (t : Tr), vs = [v] ∧ t.depth < n ∧ TAt cL cG H v t ∧ Ok t ∧ t.names.length ≤ 60 ∧ t.nodes.length ≤ 1000 ∧ ∀ v' H', Same H H' → RL (t.fews.map RTab) H' v' → Q v' H'
theorem ok_fewest (T : Txt K mg) : ∀ n : Nat, FnOk P w K mg base CX0 (n + 3) T.f_fewest T.d_fewest ["tree"] (spFewest T.a_Leaf T.a_Group n)
  | 0 => fn_no fun vs H Q E h => by
    obtain ⟨_, _, _, hd, _⟩ := h
    exact absurd hd (Nat.not_lt_zero _)
  | n + 1 => by
    have GN := ok_Leaf_name (P := P) (w := w) (base := base) T
    have GP := RkO.FnOk.frame (ok_Group_parts (P := P) (w := w) (base := base) T)
    have GR := RkO.FnOk.frame (ok_Group_ranks (P := P) (w := w) (base := base) T)
    have G_sums_by_place := RkO.FnOk.frame (ok_sums_by_place (P := P) (w := w) (base := base) T)
    have G_fewest := RkO.FnOk.frame (ok_fewest T n)
    refine T.F_fewest.ok sc_fewest (fun vs H Q E h => ?_) (fun cdv A outer s H vs Q E hr h => ?_)
    · obtain ⟨_, _, rfl, _⟩ := h
      rfl
    obtain ⟨v, t, rfl, hd, ht, hok, hz, hnz, q⟩ := h
    refine ⟨_, (pss_cons (ps_if (pt_val (pe_callB call_isi (by rfl) T.m_isinstance (by decide +kernel) (pa_cons (pv 0) (pa_cons (pe_glob (v := .ref T.a_Leaf) rfl T.m_Leaf rfl) pa_nil)))) (pss_one (ps_ret (pe_lst (pa_cons (pe_lst (pa_cons (pe_lst pa_nil) (pa_cons (pe_lst (pa_cons (pe_prop (pv 0) T.c_Leaf T.P_Leaf_name GN (hr.mono (by omega)) T.b_Leaf_name .nil pass0 rfl) pa_nil)) pa_nil))) pa_nil)))) pss_nil)
  (pss_cons (ps_setLc (i := 1) (own := [("part", 5)]) rfl sc_fewest.nd rfl rfl (sw_true rfl rfl rfl (by decide +kernel))  (pi_list (pe_prop (pv 0) T.c_Group T.P_Group_parts GP (hr.mono (by omega)) T.b_Group_parts .nil pass0 rfl)) (blkOk_by (own := [("part", 5)]) (N := ["tree", "within", "taken", "lists", "passed", "part", "sums", "rank", "nodes", "node"]) (sc := defScope s_fewest) (by decide +kernel)) (fun _ _ _ _ _ => (pg_name (i := 5) sc_fewest.nd rfl (.inl rfl))) (fun _ _ _ _ _ => pts_nil) (fun _ _ _ _ _ => (pe_call G_fewest (hr.mono (by omega)) rfl T.m_fewest T.F_fewest.kp T.b_fewest .nil pass0 (pa_cons (pv 5) pa_nil))))
  (pss_cons (ps_set (i := 2) sc_fewest.nd rfl (Or.inr rfl) (pe_lst (pa_cons (pe_lst pa_nil) pa_nil)))
  (pss_cons (ps_for PassesOwn.never rfl (pi_list (pv 1)) (pg_name (i := 3) sc_fewest.nd rfl (.inl rfl))
    (pss_one (ps_set (i := 2) sc_fewest.nd rfl (Or.inr rfl) (pe_lc (own := [("sums", 6)]) rfl sc_fewest.nd  (pi_list (pe_call G_sums_by_place (hr.mono (by omega)) rfl T.m_sums_by_place T.F_sums_by_place.kp T.b_sums_by_place .nil pass0 (pa_cons (pv 2) (pa_cons (pe_ix ix_list (pv 3) pe_int (fun _ _ => rfl)) pa_nil)))) (blkOk_by (own := [("sums", 6)]) (N := ["tree", "within", "taken", "lists", "passed", "part", "sums", "rank", "nodes", "node"]) (sc := defScope s_fewest) (by decide +kernel)) (fun _ _ _ _ _ => (pg_name (i := 6) sc_fewest.nd rfl (.inl rfl))) (fun _ _ _ _ _ => pts_nil) (fun _ _ _ _ _ => (by exact (pe_K (t := fun K => tMinLen K (tCons (tVar 6) tNil)) (K := K) rfl (by exact (pe_minLen rfl rfl T.m_min rfl T.m_len (pa_cons (pv 6) pa_nil))))))))))
  (pss_cons (ps_set (i := 4) sc_fewest.nd rfl (Or.inl rfl) (pe_op op_cat (pe_lst (pa_cons (pe_ix ix_list (pv 2) pe_int (fun _ _ => rfl)) pa_nil)) (pe_lc (own := [("rank", 7)]) rfl sc_fewest.nd  (pi_list (pe_prop (pv 0) T.c_Group T.P_Group_ranks GR (hr.mono (by omega)) T.b_Group_ranks .nil pass0 rfl)) (blkOk_by (own := [("rank", 7)]) (N := ["tree", "within", "taken", "lists", "passed", "part", "sums", "rank", "nodes", "node"]) (sc := defScope s_fewest) (by decide +kernel)) (fun _ _ _ _ _ => (pg_name (i := 7) sc_fewest.nd rfl (.inl rfl))) (fun _ _ _ _ _ => pts_nil) (fun _ _ _ _ _ => (by exact (pe_K (t := fun K => tOp (rIxL K) (tVar 2) (tVar 7)) (K := K) rfl (by exact (pe_ix ix_list (pv 2) (pv 7) (fun _ _ => rfl)))))))))
  (pss_one (ps_ret (pe_op op_cat (pe_lst (pa_cons (pv 4) pa_nil)) (by refine' pe_lc2 (own := [("nodes", 8), ("node", 9)]) (vs1 := [9]) rfl sc_fewest.nd  (pi_list (pv 1)) (blkOk_by (own := [("nodes", 8), ("node", 9)]) (N := ["tree", "within", "taken", "lists", "passed", "part", "sums", "rank", "nodes", "node"]) (sc := defScope s_fewest) (by decide +kernel)) (by decide) (fun _ _ _ _ _ => (pg_name (i := 8) sc_fewest.nd rfl (.inl rfl))) (fun _ _ _ _ _ => pts_nil) ?i1 ?g1 ?t1 ?e1; (case i1 => exact (fun _ _ _ _ _ => (pi_listK (K := K) rfl (pv 8)))); (case g1 => exact (fun _ _ _ _ _ => (pg_name (i := 9) sc_fewest.nd rfl (.inl rfl)))); (case t1 => exact (fun _ _ _ _ _ => pts_nil)); (case e1 => exact (fun _ _ _ _ _ => (pv 9)))))))))))), ?_⟩
    cases ht with
    | @leaf p dx x h =>
      have w : TAt T.a_Leaf T.a_Group H (.ref p) (.leaf x) := .leaf h
      refine un_seq <| un_ifS ⟨_, rfl, _, _, _, _, _, rfl, .own _, .base (.ins h T.c_Leaf T.ca_Leaf T.gc T.tc T.mo_Leaf), kit_self, _, rfl, iteT ?_⟩
      refine un_ret ?_
      have nm : ∀ H1, Ex H H1 → Ev (tProp T.a_Leaf (spPName T.a_Leaf T.a_Group) [] E0 (tVar 0)) [some (.ref p), none, none, none, none, none, none, none, none, none] H1 (.str x) := fun H1 e1 H2 e2 Q q => ⟨_, rfl, p, dx, _, rfl, e2 _ _ (e1 _ _ h), _, x, rfl, (w.mono e1).mono e2, q H2 (Ex.refl _)⟩
      have e0 : EvX (tLst tNil) [some (.ref p), none, none, none, none, none, none, none, none, none] H (RS []) := (x_lst (Rs := []) MonA.nil x_nil (Nat.le_of_ble_eq_true rfl)).imp fun H1 v _ r => RS.of (s := []) r
      have e1 : EvX (tLst (tCons (tProp T.a_Leaf (spPName T.a_Leaf T.a_Group) [] E0 (tVar 0)) tNil)) [some (.ref p), none, none, none, none, none, none, none, none, none] H (RS [x]) := (x_lst (Rs := [RV (.str x)]) (MonA.cons mon_RV MonA.nil) (x_cons mon_RV (x_evV (nm H (Ex.refl _))) x_nil) (Nat.le_of_ble_eq_true rfl)).imp fun H1 v _ r => RS.of (s := [x]) r
      have e2 := x_lst (Rs := [RS [], RS [x]]) (MonA.cons mon_RS (MonA.cons mon_RS MonA.nil)) (x_cons mon_RS e0 (x_cons mon_RS e1 x_nil)) (Nat.le_of_ble_eq_true rfl)
      have e3 := x_lst (Rs := [RL [RS [], RS [x]]]) (MonA.cons (mon_RL (MonA.cons mon_RS (MonA.cons mon_RS MonA.nil))) MonA.nil) (x_cons (mon_RL (MonA.cons mon_RS (MonA.cons mon_RS MonA.nil))) e2 x_nil) (Nat.le_of_ble_eq_true rfl)
      exact e3.run fun v H2 e r => q v H2 e r
    | @grp p dx lr lp ln rs ps us h1 h2 h3 h4 hul hf =>
      have w : TAt T.a_Leaf T.a_Group H (.ref p) (.grp rs ps) := .grp h1 h2 h3 h4 hul hf
      have oks : ∀ t ∈ ps, Ok t := by
        cases hok with
        | grp h1 _ _ _ h5 h6 => exact h1
      have hb : ∀ r ∈ rs, 1 ≤ r ∧ r ≤ (intakeL ps : Int) := by
        cases hok with
        | grp h1 _ _ _ h5 h6 => exact h6
      have ndn : (namesL ps).Nodup := by
        cases hok with
        | grp _ _ h3 _ _ _ => exact h3
      have hd : depthL ps + 1 < n + 1 := hd
      have hl : (namesL ps).length ≤ 60 := hz
      have hrl : rs.length ≤ 60 := Nat.le_trans hok.width_le hz
      have hpl := parts_le oks
      have hin := intake_le oks
      have hnn : (nodesL ps).length + 1 ≤ 1000 := hnz
      refine un_seq <| un_ifS ⟨_, rfl, _, _, _, _, _, rfl, .own _, .base (.ins h1 T.c_Group T.ca_Group T.gc T.tc T.mo_Group), T.is_Group_Leaf, _, rfl, iteF (nxt ?_)⟩
      dsimp only
      -- within
      refine sq_asg ?_
      have xp : ∀ (σ : L2.St) H1, Ex H H1 → σ[0]? = some (some (.ref p)) → EvX (tProp T.a_Group (spF (spPParts T.a_Leaf T.a_Group)) [] E0 (tVar 0)) σ H1 (RL (ps.map (RTe T.a_Leaf T.a_Group))) := fun σ H1 e hσ => x_prop (mon_RL (MonA.map fun _ _ => mon_RTe)) (Evl.ev_var hσ) (e _ _ h1) (sp_parts (w.mono e) (by omega))
      refine (x_lcM (Rb := fun t => RL (t.fews.map RTab)) (fun _ _ => mon_RTe) (fun _ _ => mon_RL mons_RTab) (xp _ H (Ex.refl _) rfl) (by omega) (fun x => rfl) (fun t hm v H1 e rt => ?_)).run fun vw H1 e1 rw1 => ?_
      · have hdp := depth_mem hm
        exact x_callA (mon_RL mons_RTab) (Evl.ea_cons (Evl.ev_var rfl) Evl.ea_nil) fun H2 e2 Q q E => ⟨v, t, rfl, by omega, rt.mono e2, oks t hm, Nat.le_trans (names_part hm) hl, Nat.le_trans (nodes_part hm) (by omega), fun v' H' s r => q v' H' s r⟩
      have lw : ∃ lw ws, vw = .ref lw ∧ H1 lw = some (.lst ws) ∧ AllR (ps.map fun t => RL (t.fews.map RTab)) H1 ws := rw1
      obtain ⟨lw, ws, rfl, hlw, hws⟩ := lw
      have wl : ws.length = ps.length := by rw [hws.len, List.length_map]
      -- taken = [[]]
      refine sq_asg ?_
      have e0 : EvX (tLst tNil) [some (.ref p), some (.ref lw), none, none, none, none, none, none, none, none] H1 (RS []) := (x_lst (Rs := []) MonA.nil x_nil (Nat.le_of_ble_eq_true rfl)).imp fun H1 v _ r => RS.of (s := []) r
      refine (x_lst (Rs := [RS []]) (MonA.cons mon_RS MonA.nil) (x_cons mon_RS e0 x_nil) (Nat.le_of_ble_eq_true rfl)).run fun vt H2 e2 rt => ?_
      -- the loop
      refine un_seq ?_
      have bnd : ∀ i ≤ ps.length, (fewL (ps.take i) [[]]).length ≤ 200 ∧ 1 ≤ (fewL (ps.take i) [[]]).length ∧ ∀ s ∈ fewL (ps.take i) [[]], s.length ≤ 60 := fun i hi => by
        have g := good_fewL (ps := ps.take i) (fun t ht => oks t (List.mem_of_mem_take ht)) good_nil (fun x hx => by simp at hx) (by
          have := ndn
          rw [← List.take_append_drop i ps, namesL_append] at this
          exact (List.nodup_append.mp this).1)
        have l := fewL_len (ps.take i) [[]] (Nat.le_refl _)
        have hin2 := intake_le (ps := ps.take i) fun t ht => oks t (List.mem_of_mem_take ht)
        have hnm : (namesL (ps.take i)).length ≤ (namesL ps).length := by
          conv => rhs; rw [← List.take_append_drop i ps, namesL_append, List.length_append]
          omega
        refine ⟨by rw [l]; show 1 + _ ≤ _; omega, by rw [l]; show 1 ≤ 1 + _; omega, fun s hs => ?_⟩
        obtain ⟨k, hk⟩ := List.mem_iff_getElem?.mp hs
        have := nodup_len (g.nd _ _ hk) (g.sub _ _ hk)
        rw [List.nil_append] at this
        omega
      have e12 := e1.trans e2
      refine ⟨_, rfl, lw, rfl, ⟨_, SqL.of (e2 _ _ hlw)⟩, for_list (xs := ws) (fun i σ' H' => ∃ vt x3, σ' = [some (.ref p), some (.ref lw), some vt, x3, none, none, none, none, none, none] ∧ Ex H1 H' ∧ RTab (fewL (ps.take i) [[]]) H' vt) ⟨vt, none, rfl, e2, rt⟩ (fun i σ' H' _ p => p.elim fun _ p => p.elim fun _ p => SqL.of (p.2.1 _ _ hlw)) (fun i x σ' H' hx p => ?_) (fun σ' H' p => ?_)⟩
      · obtain ⟨vt, x3, rfl, eH, rt⟩ := p
        have hi : i < ps.length := by rw [← wl]; exact (List.getElem?_eq_some_iff.mp hx).1
        have hpi : ps[i]? = some ps[i] := List.getElem?_eq_getElem hi
        have hmem : ps[i] ∈ ps := List.getElem_mem hi
        obtain ⟨x', hx', rx⟩ := hws.get (i := i) (R := RL (ps[i].fews.map RTab)) (by rw [List.getElem?_map, hpi]; rfl)
        rw [hx] at hx'
        cases hx'
        have rx1 := mon_RL mons_RTab _ _ _ rx eH
        obtain ⟨b1, b2, b3⟩ := bnd i (Nat.le_of_lt hi)
        have g := good_few (oks _ hmem)
        have fl : ps[i].few.length ≤ 200 := by
          rw [few_len]
          have := (oks _ hmem).width_le
          have := names_part hmem
          omega
        have fs : ∀ s ∈ ps[i].few, s.length ≤ 60 := fun s hs => by
          obtain ⟨k, hk⟩ := List.mem_iff_getElem?.mp hs
          have := nodup_len (g.nd _ _ hk) (g.sub _ _ hk)
          have := names_part hmem
          omega
        refine un_asg ?_
        refine (x_lcM (Ra := RTab) (Rb := fun L => RS (minLen L)) (xs := sumsBy (· ++ ·) (fewL (ps.take i) [[]]) ps[i].few) (fun _ _ => mon_RTab) (fun _ _ => mon_RS) (x_callX (Rs := [RTab (fewL (ps.take i) [[]]), RTab ps[i].few]) (mon_RL mons_RTab) (x_cons mon_RTab (x_var rfl mon_RTab rt) (x_cons mon_RTab (x_ixL (k := 0) (x_var rfl (mon_RL mons_RTab) rx1) (fun H1 _ => Evl.ev_c) rfl ?_ mons_RTab) x_nil)) fun vs H3 e3 rs => ?_) (by rw [sumsBy_len]; omega) (fun x => rfl) fun L hL v H3 e3 rL => ?_).run fun v H3 e3 r => ?_
        · rw [List.getElem?_map, fews_head]
          rfl
        · obtain ⟨v1, r1, rfl, s1, v2, r2, rfl, s2, rfl⟩ := rs
          exact fun H4 e4 Q q E => ⟨v1, v2, _, _, rfl, mon_RTab _ _ _ s1 e4, mon_RTab _ _ _ s2 e4, b2, b1, fl, fun s hs => Nat.le_trans (b3 s hs) (by decide), fun s hs => Nat.le_trans (fs s hs) (by decide), fun v' H' s r => q v' H' s r⟩
        · refine x_min (Evl.ev_var rfl) rL fun z => ?_
          subst z
          obtain ⟨k, hk⟩ := List.mem_iff_getElem?.mp hL
          have hkl := (List.getElem?_eq_some_iff.mp hk).1
          rw [sumsBy_len, few_len] at hkl
          have h1 : min k ((fewL (ps.take i) [[]]).length - 1) < (fewL (ps.take i) [[]]).length := by omega
          have h2 : k - min k ((fewL (ps.take i) [[]]).length - 1) < ps[i].few.length := by rw [few_len]; omega
          have := (sumsBy_mem (· ++ ·) hk).mpr ⟨_, _, _, _, List.getElem?_eq_getElem h1, List.getElem?_eq_getElem h2, by omega, rfl⟩
          simp at this
        · refine ⟨v, _, rfl, eH.trans e3, ?_⟩
          have tk : ps.take (i + 1) = ps.take i ++ [ps[i]] := by rw [List.take_add_one, hpi]; rfl
          rw [tk, fewL_snoc]
          unfold RTab
          rw [List.map_map]
          exact r
      · obtain ⟨vt, x3, rfl, eH, rt⟩ := p
        rw [wl, List.take_length] at rt
        obtain ⟨b1, b2, b3⟩ := bnd ps.length (Nat.le_refl _)
        rw [List.take_length] at b1 b2 b3
        have fl : (fewL ps [[]]).length = 1 + intakeL ps := fewL_len ps [[]] (Nat.le_refl _)
        have atk : ∀ k, k < (fewL ps [[]]).length → ((fewL ps [[]]).map RS)[k]? = some (RS ((fewL ps [[]]).getD k [])) := fun k hk => by
          rw [List.getElem?_map, List.getD_eq_getElem?_getD, List.getElem?_eq_getElem hk]
          rfl
        have e1H := e1.trans eH
        dsimp only
        refine sq_asg ?_
        have xr : EvX (tProp T.a_Group (spF (spPRanks T.a_Leaf T.a_Group)) [] E0 (tVar 0)) [some (.ref p), some (.ref lw), some vt, x3, none, none, none, none, none, none] H' (RL (rs.map fun r => RV (.int r))) := x_prop (mon_RL (MonA.map fun _ _ => mon_RV)) (Evl.ev_var rfl) (e1H _ _ h1) (sp_ranks (w.mono e1H))
        have x1 := x_lst (Rs := [RS ((fewL ps [[]]).getD 0 [])]) (MonA.cons mon_RS MonA.nil) (x_cons mon_RS (x_ixL (K := K) (ti := tC (.int 0)) (i := 0) (k := 0) (x_var (i := 2) (σ := [some (.ref p), some (.ref lw), some vt, x3, none, none, none, none, none, none]) rfl mon_RTab rt) (fun H1 _ => Evl.ev_c) rfl (atk 0 (by omega)) mons_RS) x_nil) (Nat.le_of_ble_eq_true rfl)
        have x2 := x_lcM (K := K) (te := tOp (rIxL K) (tVar 2) (tVar 7)) (j := 7) (vs := [7]) (Rb := fun r => RS ((fewL ps [[]]).getD r.toNat [])) (fun _ _ => mon_RV) (fun _ _ => mon_RS) xr (by omega) (fun x => rfl) fun r hr v H5 e5 rv => by
          rw [show v = V.int r from rv]
          have := hb r hr
          refine x_ixL (k := r.toNat) (i := r) (x_var (R := RTab (fewL ps [[]])) rfl mon_RTab (mon_RTab _ _ _ rt e5)) (fun H1 _ => Evl.ev_var rfl) (by omega) (atk _ (by rw [fl]; omega)) mons_RS
        refine (x_cat (MonA.cons mon_RS MonA.nil) (MonA.map fun _ _ => mon_RS) x1 x2 (by rw [List.length_map]; show 1 + rs.length ≤ _; omega)).run fun v5 H5 e5 r5 => ?_
        have r5' : RTab (Tr.grp rs ps).few H5 v5 := by
          have e : (Tr.grp rs ps).few.map RS = [RS ((fewL ps [[]]).getD 0 [])] ++ rs.map fun r => RS ((fewL ps [[]]).getD r.toNat []) := by
            show RS _ :: (rs.map _).map RS = _
            rw [List.map_map]
            rfl
          unfold RTab
          rw [e]
          exact r5
        have e15 := eH.trans e5
        have y1 := x_lst (Rs := [RTab (Tr.grp rs ps).few]) (MonA.cons mon_RTab MonA.nil) (x_cons mon_RTab (x_var (i := 4) (σ := [some (.ref p), some (.ref lw), some vt, x3, some v5, none, none, none, none, none]) rfl mon_RTab r5') x_nil) (Nat.le_of_ble_eq_true rfl)
        have fll : ∀ i, ((ps.take i).map fun t => t.fews.map RTab).flatten.length ≤ 1000 := fun i => by
          have e : ((ps.take i).map fun t => t.fews.map RTab).flatten = ((ps.take i).map Tr.fews).flatten.map RTab := by rw [List.map_flatten, List.map_map]; rfl
          rw [e, List.length_map, ← fewsL_flat, fewsL_len]
          refine Nat.le_trans ?_ (show (nodesL ps).length ≤ 1000 by omega)
          conv => rhs; rw [← List.take_append_drop i ps]
          generalize ps.take i = x
          generalize ps.drop i = y
          induction x with
          | nil => exact Nat.zero_le _
          | cons p x ih =>
            show (p.nodes ++ nodesL x).length ≤ (p.nodes ++ nodesL (x ++ y)).length
            rw [List.length_append, List.length_append]
            omega
        have y2 := x_lc2 (K := K) (Ra := fun t : Tr => RL (t.fews.map RTab)) (f := fun t => t.fews.map RTab) (xs := ps) (tl := tVar 1) (ti := tVar 8) (j := 8) (j1 := 9) (vs := [8, 9]) (vs1 := [9]) (σ := [some (.ref p), some (.ref lw), some vt, x3, some v5, none, none, none, none, none]) (H := H5) (fun _ _ => mon_RL mons_RTab) (fun _ _ => mons_RTab)
          (x_var rfl (mon_RL (MonA.map fun _ _ => mon_RL mons_RTab)) ⟨lw, ws, rfl, e15 _ _ hlw, hws.mono (MonA.map fun _ _ => mon_RL mons_RTab) e15⟩) (fun i => Nat.le_trans (fll i) (by decide)) (fun x => rfl) (fun x y => rfl) (fun x y => rfl) fun t ht v H6 e6 r6 => x_var rfl (mon_RL mons_RTab) r6
        refine un_ret ((x_cat (MonA.cons mon_RTab MonA.nil) (fun R hR => ?_) y1 y2 ?_).run fun v6 H6 e6 r6 => q v6 H6 ((e1.trans e15).trans e6) ?_)
        · obtain ⟨l, hl, hR⟩ := List.mem_flatten.mp hR
          obtain ⟨t, _, rfl⟩ := List.mem_map.mp hl
          exact mons_RTab R hR
        · have := fll ps.length
          rw [List.take_length] at this
          show 1 + _ ≤ _
          omega
        · have e : (Tr.grp rs ps).fews.map RTab = [RTab (Tr.grp rs ps).few] ++ (ps.map fun t => t.fews.map RTab).flatten := by
            have e2 : (ps.map fun t => t.fews.map RTab).flatten = (fewsL ps).map RTab := by rw [fewsL_flat, List.map_flatten, List.map_map]; rfl
            rw [e2]
            rfl
          rw [e]
          exact r6
end
end Rk
set_option Elab.async false
set_option linter.all false
set_option maxRecDepth 100000
set_option maxHeartbeats 4000000
namespace Rk
open PySem PySem.Spec PyProof.Rows L2 RkO Rx
open Evl (Ev EvT EvA EvL EvU EvO Ex RC RCL SpV SpL)
/-- a method of a tree that leaves something new -/
theorem x_meth {cL cG : Addr} {m : Str} {sp : Bool → Sp} {te : TE} {ta : TA} {σ : L2.St} {H : Hp} {v : V} {vs : List V} {t : Tr} {R : Rel} (h1 : ¬ m = "_name") (h2 : ¬ m = "_names") (h3 : ¬ m = "_intake") (h4 : ¬ m = "_parts") (h5 : ¬ m = "_ranks")
    (mR : MonV R) (h : Ev te σ H v) (ht : TAt cL cG H v t) (ha : EvA ta σ H vs) (hs : SpX (sp (knd t)) (v :: vs) H R) : EvX (teor (tMeth cL m (spF (sp true)) [] E0 te ta) (tMeth cG m (spF (sp false)) [] E0 te ta)) σ H R := fun M H1 hm e1 Q q => by
  cases ht with
  | @leaf p dx x g => exact .inl (h H1 (e1.trans Rx.hid_le) _ fun H2 e2 => ⟨p, dx, _, rfl, e2 _ _ (Rx.hid_le _ _ (e1 _ _ g)), lf_no h1, ha H2 ((e1.trans Rx.hid_le).trans e2) _ fun H3 e3 => by
      rw [List.append_nil]
      have e23 := e2.trans e3
      refine spF_x (R := R) mR hs (hm.ex e23) (e1.trans (hid_ex e23)) fun v H4 e4 r => ?_
      exact q v H4 (e23.trans e4) r⟩)
  | @grp p dx lr lp ln rs ps vs' g1 g2 g3 g4 hl hf => exact .inr (h H1 (e1.trans Rx.hid_le) _ fun H2 e2 => ⟨p, dx, _, rfl, e2 _ _ (Rx.hid_le _ _ (e1 _ _ g1)), gf_no h2 h3 h4 h5, ha H2 ((e1.trans Rx.hid_le).trans e2) _ fun H3 e3 => by
      rw [List.append_nil]
      have e23 := e2.trans e3
      refine spF_x (R := R) mR hs (hm.ex e23) (e1.trans (hid_ex e23)) fun v H4 e4 r => ?_
      exact q v H4 (e23.trans e4) r⟩)
mutual
theorem mirror_nodes : ∀ t : Tr, t.mirror.nodes.length = t.nodes.length
  | .leaf x => rfl
  | .grp rs ps => by
    show (nodesL (mirrorL ps)).length + 1 = (nodesL ps).length + 1
    rw [mirror_nodesL ps]
theorem mirror_nodesL : ∀ ps : List Tr, (nodesL (mirrorL ps)).length = (nodesL ps).length
  | [] => rfl
  | p :: ps => by
    show (p.mirror.nodes ++ nodesL (mirrorL ps)).length = (p.nodes ++ nodesL ps).length
    rw [List.length_append, List.length_append, mirror_nodes p, mirror_nodesL ps]
end
section
variable {P : Program} {w : World} {K : PySem.W.Frag} {mg : Str → Option Value} {base : Heap}
/-! ### len(tree) -/
def spLen (cL cG : Addr) (k : Bool) : Sp := fun vs H Q _ => ∃ v t, vs = [v] ∧ knd t = k ∧ TAt cL cG H v t ∧ Q (.int (t.names.length : Nat)) H
theorem ok_Leaf_len (T : Txt K mg) : FnOk P w K mg base CX0 1 T.f_Leaf_len T.d_Leaf_len ["self"] (spLen T.a_Leaf T.a_Group true) := by
  refine T.F_Leaf_len.ok sc_Leaf_len (fun vs H Q E h => ?_) (fun cdv A outer s H vs Q E hr h => ?_)
  · obtain ⟨v, t, rfl, _⟩ := h
    rfl
  obtain ⟨v, t, rfl, hk, ht, q⟩ := h
  refine ⟨_, (pss_one (ps_ret pe_int)), ?_⟩
  cases ht with
  | leaf h => exact q
  | grp _ _ _ _ _ _ => cases hk
theorem ok_Group_len (T : Txt K mg) : FnOk P w K mg base CX0 1 T.f_Group_len T.d_Group_len ["self"] (spLen T.a_Leaf T.a_Group false) := by
  refine T.F_Group_len.ok sc_Group_len (fun vs H Q E h => ?_) (fun cdv A outer s H vs Q E hr h => ?_)
  · obtain ⟨v, t, rfl, _⟩ := h
    rfl
  obtain ⟨v, t, rfl, hk, ht, q⟩ := h
  refine ⟨_, (pss_one (ps_ret (pe_callB call_len_seq (by rfl) T.m_len PySem.boot_len (pa_cons (pe_fld (pv 0) rfl) pa_nil)))), ?_⟩
  cases ht with
  | leaf _ => cases hk
  | @grp p dx lr lp ln rs ps vs h1 h2 h3 h4 hl hf =>
    refine ⟨_, rfl, p, _, dx, _, _, rfl, h1, T.c_Group, T.n_Group_names, gf_names, ln, _, rfl, .inl (SqL.of h4), ?_⟩
    rw [List.length_map]
    exact q
theorem rd_len {cL cG : Addr} {σ : L2.St} {H : Hp} {te : TE} {v : V} {t : Tr} (h : Ev te σ H v) (ht : TAt cL cG H v t) (hz : t.names.length ≤ 1000) : Ev (tCB (rcor (rLenO cL (spLen cL cG true) E0) (rLenO cG (spLen cL cG false) E0)) (tCons te tNil)) σ H (.int (t.names.length : Nat)) := fun H1 e1 Q q => h H1 e1 _ fun H2 e2 => by
  have w := (ht.mono e1).mono e2
  cases ht with
  | @leaf p dx x h0 => exact .inl ⟨p, dx, _, rfl, e2 _ _ (e1 _ _ h0), _, .leaf x, rfl, rfl, w, _, rfl, by omega, by omega, q H2 e2⟩
  | @grp p dx lr lp ln rs ps vs h1 h2 h3 h4 hl hf => exact .inr ⟨p, dx, _, rfl, e2 _ _ (e1 _ _ h1), _, .grp rs ps, rfl, rfl, w, _, rfl, by omega, by omega, q H2 e2⟩
/-! ### low_names, high_names -/
/-- what these ask of a tree and an end -/
structure EndAt (cL cG : Addr) (n : Nat) (H : Hp) (v : V) (t : Tr) (j : Int) : Prop where
  at_ : TAt cL cG H v t
  ok : Ok t
  dep : t.depth < n
  nam : t.names.length ≤ 60
  nod : t.nodes.length ≤ 1000
  lo : 1 ≤ j
  hi : j ≤ (t.width : Int)
theorem EndAt.mono {cL cG : Addr} {n : Nat} {H H' : Hp} {v : V} {t : Tr} {j : Int} (h : EndAt cL cG n H v t j) (e : Same H H') : EndAt cL cG n H' v t j := ⟨h.at_.mono e, h.ok, h.dep, h.nam, h.nod, h.lo, h.hi⟩
theorem EndAt.check {cL cG : Addr} {n : Nat} {H : Hp} {v : V} {t : Tr} {j : Int} (h : EndAt cL cG n H v t j) {Q : VK} {E : XK} (q : ∀ H', Same H H' → Q .non H') : spCheckEnd cL cG [v, .int j] H Q E := ⟨v, t, j, rfl, h.at_, h.lo, h.hi, q⟩
theorem EndAt.few {cL cG : Addr} {n : Nat} {H : Hp} {v : V} {t : Tr} {j : Int} (h : EndAt cL cG n H v t j) : (t.few.getD j.toNat []).length ≤ 60 := by
  have g := good_few h.ok
  have hlo := h.lo
  have hhi := h.hi
  have e := few_at (t := t) (k := j.toNat) (by omega)
  have := nodup_len (g.nd _ _ e) (g.sub _ _ e)
  have := h.nam
  omega
def spLowNames (cL cG : Addr) (n : Nat) : Sp := fun vs H Q _ => ∃ (v : V) (t : Tr) (j : Int), vs = [v, .int j] ∧ EndAt cL cG n H v t j ∧ ∀ p ys H', Same H H' → H p = none → H' p = some (.lst (ys.map V.str)) → ys.Perm (t.few.getD j.toNat []) → sortedS ys = true → Q (.ref p) H'
theorem ok_low_names (T : Txt K mg) (n : Nat) : FnOk P w K mg base CX0 (n + 5) T.f_low_names T.d_low_names ["tree", "j"] (spLowNames T.a_Leaf T.a_Group n) := by
  have G_check_end := ok_check_end (P := P) (w := w) (base := base) T
  have G_fewest := RkO.FnOk.frame (ok_fewest (P := P) (w := w) (base := base) T n)
  refine T.F_low_names.ok sc_low_names (fun vs H Q E h => ?_) (fun cdv A outer s H vs Q E hr h => ?_)
  · obtain ⟨_, _, _, rfl, _⟩ := h
    rfl
  obtain ⟨v, t, j, rfl, h, q⟩ := h
  refine ⟨_, (pss_cons (ps_expr (pe_call G_check_end (hr.mono (by omega)) rfl T.m_check_end T.F_check_end.kp T.b_check_end .nil pass0 (pa_cons (pv 0) (pa_cons (pv 1) pa_nil))))
  (pss_one (ps_ret (pe_callB cr_sortedS (by rfl) T.m_sorted (by decide +kernel) (pa_cons (pe_ix ix_list (pe_ix ix_list (pe_call G_fewest (hr.mono (by omega)) rfl T.m_fewest T.F_fewest.kp T.b_fewest .nil pass0 (pa_cons (pv 0) pa_nil)) pe_int (fun _ _ => rfl)) (pv 1) (fun _ _ => rfl)) pa_nil))))), ?_⟩
  refine un_seq <| un_drop ⟨_, rfl, _, rfl, v, t, j, rfl, h.at_, h.lo, h.hi, fun H1 e1 => ?_⟩
  have h1 := h.mono e1
  have hlo := h.lo
  have hhi := h.hi
  dsimp only
  have xf : EvX (tCall (spF (spFewest T.a_Leaf T.a_Group n)) [] E0 (tCons (tVar 0) tNil)) [some v, some (.int j)] H1 (RL (t.fews.map RTab)) := x_callA (mon_RL mons_RTab) (Evl.ea_cons (Evl.ev_var rfl) Evl.ea_nil) fun H2 e2 Q q E => ⟨v, t, rfl, h.dep, h1.at_.mono e2, h.ok, h.nam, h.nod, fun v' H' s r => q v' H' s r⟩
  have x0 : EvX (tOp (rIxL K) (tCall (spF (spFewest T.a_Leaf T.a_Group n)) [] E0 (tCons (tVar 0) tNil)) (tC (.int 0))) [some v, some (.int j)] H1 (RTab t.few) := x_ixL (k := 0) xf (fun H2 _ => Evl.ev_c) rfl (by rw [List.getElem?_map, fews_head]; rfl) mons_RTab
  have x1 := x_ixL (K := K) (ti := tVar 1) (k := j.toNat) (i := j) x0 (fun H2 _ => Evl.ev_var rfl) (by omega) (by rw [List.getElem?_map, few_at (t := t) (k := j.toNat) (by omega)]; rfl) mons_RS
  refine un_ret <| un_cb1 <| x1.run fun v2 H2 e2 r2 => ?_
  obtain ⟨a, rfl, ha⟩ := r2
  refine ⟨a, _, rfl, SqL.of ha, Nat.lt_of_le_of_lt h.few (by decide), fun ys p pm so np => ?_⟩
  exact q p ys _ ((e1.trans e2).trans (same_new np _)) (Evl.fresh_back (e1.trans e2) np) upd_same pm so
theorem EndAt.mirror {cL cG : Addr} {n : Nat} {H : Hp} {v v' : V} {t : Tr} {j : Int} (h : EndAt cL cG n H v t j) {H' : Hp} (h' : TAt cL cG H' v' t.mirror) : EndAt cL cG n H' v' t.mirror ((t.width : Int) + 1 - j) := by
  have hlo := h.lo
  have hhi := h.hi
  refine ⟨h', h.ok.mirror, by rw [mirror_depth]; exact h.dep, by rw [mirror_names]; exact h.nam, ?_, by omega, by rw [mirror_width]; omega⟩
  rw [mirror_nodes]
  exact h.nod
def spHighNames (cL cG : Addr) (n : Nat) : Sp := fun vs H Q _ => ∃ (v : V) (t : Tr) (j : Int), vs = [v, .int j] ∧ EndAt cL cG n H v t j ∧ ∀ p ys H', Same H H' → H p = none → H' p = some (.lst (ys.map V.str)) → ys.Perm (t.mirror.few.getD (t.width + 1 - j.toNat) []) → sortedS ys = true → Q (.ref p) H'
theorem ok_high_names (T : Txt K mg) (n : Nat) : FnOk P w K mg base CX0 (n + 8) T.f_high_names T.d_high_names ["tree", "j"] (spHighNames T.a_Leaf T.a_Group n) := by
  have G_check_end := ok_check_end (P := P) (w := w) (base := base) T
  have G_low_names := ok_low_names (P := P) (w := w) (base := base) T n
  have GLm := RkO.FnOk.frame (ok_Leaf_mirror (P := P) (w := w) (base := base) T n)
  have GGm := RkO.FnOk.frame (ok_Group_mirror (P := P) (w := w) (base := base) T n)
  obtain ⟨ds, hds, bL⟩ := T.F_low_names.binds1 (ps := ["tree", "j"]) 2 1 (List.cons_ne_nil _ _) rfl fun _ _ _ _ _ _ _ us its hl hi => match us, hl, its, hi with | [_, _], _, [_], _ => ⟨_, rfl, rfl⟩
  cases hds
  refine T.F_high_names.ok sc_high_names (fun vs H Q E h => ?_) (fun cdv A outer s H vs Q E hr h => ?_)
  · obtain ⟨_, _, _, rfl, _⟩ := h
    rfl
  obtain ⟨v, t, j, rfl, h, q⟩ := h
  refine ⟨_, (pss_cons (ps_expr (pe_call G_check_end (hr.mono (by omega)) rfl T.m_check_end T.F_check_end.kp T.b_check_end .nil pass0 (pa_cons (pv 0) (pa_cons (pv 1) pa_nil))))
  (pss_one (ps_ret (pe_call G_low_names (hr.mono (by omega)) rfl T.m_low_names T.F_low_names.kp bL .nil pass0 (pa_cons (pe_or2 (pe_meth0 (pv 0) T.c_Leaf T.M_Leaf_mirror GLm (hr.mono (by omega)) T.b_Leaf_mirror .nil pass0) (pe_meth0 (pv 0) T.c_Group T.M_Group_mirror GGm (hr.mono (by omega)) T.b_Group_mirror .nil pass0)) (pa_cons (pe_op op_sub (pe_op op_add (pe_width (T := T) rfl (pv 0) (ok_Leaf_width T) (ok_Group_width T) (hr.mono (by omega)) rfl) pe_int) (pv 1)) pa_nil)))))), ?_⟩
  refine un_seq <| un_drop ⟨_, rfl, _, rfl, v, t, j, rfl, h.at_, h.lo, h.hi, fun H1 e1 => ?_⟩
  have h1 := h.mono e1
  have hlo := h.lo
  have hhi := h.hi
  dsimp only
  refine un_ret ?_
  have xm : EvX (teor (tMeth T.a_Leaf "mirror" (spF (spMirror K T.a_Leaf T.a_Group n true)) [] E0 (tVar 0) tNil) (tMeth T.a_Group "mirror" (spF (spMirror K T.a_Leaf T.a_Group n false)) [] E0 (tVar 0) tNil)) [some v, some (.int j)] H1 (RTe T.a_Leaf T.a_Group t.mirror) :=
    x_meth (sp := spMirror K T.a_Leaf T.a_Group n) (by decide +kernel) (by decide +kernel) (by decide +kernel) (by decide +kernel) (by decide +kernel) mon_RTe (Evl.ev_var rfl) h1.at_ Evl.ea_nil fun H2 e2 Q q E => ⟨v, t, rfl, rfl, Nat.le_of_lt h.dep, h1.at_.mono e2, h.ok, h.nam, fun v' H' s r => q v' H' s r⟩
  refine un_cons <| xm.run fun v2 H2 e2 r2 => ?_
  have er : Ev (tOp (rI0 fun i j => .int (i - j)) (tOp (rI0 fun i j => .int (i + j)) (teor (tProp T.a_Leaf (spWidth T.a_Leaf T.a_Group true) [] E0 (tVar 0)) (tProp T.a_Group (spWidth T.a_Leaf T.a_Group false) [] E0 (tVar 0))) (tC (.int 1))) (tVar 1)) [some v, some (.int j)] H2 (.int ((t.width : Int) + 1 - j)) :=
    Evl.ev_op (Evl.ev_op (rd_width (Evl.ev_var rfl) (h1.at_.mono e2)) Evl.ev_c Evl.rv_I0) (Evl.ev_var rfl) Evl.rv_I0
  refine un_cons <| er H2 (Ex.refl _) _ fun H3 e3 => ?_
  refine ⟨v2, t.mirror, _, rfl, h1.mirror (r2.mono e3), fun p ys H' s np hp pm so => q p ys H' ((e1.trans (e2.trans e3)).trans s) (Evl.fresh_back (e1.trans (e2.trans e3)) np) hp ?_ so⟩
  have e : ((t.width : Int) + 1 - j).toNat = t.width + 1 - j.toNat := by omega
  rw [e] at pm
  exact pm
/-! ### least_rank, greatest_rank -/
def spLeastRank (cL cG : Addr) (n : Nat) : Sp := fun vs H Q _ => ∃ (v : V) (t : Tr) (j : Int), vs = [v, .int j] ∧ EndAt cL cG n H v t j ∧ ∀ H', Same H H' → Q (.int (t.lr j.toNat : Nat)) H'
theorem ok_least_rank (T : Txt K mg) (n : Nat) : FnOk P w K mg base CX0 (n + 6) T.f_least_rank T.d_least_rank ["tree", "j"] (spLeastRank T.a_Leaf T.a_Group n) := by
  have G_low_names := ok_low_names (P := P) (w := w) (base := base) T n
  obtain ⟨ds, hds, bL⟩ := T.F_low_names.binds1 (ps := ["tree", "j"]) 2 1 (List.cons_ne_nil _ _) rfl fun _ _ _ _ _ _ _ us its hl hi => match us, hl, its, hi with | [_, _], _, [_], _ => ⟨_, rfl, rfl⟩
  cases hds
  refine T.F_least_rank.ok sc_least_rank (fun vs H Q E h => ?_) (fun cdv A outer s H vs Q E hr h => ?_)
  · obtain ⟨_, _, _, rfl, _⟩ := h
    rfl
  obtain ⟨v, t, j, rfl, h, q⟩ := h
  refine ⟨_, (pss_one (ps_ret (pe_callB call_len_seq (by rfl) T.m_len PySem.boot_len (pa_cons (pe_call G_low_names (hr.mono (by omega)) rfl T.m_low_names T.F_low_names.kp bL .nil pass0 (pa_cons (pv 0) (pa_cons (pv 1) pa_nil))) pa_nil)))), ?_⟩
  refine un_ret <| un_cb1 ⟨_, rfl, _, rfl, v, t, j, rfl, h, fun p ys H1 e1 np hp pm so => ⟨p, _, rfl, .inl (SqL.of hp), ?_⟩⟩
  rw [List.length_map, pm.length_eq]
  exact q H1 e1
def Tr.gr (t : Tr) (k : Nat) : Int := (t.names.length : Int) - (t.mirror.lr (t.width + 1 - k) : Int) + 1
def spGreatestRank (cL cG : Addr) (n : Nat) : Sp := fun vs H Q _ => ∃ (v : V) (t : Tr) (j : Int), vs = [v, .int j] ∧ EndAt cL cG n H v t j ∧ ∀ H', Same H H' → Q (.int (t.gr j.toNat)) H'
theorem ok_greatest_rank (T : Txt K mg) (n : Nat) : FnOk P w K mg base CX0 (n + 9) T.f_greatest_rank T.d_greatest_rank ["tree", "j"] (spGreatestRank T.a_Leaf T.a_Group n) := by
  have G_high_names := ok_high_names (P := P) (w := w) (base := base) T n
  have GLl := ok_Leaf_len (P := P) (w := w) (base := base) T
  have GGl := ok_Group_len (P := P) (w := w) (base := base) T
  obtain ⟨ds, hds, bH⟩ := T.F_high_names.binds1 (ps := ["tree", "j"]) 2 1 (List.cons_ne_nil _ _) rfl fun _ _ _ _ _ _ _ us its hl hi => match us, hl, its, hi with | [_, _], _, [_], _ => ⟨_, rfl, rfl⟩
  cases hds
  refine T.F_greatest_rank.ok sc_greatest_rank (fun vs H Q E h => ?_) (fun cdv A outer s H vs Q E hr h => ?_)
  · obtain ⟨_, _, _, rfl, _⟩ := h
    rfl
  obtain ⟨v, t, j, rfl, h, q⟩ := h
  refine ⟨_, (pss_cons (ps_set (i := 2) sc_greatest_rank.nd rfl (Or.inl rfl) (pe_call G_high_names (hr.mono (by omega)) rfl T.m_high_names T.F_high_names.kp bH .nil pass0 (pa_cons (pv 0) (pa_cons (pv 1) pa_nil))))
  (pss_one (ps_ret (pe_op op_add (pe_op op_sub (pe_callB (call_or (call_lenO T.M_Leaf_len GLl (hr.mono (by omega)) T.b_Leaf_len pass0) (call_lenO T.M_Group_len GGl (hr.mono (by omega)) T.b_Group_len pass0)) (by rfl) T.m_len PySem.boot_len (pa_cons (pv 0) pa_nil)) (pe_callB call_len_seq (by rfl) T.m_len PySem.boot_len (pa_cons (pv 2) pa_nil))) pe_int)))), ?_⟩
  refine sq_asg ⟨_, rfl, _, rfl, v, t, j, rfl, h, fun p ys H1 e1 np hp pm so => ?_⟩
  have h1 := h.mono e1
  refine Evl.s_ret (v := .int (t.gr j.toNat)) ?_ fun H2 e2 => q H2 (e1.trans e2)
  refine Evl.ev_is (Evl.ev_op (Evl.ev_op (rd_len (Evl.ev_var rfl) h1.at_ (Nat.le_trans h.nam (by decide))) (Evl.ev_len (Evl.ev_var rfl) (SqL.of hp)) Evl.rv_I0) Evl.ev_c Evl.rv_I0) ?_
  rw [List.length_map, pm.length_eq]
  rfl
end
end Rk
set_option Elab.async false
set_option linter.all false
set_option maxRecDepth 100000
set_option maxHeartbeats 4000000
namespace Rk
open PySem PySem.Spec PyProof.Rows L2 RkO Rx
open Evl (Ev EvT EvA EvL EvU EvO Ex RC RCL SpV SpL)
section
variable {K : PySem.W.Frag} {σ : L2.St} {H : Hp} {te ta tb tl : TE} {ta1 : TA} {v z : V}
theorem rd_methX {cL cG : Addr} {ta : TA} {m : Str} {sp : Bool → Sp} {Rs : List Rel} {t : Tr} (h1 : ¬ m = "_name") (h2 : ¬ m = "_names") (h3 : ¬ m = "_intake") (h4 : ¬ m = "_parts") (h5 : ¬ m = "_ranks")
    (h : Ev te σ H v) (ht : TAt cL cG H v t) (ha : EvXs ta σ H Rs) (hs : ∀ vs H1, Ex H H1 → AllR Rs H1 vs → SpV (sp (knd t)) (v :: vs) H1 z) : Ev (teor (tMeth cL m (sp true) [] E0 te ta) (tMeth cG m (sp false) [] E0 te ta)) σ H z := fun H1 e1 Q q => by
  have go : ∀ H2 (k : List V → Hp → Prop), Ex H1 H2 → (∀ vs H3, Ex H2 H3 → AllR Rs H3 vs → k vs H3) → ta σ H2 k := fun H2 k e2 g => ha no H2 hides_no (by rw [Rx.hid_no]; exact e1.trans e2) _ fun vs H3 e3 rs => g vs H3 e3 (by rw [Rx.hid_no] at rs; exact rs)
  cases ht with
  | @leaf p dx x h0 => exact .inl (h H1 e1 _ fun H2 e2 => ⟨p, dx, _, rfl, e2 _ _ (e1 _ _ h0), lf_no h1, go H2 _ e2 fun vs H3 e3 rs => by
      rw [List.append_nil]
      exact hs vs H3 ((e1.trans e2).trans e3) rs H3 (Ex.refl _) Q (fun H4 e4 => q H4 ((e2.trans e3).trans e4)) E0⟩)
  | @grp p dx lr lp ln rs ps vs' g1 g2 g3 g4 hl hf => exact .inr (h H1 e1 _ fun H2 e2 => ⟨p, dx, _, rfl, e2 _ _ (e1 _ _ g1), gf_no h2 h3 h4 h5, go H2 _ e2 fun vs H3 e3 rs => by
      rw [List.append_nil]
      exact hs vs H3 ((e1.trans e2).trans e3) rs H3 (Ex.refl _) Q (fun H4 e4 => q H4 ((e2.trans e3).trans e4)) E0⟩)
/-- a part of a list of texts -/
theorem x_cutS {xs ys : List Str} {lo hi : Option Int} {tlo thi : TO} (h : EvX te σ H (RS xs)) (hlo : ∀ H1 k, Ex H H1 → k lo H1 → tlo σ H1 k) (hhi : ∀ H1 k, Ex H H1 → k hi H1 → thi σ H1 k) (e : cutV (xs.map V.str) lo hi = ys.map V.str) : EvX (tSl (rSlL K) te tlo thi) σ H (RS ys) := fun M H1 hm e1 Q q =>
  h M H1 hm e1 _ fun v H2 e2 r => by
    obtain ⟨b, rfl, hb⟩ := r
    have hb2 : H2 b = some (.lst (xs.map V.str)) := Rx.hid_le _ _ hb
    refine hlo H2 _ ((e1.trans Rx.hid_le).trans e2) (hhi H2 _ ((e1.trans Rx.hid_le).trans e2) ⟨b, _, rfl, SqL.of hb2, fun p np => ?_⟩)
    have mp : M p = false := Hides.some (hm.ex e2) np
    refine q _ _ (e2.trans (same_new np _)) ⟨p, rfl, ?_⟩
    rw [e, Rx.hid_upd mp]
    exact upd_same
theorem x_catS {xs ys : List Str} (h : EvX ta σ H (RS xs)) (g : EvX tb σ H (RS ys)) (hz : xs.length + ys.length ≤ 100000) : EvX (tOp rCat ta tb) σ H (RS (xs ++ ys)) := by
  have f : ∀ {te : TE} {zs : List Str}, EvX te σ H (RS zs) → EvX te σ H (RL (zs.map fun x => RV (.str x))) := fun h => h.imp fun H1 v _ r => by
    obtain ⟨b, rfl, hb⟩ := r
    exact RL_mk hb
  refine (x_cat (MonA.map fun _ _ => mon_RV) (MonA.map fun _ _ => mon_RV) (f h) (f g) (by rw [List.length_map, List.length_map]; exact hz)).imp fun H1 v _ r => RS.of ?_
  rw [List.map_append]
  exact r
theorem x_oneS {x : Str} (h : Ev te σ H (.str x)) : EvX (tLst (tCons te tNil)) σ H (RS [x]) := (x_lst (Rs := [RV (.str x)]) (MonA.cons mon_RV MonA.nil) (x_cons mon_RV (x_evV h) x_nil) (Nat.le_of_ble_eq_true rfl)).imp fun H1 v _ r => RS.of r
/-- the same, its address new -/
theorem el_catS {xs ys : List Str} (h : EvX ta σ H (RS xs)) (g : EvX tb σ H (RS ys)) (hz : xs.length + ys.length ≤ 100000) : EvL (tOp rCat ta tb) σ H ((xs ++ ys).map V.str) := fun H1 e1 Q q => (h.mono e1).run fun u H2 e2 r2 => (g.mono (e1.trans e2)).run fun w H3 e3 r3 => by
  obtain ⟨a, rfl, ha⟩ := r2
  obtain ⟨b, rfl, hb⟩ := r3
  refine ⟨a, b, _, _, rfl, rfl, e3 _ _ ha, hb, Evl.sz_of (by rw [List.length_map, List.length_map]; exact hz), fun p np => ?_⟩
  rw [← List.map_append]
  exact q p _ (Evl.fresh_back (e2.trans e3) np) ((e2.trans e3).trans (same_new np _)) upd_same
end
/-- [x for x in xs if x in ys], or not in -/
theorem x_filt {K : PySem.W.Frag} {σ : L2.St} {H : Hp} {i k j : Nat} {vs : List Nat} {neg : Bool} {a b : Addr} {xs ys : List Str} (hi : σ[i]? = some (some (.ref a))) (ha : H a = some (.lst (xs.map V.str))) (hb : H b = some (.lst (ys.map V.str))) (hz : xs.length ≤ 40000) (hw : ∀ x, wipe ((wipe σ vs).set j (some x)) vs = wipe σ vs)
    (h2 : ∀ x : V, ((wipe σ vs).set j (some x))[k]? = some (some (.ref b))) (h3 : ∀ x : V, ((wipe σ vs).set j (some x))[j]? = some (some x)) :
    EvL (tLc (iList K (tVar i)) (gName j) (tTest (tOp (rIn K neg) (tVar j) (tVar k))) (tVar j) vs) σ H ((xs.filter fun x => if neg then !decide (x ∈ ys) else decide (x ∈ ys)).map V.str) :=
  el_lcF (xs := xs) (g := V.str) (f := V.str) (p := fun x => if neg then !decide (x ∈ ys) else decide (x ∈ ys)) (Evl.ev_var hi) (SqL.of ha) hz hw
    (fun x H4 e4 hm => by
      cases neg with
      | true => exact Evl.et_is (Evl.et_test (Evl.ev_op (Evl.ev_var (h3 _)) (Evl.ev_var (h2 _)) (Evl.rv_niL (SqL.of (e4 _ _ hb)) rfl (flat_strs _)))) (by rw [inV_str]; rfl)
      | false => exact Evl.et_is (Evl.et_test (Evl.ev_op (Evl.ev_var (h3 _)) (Evl.ev_var (h2 _)) (Evl.rv_isL (SqL.of (e4 _ _ hb)) rfl (flat_strs _)))) (by rw [inV_str]; rfl)) (fun x H4 e4 hm hp => Evl.ev_var (h3 _))
end Rk
set_option Elab.async false
set_option linter.all false
set_option maxRecDepth 100000
set_option maxHeartbeats 4000000
/-! from one set of names to another, one by one: where an end turns -/
namespace Rk
open PySem L2 RkO
theorem count_up {l m : Int} (h : l ≤ m) : ∀ rs : List Int, (rs.filter fun q => decide (q ≤ l)).length ≤ (rs.filter fun q => decide (q ≤ m)).length
  | [] => Nat.le_refl _
  | r :: rs => by
    have ih := count_up h rs
    rw [List.filter_cons, List.filter_cons]
    by_cases h1 : r ≤ l
    · rw [if_pos (decide_eq_true h1), if_pos (decide_eq_true (Int.le_trans h1 h))]
      exact Nat.succ_le_succ ih
    · rw [if_neg (by rw [decide_eq_false h1]; decide)]
      split
      · exact Nat.le_succ_of_le ih
      · exact ih
mutual
theorem low_mono {s r : List Str} (h : ∀ x ∈ s, x ∈ r) : ∀ t : Tr, t.low s ≤ t.low r
  | .leaf x => by
    show (if x ∈ s then 1 else 0) ≤ (if x ∈ r then 1 else 0)
    by_cases c : x ∈ s
    · rw [if_pos c, if_pos (h x c)]
      exact Nat.le_refl _
    · rw [if_neg c]
      exact Nat.zero_le _
  | .grp rs ps => count_up (Int.ofNat_le.mpr (low_monoL h ps)) rs
theorem low_monoL {s r : List Str} (h : ∀ x ∈ s, x ∈ r) : ∀ ps : List Tr, lowL s ps ≤ lowL r ps
  | [] => Nat.le_refl _
  | p :: ps => Nat.add_le_add (low_mono h p) (low_monoL h ps)
end
/-- the names on the way, the one at a left out -/
def Wt (b l c : List Str) (a : Nat) : List Str := b ++ c.take a ++ l.drop (a + 1)
/-- two sets of names, and what lies between them -/
structure Way (t : Tr) (j : Nat) (en few : List Str) : Prop where
  ok : Ok t
  nd : t.names.Nodup
  n1 : en.Nodup
  n2 : few.Nodup
  s1 : ∀ x ∈ en, x ∈ t.names
  s2 : ∀ x ∈ few, x ∈ t.names
  h1 : j ≤ t.low en
  h2 : t.low few < j
  sz : en.length ≤ few.length + 1
def bothOf (en few : List Str) : List Str := en.filter fun x => decide (x ∈ few)
def leavOf (en few : List Str) : List Str := en.filter fun x => !decide (x ∈ few)
def comeOf (en few : List Str) : List Str := few.filter fun x => !decide (x ∈ en)
section
variable {t : Tr} {j : Nat} {en few : List Str}
theorem both_len (n1 : en.Nodup) (n2 : few.Nodup) : (bothOf en few).length = (few.filter fun x => decide (x ∈ en)).length := by
  refine List.Perm.length_eq ?_
  refine (List.perm_ext_iff_of_nodup (n1.sublist List.filter_sublist) (n2.sublist List.filter_sublist)).mpr fun x => ?_
  rw [List.mem_filter, List.mem_filter, decide_eq_true_iff, decide_eq_true_iff]
  exact and_comm
theorem part_len (xs : List Str) (p : Str → Bool) : (xs.filter p).length + (xs.filter fun x => !p x).length = xs.length := by
  induction xs with
  | nil => rfl
  | cons x xs ih =>
    rw [List.filter_cons, List.filter_cons]
    cases p x <;> simp <;> omega
theorem en_len (en few : List Str) : (bothOf en few).length + (leavOf en few).length = en.length := part_len en _
theorem few_len2 (n1 : en.Nodup) (n2 : few.Nodup) : (bothOf en few).length + (comeOf en few).length = few.length := by
  rw [both_len n1 n2]
  exact part_len few _
theorem Way.come (w : Way t j en few) : (leavOf en few).length ≤ (comeOf en few).length + 1 := by
  have := en_len en few
  have := few_len2 w.n1 w.n2
  have := w.sz
  omega
theorem Way.some (w : Way t j en few) : 1 ≤ (leavOf en few).length := by
  refine Nat.le_of_not_lt fun z => ?_
  have e : leavOf en few = [] := List.length_eq_zero_iff.mp (by omega)
  have : t.low en ≤ t.low few := low_mono (fun x hx => by
    cases c : decide (x ∈ few) with
    | true => exact of_decide_eq_true c
    | false =>
      have : x ∈ leavOf en few := List.mem_filter.mpr ⟨hx, by rw [c]; rfl⟩
      rw [e] at this
      cases this) t
  have := w.h1
  have := w.h2
  omega
theorem Wt_mem {a : Nat} {x : Str} (h : x ∈ Wt (bothOf en few) (leavOf en few) (comeOf en few) a) : x ∈ en ∨ x ∈ few := by
  rcases List.mem_append.mp h with h | h
  · rcases List.mem_append.mp h with h | h
    · exact .inl (List.mem_filter.mp h).1
    · exact .inr (List.mem_filter.mp (List.mem_of_mem_take h)).1
  · exact .inl (List.mem_filter.mp (List.mem_of_mem_drop h)).1
theorem Way.sub (w : Way t j en few) {a : Nat} {x : Str} (h : x ∈ Wt (bothOf en few) (leavOf en few) (comeOf en few) a) : x ∈ t.names := (Wt_mem h).elim (w.s1 x) (w.s2 x)
theorem Way.wnd (w : Way t j en few) (a : Nat) : (Wt (bothOf en few) (leavOf en few) (comeOf en few) a).Nodup := by
  have d1 : ∀ x ∈ bothOf en few, x ∈ en ∧ x ∈ few := fun x h => ⟨(List.mem_filter.mp h).1, of_decide_eq_true (List.mem_filter.mp h).2⟩
  have d2 : ∀ x ∈ leavOf en few, x ∈ en ∧ x ∉ few := fun x h => ⟨(List.mem_filter.mp h).1, by simpa using (List.mem_filter.mp h).2⟩
  have d3 : ∀ x ∈ comeOf en few, x ∈ few ∧ x ∉ en := fun x h => ⟨(List.mem_filter.mp h).1, by simpa using (List.mem_filter.mp h).2⟩
  refine List.nodup_append.mpr ⟨List.nodup_append.mpr ⟨w.n1.sublist List.filter_sublist, (w.n2.sublist List.filter_sublist).sublist (List.take_sublist _ _), fun x hx y hy e => ?_⟩, (w.n1.sublist List.filter_sublist).sublist (List.drop_sublist _ _), fun x hx y hy e => ?_⟩
  · subst e
    exact (d3 x (List.mem_of_mem_take hy)).2 (d1 x hx).1
  · subst e
    have hy := d2 x (List.mem_of_mem_drop hy)
    rcases List.mem_append.mp hx with hx | hx
    · exact hy.2 (d1 x hx).2
    · exact (d3 x (List.mem_of_mem_take hx)).2 hy.1
/-- before the turn: with the one at a there are j low ends -/
theorem Way.before (w : Way t j en few) : ∀ a, a ≤ (comeOf en few).length → (∀ i, i < a → j ≤ t.low (Wt (bothOf en few) (leavOf en few) (comeOf en few) i)) → j ≤ t.low (bothOf en few ++ (comeOf en few).take a ++ (leavOf en few).drop a)
  | 0, _, _ => Nat.le_trans w.h1 (low_mono (fun x hx => by
    rw [List.take_zero, List.append_nil, List.drop_zero]
    cases c : decide (x ∈ few) with
    | true => exact List.mem_append_left _ (List.mem_filter.mpr ⟨hx, c⟩)
    | false => exact List.mem_append_right _ (List.mem_filter.mpr ⟨hx, by rw [c]; rfl⟩)) t)
  | a + 1, h, hi => Nat.le_trans (hi a (Nat.lt_succ_self a)) (low_mono (fun x hx => by
    rcases List.mem_append.mp hx with hx | hx
    · refine List.mem_append_left _ ?_
      rcases List.mem_append.mp hx with hx | hx
      · exact List.mem_append_left _ hx
      · exact List.mem_append_right _ ((List.take_prefix_take_left (Nat.le_succ a)).subset hx)
    · exact List.mem_append_right _ hx) t)
/-- at the latest the last one turns it -/
theorem Way.last (w : Way t j en few) {a : Nat} (h : (leavOf en few).length ≤ a + 1) : t.low (Wt (bothOf en few) (leavOf en few) (comeOf en few) a) < j := by
  refine Nat.lt_of_le_of_lt (low_mono (fun x hx => ?_) t) w.h2
  unfold Wt at hx
  rw [List.drop_of_length_le h, List.append_nil] at hx
  rcases List.mem_append.mp hx with hx | hx
  · exact of_decide_eq_true (List.mem_filter.mp hx).2
  · exact (List.mem_filter.mp (List.mem_of_mem_take hx)).1
/-- the turn -/
structure Turn (t : Tr) (j : Nat) (en few : List Str) (a : Nat) : Prop where
  lt : a < (leavOf en few).length
  lo : t.low (Wt (bothOf en few) (leavOf en few) (comeOf en few) a) < j
  le : ∀ i, i < a → j ≤ t.low (Wt (bothOf en few) (leavOf en few) (comeOf en few) i)
theorem Turn.one {a b : Nat} (x : Turn t j en few a) (y : Turn t j en few b) : a = b := by
  rcases Nat.lt_trichotomy a b with h | h | h
  · exact absurd (y.le a h) (Nat.not_le_of_lt x.lo)
  · exact h
  · exact absurd (x.le b h) (Nat.not_le_of_lt y.lo)
def fst (en few : List Str) (a : Nat) : List Str := Wt (bothOf en few) (leavOf en few) (comeOf en few) a ++ [(leavOf en few).getD a (Str.empty)]
theorem Turn.first (w : Way t j en few) {a : Nat} (x : Turn t j en few a) : (fst en few a).Nodup ∧ (∀ y ∈ fst en few a, y ∈ t.names) ∧ (fst en few a).length = en.length ∧ j ≤ t.low (fst en few a) := by
  have hg : (leavOf en few).getD a Str.empty = (leavOf en few)[a]'x.lt := by
    rw [List.getD_eq_getElem?_getD, List.getElem?_eq_getElem x.lt]
    rfl
  have hm : (leavOf en few)[a]'x.lt ∈ leavOf en few := List.getElem_mem x.lt
  have hen := (List.mem_filter.mp hm).1
  have hnf : (leavOf en few)[a]'x.lt ∉ few := by simpa using (List.mem_filter.mp hm).2
  have ndl : (leavOf en few).Nodup := w.n1.sublist List.filter_sublist
  have hdrop : (leavOf en few).drop a = (leavOf en few)[a]'x.lt :: (leavOf en few).drop (a + 1) := List.drop_eq_getElem_cons x.lt
  have hcl := w.come
  have hal := x.lt
  unfold fst
  rw [hg]
  refine ⟨List.nodup_append.mpr ⟨w.wnd a, List.nodup_cons.mpr ⟨List.not_mem_nil, List.nodup_nil⟩, fun y hy z hz e => ?_⟩, fun y hy => ?_, ?_, ?_⟩
  · rw [List.mem_singleton.mp hz] at e
    subst e
    rcases List.mem_append.mp hy with hy | hy
    · rcases List.mem_append.mp hy with hy | hy
      · exact hnf (of_decide_eq_true (List.mem_filter.mp hy).2)
      · exact hnf (List.mem_filter.mp (List.mem_of_mem_take hy)).1
    · have := ndl.sublist (List.drop_sublist a _)
      rw [hdrop] at this
      exact (List.nodup_cons.mp this).1 hy
  · rcases List.mem_append.mp hy with hy | hy
    · exact w.sub hy
    · rw [List.mem_singleton.mp hy]
      exact w.s1 _ hen
  · unfold Wt
    rw [List.length_append, List.length_append, List.length_append, List.length_take, List.length_drop]
    have := en_len en few
    simp only [List.length_cons, List.length_nil]
    omega
  · refine Nat.le_trans (w.before a (by omega) x.le) (low_mono (fun y hy => ?_) t)
    rw [hdrop] at hy
    rcases List.mem_append.mp hy with hy | hy
    · exact List.mem_append_left _ (List.mem_append_left _ hy)
    · rcases List.mem_cons.mp hy with rfl | hy
      · exact List.mem_append_right _ List.mem_cons_self
      · exact List.mem_append_left _ (List.mem_append_right _ hy)
end
end Rk
set_option Elab.async false
set_option linter.all false
set_option maxRecDepth 100000
set_option maxHeartbeats 4000000
namespace Rk
open PySem PySem.Spec PyProof.Rows L2 RkO Rx
open Evl (Ev EvT EvA EvL EvU EvO Ex RC RCL SpV SpL)
section
variable {P : Program} {w : World} {K : PySem.W.Frag} {mg : Str → Option Value} {base : Heap}
def spTurn (cL cG : Addr) (n : Nat) : Sp := fun vs H Q _ => ∃ (v : V) (t : Tr) (j : Nat) (e f : Addr) (en few : List Str), vs = [v, .int j, .ref e, .ref f] ∧ TAt cL cG H v t ∧ t.depth ≤ n ∧ t.names.length ≤ 60 ∧ Way t j en few ∧ H e = some (.lst (en.map V.str)) ∧ H f = some (.lst (few.map V.str)) ∧
  ∀ a p H', Turn t j en few a → Same H H' → H' p = some (.lst ((fst en few a).map V.str)) → Q (.ref p) H'
theorem ok_up_to_turn (T : Txt K mg) (n : Nat) : FnOk P w K mg base CX0 (n + 6) T.f_up_to_turn T.d_up_to_turn ["tree", "j", "enough", "too_few"] (spTurn T.a_Leaf T.a_Group n) := by
  have GPL := ok_Leaf_passes (P := P) (w := w) (base := base) T n
  have GPG := ok_Group_passes (P := P) (w := w) (base := base) T n
  refine T.F_up_to_turn.ok sc_up_to_turn (fun vs H Q E h => ?_) (fun cdv A outer s H vs Q E hr h => ?_)
  · obtain ⟨_, _, _, _, _, _, _, rfl, _⟩ := h
    rfl
  obtain ⟨v, t, j, e, f, en, few, rfl, ht, hd, hz, hW, he, hf, q⟩ := h
  refine ⟨_, (pss_cons (ps_setLc (i := 4) (own := [("name", 8)]) rfl sc_up_to_turn.nd rfl rfl (sw_true rfl rfl rfl (by decide +kernel))  (pi_list (pv 2)) (blkOk_by (own := [("name", 8)]) (N := ["tree", "j", "enough", "too_few", "both", "leaving", "coming", "at", "name"]) (sc := defScope s_up_to_turn) (by decide +kernel)) (fun _ _ _ _ _ => (pg_name (i := 8) sc_up_to_turn.nd rfl (.inl rfl))) (fun _ _ _ _ _ => (pts_one (pt_cmpR (opR_K (K := K) (r := (fun K => rIn K false)) rfl op_in_seq) (pv 8) (pv 3) (by rfl)))) (fun _ _ _ _ _ => (pv 8)))
  (pss_cons (ps_setLc (i := 5) (own := [("name", 8)]) rfl sc_up_to_turn.nd rfl rfl (sw_true rfl rfl rfl (by decide +kernel))  (pi_list (pv 2)) (blkOk_by (own := [("name", 8)]) (N := ["tree", "j", "enough", "too_few", "both", "leaving", "coming", "at", "name"]) (sc := defScope s_up_to_turn) (by decide +kernel)) (fun _ _ _ _ _ => (pg_name (i := 8) sc_up_to_turn.nd rfl (.inl rfl))) (fun _ _ _ _ _ => (pts_one (pt_cmpR (opR_K (K := K) (r := (fun K => rIn K true)) rfl op_notIn_seq) (pv 8) (pv 3) (by rfl)))) (fun _ _ _ _ _ => (pv 8)))
  (pss_cons (ps_setLc (i := 6) (own := [("name", 8)]) rfl sc_up_to_turn.nd rfl rfl (sw_true rfl rfl rfl (by decide +kernel))  (pi_list (pv 3)) (blkOk_by (own := [("name", 8)]) (N := ["tree", "j", "enough", "too_few", "both", "leaving", "coming", "at", "name"]) (sc := defScope s_up_to_turn) (by decide +kernel)) (fun _ _ _ _ _ => (pg_name (i := 8) sc_up_to_turn.nd rfl (.inl rfl))) (fun _ _ _ _ _ => (pts_one (pt_cmpR (opR_K (K := K) (r := (fun K => rIn K true)) rfl op_notIn_seq) (pv 8) (pv 2) (by rfl)))) (fun _ _ _ _ _ => (pv 8)))
  (pss_cons (ps_set (i := 7) sc_up_to_turn.nd rfl (Or.inl rfl) pe_int)
  (pss_cons (ps_while PassesOwn.never (pt_cmpR op_ge (by exact (pe_or2 (pe_meth (pv 0) T.c_Leaf T.M_Leaf_passes GPL (hr.mono (by omega)) T.b_Leaf_passes .nil pass0 (pa_cons (pe_op op_cat (pe_op op_cat (pv 4) (pe_slice sl_list (pv 6) po_none (po_some (pv 7)))) (pe_slice sl_list (pv 5) (po_some (pe_op op_add (pv 7) pe_int)) po_none)) pa_nil)) (pe_meth (pv 0) T.c_Group T.M_Group_passes GPG (hr.mono (by omega)) T.b_Group_passes .nil pass0 (pa_cons (pe_op op_cat (pe_op op_cat (pv 4) (pe_slice sl_list (pv 6) po_none (po_some (pv 7)))) (pe_slice sl_list (pv 5) (po_some (pe_op op_add (pv 7) pe_int)) po_none)) pa_nil)))) (pv 1) (nomark _))
    (pss_one (ps_set (i := 7) sc_up_to_turn.nd rfl (Or.inl rfl) (pe_op op_add (pv 7) pe_int))))
  (pss_one (ps_ret (pe_op op_cat (pe_op op_cat (pe_op op_cat (pv 4) (pe_slice sl_list (pv 6) po_none (po_some (pv 7)))) (pe_slice sl_list (pv 5) (po_some (pe_op op_add (pv 7) pe_int)) po_none)) (pe_lst (pa_cons (pe_ix ix_list (pv 5) (pv 7) (fun _ _ => rfl)) pa_nil)))))))))), ?_⟩
  have le1 : en.length ≤ 60 := Nat.le_trans (nodup_len hW.n1 hW.s1) hz
  have le2 : few.length ≤ 60 := Nat.le_trans (nodup_len hW.n2 hW.s2) hz
  have lb := en_len en few
  have lc := few_len2 hW.n1 hW.n2
  refine Evl.q_asgL (xs := (bothOf en few).map V.str) (x_filt (K := K) (i := 2) (k := 3) (j := 8) (neg := false) rfl he hf (by omega) (fun x => rfl) (fun x => rfl) (fun x => rfl)) fun b4 H1 n1 e1 h1 => ?_
  have he1 := e1 _ _ he
  have hf1 := e1 _ _ hf
  refine Evl.q_asgL (xs := (leavOf en few).map V.str) (x_filt (K := K) (i := 2) (k := 3) (j := 8) (neg := true) rfl he1 hf1 (by omega) (fun x => rfl) (fun x => rfl) (fun x => rfl)) fun l5 H2 n2 e2 h2 => ?_
  refine Evl.q_asgL (xs := (comeOf en few).map V.str) (x_filt (K := K) (i := 3) (k := 2) (j := 8) (neg := true) rfl (e2 _ _ hf1) (e2 _ _ he1) (by omega) (fun x => rfl) (fun x => rfl) (fun x => rfl)) fun c6 H3 n3 e3 h3 => ?_
  have h13 := e3 _ _ (e2 _ _ h1)
  have h23 := e3 _ _ h2
  have e03 := (e1.trans e2).trans e3
  refine Evl.q_asg Evl.ev_c fun H4 e4 => ?_
  have argE : ∀ (a : Nat) (x8 : Option V) H', Ex H3 H' → EvX (tOp rCat (tOp rCat (tVar 4) (tSl (rSlL K) (tVar 6) tNoPart (tPart (tVar 7)))) (tSl (rSlL K) (tVar 5) (tPart (tOp (rI0 fun i j => .int (i + j)) (tVar 7) (tC (.int 1)))) tNoPart)) [some v, some (.int j), some (.ref e), some (.ref f), some (.ref b4), some (.ref l5), some (.ref c6), some (.int (a : Nat)), x8] H' (RS (Wt (bothOf en few) (leavOf en few) (comeOf en few) a)) := fun a x8 H' e' =>
    x_catS (x_catS (x_var rfl mon_RS ⟨b4, rfl, e' _ _ h13⟩) (x_cutS (x_var rfl mon_RS ⟨c6, rfl, e' _ _ h3⟩) (fun H1 k _ h => h) (fun H1 k _ h => ⟨_, rfl, _, rfl, h⟩) (cut_to (comeOf en few) a)) (by rw [List.length_take]; omega)) (x_cutS (x_var rfl mon_RS ⟨l5, rfl, e' _ _ h23⟩) (fun H1 k _ h => ⟨_, rfl, _, _, rfl, rfl, _, rfl, h⟩) (fun H1 k _ h => h) (cut_from (leavOf en few) (a + 1))) (by rw [List.length_append, List.length_take, List.length_drop]; omega)
  refine Evl.q_while (fun m σ' H' => ∃ a : Nat, m = (leavOf en few).length - a ∧ σ' = [some v, some (.int j), some (.ref e), some (.ref f), some (.ref b4), some (.ref l5), some (.ref c6), some (.int (a : Nat)), none] ∧ a < (leavOf en few).length ∧ (∀ i, i < a → j ≤ t.low (Wt (bothOf en few) (leavOf en few) (comeOf en few) i)) ∧ Ex H3 H') _ ⟨0, rfl, rfl, hW.some, (fun i h => absurd h (Nat.not_lt_zero i)), e4⟩ fun m σ' H' hw => ?_
  obtain ⟨a, rfl, rfl, hl, hle, e5⟩ := hw
  have ht5 := (ht.mono e03).mono e5
  refine ⟨decide (j ≤ t.low (Wt (bothOf en few) (leavOf en few) (comeOf en few) a)), ?_, fun hb H6 e6 => ?_, fun hb H6 e6 => ?_⟩
  · refine Evl.et_is (Evl.et_test (Evl.ev_op (rd_methX (Rs := [RS (Wt (bothOf en few) (leavOf en few) (comeOf en few) a)]) (sp := spPasses K T.a_Leaf T.a_Group n) (z := .int (t.low (Wt (bothOf en few) (leavOf en few) (comeOf en few) a) : Nat)) (by decide +kernel) (by decide +kernel) (by decide +kernel) (by decide +kernel) (by decide +kernel) (Evl.ev_var rfl) ht5 (x_cons mon_RS (argE a none H' e5) x_nil) fun vs H14 e14 r H15 e15 Q q E => ?_) (Evl.ev_var rfl) Evl.rv_I0)) ?_
    · obtain ⟨v1, r1, rfl, ⟨c, rfl, hc⟩, g⟩ := r
      rw [show r1 = [] from g]
      exact ⟨v, t, c, _, rfl, rfl, hd, (ht5.mono e14).mono e15, hW.ok, by omega, SqL.of (e15 _ _ hc), hW.wnd a, fun x hx => hW.sub hx, q⟩
    · exact decide_eq_decide.mpr ⟨fun h => Int.ofNat_le.mp h, fun h => Int.ofNat_le.mpr h⟩
  · have hb := of_decide_eq_true hb
    have hl2 : a + 1 < (leavOf en few).length := Nat.lt_of_not_le fun z => absurd hb (Nat.not_le_of_lt (hW.last z))
    refine ⟨fun σ2 H2 => σ2 = [some v, some (.int j), some (.ref e), some (.ref f), some (.ref b4), some (.ref l5), some (.ref c6), some (.int ((a + 1 : Nat) : Nat)), none] ∧ Ex H3 H2, fun σ2 H2 h => ⟨(leavOf en few).length - (a + 1), by omega, a + 1, rfl, h.1, hl2, fun i hi => ?_, h.2⟩, Evl.s_asg (Evl.ev_op (Evl.ev_var rfl) Evl.ev_c Evl.rv_I0) fun H7 e7 => ⟨rfl, (e5.trans e6).trans e7⟩⟩
    rcases Nat.lt_succ_iff_lt_or_eq.mp hi with h | rfl
    · exact hle i h
    · exact hb
  · have hb := Nat.lt_of_not_le (of_decide_eq_false hb)
    have e36 := e5.trans e6
    have hg : (leavOf en few)[a]? = some ((leavOf en few).getD a Str.empty) := by
      rw [List.getD_eq_getElem?_getD, List.getElem?_eq_getElem hl]
      rfl
    refine un_ret <| (x_catS (argE a none H6 e36) (x_oneS (Evl.ev_op (Evl.ev_var rfl) (Evl.ev_var rfl) (Evl.rv_ixL (K := K) (SqL.of (e36 _ _ h23)) (atI_nat (j := a) (by rw [List.getElem?_map, hg]; rfl))))) ?_).run fun v' H7 e7 r7 => ?_
    · have := nodup_len (hW.wnd a) fun x hx => hW.sub hx
      show _ + 1 ≤ _
      omega
    · obtain ⟨p, rfl, hp⟩ := r7
      exact q a p H7 ⟨hl, hb, hle⟩ ((e03.trans e36).trans e7) hp
end
end Rk
set_option Elab.async false
set_option linter.all false
set_option maxRecDepth 100000
set_option maxHeartbeats 4000000
/-! where an end lies among the worths -/
namespace Rk
open PySem L2 RkO
theorem end_le {t : Tr} (h : Ok t) {wf : Str → Int} {i : Nat} (hi : i < t.width) {b : Int} {s : List Str} (hs : ∀ x ∈ t.names, x ∈ s ↔ wf x ≤ b) : (t.ends wf).getD i 0 ≤ b ↔ i + 1 ≤ t.low s := by
  rw [rank_le b _ (ends_up (wf := wf) h) i (by rw [ends_len (wf := wf)]; exact hi), ends_low (wf := wf) b s h hs]
theorem mem_le {xs : List Str} {p : Str → Bool} : ∀ x ∈ xs, x ∈ xs.filter p ↔ p x = true := fun x hx => by
  rw [List.mem_filter]
  exact ⟨fun z => z.2, fun z => ⟨hx, z⟩⟩
theorem best_at {t : Tr} (h : Ok t) {k : Nat} (hk : k ≤ t.width) {p : Str → Bool} (hl : k ≤ t.low (t.names.filter p)) : t.lr k ≤ (t.names.filter p).length := by
  have := (good_few h).best _ _ (few_at hk) (t.names.filter p) hl
  rw [filter_mem] at this
  exact this
where
  filter_mem {xs : List Str} {p : Str → Bool} : (xs.filter fun x => decide (x ∈ xs.filter p)) = xs.filter p := by
    refine List.filter_congr fun x hx => ?_
    rw [Bool.eq_iff_iff, decide_eq_true_iff]
    exact mem_le x hx
theorem span_lo {t : Tr} (h : Ok t) (wf : Str → Int) {i : Nat} (hi : i < t.width) : t.lr (i + 1) ≤ (t.names.filter fun x => decide (wf x ≤ (t.ends wf).getD i 0)).length :=
  best_at h hi ((end_le h hi fun x hx => by rw [mem_le x hx, decide_eq_true_iff]).mp (Int.le_refl _))
theorem compl_low {t : Tr} {p : Str → Bool} : t.mirror.low (t.names.filter fun x => !p x) + t.low (t.names.filter p) = t.width := by
  refine low_turn _ _ t fun x hx => ?_
  rw [mem_le x hx, mem_le x hx]
  cases p x <;> simp
theorem span_hi {t : Tr} (h : Ok t) (wf : Str → Int) {i : Nat} (hi : i < t.width) : t.mirror.lr (t.width - i) ≤ (t.names.filter fun x => decide ((t.ends wf).getD i 0 ≤ wf x)).length := by
  have h1 : ¬ (i + 1 ≤ t.low (t.names.filter fun x => decide (wf x ≤ (t.ends wf).getD i 0 - 1))) := fun z => by
    have := (end_le h hi (b := (t.ends wf).getD i 0 - 1) fun x hx => by rw [mem_le x hx, decide_eq_true_iff]).mpr z
    omega
  have c := compl_low (t := t) (p := fun x => decide (wf x ≤ (t.ends wf).getD i 0 - 1))
  have e : (t.names.filter fun x => !decide (wf x ≤ (t.ends wf).getD i 0 - 1)) = t.names.filter fun x => decide ((t.ends wf).getD i 0 ≤ wf x) := List.filter_congr fun x _ => by
    by_cases q : wf x ≤ (t.ends wf).getD i 0 - 1
    · rw [decide_eq_true q, decide_eq_false (by omega)]
      rfl
    · rw [decide_eq_false q, decide_eq_true (by omega)]
      rfl
  rw [e] at c
  have := best_at (t := t.mirror) h.mirror (k := t.width - i) (by rw [mirror_width]; omega) (p := fun x => decide ((t.ends wf).getD i 0 ≤ wf x)) (by rw [mirror_names]; omega)
  rwa [mirror_names] at this
/-! the two orders that reach both ends of the span -/
theorem wfAt_le {xs : List Str} (nd : xs.Nodup) {k : Nat} (hk : k ≤ xs.length) (x : Str) (hx : x ∈ xs) (wa : Str → Int) (hw : ∀ (i : Nat) y, xs[i]? = some y → wa y = 1 + (i : Int)) : x ∈ xs.take k ↔ wa x ≤ (k : Int) := by
  obtain ⟨i, hi, rfl⟩ := List.mem_iff_getElem.mp hx
  rw [hw i _ (List.getElem?_eq_getElem hi)]
  constructor
  · intro h
    obtain ⟨j, hj, e⟩ := List.mem_iff_getElem.mp h
    rw [List.length_take] at hj
    rw [List.getElem_take] at e
    have := (List.getElem_inj nd).mp e
    omega
  · intro h
    refine List.mem_iff_getElem.mpr ⟨i, by rw [List.length_take]; omega, ?_⟩
    rw [List.getElem_take]
/-- the end of the order is the place at which j ends are low for the first time -/
theorem end_at {t : Tr} (h : Ok t) {xs : List Str} (nd : xs.Nodup) (hp : xs.Perm t.names) {wa : Str → Int} (hw : ∀ (i : Nat) y, xs[i]? = some y → wa y = 1 + (i : Int)) {i k : Nat} (hi : i < t.width) (hk : k < xs.length) (h1 : t.low (xs.take k) < i + 1) (h2 : i + 1 ≤ t.low (xs.take (k + 1))) : (t.ends wa).getD i 0 = (k : Int) + 1 := by
  have le : ∀ m, m ≤ xs.length → ((t.ends wa).getD i 0 ≤ (m : Int) ↔ i + 1 ≤ t.low (xs.take m)) := fun m hm => end_le h hi fun x hx => wfAt_le nd hm x (hp.mem_iff.mpr hx) wa hw
  have a := le k (Nat.le_of_lt hk)
  have b := (le (k + 1) hk).mpr h2
  have c : ¬ (t.ends wa).getD i 0 ≤ (k : Int) := fun z => by
    have := a.mp z
    omega
  omega
theorem low_perm {s r : List Str} (h : ∀ x, x ∈ s ↔ x ∈ r) (t : Tr) : t.low s = t.low r := by
  have c1 := low_turn (t.names.filter fun x => decide (x ∉ s)) s t fun x hx => by
    rw [mem_le x hx, decide_eq_true_iff]
    exact ⟨fun z y => y z, fun z => Classical.byContradiction z⟩
  have c2 := low_turn (t.names.filter fun x => decide (x ∉ s)) r t fun x hx => by
    rw [mem_le x hx, decide_eq_true_iff, h x]
    exact ⟨fun z y => y z, fun z => Classical.byContradiction z⟩
  omega
mutual
theorem low_nil : ∀ {t : Tr}, Ok t → t.low [] = 0
  | .leaf x, _ => rfl
  | .grp rs ps, h => by
    cases h with
    | grp oks _ _ _ _ hb =>
      show (rs.filter fun r => decide (r ≤ (lowL [] ps : Int))).length = 0
      rw [low_nilL oks]
      rw [List.length_eq_zero_iff]
      refine List.filter_eq_nil_iff.mpr fun r hr z => ?_
      have := (hb r hr).1
      have := of_decide_eq_true z
      omega
theorem low_nilL : ∀ {ps : List Tr}, (∀ t ∈ ps, Ok t) → lowL [] ps = 0
  | [], _ => rfl
  | p :: ps, h => by
    show p.low [] + lowL [] ps = 0
    rw [low_nil (h p (List.mem_cons_self ..)), low_nilL fun t ht => h t (List.mem_cons_of_mem _ ht)]
end
theorem lr_pos {t : Tr} (h : Ok t) {k : Nat} (h1 : 1 ≤ k) (hk : k ≤ t.width) : 1 ≤ t.lr k := by
  have g := (good_few h).lo k _ (few_at hk) (t.few.getD k []) fun x hx => hx
  have g : k ≤ t.low (t.few.getD k []) := g
  cases e : t.few.getD k [] with
  | nil =>
    rw [e, low_nil h] at g
    omega
  | cons a l =>
    show 1 ≤ (t.few.getD k []).length
    rw [e]
    exact Nat.succ_le_succ (Nat.zero_le _)
/-- no list of fewer names brings k ends down -/
theorem lr_le {t : Tr} (h : Ok t) {k : Nat} (hk : k ≤ t.width) {s : List Str} (nd : t.names.Nodup) (hl : k ≤ t.low s) : t.lr k ≤ s.length := by
  have g := (good_few h).best k _ (few_at hk) s hl
  refine Nat.le_trans g (nodup_len (nd.filter _) fun x hx => ?_)
  exact of_decide_eq_true (List.mem_filter.mp hx).2
theorem perm_split {ds r xs : List Str} (h : (ds ++ r).Perm xs) (nd : xs.Nodup) : (ds ++ r).Nodup := h.nodup_iff.mpr nd
theorem first_end {t : Tr} (h : Ok t) (nd : t.names.Nodup) {k : Nat} (h1 : 1 ≤ k) (hk : k ≤ t.width) {ds r : List Str} (hp : (ds ++ r).Perm t.names) (hl : ds.length = t.lr k) (hlo : k ≤ t.low ds) {wa : Str → Int} (hw : ∀ (i : Nat) y, (ds ++ r)[i]? = some y → wa y = 1 + (i : Int)) : (t.ends wa).getD (k - 1) 0 = (t.lr k : Int) := by
  have p := lr_pos h h1 hk
  have e := end_at h (perm_split hp nd) hp hw (i := k - 1) (k := t.lr k - 1) (by omega) (by rw [List.length_append]; omega) ?_ ?_
  · rw [e]
    omega
  · refine Nat.lt_of_not_le fun z => ?_
    have := lr_le h hk nd (s := (ds ++ r).take (t.lr k - 1)) (by omega)
    rw [List.length_take] at this
    omega
  · rw [show t.lr k - 1 + 1 = ds.length by omega, List.take_left']
    · omega
    · rfl
theorem last_end {t : Tr} (h : Ok t) (nd : t.names.Nodup) {k : Nat} (h1 : 1 ≤ k) (hk : k ≤ t.width) {us r : List Str} (hp : (r ++ us).Perm t.names) (hl : us.length = t.mirror.lr (t.width + 1 - k)) (hlo : t.low r < k) {wa : Str → Int} (hw : ∀ (i : Nat) y, (r ++ us)[i]? = some y → wa y = 1 + (i : Int)) : (t.ends wa).getD (k - 1) 0 = (r.length : Int) + 1 := by
  have p := lr_pos h.mirror (k := t.width + 1 - k) (by omega) (by rw [mirror_width]; omega)
  have nd2 := perm_split hp nd
  refine end_at h nd2 hp hw (i := k - 1) (k := r.length) (by omega) (by rw [List.length_append]; omega) ?_ ?_
  · rw [List.take_left' rfl]
    omega
  · refine Nat.le_of_not_lt fun z => ?_
    have c := low_turn (us.drop 1) ((r ++ us).take (r.length + 1)) t fun x hx => ?_
    · have := lr_le h.mirror (k := t.width + 1 - k) (by rw [mirror_width]; omega) (s := us.drop 1) (by rw [mirror_names]; exact nd) (by omega)
      rw [List.length_drop] at this
      omega
    · have hx := hp.mem_iff.mpr hx
      have e : r ++ us = (r ++ us).take (r.length + 1) ++ us.drop 1 := by
        conv => lhs; rw [← List.take_append_drop (r.length + 1) (r ++ us)]
        rw [List.drop_append]
        simp
      rw [e] at nd2 hx
      have dj := (List.nodup_append.mp nd2).2.2
      constructor
      · intro a b
        exact dj x a x b rfl
      · intro a
        rcases List.mem_append.mp hx with b | b
        · exact b
        · exact absurd b a
end Rk
set_option Elab.async false
set_option linter.all false
set_option maxRecDepth 100000
namespace Rx
open PySem PySem.Spec PyProof.Rows
/-! equal lists of sorted texts; xs.count(y) of whole numbers -/
theorem cps_tot : ∀ (a b : List Nat), ltCps a b = false → ltCps b a = false → a = b
  | [], [], _, _ => rfl
  | [], _ :: _, h, _ => by cases h
  | _ :: _, [], _, h => by cases h
  | x :: r, y :: t, h1, h2 => by
    simp only [ltCps, Bool.or_eq_false_iff, decide_eq_false_iff_not, Bool.and_eq_false_iff, beq_eq_false_iff_ne] at h1 h2
    have e : x = y := by omega
    subst e
    have a1 : ltCps r t = false := h1.2.resolve_left fun z => z rfl
    have a2 : ltCps t r = false := h2.2.resolve_left fun z => z rfl
    rw [cps_tot r t a1 a2]
theorem cps_tr : ∀ (a b c : List Nat), ltCps b a = false → ltCps c b = false → ltCps c a = false
  | [], [], [], _, _ => rfl
  | [], [], _ :: _, _, _ => rfl
  | [], _ :: _, [], _, h => by cases h
  | [], _ :: _, _ :: _, _, _ => rfl
  | _ :: _, [], _, h, _ => by cases h
  | _ :: _, _ :: _, [], _, h => by cases h
  | x :: r, y :: t, z :: u, h1, h2 => by
    simp only [ltCps, Bool.or_eq_false_iff, decide_eq_false_iff_not, Bool.and_eq_false_iff, beq_eq_false_iff_ne] at h1 h2 ⊢
    refine ⟨by omega, ?_⟩
    by_cases e : z = x
    · right
      have e1 : y = x := by omega
      have e2 : z = y := by omega
      exact cps_tr r t u (h1.2.resolve_left fun w => w e1) (h2.2.resolve_left fun w => w e2)
    · exact .inl e
theorem sortedS_pw : ∀ {ys : List Str}, sortedS ys = true → ys.Pairwise fun a b => ltCps b.cps.toList a.cps.toList = false
  | [], _ => .nil
  | [x], _ => List.pairwise_singleton _ _
  | x :: y :: r, h => by
    have h : (!ltCps y.cps.toList x.cps.toList && sortedS (y :: r)) = true := h
    rw [Bool.and_eq_true, Bool.not_eq_true'] at h
    have ih := sortedS_pw h.2
    refine List.pairwise_cons.mpr ⟨fun z hz => ?_, ih⟩
    rcases List.mem_cons.mp hz with rfl | hz
    · exact h.1
    · exact cps_tr _ _ _ h.1 ((List.pairwise_cons.mp ih).1 z hz)
theorem str_eq {a b : Str} (h : a.cps.toList = b.cps.toList) : a = b := by
  cases a with
  | mk a =>
    cases b with
    | mk b =>
      have : a = b := by
        cases a
        cases b
        exact congrArg Array.mk h
      rw [this]
theorem sorted_one {xs ys : List Str} (h : xs.Perm ys) (hx : sortedS xs = true) (hy : sortedS ys = true) : xs = ys :=
  List.Perm.eq_of_pairwise (fun x y _ _ h1 h2 => str_eq (cps_tot _ _ h2 h1)) (sortedS_pw hx) (sortedS_pw hy) h
end Rx
namespace L2
open PySem PySem.Spec PyProof.Rows
section
variable {X : Cx}
/-- xs.count(k) of whole numbers -/
theorem mt_countI : MtR X "list.count" (fun x vs H Q => ∃ (l : Addr) (ns : List Int) (k : Int), x = .ref l ∧ vs = [.int k] ∧ H l = some (.lst (ns.map V.int)) ∧ Q (.int (ns.count k : Nat)) H) := by
  intro pins s σ H x vs v us Q I rx rv h
  obtain ⟨l, ns, k, rfl, rfl, hH, q⟩ := h
  cases rx
  obtain ⟨u, rfl, r1⟩ := rv.one
  obtain ⟨t, rfl⟩ := r1
  obtain ⟨z, its, n, r, hl, e⟩ := I.lstM hH
  have hi := ints_of_vals r
  refine call_meets PySem.F.slot_list_count ⟨_, e, rfl⟩ PySem.F.entry_list_count (PySem.F.args_list_count_2 _ _)
    (MeetsSeq.list_count l its.toArray n (.int k t) (eqk k) (fun y hy => eqk_gives hi y (by simpa using hy))) ⟨e, ?_⟩
  refine ⟨.int (ns.count k : Nat), H, I.tok _, ⟨s.toks, ?_⟩, q⟩
  show Value.int ((its.countP (eqk k) : Nat) : Int) s.toks = _
  rw [eqk_count hi]
end
end L2
set_option Elab.async false
set_option linter.all false
set_option maxRecDepth 100000
set_option maxHeartbeats 4000000
/-! an order in which an end has a rank -/
namespace Rk
open PySem PyProof.Rows L2 RkO Rx
theorem Ok.nodup {t : Tr} (h : Ok t) : t.names.Nodup := by
  cases h with
  | leaf _ => exact List.nodup_cons.mpr ⟨List.not_mem_nil, List.nodup_nil⟩
  | grp _ _ h _ _ _ => exact h
/-- some, then all the others -/
def fstOf (xs ds : List Str) : List Str := ds ++ xs.filter fun x => !decide (x ∈ ds)
theorem fst_perm {xs ds : List Str} (nd : xs.Nodup) (dn : ds.Nodup) (hs : ∀ x ∈ ds, x ∈ xs) : (fstOf xs ds).Perm xs := by
  have nf : (fstOf xs ds).Nodup := List.nodup_append.mpr ⟨dn, nd.sublist List.filter_sublist, fun x hx y hy e => by
    subst e
    have := (List.mem_filter.mp hy).2
    rw [decide_eq_true hx] at this
    cases this⟩
  refine (List.perm_ext_iff_of_nodup nf nd).mpr fun x => ⟨fun h => ?_, fun h => ?_⟩
  · rcases List.mem_append.mp h with h | h
    · exact hs x h
    · exact (List.mem_filter.mp h).1
  · by_cases c : x ∈ ds
    · exact List.mem_append_left _ c
    · exact List.mem_append_right _ (List.mem_filter.mpr ⟨h, by rw [decide_eq_false c]; rfl⟩)
theorem way_of {t : Tr} (h : Ok t) {j r : Nat} (h1 : 1 ≤ j) (hj : j ≤ t.width) {ds us : List Str} (hd : ds.Perm (t.few.getD j [])) (hu : us.Perm (t.mirror.few.getD (t.width + 1 - j) [])) (lo : t.lr j ≤ r) (hi : r + t.mirror.lr (t.width + 1 - j) ≤ t.names.length + 1) :
    Way t j ((fstOf t.names ds).take r) (t.names.filter fun x => !decide (x ∈ us)) := by
  have nd := h.nodup
  have g := good_few h
  have e1 := few_at (t := t) (k := j) hj
  have gm := good_few h.mirror
  have e2 := few_at (t := t.mirror) (k := t.width + 1 - j) (by rw [mirror_width]; omega)
  have dn : ds.Nodup := hd.nodup_iff.mpr (g.nd _ _ e1)
  have dsub : ∀ x ∈ ds, x ∈ t.names := fun x hx => g.sub _ _ e1 x (hd.mem_iff.mp hx)
  have un : us.Nodup := hu.nodup_iff.mpr (gm.nd _ _ e2)
  have usub : ∀ x ∈ us, x ∈ t.names := fun x hx => by
    have := gm.sub _ _ e2 x (hu.mem_iff.mp hx)
    rwa [mirror_names] at this
  have pm := fst_perm nd dn dsub
  have dl : ds.length ≤ r := by rw [hd.length_eq]; exact lo
  refine ⟨h, nd, (pm.nodup_iff.mpr nd).sublist (List.take_sublist _ _), nd.sublist List.filter_sublist, fun x hx => pm.mem_iff.mp (List.mem_of_mem_take hx), fun x hx => (List.mem_filter.mp hx).1, g.lo _ _ e1 _ fun x hx => ?_, ?_, ?_⟩
  · have hx := hd.mem_iff.mpr hx
    have e : (fstOf t.names ds).take ds.length = ds := List.take_left' rfl
    rw [← e] at hx
    exact (List.take_prefix_take_left dl).subset hx
  · have c := gm.lo _ _ e2 us fun x hx => hu.mem_iff.mpr hx
    have d := low_turn us (t.names.filter fun x => !decide (x ∈ us)) t fun x hx => by
      rw [List.mem_filter]
      constructor
      · intro z y
        have := z.2
        rw [decide_eq_true y] at this
        cases this
      · intro z
        exact ⟨hx, by rw [decide_eq_false z]; rfl⟩
    omega
  · have a := part_len t.names fun x => decide (x ∈ us)
    have b := filt_len nd un usub
    have c : us.length = t.mirror.lr (t.width + 1 - j) := hu.length_eq
    rw [List.length_take, pm.length_eq]
    omega
/-- what order_at tells -/
def IsOrd (t : Tr) (j r : Nat) (L : List Str) : Prop := ∃ ds us a, ds.Perm (t.few.getD j []) ∧ sortedS ds = true ∧ us.Perm (t.mirror.few.getD (t.width + 1 - j) []) ∧ sortedS us = true ∧
  Turn t j ((fstOf t.names ds).take r) (t.names.filter fun x => !decide (x ∈ us)) a ∧ L = fstOf t.names (fst ((fstOf t.names ds).take r) (t.names.filter fun x => !decide (x ∈ us)) a)
theorem ord_end {t : Tr} (h : Ok t) {j r : Nat} (h1 : 1 ≤ j) (hj : j ≤ t.width) (hr : r ≤ t.names.length) (r1 : 1 ≤ r) (lo : t.lr j ≤ r) (hi : r + t.mirror.lr (t.width + 1 - j) ≤ t.names.length + 1) {L : List Str} (hL : IsOrd t j r L) : L.Perm t.names ∧ ∀ wa : Str → Int, (∀ (i : Nat) y, L[i]? = some y → wa y = 1 + (i : Int)) → (t.ends wa).getD (j - 1) 0 = (r : Int) := by
  obtain ⟨ds, us, a, hd, sd, hu, su, hT, rfl⟩ := hL
  have w := way_of h h1 hj hd hu lo hi
  obtain ⟨f1, f2, f3, f4⟩ := hT.first w
  have nd := h.nodup
  have pm := fst_perm nd f1 f2
  have g := good_few h
  have e1 := few_at (t := t) (k := j) hj
  have p0 := fst_perm nd (hd.nodup_iff.mpr (g.nd _ _ e1)) fun x hx => g.sub _ _ e1 x (hd.mem_iff.mp hx)
  have el : ((fstOf t.names ds).take r).length = r := by
    rw [List.length_take, p0.length_eq]
    omega
  rw [el] at f3
  refine ⟨pm, fun wa hw => ?_⟩
  have t1 : (fstOf t.names (fst ((fstOf t.names ds).take r) (t.names.filter fun x => !decide (x ∈ us)) a)).take r = fst ((fstOf t.names ds).take r) (t.names.filter fun x => !decide (x ∈ us)) a := List.take_left' f3
  have t0 : (fstOf t.names (fst ((fstOf t.names ds).take r) (t.names.filter fun x => !decide (x ∈ us)) a)).take (r - 1) = Wt (bothOf ((fstOf t.names ds).take r) (t.names.filter fun x => !decide (x ∈ us))) (leavOf ((fstOf t.names ds).take r) (t.names.filter fun x => !decide (x ∈ us))) (comeOf ((fstOf t.names ds).take r) (t.names.filter fun x => !decide (x ∈ us))) a := by
    have : ∀ X : List Str, X.take (r - 1) = (X.take r).take (r - 1) := fun X => by
      rw [List.take_take, Nat.min_eq_left (Nat.sub_le _ _)]
    rw [this, t1]
    refine List.take_left' ?_
    have : (fst ((fstOf t.names ds).take r) (t.names.filter fun x => !decide (x ∈ us)) a).length = _ := List.length_append
    rw [f3] at this
    simp only [List.length_cons, List.length_nil] at this
    omega
  have e := end_at h (pm.nodup_iff.mpr nd) pm hw (i := j - 1) (k := r - 1) (by omega) (by rw [pm.length_eq]; omega) (by rw [t0]; have := hT.lo; omega) (by rw [show r - 1 + 1 = r by omega, t1]; omega)
  rw [e]
  omega
end Rk
set_option Elab.async false
set_option linter.all false
set_option maxRecDepth 100000
set_option maxHeartbeats 4000000
namespace Rk
open PySem PySem.Spec PyProof.Rows L2 RkO Rx
open Evl (Ev EvT EvA EvL EvU EvO Ex RC RCL SpV SpL)
def RLt (t : Tr) : Rel := fun H v => LAt H v t
theorem mon_RLt {t : Tr} : MonV (RLt t) := fun _ _ _ h e => h.mono e
theorem LF.all {H : Hp} : ∀ {vs : List V} {ts : List Tr}, LF H vs ts → AllR (ts.map RLt) H vs
  | vs, [], h => by
    have := h.1
    cases vs with
    | nil => rfl
    | cons _ _ => cases this
  | vs, t :: ts, h => by
    have h1 := h.1
    cases vs with
    | nil => cases h1
    | cons v vs => exact ⟨v, vs, rfl, h.2 0 v t rfl rfl, LF.all ⟨Nat.succ.inj h1, fun i u s a b => h.2 (i + 1) u s a b⟩⟩
section
variable {P : Program} {w : World} {K : PySem.W.Frag} {mg : Str → Option Value} {base : Heap}
end
end Rk
set_option Elab.async false
set_option linter.all false
set_option maxRecDepth 100000
set_option maxHeartbeats 4000000
/-! enumerate(xs, start=k) -/
namespace RkM
open PySem PyProof.Rows
section
variable {M : Model} {A : Around} {E : Value → Shared → Prop} {s : Shared} {env : Env}
theorem type_kw {pos : Pos} {T : String} {a : Expr} {more : List Expr} {kws : List Keyword} {Q : Value → Shared → Prop}
    (go : wpAny M A (spliced (backTo pos (starEach (a :: more) env))) (fun us s1 => wpAny M A (evalAll ((backToKw pos (keywordEach kws env)).map (·.2)))
      (fun ws s2 => wpAny M A (call (.type T) us (((backToKw pos (keywordEach kws env)).filterMap (·.1)).zip ws)) Q E s2) E s1) E s)
    (k1 : backTo pos (starEach (a :: more) env) = (false, eval a env) :: backTo pos (starEach more env)) (k2 : (backTo pos (starEach (a :: more) env)).any (·.1) = false)
    (k3 : (backToKw pos (keywordEach kws env)).all (·.1.isSome) = true) (k4 : (backToKw pos (keywordEach kws env)).any (·.1.isNone) = false) :
    wpAny M A (callWith pos (.type T) [] (backTo pos (starEach (a :: more) env)) (backToKw pos (keywordEach kws env))) Q E s := by
  have ev : wpAny M A (evalArgs (.type T) true (backTo pos (starEach (a :: more) env)) (backToKw pos (keywordEach kws env))) (fun x s1 => wpAny M A (call (.type T) ([] ++ x.pos) x.kw) Q E s1) E s := by
    rw [k1] at go ⊢
    exact evalArgs_kwB k3 go
  unfold callWith
  refine wpAny_bind (wpAny_holding (wpAny_mono ev (fun x s1 y => wpAny_bind (wpAny_standAt ?_)) fun _ _ z => z))
  simp only [k2, k4, Bool.or_false]
  first
    | exact wpAny_bind (wpAny_pure (wpAny_bind (wpAny_mono y (fun r s2 z => wpAny_bind (wpAny_holding (wpAny_point (wpAny_pure z)))) fun _ _ z => z)))
    | exact wpAny_bind (wpAny_mono y (fun r s2 z => wpAny_bind (wpAny_holding (wpAny_point (wpAny_pure z)))) fun _ _ z => z)
end
end RkM
namespace L2
open PySem PySem.Spec PyProof.Rows
/-- the list at a as it stands at each turn, each item in a new pair, counted from lo -/
def Itf (K : PySem.W.Frag) (a : Addr) (lo : Int) : It :=
  ⟨fun i H => ∃ (ys : List V) (y : V), SqL K H a ys ∧ ys[i]? = some y, fun i H v H' => ∃ T y, v = .ref T ∧ H T = none ∧ H' = upd H T (.tup [.int (lo + (i : Nat)), y]) ∧ ∀ ys, SqL K H a ys → ys[i]? = some y, fun i H => ∃ ys : List V, SqL K H a ys ∧ ys.length = i⟩
theorem turn_from {P : Program} {w : World} {K : PySem.W.Frag} {tup : List Expr} {kk : Nat} {tp : Pos} (a e t : Addr) (lo : Int) (hea : e ≠ a) (hta : a ≠ t) :
    Turn P w K (.Tuple tup kk tp) (Itf K a lo) [e, t] e (fun i h => (∃ was, IsEnum h e t (lo + (i : Int)) was) ∧ h.IsListIter t a i ∧ e ≠ t) where
  mem := by simp
  obj := fun i h z b hb => by
    obtain ⟨⟨was, he⟩, ⟨o, ho, hc, hd⟩, _⟩ := z
    have cs : b = e ∨ b = t := by simpa using hb
    rcases cs with y | y
    · rw [y]
      exact ⟨_, he, fun v q => nomatch q⟩
    · rw [y]
      exact ⟨o, ho, fun v q => by rw [hd] at q; cases q⟩
  keep := fun i h h' z k => by
    obtain ⟨⟨was, he⟩, hi, hne⟩ := z
    exact ⟨⟨was, k e (by simp) _ he⟩, hi.at fun o q => k t (by simp) o q, hne⟩
  item := by
    intro X hP hw hK hc i pins s σ H E I hf z hg
    subst hP
    subst hw
    subst hK
    obtain ⟨⟨was, he⟩, hit, hne⟩ := z
    obtain ⟨ys, y, hq, hy⟩ := hg
    obtain ⟨us, rv, pl, _⟩ := I.list hq
    obtain ⟨u, hu, ru⟩ := rv.get hy
    have hel : e < s.heap.objs.size := Heap.lt_size he
    have htl : t < s.heap.objs.size := by
      obtain ⟨_, q, _⟩ := hit
      exact Heap.lt_size q
    have hlt : i < us.toArray.size := by
      rw [List.size_toArray]
      exact (List.getElem?_eq_some_iff.mp hu).1
    refine wpAny_pyNext_enum_itemC (Draws.list (prog := X.prog) (w := X.w) (A := X.A.in1) (I.ok.hd hc) t a hta us.toArray) he ⟨hit, pl.isList⟩ hlt hne (by simp [hne, hea]) fun x h1 tk hx ho hst hT hsz hk => ?_
    have hx : us.toArray[i]? = some x := hx
    have ex : x = u := by
      rw [show us.toArray[i]? = us[i]? by simp, hu] at hx
      exact (Option.some.inj hx).symm
    subst ex
    refine ⟨_, rfl, wpAny_letOwnedTupleGo_enum (s := { s with heap := h1, toks := tk + 1 }) ho fun h2 he2 sb => ?_⟩
    have hT2 : h2.get? s.heap.objs.size = some { cls := .type "tuple", data := .seq #[.int (lo + (i : Int)) tk, x] } := (sb.2 _ (Nat.ne_of_gt hel)).trans hT
    have fresh : ObjOk X.prog X.w (upd H s.heap.objs.size (.tup [.int (lo + (i : Nat)), y])) h2 s.heap.objs.size (.tup [.int (lo + (i : Nat)), y]) :=
      ⟨by show 2 ≤ sizeLine; decide, [.int (lo + (i : Int)) tk, x], .cons ⟨_, rfl⟩ (.cons ru .nil), ⟨_, hT2, rfl, _, rfl⟩⟩
    have J : Inv X pins σ (upd H s.heap.objs.size (.tup [.int (lo + (i : Nat)), y])) { s with heap := h2, toks := tk + 1 } :=
      I.turnedNew (ch := [e, t]) (fun b ob hb q => (sb.2 b (fun z => hb (by simp [z]))).trans (hk b ob (fun z => hb (by simp [z])) (fun z => hb (by simp [z])) q)) hf (Nat.le_refl _) fresh
    refine ⟨.ref s.heap.objs.size, _, J, rfl, ⟨_, y, rfl, I.hok.fresh (Nat.le_refl _), rfl, fun zs hz => by rw [I.list_inj hz hq]; exact hy⟩, ⟨⟨x, ?_⟩, hst.1.at fun o q => (sb.2 t (Ne.symm hne)).trans q, hne⟩, fun b hb => ?_⟩
    · have e1 : lo + ((i + 1 : Nat) : Int) = lo + (i : Int) + 1 := by omega
      rw [e1]
      exact he2
    · have hb' : b < s.heap.objs.size := by
        have cs : b = e ∨ b = t := by simpa using hb
        rcases cs with z | z
        · rw [z]
          exact hel
        · rw [z]
          exact htl
      rw [upd_ne (Nat.ne_of_lt hb')]
      exact (hf b hb).1
  done := by
    intro X hP hw hK hc i pins s σ H E I hf z hg
    subst hP
    subst hw
    subst hK
    obtain ⟨⟨was, he⟩, hit, hne⟩ := z
    obtain ⟨ys, hq, hy⟩ := hg
    obtain ⟨us, rv, pl, _⟩ := I.list hq
    obtain ⟨f0, f1, f2, f3, f4, f5⟩ := hf t (by simp)
    have hl := rv.length
    have hi2 : i = us.toArray.size := by
      rw [List.size_toArray, ← hl]
      exact hy.symm
    subst hi2
    exact wpAny_pyNext_enum_endD (Draws.list (prog := X.prog) (w := X.w) (A := X.A.in1) (I.ok.hd hc) t a hta us.toArray) he ⟨hit, pl.isList⟩ fun h1 eb => ⟨rfl, I.turned (t' := s.toks) (fun b o hb q => eb b o hb q) f0 f1 f3 f4 f5⟩
  self := fun A i s Q E z h => by
    obtain ⟨⟨_, he⟩, _⟩ := z
    exact wpAny_pyIter_enum he h
def iFrom (K : PySem.W.Frag) (lo : Int) (ta : TA) : TI := fun σ H R => ta σ H fun vs H1 => ∃ a ys, vs = [.ref a] ∧ SqL K H1 a ys ∧ R (Itf K a lo) H1
theorem pi_from {X : Cx} {e : Expr} {ta : TA} {p p3 pos tp : Pos} {tup : List Expr} {kk : Nat} {lo : Int} {ke : Expr} (hk0 : -(2 ^ 63) ≤ lo ∧ lo < 2 ^ 63) (hc : PE X ke (tC (.int lo))) (hg : Gl X "enumerate") (hm : X.mg "enumerate" = none) (ha : PA X [e] ta)
    (k1 : backTo pos (starEach [e] X.env) = (false, eval e X.env) :: backTo pos (starEach [] X.env) := by rfl) (k2 : (backTo pos (starEach [e] X.env)).any (·.1) = false := by rfl)
    (k3 : (backToKw pos (keywordEach [⟨some "start", ke, p3⟩] X.env)).all (·.1.isSome) = true := by rfl) (k4 : (backToKw pos (keywordEach [⟨some "start", ke, p3⟩] X.env)).any (·.1.isNone) = false := by rfl) :
    PI X (.Tuple tup kk tp) (.Call (.Name "enumerate" p) [e] [⟨some "start", ke, p3⟩] pos) (iFrom X.K lo ta) := by
  refine ⟨fun pins s σ H R I h => ?_⟩
  refine wpAny_Call_Name_kw (ld_blt I hg hm boot_enumerate ?_ (by decide) (by decide))
  refine RkM.type_kw (thn (ha.run pos pins _ σ H _ I h) fun us s1 ⟨vs, H1, I1, r1, q1⟩ => ?_) k1 k2 k3 k4
  refine wpAny_evalAll_cons (wpAny_bind (thn (hc.run pins s1 σ H1 (fun v H2 => v = .int lo ∧ H2 = H1) I1 ⟨rfl, rfl⟩) fun w s2 ⟨v, H2, I2, rw2, ev, eH⟩ => ?_))
  subst ev
  subst eH
  obtain ⟨tok, rfl⟩ := (show ∃ t, w = Value.int lo t from rw2)
  refine wpAny_bind (wpAny_standAt (wpAny_pure (wpAny_evalAll_nil ?_)))
  obtain ⟨a, ys, rfl, hq, q⟩ := q1
  rw [Vals.ref1 r1]
  obtain ⟨its, rv, pl, _⟩ := I2.list hq
  refine enum_begins_start (begins_list a its.toArray) pl.isList hk0.1 hk0.2 fun h1 he hit hsz hk => wpAny_pyIter_enum he ?_
  have I3 : Inv X pins σ H2 { s2 with heap := h1 } := I2.kept (t' := s2.toks) hk
  have hla : a < s2.heap.objs.size := by
    obtain ⟨o, ho, _⟩ := pl.isList
    exact Heap.lt_size ho
  refine ⟨s2.heap.objs.size + 1, [s2.heap.objs.size + 1, s2.heap.objs.size], _, _, H2, rfl, I3, turn_from a (s2.heap.objs.size + 1) s2.heap.objs.size lo (Nat.ne_of_gt (Nat.lt_succ_of_lt hla)) (Nat.ne_of_lt hla), ⟨⟨.none, ?_⟩, ⟨_, hit, rfl, rfl⟩, Nat.succ_ne_self _⟩, fun b hb => ?_, q⟩
  · rw [show lo + ((0 : Nat) : Int) = lo by omega]
    exact he
  · have cs : b = s2.heap.objs.size + 1 ∨ b = s2.heap.objs.size := by simpa using hb
    have hle : s2.heap.objs.size ≤ b := by
      rcases cs with z | z
      · rw [z]
        exact Nat.le_add_right _ _
      · rw [z]
        exact Nat.le_refl _
    exact I2.fpOk hle (I2.hok.fresh hle)
theorem pi_fromK {X : Cx} {K : PySem.W.Frag} {tg it : Expr} {ta : TA} {lo : Int} (hK : X.K = K) (h : PI X tg it (iFrom X.K lo ta)) : PI X tg it (iFrom K lo ta) := by
  subst hK
  exact h
theorem walk_from {K : PySem.W.Frag} {a : Addr} {lo : Int} {xs : List V} : Walk (Itf K a lo) xs.length (fun H => SqL K H a xs) (YPair (fun i => some (.int (lo + (i : Nat)))) (fun i => xs[i]?)) := by
  refine ⟨fun i _ hi q => ⟨xs, xs[i], q, by simp [hi]⟩, fun _ q => ⟨xs, q, rfl⟩, fun i H v H' _ q y => ?_⟩
  obtain ⟨T, x, h1, h2, h3, h4⟩ := y
  exact ⟨T, _, x, h1, h2, h3, rfl, h4 xs q⟩
end L2
set_option Elab.async false
set_option linter.all false
set_option maxRecDepth 100000
set_option maxHeartbeats 4000000
namespace Rx
open PySem PySem.Spec PyProof.Rows L2 RkO
open Evl (Ev EvT EvA EvL EvU EvO Ex)
section
variable {K : PySem.W.Frag} {σ : L2.St} {H : Hp} {te tl : TE} {ta : TA}
/-- [e for i, x in (a walk that counts from lo over a list)] -/
theorem lcE_core {α : Type} {Ra : α → Rel} {Rb : Nat → α → Rel} {xs : List α} {j1 j2 : Nat} {vs : List Nat} {lo : Int} {J : It} {a : Addr} {us : List V} {M : Addr → Bool} {H0 H1 : Hp} {Q : VK} {tt : TT} {p : Nat → α → Bool} (mA : ∀ a ∈ xs, MonV (Ra a)) (mB : ∀ i, ∀ a ∈ xs, MonV (Rb i a))
    (wk : Walk J us.length (fun H => SqL K H a us) (YPair (fun i => some (.int (lo + (i : Nat)))) (fun i => us[i]?))) (hm : Hides M H0) (e0 : Ex H (hid M H0)) (e1 : Ex H0 H1) (ha1 : H1 a = some (.lst us)) (hx : AllR (xs.map Ra) (hid M H1) us) (hz : xs.length ≤ 40000)
    (hw : ∀ x y, wipe (((wipe σ vs).set j1 (some x)).set j2 (some y)) vs = wipe σ vs)
    (he : ∀ i a, xs[i]? = some a → ∀ v H1, Ex H H1 → Ra a H1 v → EvX te (((wipe σ vs).set j1 (some (.int (lo + (i : Nat))))).set j2 (some v)) H1 (Rb i a))
    (q : ∀ v H2, Ex H0 H2 → RL (xs.mapIdx Rb) (hid M H2) v → Q v H2) {Dl : Addr} (hD : H1 Dl = none) :
    ∃ W : Nat → Nat → Hp → Prop, (∃ m, W 0 m (upd H1 Dl (.lst []))) ∧ ∀ i m H, W i m H →
      (J.stop i H ∧ Q (.ref Dl) H) ∨ (J.go i H ∧ ∃ Nx : Hp → Prop, (∀ H', Nx H' → ∃ m', m' < m ∧ W (i + 1) m' H') ∧ ∀ x H', J.yld i H x H' → gTup K 2 (gCons (gName j1) (gCons (gName j2) gNil)) x (wipe σ vs) H' fun σ2 H2 => wipe σ2 vs = wipe σ vs ∧ tYes σ2 H2 fun b H3 =>
        if b = true then te σ2 H3 fun y H4 => ∃ acc, H4 Dl = some (.lst acc) ∧ acc.length < sizeLine ∧ Nx (upd H4 Dl (.lst (acc ++ [y]))) else Nx H3) := by
  have hul : us.length = xs.length := by rw [hx.len, List.length_map]
  have mD := (hm.ex e1).some hD
  have mBi : ∀ i, MonA ((xs.take i).mapIdx Rb) := fun i R hR => by
    obtain ⟨k, hk, rfl⟩ := List.mem_mapIdx.mp hR
    exact mB k _ (List.mem_of_mem_take (List.getElem_mem hk))
  refine lc_it wk (fun i H' => Ex H1 H' ∧ ∃ us', us'.length ≤ i ∧ H' Dl = some (.lst us') ∧ AllR ((xs.take i).mapIdx Rb) (hid (fun b => M b || decide (b = Dl)) H') us') ⟨Ex.new hD, [], Nat.le_refl _, upd_same, rfl⟩ (fun i H' _ p => SqL.of (p.1 _ _ ha1)) (fun i v H' H'' hi p0 y => ?_) (fun H' p0 => ?_)
  · obtain ⟨T, x, y, rfl, nT, rfl, hc, hy⟩ := y
    have hc : some (V.int (lo + (i : Nat))) = some x := hc
    cases hc
    obtain ⟨p2, us', pl, p3, p4⟩ := p0
    have hlt : i < xs.length := by rw [← hul]; exact hi
    have hai : xs[i]? = some xs[i] := List.getElem?_eq_getElem hlt
    have hmem : xs[i] ∈ xs := List.getElem_mem hlt
    obtain ⟨y', hy', ry⟩ := hx.get (i := i) (R := Ra xs[i]) (by rw [List.getElem?_map, hai]; rfl)
    have hy : us[i]? = some y := hy
    rw [hy] at hy'
    cases hy'
    have eT := Ex.new (o := .tup [.int (lo + (i : Nat)), y]) nT
    have p3' := eT _ _ p3
    have hM1 : Hides (fun b => M b || decide (b = Dl)) (upd H' T (.tup [.int (lo + (i : Nat)), y])) := fun b hb => by
      rcases Bool.or_eq_true_iff.mp hb with hb | hb
      · exact (hm.ex (e1.trans (p2.trans eT))) b hb
      · rw [of_decide_eq_true hb]
        exact .inl ⟨_, p3'⟩
    have up : Ex (hid M H1) (hid (fun b => M b || decide (b = Dl)) (upd H' T (.tup [.int (lo + (i : Nat)), y]))) := fun b o z => by
      have hb : M b = false := by
        cases hb : M b with
        | false => rfl
        | true => rw [hid_t hb] at z; cases z
      rw [hid_f hb] at z
      have nb : b ≠ Dl := ne_of_none z hD
      rw [hid_f (show (M b || decide (b = Dl)) = false by rw [hb, decide_eq_false nb]; rfl)]
      exact (p2.trans eT) b o z
    have exH : Ex H (hid (fun b => M b || decide (b = Dl)) (upd H' T (.tup [.int (lo + (i : Nat)), y]))) := (e0.trans (hid_ex e1)).trans up
    refine ⟨T, _, rfl, SqT.of upd_same, rfl, _, _, rfl, _, _, rfl, rfl, hw _ _, ?_⟩
    simp only [tYes, ↓reduceIte]
    refine he i _ hai y _ exH (mA _ hmem _ _ _ ry up) _ _ hM1 (Ex.refl _) _ fun v' H4 e4 rv => ⟨us', e4 _ _ p3', Evl.sz_lt (by omega), (p2.trans (eT.trans e4)).mut hD, us' ++ [v'], by rw [List.length_append]; exact Nat.succ_le_succ pl, upd_same, ?_⟩
    have tk : xs.take (i + 1) = xs.take i ++ [xs[i]] := by rw [List.take_add_one, hai]; rfl
    rw [hid_upd_t (by simp), tk, List.mapIdx_concat, List.length_take, Nat.min_eq_left (Nat.le_of_lt hlt)]
    exact AllR.app (p4.mono (mBi i) (hid_ex (eT.trans e4))) (AllR.one rv)
  · obtain ⟨p2, us', pl, p3, p4⟩ := p0
    have m2 := mBi us.length
    rw [hul, List.take_length] at p4 m2
    refine q _ H' (e1.trans p2) ⟨Dl, us', rfl, by rw [hid_f mD]; exact p3, p4.mono m2 fun b o z => ?_⟩
    have hb : (M b || decide (b = Dl)) = false := by
      cases hb : (M b || decide (b = Dl)) with
      | false => rfl
      | true => rw [hid_t hb] at z; cases z
    rw [hid_f hb] at z
    rw [hid_f (Bool.or_eq_false_iff.mp hb).1]
    exact z
theorem x_lcF {α : Type} {Ra : α → Rel} {Rb : Nat → α → Rel} {xs : List α} {j1 j2 : Nat} {vs : List Nat} {lo : Int} (mA : ∀ a ∈ xs, MonV (Ra a)) (mB : ∀ i, ∀ a ∈ xs, MonV (Rb i a)) (h : EvX tl σ H (RL (xs.map Ra))) (hz : xs.length ≤ 40000) (hw : ∀ x y, wipe (((wipe σ vs).set j1 (some x)).set j2 (some y)) vs = wipe σ vs)
    (he : ∀ i a, xs[i]? = some a → ∀ v H1, Ex H H1 → Ra a H1 v → EvX te (((wipe σ vs).set j1 (some (.int (lo + (i : Nat))))).set j2 (some v)) H1 (Rb i a)) : EvX (tLc (iFrom K lo (tCons tl tNil)) (gTup K 2 (gCons (gName j1) (gCons (gName j2) gNil))) tYes te vs) σ H (RL (xs.mapIdx Rb)) := fun M H0 hm e0 Q q => h M H0 hm e0 _ fun v H1 e1 r => by
  obtain ⟨a, us, rfl, ha, hx⟩ := r
  have ha1 : H1 a = some (.lst us) := hid_le _ _ ha
  exact ⟨a, us, rfl, SqL.of ha1, fun Dl hD => lcE_core (p := fun _ _ => true) (tt := tYes) mA mB walk_from hm e0 e1 ha1 hx hz hw he q hD⟩
theorem x_lcE {α : Type} {Ra : α → Rel} {Rb : Nat → α → Rel} {xs : List α} {j1 j2 : Nat} {vs : List Nat} (mA : ∀ a ∈ xs, MonV (Ra a)) (mB : ∀ i, ∀ a ∈ xs, MonV (Rb i a)) (h : EvX tl σ H (RL (xs.map Ra))) (hz : xs.length ≤ 40000) (hw : ∀ x y, wipe (((wipe σ vs).set j1 (some x)).set j2 (some y)) vs = wipe σ vs)
    (he : ∀ (i : Nat) a, xs[i]? = some a → ∀ v H1, Ex H H1 → Ra a H1 v → EvX te (((wipe σ vs).set j1 (some (.int (i : Nat)))).set j2 (some v)) H1 (Rb i a)) : EvX (tLc (iEnum K (tCons tl tNil)) (gTup K 2 (gCons (gName j1) (gCons (gName j2) gNil))) tYes te vs) σ H (RL (xs.mapIdx Rb)) := fun M H0 hm e0 Q q => h M H0 hm e0 _ fun v H1 e1 r => by
  obtain ⟨a, us, rfl, ha, hx⟩ := r
  have ha1 : H1 a = some (.lst us) := hid_le _ _ ha
  have wk : Walk (Ite K a) us.length (fun H => SqL K H a us) (YPair (fun i => some (.int ((0 : Int) + (i : Nat)))) (fun i => us[i]?)) := by
    have := walk_enum (K := K) (a := a) (xs := us)
    have e : (fun i : Nat => some (V.int ((0 : Int) + (i : Nat)))) = fun i : Nat => some (V.int (i : Nat)) := by
      funext i
      rw [Int.zero_add]
    rw [e]
    exact this
  exact ⟨a, us, rfl, SqL.of ha1, fun Dl hD => lcE_core (p := fun _ _ => true) (tt := tYes) mA mB wk hm e0 e1 ha1 hx hz hw (fun i a hi v H1 e r => by rw [Int.zero_add]; exact he i a hi v H1 e r) q hD⟩
/-- [e for i in range(lo, n) if t] -/
theorem lcR_core {Rb : Nat → Rel} {j n : Nat} {vs : List Nat} {lo : Int} {M : Addr → Bool} {H0 H1 : Hp} {Q : VK} {tt : TT} {p : Nat → Bool} (mB : ∀ i, MonV (Rb i)) (hm : Hides M H0) (e0 : Ex H (hid M H0)) (e1 : Ex H0 H1) (hz : n ≤ 40000)
    (hw : ∀ x, wipe ((wipe σ vs).set j (some x)) vs = wipe σ vs)
    (ht : ∀ i, i < n → ∀ H1, Ex H H1 → EvT tt ((wipe σ vs).set j (some (.int (lo + (i : Nat))))) H1 (p i)) (he : ∀ i, i < n → p i = true → ∀ H1, Ex H H1 → EvX te ((wipe σ vs).set j (some (.int (lo + (i : Nat))))) H1 (Rb i))
    (q : ∀ v H2, Ex H0 H2 → RL (((List.range n).filter p).map Rb) (hid M H2) v → Q v H2) {Dl : Addr} (hD : H1 Dl = none) :
    ∃ W : Nat → Nat → Hp → Prop, (∃ m, W 0 m (upd H1 Dl (.lst []))) ∧ ∀ i m H, W i m H →
      ((Itr lo n).stop i H ∧ Q (.ref Dl) H) ∨ ((Itr lo n).go i H ∧ ∃ Nx : Hp → Prop, (∀ H', Nx H' → ∃ m', m' < m ∧ W (i + 1) m' H') ∧ ∀ x H', (Itr lo n).yld i H x H' → gName j x (wipe σ vs) H' fun σ2 H2 => wipe σ2 vs = wipe σ vs ∧ tt σ2 H2 fun b H3 =>
        if b = true then te σ2 H3 fun y H4 => ∃ acc, H4 Dl = some (.lst acc) ∧ acc.length < sizeLine ∧ Nx (upd H4 Dl (.lst (acc ++ [y]))) else Nx H3) := by
  have mD := (hm.ex e1).some hD
  have mm : ∀ i, MonA (((List.range i).filter p).map Rb) := fun i => MonA.map fun k _ => mB k
  refine lc_it (walk_range (lo := lo) (n := n)) (fun i H' => Ex H1 H' ∧ ∃ us', us'.length ≤ i ∧ H' Dl = some (.lst us') ∧ AllR (((List.range i).filter p).map Rb) (hid (fun b => M b || decide (b = Dl)) H') us') ⟨Ex.new hD, [], Nat.le_refl _, upd_same, rfl⟩ (fun i H' _ p => trivial) (fun i v Hx H' hi p0 y => ?_) (fun H' p0 => ?_)
  · obtain ⟨rfl, rfl⟩ := y
    obtain ⟨p2, us', pl, p3, p4⟩ := p0
    have hM1 : Hides (fun b => M b || decide (b = Dl)) H' := fun b hb => by
      rcases Bool.or_eq_true_iff.mp hb with hb | hb
      · exact (hm.ex (e1.trans p2)) b hb
      · rw [of_decide_eq_true hb]
        exact .inl ⟨_, p3⟩
    have up : Ex (hid M H1) (hid (fun b => M b || decide (b = Dl)) H') := fun b o z => by
      have hb : M b = false := by
        cases hb : M b with
        | false => rfl
        | true => rw [hid_t hb] at z; cases z
      rw [hid_f hb] at z
      have nb : b ≠ Dl := ne_of_none z hD
      rw [hid_f (show (M b || decide (b = Dl)) = false by rw [hb, decide_eq_false nb]; rfl)]
      exact p2 b o z
    have exH : Ex H (hid (fun b => M b || decide (b = Dl)) H') := (e0.trans (hid_ex e1)).trans up
    refine ⟨hw _, ht i hi _ exH H' hid_le _ fun H3 e3 => ?_⟩
    cases hp : p i with
    | true =>
      refine he i hi hp _ exH _ H3 (hM1.ex e3) (hid_ex e3) _ fun v' H4 e4 rv => ⟨us', e4 _ _ (e3 _ _ p3), Evl.sz_lt (by omega), (p2.trans (e3.trans e4)).mut hD, us' ++ [v'], by rw [List.length_append]; exact Nat.succ_le_succ pl, upd_same, ?_⟩
      rw [hid_upd_t (by simp), List.range_succ, List.filter_append, List.map_append, List.filter_cons, if_pos hp]
      exact AllR.app (p4.mono (mm i) (hid_ex (e3.trans e4))) (AllR.one rv)
    | false =>
      refine ⟨p2.trans e3, us', Nat.le_succ_of_le pl, e3 _ _ p3, ?_⟩
      rw [List.range_succ, List.filter_append, List.filter_cons, if_neg (by rw [hp]; decide), List.filter_nil, List.append_nil]
      exact p4.mono (mm i) (hid_ex e3)
  · obtain ⟨p2, us', pl, p3, p4⟩ := p0
    refine q _ H' (e1.trans p2) ⟨Dl, us', rfl, by rw [hid_f mD]; exact p3, p4.mono (mm n) fun b o z => ?_⟩
    have hb : (M b || decide (b = Dl)) = false := by
      cases hb : (M b || decide (b = Dl)) with
      | false => rfl
      | true => rw [hid_t hb] at z; cases z
    rw [hid_f hb] at z
    rw [hid_f (Bool.or_eq_false_iff.mp hb).1]
    exact z
theorem x_lcR2 {Rb : Nat → Rel} {j n : Nat} {vs : List Nat} {lo hi : Int} {tt : TT} {p : Nat → Bool} (mB : ∀ i, MonV (Rb i)) (h : EvA ta σ H [.int lo, .int hi]) (hn : (hi - lo).toNat = n) (hz : n ≤ 40000) (hb : -100000 ≤ lo ∧ lo ≤ 100000 ∧ -100000 ≤ hi ∧ hi ≤ 100000) (hw : ∀ x, wipe ((wipe σ vs).set j (some x)) vs = wipe σ vs)
    (ht : ∀ i, i < n → ∀ H1, Ex H H1 → EvT tt ((wipe σ vs).set j (some (.int (lo + (i : Nat))))) H1 (p i)) (he : ∀ i, i < n → p i = true → ∀ H1, Ex H H1 → EvX te ((wipe σ vs).set j (some (.int (lo + (i : Nat))))) H1 (Rb i)) : EvX (tLc (iRng2 ta) (gName j) tt te vs) σ H (RL (((List.range n).filter p).map Rb)) := fun M H0 hm e0 Q q => h H0 (e0.trans hid_le) _ fun H1 e1 => by
  subst hn
  exact ⟨lo, hi, rfl, ⟨by omega, by omega, by omega, by omega⟩, fun Dl hD => lcR_core mB hm e0 e1 hz hw ht he q hD⟩
theorem x_lcR1 {Rb : Nat → Rel} {j n : Nat} {vs : List Nat} {tt : TT} {p : Nat → Bool} (mB : ∀ i, MonV (Rb i)) (h : EvA ta σ H [.int (n : Int)]) (hz : n ≤ 40000) (hw : ∀ x, wipe ((wipe σ vs).set j (some x)) vs = wipe σ vs)
    (ht : ∀ i, i < n → ∀ H1, Ex H H1 → EvT tt ((wipe σ vs).set j (some (.int (i : Nat)))) H1 (p i)) (he : ∀ i, i < n → p i = true → ∀ H1, Ex H H1 → EvX te ((wipe σ vs).set j (some (.int (i : Nat)))) H1 (Rb i)) : EvX (tLc (iRng1 ta) (gName j) tt te vs) σ H (RL (((List.range n).filter p).map Rb)) := fun M H0 hm e0 Q q => h H0 (e0.trans hid_le) _ fun H1 e1 =>
  ⟨(n : Int), rfl, by omega, by omega, fun Dl hD => lcR_core (lo := 0) mB hm e0 e1 hz hw (fun i hi H1 e => by rw [Int.zero_add]; exact ht i hi H1 e) (fun i hi hp H1 e => by rw [Int.zero_add]; exact he i hi hp H1 e) q hD⟩
/-- no test -/
theorem et_yes : EvT tYes σ H true := fun H1 _ Q q => q H1 (Ex.refl _)
theorem range_all {n : Nat} : (List.range n).filter (fun _ => true) = List.range n := List.filter_eq_self.mpr fun _ _ => rfl
end
end Rx
set_option Elab.async false
set_option linter.all false
set_option maxRecDepth 100000
set_option maxHeartbeats 4000000
namespace Rk
open PySem PySem.Spec PyProof.Rows L2 RkO Rx
open Evl (Ev EvT EvA EvL EvU EvO Ex RC RCL SpV SpL)
/-- a pair (name, worth) -/
def wfAt (xs : List Str) (x : Str) : Int := (xs.idxOf x : Int) + 1
theorem wfAt_get {xs : List Str} (nd : xs.Nodup) {i : Nat} {x : Str} (h : xs[i]? = some x) : wfAt xs x = 1 + (i : Int) := by
  unfold wfAt
  obtain ⟨hi, e⟩ := List.getElem?_eq_some_iff.mp h
  subst e
  rw [List.Nodup.idxOf_getElem nd]
  omega
section
variable {P : Program} {w : World} {K : PySem.W.Frag} {mg : Str → Option Value} {base : Heap}
end
end Rk
set_option Elab.async false
set_option linter.all false
set_option maxRecDepth 100000
set_option maxHeartbeats 4000000
namespace Rk
open PySem PySem.Spec PyProof.Rows L2 RkO Rx
open Evl (Ev EvT EvA EvL EvU EvO Ex RC RCL SpV SpL)
def RSpan (t : Tr) (k : Nat) : Rel := RT [RV (.int (t.lr k : Nat)), RV (.int (t.gr k))]
theorem mon_RSpan {t : Tr} {k : Nat} : MonV (RSpan t k) := mon_RT (MonA.cons mon_RV (MonA.cons mon_RV MonA.nil))
section
variable {P : Program} {w : World} {K : PySem.W.Frag} {mg : Str → Option Value} {base : Heap}
def spRankSpan (cL cG : Addr) (n : Nat) : Sp := fun vs H Q _ => ∃ (v : V) (t : Tr) (j : Int), vs = [v, .int j] ∧ EndAt cL cG n H v t j ∧ ∀ v' H', Same H H' → RSpan t j.toNat H' v' → Q v' H'
theorem ok_rank_span (T : Txt K mg) (n : Nat) : FnOk P w K mg base CX0 (n + 10) T.f_rank_span T.d_rank_span ["tree", "j"] (spRankSpan T.a_Leaf T.a_Group n) := by
  have G_least_rank := ok_least_rank (P := P) (w := w) (base := base) T n
  have G_greatest_rank := ok_greatest_rank (P := P) (w := w) (base := base) T n
  obtain ⟨ds1, hd1, bA_least_rank⟩ := T.F_least_rank.binds1 (ps := ["tree", "j"]) 2 1 (List.cons_ne_nil _ _) rfl fun _ _ _ _ _ _ _ us its hl hi => match us, hl, its, hi with | [_, _], _, [_], _ => ⟨_, rfl, rfl⟩
  cases hd1
  obtain ⟨ds2, hd2, bA_greatest_rank⟩ := T.F_greatest_rank.binds1 (ps := ["tree", "j"]) 2 1 (List.cons_ne_nil _ _) rfl fun _ _ _ _ _ _ _ us its hl hi => match us, hl, its, hi with | [_, _], _, [_], _ => ⟨_, rfl, rfl⟩
  cases hd2
  refine T.F_rank_span.ok sc_rank_span (fun vs H Q E h => ?_) (fun cdv A outer s H vs Q E hr h => ?_)
  · obtain ⟨_, _, _, rfl, _⟩ := h
    rfl
  obtain ⟨v, t, j, rfl, h, q⟩ := h
  refine ⟨_, (pss_one (ps_ret (pe_tup (pa_cons (pe_call G_least_rank (hr.mono (by omega)) rfl T.m_least_rank T.F_least_rank.kp bA_least_rank .nil pass0 (pa_cons (pv 0) (pa_cons (pv 1) pa_nil))) (pa_cons (pe_call G_greatest_rank (hr.mono (by omega)) rfl T.m_greatest_rank T.F_greatest_rank.kp bA_greatest_rank .nil pass0 (pa_cons (pv 0) (pa_cons (pv 1) pa_nil))) pa_nil))))), ?_⟩
  refine un_ret <| (x_tup (Rs := [RV (.int (t.lr j.toNat : Nat)), RV (.int (t.gr j.toNat))]) (MonA.cons mon_RV (MonA.cons mon_RV MonA.nil)) (x_cons mon_RV (x_evV ?_) (x_cons mon_RV (x_evV ?_) x_nil)) (Nat.le_of_ble_eq_true rfl)).run fun v' H' e r => q v' H' e r
  · exact Evl.ev_call (Evl.ea_cons (Evl.ev_var rfl) (Evl.ea_cons (Evl.ev_var rfl) Evl.ea_nil)) fun H1 e1 Q q E => ⟨v, t, j, rfl, h.mono e1, q⟩
  · exact Evl.ev_call (Evl.ea_cons (Evl.ev_var rfl) (Evl.ea_cons (Evl.ev_var rfl) Evl.ea_nil)) fun H1 e1 Q q E => ⟨v, t, j, rfl, h.mono e1, q⟩
end
end Rk
set_option Elab.async false
set_option linter.all false
set_option maxRecDepth 100000
set_option maxHeartbeats 4000000
namespace Rk
open PySem PySem.Spec PyProof.Rows L2 RkO Rx
open Evl (Ev EvT EvA EvL EvU EvO Ex RC RCL SpV SpL)
theorem sq_asgG {te : TE} {g : TG} {u : TS} {D : Ends} {σ : L2.St} {H : Hp} (h : te σ H fun x H1 => g x σ H1 (u D)) : tSeq (tAsg te g) u D σ H := h
theorem rv_is {r : R2} {x y z w : V} {H : Hp} (h : Evl.RV r x y H z) (e : z = w) : Evl.RV r x y H w := by
  subst e
  exact h
theorem x_ofL {α : Type} {te : TE} {σ : L2.St} {H : Hp} {f : α → V} {xs : List α} (h : EvL te σ H (xs.map f)) : EvX te σ H (RL (xs.map fun x => RV (f x))) := fun M H1 hm e1 Q q => h H1 (e1.trans hid_le) Q fun p H2 n2 e2 h2 => q _ H2 e2 (RL_mk (by
  show (if M p then _ else _) = _
  rw [hm.some n2]
  exact h2))
section
variable {P : Program} {w : World} {K : PySem.W.Frag} {mg : Str → Option Value} {base : Heap}
end
end Rk
set_option Elab.async false
set_option linter.all false
set_option maxRecDepth 100000
set_option maxHeartbeats 4000000
namespace Rk
open PySem PySem.Spec PyProof.Rows L2 RkO Rx
open Evl (Ev EvT EvA EvL EvU EvO Ex RC RCL SpV SpL)
/-- a dict in which the names xs have their worths -/
def WG (H : Hp) (d : Addr) (wf : Str → Int) (xs : List Str) : Prop := ∃ kvs : List (Key × V), H d = some (.dK kvs) ∧ ∀ x ∈ xs, valV kvs (.inr x) = some (.int (wf x))
theorem WG.mono {H H' : Hp} {d : Addr} {wf : Str → Int} {xs : List Str} (h : WG H d wf xs) (e : Same H H') : WG H' d wf xs := by
  obtain ⟨kvs, h1, h2⟩ := h
  exact ⟨kvs, e _ _ h1, h2⟩
theorem WG.sub {H : Hp} {d : Addr} {wf : Str → Int} {xs ys : List Str} (h : WG H d wf xs) (hs : ∀ y ∈ ys, y ∈ xs) : WG H d wf ys := by
  obtain ⟨kvs, h1, h2⟩ := h
  exact ⟨kvs, h1, fun y hy => h2 y (hs y hy)⟩
theorem WG.get {H : Hp} {d : Addr} {wf : Str → Int} {xs : List Str} {x : Str} (h : WG H d wf xs) (hx : x ∈ xs) : DGet H d (.str x) (some (.int (wf x))) := by
  obtain ⟨kvs, h1, h3⟩ := h
  have := DGet.k (k := (Sum.inr x : Key)) h1
  rwa [h3 x hx] at this
theorem names_in {ps : List Tr} {t : Tr} {x : Str} (hm : t ∈ ps) (h : x ∈ t.names) : x ∈ namesL ps := by
  rw [namesL_flat]
  exact List.mem_flatten.mpr ⟨_, List.mem_map.mpr ⟨t, hm, rfl⟩, h⟩
theorem endsL_app (wf : Str → Int) : ∀ ps qs : List Tr, endsL wf (ps ++ qs) = endsL wf ps ++ endsL wf qs
  | [], qs => rfl
  | p :: ps, qs => by
    show p.ends wf ++ endsL wf (ps ++ qs) = (p.ends wf ++ endsL wf ps) ++ endsL wf qs
    rw [endsL_app wf ps qs, List.append_assoc]
theorem endsL_take (wf : Str → Int) (ps : List Tr) (i : Nat) : (endsL wf (ps.take i)).length ≤ (endsL wf ps).length := by
  conv => rhs; rw [← List.take_append_drop i ps, endsL_app, List.length_append]
  omega
theorem endsL_one (wf : Str → Int) (t : Tr) : endsL wf [t] = t.ends wf := List.append_nil _
section
variable {P : Program} {w : World} {K : PySem.W.Frag} {mg : Str → Option Value} {base : Heap}
def spLEnds (n : Nat) : Sp := fun vs H Q _ => ∃ (v : V) (d : Addr) (t : Tr) (wf : Str → Int), vs = [v, .ref d] ∧ t.depth < n ∧ LAt H v t ∧ Ok t ∧ t.names.length ≤ 60 ∧ WG H d wf t.names ∧ ∀ l H', Same H H' → H l = none → H' l = some (.lst ((t.ends wf).map V.int)) → Q (.ref l) H'
theorem ok_law_ends (T : Txt K mg) : ∀ n : Nat, FnOk P w K mg base CX0 (n + 1) T.f_law_ends T.d_law_ends ["tree", "worths"] (spLEnds n)
  | 0 => fn_no fun vs H Q E h => by
    obtain ⟨_, _, _, _, _, hd, _⟩ := h
    exact absurd hd (Nat.not_lt_zero _)
  | n + 1 => by
    have G_law_ends := ok_law_ends T n
    refine T.F_law_ends.ok sc_law_ends (fun vs H Q E h => ?_) (fun cdv A outer s H vs Q E hr h => ?_)
    · obtain ⟨_, _, _, _, rfl, _⟩ := h
      rfl
    obtain ⟨v, d, t, wf, rfl, hd, ht, hok, hz, hW, q⟩ := h
    have hu := hu_of hr
    refine ⟨_, (pss_cons (ps_if (pt_cmpR op_eq (pe_ix ix_tup (pv 0) pe_int (fun _ _ => rfl)) pe_str (nomark _)) (pss_one (ps_ret (pe_lst (pa_cons (by exact (pe_dget (hu_of hr) (pv 1) (pe_ix ix_tup (pv 0) pe_int (fun _ _ => rfl)) (fun _ _ => rfl))) pa_nil)))) pss_nil)
  (pss_cons (ps_set (i := 2) sc_law_ends.nd rfl (Or.inr rfl) (pe_lst pa_nil))
  (pss_cons (ps_for PassesOwn.never rfl (pi_list (pe_ix ix_tup (pv 0) pe_int (fun _ _ => rfl))) (pg_name (i := 3) sc_law_ends.nd rfl (.inl rfl))
    (pss_one (ps_set (i := 2) sc_law_ends.nd rfl (Or.inr rfl) (pe_op op_cat (pv 2) (pe_call G_law_ends (hr.mono (by omega)) rfl T.m_law_ends T.F_law_ends.kp T.b_law_ends .nil pass0 (pa_cons (pv 3) (pa_cons (pv 1) pa_nil)))))))
  (pss_cons (ps_set (i := 2) sc_law_ends.nd rfl (Or.inr rfl) (pe_callB cr_sorted (by rfl) T.m_sorted (by decide +kernel) (pa_cons (pv 2) pa_nil)))
  (pss_one (ps_ret (pe_lc (own := [("rank", 4)]) rfl sc_law_ends.nd  (pi_list (pe_ix ix_tup (pv 0) pe_int (fun _ _ => rfl))) (blkOk_by (own := [("rank", 4)]) (N := ["tree", "worths", "taken", "part", "rank"]) (sc := defScope s_law_ends) (by decide +kernel)) (fun _ _ _ _ _ => (pg_name (i := 4) sc_law_ends.nd rfl (.inl rfl))) (fun _ _ _ _ _ => pts_nil) (fun _ _ _ _ _ => (pe_ix (ixR_K (K := K) (r := rIxL) rfl ix_list) (pv 2) (pe_op op_sub (pv 4) pe_int) (fun _ _ => rfl)))))))))), ?_⟩
    cases ht with
    | @leaf p x h =>
      refine un_seq <| un_ifS <| un_test ⟨_, rfl, _, _, _, _, rfl, rfl, Evl.st_of h, atI_nat (j := 0) rfl, rfl, _, rfl, ?_⟩
      rw [decide_eq_true rfl]
      refine iteT (un_ret <| un_cons ?_)
      refine ⟨_, rfl, _, rfl, _, _, _, _, rfl, rfl, Evl.st_of h, atI_nat (j := 1) rfl, d, _, rfl, hW.get (List.mem_singleton.mpr rfl), ?_⟩
      exact ⟨Evl.sz_of (Nat.le_of_ble_eq_true rfl), fun l nl => q l _ (same_new nl _) nl upd_same⟩
    | @grp p lr lp rs ps us h1 h2 h3 hvl hf =>
      have hF : LF H us ps := ⟨hvl, hf⟩
      have oks : ∀ t ∈ ps, Ok t := by
        cases hok with
        | grp h1 _ _ _ h5 h6 => exact h1
      have hb : ∀ r ∈ rs, 1 ≤ r ∧ r ≤ (intakeL ps : Int) := by
        cases hok with
        | grp h1 _ _ _ h5 h6 => exact h6
      have hd : depthL ps + 1 < n + 1 := hd
      have hl : (namesL ps).length ≤ 60 := hz
      have hrl : rs.length ≤ 60 := Nat.le_trans hok.width_le hz
      have hpl := parts_le oks
      have hin := intake_le oks
      have eN : (endsL wf ps).length = intakeL ps := endsL_len wf ps
      refine un_seq <| un_ifS <| un_test ⟨_, rfl, _, _, _, _, rfl, rfl, Evl.st_of h1, atI_nat (j := 0) rfl, rfl, _, rfl, ?_⟩
      rw [decide_eq_false (by decide +kernel)]
      refine iteF (nxt ?_)
      dsimp only
      have it : ∀ (σ : L2.St) (k : Nat) (z : V) H1, σ[0]? = some (some (.ref p)) → Ex H H1 → [V.str "group", .ref lr, .ref lp][k]? = some z → Ev (tOp (rIxT K) (tVar 0) (tC (.int (k : Int)))) σ H1 z := fun σ k z H1 h0 e hk H2 e3 Q q => ⟨_, h0, p, _, _, _, rfl, rfl, Evl.st_of (e3 _ _ (e _ _ h1)), atI_nat hk, q H2 (Ex.refl H2)⟩
      refine sq_asg ⟨Evl.sz_of (Nat.le_of_ble_eq_true rfl), fun tk ntk => ?_⟩
      have s1 := same_new ntk (.lst [])
      have htk : (upd H tk (.lst [])) tk = some (.lst []) := upd_same
      generalize upd H tk (.lst []) = H1 at s1 htk ⊢
      refine Evl.q_forLn (K := K) (a := lp) (xs := us) (it _ 2 _ H1 rfl s1 rfl) (SqL.of (s1 _ _ h3)) (fun i σ' H' => ∃ (tk : Addr) (x3 : Option V), σ' = [some (.ref p), some (.ref d), some (.ref tk), x3, none] ∧ Ex H1 H' ∧ H' tk = some (.lst ((endsL wf (ps.take i)).map V.int))) (fun H2 e2 => ⟨tk, none, rfl, e2, e2 _ _ htk⟩) (fun i σ' H' _ h => ?_) (fun i y σ' H' hy h => ?_) (fun σ' H' h => ?_)
      · obtain ⟨_, _, _, e, _⟩ := h
        exact SqL.of (e _ _ (s1 _ _ h3))
      · obtain ⟨tk, x3, rfl, e1, htk⟩ := h
        have hi := (List.getElem?_eq_some_iff.mp hy).1
        have hpi : ps[i]? = some ps[i] := List.getElem?_eq_getElem (by omega)
        generalize ps[i] = t at hpi
        have hmem := List.mem_of_getElem? hpi
        have hlt : LAt H y t := hf i y t hy hpi
        have hdp := depth_mem hmem
        refine un_op ⟨_, rfl, _, rfl, _, rfl, y, d, t, wf, rfl, by omega, (hlt.mono s1).mono e1, oks t hmem, Nat.le_trans (names_part hmem) hl, ((hW.mono s1).mono e1).sub fun x hx => names_in hmem hx, fun l H2 s2 nl hl2 => ⟨tk, l, _, _, rfl, rfl, s2 _ _ htk, hl2, ?_, fun b nb => ?_⟩⟩
        · have g1 := endsL_take wf ps (i + 1)
          rw [List.take_add_one, hpi, endsL_app] at g1
          rw [List.length_map, List.length_map]
          rw [List.length_append, show (some t).toList = [t] from rfl, endsL_one] at g1
          exact Evl.sz_of (by omega)
        · refine ⟨b, _, rfl, (e1.trans s2).trans (same_new nb _), ?_⟩
          rw [upd_same, List.take_add_one, hpi, endsL_app, List.map_append, show (some t).toList = [t] from rfl, endsL_one]
      · obtain ⟨tk, x3, rfl, e1, htk⟩ := h
        rw [hvl, List.take_length] at htk
        refine sq_asg ⟨_, rfl, tk, _, rfl, SqL.of htk, by omega, fun ns' z6 perm up n6 => ?_⟩
        have ens : ns' = sortI (endsL wf ps) := PySem.W.ksm_same (perm.trans (sortI_perm _).symm) up (sortI_up _)
        subst ens
        have s6 := same_new n6 (.lst ((sortI (endsL wf ps)).map V.int))
        have h6 : (upd H' z6 (.lst ((sortI (endsL wf ps)).map V.int))) z6 = some (.lst ((sortI (endsL wf ps)).map V.int)) := upd_same
        generalize upd H' z6 (.lst ((sortI (endsL wf ps)).map V.int)) = H6 at s6 h6 ⊢
        have eS : (sortI (endsL wf ps)).length = intakeL ps := by rw [(sortI_perm _).length_eq, eN]
        have s16 := (Same.trans s1 e1).trans s6
        refine Evl.s_retL (xs := rs.map fun r => V.int ((sortI (endsL wf ps)).getD (r - 1).toNat 0)) (el_lcM (K := K) (a := lr) (xs := rs) (g := V.int) (it _ 1 _ H6 rfl s16 rfl) (SqL.of (s16 _ _ h2)) (by omega) (fun x => rfl) (fun r H8 e8 hr => ?_)) fun l H8 nl e8 hl8 => q l H8 (s16.trans e8) (Evl.fresh_back s16 nl) ?_
        · have hr := hb r hr
          intro H9 e9 Q9 q9
          refine ⟨_, rfl, _, rfl, _, _, rfl, rfl, z6, _, r - 1, _, rfl, rfl, SqL.of ((e8.trans e9) _ _ h6), ?_, q9 _ (Ex.refl _)⟩
          rw [show r - 1 = (((r - 1).toNat : Nat) : Int) by omega]
          refine atI_nat ?_
          rw [List.getElem?_map, List.getElem?_eq_getElem (by omega), List.getD_eq_getElem?_getD, List.getElem?_eq_getElem (by omega)]
          simp
        · rw [hl8]
          show _ = some (HO.lst ((rs.map fun r => (sortI (endsL wf ps)).getD (r - 1).toNat 0).map V.int))
          rw [List.map_map]
          rfl
end
end Rk
set_option Elab.async false
set_option linter.all false
set_option maxRecDepth 100000
set_option maxHeartbeats 4000000
namespace Rk
open PySem PySem.Spec PyProof.Rows L2 RkO Rx
open Evl (Ev EvT EvA EvL EvU EvO Ex RC RCL SpV SpL)
/-- [x for x in e if x not in ys] -/
theorem x_filtN {K : PySem.W.Frag} {σ : L2.St} {H : Hp} {tl : TE} {k j : Nat} {vs : List Nat} {b : Addr} {xs ys : List Str} (h : EvX tl σ H (RL (xs.map fun x => RV (.str x)))) (hb : H b = some (.lst (ys.map V.str))) (hz : xs.length ≤ 40000) (hw : ∀ x, wipe ((wipe σ vs).set j (some x)) vs = wipe σ vs)
    (h2 : ∀ x : V, ((wipe σ vs).set j (some x))[k]? = some (some (.ref b))) (h3 : ∀ x : V, ((wipe σ vs).set j (some x))[j]? = some (some x)) :
    EvX (tLc (iList K tl) (gName j) (tTest (tOp (rIn K true) (tVar j) (tVar k))) (tVar j) vs) σ H (RS (xs.filter fun x => !decide (x ∈ ys))) :=
  (x_lc (K := K) (Ra := fun x => RV (.str x)) (Rb := fun x => RV (.str x)) (p := fun x => !decide (x ∈ ys)) (fun _ _ => mon_RV) (fun _ _ => mon_RV) h hz hw (fun x hx v H1 e1 r => by
    rw [show v = _ from r]
    exact Evl.et_is (Evl.et_test (Evl.ev_op (Evl.ev_var (h3 _)) (Evl.ev_var (h2 _)) (Evl.rv_niL (SqL.of (e1 _ _ hb)) rfl (flat_strs _)))) (by rw [inV_str])) (fun x hx hp v H1 e1 r => by
    rw [show v = _ from r]
    exact x_evV (Evl.ev_var (h3 _)))).imp fun H1 v _ r => RS.of r
def RFst (t : Tr) (j : Nat) (en few : List Str) : Rel := fun H v => ∃ a, Turn t j en few a ∧ RS (fst en few a) H v
theorem mon_RFst {t : Tr} {j : Nat} {en few : List Str} : MonV (RFst t j en few) := fun _ _ _ ⟨a, h, r⟩ e => ⟨a, h, mon_RS _ _ _ r e⟩
section
variable {P : Program} {w : World} {K : PySem.W.Frag} {mg : Str → Option Value} {base : Heap}
def spOrder (cL cG : Addr) (n : Nat) : Sp := fun vs H Q _ => ∃ (v : V) (t : Tr) (r j : Int), vs = [v, .int r, .int j] ∧ EndAt cL cG n H v t j ∧ 1 ≤ r ∧ r ≤ (t.names.length : Int) ∧
  ((t.lr j.toNat : Int) ≤ r → r ≤ t.gr j.toNat → ∀ p L H', H p = none → Same H H' → H' p = some (.lst (L.map V.str)) → IsOrd t j.toNat r.toNat L → Q (.ref p) H') ∧ (¬ ((t.lr j.toNat : Int) ≤ r ∧ r ≤ t.gr j.toNat) → ∀ H', Same H H' → Q .non H')
theorem ok_order_at (T : Txt K mg) (n : Nat) : FnOk P w K mg base CX0 (n + 10) T.f_order_at T.d_order_at ["tree", "rank", "j"] (spOrder T.a_Leaf T.a_Group n) := by
  have G_check_end := ok_check_end (P := P) (w := w) (base := base) T
  have G_low_names := ok_low_names (P := P) (w := w) (base := base) T n
  have G_high_names := ok_high_names (P := P) (w := w) (base := base) T n
  have G_up_to_turn := RkO.FnOk.frame (ok_up_to_turn (P := P) (w := w) (base := base) T n)
  have GLl := ok_Leaf_len (P := P) (w := w) (base := base) T
  have GGl := ok_Group_len (P := P) (w := w) (base := base) T
  obtain ⟨ds1, hds1, bL⟩ := T.F_low_names.binds1 (ps := ["tree", "j"]) 2 1 (List.cons_ne_nil _ _) rfl fun _ _ _ _ _ _ _ us its hl hi => match us, hl, its, hi with | [_, _], _, [_], _ => ⟨_, rfl, rfl⟩
  cases hds1
  obtain ⟨ds2, hds2, bH⟩ := T.F_high_names.binds1 (ps := ["tree", "j"]) 2 1 (List.cons_ne_nil _ _) rfl fun _ _ _ _ _ _ _ us its hl hi => match us, hl, its, hi with | [_, _], _, [_], _ => ⟨_, rfl, rfl⟩
  cases hds2
  refine T.F_order_at.ok sc_order_at (fun vs H Q E h => ?_) (fun cdv A outer s H vs Q E hr h => ?_)
  · obtain ⟨_, _, _, _, rfl, _⟩ := h
    rfl
  obtain ⟨v, t, r, j, rfl, h, r1, r2, q1, q2⟩ := h
  refine ⟨_, (pss_cons (ps_if (pt_not (pt_val (pe_call (ok_is_tree T) (hr.mono (by omega)) rfl T.m_is_tree T.F_is_tree.kp T.b_is_tree .nil pass0 (pa_cons (pv 0) pa_nil)))) (pss_one ps_never) pss_nil)
  (pss_cons (ps_if (PW.pt (pw_or (pt_not (pt_val (pe_call (ok_is_whole T) (hr.mono (by omega)) rfl T.m_is_whole T.F_is_whole.kp T.b_is_whole .nil pass0 (pa_cons (pv 1) pa_nil)))) (pw_or1 (pt_not (pt_chain op_le op_le pe_int (pv 1) (pe_callB (call_or (call_lenO T.M_Leaf_len GLl (hr.mono (by omega)) T.b_Leaf_len pass0) (call_lenO T.M_Group_len GGl (hr.mono (by omega)) T.b_Group_len pass0)) (by rfl) T.m_len PySem.boot_len (pa_cons (pv 0) pa_nil))))))) (pss_one ps_never) pss_nil)
  (pss_cons (ps_expr (pe_call G_check_end (hr.mono (by omega)) rfl T.m_check_end T.F_check_end.kp T.b_check_end .nil pass0 (pa_cons (pv 0) (pa_cons (pv 2) pa_nil))))
  (pss_cons (ps_asg (pe_tup (pa_cons (pe_call G_low_names (hr.mono (by omega)) rfl T.m_low_names T.F_low_names.kp bL .nil pass0 (pa_cons (pv 0) (pa_cons (pv 2) pa_nil))) (pa_cons (pe_call G_high_names (hr.mono (by omega)) rfl T.m_high_names T.F_high_names.kp bH .nil pass0 (pa_cons (pv 0) (pa_cons (pv 2) pa_nil))) pa_nil))) (pg_tup rfl (pgs_cons (pg_name (i := 3) sc_order_at.nd rfl (.inr rfl)) (pgs_cons (pg_name (i := 4) sc_order_at.nd rfl (.inr rfl)) pgs_nil))))
  (pss_cons (ps_if (pt_not (pt_chain op_le op_le (pe_callB call_len_seq (by rfl) T.m_len PySem.boot_len (pa_cons (pv 3) pa_nil)) (pv 1) (pe_op op_add (pe_op op_sub (pe_callB (call_or (call_lenO T.M_Leaf_len GLl (hr.mono (by omega)) T.b_Leaf_len pass0) (call_lenO T.M_Group_len GGl (hr.mono (by omega)) T.b_Group_len pass0)) (by rfl) T.m_len PySem.boot_len (pa_cons (pv 0) pa_nil)) (pe_callB call_len_seq (by rfl) T.m_len PySem.boot_len (pa_cons (pv 4) pa_nil))) pe_int))) (pss_one (ps_ret pe_non)) pss_nil)
  (pss_cons (ps_set (i := 5) sc_order_at.nd rfl (Or.inl rfl) (pe_op op_cat (pv 3) (pe_lc (own := [("name", 8)]) rfl sc_order_at.nd  (pi_list (pe_names (T := T) rfl (pv 0) (ok_Leaf_names T) (ok_Group_names T) (hr.mono (by omega)))) (blkOk_by (own := [("name", 8)]) (N := ["tree", "rank", "j", "low", "high", "enough", "too_few", "first", "name"]) (sc := defScope s_order_at) (by decide +kernel)) (fun _ _ _ _ _ => (pg_name (i := 8) sc_order_at.nd rfl (.inl rfl))) (fun _ _ _ _ _ => (pts_one (pt_cmpR (opR_K (K := K) (r := (fun K => rIn K true)) rfl op_notIn_seq) (pv 8) (pv 3) (by rfl)))) (fun _ _ _ _ _ => (pv 8)))))
  (pss_cons (ps_setLc (i := 6) (own := [("name", 8)]) rfl sc_order_at.nd rfl rfl (sw_true rfl rfl rfl (by decide +kernel))  (pi_list (pe_names (T := T) rfl (pv 0) (ok_Leaf_names T) (ok_Group_names T) (hr.mono (by omega)))) (blkOk_by (own := [("name", 8)]) (N := ["tree", "rank", "j", "low", "high", "enough", "too_few", "first", "name"]) (sc := defScope s_order_at) (by decide +kernel)) (fun _ _ _ _ _ => (pg_name (i := 8) sc_order_at.nd rfl (.inl rfl))) (fun _ _ _ _ _ => (pts_one (pt_cmpR (opR_K (K := K) (r := (fun K => rIn K true)) rfl op_notIn_seq) (pv 8) (pv 4) (by rfl)))) (fun _ _ _ _ _ => (pv 8)))
  (pss_cons (ps_set (i := 7) sc_order_at.nd rfl (Or.inr rfl) (pe_call G_up_to_turn (hr.mono (by omega)) rfl T.m_up_to_turn T.F_up_to_turn.kp T.b_up_to_turn .nil pass0 (pa_cons (pv 0) (pa_cons (pv 2) (pa_cons (pe_slice sl_list (pv 5) po_none (po_some (pv 1))) (pa_cons (pv 6) pa_nil))))))
  (pss_one (ps_ret (pe_op op_cat (pv 7) (pe_lc (own := [("name", 8)]) rfl sc_order_at.nd  (pi_list (pe_names (T := T) rfl (pv 0) (ok_Leaf_names T) (ok_Group_names T) (hr.mono (by omega)))) (blkOk_by (own := [("name", 8)]) (N := ["tree", "rank", "j", "low", "high", "enough", "too_few", "first", "name"]) (sc := defScope s_order_at) (by decide +kernel)) (fun _ _ _ _ _ => (pg_name (i := 8) sc_order_at.nd rfl (.inl rfl))) (fun _ _ _ _ _ => (pts_one (pt_cmpR (opR_K (K := K) (r := (fun K => rIn K true)) rfl op_notIn_seq) (pv 8) (pv 7) (by rfl)))) (fun _ _ _ _ _ => (pv 8)))))))))))))), ?_⟩
  have hlo := h.lo
  have hhi := h.hi
  refine un_seq <| un_ifS ⟨_, rfl, v, t, rfl, h.at_, fun H1 e1 => ⟨_, rfl, iteF (nxt ?_)⟩⟩
  dsimp only
  have h1 := h.mono e1
  obtain ⟨jn, rfl⟩ : ∃ jn : Nat, j = (jn : Int) := ⟨j.toNat, by omega⟩
  obtain ⟨rn, rfl⟩ : ∃ rn : Nat, r = (rn : Int) := ⟨r.toNat, by omega⟩
  rw [Int.toNat_natCast, Int.toNat_natCast] at q1
  rw [Int.toNat_natCast] at q2
  have hz := h.nam
  have chk : EvT (tOr (tNot (tB (tCall (spIsWhole K) [] E0 (tCons (tVar 1) tNil)))) (tNot (tTest (tChain (rI0 fun i j => V.bl (decide (i ≤ j))) (rI0 fun i j => V.bl (decide (i ≤ j))) (tC (V.int 1)) (tVar 1) (tCB (rcor (rLenO T.a_Leaf (spLen T.a_Leaf T.a_Group true) E0) (rLenO T.a_Group (spLen T.a_Leaf T.a_Group false) E0)) (tCons (tVar 0) tNil))))))
      [some v, some (.int rn), some (.int jn), none, none, none, none, none, none] H1 (!true || !(decide ((1 : Int) ≤ rn) && decide ((rn : Int) ≤ (t.names.length : Int)))) := Evl.et_or (Evl.et_not (Evl.et_B (Evl.ev_call (Evl.ea_cons (Evl.ev_var rfl) Evl.ea_nil) fun H2 e2 Q q E => int_whole (q H2 (Ex.refl H2)))))
        fun _ => Evl.et_not (Evl.et_test (ev_chain (b := decide ((1 : Int) ≤ rn)) (c := decide ((rn : Int) ≤ (t.names.length : Int))) Evl.ev_c (Evl.ev_var rfl) Evl.rv_I0 (fun _ => rd_len (Evl.ev_var rfl) h1.at_ (by omega)) (fun _ => Evl.rv_I0)))
  refine un_seq <| Evl.s_if chk (fun hb => ?_) fun _ H2 e2 => nxt ?_
  · rw [decide_eq_true r1, decide_eq_true r2] at hb
    cases hb
  have h2 := h1.mono e2
  dsimp only
  refine un_seq <| un_drop ⟨_, rfl, _, rfl, v, t, jn, rfl, h2.at_, h2.lo, h2.hi, fun H3 e3 => ?_⟩
  have h3 := h2.mono e3
  dsimp only
  refine sq_asgG <| un_tup <| un_cons ⟨_, rfl, _, rfl, v, t, jn, rfl, h3, fun pl ds H4 e4 n4 hp4 pm4 so4 => un_cons ⟨_, rfl, _, rfl, v, t, jn, rfl, h3.mono e4, fun ph us H5 e5 n5 hp5 pm5 so5 => ⟨Nat.le_of_ble_eq_true rfl, fun p6 n6 => ⟨p6, _, rfl, Evl.st_of upd_same, rfl, _, _, rfl, _, _, rfl, rfl, ?_⟩⟩⟩⟩
  have s56 := same_new n6 (.tup [.ref pl, .ref ph])
  generalize upd H5 p6 (.tup [.ref pl, .ref ph]) = H6 at s56 ⊢
  have e06 := (((e1.trans e2).trans e3).trans (e4.trans e5)).trans s56
  have h6 := h.mono e06
  have hd6 := s56 _ _ (e5 _ _ hp4)
  have hu6 := s56 _ _ hp5
  rw [Int.toNat_natCast] at pm4 pm5
  have dl : ds.length = t.lr jn := pm4.length_eq
  have ul : us.length = t.mirror.lr (t.width + 1 - jn) := pm5.length_eq
  have d60 : ds.length ≤ 60 := by
    have := h.few
    rw [Int.toNat_natCast] at this
    rw [pm4.length_eq]
    exact this
  have sp : EvT (tNot (tTest (tChain (rI0 fun i j => V.bl (decide (i ≤ j))) (rI0 fun i j => V.bl (decide (i ≤ j))) (tCB (Evl.rLenS K) (tCons (tVar 3) tNil)) (tVar 1) (tOp (rI0 fun i j => V.int (i + j)) (tOp (rI0 fun i j => V.int (i - j)) (tCB (rcor (rLenO T.a_Leaf (spLen T.a_Leaf T.a_Group true) E0) (rLenO T.a_Group (spLen T.a_Leaf T.a_Group false) E0)) (tCons (tVar 0) tNil)) (tCB (Evl.rLenS K) (tCons (tVar 4) tNil))) (tC (V.int 1))))))
      [some v, some (.int rn), some (.int jn), some (.ref pl), some (.ref ph), none, none, none, none] H6 (!(decide ((t.lr jn : Int) ≤ rn) && decide ((rn : Int) ≤ t.gr jn))) :=
    Evl.et_not (Evl.et_test (ev_chain (b := decide ((t.lr jn : Int) ≤ rn)) (c := decide ((rn : Int) ≤ t.gr jn)) (Evl.ev_is (Evl.ev_len (Evl.ev_var rfl) (SqL.of hd6)) (by rw [List.length_map, dl])) (Evl.ev_var rfl) Evl.rv_I0 (fun _ => Evl.ev_is (Evl.ev_op (Evl.ev_op (rd_len (Evl.ev_var rfl) h6.at_ (by omega)) (Evl.ev_len (Evl.ev_var rfl) (SqL.of hu6)) Evl.rv_I0) Evl.ev_c Evl.rv_I0) (by rw [List.length_map, ul]; rfl)) (fun _ => Evl.rv_I0)))
  refine un_seq <| Evl.s_if sp (fun hb H7 e7 => ?_) fun hb H7 e7 => nxt ?_
  · refine un_ret (q2 (fun z => ?_) H7 (e06.trans e7))
    rw [decide_eq_true z.1, decide_eq_true z.2] at hb
    cases hb
  have hb : (t.lr jn : Int) ≤ rn ∧ (rn : Int) ≤ t.gr jn := by
    rw [← Bool.decide_and] at hb
    simpa using hb
  have e07 := e06.trans e7
  have h7 := h.mono e07
  have hgr : rn + t.mirror.lr (t.width + 1 - jn) ≤ t.names.length + 1 := by
    have := hb.2
    unfold Tr.gr at this
    omega
  have W := way_of h.ok (j := jn) (r := rn) (by omega) (by omega) pm4 pm5 (by omega) hgr
  have nmE : ∀ {σ : L2.St} {H' : Hp}, Same H H' → σ[0]? = some (some v) → EvX (teor (tMeth T.a_Leaf "names" (spNames T.a_Leaf T.a_Group true) [] E0 (tVar 0) tNil) (tMeth T.a_Group "names" (spNames T.a_Leaf T.a_Group false) [] E0 (tVar 0) tNil)) σ H' (RL (t.names.map fun x => RV (.str x))) := fun e hσ => x_ofL (rd_names (Evl.ev_var hσ) (h.at_.mono e))
  have fl : ∀ p : Str → Bool, (t.names.filter p).length ≤ 60 := fun p => Nat.le_trans (List.length_filter_le _ _) hz
  refine Evl.q_asgL (el_catS (xs := ds) (x_var rfl mon_RS ⟨pl, rfl, e7 _ _ hd6⟩) (x_filtN (K := K) (k := 3) (j := 8) (nmE e07 rfl) (e7 _ _ hd6) (by omega) (fun x => rfl) (fun x => rfl) (fun x => rfl)) (by have := fl fun x => !decide (x ∈ ds); omega)) fun p8 H8 n8 e8 hp8 => ?_
  refine sq_asg <| (x_filtN (K := K) (xs := t.names) (ys := us) (k := 4) (j := 8) (nmE (e07.trans e8) rfl) (e8 _ _ (e7 _ _ hu6)) (by omega) (fun x => rfl) (fun x => rfl) (fun x => rfl)).run fun u9 H9 e9 r9 => ?_
  obtain ⟨p9, rfl, hp9⟩ := r9
  have e09 := (e07.trans e8).trans e9
  have hp8 := e9 _ _ hp8
  refine sq_asg <| (x_callX (Rs := [RV v, RV (.int jn), RS ((fstOf t.names ds).take rn), RV (.ref p9)]) (R := RFst t jn ((fstOf t.names ds).take rn) (t.names.filter fun x => !decide (x ∈ us))) (dvs := []) (E := E0) (sp := spTurn T.a_Leaf T.a_Group n) mon_RFst (x_cons mon_RV (x_evV (Evl.ev_var rfl)) (x_cons mon_RV (x_evV (Evl.ev_var rfl)) (x_cons mon_RS (x_cutS (x_var rfl mon_RS ⟨p8, rfl, hp8⟩) (fun H1 k _ h => h) (fun H1 k _ h => ⟨_, rfl, _, rfl, h⟩) (cut_to _ rn)) (x_cons mon_RV (x_evV (Evl.ev_var rfl)) x_nil)))) fun vs H10 e10 r H11 e11 Q' q' E' => ?_).run fun u12 H12 e12 r12 => ?_
  · obtain ⟨v1, _, rfl, hv1, v2, _, rfl, hv2, v3, _, rfl, ⟨c, rfl, hc⟩, v4, _, rfl, hv4, rfl⟩ := r
    rw [show v1 = v from hv1, show v2 = _ from hv2, show v4 = _ from hv4]
    exact ⟨v, t, jn, c, p9, _, _, rfl, (h.at_.mono e09).mono (e10.trans e11), Nat.le_of_lt h.dep, hz, W, e11 _ _ hc, (e10.trans e11) _ _ hp9, fun a p H' hT s hp => q' _ H' s ⟨a, hT, p, rfl, hp⟩⟩
  obtain ⟨a, hT, p12, rfl, hp12⟩ := r12
  have e012 := e09.trans e12
  obtain ⟨f1, f2, f3, f4⟩ := hT.first W
  refine Evl.s_retL (el_catS (x_var rfl mon_RS ⟨p12, rfl, hp12⟩) (x_filtN (K := K) (k := 7) (j := 8) (nmE e012 rfl) hp12 (by omega) (fun x => rfl) (fun x => rfl) (fun x => rfl)) (by
    have := nodup_len f1 f2
    have := fl fun x => !decide (x ∈ fst ((fstOf t.names ds).take rn) (t.names.filter fun x => !decide (x ∈ us)) a)
    omega)) fun p H' np e hp => ?_
  exact q1 hb.1 hb.2 p _ H' (Evl.fresh_back e012 np) (e012.trans e) hp ⟨ds, us, a, pm4, so4, pm5, so5, hT, rfl⟩
end
end Rk
set_option Elab.async false
set_option linter.all false
set_option maxRecDepth 100000
set_option maxHeartbeats 4000000
namespace Rk
open PySem PySem.Spec PyProof.Rows L2 RkO Rx
open Evl (Ev EvT EvA EvL EvU EvO Ex RC RCL SpV SpL)
theorem ord_one {t : Tr} {j r : Nat} {L L2 : List Str} (h : IsOrd t j r L) (g : IsOrd t j r L2) : L = L2 := by
  obtain ⟨ds, us, a, h1, h2, h3, h4, h5, rfl⟩ := h
  obtain ⟨ds2, us2, a2, g1, g2, g3, g4, g5, rfl⟩ := g
  obtain rfl : ds = ds2 := sorted_one (h1.trans g1.symm) h2 g2
  obtain rfl : us = us2 := sorted_one (h3.trans g3.symm) h4 g4
  rw [h5.one g5]
section
variable {P : Program} {w : World} {K : PySem.W.Frag} {mg : Str → Option Value} {base : Heap}
def spRight (cL cG : Addr) (n : Nat) : Sp := fun vs H Q _ => ∃ (mv tv : V) (ln : Addr) (t : Tr) (r k : Int), vs = [mv, tv, .ref ln, .int r, .int k] ∧ EndAt cL cG n H mv t k ∧ LAt H tv t ∧ H ln = some (.lst (t.names.map V.str)) ∧ 1 ≤ r ∧ r ≤ (t.names.length : Int) ∧ ∀ H', Same H H' → Q (.bl true) H'
theorem ok_law_right (T : Txt K mg) (n : Nat) : FnOk P w K mg base CX0 (n + 12) T.f_law_right T.d_law_right ["made", "tree", "names", "rank", "k"] (spRight T.a_Leaf T.a_Group n) := by
  have G_order_at := ok_order_at (P := P) (w := w) (base := base) T n
  have G_rank_span := ok_rank_span (P := P) (w := w) (base := base) T n
  have G_law_ends := ok_law_ends (P := P) (w := w) (base := base) T n
  obtain ⟨ds1, hds1, bA_order_at⟩ := T.F_order_at.binds1 (ps := ["tree", "rank", "j"]) 3 1 (List.cons_ne_nil _ _) rfl fun _ _ _ _ _ _ _ us its hl hi => match us, hl, its, hi with | [_, _, _], _, [_], _ => ⟨_, rfl, rfl⟩
  cases hds1
  obtain ⟨ds2, hds2, bA_rank_span⟩ := T.F_rank_span.binds1 (ps := ["tree", "j"]) 2 1 (List.cons_ne_nil _ _) rfl fun _ _ _ _ _ _ _ us its hl hi => match us, hl, its, hi with | [_, _], _, [_], _ => ⟨_, rfl, rfl⟩
  cases hds2
  refine T.F_law_right.ok sc_law_right (fun vs H Q E h => ?_) (fun cdv A outer s H vs Q E hr h => ?_)
  · obtain ⟨_, _, _, _, _, _, rfl, _⟩ := h
    rfl
  obtain ⟨mv, tv, ln, t, r, k, rfl, h, hlt, hln, r1, r2, q⟩ := h
  have hu := hu_of hr
  refine ⟨_, (pss_cons (ps_set (i := 5) sc_law_right.nd rfl (Or.inl rfl) (pe_call G_order_at (hr.mono (by omega)) rfl T.m_order_at T.F_order_at.kp bA_order_at .nil pass0 (pa_cons (pv 0) (pa_cons (pv 3) (pa_cons (pv 4) pa_nil)))))
  (pss_cons (ps_set (i := 6) sc_law_right.nd rfl (Or.inl rfl) (pe_call G_rank_span (hr.mono (by omega)) rfl T.m_rank_span T.F_rank_span.kp bA_rank_span .nil pass0 (pa_cons (pv 0) (pa_cons (pv 4) pa_nil))))
  (pss_cons (ps_if (pt_cmpR op_isN (pv 5) pe_non (nomark _)) (pss_one (ps_ret (pe_or (pe_cmpR op_lt (pv 3) (pe_ix ix_tup (pv 6) pe_int (fun _ _ => rfl)) (nomark _)) (pe_one (pe_cmpR op_gt (pv 3) (pe_ix ix_tup (pv 6) pe_int (fun _ _ => rfl)) (nomark _)))))) pss_nil)
  (pss_cons (ps_if (PW.pt (pw_or (pt_cmpR op_lt (pv 3) (pe_ix ix_tup (pv 6) pe_int (fun _ _ => rfl)) (nomark _)) (pw_or (pt_cmpR op_gt (pv 3) (pe_ix ix_tup (pv 6) pe_int (fun _ _ => rfl)) (nomark _)) (pw_or (pt_not (pt_val (pe_callB call_isi (by rfl) T.m_isinstance (by decide +kernel) (pa_cons (pv 5) (pa_cons (pe_bltn (v := .ty "list") (by rfl) T.m_list (by decide +kernel) rfl) pa_nil))))) (pw_or1 (pt_cmpR (op_neD hr.units) (pe_callB cr_sortedS (by rfl) T.m_sorted (by decide +kernel) (pa_cons (pv 5) pa_nil)) (pe_callB cr_sortedS (by rfl) T.m_sorted (by decide +kernel) (pa_cons (pv 2) pa_nil)) (nomark _))))))) (pss_one (ps_ret pe_bl)) pss_nil)
  (pss_cons (ps_set (i := 7) sc_law_right.nd rfl (Or.inl rfl) pe_dnewK)
  (pss_cons (ps_for PassesOwn.never rfl (pi_list (pv 5)) (pg_name (i := 8) sc_law_right.nd rfl (.inl rfl))
    (pss_one (ps_dput hu (pv 7) (pv 8) (pe_op op_add (pe_callB call_lenD (by rfl) T.m_len PySem.boot_len (pa_cons (pv 7) pa_nil)) pe_int) rfl)))
  (pss_cons (ps_if (pt_cmpR op_ne (pe_ix ix_list (pe_call G_law_ends (hr.mono (by omega)) rfl T.m_law_ends T.F_law_ends.kp T.b_law_ends .nil pass0 (pa_cons (pv 1) (pa_cons (pv 7) pa_nil))) (pe_op op_sub (pv 4) pe_int) (fun _ _ => rfl)) (pv 3) (nomark _)) (pss_one (ps_ret pe_bl)) pss_nil)
  (pss_cons (ps_expr (pe_bm0 PySem.F.plainAttrs_list PySem.F.slot_list_reverse PySem.F.type_list_reverse mt_reverse (pv 5)))
  (pss_one (ps_ret (pe_cmpR (op_eqD hr.units) (pe_call G_order_at (hr.mono (by omega)) rfl T.m_order_at T.F_order_at.kp bA_order_at .nil pass0 (pa_cons (pv 0) (pa_cons (pv 3) (pa_cons (pv 4) pa_nil)))) (pe_revL (pv 5)) (nomark _)))))))))))), ?_⟩
  have hz := h.nam
  have hlo := h.lo
  have hhi := h.hi
  have spanE : ∀ {σ : L2.St} {H' : Hp} {sv : V} {i : Nat} {c : Int}, σ[6]? = some (some sv) → RSpan t k.toNat H' sv → [(t.lr k.toNat : Int), t.gr k.toNat][i]? = some c → Ev (tOp (rIxT K) (tVar 6) (tC (.int (i : Nat)))) σ H' (.int c) := fun hσ rs hc => by
    obtain ⟨p, xs, rfl, hp, x, _, rfl, rfl, y, _, rfl, rfl, rfl⟩ := rs
    refine Evl.ev_op (Evl.ev_var hσ) Evl.ev_c (Evl.rv_ixT (Evl.st_of hp) (atI_nat ?_))
    rename_i i c
    match i, hc with
    | 0, hc => cases hc; rfl
    | 1, hc => cases hc; rfl
  by_cases hsp : (t.lr k.toNat : Int) ≤ r ∧ r ≤ t.gr k.toNat
  · refine sq_asg ⟨_, rfl, _, rfl, _, rfl, mv, t, r, k, rfl, h, r1, r2, fun _ _ p L H1 np e1 hp hL => ?_, fun z => absurd hsp z⟩
    refine sq_asg ⟨_, rfl, _, rfl, mv, t, k, rfl, h.mono e1, fun sv H2 e2 rs => ?_⟩
    refine un_seq <| un_ifS ⟨_, rfl, rfl, _, rfl, iteF (nxt ?_)⟩
    dsimp only
    have e12 := e1.trans e2
    have hp2 := e2 _ _ hp
    have hgr : r.toNat + t.mirror.lr (t.width + 1 - k.toNat) ≤ t.names.length + 1 := by
      have := hsp.2
      unfold Tr.gr at this
      omega
    obtain ⟨pm, hend⟩ := ord_end h.ok (j := k.toNat) (r := r.toNat) (by omega) (by omega) (by omega) (by omega) (by omega) hgr hL
    have ndL : L.Nodup := pm.nodup_iff.mpr h.ok.nodup
    have lL : L.length ≤ 60 := by rw [pm.length_eq]; exact hz
    have okL : ∀ x ∈ L, nameOk x = true := fun x hx => h.ok.names_ok x (pm.mem_iff.mp hx)
    have srt : EvT (tTest (tOp (rNeD K) (tCB (rSortedS K) (tCons (tVar 5) tNil)) (tCB (rSortedS K) (tCons (tVar 2) tNil)))) [some mv, some tv, some (.ref ln), some (.int r), some (.int k), some (.ref p), some sv, none, none] H2 false := Evl.et_test fun H3 e3 Q' q' => by
      refine un_op ⟨_, rfl, p, L, rfl, SqL.of (e3 _ _ hp2), by omega, fun ys p5 pm5 so5 n5 => ⟨_, rfl, ln, t.names, rfl, SqL.of (same_new n5 _ _ _ (e3 _ _ (e12 _ _ hln))), by omega, fun zs p6 pm6 so6 n6 => ?_⟩⟩
      obtain rfl : ys = zs := sorted_one (pm5.trans (pm.trans pm6.symm)) so5 so6
      have sh : SeqAt.shaped (.list (ys.map PyData.str)) = true := shaped_strs fun x hx => okL x (pm5.mem_iff.mp hx)
      refine ⟨_, _, .lst (SqL.of (same_new n6 _ _ _ upd_same)) (dp_strs ys), .lst (SqL.of upd_same) (dp_strs ys), sh, sh, ?_⟩
      rw [SeqAt.eqv_refl _ (SeqAt.canLay_of_shaped sh)]
      exact q' _ ((same_new n5 _).trans (same_new n6 _))
    refine un_seq <| Evl.s_if (b := decide (r < (t.lr k.toNat : Int)) || (decide (t.gr k.toNat < r) || (!true || false))) (Evl.et_or (Evl.et_test (Evl.ev_op (Evl.ev_var rfl) (spanE (i := 0) rfl rs rfl) Evl.rv_I0)) fun _ => Evl.et_or (Evl.et_test (Evl.ev_op (Evl.ev_var rfl) (spanE (i := 1) rfl rs rfl) Evl.rv_I0)) fun _ => Evl.et_or (Evl.et_not (a := true) (Evl.et_B (Evl.ev_cb (vs := [.ref p, .ty "list"]) (Evl.ea_cons (Evl.ev_var rfl) (Evl.ea_cons Evl.ev_c Evl.ea_nil)) fun H4 e4 Q q => ⟨_, _, _, _, _, rfl, .ty "list", ty_list (SqL.of (e4 _ _ hp2)), (show PySem.W.kitOne _ (.type "list") (.type "list") = some true by rfl), q H4 (Ex.refl _)⟩))) fun _ => srt) (fun hb => ?_) fun _ H3 e3 => nxt ?_
    · rw [decide_eq_false (by omega), decide_eq_false (by omega)] at hb
      cases hb
    have e13 := e12.trans e3
    have hp3 := e3 _ _ hp2
    -- worths
    refine sq_asg (te := tDNewK) fun d nd3 => ?_
    have s34 := same_new nd3 (.dK [])
    have hd4 : (upd H3 d (.dK [])) d = some (.dK []) := upd_same
    generalize upd H3 d (.dK []) = H4 at s34 hd4 ⊢
    have e14 := e13.trans s34
    have hp4 := s34 _ _ hp3
    have pd : p ≠ d := ne_of_none hp3 nd3
    refine un_seq <| Evl.s_forLn (Evl.ev_var rfl) (SqL.of hp4) (fun i σ' H' => ∃ (x8 : Option V) (kvs : List (Key × V)), σ' = [some mv, some tv, some (.ref ln), some (.int r), some (.int k), some (.ref p), some sv, some (.ref d), x8] ∧ H' d = some (.dK kvs) ∧ kvs.map (·.1) = (L.take i).map Sum.inr ∧ (∀ m x, m < i → L[m]? = some x → valV kvs (.inr x) = some (.int (1 + (m : Nat)))) ∧ (∀ b o, b ≠ d → H4 b = some o → H' b = some o)) (fun H5 e5 => ⟨none, [], rfl, e5 _ _ hd4, rfl, (fun m x h => absurd h (Nat.not_lt_zero m)), fun b o _ h => e5 _ _ h⟩) (fun i σ' H' _ p0 => ?_) (fun i x σ' H5 hx p0 => ?_) (fun σ' H5 p0 => ?_)
    · obtain ⟨_, _, _, _, _, _, g⟩ := p0
      exact SqL.of (g _ _ pd hp4)
    · obtain ⟨x8, kvs, rfl, hd5, hk5, hv5, g5⟩ := p0
      rw [List.getElem?_map] at hx
      obtain ⟨z, hz', rfl⟩ := Option.map_eq_some_iff.mp hx
      dsimp only [List.set]
      have hil : i < L.length := (List.getElem?_eq_some_iff.mp hz').1
      have kl : kvs.length = i := by
        have := congrArg List.length hk5
        rw [List.length_map, List.length_map, List.length_take] at this
        omega
      have tk : L.take (i + 1) = L.take i ++ [z] := by rw [List.take_add_one, hz']; rfl
      have nz : z ∉ L.take i := fun hm => by
        have n2 := ndL.sublist (List.take_sublist (i + 1) L)
        rw [tk] at n2
        exact (List.nodup_append.mp n2).2.2 z hm z List.mem_cons_self rfl
      have nk : (Sum.inr z : Key) ∉ kvs.map (·.1) := fun hm => by
        rw [hk5] at hm
        obtain ⟨y, hy, e⟩ := List.mem_map.mp hm
        exact nz (Sum.inr.inj e ▸ hy)
      have hn : valV kvs (Sum.inr z : Key) = none := by
        cases hv : valV kvs (Sum.inr z : Key) with
        | none => rfl
        | some v => exact absurd (valV_in hv) nk
      refine ⟨_, rfl, d, kvs, rfl, hd5, _, _, rfl, rfl, _, rfl, _, rfl, d, _, rfl, DPut.k (k := (Sum.inr z : Key)) hd5 (Evl.sz_lt (by omega)), ?_⟩
      refine ⟨_, _, rfl, upd_same, ?_, fun m x hm hxx => ?_, fun b o hb ho => by rw [upd_ne hb]; exact g5 b o hb ho⟩
      · rw [putK_new _ hn, List.map_append, hk5, tk, List.map_append]
        rfl
      · rw [valV_put]
        rcases Nat.lt_succ_iff_lt_or_eq.mp hm with hm | rfl
        · have hxm : x ∈ L.take i := List.mem_of_getElem? (i := m) (by rw [List.getElem?_take, if_pos hm]; exact hxx)
          rw [if_neg fun e : (Sum.inr x : Key) = Sum.inr z => nz (by rw [← Sum.inr.inj e]; exact hxm)]
          exact hv5 m x hm hxx
        · obtain rfl : z = x := Option.some.inj (hz'.symm.trans hxx)
          rw [if_pos rfl, kl]
          show some (V.int ((_ : Int) + 1)) = _
          rw [Int.add_comm]
    · obtain ⟨x8, kvs, rfl, hd5, hk5, hv5, g5⟩ := p0
      rw [List.length_map] at hv5
      have g15 : Same H H5 := fun b o ho => g5 b o (ne_of_none (e13 _ _ ho) nd3) (e14 _ _ ho)
      have hp5 := g5 _ _ pd hp4
      have hW : WG H5 d (wfAt L) t.names := ⟨kvs, hd5, fun x hx => by
        obtain ⟨m, hm⟩ := List.getElem?_of_mem (pm.mem_iff.mpr hx)
        rw [hv5 m x (List.getElem?_eq_some_iff.mp hm).1 hm, wfAt_get ndL hm]⟩
      have he := hend (wfAt L) fun i y hy => wfAt_get ndL hy
      dsimp only
      refine un_seq <| un_ifS <| un_test <| un_op <| un_op ⟨_, rfl, _, rfl, tv, d, t, wfAt L, rfl, h.dep, hlt.mono g15, h.ok, hz, hW, fun l H6 s6 n6 hl6 => ?_⟩
      have hel : (t.ends (wfAt L)).length = t.width := ends_len (wf := wfAt L) t
      refine ⟨_, rfl, _, _, rfl, rfl, l, _, k - 1, .int r, rfl, rfl, SqL.of hl6, at_of (j := (k - 1).toNat) (by omega) ?_, ?_⟩
      · rw [List.getElem?_map]
        have e1 : (k - 1).toNat = k.toNat - 1 := by omega
        have e2 : (t.ends (wfAt L))[k.toNat - 1]? = some r := by
          rw [List.getD_eq_getElem?_getD] at he
          rw [List.getElem?_eq_getElem (by omega)] at he ⊢
          have he : (t.ends (wfAt L))[k.toNat - 1] = _ := he
          rw [he]
          congr 1
          omega
        rw [e1, e2]
        rfl
      have g16 := g15.trans s6
      have hp6 := s6 _ _ hp5
      refine ⟨_, rfl, rfl, _, rfl, ?_⟩
      rw [decide_eq_true rfl]
      refine iteF (nxt ?_)
      dsimp only
      refine un_seq <| un_drop ⟨_, rfl, .inl ⟨rfl, _, SqL.of hp6⟩, p, _, rfl, rfl, hp6, ?_⟩
      have g17 : Same H (upd H6 p (.lst (L.map V.str).reverse)) := fun b o ho => by
        rw [upd_ne (ne_of_none ho np)]
        exact g16 b o ho
      have hp7 : (upd H6 p (.lst (L.map V.str).reverse)) p = some (.lst (L.map V.str).reverse) := upd_same
      generalize upd H6 p (.lst (L.map V.str).reverse) = H7 at g17 hp7 ⊢
      dsimp only
      refine un_ret <| un_op ⟨_, rfl, _, rfl, _, rfl, mv, t, r, k, rfl, h.mono g17, r1, r2, fun _ _ p2 L2 H8 np2 e8 hp8 hL2 => ?_, fun z => absurd hsp z⟩
      obtain rfl := ord_one hL hL2
      have sh : SeqAt.shaped (.list (L.map PyData.str)) = true := shaped_strs okL
      refine ⟨_, rfl, p, _, rfl, SqL.of (e8 _ _ hp7), fun p9 n9 => ⟨_, _, .lst (SqL.of (same_new n9 _ _ _ hp8)) (dp_strs L), .lst (SqL.of (by rw [upd_same, List.reverse_reverse])) (dp_strs L), sh, sh, ?_⟩⟩
      rw [SeqAt.eqv_refl _ (SeqAt.canLay_of_shaped sh)]
      exact q _ ((g17.trans e8).trans (same_new n9 _))
  · refine sq_asg ⟨_, rfl, _, rfl, _, rfl, mv, t, r, k, rfl, h, r1, r2, (fun a b => absurd ⟨a, b⟩ hsp), fun _ H1 e1 => ?_⟩
    refine sq_asg ⟨_, rfl, _, rfl, mv, t, k, rfl, h.mono e1, fun sv H2 e2 rs => ?_⟩
    refine un_seq <| un_ifS ⟨_, rfl, rfl, _, rfl, iteT ?_⟩
    refine un_ret <| (Evl.ev_is (Evl.ev_orV (a := decide (r < (t.lr k.toNat : Int))) (b := decide (r > t.gr k.toNat)) (Evl.ev_op (Evl.ev_var rfl) (spanE (i := 0) rfl rs rfl) Evl.rv_I0) fun _ => Evl.ev_op (Evl.ev_var rfl) (spanE (i := 1) rfl rs rfl) Evl.rv_I0) ?_) H2 (Ex.refl _) _ fun H3 e3 => q H3 ((e1.trans e2).trans e3)
    rw [← Bool.decide_or, decide_eq_true]
    omega
end
end Rk
set_option Elab.async false
set_option linter.all false
set_option maxRecDepth 100000
set_option maxHeartbeats 4000000
namespace Rk
open PySem PySem.Spec PyProof.Rows L2 RkO Rx
open Evl (Ev EvT EvA EvL EvU EvO Ex RC RCL SpV SpL)
def exSp (sp : Addr → Sp) : Sp := fun vs H Q E => ∃ a, sp a vs H Q E
theorem ok_ex {P : Program} {w : World} {K : PySem.W.Frag} {mg : Str → Option Value} {base : Heap} {k : Nat} {f : Addr} {fd : FuncData} {ps : List Str} {sp : Addr → Sp} (F : ∀ a, FnOk P w K mg base CX0 k f fd ps (sp a)) : FnOk P w K mg base CX0 k f fd ps (exSp sp) := by
  refine ⟨fun vs H Q E h => ?_, fun A outer s H args us vs Q E hr he hb hv h => ?_⟩
  · obtain ⟨a, h⟩ := h
    exact (F a).len _ _ _ _ h
  · obtain ⟨a, h⟩ := h
    exact (F a).run A outer s H args us vs Q E hr he hb hv h
theorem not_first {K : PySem.W.Frag} {C : Addr} : PySem.W.notFirst K C (.ref C) = true := by
  unfold PySem.W.notFirst
  rw [beq_self_eq_true, Bool.true_or]
theorem use_eq {cL cG : Addr} {K : PySem.W.Frag} {H : Hp} {Q : VK} {v v2 : V} {t : Tr} {n : Nat} (h1 : TAt cL cG H v t) (h2 : TAt cL cG H v2 t) (hd : t.depth ≤ n) (q : ∀ H2, Same H H2 → Q (.bl true) H2) : r2or (rEqO K cL false (spEq (RTr cL cG n true)) E0) (rEqO K cG false (spEq (RTr cL cG n false)) E0) v v2 H Q := by
  have w1 := h1
  have w2 := h2
  cases h1 with
  | @leaf p dx z g =>
    cases h2 with
    | @leaf p2 dx2 _ g2 => exact .inl ⟨p, dx, _, p2, cL, dx2, _, rfl, rfl, g, g2, not_first, p, p2, rfl, ⟨_, hd, rfl, w1, w2⟩, fun H' e => ⟨true, rfl, q H' e⟩⟩
  | @grp p dx lr lp ln rs ps vs g1 g2 g3 g4 hl hf =>
    cases h2 with
    | @grp p2 dx2 lr2 lp2 ln2 _ _ vs2 k1 k2 k3 k4 kl kf => exact .inr ⟨p, dx, _, p2, cG, dx2, _, rfl, rfl, g1, k1, not_first, p, p2, rfl, ⟨_, hd, rfl, w1, w2⟩, fun H' e => ⟨true, rfl, q H' e⟩⟩
theorem sp_made {cL cG : Addr} {n : Nat} {H : Hp} {v : V} {t : Tr} (h : LAt H v t) (hok : Ok t) (hd : t.depth < n) (hl : t.names.length ≤ 60) : SpX (spMade cL cG n) [v] H (RTe cL cG t) := fun H1 e Q q E => ⟨v, t, rfl, hd, h.mono e, hok, hl, fun v' H' s r => q v' H' s r⟩
theorem un_callA {sp : Sp} {dvs : List V} {E : XK} {ta : TA} {σ : L2.St} {H : Hp} {Q : VK} (h : ta σ H fun vs H1 => sp (vs ++ dvs) H1 Q E) : tCall sp dvs E ta σ H Q := h
section
variable {P : Program} {w : World} {K : PySem.W.Frag} {mg : Str → Option Value} {base : Heap}
def spLaw (K : PySem.W.Frag) : Sp := fun vs H Q _ => ∃ (a : Addr) (ns : List Int), vs = [.ref a] ∧ SqL K H a (ns.map V.int) ∧ ns.length ≤ 63 ∧ ∀ H', Q (.bl true) H'
theorem ok_law (T : Txt K mg) : FnOk P w K mg base CX0 20 T.f_law T.d_law ["script"] (spLaw K) := by
  have G_law_well := ok_law_well (P := P) (w := w) (base := base) T
  have G_law_made := RkO.FnOk.frame (ok_law_made (P := P) (w := w) (base := base) T 5)
  have G_law_width := ok_law_width (P := P) (w := w) (base := base) T
  have G_law_right := ok_law_right (P := P) (w := w) (base := base) T 5
  have G_order_at := ok_order_at (P := P) (w := w) (base := base) T 5
  have GEL := ok_Leaf_eq (P := P) (w := w) (base := base) T 4
  have GEG := ok_Group_eq (P := P) (w := w) (base := base) T 4
  obtain ⟨ds1, hds1, bA_order_at⟩ := T.F_order_at.binds1 (ps := ["tree", "rank", "j"]) 3 1 (List.cons_ne_nil _ _) rfl fun _ _ _ _ _ _ _ us its hl hi => match us, hl, its, hi with | [_, _, _], _, [_], _ => ⟨_, rfl, rfl⟩
  cases hds1
  obtain ⟨ds2, hD_order_at, bD_order_at⟩ := T.F_order_at.binds1 (ps := ["tree", "rank", "j"]) 2 0 (List.cons_ne_nil _ _) rfl fun _ _ _ _ _ _ _ us its hl hi => match us, hl, its, hi with | [_, _], _, [_], _ => ⟨_, rfl, rfl⟩
  have hD_order_at : Vals [V.int 1] ds2 := hD_order_at
  refine T.F_law.ok sc_law (fun vs H Q E h => ?_) (fun cdv A outer s H vs Q E hr h => ?_)
  · obtain ⟨_, _, rfl, _⟩ := h
    rfl
  obtain ⟨sa, ns, rfl, hs, hns, q⟩ := h
  have G_law_words : FnOk P w K mg base CX0 2 T.f_law_words T.d_law_words ["well", "many"] (exSp spWords) := ok_ex fun a => ok_law_words T a
  have G_law_tree : FnOk P w K mg base CX0 8 T.f_law_tree T.d_law_tree ["well", "names", "depth"] (exSp fun a => spTree a 4) := ok_ex fun a => ok_law_tree T a 4
  refine ⟨_, (pss_cons (ps_set (i := 1) sc_law.nd rfl (Or.inl rfl) (pe_call G_law_well (hr.mono (by omega)) rfl T.m_law_well T.F_law_well.kp T.b_law_well .nil pass0 (pa_cons (pv 0) (pa_cons pe_int pa_nil))))
  (pss_cons (ps_set (i := 2) sc_law.nd rfl (Or.inl rfl) (pe_call G_law_words (hr.mono (by omega)) rfl T.m_law_words T.F_law_words.kp T.b_law_words .nil pass0 (pa_cons (pv 1) (pa_cons pe_int pa_nil))))
  (pss_cons (ps_set (i := 3) sc_law.nd rfl (Or.inl rfl) (pe_call G_law_tree (hr.mono (by omega)) rfl T.m_law_tree T.F_law_tree.kp T.b_law_tree .nil pass0 (pa_cons (pv 1) (pa_cons (pv 2) (pa_cons pe_int pa_nil)))))
  (pss_cons (ps_set (i := 4) sc_law.nd rfl (Or.inl rfl) (pe_call G_law_made (hr.mono (by omega)) rfl T.m_law_made T.F_law_made.kp T.b_law_made .nil pass0 (pa_cons (pv 3) pa_nil)))
  (pss_cons (ps_for PassesOwn.never rfl (pi_range2 rfl T.m_range (pa_cons pe_int (pa_cons (pe_op op_add (pe_callB (call_min2 rfl) (by rfl) T.m_min (by decide +kernel) (pa_cons (pe_call G_law_width (hr.mono (by omega)) rfl T.m_law_width T.F_law_width.kp T.b_law_width .nil pass0 (pa_cons (pv 3) pa_nil)) (pa_cons pe_int pa_nil))) pe_int) pa_nil))) (pg_name (i := 5) sc_law.nd rfl (.inl rfl))
    (pss_one (ps_for PassesOwn.never rfl (pi_range2 rfl T.m_range (pa_cons pe_int (pa_cons (pe_op op_add (pe_callB call_len_seq (by rfl) T.m_len PySem.boot_len (pa_cons (pv 2) pa_nil)) pe_int) pa_nil))) (pg_name (i := 6) sc_law.nd rfl (.inl rfl))
      (pss_one (ps_if (pt_not (pt_val (pe_call G_law_right (hr.mono (by omega)) rfl T.m_law_right T.F_law_right.kp T.b_law_right .nil pass0 (pa_cons (pv 4) (pa_cons (pv 3) (pa_cons (pv 2) (pa_cons (pv 6) (pa_cons (pv 5) pa_nil)))))))) (pss_one (ps_ret pe_bl)) pss_nil)))))
  (pss_one (ps_ret (pe_and (pe_cmpR (op_eqD hr.units) (pe_call G_order_at (hr.mono (by omega)) rfl T.m_order_at T.F_order_at.kp bD_order_at hD_order_at pass0 (pa_cons (pv 4) (pa_cons pe_int pa_nil))) (pe_call G_order_at (hr.mono (by omega)) rfl T.m_order_at T.F_order_at.kp bA_order_at .nil pass0 (pa_cons (pv 4) (pa_cons pe_int (pa_cons pe_int pa_nil)))) (nomark _)) (pe_one (pe_cmpR (op_or (op_eqO T.M_Leaf_eq GEL (hr.mono (by omega)) T.b_Leaf_eq pass0) (op_eqO T.M_Group_eq GEG (hr.mono (by omega)) T.b_Group_eq pass0)) (pv 4) (pe_call G_law_made (hr.mono (by omega)) rfl T.m_law_made T.F_law_made.kp T.b_law_made .nil pass0 (pa_cons (pv 3) pa_nil)) (nomark _))))))))))), ?_⟩
  refine sq_asg ⟨_, rfl, sa, ns, 0, rfl, hs, hns, by decide, by decide, fun a n n0 na => ?_⟩
  have hw1 : Wl a (upd H a (.lst [.int n])) (upd H a (.lst [.int n])) := Wl.refl upd_same n0
  generalize upd H a (.lst [.int n]) = H1 at hw1 ⊢
  refine sq_asg ⟨_, rfl, a, 12, rfl, by decide, hw1, fun xs ln H2 nd hn hlen hne nl la hl w2 => ?_⟩
  have hlen : xs.length ≤ 12 := by omega
  refine sq_asg ⟨_, rfl, _, rfl, a, ln, xs, 3, rfl, by decide, by decide, w2.r, la, hl, nd, hn, hne (by decide), by omega, fun tv t H3 hok hnm hdp w3 hlt0 => ?_⟩
  have hlt : LAt H3 tv t := hlt0.mono hid_le
  have hl3 := w3.2 _ _ la hl
  have hnl : t.names.length ≤ 60 := by rw [hnm]; omega
  have hnod : t.nodes.length ≤ 1000 := by
    have h1 := nodes_len hok
    have h2 : t.names.length * (t.depth + 1) ≤ 60 * 5 := Nat.mul_le_mul hnl (by omega)
    omega
  have w1 := hok.wide
  -- made
  refine sq_asg <| (x_callA (dvs := []) (E := E0) mon_RTe (Evl.ea_cons (Evl.ev_var rfl) Evl.ea_nil) (sp_made (cL := T.a_Leaf) (cG := T.a_Group) (n := 5) hlt hok (by omega) hnl)).run fun mv H5 s5 hm5 => ?_
  have hm5 : TAt T.a_Leaf T.a_Group H5 mv t := hm5
  have hl5 := s5 _ _ hl3
  rw [← hnm] at hl5
  have hlt5 := hlt.mono s5
  have wid : ∀ (σ : L2.St) H6, Ex H5 H6 → σ[3]? = some (some tv) → Ev (tCall (spLWidth K) [] E0 (tCons (tVar 3) tNil)) σ H6 (.int (t.width : Nat)) := fun σ H6 e h => Evl.ev_call (Evl.ea_cons (Evl.ev_var h) Evl.ea_nil) fun H7 e7 Q q E => ⟨tv, t, rfl, (hlt5.mono e).mono e7, q H7 (Ex.refl _)⟩
  have ends : ∀ H6 (k : Int), Ex H5 H6 → 1 ≤ k → k ≤ (t.width : Int) → EndAt T.a_Leaf T.a_Group 5 H6 mv t k := fun H6 k e h1 h2 => ⟨hm5.mono e, hok, by omega, hnl, hnod, h1, h2⟩
  have minE : Ev (tOp (rI0 fun i j => V.int (i + j)) (tCB (fun xs H Q => ∃ i j, xs = [V.int i, V.int j] ∧ Q (V.int (if j < i then j else i)) H) (tCons (tCall (spLWidth K) [] E0 (tCons (tVar 3) tNil)) (tCons (tC (V.int 4)) tNil))) (tC (V.int 1))) [some (.ref sa), some (.ref a), some (.ref ln), some tv, some mv, none, none] H5 (.int ((if (4 : Int) < (t.width : Nat) then 4 else ((t.width : Nat) : Int)) + 1)) :=
    Evl.ev_op (Evl.ev_cb (vs := [.int (t.width : Nat), .int 4]) (Evl.ea_cons (wid _ _ (Ex.refl _) rfl) (Evl.ea_cons Evl.ev_c Evl.ea_nil)) fun H1 e Q q => ⟨_, _, rfl, q H1 (Ex.refl _)⟩) Evl.ev_c Evl.rv_I0
  have m1 : 1 ≤ (if (4 : Int) < (t.width : Nat) then 4 else ((t.width : Nat) : Int)) := by split <;> omega
  have m2 : (if (4 : Int) < (t.width : Nat) then 4 else ((t.width : Nat) : Int)) ≤ (t.width : Nat) := by split <;> omega
  have m3 : (if (4 : Int) < (t.width : Nat) then 4 else ((t.width : Nat) : Int)) ≤ 4 := by split <;> omega
  generalize (if (4 : Int) < (t.width : Nat) then 4 else ((t.width : Nat) : Int)) = m at minE m1 m2 m3
  refine Evl.q_forR2 (lo := 1) (n := m + 1) (Evl.ea_cons Evl.ev_c (Evl.ea_cons minE Evl.ea_nil)) ⟨by decide, by decide, by omega, by omega⟩ (fun i σ' H' => ∃ x5 x6, σ' = [some (.ref sa), some (.ref a), some (.ref ln), some tv, some mv, x5, x6] ∧ Ex H5 H') (fun H6 e6 => ⟨_, _, rfl, e6⟩) (fun i σ' H6 hi p => ?_) (fun σ' H6 p => ?_)
  · obtain ⟨x5, x6, rfl, e6⟩ := p
    dsimp only [List.set]
    generalize hk : (1 : Int) + (i : Int) = k at hi ⊢
    refine Evl.s_forR2 (lo := 1) (n := (t.names.length : Int) + 1) (Evl.ea_cons Evl.ev_c (Evl.ea_cons (Evl.ev_op (Evl.ev_is (Evl.ev_len (Evl.ev_var rfl) (SqL.of (e6 _ _ hl5))) (by rw [List.length_map])) Evl.ev_c Evl.rv_I0) Evl.ea_nil)) ⟨by decide, by decide, by omega, by omega⟩ (fun i σ' H' => ∃ x6, σ' = [some (.ref sa), some (.ref a), some (.ref ln), some tv, some mv, some (.int k), x6] ∧ Ex H5 H') (fun H7 e7 => ⟨_, rfl, e6.trans e7⟩) (fun i2 σ' H7 hi2 p => ?_) (fun σ' H7 p => ?_)
    · obtain ⟨x6, rfl, e7⟩ := p
      dsimp only [List.set]
      exact un_ifS ⟨_, rfl, _, rfl, _, rfl, _, rfl, _, rfl, mv, tv, ln, t, _, k, rfl, ends _ _ e7 (by omega) (by omega), hlt5.mono e7, e7 _ _ hl5, by omega, by omega, fun H8 s8 => ⟨_, rfl, iteF (nxt ⟨_, rfl, e7.trans s8⟩)⟩⟩
    · obtain ⟨x6, rfl, e7⟩ := p
      exact ⟨_, _, rfl, e7⟩
  · obtain ⟨x5, x6, rfl, e6⟩ := p
    have hn1 := hok.one
    refine un_ret <| Evl.ev_andV (a := true) (b := true) (fun H15 e15 Q' q' => ?_) (fun _ H15 e15 Q' q' => ?_) H6 (Ex.refl _) _ fun H7 e7 => q H7
    · have e515 := e6.trans e15
      by_cases hsp : (t.lr (1 : Int).toNat : Int) ≤ 1 ∧ 1 ≤ t.gr (1 : Int).toNat
      · refine un_op <| un_callA <| un_cons ⟨_, rfl, un_cons <| un_c ⟨mv, t, 1, 1, rfl, ends _ _ e515 (by decide) (by omega), by decide, by omega, fun _ _ p L H16 np e16 hp hL => ?_, fun z => absurd hsp z⟩⟩
        refine un_callA <| un_cons ⟨_, rfl, un_cons <| un_c <| un_cons <| un_c ⟨mv, t, 1, 1, rfl, ends _ _ (e515.trans e16) (by decide) (by omega), by decide, by omega, fun _ _ p2 L2 H17 np2 e17 hp2 hL2 => ?_, fun z => absurd hsp z⟩⟩
        obtain rfl := ord_one hL hL2
        have okL : ∀ x ∈ L, nameOk x = true := fun x hx => by
          have hgr : (1 : Int).toNat + t.mirror.lr (t.width + 1 - (1 : Int).toNat) ≤ t.names.length + 1 := by
            have := hsp.2
            unfold Tr.gr at this
            omega
          obtain ⟨pm, _⟩ := ord_end hok (j := (1 : Int).toNat) (r := (1 : Int).toNat) (by decide) w1 hn1 (by decide) (by omega) hgr hL
          exact hok.names_ok x (pm.mem_iff.mp hx)
        have sh : SeqAt.shaped (.list (L.map PyData.str)) = true := shaped_strs okL
        refine ⟨_, _, .lst (SqL.of (e17 _ _ hp)) (dp_strs L), .lst (SqL.of hp2) (dp_strs L), sh, sh, ?_⟩
        rw [SeqAt.eqv_refl _ (SeqAt.canLay_of_shaped sh)]
        exact q' _ (e16.trans e17)
      · refine un_op <| un_callA <| un_cons ⟨_, rfl, un_cons <| un_c ⟨mv, t, 1, 1, rfl, ends _ _ e515 (by decide) (by omega), by decide, by omega, (fun x y => absurd ⟨x, y⟩ hsp), fun _ H16 e16 => ?_⟩⟩
        refine un_callA <| un_cons ⟨_, rfl, un_cons <| un_c <| un_cons <| un_c ⟨mv, t, 1, 1, rfl, ends _ _ (e515.trans e16) (by decide) (by omega), by decide, by omega, (fun x y => absurd ⟨x, y⟩ hsp), fun _ H17 e17 => ?_⟩⟩
        exact rv_eqD (d := .none) (e := .none) rfl rfl rfl rfl H17 (Ex.refl _) Q' fun H18 e18 => q' H18 ((e16.trans e17).trans e18)
    · have e515 := e6.trans e15
      refine un_op ⟨_, rfl, ?_⟩
      refine (x_callA (dvs := []) (E := E0) mon_RTe (Evl.ea_cons (Evl.ev_var rfl) Evl.ea_nil) (sp_made (cL := T.a_Leaf) (cG := T.a_Group) (n := 5) (hlt5.mono e515) hok (by omega) hnl)).run fun v7 H7 e7 r7 => ?_
      exact use_eq (n := 4) ((hm5.mono e515).mono e7) r7 (by omega) fun H8 e8 => q' H8 (e7.trans e8)
end
end Rk
set_option Elab.async false
set_option linter.all false
set_option maxRecDepth 100000
set_option maxHeartbeats 4000000
namespace Rk
open PySem PySem.Spec PyProof.Rows L2 RkO
section
variable {K : PySem.W.Frag} {h : Heap} {mg : Str → Option Value} {a_RankError a_InvalidName a_InvalidNumber a_InvalidTree a_InvalidList a_Tree a_Leaf a_Group f_Leaf_init f_Leaf_name p_Leaf_name f_Leaf_width p_Leaf_width f_Leaf_len f_Leaf_contains f_Leaf_eq f_Leaf_names f_Leaf_passes f_Leaf_nodes f_Leaf_mirror f_Leaf__low_ends f_Group_init f_Group_ranks p_Group_ranks f_Group_parts p_Group_parts f_Group_intake p_Group_intake f_Group_width p_Group_width f_Group_len f_Group_contains f_Group_eq f_Group_getitem f_Group_iter f_Group_names f_Group_passes f_Group_nodes f_Group_mirror f_Group__low_ends f_is_whole f_is_name f_are_names f_is_tree f_is_end f_check_end f_are_parts f_are_ranks f_intake_of f_names_of f_are_leaves f_least_rank tD_least_rank f_greatest_rank tD_greatest_rank f_low_names tD_low_names f_high_names tD_high_names f_fewest f_sums_by_place f_rank_span tD_rank_span f_order_at tD_order_at f_up_to_turn f_law_well f_law_dip f_law_words f_law_ranks f_law_width f_law_group f_law_tree f_law_made f_law_ends f_law_right f_law : Addr} {kV_Leaf_init dc_Leaf_init pm_Leaf_init cd_Leaf_init ct_Leaf_init oc_Leaf_init kV_Leaf_name dc_Leaf_name pm_Leaf_name cd_Leaf_name ct_Leaf_name oc_Leaf_name kV_Leaf_width dc_Leaf_width pm_Leaf_width cd_Leaf_width ct_Leaf_width oc_Leaf_width kV_Leaf_len dc_Leaf_len pm_Leaf_len cd_Leaf_len ct_Leaf_len oc_Leaf_len kV_Leaf_contains dc_Leaf_contains pm_Leaf_contains cd_Leaf_contains ct_Leaf_contains oc_Leaf_contains kV_Leaf_eq dc_Leaf_eq pm_Leaf_eq cd_Leaf_eq ct_Leaf_eq oc_Leaf_eq kV_Leaf_names dc_Leaf_names pm_Leaf_names cd_Leaf_names ct_Leaf_names oc_Leaf_names kV_Leaf_passes dc_Leaf_passes pm_Leaf_passes cd_Leaf_passes ct_Leaf_passes oc_Leaf_passes kV_Leaf_nodes dc_Leaf_nodes pm_Leaf_nodes cd_Leaf_nodes ct_Leaf_nodes oc_Leaf_nodes kV_Leaf_mirror dc_Leaf_mirror pm_Leaf_mirror cd_Leaf_mirror ct_Leaf_mirror oc_Leaf_mirror kV_Leaf__low_ends dc_Leaf__low_ends pm_Leaf__low_ends cd_Leaf__low_ends ct_Leaf__low_ends oc_Leaf__low_ends kV_Group_init dc_Group_init pm_Group_init cd_Group_init ct_Group_init oc_Group_init kV_Group_ranks dc_Group_ranks pm_Group_ranks cd_Group_ranks ct_Group_ranks oc_Group_ranks kV_Group_parts dc_Group_parts pm_Group_parts cd_Group_parts ct_Group_parts oc_Group_parts kV_Group_intake dc_Group_intake pm_Group_intake cd_Group_intake ct_Group_intake oc_Group_intake kV_Group_width dc_Group_width pm_Group_width cd_Group_width ct_Group_width oc_Group_width kV_Group_len dc_Group_len pm_Group_len cd_Group_len ct_Group_len oc_Group_len kV_Group_contains dc_Group_contains pm_Group_contains cd_Group_contains ct_Group_contains oc_Group_contains kV_Group_eq dc_Group_eq pm_Group_eq cd_Group_eq ct_Group_eq oc_Group_eq kV_Group_getitem dc_Group_getitem pm_Group_getitem cd_Group_getitem ct_Group_getitem oc_Group_getitem kV_Group_iter dc_Group_iter pm_Group_iter cd_Group_iter ct_Group_iter oc_Group_iter kV_Group_names dc_Group_names pm_Group_names cd_Group_names ct_Group_names oc_Group_names kV_Group_passes dc_Group_passes pm_Group_passes cd_Group_passes ct_Group_passes oc_Group_passes kV_Group_nodes dc_Group_nodes pm_Group_nodes cd_Group_nodes ct_Group_nodes oc_Group_nodes kV_Group_mirror dc_Group_mirror pm_Group_mirror cd_Group_mirror ct_Group_mirror oc_Group_mirror kV_Group__low_ends dc_Group__low_ends pm_Group__low_ends cd_Group__low_ends ct_Group__low_ends oc_Group__low_ends kV_is_whole dc_is_whole pm_is_whole cd_is_whole ct_is_whole oc_is_whole kV_is_name dc_is_name pm_is_name cd_is_name ct_is_name oc_is_name kV_are_names dc_are_names pm_are_names cd_are_names ct_are_names oc_are_names kV_is_tree dc_is_tree pm_is_tree cd_is_tree ct_is_tree oc_is_tree kV_is_end dc_is_end pm_is_end cd_is_end ct_is_end oc_is_end kV_check_end dc_check_end pm_check_end cd_check_end ct_check_end oc_check_end kV_are_parts dc_are_parts pm_are_parts cd_are_parts ct_are_parts oc_are_parts kV_are_ranks dc_are_ranks pm_are_ranks cd_are_ranks ct_are_ranks oc_are_ranks kV_intake_of dc_intake_of pm_intake_of cd_intake_of ct_intake_of oc_intake_of kV_names_of dc_names_of pm_names_of cd_names_of ct_names_of oc_names_of kV_are_leaves dc_are_leaves pm_are_leaves cd_are_leaves ct_are_leaves oc_are_leaves kV_least_rank dc_least_rank pm_least_rank cd_least_rank ct_least_rank oc_least_rank oD_least_rank kV_greatest_rank dc_greatest_rank pm_greatest_rank cd_greatest_rank ct_greatest_rank oc_greatest_rank oD_greatest_rank kV_low_names dc_low_names pm_low_names cd_low_names ct_low_names oc_low_names oD_low_names kV_high_names dc_high_names pm_high_names cd_high_names ct_high_names oc_high_names oD_high_names kV_fewest dc_fewest pm_fewest cd_fewest ct_fewest oc_fewest kV_sums_by_place dc_sums_by_place pm_sums_by_place cd_sums_by_place ct_sums_by_place oc_sums_by_place kV_rank_span dc_rank_span pm_rank_span cd_rank_span ct_rank_span oc_rank_span oD_rank_span kV_order_at dc_order_at pm_order_at cd_order_at ct_order_at oc_order_at oD_order_at kV_up_to_turn dc_up_to_turn pm_up_to_turn cd_up_to_turn ct_up_to_turn oc_up_to_turn kV_law_well dc_law_well pm_law_well cd_law_well ct_law_well oc_law_well kV_law_dip dc_law_dip pm_law_dip cd_law_dip ct_law_dip oc_law_dip kV_law_words dc_law_words pm_law_words cd_law_words ct_law_words oc_law_words kV_law_ranks dc_law_ranks pm_law_ranks cd_law_ranks ct_law_ranks oc_law_ranks kV_law_width dc_law_width pm_law_width cd_law_width ct_law_width oc_law_width kV_law_group dc_law_group pm_law_group cd_law_group ct_law_group oc_law_group kV_law_tree dc_law_tree pm_law_tree cd_law_tree ct_law_tree oc_law_tree kV_law_made dc_law_made pm_law_made cd_law_made ct_law_made oc_law_made kV_law_ends dc_law_ends pm_law_ends cd_law_ends ct_law_ends oc_law_ends kV_law_right dc_law_right pm_law_right cd_law_right ct_law_right oc_law_right kV_law dc_law pm_law cd_law ct_law oc_law : Value} {od_Leaf_init an_Leaf_init od_Leaf_name an_Leaf_name od_Leaf_width an_Leaf_width od_Leaf_len an_Leaf_len od_Leaf_contains an_Leaf_contains od_Leaf_eq an_Leaf_eq od_Leaf_names an_Leaf_names od_Leaf_passes an_Leaf_passes od_Leaf_nodes an_Leaf_nodes od_Leaf_mirror an_Leaf_mirror od_Leaf__low_ends an_Leaf__low_ends od_Group_init an_Group_init od_Group_ranks an_Group_ranks od_Group_parts an_Group_parts od_Group_intake an_Group_intake od_Group_width an_Group_width od_Group_len an_Group_len od_Group_contains an_Group_contains od_Group_eq an_Group_eq od_Group_getitem an_Group_getitem od_Group_iter an_Group_iter od_Group_names an_Group_names od_Group_passes an_Group_passes od_Group_nodes an_Group_nodes od_Group_mirror an_Group_mirror od_Group__low_ends an_Group__low_ends od_is_whole an_is_whole od_is_name an_is_name od_are_names an_are_names od_is_tree an_is_tree od_is_end an_is_end od_check_end an_check_end od_are_parts an_are_parts od_are_ranks an_are_ranks od_intake_of an_intake_of od_names_of an_names_of od_are_leaves an_are_leaves od_least_rank an_least_rank eD_least_rank od_greatest_rank an_greatest_rank eD_greatest_rank od_low_names an_low_names eD_low_names od_high_names an_high_names eD_high_names od_fewest an_fewest od_sums_by_place an_sums_by_place od_rank_span an_rank_span eD_rank_span od_order_at an_order_at eD_order_at od_up_to_turn an_up_to_turn od_law_well an_law_well od_law_dip an_law_dip od_law_words an_law_words od_law_ranks an_law_ranks od_law_width an_law_width od_law_group an_law_group od_law_tree an_law_tree od_law_made an_law_made od_law_ends an_law_ends od_law_right an_law_right od_law an_law : Option Addr} {sl_Leaf_init sl_Leaf_name sl_Leaf_width sl_Leaf_len sl_Leaf_contains sl_Leaf_eq sl_Leaf_names sl_Leaf_passes sl_Leaf_nodes sl_Leaf_mirror sl_Leaf__low_ends sl_Group_init sl_Group_ranks sl_Group_parts sl_Group_intake sl_Group_width sl_Group_len sl_Group_contains sl_Group_eq sl_Group_getitem sl_Group_iter sl_Group_names sl_Group_passes sl_Group_nodes sl_Group_mirror sl_Group__low_ends sl_is_whole sl_is_name sl_are_names sl_is_tree sl_is_end sl_check_end sl_are_parts sl_are_ranks sl_intake_of sl_names_of sl_are_leaves sl_least_rank sD_least_rank sl_greatest_rank sD_greatest_rank sl_low_names sD_low_names sl_high_names sD_high_names sl_fewest sl_sums_by_place sl_rank_span sD_rank_span sl_order_at sD_order_at sl_up_to_turn sl_law_well sl_law_dip sl_law_words sl_law_ranks sl_law_width sl_law_group sl_law_tree sl_law_made sl_law_ends sl_law_right sl_law : Array (Option Value)} {r_Leaf_name r_Leaf_width r_Group_ranks r_Group_parts r_Group_intake r_Group_width : List Value} {nD_least_rank nD_greatest_rank nD_low_names nD_high_names nD_rank_span nD_order_at : Nat} {kD0_least_rank kD0_greatest_rank kD0_low_names kD0_high_names kD0_rank_span kD0_order_at : Tok}
theorem all_mk {l : PySem.W.OpenLaw} {w : World} {fa : Addr} (X : K.In h) (G : h.Ns mainGlobals mg) (hfa : mg "law" = some (.ref fa))
    (z_len : PySem.W.nsIn K mainGlobals "len" = some none)
    (z_int : PySem.W.nsIn K mainGlobals "int" = some none)
    (z_range : PySem.W.nsIn K mainGlobals "range" = some none)
    (z_sum : PySem.W.nsIn K mainGlobals "sum" = some none)
    (z_all : PySem.W.nsIn K mainGlobals "all" = some none)
    (z_isinstance : PySem.W.nsIn K mainGlobals "isinstance" = some none)
    (z_sorted : PySem.W.nsIn K mainGlobals "sorted" = some none)
    (z_list : PySem.W.nsIn K mainGlobals "list" = some none)
    (z_set : PySem.W.nsIn K mainGlobals "set" = some none)
    (z_zip : PySem.W.nsIn K mainGlobals "zip" = some none)
    (z_bool : PySem.W.nsIn K mainGlobals "bool" = some none)
    (z_str : PySem.W.nsIn K mainGlobals "str" = some none)
    (z_min : PySem.W.nsIn K mainGlobals "min" = some none)
    (z_enumerate : PySem.W.nsIn K mainGlobals "enumerate" = some none)
    (z_TypeError : PySem.W.nsIn K mainGlobals "TypeError" = some none)
    (z_ValueError : PySem.W.nsIn K mainGlobals "ValueError" = some none)
    (g_RankError : PySem.W.nsIn K mainGlobals "RankError" = some (some (.ref a_RankError)))
    (g_InvalidName : PySem.W.nsIn K mainGlobals "InvalidName" = some (some (.ref a_InvalidName)))
    (g_InvalidNumber : PySem.W.nsIn K mainGlobals "InvalidNumber" = some (some (.ref a_InvalidNumber)))
    (g_InvalidTree : PySem.W.nsIn K mainGlobals "InvalidTree" = some (some (.ref a_InvalidTree)))
    (g_InvalidList : PySem.W.nsIn K mainGlobals "InvalidList" = some (some (.ref a_InvalidList)))
    (g_Tree : PySem.W.nsIn K mainGlobals "Tree" = some (some (.ref a_Tree)))
    (g_Leaf : PySem.W.nsIn K mainGlobals "Leaf" = some (some (.ref a_Leaf)))
    (g_Group : PySem.W.nsIn K mainGlobals "Group" = some (some (.ref a_Group)))
    (at_Leaf_init : PySem.W.findIn K (.ref a_Leaf) "__init__" = some (some (.ref f_Leaf_init)))
    (i_Leaf_init : PySem.W.isFn K (.ref f_Leaf_init) = true)
    (l_Leaf_init : K.lookup f_Leaf_init = some ⟨oc_Leaf_init, od_Leaf_init, .func (PySem.W.fnOf "__init__" "Leaf.__init__" (defArgs s_Leaf_init) (defBody s_Leaf_init) (defScope s_Leaf_init) .none kV_Leaf_init dc_Leaf_init pm_Leaf_init an_Leaf_init cd_Leaf_init ct_Leaf_init), sl_Leaf_init⟩)
    (c_Leaf_init : PySem.W.codeIn K cd_Leaf_init "Leaf.__init__" = true)
    (k_Leaf_init : PySem.W.keepIn K (.ref f_Leaf_init) = true)
    (at_Leaf_name : PySem.W.findIn K (.ref a_Leaf) "name" = some (some (.ref p_Leaf_name)))
    (gt_Leaf_name : PySem.W.specialIn K (.ref p_Leaf_name) "__get__" = some (some (.builtin "property.__get__")))
    (tk_Leaf_name : PySem.W.takesIn K (.ref p_Leaf_name) = some true)
    (rc_Leaf_name : PySem.W.recIn K p_Leaf_name "property" = some (.ref f_Leaf_name :: r_Leaf_name))
    (l_Leaf_name : K.lookup f_Leaf_name = some ⟨oc_Leaf_name, od_Leaf_name, .func (PySem.W.fnOf "name" "Leaf.name" (defArgs s_Leaf_name) (defBody s_Leaf_name) (defScope s_Leaf_name) .none kV_Leaf_name dc_Leaf_name pm_Leaf_name an_Leaf_name cd_Leaf_name ct_Leaf_name), sl_Leaf_name⟩)
    (c_Leaf_name : PySem.W.codeIn K cd_Leaf_name "Leaf.name" = true)
    (k_Leaf_name : PySem.W.keepIn K (.ref f_Leaf_name) = true)
    (at_Leaf_width : PySem.W.findIn K (.ref a_Leaf) "width" = some (some (.ref p_Leaf_width)))
    (gt_Leaf_width : PySem.W.specialIn K (.ref p_Leaf_width) "__get__" = some (some (.builtin "property.__get__")))
    (tk_Leaf_width : PySem.W.takesIn K (.ref p_Leaf_width) = some true)
    (rc_Leaf_width : PySem.W.recIn K p_Leaf_width "property" = some (.ref f_Leaf_width :: r_Leaf_width))
    (l_Leaf_width : K.lookup f_Leaf_width = some ⟨oc_Leaf_width, od_Leaf_width, .func (PySem.W.fnOf "width" "Leaf.width" (defArgs s_Leaf_width) (defBody s_Leaf_width) (defScope s_Leaf_width) .none kV_Leaf_width dc_Leaf_width pm_Leaf_width an_Leaf_width cd_Leaf_width ct_Leaf_width), sl_Leaf_width⟩)
    (c_Leaf_width : PySem.W.codeIn K cd_Leaf_width "Leaf.width" = true)
    (k_Leaf_width : PySem.W.keepIn K (.ref f_Leaf_width) = true)
    (at_Leaf_len : PySem.W.findIn K (.ref a_Leaf) "__len__" = some (some (.ref f_Leaf_len)))
    (i_Leaf_len : PySem.W.isFn K (.ref f_Leaf_len) = true)
    (l_Leaf_len : K.lookup f_Leaf_len = some ⟨oc_Leaf_len, od_Leaf_len, .func (PySem.W.fnOf "__len__" "Leaf.__len__" (defArgs s_Leaf_len) (defBody s_Leaf_len) (defScope s_Leaf_len) .none kV_Leaf_len dc_Leaf_len pm_Leaf_len an_Leaf_len cd_Leaf_len ct_Leaf_len), sl_Leaf_len⟩)
    (c_Leaf_len : PySem.W.codeIn K cd_Leaf_len "Leaf.__len__" = true)
    (k_Leaf_len : PySem.W.keepIn K (.ref f_Leaf_len) = true)
    (at_Leaf_contains : PySem.W.findIn K (.ref a_Leaf) "__contains__" = some (some (.ref f_Leaf_contains)))
    (i_Leaf_contains : PySem.W.isFn K (.ref f_Leaf_contains) = true)
    (l_Leaf_contains : K.lookup f_Leaf_contains = some ⟨oc_Leaf_contains, od_Leaf_contains, .func (PySem.W.fnOf "__contains__" "Leaf.__contains__" (defArgs s_Leaf_contains) (defBody s_Leaf_contains) (defScope s_Leaf_contains) .none kV_Leaf_contains dc_Leaf_contains pm_Leaf_contains an_Leaf_contains cd_Leaf_contains ct_Leaf_contains), sl_Leaf_contains⟩)
    (c_Leaf_contains : PySem.W.codeIn K cd_Leaf_contains "Leaf.__contains__" = true)
    (k_Leaf_contains : PySem.W.keepIn K (.ref f_Leaf_contains) = true)
    (at_Leaf_eq : PySem.W.findIn K (.ref a_Leaf) "__eq__" = some (some (.ref f_Leaf_eq)))
    (i_Leaf_eq : PySem.W.isFn K (.ref f_Leaf_eq) = true)
    (l_Leaf_eq : K.lookup f_Leaf_eq = some ⟨oc_Leaf_eq, od_Leaf_eq, .func (PySem.W.fnOf "__eq__" "Leaf.__eq__" (defArgs s_Leaf_eq) (defBody s_Leaf_eq) (defScope s_Leaf_eq) .none kV_Leaf_eq dc_Leaf_eq pm_Leaf_eq an_Leaf_eq cd_Leaf_eq ct_Leaf_eq), sl_Leaf_eq⟩)
    (c_Leaf_eq : PySem.W.codeIn K cd_Leaf_eq "Leaf.__eq__" = true)
    (k_Leaf_eq : PySem.W.keepIn K (.ref f_Leaf_eq) = true)
    (at_Leaf_names : PySem.W.findIn K (.ref a_Leaf) "names" = some (some (.ref f_Leaf_names)))
    (i_Leaf_names : PySem.W.isFn K (.ref f_Leaf_names) = true)
    (l_Leaf_names : K.lookup f_Leaf_names = some ⟨oc_Leaf_names, od_Leaf_names, .func (PySem.W.fnOf "names" "Leaf.names" (defArgs s_Leaf_names) (defBody s_Leaf_names) (defScope s_Leaf_names) .none kV_Leaf_names dc_Leaf_names pm_Leaf_names an_Leaf_names cd_Leaf_names ct_Leaf_names), sl_Leaf_names⟩)
    (c_Leaf_names : PySem.W.codeIn K cd_Leaf_names "Leaf.names" = true)
    (k_Leaf_names : PySem.W.keepIn K (.ref f_Leaf_names) = true)
    (at_Leaf_passes : PySem.W.findIn K (.ref a_Leaf) "passes" = some (some (.ref f_Leaf_passes)))
    (i_Leaf_passes : PySem.W.isFn K (.ref f_Leaf_passes) = true)
    (l_Leaf_passes : K.lookup f_Leaf_passes = some ⟨oc_Leaf_passes, od_Leaf_passes, .func (PySem.W.fnOf "passes" "Leaf.passes" (defArgs s_Leaf_passes) (defBody s_Leaf_passes) (defScope s_Leaf_passes) .none kV_Leaf_passes dc_Leaf_passes pm_Leaf_passes an_Leaf_passes cd_Leaf_passes ct_Leaf_passes), sl_Leaf_passes⟩)
    (c_Leaf_passes : PySem.W.codeIn K cd_Leaf_passes "Leaf.passes" = true)
    (k_Leaf_passes : PySem.W.keepIn K (.ref f_Leaf_passes) = true)
    (at_Leaf_nodes : PySem.W.findIn K (.ref a_Leaf) "nodes" = some (some (.ref f_Leaf_nodes)))
    (i_Leaf_nodes : PySem.W.isFn K (.ref f_Leaf_nodes) = true)
    (l_Leaf_nodes : K.lookup f_Leaf_nodes = some ⟨oc_Leaf_nodes, od_Leaf_nodes, .func (PySem.W.fnOf "nodes" "Leaf.nodes" (defArgs s_Leaf_nodes) (defBody s_Leaf_nodes) (defScope s_Leaf_nodes) .none kV_Leaf_nodes dc_Leaf_nodes pm_Leaf_nodes an_Leaf_nodes cd_Leaf_nodes ct_Leaf_nodes), sl_Leaf_nodes⟩)
    (c_Leaf_nodes : PySem.W.codeIn K cd_Leaf_nodes "Leaf.nodes" = true)
    (k_Leaf_nodes : PySem.W.keepIn K (.ref f_Leaf_nodes) = true)
    (at_Leaf_mirror : PySem.W.findIn K (.ref a_Leaf) "mirror" = some (some (.ref f_Leaf_mirror)))
    (i_Leaf_mirror : PySem.W.isFn K (.ref f_Leaf_mirror) = true)
    (l_Leaf_mirror : K.lookup f_Leaf_mirror = some ⟨oc_Leaf_mirror, od_Leaf_mirror, .func (PySem.W.fnOf "mirror" "Leaf.mirror" (defArgs s_Leaf_mirror) (defBody s_Leaf_mirror) (defScope s_Leaf_mirror) .none kV_Leaf_mirror dc_Leaf_mirror pm_Leaf_mirror an_Leaf_mirror cd_Leaf_mirror ct_Leaf_mirror), sl_Leaf_mirror⟩)
    (c_Leaf_mirror : PySem.W.codeIn K cd_Leaf_mirror "Leaf.mirror" = true)
    (k_Leaf_mirror : PySem.W.keepIn K (.ref f_Leaf_mirror) = true)
    (at_Leaf__low_ends : PySem.W.findIn K (.ref a_Leaf) "_low_ends" = some (some (.ref f_Leaf__low_ends)))
    (i_Leaf__low_ends : PySem.W.isFn K (.ref f_Leaf__low_ends) = true)
    (l_Leaf__low_ends : K.lookup f_Leaf__low_ends = some ⟨oc_Leaf__low_ends, od_Leaf__low_ends, .func (PySem.W.fnOf "_low_ends" "Leaf._low_ends" (defArgs s_Leaf__low_ends) (defBody s_Leaf__low_ends) (defScope s_Leaf__low_ends) .none kV_Leaf__low_ends dc_Leaf__low_ends pm_Leaf__low_ends an_Leaf__low_ends cd_Leaf__low_ends ct_Leaf__low_ends), sl_Leaf__low_ends⟩)
    (c_Leaf__low_ends : PySem.W.codeIn K cd_Leaf__low_ends "Leaf._low_ends" = true)
    (k_Leaf__low_ends : PySem.W.keepIn K (.ref f_Leaf__low_ends) = true)
    (pg_Leaf : PySem.W.plainGet K a_Leaf Str.empty = true)
    (hd_Leaf : PySem.W.hasDictIn K a_Leaf = true)
    (po_Leaf : PySem.W.plainOver K a_Leaf = true)
    (sa_Leaf : PySem.W.findIn K (.ref a_Leaf) "__setattr__" = some (some (.builtin "object.__setattr__")))
    (mk_Leaf : PySem.W.makesIn K a_Leaf = true)
    (kc_Leaf : PySem.W.keepIn K (.ref a_Leaf) = true)
    (ca_Leaf : PySem.W.findIn K (.ref a_Leaf) "__class__" = some (some (.builtin "object.__class__")))
    (mo_Leaf : PySem.W.mroIn K a_Leaf (.type "object") = some true)
    (ne_Leaf : PySem.W.findIn K (.ref a_Leaf) "__ne__" = some (some (.builtin "object.__ne__")))
    (n_Leaf_name : PySem.W.findIn K (.ref a_Leaf) "_name" = some none)
    (at_Group_init : PySem.W.findIn K (.ref a_Group) "__init__" = some (some (.ref f_Group_init)))
    (i_Group_init : PySem.W.isFn K (.ref f_Group_init) = true)
    (l_Group_init : K.lookup f_Group_init = some ⟨oc_Group_init, od_Group_init, .func (PySem.W.fnOf "__init__" "Group.__init__" (defArgs s_Group_init) (defBody s_Group_init) (defScope s_Group_init) .none kV_Group_init dc_Group_init pm_Group_init an_Group_init cd_Group_init ct_Group_init), sl_Group_init⟩)
    (c_Group_init : PySem.W.codeIn K cd_Group_init "Group.__init__" = true)
    (k_Group_init : PySem.W.keepIn K (.ref f_Group_init) = true)
    (at_Group_ranks : PySem.W.findIn K (.ref a_Group) "ranks" = some (some (.ref p_Group_ranks)))
    (gt_Group_ranks : PySem.W.specialIn K (.ref p_Group_ranks) "__get__" = some (some (.builtin "property.__get__")))
    (tk_Group_ranks : PySem.W.takesIn K (.ref p_Group_ranks) = some true)
    (rc_Group_ranks : PySem.W.recIn K p_Group_ranks "property" = some (.ref f_Group_ranks :: r_Group_ranks))
    (l_Group_ranks : K.lookup f_Group_ranks = some ⟨oc_Group_ranks, od_Group_ranks, .func (PySem.W.fnOf "ranks" "Group.ranks" (defArgs s_Group_ranks) (defBody s_Group_ranks) (defScope s_Group_ranks) .none kV_Group_ranks dc_Group_ranks pm_Group_ranks an_Group_ranks cd_Group_ranks ct_Group_ranks), sl_Group_ranks⟩)
    (c_Group_ranks : PySem.W.codeIn K cd_Group_ranks "Group.ranks" = true)
    (k_Group_ranks : PySem.W.keepIn K (.ref f_Group_ranks) = true)
    (at_Group_parts : PySem.W.findIn K (.ref a_Group) "parts" = some (some (.ref p_Group_parts)))
    (gt_Group_parts : PySem.W.specialIn K (.ref p_Group_parts) "__get__" = some (some (.builtin "property.__get__")))
    (tk_Group_parts : PySem.W.takesIn K (.ref p_Group_parts) = some true)
    (rc_Group_parts : PySem.W.recIn K p_Group_parts "property" = some (.ref f_Group_parts :: r_Group_parts))
    (l_Group_parts : K.lookup f_Group_parts = some ⟨oc_Group_parts, od_Group_parts, .func (PySem.W.fnOf "parts" "Group.parts" (defArgs s_Group_parts) (defBody s_Group_parts) (defScope s_Group_parts) .none kV_Group_parts dc_Group_parts pm_Group_parts an_Group_parts cd_Group_parts ct_Group_parts), sl_Group_parts⟩)
    (c_Group_parts : PySem.W.codeIn K cd_Group_parts "Group.parts" = true)
    (k_Group_parts : PySem.W.keepIn K (.ref f_Group_parts) = true)
    (at_Group_intake : PySem.W.findIn K (.ref a_Group) "intake" = some (some (.ref p_Group_intake)))
    (gt_Group_intake : PySem.W.specialIn K (.ref p_Group_intake) "__get__" = some (some (.builtin "property.__get__")))
    (tk_Group_intake : PySem.W.takesIn K (.ref p_Group_intake) = some true)
    (rc_Group_intake : PySem.W.recIn K p_Group_intake "property" = some (.ref f_Group_intake :: r_Group_intake))
    (l_Group_intake : K.lookup f_Group_intake = some ⟨oc_Group_intake, od_Group_intake, .func (PySem.W.fnOf "intake" "Group.intake" (defArgs s_Group_intake) (defBody s_Group_intake) (defScope s_Group_intake) .none kV_Group_intake dc_Group_intake pm_Group_intake an_Group_intake cd_Group_intake ct_Group_intake), sl_Group_intake⟩)
    (c_Group_intake : PySem.W.codeIn K cd_Group_intake "Group.intake" = true)
    (k_Group_intake : PySem.W.keepIn K (.ref f_Group_intake) = true)
    (at_Group_width : PySem.W.findIn K (.ref a_Group) "width" = some (some (.ref p_Group_width)))
    (gt_Group_width : PySem.W.specialIn K (.ref p_Group_width) "__get__" = some (some (.builtin "property.__get__")))
    (tk_Group_width : PySem.W.takesIn K (.ref p_Group_width) = some true)
    (rc_Group_width : PySem.W.recIn K p_Group_width "property" = some (.ref f_Group_width :: r_Group_width))
    (l_Group_width : K.lookup f_Group_width = some ⟨oc_Group_width, od_Group_width, .func (PySem.W.fnOf "width" "Group.width" (defArgs s_Group_width) (defBody s_Group_width) (defScope s_Group_width) .none kV_Group_width dc_Group_width pm_Group_width an_Group_width cd_Group_width ct_Group_width), sl_Group_width⟩)
    (c_Group_width : PySem.W.codeIn K cd_Group_width "Group.width" = true)
    (k_Group_width : PySem.W.keepIn K (.ref f_Group_width) = true)
    (at_Group_len : PySem.W.findIn K (.ref a_Group) "__len__" = some (some (.ref f_Group_len)))
    (i_Group_len : PySem.W.isFn K (.ref f_Group_len) = true)
    (l_Group_len : K.lookup f_Group_len = some ⟨oc_Group_len, od_Group_len, .func (PySem.W.fnOf "__len__" "Group.__len__" (defArgs s_Group_len) (defBody s_Group_len) (defScope s_Group_len) .none kV_Group_len dc_Group_len pm_Group_len an_Group_len cd_Group_len ct_Group_len), sl_Group_len⟩)
    (c_Group_len : PySem.W.codeIn K cd_Group_len "Group.__len__" = true)
    (k_Group_len : PySem.W.keepIn K (.ref f_Group_len) = true)
    (at_Group_contains : PySem.W.findIn K (.ref a_Group) "__contains__" = some (some (.ref f_Group_contains)))
    (i_Group_contains : PySem.W.isFn K (.ref f_Group_contains) = true)
    (l_Group_contains : K.lookup f_Group_contains = some ⟨oc_Group_contains, od_Group_contains, .func (PySem.W.fnOf "__contains__" "Group.__contains__" (defArgs s_Group_contains) (defBody s_Group_contains) (defScope s_Group_contains) .none kV_Group_contains dc_Group_contains pm_Group_contains an_Group_contains cd_Group_contains ct_Group_contains), sl_Group_contains⟩)
    (c_Group_contains : PySem.W.codeIn K cd_Group_contains "Group.__contains__" = true)
    (k_Group_contains : PySem.W.keepIn K (.ref f_Group_contains) = true)
    (at_Group_eq : PySem.W.findIn K (.ref a_Group) "__eq__" = some (some (.ref f_Group_eq)))
    (i_Group_eq : PySem.W.isFn K (.ref f_Group_eq) = true)
    (l_Group_eq : K.lookup f_Group_eq = some ⟨oc_Group_eq, od_Group_eq, .func (PySem.W.fnOf "__eq__" "Group.__eq__" (defArgs s_Group_eq) (defBody s_Group_eq) (defScope s_Group_eq) .none kV_Group_eq dc_Group_eq pm_Group_eq an_Group_eq cd_Group_eq ct_Group_eq), sl_Group_eq⟩)
    (c_Group_eq : PySem.W.codeIn K cd_Group_eq "Group.__eq__" = true)
    (k_Group_eq : PySem.W.keepIn K (.ref f_Group_eq) = true)
    (at_Group_getitem : PySem.W.findIn K (.ref a_Group) "__getitem__" = some (some (.ref f_Group_getitem)))
    (i_Group_getitem : PySem.W.isFn K (.ref f_Group_getitem) = true)
    (l_Group_getitem : K.lookup f_Group_getitem = some ⟨oc_Group_getitem, od_Group_getitem, .func (PySem.W.fnOf "__getitem__" "Group.__getitem__" (defArgs s_Group_getitem) (defBody s_Group_getitem) (defScope s_Group_getitem) .none kV_Group_getitem dc_Group_getitem pm_Group_getitem an_Group_getitem cd_Group_getitem ct_Group_getitem), sl_Group_getitem⟩)
    (c_Group_getitem : PySem.W.codeIn K cd_Group_getitem "Group.__getitem__" = true)
    (k_Group_getitem : PySem.W.keepIn K (.ref f_Group_getitem) = true)
    (at_Group_iter : PySem.W.findIn K (.ref a_Group) "__iter__" = some (some (.ref f_Group_iter)))
    (i_Group_iter : PySem.W.isFn K (.ref f_Group_iter) = true)
    (l_Group_iter : K.lookup f_Group_iter = some ⟨oc_Group_iter, od_Group_iter, .func (PySem.W.fnOf "__iter__" "Group.__iter__" (defArgs s_Group_iter) (defBody s_Group_iter) (defScope s_Group_iter) .none kV_Group_iter dc_Group_iter pm_Group_iter an_Group_iter cd_Group_iter ct_Group_iter), sl_Group_iter⟩)
    (c_Group_iter : PySem.W.codeIn K cd_Group_iter "Group.__iter__" = true)
    (k_Group_iter : PySem.W.keepIn K (.ref f_Group_iter) = true)
    (at_Group_names : PySem.W.findIn K (.ref a_Group) "names" = some (some (.ref f_Group_names)))
    (i_Group_names : PySem.W.isFn K (.ref f_Group_names) = true)
    (l_Group_names : K.lookup f_Group_names = some ⟨oc_Group_names, od_Group_names, .func (PySem.W.fnOf "names" "Group.names" (defArgs s_Group_names) (defBody s_Group_names) (defScope s_Group_names) .none kV_Group_names dc_Group_names pm_Group_names an_Group_names cd_Group_names ct_Group_names), sl_Group_names⟩)
    (c_Group_names : PySem.W.codeIn K cd_Group_names "Group.names" = true)
    (k_Group_names : PySem.W.keepIn K (.ref f_Group_names) = true)
    (at_Group_passes : PySem.W.findIn K (.ref a_Group) "passes" = some (some (.ref f_Group_passes)))
    (i_Group_passes : PySem.W.isFn K (.ref f_Group_passes) = true)
    (l_Group_passes : K.lookup f_Group_passes = some ⟨oc_Group_passes, od_Group_passes, .func (PySem.W.fnOf "passes" "Group.passes" (defArgs s_Group_passes) (defBody s_Group_passes) (defScope s_Group_passes) .none kV_Group_passes dc_Group_passes pm_Group_passes an_Group_passes cd_Group_passes ct_Group_passes), sl_Group_passes⟩)
    (c_Group_passes : PySem.W.codeIn K cd_Group_passes "Group.passes" = true)
    (k_Group_passes : PySem.W.keepIn K (.ref f_Group_passes) = true)
    (at_Group_nodes : PySem.W.findIn K (.ref a_Group) "nodes" = some (some (.ref f_Group_nodes)))
    (i_Group_nodes : PySem.W.isFn K (.ref f_Group_nodes) = true)
    (l_Group_nodes : K.lookup f_Group_nodes = some ⟨oc_Group_nodes, od_Group_nodes, .func (PySem.W.fnOf "nodes" "Group.nodes" (defArgs s_Group_nodes) (defBody s_Group_nodes) (defScope s_Group_nodes) .none kV_Group_nodes dc_Group_nodes pm_Group_nodes an_Group_nodes cd_Group_nodes ct_Group_nodes), sl_Group_nodes⟩)
    (c_Group_nodes : PySem.W.codeIn K cd_Group_nodes "Group.nodes" = true)
    (k_Group_nodes : PySem.W.keepIn K (.ref f_Group_nodes) = true)
    (at_Group_mirror : PySem.W.findIn K (.ref a_Group) "mirror" = some (some (.ref f_Group_mirror)))
    (i_Group_mirror : PySem.W.isFn K (.ref f_Group_mirror) = true)
    (l_Group_mirror : K.lookup f_Group_mirror = some ⟨oc_Group_mirror, od_Group_mirror, .func (PySem.W.fnOf "mirror" "Group.mirror" (defArgs s_Group_mirror) (defBody s_Group_mirror) (defScope s_Group_mirror) .none kV_Group_mirror dc_Group_mirror pm_Group_mirror an_Group_mirror cd_Group_mirror ct_Group_mirror), sl_Group_mirror⟩)
    (c_Group_mirror : PySem.W.codeIn K cd_Group_mirror "Group.mirror" = true)
    (k_Group_mirror : PySem.W.keepIn K (.ref f_Group_mirror) = true)
    (at_Group__low_ends : PySem.W.findIn K (.ref a_Group) "_low_ends" = some (some (.ref f_Group__low_ends)))
    (i_Group__low_ends : PySem.W.isFn K (.ref f_Group__low_ends) = true)
    (l_Group__low_ends : K.lookup f_Group__low_ends = some ⟨oc_Group__low_ends, od_Group__low_ends, .func (PySem.W.fnOf "_low_ends" "Group._low_ends" (defArgs s_Group__low_ends) (defBody s_Group__low_ends) (defScope s_Group__low_ends) .none kV_Group__low_ends dc_Group__low_ends pm_Group__low_ends an_Group__low_ends cd_Group__low_ends ct_Group__low_ends), sl_Group__low_ends⟩)
    (c_Group__low_ends : PySem.W.codeIn K cd_Group__low_ends "Group._low_ends" = true)
    (k_Group__low_ends : PySem.W.keepIn K (.ref f_Group__low_ends) = true)
    (pg_Group : PySem.W.plainGet K a_Group Str.empty = true)
    (hd_Group : PySem.W.hasDictIn K a_Group = true)
    (po_Group : PySem.W.plainOver K a_Group = true)
    (sa_Group : PySem.W.findIn K (.ref a_Group) "__setattr__" = some (some (.builtin "object.__setattr__")))
    (mk_Group : PySem.W.makesIn K a_Group = true)
    (kc_Group : PySem.W.keepIn K (.ref a_Group) = true)
    (ca_Group : PySem.W.findIn K (.ref a_Group) "__class__" = some (some (.builtin "object.__class__")))
    (mo_Group : PySem.W.mroIn K a_Group (.type "object") = some true)
    (ne_Group : PySem.W.findIn K (.ref a_Group) "__ne__" = some (some (.builtin "object.__ne__")))
    (n_Group_intake : PySem.W.findIn K (.ref a_Group) "_intake" = some none)
    (n_Group_names : PySem.W.findIn K (.ref a_Group) "_names" = some none)
    (n_Group_parts : PySem.W.findIn K (.ref a_Group) "_parts" = some none)
    (n_Group_ranks : PySem.W.findIn K (.ref a_Group) "_ranks" = some none)
    (gc : PySem.W.specialIn K (.builtin "object.__class__") "__get__" = some (some (.builtin "getset_descriptor.__get__")))
    (tc : PySem.W.takesIn K (.builtin "object.__class__") = some true)
    (q_Group : PySem.W.noSeq K a_Group = true)
    (ic_Leaf : PySem.W.isClsIn K a_Leaf = true)
    (it_Leaf : PySem.W.typeIn K (.ref a_Leaf) = some (.type "type"))
    (ic_Group : PySem.W.isClsIn K a_Group = true)
    (it_Group : PySem.W.typeIn K (.ref a_Group) = some (.type "type"))
    (dx_Leaf_Group : a_Leaf ≠ a_Group)
    (is_Leaf_Group : PySem.W.subIn K (.ref a_Leaf) (.ref a_Group) = some false)
    (is_Leaf_list : PySem.W.subIn K (.ref a_Leaf) (.type "list") = some false)
    (is_Leaf_int : PySem.W.subIn K (.ref a_Leaf) (.type "int") = some false)
    (is_Leaf_bool : PySem.W.subIn K (.ref a_Leaf) (.type "bool") = some false)
    (is_Leaf_str : PySem.W.subIn K (.ref a_Leaf) (.type "str") = some false)
    (dx_Group_Leaf : a_Group ≠ a_Leaf)
    (is_Group_Leaf : PySem.W.subIn K (.ref a_Group) (.ref a_Leaf) = some false)
    (is_Group_list : PySem.W.subIn K (.ref a_Group) (.type "list") = some false)
    (is_Group_int : PySem.W.subIn K (.ref a_Group) (.type "int") = some false)
    (is_Group_bool : PySem.W.subIn K (.ref a_Group) (.type "bool") = some false)
    (is_Group_str : PySem.W.subIn K (.ref a_Group) (.type "str") = some false)
    (g_is_whole : PySem.W.nsIn K mainGlobals "is_whole" = some (some (.ref f_is_whole)))
    (l_is_whole : K.lookup f_is_whole = some ⟨oc_is_whole, od_is_whole, .func (PySem.W.fnOf "is_whole" "is_whole" (defArgs s_is_whole) (defBody s_is_whole) (defScope s_is_whole) .none kV_is_whole dc_is_whole pm_is_whole an_is_whole cd_is_whole ct_is_whole), sl_is_whole⟩)
    (c_is_whole : PySem.W.codeIn K cd_is_whole "is_whole" = true)
    (k_is_whole : PySem.W.keepIn K (.ref f_is_whole) = true)
    (g_is_name : PySem.W.nsIn K mainGlobals "is_name" = some (some (.ref f_is_name)))
    (l_is_name : K.lookup f_is_name = some ⟨oc_is_name, od_is_name, .func (PySem.W.fnOf "is_name" "is_name" (defArgs s_is_name) (defBody s_is_name) (defScope s_is_name) .none kV_is_name dc_is_name pm_is_name an_is_name cd_is_name ct_is_name), sl_is_name⟩)
    (c_is_name : PySem.W.codeIn K cd_is_name "is_name" = true)
    (k_is_name : PySem.W.keepIn K (.ref f_is_name) = true)
    (g_are_names : PySem.W.nsIn K mainGlobals "are_names" = some (some (.ref f_are_names)))
    (l_are_names : K.lookup f_are_names = some ⟨oc_are_names, od_are_names, .func (PySem.W.fnOf "are_names" "are_names" (defArgs s_are_names) (defBody s_are_names) (defScope s_are_names) .none kV_are_names dc_are_names pm_are_names an_are_names cd_are_names ct_are_names), sl_are_names⟩)
    (c_are_names : PySem.W.codeIn K cd_are_names "are_names" = true)
    (k_are_names : PySem.W.keepIn K (.ref f_are_names) = true)
    (g_is_tree : PySem.W.nsIn K mainGlobals "is_tree" = some (some (.ref f_is_tree)))
    (l_is_tree : K.lookup f_is_tree = some ⟨oc_is_tree, od_is_tree, .func (PySem.W.fnOf "is_tree" "is_tree" (defArgs s_is_tree) (defBody s_is_tree) (defScope s_is_tree) .none kV_is_tree dc_is_tree pm_is_tree an_is_tree cd_is_tree ct_is_tree), sl_is_tree⟩)
    (c_is_tree : PySem.W.codeIn K cd_is_tree "is_tree" = true)
    (k_is_tree : PySem.W.keepIn K (.ref f_is_tree) = true)
    (g_is_end : PySem.W.nsIn K mainGlobals "is_end" = some (some (.ref f_is_end)))
    (l_is_end : K.lookup f_is_end = some ⟨oc_is_end, od_is_end, .func (PySem.W.fnOf "is_end" "is_end" (defArgs s_is_end) (defBody s_is_end) (defScope s_is_end) .none kV_is_end dc_is_end pm_is_end an_is_end cd_is_end ct_is_end), sl_is_end⟩)
    (c_is_end : PySem.W.codeIn K cd_is_end "is_end" = true)
    (k_is_end : PySem.W.keepIn K (.ref f_is_end) = true)
    (g_check_end : PySem.W.nsIn K mainGlobals "check_end" = some (some (.ref f_check_end)))
    (l_check_end : K.lookup f_check_end = some ⟨oc_check_end, od_check_end, .func (PySem.W.fnOf "check_end" "check_end" (defArgs s_check_end) (defBody s_check_end) (defScope s_check_end) .none kV_check_end dc_check_end pm_check_end an_check_end cd_check_end ct_check_end), sl_check_end⟩)
    (c_check_end : PySem.W.codeIn K cd_check_end "check_end" = true)
    (k_check_end : PySem.W.keepIn K (.ref f_check_end) = true)
    (g_are_parts : PySem.W.nsIn K mainGlobals "_are_parts" = some (some (.ref f_are_parts)))
    (l_are_parts : K.lookup f_are_parts = some ⟨oc_are_parts, od_are_parts, .func (PySem.W.fnOf "_are_parts" "_are_parts" (defArgs s_are_parts) (defBody s_are_parts) (defScope s_are_parts) .none kV_are_parts dc_are_parts pm_are_parts an_are_parts cd_are_parts ct_are_parts), sl_are_parts⟩)
    (c_are_parts : PySem.W.codeIn K cd_are_parts "_are_parts" = true)
    (k_are_parts : PySem.W.keepIn K (.ref f_are_parts) = true)
    (g_are_ranks : PySem.W.nsIn K mainGlobals "_are_ranks" = some (some (.ref f_are_ranks)))
    (l_are_ranks : K.lookup f_are_ranks = some ⟨oc_are_ranks, od_are_ranks, .func (PySem.W.fnOf "_are_ranks" "_are_ranks" (defArgs s_are_ranks) (defBody s_are_ranks) (defScope s_are_ranks) .none kV_are_ranks dc_are_ranks pm_are_ranks an_are_ranks cd_are_ranks ct_are_ranks), sl_are_ranks⟩)
    (c_are_ranks : PySem.W.codeIn K cd_are_ranks "_are_ranks" = true)
    (k_are_ranks : PySem.W.keepIn K (.ref f_are_ranks) = true)
    (g_intake_of : PySem.W.nsIn K mainGlobals "_intake_of" = some (some (.ref f_intake_of)))
    (l_intake_of : K.lookup f_intake_of = some ⟨oc_intake_of, od_intake_of, .func (PySem.W.fnOf "_intake_of" "_intake_of" (defArgs s_intake_of) (defBody s_intake_of) (defScope s_intake_of) .none kV_intake_of dc_intake_of pm_intake_of an_intake_of cd_intake_of ct_intake_of), sl_intake_of⟩)
    (c_intake_of : PySem.W.codeIn K cd_intake_of "_intake_of" = true)
    (k_intake_of : PySem.W.keepIn K (.ref f_intake_of) = true)
    (g_names_of : PySem.W.nsIn K mainGlobals "_names_of" = some (some (.ref f_names_of)))
    (l_names_of : K.lookup f_names_of = some ⟨oc_names_of, od_names_of, .func (PySem.W.fnOf "_names_of" "_names_of" (defArgs s_names_of) (defBody s_names_of) (defScope s_names_of) .none kV_names_of dc_names_of pm_names_of an_names_of cd_names_of ct_names_of), sl_names_of⟩)
    (c_names_of : PySem.W.codeIn K cd_names_of "_names_of" = true)
    (k_names_of : PySem.W.keepIn K (.ref f_names_of) = true)
    (g_are_leaves : PySem.W.nsIn K mainGlobals "_are_leaves" = some (some (.ref f_are_leaves)))
    (l_are_leaves : K.lookup f_are_leaves = some ⟨oc_are_leaves, od_are_leaves, .func (PySem.W.fnOf "_are_leaves" "_are_leaves" (defArgs s_are_leaves) (defBody s_are_leaves) (defScope s_are_leaves) .none kV_are_leaves dc_are_leaves pm_are_leaves an_are_leaves cd_are_leaves ct_are_leaves), sl_are_leaves⟩)
    (c_are_leaves : PySem.W.codeIn K cd_are_leaves "_are_leaves" = true)
    (k_are_leaves : PySem.W.keepIn K (.ref f_are_leaves) = true)
    (g_least_rank : PySem.W.nsIn K mainGlobals "least_rank" = some (some (.ref f_least_rank)))
    (l_least_rank : K.lookup f_least_rank = some ⟨oc_least_rank, od_least_rank, .func (PySem.W.fnOf "least_rank" "least_rank" (defArgs s_least_rank) (defBody s_least_rank) (defScope s_least_rank) (.ref tD_least_rank) kV_least_rank dc_least_rank pm_least_rank an_least_rank cd_least_rank ct_least_rank), sl_least_rank⟩)
    (c_least_rank : PySem.W.codeIn K cd_least_rank "least_rank" = true)
    (k_least_rank : PySem.W.keepIn K (.ref f_least_rank) = true)
    (dl_least_rank : K.lookup tD_least_rank = some ⟨oD_least_rank, eD_least_rank, .seq #[(.int 1 kD0_least_rank)] nD_least_rank, sD_least_rank⟩)
    (g_greatest_rank : PySem.W.nsIn K mainGlobals "greatest_rank" = some (some (.ref f_greatest_rank)))
    (l_greatest_rank : K.lookup f_greatest_rank = some ⟨oc_greatest_rank, od_greatest_rank, .func (PySem.W.fnOf "greatest_rank" "greatest_rank" (defArgs s_greatest_rank) (defBody s_greatest_rank) (defScope s_greatest_rank) (.ref tD_greatest_rank) kV_greatest_rank dc_greatest_rank pm_greatest_rank an_greatest_rank cd_greatest_rank ct_greatest_rank), sl_greatest_rank⟩)
    (c_greatest_rank : PySem.W.codeIn K cd_greatest_rank "greatest_rank" = true)
    (k_greatest_rank : PySem.W.keepIn K (.ref f_greatest_rank) = true)
    (dl_greatest_rank : K.lookup tD_greatest_rank = some ⟨oD_greatest_rank, eD_greatest_rank, .seq #[(.int 1 kD0_greatest_rank)] nD_greatest_rank, sD_greatest_rank⟩)
    (g_low_names : PySem.W.nsIn K mainGlobals "low_names" = some (some (.ref f_low_names)))
    (l_low_names : K.lookup f_low_names = some ⟨oc_low_names, od_low_names, .func (PySem.W.fnOf "low_names" "low_names" (defArgs s_low_names) (defBody s_low_names) (defScope s_low_names) (.ref tD_low_names) kV_low_names dc_low_names pm_low_names an_low_names cd_low_names ct_low_names), sl_low_names⟩)
    (c_low_names : PySem.W.codeIn K cd_low_names "low_names" = true)
    (k_low_names : PySem.W.keepIn K (.ref f_low_names) = true)
    (dl_low_names : K.lookup tD_low_names = some ⟨oD_low_names, eD_low_names, .seq #[(.int 1 kD0_low_names)] nD_low_names, sD_low_names⟩)
    (g_high_names : PySem.W.nsIn K mainGlobals "high_names" = some (some (.ref f_high_names)))
    (l_high_names : K.lookup f_high_names = some ⟨oc_high_names, od_high_names, .func (PySem.W.fnOf "high_names" "high_names" (defArgs s_high_names) (defBody s_high_names) (defScope s_high_names) (.ref tD_high_names) kV_high_names dc_high_names pm_high_names an_high_names cd_high_names ct_high_names), sl_high_names⟩)
    (c_high_names : PySem.W.codeIn K cd_high_names "high_names" = true)
    (k_high_names : PySem.W.keepIn K (.ref f_high_names) = true)
    (dl_high_names : K.lookup tD_high_names = some ⟨oD_high_names, eD_high_names, .seq #[(.int 1 kD0_high_names)] nD_high_names, sD_high_names⟩)
    (g_fewest : PySem.W.nsIn K mainGlobals "_fewest" = some (some (.ref f_fewest)))
    (l_fewest : K.lookup f_fewest = some ⟨oc_fewest, od_fewest, .func (PySem.W.fnOf "_fewest" "_fewest" (defArgs s_fewest) (defBody s_fewest) (defScope s_fewest) .none kV_fewest dc_fewest pm_fewest an_fewest cd_fewest ct_fewest), sl_fewest⟩)
    (c_fewest : PySem.W.codeIn K cd_fewest "_fewest" = true)
    (k_fewest : PySem.W.keepIn K (.ref f_fewest) = true)
    (g_sums_by_place : PySem.W.nsIn K mainGlobals "_sums_by_place" = some (some (.ref f_sums_by_place)))
    (l_sums_by_place : K.lookup f_sums_by_place = some ⟨oc_sums_by_place, od_sums_by_place, .func (PySem.W.fnOf "_sums_by_place" "_sums_by_place" (defArgs s_sums_by_place) (defBody s_sums_by_place) (defScope s_sums_by_place) .none kV_sums_by_place dc_sums_by_place pm_sums_by_place an_sums_by_place cd_sums_by_place ct_sums_by_place), sl_sums_by_place⟩)
    (c_sums_by_place : PySem.W.codeIn K cd_sums_by_place "_sums_by_place" = true)
    (k_sums_by_place : PySem.W.keepIn K (.ref f_sums_by_place) = true)
    (g_rank_span : PySem.W.nsIn K mainGlobals "rank_span" = some (some (.ref f_rank_span)))
    (l_rank_span : K.lookup f_rank_span = some ⟨oc_rank_span, od_rank_span, .func (PySem.W.fnOf "rank_span" "rank_span" (defArgs s_rank_span) (defBody s_rank_span) (defScope s_rank_span) (.ref tD_rank_span) kV_rank_span dc_rank_span pm_rank_span an_rank_span cd_rank_span ct_rank_span), sl_rank_span⟩)
    (c_rank_span : PySem.W.codeIn K cd_rank_span "rank_span" = true)
    (k_rank_span : PySem.W.keepIn K (.ref f_rank_span) = true)
    (dl_rank_span : K.lookup tD_rank_span = some ⟨oD_rank_span, eD_rank_span, .seq #[(.int 1 kD0_rank_span)] nD_rank_span, sD_rank_span⟩)
    (g_order_at : PySem.W.nsIn K mainGlobals "order_at" = some (some (.ref f_order_at)))
    (l_order_at : K.lookup f_order_at = some ⟨oc_order_at, od_order_at, .func (PySem.W.fnOf "order_at" "order_at" (defArgs s_order_at) (defBody s_order_at) (defScope s_order_at) (.ref tD_order_at) kV_order_at dc_order_at pm_order_at an_order_at cd_order_at ct_order_at), sl_order_at⟩)
    (c_order_at : PySem.W.codeIn K cd_order_at "order_at" = true)
    (k_order_at : PySem.W.keepIn K (.ref f_order_at) = true)
    (dl_order_at : K.lookup tD_order_at = some ⟨oD_order_at, eD_order_at, .seq #[(.int 1 kD0_order_at)] nD_order_at, sD_order_at⟩)
    (g_up_to_turn : PySem.W.nsIn K mainGlobals "_up_to_turn" = some (some (.ref f_up_to_turn)))
    (l_up_to_turn : K.lookup f_up_to_turn = some ⟨oc_up_to_turn, od_up_to_turn, .func (PySem.W.fnOf "_up_to_turn" "_up_to_turn" (defArgs s_up_to_turn) (defBody s_up_to_turn) (defScope s_up_to_turn) .none kV_up_to_turn dc_up_to_turn pm_up_to_turn an_up_to_turn cd_up_to_turn ct_up_to_turn), sl_up_to_turn⟩)
    (c_up_to_turn : PySem.W.codeIn K cd_up_to_turn "_up_to_turn" = true)
    (k_up_to_turn : PySem.W.keepIn K (.ref f_up_to_turn) = true)
    (g_law_well : PySem.W.nsIn K mainGlobals "_law_well" = some (some (.ref f_law_well)))
    (l_law_well : K.lookup f_law_well = some ⟨oc_law_well, od_law_well, .func (PySem.W.fnOf "_law_well" "_law_well" (defArgs s_law_well) (defBody s_law_well) (defScope s_law_well) .none kV_law_well dc_law_well pm_law_well an_law_well cd_law_well ct_law_well), sl_law_well⟩)
    (c_law_well : PySem.W.codeIn K cd_law_well "_law_well" = true)
    (k_law_well : PySem.W.keepIn K (.ref f_law_well) = true)
    (g_law_dip : PySem.W.nsIn K mainGlobals "_law_dip" = some (some (.ref f_law_dip)))
    (l_law_dip : K.lookup f_law_dip = some ⟨oc_law_dip, od_law_dip, .func (PySem.W.fnOf "_law_dip" "_law_dip" (defArgs s_law_dip) (defBody s_law_dip) (defScope s_law_dip) .none kV_law_dip dc_law_dip pm_law_dip an_law_dip cd_law_dip ct_law_dip), sl_law_dip⟩)
    (c_law_dip : PySem.W.codeIn K cd_law_dip "_law_dip" = true)
    (k_law_dip : PySem.W.keepIn K (.ref f_law_dip) = true)
    (g_law_words : PySem.W.nsIn K mainGlobals "_law_words" = some (some (.ref f_law_words)))
    (l_law_words : K.lookup f_law_words = some ⟨oc_law_words, od_law_words, .func (PySem.W.fnOf "_law_words" "_law_words" (defArgs s_law_words) (defBody s_law_words) (defScope s_law_words) .none kV_law_words dc_law_words pm_law_words an_law_words cd_law_words ct_law_words), sl_law_words⟩)
    (c_law_words : PySem.W.codeIn K cd_law_words "_law_words" = true)
    (k_law_words : PySem.W.keepIn K (.ref f_law_words) = true)
    (g_law_ranks : PySem.W.nsIn K mainGlobals "_law_ranks" = some (some (.ref f_law_ranks)))
    (l_law_ranks : K.lookup f_law_ranks = some ⟨oc_law_ranks, od_law_ranks, .func (PySem.W.fnOf "_law_ranks" "_law_ranks" (defArgs s_law_ranks) (defBody s_law_ranks) (defScope s_law_ranks) .none kV_law_ranks dc_law_ranks pm_law_ranks an_law_ranks cd_law_ranks ct_law_ranks), sl_law_ranks⟩)
    (c_law_ranks : PySem.W.codeIn K cd_law_ranks "_law_ranks" = true)
    (k_law_ranks : PySem.W.keepIn K (.ref f_law_ranks) = true)
    (g_law_width : PySem.W.nsIn K mainGlobals "_law_width" = some (some (.ref f_law_width)))
    (l_law_width : K.lookup f_law_width = some ⟨oc_law_width, od_law_width, .func (PySem.W.fnOf "_law_width" "_law_width" (defArgs s_law_width) (defBody s_law_width) (defScope s_law_width) .none kV_law_width dc_law_width pm_law_width an_law_width cd_law_width ct_law_width), sl_law_width⟩)
    (c_law_width : PySem.W.codeIn K cd_law_width "_law_width" = true)
    (k_law_width : PySem.W.keepIn K (.ref f_law_width) = true)
    (g_law_group : PySem.W.nsIn K mainGlobals "_law_group" = some (some (.ref f_law_group)))
    (l_law_group : K.lookup f_law_group = some ⟨oc_law_group, od_law_group, .func (PySem.W.fnOf "_law_group" "_law_group" (defArgs s_law_group) (defBody s_law_group) (defScope s_law_group) .none kV_law_group dc_law_group pm_law_group an_law_group cd_law_group ct_law_group), sl_law_group⟩)
    (c_law_group : PySem.W.codeIn K cd_law_group "_law_group" = true)
    (k_law_group : PySem.W.keepIn K (.ref f_law_group) = true)
    (g_law_tree : PySem.W.nsIn K mainGlobals "_law_tree" = some (some (.ref f_law_tree)))
    (l_law_tree : K.lookup f_law_tree = some ⟨oc_law_tree, od_law_tree, .func (PySem.W.fnOf "_law_tree" "_law_tree" (defArgs s_law_tree) (defBody s_law_tree) (defScope s_law_tree) .none kV_law_tree dc_law_tree pm_law_tree an_law_tree cd_law_tree ct_law_tree), sl_law_tree⟩)
    (c_law_tree : PySem.W.codeIn K cd_law_tree "_law_tree" = true)
    (k_law_tree : PySem.W.keepIn K (.ref f_law_tree) = true)
    (g_law_made : PySem.W.nsIn K mainGlobals "_law_made" = some (some (.ref f_law_made)))
    (l_law_made : K.lookup f_law_made = some ⟨oc_law_made, od_law_made, .func (PySem.W.fnOf "_law_made" "_law_made" (defArgs s_law_made) (defBody s_law_made) (defScope s_law_made) .none kV_law_made dc_law_made pm_law_made an_law_made cd_law_made ct_law_made), sl_law_made⟩)
    (c_law_made : PySem.W.codeIn K cd_law_made "_law_made" = true)
    (k_law_made : PySem.W.keepIn K (.ref f_law_made) = true)
    (g_law_ends : PySem.W.nsIn K mainGlobals "_law_ends" = some (some (.ref f_law_ends)))
    (l_law_ends : K.lookup f_law_ends = some ⟨oc_law_ends, od_law_ends, .func (PySem.W.fnOf "_law_ends" "_law_ends" (defArgs s_law_ends) (defBody s_law_ends) (defScope s_law_ends) .none kV_law_ends dc_law_ends pm_law_ends an_law_ends cd_law_ends ct_law_ends), sl_law_ends⟩)
    (c_law_ends : PySem.W.codeIn K cd_law_ends "_law_ends" = true)
    (k_law_ends : PySem.W.keepIn K (.ref f_law_ends) = true)
    (g_law_right : PySem.W.nsIn K mainGlobals "_law_right" = some (some (.ref f_law_right)))
    (l_law_right : K.lookup f_law_right = some ⟨oc_law_right, od_law_right, .func (PySem.W.fnOf "_law_right" "_law_right" (defArgs s_law_right) (defBody s_law_right) (defScope s_law_right) .none kV_law_right dc_law_right pm_law_right an_law_right cd_law_right ct_law_right), sl_law_right⟩)
    (c_law_right : PySem.W.codeIn K cd_law_right "_law_right" = true)
    (k_law_right : PySem.W.keepIn K (.ref f_law_right) = true)
    (g_law : PySem.W.nsIn K mainGlobals "law" = some (some (.ref f_law)))
    (l_law : K.lookup f_law = some ⟨oc_law, od_law, .func (PySem.W.fnOf "law" "law" (defArgs s_law) (defBody s_law) (defScope s_law) .none kV_law dc_law pm_law an_law cd_law ct_law), sl_law⟩)
    (c_law : PySem.W.codeIn K cd_law "law" = true)
    (k_law : PySem.W.keepIn K (.ref f_law) = true)
    : ∃ fd : FuncData, (∀ (s : Shared) (v : Value), BindsTo s fd ⟨[v], []⟩ [("script", v)]) ∧ ∀ base : Heap, K.In base → base.Ns mainGlobals mg → FnOk l.prog w K mg base CX0 20 fa fd ["script"] (spLaw K) := by
  cases hfa.symm.trans (PySem.W.mg_of X G g_law)
  exact ⟨_, fun s v => .of_eq rfl, fun base _ _ => ok_law (Txt.mk_ X G z_len z_int z_range z_sum z_all z_isinstance z_sorted z_list z_set z_zip z_bool z_str z_min z_enumerate z_TypeError z_ValueError g_RankError g_InvalidName g_InvalidNumber g_InvalidTree g_InvalidList g_Tree g_Leaf g_Group at_Leaf_init i_Leaf_init l_Leaf_init c_Leaf_init k_Leaf_init at_Leaf_name gt_Leaf_name tk_Leaf_name rc_Leaf_name l_Leaf_name c_Leaf_name k_Leaf_name at_Leaf_width gt_Leaf_width tk_Leaf_width rc_Leaf_width l_Leaf_width c_Leaf_width k_Leaf_width at_Leaf_len i_Leaf_len l_Leaf_len c_Leaf_len k_Leaf_len at_Leaf_contains i_Leaf_contains l_Leaf_contains c_Leaf_contains k_Leaf_contains at_Leaf_eq i_Leaf_eq l_Leaf_eq c_Leaf_eq k_Leaf_eq at_Leaf_names i_Leaf_names l_Leaf_names c_Leaf_names k_Leaf_names at_Leaf_passes i_Leaf_passes l_Leaf_passes c_Leaf_passes k_Leaf_passes at_Leaf_nodes i_Leaf_nodes l_Leaf_nodes c_Leaf_nodes k_Leaf_nodes at_Leaf_mirror i_Leaf_mirror l_Leaf_mirror c_Leaf_mirror k_Leaf_mirror at_Leaf__low_ends i_Leaf__low_ends l_Leaf__low_ends c_Leaf__low_ends k_Leaf__low_ends pg_Leaf hd_Leaf po_Leaf sa_Leaf mk_Leaf kc_Leaf ca_Leaf mo_Leaf ne_Leaf n_Leaf_name at_Group_init i_Group_init l_Group_init c_Group_init k_Group_init at_Group_ranks gt_Group_ranks tk_Group_ranks rc_Group_ranks l_Group_ranks c_Group_ranks k_Group_ranks at_Group_parts gt_Group_parts tk_Group_parts rc_Group_parts l_Group_parts c_Group_parts k_Group_parts at_Group_intake gt_Group_intake tk_Group_intake rc_Group_intake l_Group_intake c_Group_intake k_Group_intake at_Group_width gt_Group_width tk_Group_width rc_Group_width l_Group_width c_Group_width k_Group_width at_Group_len i_Group_len l_Group_len c_Group_len k_Group_len at_Group_contains i_Group_contains l_Group_contains c_Group_contains k_Group_contains at_Group_eq i_Group_eq l_Group_eq c_Group_eq k_Group_eq at_Group_getitem i_Group_getitem l_Group_getitem c_Group_getitem k_Group_getitem at_Group_iter i_Group_iter l_Group_iter c_Group_iter k_Group_iter at_Group_names i_Group_names l_Group_names c_Group_names k_Group_names at_Group_passes i_Group_passes l_Group_passes c_Group_passes k_Group_passes at_Group_nodes i_Group_nodes l_Group_nodes c_Group_nodes k_Group_nodes at_Group_mirror i_Group_mirror l_Group_mirror c_Group_mirror k_Group_mirror at_Group__low_ends i_Group__low_ends l_Group__low_ends c_Group__low_ends k_Group__low_ends pg_Group hd_Group po_Group sa_Group mk_Group kc_Group ca_Group mo_Group ne_Group n_Group_intake n_Group_names n_Group_parts n_Group_ranks gc tc q_Group ic_Leaf it_Leaf ic_Group it_Group dx_Leaf_Group is_Leaf_Group is_Leaf_list is_Leaf_int is_Leaf_bool is_Leaf_str dx_Group_Leaf is_Group_Leaf is_Group_list is_Group_int is_Group_bool is_Group_str g_is_whole l_is_whole c_is_whole k_is_whole g_is_name l_is_name c_is_name k_is_name g_are_names l_are_names c_are_names k_are_names g_is_tree l_is_tree c_is_tree k_is_tree g_is_end l_is_end c_is_end k_is_end g_check_end l_check_end c_check_end k_check_end g_are_parts l_are_parts c_are_parts k_are_parts g_are_ranks l_are_ranks c_are_ranks k_are_ranks g_intake_of l_intake_of c_intake_of k_intake_of g_names_of l_names_of c_names_of k_names_of g_are_leaves l_are_leaves c_are_leaves k_are_leaves g_least_rank l_least_rank c_least_rank k_least_rank dl_least_rank g_greatest_rank l_greatest_rank c_greatest_rank k_greatest_rank dl_greatest_rank g_low_names l_low_names c_low_names k_low_names dl_low_names g_high_names l_high_names c_high_names k_high_names dl_high_names g_fewest l_fewest c_fewest k_fewest g_sums_by_place l_sums_by_place c_sums_by_place k_sums_by_place g_rank_span l_rank_span c_rank_span k_rank_span dl_rank_span g_order_at l_order_at c_order_at k_order_at dl_order_at g_up_to_turn l_up_to_turn c_up_to_turn k_up_to_turn g_law_well l_law_well c_law_well k_law_well g_law_dip l_law_dip c_law_dip k_law_dip g_law_words l_law_words c_law_words k_law_words g_law_ranks l_law_ranks c_law_ranks k_law_ranks g_law_width l_law_width c_law_width k_law_width g_law_group l_law_group c_law_group k_law_group g_law_tree l_law_tree c_law_tree k_law_tree g_law_made l_law_made c_law_made k_law_made g_law_ends l_law_ends c_law_ends k_law_ends g_law_right l_law_right c_law_right k_law_right g_law l_law c_law k_law)⟩
end
end Rk
open PySem PySem.W PyProof.Rows
set_option maxRecDepth 100000 in
set_option maxHeartbeats 0 in
theorem PySem.Challenge.cw_rankpicks_k22_orders_for_ranks_holds : PySem.Challenge.rw_rankpicks_k22_orders_for_ranks.Holds := by
  w_on; o_law; k_head; (case hw => w_witness2)
  k_fill
  refine L2.walk_of (l := PySem.Challenge.rw_rankpicks_k22_orders_for_ranks) (n := 63) (k := 20) (x := "script") (CX := fun _ => L2.CX0) (sp := fun w => Rk.spLaw _) rfl (by decide) rfl ⟨rfl, by decide, by decide⟩ (fun w h Y => PySem.W.kIn_of Y) ?F (fun _ _ a ns hl _ hS => ⟨a, ns, rfl, hS, hl, fun _ => rfl⟩) fun _ _ _ _ _ z => z
  case F =>
    intro w mg fa h KX G hmg
    refine' Rk.all_mk KX G hmg ?z_len ?z_int ?z_range ?z_sum ?z_all ?z_isinstance ?z_sorted ?z_list ?z_set ?z_zip ?z_bool ?z_str ?z_min ?z_enumerate ?z_TypeError ?z_ValueError ?g_RankError ?g_InvalidName ?g_InvalidNumber ?g_InvalidTree ?g_InvalidList ?g_Tree ?g_Leaf ?g_Group ?at_Leaf_init ?i_Leaf_init ?l_Leaf_init ?c_Leaf_init ?k_Leaf_init ?at_Leaf_name ?gt_Leaf_name ?tk_Leaf_name ?rc_Leaf_name ?l_Leaf_name ?c_Leaf_name ?k_Leaf_name ?at_Leaf_width ?gt_Leaf_width ?tk_Leaf_width ?rc_Leaf_width ?l_Leaf_width ?c_Leaf_width ?k_Leaf_width ?at_Leaf_len ?i_Leaf_len ?l_Leaf_len ?c_Leaf_len ?k_Leaf_len ?at_Leaf_contains ?i_Leaf_contains ?l_Leaf_contains ?c_Leaf_contains ?k_Leaf_contains ?at_Leaf_eq ?i_Leaf_eq ?l_Leaf_eq ?c_Leaf_eq ?k_Leaf_eq ?at_Leaf_names ?i_Leaf_names ?l_Leaf_names ?c_Leaf_names ?k_Leaf_names ?at_Leaf_passes ?i_Leaf_passes ?l_Leaf_passes ?c_Leaf_passes ?k_Leaf_passes ?at_Leaf_nodes ?i_Leaf_nodes ?l_Leaf_nodes ?c_Leaf_nodes ?k_Leaf_nodes ?at_Leaf_mirror ?i_Leaf_mirror ?l_Leaf_mirror ?c_Leaf_mirror ?k_Leaf_mirror ?at_Leaf__low_ends ?i_Leaf__low_ends ?l_Leaf__low_ends ?c_Leaf__low_ends ?k_Leaf__low_ends ?pg_Leaf ?hd_Leaf ?po_Leaf ?sa_Leaf ?mk_Leaf ?kc_Leaf ?ca_Leaf ?mo_Leaf ?ne_Leaf ?n_Leaf_name ?at_Group_init ?i_Group_init ?l_Group_init ?c_Group_init ?k_Group_init ?at_Group_ranks ?gt_Group_ranks ?tk_Group_ranks ?rc_Group_ranks ?l_Group_ranks ?c_Group_ranks ?k_Group_ranks ?at_Group_parts ?gt_Group_parts ?tk_Group_parts ?rc_Group_parts ?l_Group_parts ?c_Group_parts ?k_Group_parts ?at_Group_intake ?gt_Group_intake ?tk_Group_intake ?rc_Group_intake ?l_Group_intake ?c_Group_intake ?k_Group_intake ?at_Group_width ?gt_Group_width ?tk_Group_width ?rc_Group_width ?l_Group_width ?c_Group_width ?k_Group_width ?at_Group_len ?i_Group_len ?l_Group_len ?c_Group_len ?k_Group_len ?at_Group_contains ?i_Group_contains ?l_Group_contains ?c_Group_contains ?k_Group_contains ?at_Group_eq ?i_Group_eq ?l_Group_eq ?c_Group_eq ?k_Group_eq ?at_Group_getitem ?i_Group_getitem ?l_Group_getitem ?c_Group_getitem ?k_Group_getitem ?at_Group_iter ?i_Group_iter ?l_Group_iter ?c_Group_iter ?k_Group_iter ?at_Group_names ?i_Group_names ?l_Group_names ?c_Group_names ?k_Group_names ?at_Group_passes ?i_Group_passes ?l_Group_passes ?c_Group_passes ?k_Group_passes ?at_Group_nodes ?i_Group_nodes ?l_Group_nodes ?c_Group_nodes ?k_Group_nodes ?at_Group_mirror ?i_Group_mirror ?l_Group_mirror ?c_Group_mirror ?k_Group_mirror ?at_Group__low_ends ?i_Group__low_ends ?l_Group__low_ends ?c_Group__low_ends ?k_Group__low_ends ?pg_Group ?hd_Group ?po_Group ?sa_Group ?mk_Group ?kc_Group ?ca_Group ?mo_Group ?ne_Group ?n_Group_intake ?n_Group_names ?n_Group_parts ?n_Group_ranks ?gc ?tc ?q_Group ?ic_Leaf ?it_Leaf ?ic_Group ?it_Group ?dx_Leaf_Group ?is_Leaf_Group ?is_Leaf_list ?is_Leaf_int ?is_Leaf_bool ?is_Leaf_str ?dx_Group_Leaf ?is_Group_Leaf ?is_Group_list ?is_Group_int ?is_Group_bool ?is_Group_str ?g_is_whole ?l_is_whole ?c_is_whole ?k_is_whole ?g_is_name ?l_is_name ?c_is_name ?k_is_name ?g_are_names ?l_are_names ?c_are_names ?k_are_names ?g_is_tree ?l_is_tree ?c_is_tree ?k_is_tree ?g_is_end ?l_is_end ?c_is_end ?k_is_end ?g_check_end ?l_check_end ?c_check_end ?k_check_end ?g_are_parts ?l_are_parts ?c_are_parts ?k_are_parts ?g_are_ranks ?l_are_ranks ?c_are_ranks ?k_are_ranks ?g_intake_of ?l_intake_of ?c_intake_of ?k_intake_of ?g_names_of ?l_names_of ?c_names_of ?k_names_of ?g_are_leaves ?l_are_leaves ?c_are_leaves ?k_are_leaves ?g_least_rank ?l_least_rank ?c_least_rank ?k_least_rank ?dl_least_rank ?g_greatest_rank ?l_greatest_rank ?c_greatest_rank ?k_greatest_rank ?dl_greatest_rank ?g_low_names ?l_low_names ?c_low_names ?k_low_names ?dl_low_names ?g_high_names ?l_high_names ?c_high_names ?k_high_names ?dl_high_names ?g_fewest ?l_fewest ?c_fewest ?k_fewest ?g_sums_by_place ?l_sums_by_place ?c_sums_by_place ?k_sums_by_place ?g_rank_span ?l_rank_span ?c_rank_span ?k_rank_span ?dl_rank_span ?g_order_at ?l_order_at ?c_order_at ?k_order_at ?dl_order_at ?g_up_to_turn ?l_up_to_turn ?c_up_to_turn ?k_up_to_turn ?g_law_well ?l_law_well ?c_law_well ?k_law_well ?g_law_dip ?l_law_dip ?c_law_dip ?k_law_dip ?g_law_words ?l_law_words ?c_law_words ?k_law_words ?g_law_ranks ?l_law_ranks ?c_law_ranks ?k_law_ranks ?g_law_width ?l_law_width ?c_law_width ?k_law_width ?g_law_group ?l_law_group ?c_law_group ?k_law_group ?g_law_tree ?l_law_tree ?c_law_tree ?k_law_tree ?g_law_made ?l_law_made ?c_law_made ?k_law_made ?g_law_ends ?l_law_ends ?c_law_ends ?k_law_ends ?g_law_right ?l_law_right ?c_law_right ?k_law_right ?g_law ?l_law ?c_law ?k_law
    (case z_len => k_is)
    (case z_int => k_is)
    (case z_range => k_is)
    (case z_sum => k_is)
    (case z_all => k_is)
    (case z_isinstance => k_is)
    (case z_sorted => k_is)
    (case z_list => k_is)
    (case z_set => k_is)
    (case z_zip => k_is)
    (case z_bool => k_is)
    (case z_str => k_is)
    (case z_min => k_is)
    (case z_enumerate => k_is)
    (case z_TypeError => k_is)
    (case z_ValueError => k_is)
    (case g_RankError => k_is)
    (case g_InvalidName => k_is)
    (case g_InvalidNumber => k_is)
    (case g_InvalidTree => k_is)
    (case g_InvalidList => k_is)
    (case g_Tree => k_is)
    (case g_Leaf => k_is)
    (case g_Group => k_is)
    (case at_Leaf_init => k_is)
    (case i_Leaf_init => k_is)
    (case l_Leaf_init => k_is)
    (case c_Leaf_init => k_is)
    (case k_Leaf_init => k_is)
    (case at_Leaf_name => k_is)
    (case gt_Leaf_name => k_is)
    (case tk_Leaf_name => k_is)
    (case rc_Leaf_name => k_is)
    (case l_Leaf_name => k_is)
    (case c_Leaf_name => k_is)
    (case k_Leaf_name => k_is)
    (case at_Leaf_width => k_is)
    (case gt_Leaf_width => k_is)
    (case tk_Leaf_width => k_is)
    (case rc_Leaf_width => k_is)
    (case l_Leaf_width => k_is)
    (case c_Leaf_width => k_is)
    (case k_Leaf_width => k_is)
    (case at_Leaf_len => k_is)
    (case i_Leaf_len => k_is)
    (case l_Leaf_len => k_is)
    (case c_Leaf_len => k_is)
    (case k_Leaf_len => k_is)
    (case at_Leaf_contains => k_is)
    (case i_Leaf_contains => k_is)
    (case l_Leaf_contains => k_is)
    (case c_Leaf_contains => k_is)
    (case k_Leaf_contains => k_is)
    (case at_Leaf_eq => k_is)
    (case i_Leaf_eq => k_is)
    (case l_Leaf_eq => k_is)
    (case c_Leaf_eq => k_is)
    (case k_Leaf_eq => k_is)
    (case at_Leaf_names => k_is)
    (case i_Leaf_names => k_is)
    (case l_Leaf_names => k_is)
    (case c_Leaf_names => k_is)
    (case k_Leaf_names => k_is)
    (case at_Leaf_passes => k_is)
    (case i_Leaf_passes => k_is)
    (case l_Leaf_passes => k_is)
    (case c_Leaf_passes => k_is)
    (case k_Leaf_passes => k_is)
    (case at_Leaf_nodes => k_is)
    (case i_Leaf_nodes => k_is)
    (case l_Leaf_nodes => k_is)
    (case c_Leaf_nodes => k_is)
    (case k_Leaf_nodes => k_is)
    (case at_Leaf_mirror => k_is)
    (case i_Leaf_mirror => k_is)
    (case l_Leaf_mirror => k_is)
    (case c_Leaf_mirror => k_is)
    (case k_Leaf_mirror => k_is)
    (case at_Leaf__low_ends => k_is)
    (case i_Leaf__low_ends => k_is)
    (case l_Leaf__low_ends => k_is)
    (case c_Leaf__low_ends => k_is)
    (case k_Leaf__low_ends => k_is)
    (case pg_Leaf => k_is)
    (case hd_Leaf => k_is)
    (case po_Leaf => k_is)
    (case sa_Leaf => k_is)
    (case mk_Leaf => k_is)
    (case kc_Leaf => k_is)
    (case ca_Leaf => k_is)
    (case mo_Leaf => k_is)
    (case ne_Leaf => k_is)
    (case n_Leaf_name => k_is)
    (case at_Group_init => k_is)
    (case i_Group_init => k_is)
    (case l_Group_init => k_is)
    (case c_Group_init => k_is)
    (case k_Group_init => k_is)
    (case at_Group_ranks => k_is)
    (case gt_Group_ranks => k_is)
    (case tk_Group_ranks => k_is)
    (case rc_Group_ranks => k_is)
    (case l_Group_ranks => k_is)
    (case c_Group_ranks => k_is)
    (case k_Group_ranks => k_is)
    (case at_Group_parts => k_is)
    (case gt_Group_parts => k_is)
    (case tk_Group_parts => k_is)
    (case rc_Group_parts => k_is)
    (case l_Group_parts => k_is)
    (case c_Group_parts => k_is)
    (case k_Group_parts => k_is)
    (case at_Group_intake => k_is)
    (case gt_Group_intake => k_is)
    (case tk_Group_intake => k_is)
    (case rc_Group_intake => k_is)
    (case l_Group_intake => k_is)
    (case c_Group_intake => k_is)
    (case k_Group_intake => k_is)
    (case at_Group_width => k_is)
    (case gt_Group_width => k_is)
    (case tk_Group_width => k_is)
    (case rc_Group_width => k_is)
    (case l_Group_width => k_is)
    (case c_Group_width => k_is)
    (case k_Group_width => k_is)
    (case at_Group_len => k_is)
    (case i_Group_len => k_is)
    (case l_Group_len => k_is)
    (case c_Group_len => k_is)
    (case k_Group_len => k_is)
    (case at_Group_contains => k_is)
    (case i_Group_contains => k_is)
    (case l_Group_contains => k_is)
    (case c_Group_contains => k_is)
    (case k_Group_contains => k_is)
    (case at_Group_eq => k_is)
    (case i_Group_eq => k_is)
    (case l_Group_eq => k_is)
    (case c_Group_eq => k_is)
    (case k_Group_eq => k_is)
    (case at_Group_getitem => k_is)
    (case i_Group_getitem => k_is)
    (case l_Group_getitem => k_is)
    (case c_Group_getitem => k_is)
    (case k_Group_getitem => k_is)
    (case at_Group_iter => k_is)
    (case i_Group_iter => k_is)
    (case l_Group_iter => k_is)
    (case c_Group_iter => k_is)
    (case k_Group_iter => k_is)
    (case at_Group_names => k_is)
    (case i_Group_names => k_is)
    (case l_Group_names => k_is)
    (case c_Group_names => k_is)
    (case k_Group_names => k_is)
    (case at_Group_passes => k_is)
    (case i_Group_passes => k_is)
    (case l_Group_passes => k_is)
    (case c_Group_passes => k_is)
    (case k_Group_passes => k_is)
    (case at_Group_nodes => k_is)
    (case i_Group_nodes => k_is)
    (case l_Group_nodes => k_is)
    (case c_Group_nodes => k_is)
    (case k_Group_nodes => k_is)
    (case at_Group_mirror => k_is)
    (case i_Group_mirror => k_is)
    (case l_Group_mirror => k_is)
    (case c_Group_mirror => k_is)
    (case k_Group_mirror => k_is)
    (case at_Group__low_ends => k_is)
    (case i_Group__low_ends => k_is)
    (case l_Group__low_ends => k_is)
    (case c_Group__low_ends => k_is)
    (case k_Group__low_ends => k_is)
    (case pg_Group => k_is)
    (case hd_Group => k_is)
    (case po_Group => k_is)
    (case sa_Group => k_is)
    (case mk_Group => k_is)
    (case kc_Group => k_is)
    (case ca_Group => k_is)
    (case mo_Group => k_is)
    (case ne_Group => k_is)
    (case n_Group_intake => k_is)
    (case n_Group_names => k_is)
    (case n_Group_parts => k_is)
    (case n_Group_ranks => k_is)
    (case gc => k_is)
    (case tc => k_is)
    (case q_Group => k_is)
    (case ic_Leaf => k_is)
    (case it_Leaf => k_is)
    (case ic_Group => k_is)
    (case it_Group => k_is)
    (case dx_Leaf_Group => decide)
    (case is_Leaf_Group => k_is)
    (case is_Leaf_list => k_is)
    (case is_Leaf_int => k_is)
    (case is_Leaf_bool => k_is)
    (case is_Leaf_str => k_is)
    (case dx_Group_Leaf => decide)
    (case is_Group_Leaf => k_is)
    (case is_Group_list => k_is)
    (case is_Group_int => k_is)
    (case is_Group_bool => k_is)
    (case is_Group_str => k_is)
    (case g_is_whole => k_is)
    (case l_is_whole => k_is)
    (case c_is_whole => k_is)
    (case k_is_whole => k_is)
    (case g_is_name => k_is)
    (case l_is_name => k_is)
    (case c_is_name => k_is)
    (case k_is_name => k_is)
    (case g_are_names => k_is)
    (case l_are_names => k_is)
    (case c_are_names => k_is)
    (case k_are_names => k_is)
    (case g_is_tree => k_is)
    (case l_is_tree => k_is)
    (case c_is_tree => k_is)
    (case k_is_tree => k_is)
    (case g_is_end => k_is)
    (case l_is_end => k_is)
    (case c_is_end => k_is)
    (case k_is_end => k_is)
    (case g_check_end => k_is)
    (case l_check_end => k_is)
    (case c_check_end => k_is)
    (case k_check_end => k_is)
    (case g_are_parts => k_is)
    (case l_are_parts => k_is)
    (case c_are_parts => k_is)
    (case k_are_parts => k_is)
    (case g_are_ranks => k_is)
    (case l_are_ranks => k_is)
    (case c_are_ranks => k_is)
    (case k_are_ranks => k_is)
    (case g_intake_of => k_is)
    (case l_intake_of => k_is)
    (case c_intake_of => k_is)
    (case k_intake_of => k_is)
    (case g_names_of => k_is)
    (case l_names_of => k_is)
    (case c_names_of => k_is)
    (case k_names_of => k_is)
    (case g_are_leaves => k_is)
    (case l_are_leaves => k_is)
    (case c_are_leaves => k_is)
    (case k_are_leaves => k_is)
    (case g_least_rank => k_is)
    (case l_least_rank => k_is)
    (case c_least_rank => k_is)
    (case k_least_rank => k_is)
    (case dl_least_rank => k_is)
    (case g_greatest_rank => k_is)
    (case l_greatest_rank => k_is)
    (case c_greatest_rank => k_is)
    (case k_greatest_rank => k_is)
    (case dl_greatest_rank => k_is)
    (case g_low_names => k_is)
    (case l_low_names => k_is)
    (case c_low_names => k_is)
    (case k_low_names => k_is)
    (case dl_low_names => k_is)
    (case g_high_names => k_is)
    (case l_high_names => k_is)
    (case c_high_names => k_is)
    (case k_high_names => k_is)
    (case dl_high_names => k_is)
    (case g_fewest => k_is)
    (case l_fewest => k_is)
    (case c_fewest => k_is)
    (case k_fewest => k_is)
    (case g_sums_by_place => k_is)
    (case l_sums_by_place => k_is)
    (case c_sums_by_place => k_is)
    (case k_sums_by_place => k_is)
    (case g_rank_span => k_is)
    (case l_rank_span => k_is)
    (case c_rank_span => k_is)
    (case k_rank_span => k_is)
    (case dl_rank_span => k_is)
    (case g_order_at => k_is)
    (case l_order_at => k_is)
    (case c_order_at => k_is)
    (case k_order_at => k_is)
    (case dl_order_at => k_is)
    (case g_up_to_turn => k_is)
    (case l_up_to_turn => k_is)
    (case c_up_to_turn => k_is)
    (case k_up_to_turn => k_is)
    (case g_law_well => k_is)
    (case l_law_well => k_is)
    (case c_law_well => k_is)
    (case k_law_well => k_is)
    (case g_law_dip => k_is)
    (case l_law_dip => k_is)
    (case c_law_dip => k_is)
    (case k_law_dip => k_is)
    (case g_law_words => k_is)
    (case l_law_words => k_is)
    (case c_law_words => k_is)
    (case k_law_words => k_is)
    (case g_law_ranks => k_is)
    (case l_law_ranks => k_is)
    (case c_law_ranks => k_is)
    (case k_law_ranks => k_is)
    (case g_law_width => k_is)
    (case l_law_width => k_is)
    (case c_law_width => k_is)
    (case k_law_width => k_is)
    (case g_law_group => k_is)
    (case l_law_group => k_is)
    (case c_law_group => k_is)
    (case k_law_group => k_is)
    (case g_law_tree => k_is)
    (case l_law_tree => k_is)
    (case c_law_tree => k_is)
    (case k_law_tree => k_is)
    (case g_law_made => k_is)
    (case l_law_made => k_is)
    (case c_law_made => k_is)
    (case k_law_made => k_is)
    (case g_law_ends => k_is)
    (case l_law_ends => k_is)
    (case c_law_ends => k_is)
    (case k_law_ends => k_is)
    (case g_law_right => k_is)
    (case l_law_right => k_is)
    (case c_law_right => k_is)
    (case k_law_right => k_is)
    (case g_law => k_is)
    (case l_law => k_is)
    (case c_law => k_is)
    (case k_law => k_is)
